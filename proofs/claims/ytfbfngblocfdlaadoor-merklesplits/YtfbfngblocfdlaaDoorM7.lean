/- awake. MerkleSplits. What the rows of this seat share: what the listed variable gives a walk, an array of bytes opened, the start that fits. A slice of bytes that came in, opened. A slice of hashes that came in, opened. Signatures and structs with them that came in, opened. Arguments opened: numbers with their bounds, slices of hashes with their room. -/
import Derived.Test.YtfbfngblocfdlaaDoorM6
import Derived.Test.YtfbfngblocfdlaaDoorRows
import Derived.Test.YtfbfngblocfdlaaDoorM2
import Derived.ProofKit
import Derived.LaidMore
import Derived.OpenShut
import Derived.ShutString
import Derived.ChangeOld
import Derived.Lib.LaidTab
import Derived.SevenTiedAt
import Derived.Test.YtfbfngblocfdlaaDoorM3
import Derived.Deep.Slices
import Derived.Deep.Strs
import Derived.Test.YtfbfngblocfdlaaDoorM5
namespace Go.Proofs.YtfbfngblocfdlaaDoor
set_option maxRecDepth 100000
open Go.RowKit
/-- A hash that begins with a byte, all others noughts. -/
def h1 (n : Nat) : List (BitVec 8) := BitVec.ofNat 8 n :: List.replicate 31 0
theorem h1_len (n : Nat) : (h1 n).length = 32 := rfl
theorem spl_3 : spl 3 = 2 := spl_one (j := 1) (by decide) (by decide)
theorem spl_2 : spl 2 = 1 := spl_one (j := 0) (by decide) (by decide)
theorem mroot_ab (a b : List (BitVec 8)) : mroot [a, b] = nd a b := by
  rw [mroot_two (by simp), show [a, b].length = 2 from rfl, spl_2, show [a, b].take 1 = [a] from rfl, show [a, b].drop 1 = [b] from rfl, mroot_one, mroot_one]
theorem mroot_abc (a b c : List (BitVec 8)) : mroot [a, b, c] = nd (nd a b) c := by
  rw [mroot_two (by simp), show [a, b, c].length = 3 from rfl, spl_3, show [a, b, c].take 2 = [a, b] from rfl, show [a, b, c].drop 2 = [c] from rfl, mroot_one, mroot_ab]
theorem mpath_abc (a b c : List (BitVec 8)) : mpath [a, b, c] 2 = [nd a b] := by
  rw [mpath_right (l := [a, b, c]) (by simp) (by rw [show [a, b, c].length = 3 from rfl, spl_3]; omega), show [a, b, c].length = 3 from rfl, spl_3, show [a, b, c].take 2 = [a, b] from rfl, show [a, b, c].drop 2 = [c] from rfl, mroot_ab, mpath_one (by simp)]
  rfl
theorem fk_path {l : List (List (BitVec 8))} {i : Nat} (hi : i < l.length) (h1000 : l.length ≤ 1000) {w : World} {v : Value} (hv : (Fk.hc l).f v w) (hK : Tab w) {S : List (List (BitVec 8))} (hS : Box (mpath l i = S)) :
    Calls Tryd.prog 15 #[v, .int .i64 ((i : Nat) : Int)] w fun e w' => ∃ u, e = .returned u ∧ (Fk.t2 (.hs S) (.int .i64 0)).f u w' ∧ Below w.heap.size w w' := by
  refine (path_ok hi h1000 w hv hK).mono ?_
  rintro e w' ⟨u, rfl, ⟨p, e1, h1⟩, hb⟩
  rw [hS.out] at h1
  exact ⟨u, rfl, ⟨p, e1, ow_hs h1⟩, hb⟩
theorem b3_run (w : World) : (Instr.buildSlice 22 3 #[(0, .agg ((h1 1).map V).toArray), (1, .agg ((h1 2).map V).toArray), (2, .agg ((h1 3).map V).toArray)]).run Tryd.prog w = .ok (.slice (some ⟨w.heap.size, 0, none⟩) 3 3) (w.alloc (.cells ((h1 1 ++ h1 2 ++ h1 3).map V).toArray 24)) := by kernel_rfl
theorem b3_at : ∀ (i : Fin 3) (j : Fin 32), (h1 1 ++ h1 2 ++ h1 3)[i.val * 32 + j.val]? = some ((h1 (i.val + 1)).getD j.val 0) := by decide
theorem st_b3 {Q : Exit → Act → World → Prop} {o : Oper} {a : Act} {w : World} (x y z : Operand) (ho : o.op = .buildSlice 22 3 #[(0, x), (1, y), (2, z)]) (hx : a.eval x = .agg ((h1 1).map V).toArray) (hy : a.eval y = .agg ((h1 2).map V).toArray) (hz : a.eval z = .agg ((h1 3).map V).toArray) : o.wp Tryd.prog a w (Ends a o.dst w (Fk.hc [h1 1, h1 2, h1 3]).f) Q := by
  refine st_run (v := .slice (some ⟨w.heap.size, 0, none⟩) 3 3) (w' := w.alloc (.cells ((h1 1 ++ h1 2 ++ h1 3).map V).toArray 24)) ?_ ((Below.refl _ _).alloc (Nat.le_refl _) _) ⟨_, 3, w.heap.size, 0, rfl, Nat.le_refl _, fun _ => rfl, fun _ => by simp, fun i x hi => ?_⟩
  · have := b3_run w
    unfold execOp
    rw [ho]
    simp [hx, hy, hz, this]
  · have hi3 : i < 3 := (List.getElem?_eq_some_iff.1 hi).1
    have hxe : x = h1 (i + 1) := by
      match i, hi3 with
      | 0, _ => simpa using hi.symm
      | 1, _ => simpa using hi.symm
      | 2, _ => simpa using hi.symm
    subst hxe
    refine ⟨h1_len _, fun j hj => ?_⟩
    rw [h1_len] at hj
    rw [World.cell?_alloc_mark, Nat.zero_add]
    have := b3_at ⟨i, hi3⟩ ⟨j, hj⟩
    simp only at this
    simp only [List.getElem?_toArray, List.getElem?_map, this, Option.map_some, V]
theorem awake_any (w : World) (hK : Tab w) :
    Calls Tryd.prog 10 #[] w fun e w' => e = .returned (.bool true) ∧ Below w.heap.size w w' := by
  obtain ⟨p, ep⟩ : ∃ p, Box (nd (h1 1) (h1 2) = p) := ⟨_, ⟨rfl⟩⟩
  have hp : p.length = 32 := by rw [← ep.out]; exact nd_len _ _
  obtain ⟨q, eq⟩ : ∃ q, Box (nd p (h1 3) = q) := ⟨_, ⟨rfl⟩⟩
  have hq : q.length = 32 := by rw [← eq.out]; exact nd_len _ _
  have eP : Box (mpath [h1 1, h1 2, h1 3] 2 = [p]) := ⟨by rw [mpath_abc, ep.out]⟩
  have eR : Box (mroot [h1 1, h1 2, h1 3] = q) := ⟨by rw [mroot_abc, ep.out, eq.out]⟩
  go_enter Tryd.func10, Tryd.ntmps10
  refine code_both (fun f w1 => f.tmps.size = 46 ∧ f.defers = [] ∧ Below w.heap.size w (w1)) ⟨rfl, rfl, Below.refl _ _⟩ ?_
  rintro f0 w0 ⟨sz, df, bl⟩
  have bl0 := bl
  refine wp_seq ?_
  -- R0
  refine wp_all_seq [.eq (.bool false)] (by kernel_rfl) (by kernel_rfl) (by rw [sz]; kernel_rfl) (by kernel_rfl) ⟨fun hw ac u K => ?_, trivial⟩ ?_
  · exact st_assign (.const (.bool false)) rfl rfl
  intro f1 w1 A hb
  replace bl0 := bl
  have x0 : f1.eval (.tmp 0) = .bool false := A.has 0 0 rfl
  replace bl := (bl.trans (Below.mono hb bl.size))
  replace sz := A.size.trans sz
  replace df := A.defs.trans df
  clear A hb
  show Code.wp _ _ _ _ _
  refine wp_seq ?_
  -- R1
  refine wp_region_seq [.eq (.agg ((h1 1).map V).toArray), .eq (.agg ((h1 2).map V).toArray), .eq (.agg ((h1 3).map V).toArray)] (by kernel_rfl) (by kernel_rfl) (by rw [sz]; kernel_rfl) (by kernel_rfl) ⟨fun hw ac u K => ?_, fun hw ac u K => ?_, fun hw ac u K => ?_, trivial⟩ ?_
  · exact st_build 24 _ rfl (by kernel_rfl)
  · exact st_build 24 _ rfl (by kernel_rfl)
  · exact st_build 24 _ rfl (by kernel_rfl)
  intro f2 w2 A hb
  replace bl0 := bl
  replace x0 := (A.old 0 rfl).trans x0
  have x6 : f2.eval (.tmp 6) = .agg ((h1 1).map V).toArray := A.has 0 6 rfl
  have x7 : f2.eval (.tmp 7) = .agg ((h1 2).map V).toArray := A.has 1 7 rfl
  have x8 : f2.eval (.tmp 8) = .agg ((h1 3).map V).toArray := A.has 2 8 rfl
  replace bl := (bl.trans (Below.mono hb bl.size))
  replace sz := A.size.trans sz
  replace df := A.defs.trans df
  clear A hb
  refine wl_one (.nw w2.heap.size 24 ((hz).map V)) rfl 1 rfl (by rw [sz]; decide) (st_alloc24 rfl _ (Nat.le_refl _)) ?_
  intro f3 w3 df2 sz2 old2 new2 hb
  replace bl0 := bl
  replace x0 := (old2 0 rfl).trans x0
  replace x6 := (old2 6 rfl).trans x6
  replace x7 := (old2 7 rfl).trans x7
  replace x8 := (old2 8 rfl).trans x8
  have x1 : Fk.f (.nw w2.heap.size 24 ((hz).map V)) (f3.eval (.tmp 1)) w3 := new2
  replace bl := (bl.trans (Below.mono hb bl.size))
  replace sz := sz2.trans sz
  replace df := df2.trans df
  clear df2 sz2 old2 new2 hb
  obtain ⟨g1, hg1, e1, m1⟩ := x1
  have x1 := e1
  clear e1
  have hw1 : w.heap.size ≤ g1 := Nat.le_trans bl0.size hg1
  refine wl_one (.nw w3.heap.size 24 ((hz).map V)) rfl 2 rfl (by rw [sz]; decide) (st_alloc24 rfl _ (Nat.le_refl _)) ?_
  intro f4 w4 df2 sz2 old2 new2 hb
  replace bl0 := bl
  replace x0 := (old2 0 rfl).trans x0
  replace x6 := (old2 6 rfl).trans x6
  replace x7 := (old2 7 rfl).trans x7
  replace x8 := (old2 8 rfl).trans x8
  replace x1 := (old2 1 rfl).trans x1
  have x2 : Fk.f (.nw w3.heap.size 24 ((hz).map V)) (f4.eval (.tmp 2)) w4 := new2
  have lt_m1 := Ob.lt m1
  replace m1 := Ob.below m1 hb
  replace bl := (bl.trans (Below.mono hb bl.size))
  replace sz := sz2.trans sz
  replace df := df2.trans df
  clear df2 sz2 old2 new2 hb
  obtain ⟨g2, hg2, e2, m2⟩ := x2
  have x2 := e2
  clear e2
  have nm1_2 : g1 ≠ g2 := Nat.ne_of_lt (Nat.lt_of_lt_of_le lt_m1 hg2)
  have hw2 : w.heap.size ≤ g2 := Nat.le_trans bl0.size hg2
  refine wl_one (.nw w4.heap.size 24 ((hz).map V)) rfl 3 rfl (by rw [sz]; decide) (st_alloc24 rfl _ (Nat.le_refl _)) ?_
  intro f5 w5 df2 sz2 old2 new2 hb
  replace bl0 := bl
  replace x0 := (old2 0 rfl).trans x0
  replace x6 := (old2 6 rfl).trans x6
  replace x7 := (old2 7 rfl).trans x7
  replace x8 := (old2 8 rfl).trans x8
  replace x1 := (old2 1 rfl).trans x1
  replace x2 := (old2 2 rfl).trans x2
  have x3 : Fk.f (.nw w4.heap.size 24 ((hz).map V)) (f5.eval (.tmp 3)) w5 := new2
  have lt_m1 := Ob.lt m1
  replace m1 := Ob.below m1 hb
  have lt_m2 := Ob.lt m2
  replace m2 := Ob.below m2 hb
  replace bl := (bl.trans (Below.mono hb bl.size))
  replace sz := sz2.trans sz
  replace df := df2.trans df
  clear df2 sz2 old2 new2 hb
  obtain ⟨g3, hg3, e3, m3⟩ := x3
  have x3 := e3
  clear e3
  have nm1_3 : g1 ≠ g3 := Nat.ne_of_lt (Nat.lt_of_lt_of_le lt_m1 hg3)
  have nm2_3 : g2 ≠ g3 := Nat.ne_of_lt (Nat.lt_of_lt_of_le lt_m2 hg3)
  have hw3 : w.heap.size ≤ g3 := Nat.le_trans bl0.size hg3
  refine wl_store rfl (.tmp 1) (.tmp 6) rfl rfl (g1) (h1 1) (hz) x1 x6 m1 hz_len (h1_len 1) ?_
  replace m1 : Ob (w5.setRow g1 ((h1 1).map V : List Value).toArray) (g1) 24 ((h1 1).map V) := Ob.setRow m1 ((h1 1).map V)
  replace m2 : Ob (w5.setRow g1 ((h1 1).map V : List Value).toArray) (g2) 24 ((hz).map V) := Ob.setRow_other m2 _ nm1_2.symm
  replace m3 : Ob (w5.setRow g1 ((h1 1).map V : List Value).toArray) (g3) 24 ((hz).map V) := Ob.setRow_other m3 _ nm1_3.symm
  replace bl : Below w.heap.size w (w5.setRow g1 ((h1 1).map V : List Value).toArray) := bl.trans (below_setRow _ _ _ _ hw1)
  generalize w5.setRow g1 ((h1 1).map V : List Value).toArray = w6b at bl m1 m2 m3 ⊢
  clear x6
  refine wl_store rfl (.tmp 2) (.tmp 7) rfl rfl (g2) (h1 2) (hz) x2 x7 m2 hz_len (h1_len 2) ?_
  replace m1 : Ob (w6b.setRow g2 ((h1 2).map V : List Value).toArray) (g1) 24 ((h1 1).map V) := Ob.setRow_other m1 _ nm1_2
  replace m2 : Ob (w6b.setRow g2 ((h1 2).map V : List Value).toArray) (g2) 24 ((h1 2).map V) := Ob.setRow m2 ((h1 2).map V)
  replace m3 : Ob (w6b.setRow g2 ((h1 2).map V : List Value).toArray) (g3) 24 ((hz).map V) := Ob.setRow_other m3 _ nm2_3.symm
  replace bl : Below w.heap.size w (w6b.setRow g2 ((h1 2).map V : List Value).toArray) := bl.trans (below_setRow _ _ _ _ hw2)
  generalize w6b.setRow g2 ((h1 2).map V : List Value).toArray = w7b at bl m1 m2 m3 ⊢
  clear x7
  refine wl_store rfl (.tmp 3) (.tmp 8) rfl rfl (g3) (h1 3) (hz) x3 x8 m3 hz_len (h1_len 3) ?_
  replace m1 : Ob (w7b.setRow g3 ((h1 3).map V : List Value).toArray) (g1) 24 ((h1 1).map V) := Ob.setRow_other m1 _ nm1_3
  replace m2 : Ob (w7b.setRow g3 ((h1 3).map V : List Value).toArray) (g2) 24 ((h1 2).map V) := Ob.setRow_other m2 _ nm2_3
  replace m3 : Ob (w7b.setRow g3 ((h1 3).map V : List Value).toArray) (g3) 24 ((h1 3).map V) := Ob.setRow m3 ((h1 3).map V)
  replace bl : Below w.heap.size w (w7b.setRow g3 ((h1 3).map V : List Value).toArray) := bl.trans (below_setRow _ _ _ _ hw3)
  generalize w7b.setRow g3 ((h1 3).map V : List Value).toArray = w8b at bl m1 m2 m3 ⊢
  refine wpList_nil ?_
  clear x8
  show Code.wp _ _ _ _ _
  refine wp_seq ?_
  -- R2
  refine wp_all_seq [.eq (.agg ((h1 1).map V).toArray), .eq (.agg ((h1 2).map V).toArray), .eq (.agg ((h1 3).map V).toArray), .hc ([h1 1, h1 2, h1 3]), .t2 (.hs ([p])) (.int .i64 0), .t2 (.hs ([p])) (.int .i64 0), .hs ([p]), .eq (.int .i64 0), .hs ([p]), .eq (.int .i64 0)] (by kernel_rfl) (by kernel_rfl) (by rw [sz]; kernel_rfl) (by kernel_rfl) ⟨fun hw ac u K => ?_, fun hw ac u K => ?_, fun hw ac u K => ?_, fun hw ac u K => ?_, fun hw ac u K => ?_, fun hw ac u K => ?_, fun hw ac u K => ?_, fun hw ac u K => ?_, fun hw ac u K => ?_, fun hw ac u K => ?_, trivial⟩ ?_
  · exact st_load24 (.tmp 1) rfl (g1) (h1 1) ((K.old 1 rfl).trans x1) (h1_len 1) (Ob.below m1 K.grow)
  · exact st_load24 (.tmp 2) rfl (g2) (h1 2) ((K.old 2 rfl).trans x2) (h1_len 2) (Ob.below m2 K.grow)
  · exact st_load24 (.tmp 3) rfl (g3) (h1 3) ((K.old 3 rfl).trans x3) (h1_len 3) (Ob.below m3 K.grow)
  · exact st_b3 (.tmp 10) (.tmp 11) (.tmp 12) rfl (K.dep 0 10 rfl) (K.dep 1 11 rfl) (K.dep 2 12 rfl)
  · exact st_call 15 (.func 15) _ _ #[ac.eval (.tmp 13), .int .i64 2] rfl rfl (arg2 rfl rfl) Tryd.enter15 (fk_path (i := 2) (by simp) (by simp) (K.dep 3 13 rfl) (hK.below (bl.trans (Below.mono K.grow bl.size))) eP)
  · exact st_move (.tmp 14) rfl (K.dep 4 14 rfl)
  · exact st_t2a (.tmp 9) rfl (K.dep 5 9 rfl)
  · exact st_t2b (.tmp 9) rfl (K.dep 5 9 rfl)
  · exact st_assign (.tmp 15) rfl (K.dep 6 15 rfl)
  · exact st_assign (.tmp 16) rfl (K.dep 7 16 rfl)
  intro f9 w9 A hb
  replace bl0 := bl
  replace x0 := (A.old 0 rfl).trans x0
  replace x1 := (A.old 1 rfl).trans x1
  replace x2 := (A.old 2 rfl).trans x2
  replace x3 := (A.old 3 rfl).trans x3
  have x4 : Fk.f (.hs ([p])) (f9.eval (.tmp 4)) w9 := A.has 8 4 rfl
  have x5 : f9.eval (.tmp 5) = .int .i64 0 := A.has 9 5 rfl
  have lt_m1 := Ob.lt m1
  replace m1 := Ob.below m1 hb
  have lt_m2 := Ob.lt m2
  replace m2 := Ob.below m2 hb
  have lt_m3 := Ob.lt m3
  replace m3 := Ob.below m3 hb
  replace bl := (bl.trans (Below.mono hb bl.size))
  replace sz := A.size.trans sz
  replace df := A.defs.trans df
  clear A hb
  show Code.wp _ _ _ _ _
  refine wp_seq ?_
  -- R3
  refine wp_all [.eq (.int .i64 0), .eq (.bool true), .eq (.bool true), .hs ([p]), .eq (.int .i64 ((([p]).length : Nat) : Int)), .eq (.bool true), .eq (.bool true), .eq (.bool true), .hs ([p]), .ph (p), .eq (.agg ((p).map V).toArray), .eq (.agg ((h1 1).map V).toArray), .eq (.agg ((h1 2).map V).toArray), .eq (.agg ((p).map V).toArray), .eq (.bool true), .eq (.bool true), .eq (.bool true), .eq (.agg ((h1 1).map V).toArray), .eq (.agg ((h1 2).map V).toArray), .eq (.agg ((h1 3).map V).toArray), .hc ([h1 1, h1 2, h1 3]), .eq (.agg ((q).map V).toArray), .hs ([p]), .ph (p), .eq (.agg ((p).map V).toArray), .eq (.agg ((h1 3).map V).toArray), .eq (.agg ((q).map V).toArray), .eq (.bool true), .eq (.bool true), .eq (.bool true)] Tryd.mixed (by kernel_rfl) (by kernel_rfl) (by rw [sz]; kernel_rfl) (by kernel_rfl) ⟨fun hw ac u K => ?_, fun hw ac u K => ?_, fun hw ac u K => ?_, fun hw ac u K => ?_, fun hw ac u K => ?_, fun hw ac u K => ?_, fun hw ac u K => ?_, fun hw ac u K => ?_, fun hw ac u K => ?_, fun hw ac u K => ?_, fun hw ac u K => ?_, fun hw ac u K => ?_, fun hw ac u K => ?_, fun hw ac u K => ?_, fun hw ac u K => ?_, fun hw ac u K => ?_, fun hw ac u K => ?_, fun hw ac u K => ?_, fun hw ac u K => ?_, fun hw ac u K => ?_, fun hw ac u K => ?_, fun hw ac u K => ?_, fun hw ac u K => ?_, fun hw ac u K => ?_, fun hw ac u K => ?_, fun hw ac u K => ?_, fun hw ac u K => ?_, fun hw ac u K => ?_, fun hw ac u K => ?_, fun hw ac u K => ?_, trivial⟩ ?_
  · exact st_move (.tmp 5) rfl ((K.old 5 rfl).trans x5)
  · exact st_eqi 38 (.tmp 17) (.const (.int .i64 0)) rfl .i64 (0) (0) (K.dep 0 17 rfl) rfl _ (by rfl)
  · exact st_move (.tmp 18) rfl (K.dep 1 18 rfl)
  · exact st_move (.tmp 4) rfl (f_at (K.old 4 rfl) (Fk.mono _ _ _ _ x4 K.grow))
  · exact st_lenh (.tmp 20) rfl (K.dep 3 20 rfl)
  · exact st_eqi 3 (.tmp 21) (.const (.int .i64 1)) rfl .i64 (((([p]).length : Nat) : Int)) (1) (K.dep 4 21 rfl) rfl _ (by simp)
  · exact st_pick_t (.tmp 19) (.tmp 22) (.const (.bool false)) rfl (K.dep 2 19 rfl) (K.dep 5 22 rfl)
  · exact st_move (.tmp 23) rfl (K.dep 6 23 rfl)
  · exact st_move (.tmp 4) rfl (f_at (K.old 4 rfl) (Fk.mono _ _ _ _ x4 K.grow))
  · exact st_idxh (.tmp 25) (.const (.int .i64 0)) rfl (K.dep 8 25 rfl) (0) (p) rfl rfl
  · exact st_loadh (.tmp 26) rfl (K.dep 9 26 rfl)
  · exact st_load24 (.tmp 1) rfl (g1) (h1 1) ((K.old 1 rfl).trans x1) (h1_len 1) (Ob.below m1 K.grow)
  · exact st_load24 (.tmp 2) rfl (g2) (h1 2) ((K.old 2 rfl).trans x2) (h1_len 2) (Ob.below m2 K.grow)
  · exact st_call 22 (.func 22) _ _ #[.agg ((h1 1).map V).toArray, .agg ((h1 2).map V).toArray] rfl rfl (arg2 (K.dep 11 28 rfl) (K.dep 12 29 rfl)) Tryd.enter22 (fk_node (h1_len 1) (h1_len 2) (hK.below (bl.trans (Below.mono K.grow bl.size))) ep)
  · exact st_eqh (.tmp 27) (.tmp 30) rfl (p) (p) hp hp (K.dep 10 27 rfl) (K.dep 13 30 rfl) _ (by simp)
  · exact st_pick_t (.tmp 24) (.tmp 31) (.const (.bool false)) rfl (K.dep 7 24 rfl) (K.dep 14 31 rfl)
  · exact st_move (.tmp 32) rfl (K.dep 15 32 rfl)
  · exact st_load24 (.tmp 1) rfl (g1) (h1 1) ((K.old 1 rfl).trans x1) (h1_len 1) (Ob.below m1 K.grow)
  · exact st_load24 (.tmp 2) rfl (g2) (h1 2) ((K.old 2 rfl).trans x2) (h1_len 2) (Ob.below m2 K.grow)
  · exact st_load24 (.tmp 3) rfl (g3) (h1 3) ((K.old 3 rfl).trans x3) (h1_len 3) (Ob.below m3 K.grow)
  · exact st_b3 (.tmp 34) (.tmp 35) (.tmp 36) rfl (K.dep 17 34 rfl) (K.dep 18 35 rfl) (K.dep 19 36 rfl)
  · exact st_call 8 (.func 8) _ _ #[ac.eval (.tmp 37)] rfl rfl (one_arg rfl) Tryd.enter8 (fk_of (root_any [h1 1, h1 2, h1 3] _ _ (by simp) (K.dep 20 37 rfl) (hK.below (bl.trans (Below.mono K.grow bl.size))) eR))
  · exact st_move (.tmp 4) rfl (f_at (K.old 4 rfl) (Fk.mono _ _ _ _ x4 K.grow))
  · exact st_idxh (.tmp 39) (.const (.int .i64 0)) rfl (K.dep 22 39 rfl) (0) (p) rfl rfl
  · exact st_loadh (.tmp 40) rfl (K.dep 23 40 rfl)
  · exact st_load24 (.tmp 3) rfl (g3) (h1 3) ((K.old 3 rfl).trans x3) (h1_len 3) (Ob.below m3 K.grow)
  · exact st_call 22 (.func 22) _ _ #[.agg ((p).map V).toArray, .agg ((h1 3).map V).toArray] rfl rfl (arg2 (K.dep 24 41 rfl) (K.dep 25 42 rfl)) Tryd.enter22 (fk_node hp (h1_len 3) (hK.below (bl.trans (Below.mono K.grow bl.size))) eq)
  · exact st_eqh (.tmp 38) (.tmp 43) rfl (q) (q) hq hq (K.dep 21 38 rfl) (K.dep 26 43 rfl) _ (by simp)
  · exact st_pick_t (.tmp 33) (.tmp 44) (.const (.bool false)) rfl (K.dep 16 33 rfl) (K.dep 27 44 rfl)
  · exact st_assign (.tmp 45) rfl (K.dep 28 45 rfl)
  intro f10 w10 A hb
  replace bl0 := bl
  clear x0
  replace x1 := (A.old 1 rfl).trans x1
  replace x2 := (A.old 2 rfl).trans x2
  replace x3 := (A.old 3 rfl).trans x3
  replace x4 := f_at (A.old 4 rfl) (Fk.mono _ _ _ _ x4 hb)
  replace x5 := (A.old 5 rfl).trans x5
  have x0 : f10.eval (.tmp 0) = .bool true := A.has 29 0 rfl
  have lt_m1 := Ob.lt m1
  replace m1 := Ob.below m1 hb
  have lt_m2 := Ob.lt m2
  replace m2 := Ob.below m2 hb
  have lt_m3 := Ob.lt m3
  replace m3 := Ob.below m3 hb
  replace bl := (bl.trans (Below.mono hb bl.size))
  replace sz := A.size.trans sz
  replace df := A.defs.trans df
  clear A hb
  clear x4
  clear x5
  show Code.wp _ _ _ _ _
  refine wp_ret ?_
  repeat (first | with_reducible refine then_ret ?_ | with_reducible refine block_ret ?_)
  exact bodyPost_ret (v := .bool true) (ret_slot rfl f10 _ x0 _ _) df ⟨rfl, bl⟩
end Go.Proofs.YtfbfngblocfdlaaDoor
namespace Go.Proofs.YtfbfngblocfdlaaDoor
set_option maxRecDepth 100000
open Go.RowKit
theorem splits_law (z : Int) (hz : z ≤ 9223372036854775807) (w : World) (hK : Tab w) :
    Calls Tryd.prog 4 #[.int .i64 z] w fun e w' => e = .returned (.bool true) ∧ Below w.heap.size w w' := by
  go_enter Tryd.func4, Tryd.ntmps4
  refine code_both (fun f w1 => f.tmps.size = 37 ∧ f.defers = [] ∧ f.eval (.tmp 0) = .int .i64 (z) ∧ Below w.heap.size w (w1)) ⟨rfl, rfl, rfl, Below.refl _ _⟩ ?_
  rintro f0 w0 ⟨sz, df, x0, bl⟩
  have bl0 := bl
  refine wp_seq ?_
  -- R0
  refine wp_all_seq [.eq (.bool false)] (by kernel_rfl) (by kernel_rfl) (by rw [sz]; kernel_rfl) (by kernel_rfl) ⟨fun hw ac u K => ?_, trivial⟩ ?_
  · exact st_assign (.const (.bool false)) rfl rfl
  intro f1 w1 A hb
  replace bl0 := bl
  replace x0 := (A.old 0 rfl).trans x0
  have x2 : f1.eval (.tmp 2) = .bool false := A.has 0 2 rfl
  replace bl := (bl.trans (Below.mono hb bl.size))
  replace sz := A.size.trans sz
  replace df := A.defs.trans df
  clear A hb
  show Code.wp _ _ _ _ _
  refine wp_seq ?_
  by_cases h2 : z < 2
  rotate_left
  · skip
    obtain ⟨n, rfl⟩ := Int.eq_ofNat_of_zero_le (show 0 ≤ z by omega)
    have hn2 : 2 ≤ n := by omega
    have hn3 : n ≤ 9223372036854775807 := by omega
    have hj := log_le hn2 hn3
    have hs := fun w => split_hi n hn2 hn3 w
    have hlt := spl_lt hn2
    have hge := spl_ge hn2
    unfold spl at hs hlt hge
    generalize Nat.log2 (n - 1) = j at hs hlt hge hj
    have hp1 : 1 ≤ 2 ^ j := Nat.one_le_two_pow
    -- R1
    refine wp_all_seq [.eq (.int .i64 ((n : Nat) : Int)), .eq (.int .i64 ((2 ^ j : Nat) : Int)), .eq (.int .i64 ((2 ^ j : Nat) : Int))] (by kernel_rfl) (by kernel_rfl) (by rw [sz]; kernel_rfl) (by kernel_rfl) ⟨fun hw ac u K => ?_, fun hw ac u K => ?_, fun hw ac u K => ?_, trivial⟩ ?_
    · exact st_move (.tmp 0) rfl ((K.old 0 rfl).trans x0)
    · exact st_call 12 (.func 12) _ _ #[.int .i64 ((n : Nat) : Int)] rfl rfl (one_arg (K.dep 0 4 rfl)) Tryd.enter12 (fk_of (hs _))
    · exact st_assign (.tmp 5) rfl (K.dep 1 5 rfl)
    intro f2 w2 A hb
    replace bl0 := bl
    replace x0 := (A.old 0 rfl).trans x0
    replace x2 := (A.old 2 rfl).trans x2
    have x3 : f2.eval (.tmp 3) = .int .i64 ((2 ^ j : Nat) : Int) := A.has 2 3 rfl
    replace bl := (bl.trans (Below.mono hb bl.size))
    replace sz := A.size.trans sz
    replace df := A.defs.trans df
    clear A hb
    show Code.wp _ _ _ _ _
    refine wp_seq ?_
    refine wp_seq ?_
    -- R2
    refine wp_all_seq [.eq (.int .i64 ((n : Nat) : Int)), .eq (.bool false)] (by kernel_rfl) (by kernel_rfl) (by rw [sz]; kernel_rfl) (by kernel_rfl) ⟨fun hw ac u K => ?_, fun hw ac u K => ?_, trivial⟩ ?_
    · exact st_move (.tmp 0) rfl ((K.old 0 rfl).trans x0)
    · exact st_lss 3 (.tmp 6) (.const (.int .i64 2)) rfl .i64 (((n : Nat) : Int)) (2) (K.dep 0 6 rfl) rfl _ (by rw [eq_comm, decide_eq_false_iff_not]; omega)
    intro f3 w3 A hb
    replace bl0 := bl
    replace x0 := (A.old 0 rfl).trans x0
    replace x2 := (A.old 2 rfl).trans x2
    replace x3 := (A.old 3 rfl).trans x3
    have x7 : f3.eval (.tmp 7) = .bool false := A.has 1 7 rfl
    replace bl := (bl.trans (Below.mono hb bl.size))
    replace sz := A.size.trans sz
    replace df := A.defs.trans df
    clear A hb
    show Code.wp _ _ _ _ _
    refine wp_cond_false x7 ?_
    refine wp_skip ?_
    show Code.wp _ _ _ _ _
    refine wp_seq ?_
    -- R4
    refine wp_all_seq [.eq (.int .i64 ((2 ^ j : Nat) : Int)), .eq (.bool true), .eq (.bool true), .eq (.int .i64 ((2 ^ j : Nat) : Int)), .eq (.int .i64 ((n : Nat) : Int)), .eq (.bool true), .eq (.bool true), .eq (.bool true), .eq (.int .i64 ((2 ^ j : Nat) : Int)), .eq (.int .i64 ((2 ^ j : Nat) : Int)), .eq (.int .i64 ((2 ^ j - 1 : Nat) : Int)), .eq (.int .i64 0), .eq (.bool true), .eq (.bool true), .eq (.bool true), .eq (.int .i64 ((n : Nat) : Int)), .eq (.int .i64 ((2 ^ j : Nat) : Int)), .eq (.int .i64 ((n - 2 ^ j : Nat) : Int)), .eq (.int .i64 ((2 ^ j : Nat) : Int)), .eq (.bool true), .eq (.bool true), .eq (.bool true), .eq (.bool true), .eq (.bool true), .eq (.bool true)] (by kernel_rfl) (by kernel_rfl) (by rw [sz]; kernel_rfl) (by kernel_rfl) ⟨fun hw ac u K => ?_, fun hw ac u K => ?_, fun hw ac u K => ?_, fun hw ac u K => ?_, fun hw ac u K => ?_, fun hw ac u K => ?_, fun hw ac u K => ?_, fun hw ac u K => ?_, fun hw ac u K => ?_, fun hw ac u K => ?_, fun hw ac u K => ?_, fun hw ac u K => ?_, fun hw ac u K => ?_, fun hw ac u K => ?_, fun hw ac u K => ?_, fun hw ac u K => ?_, fun hw ac u K => ?_, fun hw ac u K => ?_, fun hw ac u K => ?_, fun hw ac u K => ?_, fun hw ac u K => ?_, fun hw ac u K => ?_, fun hw ac u K => ?_, fun hw ac u K => ?_, fun hw ac u K => ?_, trivial⟩ ?_
    · exact st_move (.tmp 3) rfl ((K.old 3 rfl).trans x3)
    · exact st_geq 3 (.tmp 13) (.const (.int .i64 1)) rfl .i64 (((2 ^ j : Nat) : Int)) (1) (K.dep 0 13 rfl) rfl _ (by rw [eq_comm, decide_eq_true_iff]; exact Int.ofNat_le.2 hp1)
    · exact st_move (.tmp 14) rfl (K.dep 1 14 rfl)
    · exact st_move (.tmp 3) rfl ((K.old 3 rfl).trans x3)
    · exact st_move (.tmp 0) rfl ((K.old 0 rfl).trans x0)
    · exact st_lss 3 (.tmp 16) (.tmp 17) rfl .i64 (((2 ^ j : Nat) : Int)) (((n : Nat) : Int)) (K.dep 3 16 rfl) (K.dep 4 17 rfl) _ (by rw [eq_comm, decide_eq_true_iff]; exact Int.ofNat_lt.2 hlt)
    · exact st_pick_t (.tmp 15) (.tmp 18) (.const (.bool false)) rfl (K.dep 2 15 rfl) (K.dep 5 18 rfl)
    · exact st_move (.tmp 19) rfl (K.dep 6 19 rfl)
    · exact st_move (.tmp 3) rfl ((K.old 3 rfl).trans x3)
    · exact st_move (.tmp 3) rfl ((K.old 3 rfl).trans x3)
    · exact st_subz (.tmp 22) (.const (.int .i64 1)) rfl _ 1 _ (K.dep 9 22 rfl) rfl (by rw [Int.ofNat_sub hp1]; rfl) (by omega) (by omega)
    · exact st_andp (.tmp 21) (.tmp 23) rfl j hj (K.dep 8 21 rfl) (K.dep 10 23 rfl)
    · exact st_eqi 3 (.tmp 24) (.const (.int .i64 0)) rfl .i64 (0) (0) (K.dep 11 24 rfl) rfl _ (by rfl)
    · exact st_pick_t (.tmp 20) (.tmp 25) (.const (.bool false)) rfl (K.dep 7 20 rfl) (K.dep 12 25 rfl)
    · exact st_move (.tmp 26) rfl (K.dep 13 26 rfl)
    · exact st_move (.tmp 0) rfl ((K.old 0 rfl).trans x0)
    · exact st_move (.tmp 3) rfl ((K.old 3 rfl).trans x3)
    · exact st_subz (.tmp 28) (.tmp 29) rfl _ _ _ (K.dep 15 28 rfl) (K.dep 16 29 rfl) (by rw [Int.ofNat_sub (Nat.le_of_lt hlt)]) (by omega) (by omega)
    · exact st_move (.tmp 3) rfl ((K.old 3 rfl).trans x3)
    · exact st_leq 3 (.tmp 30) (.tmp 31) rfl .i64 (((n - 2 ^ j : Nat) : Int)) (((2 ^ j : Nat) : Int)) (K.dep 17 30 rfl) (K.dep 18 31 rfl) _ (by rw [eq_comm, decide_eq_true_iff]; exact Int.ofNat_le.2 (by omega))
    · exact st_pick_t (.tmp 27) (.tmp 32) (.const (.bool false)) rfl (K.dep 14 27 rfl) (K.dep 19 32 rfl)
    · exact st_move (.tmp 33) rfl (K.dep 20 33 rfl)
    · exact st_call 10 (.func 10) _ _ #[] rfl rfl rfl Tryd.enter10 (fk_of (awake_any _ (hK.below (bl.trans (Below.mono K.grow bl.size)))))
    · exact st_pick_t (.tmp 34) (.tmp 35) (.const (.bool false)) rfl (K.dep 21 34 rfl) (K.dep 22 35 rfl)
    · exact st_assign (.tmp 36) rfl (K.dep 23 36 rfl)
    intro f4 w4 A hb
    replace bl0 := bl
    replace x0 := (A.old 0 rfl).trans x0
    clear x2
    replace x3 := (A.old 3 rfl).trans x3
    replace x7 := (A.old 7 rfl).trans x7
    have x2 : f4.eval (.tmp 2) = .bool true := A.has 24 2 rfl
    replace bl := (bl.trans (Below.mono hb bl.size))
    replace sz := A.size.trans sz
    replace df := A.defs.trans df
    clear A hb
    show Code.wp _ _ _ _ _
    refine wp_ret ?_
    repeat (first | with_reducible refine then_ret ?_ | with_reducible refine block_ret ?_)
    exact bodyPost_ret (v := .bool true) (ret_slot rfl f4 _ x2 _ _) df ⟨rfl, bl⟩
  -- R1
  refine wp_all_seq [.eq (.int .i64 (z)), .eq (.int .i64 0), .eq (.int .i64 0)] (by kernel_rfl) (by kernel_rfl) (by rw [sz]; kernel_rfl) (by kernel_rfl) ⟨fun hw ac u K => ?_, fun hw ac u K => ?_, fun hw ac u K => ?_, trivial⟩ ?_
  · exact st_move (.tmp 0) rfl ((K.old 0 rfl).trans x0)
  · exact st_call 12 (.func 12) _ _ #[.int .i64 (z)] rfl rfl (one_arg (K.dep 0 4 rfl)) Tryd.enter12 (fk_of (split_lo z h2 _))
  · exact st_assign (.tmp 5) rfl (K.dep 1 5 rfl)
  intro f2 w2 A hb
  replace bl0 := bl
  replace x0 := (A.old 0 rfl).trans x0
  replace x2 := (A.old 2 rfl).trans x2
  have x3 : f2.eval (.tmp 3) = .int .i64 0 := A.has 2 3 rfl
  replace bl := (bl.trans (Below.mono hb bl.size))
  replace sz := A.size.trans sz
  replace df := A.defs.trans df
  clear A hb
  show Code.wp _ _ _ _ _
  refine wp_seq ?_
  refine wp_seq ?_
  -- R2
  refine wp_all_seq [.eq (.int .i64 (z)), .eq (.bool true)] (by kernel_rfl) (by kernel_rfl) (by rw [sz]; kernel_rfl) (by kernel_rfl) ⟨fun hw ac u K => ?_, fun hw ac u K => ?_, trivial⟩ ?_
  · exact st_move (.tmp 0) rfl ((K.old 0 rfl).trans x0)
  · exact st_lss 3 (.tmp 6) (.const (.int .i64 2)) rfl .i64 ((z)) (2) (K.dep 0 6 rfl) rfl _ (by rw [eq_comm, decide_eq_true_iff]; omega)
  intro f3 w3 A hb
  replace bl0 := bl
  replace x0 := (A.old 0 rfl).trans x0
  replace x2 := (A.old 2 rfl).trans x2
  replace x3 := (A.old 3 rfl).trans x3
  have x7 : f3.eval (.tmp 7) = .bool true := A.has 1 7 rfl
  replace bl := (bl.trans (Below.mono hb bl.size))
  replace sz := A.size.trans sz
  replace df := A.defs.trans df
  clear A hb
  show Code.wp _ _ _ _ _
  refine wp_cond_true x7 ?_
  refine wp_seq ?_
  -- R3
  refine wp_all_seq [.eq (.int .i64 0), .eq (.bool true), .eq (.bool true), .eq (.bool true), .eq (.bool true), .eq (.bool true)] (by kernel_rfl) (by kernel_rfl) (by rw [sz]; kernel_rfl) (by kernel_rfl) ⟨fun hw ac u K => ?_, fun hw ac u K => ?_, fun hw ac u K => ?_, fun hw ac u K => ?_, fun hw ac u K => ?_, fun hw ac u K => ?_, trivial⟩ ?_
  · exact st_move (.tmp 3) rfl ((K.old 3 rfl).trans x3)
  · exact st_eqi 3 (.tmp 8) (.const (.int .i64 0)) rfl .i64 (0) (0) (K.dep 0 8 rfl) rfl _ (by rfl)
  · exact st_move (.tmp 9) rfl (K.dep 1 9 rfl)
  · exact st_call 10 (.func 10) _ _ #[] rfl rfl rfl Tryd.enter10 (fk_of (awake_any _ (hK.below (bl.trans (Below.mono K.grow bl.size)))))
  · exact st_pick_t (.tmp 10) (.tmp 11) (.const (.bool false)) rfl (K.dep 2 10 rfl) (K.dep 3 11 rfl)
  · exact st_assign (.tmp 12) rfl (K.dep 4 12 rfl)
  intro f4 w4 A hb
  replace bl0 := bl
  replace x0 := (A.old 0 rfl).trans x0
  clear x2
  replace x3 := (A.old 3 rfl).trans x3
  replace x7 := (A.old 7 rfl).trans x7
  have x2 : f4.eval (.tmp 2) = .bool true := A.has 5 2 rfl
  replace bl := (bl.trans (Below.mono hb bl.size))
  replace sz := A.size.trans sz
  replace df := A.defs.trans df
  clear A hb
  show Code.wp _ _ _ _ _
  refine wp_ret ?_
  repeat (first | with_reducible refine then_ret ?_ | with_reducible refine block_ret ?_)
  exact bodyPost_ret (v := .bool true) (ret_slot rfl f4 _ x2 _ _) df ⟨rfl, bl⟩
end Go.Proofs.YtfbfngblocfdlaaDoor
namespace Go.Proofs.YtfbfngblocfdlaaDoor
set_option maxRecDepth 100000
open Go.ChangeShapes Go.WideShapes Go.ChangeAt Go.RowKit

theorem own : ownKnob Tryd.prog.godebug = none := by kernel_rfl
theorem laidOut : laidOutB Tryd.prog = true := by kernel_rfl
theorem gK : Tryd.prog.globalNamed "syngraph/sha.roundNumbers" = some 0 := by kernel_rfl
theorem tK : (Tryd.prog.globals[0]?).map (·.type) = some 74 := by kernel_rfl
theorem cells63 : Tryd.prog.cellsOf 63 = 1 := by kernel_rfl
theorem cells74 : Tryd.prog.cellsOf 74 = 64 := by kernel_rfl
theorem cells5 : Tryd.prog.cellsOf 5 = 1 := by kernel_rfl
theorem cells24 : Tryd.prog.cellsOf 24 = 32 := by kernel_rfl
theorem under63 : Tryd.prog.underlying 63 = some (.int .u32) := by kernel_rfl
/-- What the rows list. -/
def laidK : List (String × DataW Unit) := [("syngraph/sha.roundNumbers", Rows.laid_syngraph_sha_roundNumbers)]
theorem laidK_tab : laidK = [("syngraph/sha.roundNumbers", Lib.tabData .u32 (KN.map vl))] := by kernel_rfl
theorem hasK_of {W : World} (h : laidMetH Tryd.prog laidK W) : HasK W 0 ∧ 0 < W.heap.size := by
  rw [MakeChecks.laidMetH_plain _ _ _ (by kernel_rfl), laidK_tab] at h
  have hT := Lib.tabIs_of_head gK tK Tryd.under74 under63 cells63 cells74 h
  have hc : ∀ i, i < 64 → W.cell? ⟨0, i, none⟩ = some (.int .u32 (vl (KN.getD i 0))) := fun i hi => by
    rw [hT.cell gK i (by simpa [KN] using hi)]
    have hi' : i < KN.length := by simpa [KN] using hi
    simp [hi']
  exact ⟨hc, block_lt_of_cell (hc 0 (by omega))⟩
/-- An array of bytes, by value, opened. -/
theorem open_arr8 {H : Type} {enc : TypeId × Value → H} {P : Program} {w : World} {r : Reach} {b0 base : Nat} {spare : Nat → Bool} {held : Bool} {t e : TypeId} {n : Nat} {v : Value} {d : DataW H} {p : List MemPlace}
    (ht : P.underlying t = some (.array n e)) (he : P.underlying e = some (.int .u8)) (hce : P.cellsOf e = 1) (hct : P.cellsOf t = n)
    (hv : Value.okWide P w r b0 t v) (h : DataW.Trod enc P w base spare held t v d p) : ∃ xs : List (BitVec 8), xs.length = n ∧ v = .agg (xs.map V).toArray := by
  unfold Value.okWide at hv
  rw [ht] at hv
  obtain ⟨cs, rfl, hsz, _⟩ := hv
  obtain ⟨fuel, hf⟩ := h
  obtain ⟨ys, m, _, _, hl, hn, hel⟩ := DataW.trod_array ht hf
  have hcell : ∀ i, i < n → ∃ z : Int, cs.toList[i]? = some (.int .u8 z) ∧ 0 ≤ z ∧ z < 256 := fun i hi => by
    have h1 := hel i hi
    rw [hce, List.getElem?_eq_getElem (by omega)] at h1
    obtain ⟨z, hc, _, hw⟩ := DataW.trod_int he h1
    refine ⟨z, ?_, ?_⟩
    · have := congrArg (·[0]?) hc
      simpa [List.getElem?_take, List.getElem?_drop, Value.cells] using this
    · have := bounds_u8 hw
      omega
  refine ⟨cs.toList.map fun v => match v with | .int _ z => BitVec.ofInt 8 z | _ => 0, ?_, ?_⟩
  · rw [List.length_map, Array.length_toList]; omega
  · congr 1
    apply Array.toList_inj.1
    apply List.ext_getElem?
    intro i
    by_cases hi : i < n
    · obtain ⟨z, hz, h0, h1⟩ := hcell i hi
      rw [hz]
      simp only [List.getElem?_map, hz, Option.map_some, List.map_map, Function.comp]
      simp only [V, bv]
      rw [BitVec.toNat_ofInt]
      congr 2
      omega
    · rw [List.getElem?_eq_none (by simp; omega), List.getElem?_eq_none (by simp; omega)]
theorem door_met (os : Os) (args : Array Value) : laidMetH Tryd.prog laidK ((World.doorLaid Tryd.prog 400 os).forCall (fun _ _ => 0) ⟨#[], args, []⟩).memory :=
  laidMetH_of_parts3 (fuel := 8) (laidMet_of_run' 8 (by kernel_rfl) (by kernel_rfl)) (by kernel_rfl) (by kernel_rfl)
end Go.Proofs.YtfbfngblocfdlaaDoor
namespace Go.Proofs.YtfbfngblocfdlaaDoor
set_option maxRecDepth 100000
open Go.ChangeShapes Go.WideShapes Go.ChangeAt Go.RowKit
theorem bv_ofInt (z : Int) (h0 : 0 ≤ z) (h1 : z < 256) : bv (BitVec.ofInt 8 z) = z := by
  unfold bv
  rw [BitVec.toNat_ofInt]
  omega
theorem sl_of {H : Type} {enc : TypeId × Value → H} {W : World} {a : Option Addr} {len cap : Nat} {d : DataW H} {p : List MemPlace}
    (h : DataW.Trod enc Tryd.prog W 0 (fun _ => true) true 35 (.slice a len cap) d p) : ∃ bs b o, Sl W a len cap bs b o ∧ len ≤ maxLen := by
  obtain ⟨fuel, hf⟩ := h
  rcases open_ints Tryd.under35 Tryd.under5 (by kernel_rfl) hf with ⟨hcs, _⟩ | ⟨x, l, c, zs, hcs, _, hl, hm, hz, _, hcell, hwz⟩
  · simp [Value.cells] at hcs
    obtain ⟨rfl, rfl, rfl⟩ := hcs
    exact ⟨[], 0, 0, ⟨rfl, Nat.le_refl _, fun _ => ⟨rfl, rfl⟩, fun h => absurd h (by omega)⟩, by unfold maxLen; omega⟩
  · simp [Value.cells] at hcs
    obtain ⟨rfl, rfl, rfl⟩ := hcs
    have hlen : zs.length = cap := by simpa using hz
    refine ⟨(zs.take len).map (BitVec.ofInt 8), x.block, x.off, ⟨?_, hl, fun h => by (cases h), fun hp => ?_⟩, by unfold maxLen at *; omega⟩
    · rw [List.length_map, List.length_take]; omega
    · have hspot : x.spot = none := by
        have := hcell 0 (by omega)
        simp only [Addr.add, if_true] at this
        unfold World.cell? at this
        split at this
        · split at this
          · cases this
          · rename_i h; simpa using h
        · cases this
      have hx : x = ⟨x.block, x.off, none⟩ := by rw [← hspot]
      have hadd : ∀ i, x.add i = ⟨x.block, x.off + i, none⟩ := fun i => by
        unfold Addr.add
        split
        · rename_i h; subst h; rw [Nat.add_zero]; exact hx
        · rfl
      refine ⟨by rw [← hx], ?_, ?_⟩
      · have := block_lt_of_cell (hcell 0 (by omega))
        simpa [Addr.add] using this
      · intro i hi
        have hil : i < zs.length := by rw [List.length_map, List.length_take] at hi; omega
        have hin : i < len := by rw [List.length_map, List.length_take] at hi; omega
        rw [← hadd, hcell i hil]
        have hb := bounds_u8 (hwz (zs[i]) (List.getElem_mem hil))
        have e1 : zs.getD i 0 = zs[i] := by simp [hil]
        have e2 : ((zs.take len).map (BitVec.ofInt 8)).getD i 0 = BitVec.ofInt 8 zs[i] := by simp [hil, hin]
        rw [e1, e2, bv_ofInt _ (by omega) (by omega)]
end Go.Proofs.YtfbfngblocfdlaaDoor
namespace Go.Proofs.YtfbfngblocfdlaaDoor
set_option maxRecDepth 100000
open Go.ChangeShapes Go.WideShapes Go.ChangeAt Go.RowKit
theorem add_plain {w : World} {x : Addr} {v : Value} (h : w.cell? x = some v) : ∀ i, x.add i = ⟨x.block, x.off + i, none⟩ := by
  have hspot : x.spot = none := by
    unfold World.cell? at h
    split at h
    · split at h
      · cases h
      · rename_i h2; simpa using h2
    · cases h
  intro i
  unfold Addr.add
  split
  · rename_i h2; subst h2; rw [Nat.add_zero, ← hspot]
  · rfl
theorem Tryd.under22 : Tryd.prog.underlying 22 = some (.slice 24) := by kernel_rfl
theorem hl_of {H : Type} {enc : TypeId × Value → H} {W : World} {A : Option Addr} {N C : Nat} {d : DataW H} {p : List MemPlace}
    (h : DataW.Trod enc Tryd.prog W 0 (fun _ => true) true 22 (.slice A N C) d p) : ∃ lb lo hs, Hl W A lb lo hs ∧ N = hs.length ∧ N ≤ maxLen := by
  obtain ⟨fuel, hf⟩ := h
  rcases Deep.open_slice Tryd.under22 hf with ⟨hcs, _⟩ | ⟨a, len, cap, m, n, D, Pl, hcs, _, hl, hm, hmm, _, hel⟩
  · simp [Value.cells] at hcs
    obtain ⟨rfl, rfl, rfl⟩ := hcs
    exact ⟨0, 0, [], ⟨fun h => absurd h (by simp), fun h => absurd h (by simp), fun i x hi => by simp at hi⟩, rfl, by unfold maxLen; omega⟩
  · simp [Value.cells] at hcs
    obtain ⟨rfl, rfl, rfl⟩ := hcs
    have hmc : m = C := by simpa using hmm
    subst hmc
    rw [cells24] at hel
    obtain ⟨F, hF⟩ := Deep.choose_lt (α := List (BitVec 8)) (n := N) (p := fun i x => x.length = 32 ∧ ∀ j, j < 32 → W.cell? (a.add (i * 32 + j)) = some (.int .u8 (bv (x.getD j 0)))) (fun i hi => by
      obtain ⟨cs', h1, h2⟩ := hel i (by omega)
      obtain ⟨_, hlen, hcell⟩ := World.cells?_some h1
      obtain ⟨ys, m', _, _, hl', hn, hel'⟩ := DataW.trod_array Tryd.under24 h2
      have hz : ∀ j, j < 32 → ∃ z : Int, cs'[j]? = some (.int .u8 z) ∧ 0 ≤ z ∧ z < 256 := fun j hj => by
        have h3 := hel' j hj
        rw [cells5, List.getElem?_eq_getElem (by omega)] at h3
        obtain ⟨z, hc, _, hw⟩ := DataW.trod_int Tryd.under5 h3
        refine ⟨z, ?_, ?_⟩
        · have := congrArg (·[0]?) hc
          simpa [List.getElem?_take, List.getElem?_drop, Value.cells] using this
        · have := bounds_u8 hw
          omega
      refine ⟨cs'.map fun v => match v with | .int _ z => BitVec.ofInt 8 z | _ => 0, by rw [List.length_map]; exact hlen, fun j hj => ?_⟩
      obtain ⟨z, hz1, h0, h256⟩ := hz j hj
      rw [← Deep.add_add, hcell j hj, hz1]
      have : bv (BitVec.ofInt 8 z) = z := bv_ofInt z h0 h256
      simp [hz1, this])
    have hbase : 0 < N → ∀ i, a.add i = ⟨a.block, a.off + i, none⟩ := fun hp => by
      have h0 := (hF 0 hp).2 0 (by omega)
      have e0 : a.add (0 * 32 + 0) = a := by simp [Addr.add]
      rw [e0] at h0
      exact add_plain h0
    refine ⟨a.block, a.off, (List.range N).map F, ⟨fun hp => ?_, fun hp => ?_, fun i x hi => ?_⟩, by simp, by unfold maxLen at *; omega⟩
    · rw [List.length_map, List.length_range] at hp
      have := hbase hp 0
      have e0 : a.add 0 = a := by simp [Addr.add]
      rw [e0, Nat.add_zero] at this
      rw [← this]
    · rw [List.length_map, List.length_range] at hp
      have h0 := (hF 0 hp).2 0 (by omega)
      have e0 : a.add (0 * 32 + 0) = a := by simp [Addr.add]
      rw [e0] at h0
      exact block_lt_of_cell h0
    · obtain ⟨h1, h2⟩ := List.getElem?_eq_some_iff.1 hi
      have hiN : i < N := by simpa using h1
      have e : x = F i := by rw [← h2]; simp
      subst e
      refine ⟨(hF i hiN).1, fun j hj => ?_⟩
      have hj' : j < 32 := by rw [(hF i hiN).1] at hj; exact hj
      have := (hF i hiN).2 j hj'
      rw [hbase (by omega), ← Nat.add_assoc] at this
      exact this
end Go.Proofs.YtfbfngblocfdlaaDoor
namespace Go.Proofs.YtfbfngblocfdlaaDoor
set_option maxRecDepth 100000
open Go.ChangeShapes Go.WideShapes Go.ChangeAt Go.RowKit
/-- The types and places of a struct's fields. -/
def fldS (P : Program) (t : TypeId) : Option (List (TypeId × Nat)) := match P.underlying t with | some (.struct fs) => some (fs.toList.map fun f => (f.type, f.offset)) | _ => none
section
variable {H : Type} {enc : TypeId × Value → H} {W : World}
theorem parts_of {t : TypeId} {l : List (TypeId × Nat)} (hF : fldS Tryd.prog t = some l) {fuel : Nat} {cs : List Value} {x : DataW H × List MemPlace} (h : DataW.trod enc Tryd.prog W 0 (fun _ => true) true fuel t cs = some x) :
    cs.length = Tryd.prog.cellsOf t ∧ ∀ (i : Nat) (ty : TypeId) (off : Nat), l[i]? = some (ty, off) → ∃ n y, DataW.trod enc Tryd.prog W 0 (fun _ => true) true n ty ((cs.drop off).take (Tryd.prog.cellsOf ty)) = some y := by
  unfold fldS at hF
  cases hu : Tryd.prog.underlying t with
  | none => rw [hu] at hF; simp at hF
  | some td =>
    rw [hu] at hF
    cases td <;> simp only [] at hF <;> try (cases hF)
    rename_i fs
    obtain ⟨xs, n, _, rfl, hl, hlen, hf⟩ := DataW.trod_struct hu h
    refine ⟨hl, fun i ty off hi => ?_⟩
    rw [List.getElem?_map] at hi
    cases hfi : fs.toList[i]? with
    | none => rw [hfi] at hi; cases hi
    | some f =>
      rw [hfi] at hi
      obtain ⟨rfl, rfl⟩ : f.type = ty ∧ f.offset = off := by simpa using hi
      have hi2 : i < fs.toList.length := (List.getElem?_eq_some_iff.1 hfi).1
      have hi3 : i < xs.length := by simp only [Array.length_toList] at hi2; omega
      exact ⟨n, xs[i], (hf i f (by simpa using hfi)).trans (List.getElem?_eq_getElem hi3)⟩
theorem int_part {n : Nat} {cs : List Value} {y : DataW H × List MemPlace} (h : DataW.trod enc Tryd.prog W 0 (fun _ => true) true n 3 cs = some y) : ∃ z : Int, cs = [.int .i64 z] ∧ -9223372036854775808 ≤ z ∧ z ≤ 9223372036854775807 := by
  obtain ⟨z, hc, _, hw⟩ := DataW.trod_int Tryd.under3 h
  refine ⟨z, by simpa [Value.cells] using hc, ?_⟩
  have := bounds_i64 hw
  omega
theorem hs_part {n : Nat} {cs : List Value} {y : DataW H × List MemPlace} (h : DataW.trod enc Tryd.prog W 0 (fun _ => true) true n 22 cs = some y) : ∃ A C hs, cs = [.slice A hs.length C] ∧ (Fk.hs hs).f (.slice A hs.length C) W := by
  have key : ∀ A N C, cs = [.slice A N C] → ∃ A C hs, cs = [.slice A hs.length C] ∧ (Fk.hs hs).f (.slice A hs.length C) W := by
    intro A N C e
    obtain ⟨lb, lo, hs, hl, hn, _⟩ := hl_of (A := A) (N := N) (C := C) (d := y.1) (p := y.2) ⟨n, by rw [show (Value.slice A N C).cells.toList = cs from by rw [e]; rfl]; exact h⟩
    subst hn
    exact ⟨A, C, hs, e, A, C, lb, lo, rfl, hl⟩
  rcases Deep.open_slice Tryd.under22 h with ⟨hcs, _⟩ | ⟨a, len, cap, m, n', D, Pl, hcs, _⟩
  · exact key _ _ _ hcs
  · exact key _ _ _ hcs
theorem sl_part {n : Nat} {cs : List Value} {y : DataW H × List MemPlace} (h : DataW.trod enc Tryd.prog W 0 (fun _ => true) true n 35 cs = some y) : ∃ v bs, cs = [v] ∧ (Fk.sl bs).f v W := by
  have key : ∀ A N C, cs = [.slice A N C] → ∃ v bs, cs = [v] ∧ (Fk.sl bs).f v W := by
    intro A N C e
    obtain ⟨bs, b, o, hs, _⟩ := sl_of (a := A) (len := N) (cap := C) (d := y.1) (p := y.2) ⟨n, by rw [show (Value.slice A N C).cells.toList = cs from by rw [e]; rfl]; exact h⟩
    exact ⟨_, bs, e, A, N, C, b, o, rfl, hs⟩
  rcases Deep.open_slice Tryd.under35 h with ⟨hcs, _⟩ | ⟨a, len, cap, m, n', D, Pl, hcs, _⟩
  · exact key _ _ _ hcs
  · exact key _ _ _ hcs
theorem arr_part {n : Nat} {cs : List Value} {y : DataW H × List MemPlace} (h : DataW.trod enc Tryd.prog W 0 (fun _ => true) true n 24 cs = some y) : ∃ xs : List (BitVec 8), xs.length = 32 ∧ cs = xs.map V := by
  obtain ⟨ys, m, _, _, hl, hn, hel⟩ := DataW.trod_array Tryd.under24 h
  rw [cells24] at hl
  have hcell : ∀ i, i < 32 → ∃ z : Int, cs[i]? = some (.int .u8 z) ∧ 0 ≤ z ∧ z < 256 := fun i hi => by
    have h1 := hel i hi
    rw [cells5, List.getElem?_eq_getElem (by omega)] at h1
    obtain ⟨z, hc, _, hw⟩ := DataW.trod_int Tryd.under5 h1
    refine ⟨z, ?_, ?_⟩
    · have := congrArg (·[0]?) hc
      simpa [List.getElem?_take, List.getElem?_drop, Value.cells] using this
    · have := bounds_u8 hw
      omega
  refine ⟨cs.map fun v => match v with | .int _ z => BitVec.ofInt 8 z | _ => 0, by rw [List.length_map]; exact hl, ?_⟩
  apply List.ext_getElem?
  intro i
  by_cases hi : i < 32
  · obtain ⟨z, hz, h0, h1⟩ := hcell i hi
    rw [hz]
    simp only [List.getElem?_map, hz, Option.map_some, List.map_map, Function.comp]
    simp only [V, bv]
    rw [BitVec.toNat_ofInt]
    congr 2
    omega
  · rw [List.getElem?_eq_none (by omega), List.getElem?_eq_none (by simp; omega)]
theorem cells3 : Tryd.prog.cellsOf 3 = 1 := by kernel_rfl
theorem cells22 : Tryd.prog.cellsOf 22 = 1 := by kernel_rfl
theorem cells35 : Tryd.prog.cellsOf 35 = 1 := by kernel_rfl
end
end Go.Proofs.YtfbfngblocfdlaaDoor
namespace Go.Proofs.YtfbfngblocfdlaaDoor
set_option maxRecDepth 100000
set_option maxRecDepth 100000
open Go.ChangeShapes Go.WideShapes Go.ChangeAt Go.RowKit
variable {H : Type} {enc : TypeId × Value → H} {W : World}
theorem open_int {r : Reach} {b0 : Nat} {v : Value} {d : DataW H} {p : List MemPlace} (hv : Value.okWide Tryd.prog W r b0 3 v) (h : DataW.Trod enc Tryd.prog W 0 (fun _ => true) true 3 v d p) : ∃ z : Int, v = .int .i64 z ∧ -9223372036854775808 ≤ z ∧ z ≤ 9223372036854775807 := by
  obtain ⟨z, rfl⟩ := okWide_int Tryd.under3 hv
  obtain ⟨m, hm⟩ := h
  obtain ⟨z', e, h1, h2⟩ := int_part hm
  have : z = z' := by simpa [Value.cells] using e
  subst this
  exact ⟨z, rfl, h1, h2⟩
theorem open_hc {r : Reach} {b0 : Nat} {v : Value} {d : DataW H} {p : List MemPlace} (hv : Value.okWide Tryd.prog W r b0 22 v) (h : DataW.Trod enc Tryd.prog W 0 (fun _ => true) true 22 v d p) : ∃ l, (Fk.hc l).f v W ∧ l.length ≤ maxLen := by
  obtain ⟨A, N, C, rfl⟩ := okWide_slice Tryd.under22 hv
  have hcap : N ≤ C := by
    obtain ⟨m, hm⟩ := h
    rcases Deep.open_slice Tryd.under22 hm with ⟨hcs, _⟩ | ⟨a, len, cap, m, n, D, Pl, hcs, _, hl, _⟩
    · simp [Value.cells] at hcs
      omega
    · simp [Value.cells] at hcs
      obtain ⟨_, rfl, rfl⟩ := hcs
      exact hl
  obtain ⟨lb, lo, hs, hl, hn, hm⟩ := hl_of h
  subst hn
  exact ⟨hs, ⟨A, C, lb, lo, rfl, hcap, hl⟩, hm⟩
end Go.Proofs.YtfbfngblocfdlaaDoor
