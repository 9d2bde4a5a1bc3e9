/- awake. Lists of slices of bytes in memory. Leaves; MerkleLeaves. What the rows of this seat share: what the listed variable gives a walk, an array of bytes opened, the start that fits. A slice of bytes that came in, opened. A slice of hashes that came in, opened. Signatures and structs with them that came in, opened. Lists of slices of bytes that came in, opened: with the bounds of their sizes. -/
import Derived.Test.YtfbfngblocfdlaaDoorM6
import Derived.Test.YtfbfngblocfdlaaDoorM5
import Derived.Test.YtfbfngblocfdlaaDoorRows
import Derived.Test.YtfbfngblocfdlaaDoorM2
import Derived.ProofKit
import Derived.LaidMore
import Derived.OpenShut
import Derived.ShutString
import Derived.ChangeOld
import Derived.Lib.LaidTab
import Derived.SevenTiedAt
import Derived.Test.YtfbfngblocfdlaaDoorM3
import Derived.Deep.Slices
import Derived.Deep.Strs
namespace Go.Proofs.YtfbfngblocfdlaaDoor
set_option maxRecDepth 100000
open Go.RowKit
/-- A hash that begins with a byte, all others noughts. -/
def h1 (n : Nat) : List (BitVec 8) := BitVec.ofNat 8 n :: List.replicate 31 0
theorem h1_len (n : Nat) : (h1 n).length = 32 := rfl
theorem spl_3 : spl 3 = 2 := spl_one (j := 1) (by decide) (by decide)
theorem spl_2 : spl 2 = 1 := spl_one (j := 0) (by decide) (by decide)
theorem mroot_ab (a b : List (BitVec 8)) : mroot [a, b] = nd a b := by
  rw [mroot_two (by simp), show [a, b].length = 2 from rfl, spl_2, show [a, b].take 1 = [a] from rfl, show [a, b].drop 1 = [b] from rfl, mroot_one, mroot_one]
theorem mroot_abc (a b c : List (BitVec 8)) : mroot [a, b, c] = nd (nd a b) c := by
  rw [mroot_two (by simp), show [a, b, c].length = 3 from rfl, spl_3, show [a, b, c].take 2 = [a, b] from rfl, show [a, b, c].drop 2 = [c] from rfl, mroot_one, mroot_ab]
theorem mpath_abc (a b c : List (BitVec 8)) : mpath [a, b, c] 2 = [nd a b] := by
  rw [mpath_right (l := [a, b, c]) (by simp) (by rw [show [a, b, c].length = 3 from rfl, spl_3]; omega), show [a, b, c].length = 3 from rfl, spl_3, show [a, b, c].take 2 = [a, b] from rfl, show [a, b, c].drop 2 = [c] from rfl, mroot_ab, mpath_one (by simp)]
  rfl
theorem fk_path {l : List (List (BitVec 8))} {i : Nat} (hi : i < l.length) (h1000 : l.length ≤ 1000) {w : World} {v : Value} (hv : (Fk.hc l).f v w) (hK : Tab w) {S : List (List (BitVec 8))} (hS : Box (mpath l i = S)) :
    Calls Tryd.prog 15 #[v, .int .i64 ((i : Nat) : Int)] w fun e w' => ∃ u, e = .returned u ∧ (Fk.t2 (.hs S) (.int .i64 0)).f u w' ∧ Below w.heap.size w w' := by
  refine (path_ok hi h1000 w hv hK).mono ?_
  rintro e w' ⟨u, rfl, ⟨p, e1, h1⟩, hb⟩
  rw [hS.out] at h1
  exact ⟨u, rfl, ⟨p, e1, ow_hs h1⟩, hb⟩
theorem b3_run (w : World) : (Instr.buildSlice 22 3 #[(0, .agg ((h1 1).map V).toArray), (1, .agg ((h1 2).map V).toArray), (2, .agg ((h1 3).map V).toArray)]).run Tryd.prog w = .ok (.slice (some ⟨w.heap.size, 0, none⟩) 3 3) (w.alloc (.cells ((h1 1 ++ h1 2 ++ h1 3).map V).toArray 24)) := by kernel_rfl
theorem b3_at : ∀ (i : Fin 3) (j : Fin 32), (h1 1 ++ h1 2 ++ h1 3)[i.val * 32 + j.val]? = some ((h1 (i.val + 1)).getD j.val 0) := by decide
theorem st_b3 {Q : Exit → Act → World → Prop} {o : Oper} {a : Act} {w : World} (x y z : Operand) (ho : o.op = .buildSlice 22 3 #[(0, x), (1, y), (2, z)]) (hx : a.eval x = .agg ((h1 1).map V).toArray) (hy : a.eval y = .agg ((h1 2).map V).toArray) (hz : a.eval z = .agg ((h1 3).map V).toArray) : o.wp Tryd.prog a w (Ends a o.dst w (Fk.hc [h1 1, h1 2, h1 3]).f) Q := by
  refine st_run (v := .slice (some ⟨w.heap.size, 0, none⟩) 3 3) (w' := w.alloc (.cells ((h1 1 ++ h1 2 ++ h1 3).map V).toArray 24)) ?_ ((Below.refl _ _).alloc (Nat.le_refl _) _) ⟨_, 3, w.heap.size, 0, rfl, Nat.le_refl _, fun _ => rfl, fun _ => by simp, fun i x hi => ?_⟩
  · have := b3_run w
    unfold execOp
    rw [ho]
    simp [hx, hy, hz, this]
  · have hi3 : i < 3 := (List.getElem?_eq_some_iff.1 hi).1
    have hxe : x = h1 (i + 1) := by
      match i, hi3 with
      | 0, _ => simpa using hi.symm
      | 1, _ => simpa using hi.symm
      | 2, _ => simpa using hi.symm
    subst hxe
    refine ⟨h1_len _, fun j hj => ?_⟩
    rw [h1_len] at hj
    rw [World.cell?_alloc_mark, Nat.zero_add]
    have := b3_at ⟨i, hi3⟩ ⟨j, hj⟩
    simp only at this
    simp only [List.getElem?_toArray, List.getElem?_map, this, Option.map_some, V]
theorem awake_any (w : World) (hK : Tab w) :
    Calls Tryd.prog 10 #[] w fun e w' => e = .returned (.bool true) ∧ Below w.heap.size w w' := by
  obtain ⟨p, ep⟩ : ∃ p, Box (nd (h1 1) (h1 2) = p) := ⟨_, ⟨rfl⟩⟩
  have hp : p.length = 32 := by rw [← ep.out]; exact nd_len _ _
  obtain ⟨q, eq⟩ : ∃ q, Box (nd p (h1 3) = q) := ⟨_, ⟨rfl⟩⟩
  have hq : q.length = 32 := by rw [← eq.out]; exact nd_len _ _
  have eP : Box (mpath [h1 1, h1 2, h1 3] 2 = [p]) := ⟨by rw [mpath_abc, ep.out]⟩
  have eR : Box (mroot [h1 1, h1 2, h1 3] = q) := ⟨by rw [mroot_abc, ep.out, eq.out]⟩
  go_enter Tryd.func10, Tryd.ntmps10
  refine code_both (fun f w1 => f.tmps.size = 46 ∧ f.defers = [] ∧ Below w.heap.size w (w1)) ⟨rfl, rfl, Below.refl _ _⟩ ?_
  rintro f0 w0 ⟨sz, df, bl⟩
  have bl0 := bl
  refine wp_seq ?_
  -- R0
  refine wp_all_seq [.eq (.bool false)] (by kernel_rfl) (by kernel_rfl) (by rw [sz]; kernel_rfl) (by kernel_rfl) ⟨fun hw ac u K => ?_, trivial⟩ ?_
  · exact st_assign (.const (.bool false)) rfl rfl
  intro f1 w1 A hb
  replace bl0 := bl
  have x0 : f1.eval (.tmp 0) = .bool false := A.has 0 0 rfl
  replace bl := (bl.trans (Below.mono hb bl.size))
  replace sz := A.size.trans sz
  replace df := A.defs.trans df
  clear A hb
  show Code.wp _ _ _ _ _
  refine wp_seq ?_
  -- R1
  refine wp_region_seq [.eq (.agg ((h1 1).map V).toArray), .eq (.agg ((h1 2).map V).toArray), .eq (.agg ((h1 3).map V).toArray)] (by kernel_rfl) (by kernel_rfl) (by rw [sz]; kernel_rfl) (by kernel_rfl) ⟨fun hw ac u K => ?_, fun hw ac u K => ?_, fun hw ac u K => ?_, trivial⟩ ?_
  · exact st_build 24 _ rfl (by kernel_rfl)
  · exact st_build 24 _ rfl (by kernel_rfl)
  · exact st_build 24 _ rfl (by kernel_rfl)
  intro f2 w2 A hb
  replace bl0 := bl
  replace x0 := (A.old 0 rfl).trans x0
  have x6 : f2.eval (.tmp 6) = .agg ((h1 1).map V).toArray := A.has 0 6 rfl
  have x7 : f2.eval (.tmp 7) = .agg ((h1 2).map V).toArray := A.has 1 7 rfl
  have x8 : f2.eval (.tmp 8) = .agg ((h1 3).map V).toArray := A.has 2 8 rfl
  replace bl := (bl.trans (Below.mono hb bl.size))
  replace sz := A.size.trans sz
  replace df := A.defs.trans df
  clear A hb
  refine wl_one (.nw w2.heap.size 24 ((hz).map V)) rfl 1 rfl (by rw [sz]; decide) (st_alloc24 rfl _ (Nat.le_refl _)) ?_
  intro f3 w3 df2 sz2 old2 new2 hb
  replace bl0 := bl
  replace x0 := (old2 0 rfl).trans x0
  replace x6 := (old2 6 rfl).trans x6
  replace x7 := (old2 7 rfl).trans x7
  replace x8 := (old2 8 rfl).trans x8
  have x1 : Fk.f (.nw w2.heap.size 24 ((hz).map V)) (f3.eval (.tmp 1)) w3 := new2
  replace bl := (bl.trans (Below.mono hb bl.size))
  replace sz := sz2.trans sz
  replace df := df2.trans df
  clear df2 sz2 old2 new2 hb
  obtain ⟨g1, hg1, e1, m1⟩ := x1
  have x1 := e1
  clear e1
  have hw1 : w.heap.size ≤ g1 := Nat.le_trans bl0.size hg1
  refine wl_one (.nw w3.heap.size 24 ((hz).map V)) rfl 2 rfl (by rw [sz]; decide) (st_alloc24 rfl _ (Nat.le_refl _)) ?_
  intro f4 w4 df2 sz2 old2 new2 hb
  replace bl0 := bl
  replace x0 := (old2 0 rfl).trans x0
  replace x6 := (old2 6 rfl).trans x6
  replace x7 := (old2 7 rfl).trans x7
  replace x8 := (old2 8 rfl).trans x8
  replace x1 := (old2 1 rfl).trans x1
  have x2 : Fk.f (.nw w3.heap.size 24 ((hz).map V)) (f4.eval (.tmp 2)) w4 := new2
  have lt_m1 := Ob.lt m1
  replace m1 := Ob.below m1 hb
  replace bl := (bl.trans (Below.mono hb bl.size))
  replace sz := sz2.trans sz
  replace df := df2.trans df
  clear df2 sz2 old2 new2 hb
  obtain ⟨g2, hg2, e2, m2⟩ := x2
  have x2 := e2
  clear e2
  have nm1_2 : g1 ≠ g2 := Nat.ne_of_lt (Nat.lt_of_lt_of_le lt_m1 hg2)
  have hw2 : w.heap.size ≤ g2 := Nat.le_trans bl0.size hg2
  refine wl_one (.nw w4.heap.size 24 ((hz).map V)) rfl 3 rfl (by rw [sz]; decide) (st_alloc24 rfl _ (Nat.le_refl _)) ?_
  intro f5 w5 df2 sz2 old2 new2 hb
  replace bl0 := bl
  replace x0 := (old2 0 rfl).trans x0
  replace x6 := (old2 6 rfl).trans x6
  replace x7 := (old2 7 rfl).trans x7
  replace x8 := (old2 8 rfl).trans x8
  replace x1 := (old2 1 rfl).trans x1
  replace x2 := (old2 2 rfl).trans x2
  have x3 : Fk.f (.nw w4.heap.size 24 ((hz).map V)) (f5.eval (.tmp 3)) w5 := new2
  have lt_m1 := Ob.lt m1
  replace m1 := Ob.below m1 hb
  have lt_m2 := Ob.lt m2
  replace m2 := Ob.below m2 hb
  replace bl := (bl.trans (Below.mono hb bl.size))
  replace sz := sz2.trans sz
  replace df := df2.trans df
  clear df2 sz2 old2 new2 hb
  obtain ⟨g3, hg3, e3, m3⟩ := x3
  have x3 := e3
  clear e3
  have nm1_3 : g1 ≠ g3 := Nat.ne_of_lt (Nat.lt_of_lt_of_le lt_m1 hg3)
  have nm2_3 : g2 ≠ g3 := Nat.ne_of_lt (Nat.lt_of_lt_of_le lt_m2 hg3)
  have hw3 : w.heap.size ≤ g3 := Nat.le_trans bl0.size hg3
  refine wl_store rfl (.tmp 1) (.tmp 6) rfl rfl (g1) (h1 1) (hz) x1 x6 m1 hz_len (h1_len 1) ?_
  replace m1 : Ob (w5.setRow g1 ((h1 1).map V : List Value).toArray) (g1) 24 ((h1 1).map V) := Ob.setRow m1 ((h1 1).map V)
  replace m2 : Ob (w5.setRow g1 ((h1 1).map V : List Value).toArray) (g2) 24 ((hz).map V) := Ob.setRow_other m2 _ nm1_2.symm
  replace m3 : Ob (w5.setRow g1 ((h1 1).map V : List Value).toArray) (g3) 24 ((hz).map V) := Ob.setRow_other m3 _ nm1_3.symm
  replace bl : Below w.heap.size w (w5.setRow g1 ((h1 1).map V : List Value).toArray) := bl.trans (below_setRow _ _ _ _ hw1)
  generalize w5.setRow g1 ((h1 1).map V : List Value).toArray = w6b at bl m1 m2 m3 ⊢
  clear x6
  refine wl_store rfl (.tmp 2) (.tmp 7) rfl rfl (g2) (h1 2) (hz) x2 x7 m2 hz_len (h1_len 2) ?_
  replace m1 : Ob (w6b.setRow g2 ((h1 2).map V : List Value).toArray) (g1) 24 ((h1 1).map V) := Ob.setRow_other m1 _ nm1_2
  replace m2 : Ob (w6b.setRow g2 ((h1 2).map V : List Value).toArray) (g2) 24 ((h1 2).map V) := Ob.setRow m2 ((h1 2).map V)
  replace m3 : Ob (w6b.setRow g2 ((h1 2).map V : List Value).toArray) (g3) 24 ((hz).map V) := Ob.setRow_other m3 _ nm2_3.symm
  replace bl : Below w.heap.size w (w6b.setRow g2 ((h1 2).map V : List Value).toArray) := bl.trans (below_setRow _ _ _ _ hw2)
  generalize w6b.setRow g2 ((h1 2).map V : List Value).toArray = w7b at bl m1 m2 m3 ⊢
  clear x7
  refine wl_store rfl (.tmp 3) (.tmp 8) rfl rfl (g3) (h1 3) (hz) x3 x8 m3 hz_len (h1_len 3) ?_
  replace m1 : Ob (w7b.setRow g3 ((h1 3).map V : List Value).toArray) (g1) 24 ((h1 1).map V) := Ob.setRow_other m1 _ nm1_3
  replace m2 : Ob (w7b.setRow g3 ((h1 3).map V : List Value).toArray) (g2) 24 ((h1 2).map V) := Ob.setRow_other m2 _ nm2_3
  replace m3 : Ob (w7b.setRow g3 ((h1 3).map V : List Value).toArray) (g3) 24 ((h1 3).map V) := Ob.setRow m3 ((h1 3).map V)
  replace bl : Below w.heap.size w (w7b.setRow g3 ((h1 3).map V : List Value).toArray) := bl.trans (below_setRow _ _ _ _ hw3)
  generalize w7b.setRow g3 ((h1 3).map V : List Value).toArray = w8b at bl m1 m2 m3 ⊢
  refine wpList_nil ?_
  clear x8
  show Code.wp _ _ _ _ _
  refine wp_seq ?_
  -- R2
  refine wp_all_seq [.eq (.agg ((h1 1).map V).toArray), .eq (.agg ((h1 2).map V).toArray), .eq (.agg ((h1 3).map V).toArray), .hc ([h1 1, h1 2, h1 3]), .t2 (.hs ([p])) (.int .i64 0), .t2 (.hs ([p])) (.int .i64 0), .hs ([p]), .eq (.int .i64 0), .hs ([p]), .eq (.int .i64 0)] (by kernel_rfl) (by kernel_rfl) (by rw [sz]; kernel_rfl) (by kernel_rfl) ⟨fun hw ac u K => ?_, fun hw ac u K => ?_, fun hw ac u K => ?_, fun hw ac u K => ?_, fun hw ac u K => ?_, fun hw ac u K => ?_, fun hw ac u K => ?_, fun hw ac u K => ?_, fun hw ac u K => ?_, fun hw ac u K => ?_, trivial⟩ ?_
  · exact st_load24 (.tmp 1) rfl (g1) (h1 1) ((K.old 1 rfl).trans x1) (h1_len 1) (Ob.below m1 K.grow)
  · exact st_load24 (.tmp 2) rfl (g2) (h1 2) ((K.old 2 rfl).trans x2) (h1_len 2) (Ob.below m2 K.grow)
  · exact st_load24 (.tmp 3) rfl (g3) (h1 3) ((K.old 3 rfl).trans x3) (h1_len 3) (Ob.below m3 K.grow)
  · exact st_b3 (.tmp 10) (.tmp 11) (.tmp 12) rfl (K.dep 0 10 rfl) (K.dep 1 11 rfl) (K.dep 2 12 rfl)
  · exact st_call 15 (.func 15) _ _ #[ac.eval (.tmp 13), .int .i64 2] rfl rfl (arg2 rfl rfl) Tryd.enter15 (fk_path (i := 2) (by simp) (by simp) (K.dep 3 13 rfl) (hK.below (bl.trans (Below.mono K.grow bl.size))) eP)
  · exact st_move (.tmp 14) rfl (K.dep 4 14 rfl)
  · exact st_t2a (.tmp 9) rfl (K.dep 5 9 rfl)
  · exact st_t2b (.tmp 9) rfl (K.dep 5 9 rfl)
  · exact st_assign (.tmp 15) rfl (K.dep 6 15 rfl)
  · exact st_assign (.tmp 16) rfl (K.dep 7 16 rfl)
  intro f9 w9 A hb
  replace bl0 := bl
  replace x0 := (A.old 0 rfl).trans x0
  replace x1 := (A.old 1 rfl).trans x1
  replace x2 := (A.old 2 rfl).trans x2
  replace x3 := (A.old 3 rfl).trans x3
  have x4 : Fk.f (.hs ([p])) (f9.eval (.tmp 4)) w9 := A.has 8 4 rfl
  have x5 : f9.eval (.tmp 5) = .int .i64 0 := A.has 9 5 rfl
  have lt_m1 := Ob.lt m1
  replace m1 := Ob.below m1 hb
  have lt_m2 := Ob.lt m2
  replace m2 := Ob.below m2 hb
  have lt_m3 := Ob.lt m3
  replace m3 := Ob.below m3 hb
  replace bl := (bl.trans (Below.mono hb bl.size))
  replace sz := A.size.trans sz
  replace df := A.defs.trans df
  clear A hb
  show Code.wp _ _ _ _ _
  refine wp_seq ?_
  -- R3
  refine wp_all [.eq (.int .i64 0), .eq (.bool true), .eq (.bool true), .hs ([p]), .eq (.int .i64 ((([p]).length : Nat) : Int)), .eq (.bool true), .eq (.bool true), .eq (.bool true), .hs ([p]), .ph (p), .eq (.agg ((p).map V).toArray), .eq (.agg ((h1 1).map V).toArray), .eq (.agg ((h1 2).map V).toArray), .eq (.agg ((p).map V).toArray), .eq (.bool true), .eq (.bool true), .eq (.bool true), .eq (.agg ((h1 1).map V).toArray), .eq (.agg ((h1 2).map V).toArray), .eq (.agg ((h1 3).map V).toArray), .hc ([h1 1, h1 2, h1 3]), .eq (.agg ((q).map V).toArray), .hs ([p]), .ph (p), .eq (.agg ((p).map V).toArray), .eq (.agg ((h1 3).map V).toArray), .eq (.agg ((q).map V).toArray), .eq (.bool true), .eq (.bool true), .eq (.bool true)] Tryd.mixed (by kernel_rfl) (by kernel_rfl) (by rw [sz]; kernel_rfl) (by kernel_rfl) ⟨fun hw ac u K => ?_, fun hw ac u K => ?_, fun hw ac u K => ?_, fun hw ac u K => ?_, fun hw ac u K => ?_, fun hw ac u K => ?_, fun hw ac u K => ?_, fun hw ac u K => ?_, fun hw ac u K => ?_, fun hw ac u K => ?_, fun hw ac u K => ?_, fun hw ac u K => ?_, fun hw ac u K => ?_, fun hw ac u K => ?_, fun hw ac u K => ?_, fun hw ac u K => ?_, fun hw ac u K => ?_, fun hw ac u K => ?_, fun hw ac u K => ?_, fun hw ac u K => ?_, fun hw ac u K => ?_, fun hw ac u K => ?_, fun hw ac u K => ?_, fun hw ac u K => ?_, fun hw ac u K => ?_, fun hw ac u K => ?_, fun hw ac u K => ?_, fun hw ac u K => ?_, fun hw ac u K => ?_, fun hw ac u K => ?_, trivial⟩ ?_
  · exact st_move (.tmp 5) rfl ((K.old 5 rfl).trans x5)
  · exact st_eqi 38 (.tmp 17) (.const (.int .i64 0)) rfl .i64 (0) (0) (K.dep 0 17 rfl) rfl _ (by rfl)
  · exact st_move (.tmp 18) rfl (K.dep 1 18 rfl)
  · exact st_move (.tmp 4) rfl (f_at (K.old 4 rfl) (Fk.mono _ _ _ _ x4 K.grow))
  · exact st_lenh (.tmp 20) rfl (K.dep 3 20 rfl)
  · exact st_eqi 3 (.tmp 21) (.const (.int .i64 1)) rfl .i64 (((([p]).length : Nat) : Int)) (1) (K.dep 4 21 rfl) rfl _ (by simp)
  · exact st_pick_t (.tmp 19) (.tmp 22) (.const (.bool false)) rfl (K.dep 2 19 rfl) (K.dep 5 22 rfl)
  · exact st_move (.tmp 23) rfl (K.dep 6 23 rfl)
  · exact st_move (.tmp 4) rfl (f_at (K.old 4 rfl) (Fk.mono _ _ _ _ x4 K.grow))
  · exact st_idxh (.tmp 25) (.const (.int .i64 0)) rfl (K.dep 8 25 rfl) (0) (p) rfl rfl
  · exact st_loadh (.tmp 26) rfl (K.dep 9 26 rfl)
  · exact st_load24 (.tmp 1) rfl (g1) (h1 1) ((K.old 1 rfl).trans x1) (h1_len 1) (Ob.below m1 K.grow)
  · exact st_load24 (.tmp 2) rfl (g2) (h1 2) ((K.old 2 rfl).trans x2) (h1_len 2) (Ob.below m2 K.grow)
  · exact st_call 22 (.func 22) _ _ #[.agg ((h1 1).map V).toArray, .agg ((h1 2).map V).toArray] rfl rfl (arg2 (K.dep 11 28 rfl) (K.dep 12 29 rfl)) Tryd.enter22 (fk_node (h1_len 1) (h1_len 2) (hK.below (bl.trans (Below.mono K.grow bl.size))) ep)
  · exact st_eqh (.tmp 27) (.tmp 30) rfl (p) (p) hp hp (K.dep 10 27 rfl) (K.dep 13 30 rfl) _ (by simp)
  · exact st_pick_t (.tmp 24) (.tmp 31) (.const (.bool false)) rfl (K.dep 7 24 rfl) (K.dep 14 31 rfl)
  · exact st_move (.tmp 32) rfl (K.dep 15 32 rfl)
  · exact st_load24 (.tmp 1) rfl (g1) (h1 1) ((K.old 1 rfl).trans x1) (h1_len 1) (Ob.below m1 K.grow)
  · exact st_load24 (.tmp 2) rfl (g2) (h1 2) ((K.old 2 rfl).trans x2) (h1_len 2) (Ob.below m2 K.grow)
  · exact st_load24 (.tmp 3) rfl (g3) (h1 3) ((K.old 3 rfl).trans x3) (h1_len 3) (Ob.below m3 K.grow)
  · exact st_b3 (.tmp 34) (.tmp 35) (.tmp 36) rfl (K.dep 17 34 rfl) (K.dep 18 35 rfl) (K.dep 19 36 rfl)
  · exact st_call 8 (.func 8) _ _ #[ac.eval (.tmp 37)] rfl rfl (one_arg rfl) Tryd.enter8 (fk_of (root_any [h1 1, h1 2, h1 3] _ _ (by simp) (K.dep 20 37 rfl) (hK.below (bl.trans (Below.mono K.grow bl.size))) eR))
  · exact st_move (.tmp 4) rfl (f_at (K.old 4 rfl) (Fk.mono _ _ _ _ x4 K.grow))
  · exact st_idxh (.tmp 39) (.const (.int .i64 0)) rfl (K.dep 22 39 rfl) (0) (p) rfl rfl
  · exact st_loadh (.tmp 40) rfl (K.dep 23 40 rfl)
  · exact st_load24 (.tmp 3) rfl (g3) (h1 3) ((K.old 3 rfl).trans x3) (h1_len 3) (Ob.below m3 K.grow)
  · exact st_call 22 (.func 22) _ _ #[.agg ((p).map V).toArray, .agg ((h1 3).map V).toArray] rfl rfl (arg2 (K.dep 24 41 rfl) (K.dep 25 42 rfl)) Tryd.enter22 (fk_node hp (h1_len 3) (hK.below (bl.trans (Below.mono K.grow bl.size))) eq)
  · exact st_eqh (.tmp 38) (.tmp 43) rfl (q) (q) hq hq (K.dep 21 38 rfl) (K.dep 26 43 rfl) _ (by simp)
  · exact st_pick_t (.tmp 33) (.tmp 44) (.const (.bool false)) rfl (K.dep 16 33 rfl) (K.dep 27 44 rfl)
  · exact st_assign (.tmp 45) rfl (K.dep 28 45 rfl)
  intro f10 w10 A hb
  replace bl0 := bl
  clear x0
  replace x1 := (A.old 1 rfl).trans x1
  replace x2 := (A.old 2 rfl).trans x2
  replace x3 := (A.old 3 rfl).trans x3
  replace x4 := f_at (A.old 4 rfl) (Fk.mono _ _ _ _ x4 hb)
  replace x5 := (A.old 5 rfl).trans x5
  have x0 : f10.eval (.tmp 0) = .bool true := A.has 29 0 rfl
  have lt_m1 := Ob.lt m1
  replace m1 := Ob.below m1 hb
  have lt_m2 := Ob.lt m2
  replace m2 := Ob.below m2 hb
  have lt_m3 := Ob.lt m3
  replace m3 := Ob.below m3 hb
  replace bl := (bl.trans (Below.mono hb bl.size))
  replace sz := A.size.trans sz
  replace df := A.defs.trans df
  clear A hb
  clear x4
  clear x5
  show Code.wp _ _ _ _ _
  refine wp_ret ?_
  repeat (first | with_reducible refine then_ret ?_ | with_reducible refine block_ret ?_)
  exact bodyPost_ret (v := .bool true) (ret_slot rfl f10 _ x0 _ _) df ⟨rfl, bl⟩
end Go.Proofs.YtfbfngblocfdlaaDoor
namespace Go.Proofs.YtfbfngblocfdlaaDoor
set_option maxRecDepth 100000
open Go.RowKit
/-- A slice that has these slices of bytes. -/
def Fk.mg (ps : List Pt) : Fk := .inr (.inl ⟨fun v w => ∃ A C lb lo, v = .slice A ps.length C ∧ (0 < ps.length → A = some ⟨lb, lo, none⟩) ∧ Ls w lb lo ps, by
  rintro v w w' ⟨A, C, lb, lo, e, hg, h⟩ hb
  exact ⟨A, C, lb, lo, e, hg, h.below hb⟩⟩)
theorem mg_ok {ps : List Pt} {v : Value} {w : World} (h : (Fk.mg ps).f v w) {i : Nat} {p : Pt} (hi : ps[i]? = some p) : Sl w p.sp p.m p.c p.bs p.b p.o := by
  obtain ⟨A, C, lb, lo, e, _, hl⟩ := h
  exact hl.ok i p hi
theorem Tryd.elem33 : Tryd.prog.elem 33 = 35 := by kernel_rfl
theorem Tryd.sizeOf35m (w : World) : (sizeOf 35).run Tryd.prog w = .ok 1 w := by kernel_rfl
section
variable {Q : Exit → Act → World → Prop} {o : Oper} {a : Act} {w : World}
theorem st_lenm (x : Operand) (ho : o.op = .call { callee := .builtin .len, args := #[x], argTypes := #[33] }) {ps : List Pt} (h : (Fk.mg ps).f (a.eval x) w) : o.wp Tryd.prog a w (Ends a o.dst w (Fk.eq (.int .i64 ((ps.length : Nat) : Int))).f) Q := by
  obtain ⟨A, C, lb, lo, e, _, hl⟩ := h
  refine st_pure (v := .int .i64 (ps.length : Int)) ?_ rfl
  have h1 := run_len_slice (P := Tryd.prog) (w := w) 33 o.type A ps.length C (by rw [Tryd.elem33]; exact Tryd.under33)
  unfold execOp
  simp [ho, resolve, invoke, builtin, e, h1, goInt]
theorem st_idxm (x y : Operand) (ho : o.op = .indexAddr 33 x y) {ps : List Pt} (h : (Fk.mg ps).f (a.eval x) w) (i : Nat) (p : Pt) (hy : a.eval y = .int .i64 (i : Int)) (hi : ps[i]? = some p) : o.wp Tryd.prog a w (Ends a o.dst w (Fk.pv (.slice p.sp p.m p.c)).f) Q := by
  obtain ⟨A, C, lb, lo, e, hp, hl⟩ := h
  have hil : i < ps.length := (List.getElem?_eq_some_iff.1 hi).1
  have hp := hp (by omega)
  subst hp
  refine st_pure (v := .pointer (some ⟨lb, lo + i, none⟩)) ?_ ⟨lb, lo + i, rfl, hl.cell i p hi⟩
  have h1 := run_indexAt_slice (P := Tryd.prog) (w := w) 33 ⟨lb, lo, none⟩ ps.length C .i64 (i : Int) (by rw [Tryd.elem33]; exact Tryd.under33)
  rw [if_pos (by omega), Tryd.elem33, Tryd.sizeOf35m] at h1
  simp only [Result.andThen_ok, Int.toNat_natCast, Addr.add_mid, Nat.mul_one] at h1
  unfold execOp
  rw [ho]
  simp [e, hy, h1]
theorem st_loadsl (x : Operand) (ho : o.op = .load 35 x) {u : Value} (h : (Fk.pv u).f (a.eval x) w) : o.wp Tryd.prog a w (Ends a o.dst w (Fk.eq u).f) Q := by
  obtain ⟨b, so, e, hc⟩ := h
  exact st_loadc 35 x ho (by kernel_rfl) e hc
end
end Go.Proofs.YtfbfngblocfdlaaDoor
namespace Go.Proofs.YtfbfngblocfdlaaDoor
set_option maxRecDepth 100000
open Go.RowKit
/-- The hash of the leaf i. -/
def lvs (ps : List Pt) (i : Nat) : List (BitVec 8) := lf (((ps[i]?).map Pt.bs).getD [])
theorem lvs_len (ps : List Pt) (i : Nat) : (lvs ps i).length = 32 := lf_len _
theorem lvs_at {ps : List Pt} {i : Nat} {p : Pt} (h : ps[i]? = some p) : lvs ps i = lf p.bs := by unfold lvs; rw [h]; rfl
theorem firsts_at (L : Nat → List (BitVec 8)) {n i : Nat} (h : i < n) : (firsts L n)[i]? = some (L i) := by
  unfold firsts
  rw [List.getElem?_map, List.getElem?_range h]
  rfl
theorem leaves_any {ps : List Pt} (h40 : ps.length ≤ 1000) (hmx : ∀ p ∈ ps, p.bs.length ≤ 140737488351232) (w : World) {v : Value} (hv : (Fk.mg ps).f v w) (hK : Tab w) {S : List (List (BitVec 8))} (eS : Box (firsts (lvs ps) ps.length = S)) :
    Calls Tryd.prog 13 #[v] w fun e w' => ∃ u, e = .returned u ∧ (Fk.hs S).f u w' ∧ Below w.heap.size w w' := by
  go_enter Tryd.func13, Tryd.ntmps13
  refine code_both (fun f w1 => f.tmps.size = 23 ∧ f.defers = [] ∧ f.eval (.tmp 0) = v ∧ Below w.heap.size w (w1)) ⟨rfl, rfl, rfl, Below.refl _ _⟩ ?_
  rintro f0 w0 ⟨sz, df, x0, bl⟩
  have bl0 := bl
  refine wp_seq ?_
  -- R0
  refine wp_all_seq [.eq (.slice none 0 0)] (by kernel_rfl) (by kernel_rfl) (by rw [sz]; kernel_rfl) (by kernel_rfl) ⟨fun hw ac u K => ?_, trivial⟩ ?_
  · exact st_assign (.const (.slice none 0 0)) rfl rfl
  intro f1 w1 A hb
  replace bl0 := bl
  replace x0 := (A.old 0 rfl).trans x0
  have x2 : f1.eval (.tmp 2) = .slice none 0 0 := A.has 0 2 rfl
  replace bl := (bl.trans (Below.mono hb bl.size))
  replace sz := A.size.trans sz
  replace df := A.defs.trans df
  clear A hb
  show Code.wp _ _ _ _ _
  refine wp_seq ?_
  -- R1
  refine wp_all_seq [.eq (v), .eq (.int .i64 (((ps).length : Nat) : Int)), .nz w.heap.size (ps).length, .nz w.heap.size (ps).length] (by kernel_rfl) (by kernel_rfl) (by rw [sz]; kernel_rfl) (by kernel_rfl) ⟨fun hw ac u K => ?_, fun hw ac u K => ?_, fun hw ac u K => ?_, fun hw ac u K => ?_, trivial⟩ ?_
  · exact st_move (.tmp 0) rfl ((K.old 0 rfl).trans x0)
  · exact st_lenm (.tmp 6) rfl (fk_val (K.dep 0 6 rfl) (Fk.mono _ _ _ _ hv (bl.trans (Below.mono K.grow bl.size))))
  · exact st_makeh (.tmp 7) (.tmp 7) rfl (ps).length (by omega) (K.dep 1 7 rfl) (K.dep 1 7 rfl) _ (Nat.le_trans bl.size K.grow.size)
  · exact st_assign (.tmp 8) rfl (K.dep 2 8 rfl)
  intro f2 w2 A hb
  replace bl0 := bl
  replace x0 := (A.old 0 rfl).trans x0
  replace x2 := (A.old 2 rfl).trans x2
  have x3 : Fk.f (.nz w.heap.size (ps).length) (f2.eval (.tmp 3)) w2 := A.has 3 3 rfl
  replace bl := (bl.trans (Below.mono hb bl.size))
  replace sz := A.size.trans sz
  replace df := A.defs.trans df
  clear A hb
  obtain ⟨g3, hg3, e3, R3⟩ := x3
  have x3 : Fk.f (.eq (.slice (some ⟨g3, 0, none⟩) (ps).length (ps).length)) (f2.eval (.tmp 3)) w2 := e3
  clear e3
  have hw3 : w.heap.size ≤ g3 := hg3
  show Code.wp _ _ _ _ _
  refine wp_seq ?_
  refine wp_seq ?_
  -- R2
  refine wp_all_seq [.eq (v), .eq (.int .i64 (((ps).length : Nat) : Int)), .eq (.int .i64 0)] (by kernel_rfl) (by kernel_rfl) (by rw [sz]; kernel_rfl) (by kernel_rfl) ⟨fun hw ac u K => ?_, fun hw ac u K => ?_, fun hw ac u K => ?_, trivial⟩ ?_
  · exact st_move (.tmp 0) rfl ((K.old 0 rfl).trans x0)
  · exact st_lenm (.tmp 9) rfl (fk_val (K.dep 0 9 rfl) (Fk.mono _ _ _ _ hv (bl.trans (Below.mono K.grow bl.size))))
  · exact st_move (.const (.int .i64 0)) rfl rfl
  intro f3 w3 A hb
  replace bl0 := bl
  replace x0 := (A.old 0 rfl).trans x0
  replace x2 := (A.old 2 rfl).trans x2
  replace x3 := (A.old 3 rfl).trans x3
  have x9 : f3.eval (.tmp 9) = v := A.has 0 9 rfl
  have x10 : f3.eval (.tmp 10) = .int .i64 (((ps).length : Nat) : Int) := A.has 1 10 rfl
  have x11 : f3.eval (.tmp 11) = .int .i64 0 := A.has 2 11 rfl
  replace R3 := Rw.below R3 hb
  replace bl := (bl.trans (Below.mono hb bl.size))
  replace sz := A.size.trans sz
  replace df := A.defs.trans df
  clear A hb
  show Code.wp _ _ _ _ _
  refine wp_block ?_
  refine wp_loop (fun f v1 => ∃ k : Nat, k ≤ (ps).length ∧ f.tmps.size = 23 ∧ f.defers = [] ∧ f.eval (.tmp 0) = v ∧ f.eval (.tmp 2) = .slice none 0 0 ∧ f.eval (.tmp 3) = .slice (some ⟨g3, 0, none⟩) (ps).length (ps).length ∧ f.eval (.tmp 9) = v ∧ f.eval (.tmp 10) = .int .i64 (((ps).length : Nat) : Int) ∧ f.eval (.tmp 11) = .int .i64 ((k : Nat) : Int) ∧ Rw v1 g3 (prt (ps).length (lvs ps) k) ∧ Below w.heap.size w (v1)) (fun f _ => (ps).length - (intOf (f.eval (.tmp 11))).toNat) ⟨0, Nat.zero_le _, sz, df, x0, x2, x3, x9, x10, x11, (by rw [prt_zero]; exact R3), bl⟩ ?_
  intro f4 w4 hI
  clear sz df bl bl0 x0 x2 x3 x9 x10 x11 R3
  obtain ⟨k, hk8, sz, df, x0, x2, x3, x9, x10, x11, R3, bl⟩ := hI
  have bl0 := bl
  have hcnt := x11
  refine wp_seq ?_
  by_cases hlt : k < (ps).length
  rotate_left
  · skip
    -- R3
    refine wp_all_seq [.eq (.bool false)] (by kernel_rfl) (by kernel_rfl) (by rw [sz]; kernel_rfl) (by kernel_rfl) ⟨fun hw ac u K => ?_, trivial⟩ ?_
    · exact st_lss 3 (.tmp 11) (.tmp 10) rfl .i64 (((k : Nat) : Int)) ((((ps).length : Nat) : Int)) ((K.old 11 rfl).trans x11) ((K.old 10 rfl).trans x10) _ (by rw [eq_comm, decide_eq_false_iff_not]; exact fun h => hlt (Int.ofNat_lt.1 h))
    intro f5 w5 A hb
    replace bl0 := bl
    replace x0 := (A.old 0 rfl).trans x0
    replace x2 := (A.old 2 rfl).trans x2
    replace x3 := (A.old 3 rfl).trans x3
    replace x9 := (A.old 9 rfl).trans x9
    replace x10 := (A.old 10 rfl).trans x10
    replace x11 := (A.old 11 rfl).trans x11
    have x12 : f5.eval (.tmp 12) = .bool false := A.has 0 12 rfl
    replace R3 := Rw.below R3 hb
    replace bl := (bl.trans (Below.mono hb bl.size))
    replace sz := A.size.trans sz
    replace df := A.defs.trans df
    clear A hb
    show Code.wp _ _ _ _ _
    refine wp_seq ?_
    refine wp_cond_false x12 ?_
    refine wp_exit ?_
    show Code.wp _ _ _ _ _
    refine wp_seq ?_
    -- R7
    refine wp_all_seq [.eq (.slice (some ⟨g3, 0, none⟩) (ps).length (ps).length), .eq (.slice (some ⟨g3, 0, none⟩) (ps).length (ps).length)] (by kernel_rfl) (by kernel_rfl) (by rw [sz]; kernel_rfl) (by kernel_rfl) ⟨fun hw ac u K => ?_, fun hw ac u K => ?_, trivial⟩ ?_
    · exact st_move (.tmp 3) rfl ((K.old 3 rfl).trans x3)
    · exact st_assign (.tmp 22) rfl (K.dep 0 22 rfl)
    intro f6 w6 A hb
    replace bl0 := bl
    replace x0 := (A.old 0 rfl).trans x0
    clear x2
    replace x3 := (A.old 3 rfl).trans x3
    replace x9 := (A.old 9 rfl).trans x9
    replace x10 := (A.old 10 rfl).trans x10
    replace x11 := (A.old 11 rfl).trans x11
    replace x12 := (A.old 12 rfl).trans x12
    have x2 : f6.eval (.tmp 2) = .slice (some ⟨g3, 0, none⟩) (ps).length (ps).length := A.has 1 2 rfl
    replace R3 := Rw.below R3 hb
    replace bl := (bl.trans (Below.mono hb bl.size))
    replace sz := A.size.trans sz
    replace df := A.defs.trans df
    clear A hb
    show Code.wp _ _ _ _ _
    refine wp_ret ?_
    repeat (first | with_reducible refine then_ret ?_ | with_reducible refine block_ret ?_)
    obtain rfl : k = (ps).length := by omega
    rw [prt_all, eS.out] at R3
    exact bodyPost_ret (v := f6.eval (.tmp 2)) (ret_slot rfl f6 _ rfl _ _) df ⟨_, rfl, by rw [show f6.eval (.tmp 2) = _ from x2]; exact ⟨_, _, g3, 0, by rw [← eS.out, firsts_len], R3.hl⟩, bl⟩
  obtain ⟨p, hpk⟩ : ∃ p, ps[k]? = some p := ⟨_, List.getElem?_eq_getElem hlt⟩
  have hpl := hmx p (List.mem_of_getElem? hpk)
  have hsl : (Fk.sl p.bs).f (.slice p.sp p.m p.c) w := ⟨_, _, _, _, _, rfl, mg_ok hv hpk⟩
  obtain ⟨y, ey0⟩ : ∃ y, Box (lvs ps k = y) := ⟨_, ⟨rfl⟩⟩
  have hy : y.length = 32 := by rw [← ey0.out]; exact lvs_len _ _
  have ey : Box (lf p.bs = y) := ⟨by rw [← lvs_at hpk]; exact ey0.out⟩
  -- R3
  refine wp_all_seq [.eq (.bool true)] (by kernel_rfl) (by kernel_rfl) (by rw [sz]; kernel_rfl) (by kernel_rfl) ⟨fun hw ac u K => ?_, trivial⟩ ?_
  · exact st_lss 3 (.tmp 11) (.tmp 10) rfl .i64 (((k : Nat) : Int)) ((((ps).length : Nat) : Int)) ((K.old 11 rfl).trans x11) ((K.old 10 rfl).trans x10) _ (by rw [eq_comm, decide_eq_true_iff]; exact Int.ofNat_lt.2 hlt)
  intro f5 w5 A hb
  replace bl0 := bl
  replace x0 := (A.old 0 rfl).trans x0
  replace x2 := (A.old 2 rfl).trans x2
  replace x3 := (A.old 3 rfl).trans x3
  replace x9 := (A.old 9 rfl).trans x9
  replace x10 := (A.old 10 rfl).trans x10
  replace x11 := (A.old 11 rfl).trans x11
  have x12 : f5.eval (.tmp 12) = .bool true := A.has 0 12 rfl
  replace R3 := Rw.below R3 hb
  replace bl := (bl.trans (Below.mono hb bl.size))
  replace sz := A.size.trans sz
  replace df := A.defs.trans df
  clear A hb
  show Code.wp _ _ _ _ _
  refine wp_seq ?_
  refine wp_cond_true x12 ?_
  refine wp_skip ?_
  show Code.wp _ _ _ _ _
  refine wp_seq ?_
  refine wp_block ?_
  refine wp_seq ?_
  -- R4
  refine wp_all_seq [.eq (.int .i64 ((k : Nat) : Int)), .pv (.slice p.sp p.m p.c), .eq (.slice p.sp p.m p.c), .eq (.int .i64 ((k : Nat) : Int)), .eq (.slice p.sp p.m p.c)] (by kernel_rfl) (by kernel_rfl) (by rw [sz]; kernel_rfl) (by kernel_rfl) ⟨fun hw ac u K => ?_, fun hw ac u K => ?_, fun hw ac u K => ?_, fun hw ac u K => ?_, fun hw ac u K => ?_, trivial⟩ ?_
  · exact st_move (.tmp 11) rfl ((K.old 11 rfl).trans x11)
  · exact st_idxm (.tmp 9) (.tmp 11) rfl (fk_val ((K.old 9 rfl).trans x9) (Fk.mono _ _ _ _ hv (bl.trans (Below.mono K.grow bl.size)))) k p ((K.old 11 rfl).trans x11) hpk
  · exact st_loadsl (.tmp 14) rfl (K.dep 1 14 rfl)
  · exact st_assign (.tmp 13) rfl (K.dep 0 13 rfl)
  · exact st_assign (.tmp 15) rfl (K.dep 2 15 rfl)
  intro f6 w6 A hb
  replace bl0 := bl
  replace x0 := (A.old 0 rfl).trans x0
  replace x2 := (A.old 2 rfl).trans x2
  replace x3 := (A.old 3 rfl).trans x3
  replace x9 := (A.old 9 rfl).trans x9
  replace x10 := (A.old 10 rfl).trans x10
  replace x11 := (A.old 11 rfl).trans x11
  replace x12 := (A.old 12 rfl).trans x12
  have x4 : f6.eval (.tmp 4) = .int .i64 ((k : Nat) : Int) := A.has 3 4 rfl
  have x5 : f6.eval (.tmp 5) = .slice p.sp p.m p.c := A.has 4 5 rfl
  replace R3 := Rw.below R3 hb
  replace bl := (bl.trans (Below.mono hb bl.size))
  replace sz := A.size.trans sz
  replace df := A.defs.trans df
  clear A hb
  show Code.wp _ _ _ _ _
  -- R5
  refine wp_region_seq [.eq (.slice (some ⟨g3, 0, none⟩) (ps).length (ps).length), .eq (.int .i64 ((k : Nat) : Int)), .eq (.slice p.sp p.m p.c), .eq (.agg ((y).map V).toArray), .eq (.pointer (some ⟨g3, k * 32, none⟩))] (by kernel_rfl) (by kernel_rfl) (by rw [sz]; kernel_rfl) (by kernel_rfl) ⟨fun hw ac u K => ?_, fun hw ac u K => ?_, fun hw ac u K => ?_, fun hw ac u K => ?_, fun hw ac u K => ?_, trivial⟩ ?_
  · exact st_move (.tmp 3) rfl ((K.old 3 rfl).trans x3)
  · exact st_move (.tmp 4) rfl ((K.old 4 rfl).trans x4)
  · exact st_move (.tmp 5) rfl ((K.old 5 rfl).trans x5)
  · exact st_call 14 (.func 14) _ _ #[.slice p.sp p.m p.c] rfl rfl (one_arg (K.dep 2 18 rfl)) Tryd.enter14 (fk_leaf hpl (hK.below (bl.trans (Below.mono K.grow bl.size))) (Fk.mono _ _ _ _ hsl (bl.trans (Below.mono K.grow bl.size))) ey)
  · exact st_idxr (.tmp 16) (.tmp 17) rfl g3 k (ps).length (K.dep 0 16 rfl) (K.dep 1 17 rfl) hlt
  intro f7 w7 A hb
  have S_R3 := R3
  have hbS0 := Below.refl w6.heap.size w6
  have hbS := hb
  replace bl0 := bl
  replace x0 := (A.old 0 rfl).trans x0
  replace x2 := (A.old 2 rfl).trans x2
  replace x3 := (A.old 3 rfl).trans x3
  replace x9 := (A.old 9 rfl).trans x9
  replace x10 := (A.old 10 rfl).trans x10
  replace x11 := (A.old 11 rfl).trans x11
  replace x12 := (A.old 12 rfl).trans x12
  replace x4 := (A.old 4 rfl).trans x4
  replace x5 := (A.old 5 rfl).trans x5
  have x19 : f7.eval (.tmp 19) = .agg ((y).map V).toArray := A.has 3 19 rfl
  have x20 : f7.eval (.tmp 20) = .pointer (some ⟨g3, k * 32, none⟩) := A.has 4 20 rfl
  replace R3 := Rw.below R3 hb
  replace bl := (bl.trans (Below.mono hb bl.size))
  replace sz := A.size.trans sz
  replace df := A.defs.trans df
  clear A hb
  clear x4
  clear x5
  refine wl_storew rfl (.tmp 20) (.tmp 19) rfl rfl g3 (k) (y) _ x20 x19 R3 (by rw [prt_len]; exact hlt) hy ?_
  replace R3 := Rw.store R3 k y (by rw [prt_len]; exact hlt) hy
  rw [show (prt (ps).length (lvs ps) k).set k y = prt (ps).length (lvs ps) (k + 1) from by rw [← ey0.out]; exact prt_set _ _ _] at R3
  replace bl := below_setCells hw3 ((y).map V) (k * 32) _ bl
  generalize w7.setCells g3 (k * 32) ((y).map V) = w8b at R3 bl ⊢
  refine wpList_nil ?_
  clear hbS hbS0 S_R3
  clear x19
  clear x20
  show Code.wp _ _ _ _ _
  -- R6
  refine wp_region_seq [.eq (.int .i64 ((k + 1 : Nat) : Int))] (by kernel_rfl) (by kernel_rfl) (by rw [sz]; kernel_rfl) (by kernel_rfl) ⟨fun hw ac u K => ?_, trivial⟩ ?_
  · exact st_add (.tmp 11) (.const (.int .i64 1)) rfl (k) (1) (k + 1) ((K.old 11 rfl).trans x11) rfl (by omega) (by omega)
  intro f9 w9 A hb
  replace bl0 := bl
  replace x0 := (A.old 0 rfl).trans x0
  replace x2 := (A.old 2 rfl).trans x2
  replace x3 := (A.old 3 rfl).trans x3
  replace x9 := (A.old 9 rfl).trans x9
  replace x10 := (A.old 10 rfl).trans x10
  replace x11 := (A.old 11 rfl).trans x11
  replace x12 := (A.old 12 rfl).trans x12
  have x21 : f9.eval (.tmp 21) = .int .i64 ((k + 1 : Nat) : Int) := A.has 0 21 rfl
  replace R3 := Rw.below R3 hb
  replace bl := (bl.trans (Below.mono hb bl.size))
  replace sz := A.size.trans sz
  replace df := A.defs.trans df
  clear A hb
  refine wl_one (.eq (.int .i64 ((k + 1 : Nat) : Int))) rfl 11 rfl (by rw [sz]; decide) (st_move (.tmp 21) rfl x21) ?_
  intro f10 w10 df2 sz2 old2 new2 hb
  replace bl0 := bl
  replace x0 := (old2 0 rfl).trans x0
  replace x2 := (old2 2 rfl).trans x2
  replace x3 := (old2 3 rfl).trans x3
  replace x9 := (old2 9 rfl).trans x9
  replace x10 := (old2 10 rfl).trans x10
  clear x11
  replace x12 := (old2 12 rfl).trans x12
  replace x21 := (old2 21 rfl).trans x21
  have x11 : f10.eval (.tmp 11) = .int .i64 ((k + 1 : Nat) : Int) := new2
  replace R3 := Rw.below R3 hb
  replace bl := (bl.trans (Below.mono hb bl.size))
  replace sz := sz2.trans sz
  replace df := df2.trans df
  clear df2 sz2 old2 new2 hb
  refine wpList_nil ?_
  clear x21
  show (∃ _, _) ∧ _
  refine ⟨⟨k + 1, by omega, sz, df, x0, x2, x3, x9, x10, x11, R3, bl⟩, ?_⟩
  rw [show f10.eval (.tmp 11) = _ from x11, show _ = _ from hcnt]
  simp [intOf]
  omega
theorem leaves_law {ps : List Pt} (hmx : ∀ p ∈ ps, p.bs.length ≤ 140737488351232) (w : World) (hK : Tab w) {v : Value} (hv : (Fk.mg ps).f v w) :
    Calls Tryd.prog 5 #[v] w fun e w' => e = .returned (.bool true) ∧ Below w.heap.size w w' := by
  go_enter Tryd.func5, Tryd.ntmps5
  refine code_both (fun f w1 => f.tmps.size = 37 ∧ f.defers = [] ∧ f.eval (.tmp 0) = v ∧ Below w.heap.size w (w1)) ⟨rfl, rfl, rfl, Below.refl _ _⟩ ?_
  rintro f0 w0 ⟨sz, df, x0, bl⟩
  have bl0 := bl
  refine wp_seq ?_
  -- R0
  refine wp_all_seq [.eq (.bool false)] (by kernel_rfl) (by kernel_rfl) (by rw [sz]; kernel_rfl) (by kernel_rfl) ⟨fun hw ac u K => ?_, trivial⟩ ?_
  · exact st_assign (.const (.bool false)) rfl rfl
  intro f1 w1 A hb
  replace bl0 := bl
  replace x0 := (A.old 0 rfl).trans x0
  have x2 : f1.eval (.tmp 2) = .bool false := A.has 0 2 rfl
  replace bl := (bl.trans (Below.mono hb bl.size))
  replace sz := A.size.trans sz
  replace df := A.defs.trans df
  clear A hb
  show Code.wp _ _ _ _ _
  refine wp_seq ?_
  refine wp_seq ?_
  by_cases h40 : 40 < (ps).length
  rotate_left
  · skip
    obtain ⟨S, eS⟩ : ∃ S, Box (firsts (lvs ps) ps.length = S) := ⟨_, ⟨rfl⟩⟩
    have hSl : S.length = ps.length := by rw [← eS.out, firsts_len]
    -- R1
    refine wp_all_seq [.eq (v), .eq (.int .i64 (((ps).length : Nat) : Int)), .eq (.bool false)] (by kernel_rfl) (by kernel_rfl) (by rw [sz]; kernel_rfl) (by kernel_rfl) ⟨fun hw ac u K => ?_, fun hw ac u K => ?_, fun hw ac u K => ?_, trivial⟩ ?_
    · exact st_move (.tmp 0) rfl ((K.old 0 rfl).trans x0)
    · exact st_lenm (.tmp 6) rfl (fk_val (K.dep 0 6 rfl) (Fk.mono _ _ _ _ hv (bl.trans (Below.mono K.grow bl.size))))
    · exact st_gtr 3 (.tmp 7) (.const (.int .i64 40)) rfl .i64 ((((ps).length : Nat) : Int)) (40) (K.dep 1 7 rfl) rfl _ (by rw [eq_comm, decide_eq_false_iff_not]; omega)
    intro f2 w2 A hb
    replace bl0 := bl
    replace x0 := (A.old 0 rfl).trans x0
    replace x2 := (A.old 2 rfl).trans x2
    have x8 : f2.eval (.tmp 8) = .bool false := A.has 2 8 rfl
    replace bl := (bl.trans (Below.mono hb bl.size))
    replace sz := A.size.trans sz
    replace df := A.defs.trans df
    clear A hb
    show Code.wp _ _ _ _ _
    refine wp_cond_false x8 ?_
    refine wp_skip ?_
    show Code.wp _ _ _ _ _
    refine wp_seq ?_
    -- R3
    refine wp_all_seq [.eq (v), .hs (S), .hs (S)] (by kernel_rfl) (by kernel_rfl) (by rw [sz]; kernel_rfl) (by kernel_rfl) ⟨fun hw ac u K => ?_, fun hw ac u K => ?_, fun hw ac u K => ?_, trivial⟩ ?_
    · exact st_move (.tmp 0) rfl ((K.old 0 rfl).trans x0)
    · exact st_call 13 (.func 13) _ _ #[v] rfl rfl (one_arg (K.dep 0 10 rfl)) Tryd.enter13 (leaves_any (by omega) hmx _ (Fk.mono _ _ _ _ hv (bl.trans (Below.mono K.grow bl.size))) (hK.below (bl.trans (Below.mono K.grow bl.size))) eS)
    · exact st_assign (.tmp 11) rfl (K.dep 1 11 rfl)
    intro f3 w3 A hb
    replace bl0 := bl
    replace x0 := (A.old 0 rfl).trans x0
    replace x2 := (A.old 2 rfl).trans x2
    replace x8 := (A.old 8 rfl).trans x8
    have x3 : Fk.f (.hs (S)) (f3.eval (.tmp 3)) w3 := A.has 2 3 rfl
    replace bl := (bl.trans (Below.mono hb bl.size))
    replace sz := A.size.trans sz
    replace df := A.defs.trans df
    clear A hb
    obtain ⟨A3, C3, lb3, lo3, e3, q3⟩ := x3
    have v3 : Fk.f (.hs (S)) (.slice A3 (S).length C3) w3 := ⟨A3, C3, lb3, lo3, rfl, q3⟩
    have x3 : Fk.f (.eq (.slice A3 (S).length C3)) (f3.eval (.tmp 3)) w3 := e3
    clear e3
    show Code.wp _ _ _ _ _
    refine wp_seq ?_
    refine wp_seq ?_
    -- R4
    refine wp_all_seq [.eq (.slice A3 (S).length C3), .eq (.int .i64 (((S).length : Nat) : Int)), .eq (v), .eq (.int .i64 (((ps).length : Nat) : Int)), .eq (.bool false)] (by kernel_rfl) (by kernel_rfl) (by rw [sz]; kernel_rfl) (by kernel_rfl) ⟨fun hw ac u K => ?_, fun hw ac u K => ?_, fun hw ac u K => ?_, fun hw ac u K => ?_, fun hw ac u K => ?_, trivial⟩ ?_
    · exact st_move (.tmp 3) rfl ((K.old 3 rfl).trans x3)
    · exact st_lenh (.tmp 12) rfl (fk_val (K.dep 0 12 rfl) (Fk.mono _ _ _ _ v3 K.grow))
    · exact st_move (.tmp 0) rfl ((K.old 0 rfl).trans x0)
    · exact st_lenm (.tmp 14) rfl (fk_val (K.dep 2 14 rfl) (Fk.mono _ _ _ _ hv (bl.trans (Below.mono K.grow bl.size))))
    · exact st_neqi 3 (.tmp 13) (.tmp 15) rfl .i64 ((((S).length : Nat) : Int)) ((((ps).length : Nat) : Int)) (K.dep 1 13 rfl) (K.dep 3 15 rfl) _ (by simp [hSl])
    intro f4 w4 A hb
    replace bl0 := bl
    replace x0 := (A.old 0 rfl).trans x0
    replace x2 := (A.old 2 rfl).trans x2
    replace x8 := (A.old 8 rfl).trans x8
    replace x3 := (A.old 3 rfl).trans x3
    have x16 : f4.eval (.tmp 16) = .bool false := A.has 4 16 rfl
    replace v3 := Fk.mono _ _ _ _ v3 hb
    replace bl := (bl.trans (Below.mono hb bl.size))
    replace sz := A.size.trans sz
    replace df := A.defs.trans df
    clear A hb
    show Code.wp _ _ _ _ _
    refine wp_cond_false x16 ?_
    refine wp_skip ?_
    show Code.wp _ _ _ _ _
    refine wp_seq ?_
    refine wp_seq ?_
    -- R6
    refine wp_all_seq [.eq (v), .eq (.int .i64 (((ps).length : Nat) : Int)), .eq (.int .i64 0)] (by kernel_rfl) (by kernel_rfl) (by rw [sz]; kernel_rfl) (by kernel_rfl) ⟨fun hw ac u K => ?_, fun hw ac u K => ?_, fun hw ac u K => ?_, trivial⟩ ?_
    · exact st_move (.tmp 0) rfl ((K.old 0 rfl).trans x0)
    · exact st_lenm (.tmp 17) rfl (fk_val (K.dep 0 17 rfl) (Fk.mono _ _ _ _ hv (bl.trans (Below.mono K.grow bl.size))))
    · exact st_move (.const (.int .i64 0)) rfl rfl
    intro f5 w5 A hb
    replace bl0 := bl
    replace x0 := (A.old 0 rfl).trans x0
    replace x2 := (A.old 2 rfl).trans x2
    replace x8 := (A.old 8 rfl).trans x8
    replace x3 := (A.old 3 rfl).trans x3
    replace x16 := (A.old 16 rfl).trans x16
    have x17 : f5.eval (.tmp 17) = v := A.has 0 17 rfl
    have x18 : f5.eval (.tmp 18) = .int .i64 (((ps).length : Nat) : Int) := A.has 1 18 rfl
    have x19 : f5.eval (.tmp 19) = .int .i64 0 := A.has 2 19 rfl
    replace v3 := Fk.mono _ _ _ _ v3 hb
    replace bl := (bl.trans (Below.mono hb bl.size))
    replace sz := A.size.trans sz
    replace df := A.defs.trans df
    clear A hb
    show Code.wp _ _ _ _ _
    refine wp_block ?_
    refine wp_loop (fun f v1 => ∃ k : Nat, k ≤ (ps).length ∧ f.tmps.size = 37 ∧ f.defers = [] ∧ f.eval (.tmp 0) = v ∧ f.eval (.tmp 2) = .bool false ∧ f.eval (.tmp 8) = .bool false ∧ f.eval (.tmp 3) = .slice A3 (S).length C3 ∧ f.eval (.tmp 16) = .bool false ∧ f.eval (.tmp 17) = v ∧ f.eval (.tmp 18) = .int .i64 (((ps).length : Nat) : Int) ∧ f.eval (.tmp 19) = .int .i64 ((k : Nat) : Int) ∧ Fk.f (.hs (S)) (.slice A3 (S).length C3) v1 ∧ Below w.heap.size w (v1)) (fun f _ => (ps).length - (intOf (f.eval (.tmp 19))).toNat) ⟨0, Nat.zero_le _, sz, df, x0, x2, x8, x3, x16, x17, x18, x19, v3, bl⟩ ?_
    intro f6 w6 hI
    clear sz df bl bl0 x0 x2 x8 x3 x16 x17 x18 x19 v3
    obtain ⟨k, hk8, sz, df, x0, x2, x8, x3, x16, x17, x18, x19, v3, bl⟩ := hI
    have bl0 := bl
    have hcnt := x19
    refine wp_seq ?_
    by_cases hlt : k < (ps).length
    rotate_left
    · skip
      -- R7
      refine wp_all_seq [.eq (.bool false)] (by kernel_rfl) (by kernel_rfl) (by rw [sz]; kernel_rfl) (by kernel_rfl) ⟨fun hw ac u K => ?_, trivial⟩ ?_
      · exact st_lss 3 (.tmp 19) (.tmp 18) rfl .i64 (((k : Nat) : Int)) ((((ps).length : Nat) : Int)) ((K.old 19 rfl).trans x19) ((K.old 18 rfl).trans x18) _ (by rw [eq_comm, decide_eq_false_iff_not]; exact fun h => hlt (Int.ofNat_lt.1 h))
      intro f7 w7 A hb
      replace bl0 := bl
      replace x0 := (A.old 0 rfl).trans x0
      replace x2 := (A.old 2 rfl).trans x2
      replace x8 := (A.old 8 rfl).trans x8
      replace x3 := (A.old 3 rfl).trans x3
      replace x16 := (A.old 16 rfl).trans x16
      replace x17 := (A.old 17 rfl).trans x17
      replace x18 := (A.old 18 rfl).trans x18
      replace x19 := (A.old 19 rfl).trans x19
      have x20 : f7.eval (.tmp 20) = .bool false := A.has 0 20 rfl
      replace v3 := Fk.mono _ _ _ _ v3 hb
      replace bl := (bl.trans (Below.mono hb bl.size))
      replace sz := A.size.trans sz
      replace df := A.defs.trans df
      clear A hb
      show Code.wp _ _ _ _ _
      refine wp_seq ?_
      refine wp_cond_false x20 ?_
      refine wp_exit ?_
      show Code.wp _ _ _ _ _
      refine wp_seq ?_
      -- R14
      refine wp_all_seq [.eq (.bool true), .eq (.bool true)] (by kernel_rfl) (by kernel_rfl) (by rw [sz]; kernel_rfl) (by kernel_rfl) ⟨fun hw ac u K => ?_, fun hw ac u K => ?_, trivial⟩ ?_
      · exact st_call 10 (.func 10) _ _ #[] rfl rfl rfl Tryd.enter10 (fk_of (awake_any _ (hK.below (bl.trans (Below.mono K.grow bl.size)))))
      · exact st_assign (.tmp 36) rfl (K.dep 0 36 rfl)
      intro f8 w8 A hb
      replace bl0 := bl
      replace x0 := (A.old 0 rfl).trans x0
      clear x2
      replace x8 := (A.old 8 rfl).trans x8
      replace x3 := (A.old 3 rfl).trans x3
      replace x16 := (A.old 16 rfl).trans x16
      replace x17 := (A.old 17 rfl).trans x17
      replace x18 := (A.old 18 rfl).trans x18
      replace x19 := (A.old 19 rfl).trans x19
      replace x20 := (A.old 20 rfl).trans x20
      have x2 : f8.eval (.tmp 2) = .bool true := A.has 1 2 rfl
      replace v3 := Fk.mono _ _ _ _ v3 hb
      replace bl := (bl.trans (Below.mono hb bl.size))
      replace sz := A.size.trans sz
      replace df := A.defs.trans df
      clear A hb
      show Code.wp _ _ _ _ _
      refine wp_ret ?_
      repeat (first | with_reducible refine then_ret ?_ | with_reducible refine block_ret ?_)
      exact bodyPost_ret (v := .bool true) (ret_slot rfl f8 _ x2 _ _) df ⟨rfl, bl⟩
    obtain ⟨p, hpk⟩ : ∃ p, ps[k]? = some p := ⟨_, List.getElem?_eq_getElem hlt⟩
    have hpl := hmx p (List.mem_of_getElem? hpk)
    have hsl : (Fk.sl p.bs).f (.slice p.sp p.m p.c) w := ⟨_, _, _, _, _, rfl, mg_ok hv hpk⟩
    obtain ⟨y, ey0⟩ : ∃ y, Box (lvs ps k = y) := ⟨_, ⟨rfl⟩⟩
    have hy : y.length = 32 := by rw [← ey0.out]; exact lvs_len _ _
    have ey : Box (lf p.bs = y) := ⟨by rw [← lvs_at hpk]; exact ey0.out⟩
    have hyk : S[k]? = some y := by rw [← eS.out, firsts_at _ hlt, ey0.out]
    -- R7
    refine wp_all_seq [.eq (.bool true)] (by kernel_rfl) (by kernel_rfl) (by rw [sz]; kernel_rfl) (by kernel_rfl) ⟨fun hw ac u K => ?_, trivial⟩ ?_
    · exact st_lss 3 (.tmp 19) (.tmp 18) rfl .i64 (((k : Nat) : Int)) ((((ps).length : Nat) : Int)) ((K.old 19 rfl).trans x19) ((K.old 18 rfl).trans x18) _ (by rw [eq_comm, decide_eq_true_iff]; exact Int.ofNat_lt.2 hlt)
    intro f7 w7 A hb
    replace bl0 := bl
    replace x0 := (A.old 0 rfl).trans x0
    replace x2 := (A.old 2 rfl).trans x2
    replace x8 := (A.old 8 rfl).trans x8
    replace x3 := (A.old 3 rfl).trans x3
    replace x16 := (A.old 16 rfl).trans x16
    replace x17 := (A.old 17 rfl).trans x17
    replace x18 := (A.old 18 rfl).trans x18
    replace x19 := (A.old 19 rfl).trans x19
    have x20 : f7.eval (.tmp 20) = .bool true := A.has 0 20 rfl
    replace v3 := Fk.mono _ _ _ _ v3 hb
    replace bl := (bl.trans (Below.mono hb bl.size))
    replace sz := A.size.trans sz
    replace df := A.defs.trans df
    clear A hb
    show Code.wp _ _ _ _ _
    refine wp_seq ?_
    refine wp_cond_true x20 ?_
    refine wp_skip ?_
    show Code.wp _ _ _ _ _
    refine wp_seq ?_
    refine wp_block ?_
    refine wp_seq ?_
    -- R8
    refine wp_all_seq [.eq (.int .i64 ((k : Nat) : Int)), .pv (.slice p.sp p.m p.c), .eq (.slice p.sp p.m p.c), .eq (.int .i64 ((k : Nat) : Int)), .eq (.slice p.sp p.m p.c)] (by kernel_rfl) (by kernel_rfl) (by rw [sz]; kernel_rfl) (by kernel_rfl) ⟨fun hw ac u K => ?_, fun hw ac u K => ?_, fun hw ac u K => ?_, fun hw ac u K => ?_, fun hw ac u K => ?_, trivial⟩ ?_
    · exact st_move (.tmp 19) rfl ((K.old 19 rfl).trans x19)
    · exact st_idxm (.tmp 17) (.tmp 19) rfl (fk_val ((K.old 17 rfl).trans x17) (Fk.mono _ _ _ _ hv (bl.trans (Below.mono K.grow bl.size)))) k p ((K.old 19 rfl).trans x19) hpk
    · exact st_loadsl (.tmp 22) rfl (K.dep 1 22 rfl)
    · exact st_assign (.tmp 21) rfl (K.dep 0 21 rfl)
    · exact st_assign (.tmp 23) rfl (K.dep 2 23 rfl)
    intro f8 w8 A hb
    replace bl0 := bl
    replace x0 := (A.old 0 rfl).trans x0
    replace x2 := (A.old 2 rfl).trans x2
    replace x8 := (A.old 8 rfl).trans x8
    replace x3 := (A.old 3 rfl).trans x3
    replace x16 := (A.old 16 rfl).trans x16
    replace x17 := (A.old 17 rfl).trans x17
    replace x18 := (A.old 18 rfl).trans x18
    replace x19 := (A.old 19 rfl).trans x19
    replace x20 := (A.old 20 rfl).trans x20
    have x4 : f8.eval (.tmp 4) = .int .i64 ((k : Nat) : Int) := A.has 3 4 rfl
    have x5 : f8.eval (.tmp 5) = .slice p.sp p.m p.c := A.has 4 5 rfl
    replace v3 := Fk.mono _ _ _ _ v3 hb
    replace bl := (bl.trans (Below.mono hb bl.size))
    replace sz := A.size.trans sz
    replace df := A.defs.trans df
    clear A hb
    show Code.wp _ _ _ _ _
    refine wp_seq ?_
    refine wp_seq ?_
    by_cases h500 : 500 < p.bs.length
    rotate_left
    · skip
      -- R9
      refine wp_all_seq [.eq (.slice p.sp p.m p.c), .eq (.int .i64 (((p.bs).length : Nat) : Int)), .eq (.bool false)] (by kernel_rfl) (by kernel_rfl) (by rw [sz]; kernel_rfl) (by kernel_rfl) ⟨fun hw ac u K => ?_, fun hw ac u K => ?_, fun hw ac u K => ?_, trivial⟩ ?_
      · exact st_move (.tmp 5) rfl ((K.old 5 rfl).trans x5)
      · exact st_lenb (.tmp 24) rfl (fk_val (K.dep 0 24 rfl) (Fk.mono _ _ _ _ hsl (bl.trans (Below.mono K.grow bl.size))))
      · exact st_gtr 3 (.tmp 25) (.const (.int .i64 500)) rfl .i64 ((((p.bs).length : Nat) : Int)) (500) (K.dep 1 25 rfl) rfl _ (by rw [eq_comm, decide_eq_false_iff_not]; omega)
      intro f9 w9 A hb
      replace bl0 := bl
      replace x0 := (A.old 0 rfl).trans x0
      replace x2 := (A.old 2 rfl).trans x2
      replace x8 := (A.old 8 rfl).trans x8
      replace x3 := (A.old 3 rfl).trans x3
      replace x16 := (A.old 16 rfl).trans x16
      replace x17 := (A.old 17 rfl).trans x17
      replace x18 := (A.old 18 rfl).trans x18
      replace x19 := (A.old 19 rfl).trans x19
      replace x20 := (A.old 20 rfl).trans x20
      replace x4 := (A.old 4 rfl).trans x4
      replace x5 := (A.old 5 rfl).trans x5
      have x26 : f9.eval (.tmp 26) = .bool false := A.has 2 26 rfl
      replace v3 := Fk.mono _ _ _ _ v3 hb
      replace bl := (bl.trans (Below.mono hb bl.size))
      replace sz := A.size.trans sz
      replace df := A.defs.trans df
      clear A hb
      show Code.wp _ _ _ _ _
      refine wp_cond_false x26 ?_
      refine wp_skip ?_
      show Code.wp _ _ _ _ _
      refine wp_seq ?_
      -- R11
      refine wp_all [.eq (.slice A3 (S).length C3), .eq (.int .i64 ((k : Nat) : Int)), .ph (y), .eq (.agg ((y).map V).toArray), .eq (.slice p.sp p.m p.c), .eq (.agg ((y).map V).toArray), .eq (.bool false)] Tryd.mixed (by kernel_rfl) (by kernel_rfl) (by rw [sz]; kernel_rfl) (by kernel_rfl) ⟨fun hw ac u K => ?_, fun hw ac u K => ?_, fun hw ac u K => ?_, fun hw ac u K => ?_, fun hw ac u K => ?_, fun hw ac u K => ?_, fun hw ac u K => ?_, trivial⟩ ?_
      · exact st_move (.tmp 3) rfl ((K.old 3 rfl).trans x3)
      · exact st_move (.tmp 4) rfl ((K.old 4 rfl).trans x4)
      · exact st_idxh (.tmp 28) (.tmp 29) rfl (fk_val (K.dep 0 28 rfl) (Fk.mono _ _ _ _ v3 K.grow)) (k) (y) (K.dep 1 29 rfl) hyk
      · exact st_loadh (.tmp 30) rfl (K.dep 2 30 rfl)
      · exact st_move (.tmp 5) rfl ((K.old 5 rfl).trans x5)
      · exact st_call 14 (.func 14) _ _ #[.slice p.sp p.m p.c] rfl rfl (one_arg (K.dep 4 32 rfl)) Tryd.enter14 (fk_leaf hpl (hK.below (bl.trans (Below.mono K.grow bl.size))) (Fk.mono _ _ _ _ hsl (bl.trans (Below.mono K.grow bl.size))) ey)
      · exact st_neqh (.tmp 31) (.tmp 33) rfl (y) (y) hy hy (K.dep 3 31 rfl) (K.dep 5 33 rfl) _ (by simp)
      intro f10 w10 A hb
      replace bl0 := bl
      replace x0 := (A.old 0 rfl).trans x0
      replace x2 := (A.old 2 rfl).trans x2
      replace x8 := (A.old 8 rfl).trans x8
      replace x3 := (A.old 3 rfl).trans x3
      replace x16 := (A.old 16 rfl).trans x16
      replace x17 := (A.old 17 rfl).trans x17
      replace x18 := (A.old 18 rfl).trans x18
      replace x19 := (A.old 19 rfl).trans x19
      replace x20 := (A.old 20 rfl).trans x20
      replace x4 := (A.old 4 rfl).trans x4
      replace x5 := (A.old 5 rfl).trans x5
      replace x26 := (A.old 26 rfl).trans x26
      have x34 : f10.eval (.tmp 34) = .bool false := A.has 6 34 rfl
      replace v3 := Fk.mono _ _ _ _ v3 hb
      replace bl := (bl.trans (Below.mono hb bl.size))
      replace sz := A.size.trans sz
      replace df := A.defs.trans df
      clear A hb
      clear x4
      show Code.wp _ _ _ _ _
      refine wp_cond_false x34 ?_
      refine wp_skip ?_
      show Code.wp _ _ _ _ _
      -- R13
      refine wp_region_seq [.eq (.int .i64 ((k + 1 : Nat) : Int))] (by kernel_rfl) (by kernel_rfl) (by rw [sz]; kernel_rfl) (by kernel_rfl) ⟨fun hw ac u K => ?_, trivial⟩ ?_
      · exact st_add (.tmp 19) (.const (.int .i64 1)) rfl (k) (1) (k + 1) ((K.old 19 rfl).trans x19) rfl (by omega) (by omega)
      intro f11 w11 A hb
      replace bl0 := bl
      replace x0 := (A.old 0 rfl).trans x0
      replace x2 := (A.old 2 rfl).trans x2
      replace x8 := (A.old 8 rfl).trans x8
      replace x3 := (A.old 3 rfl).trans x3
      replace x16 := (A.old 16 rfl).trans x16
      replace x17 := (A.old 17 rfl).trans x17
      replace x18 := (A.old 18 rfl).trans x18
      replace x19 := (A.old 19 rfl).trans x19
      replace x20 := (A.old 20 rfl).trans x20
      replace x5 := (A.old 5 rfl).trans x5
      replace x26 := (A.old 26 rfl).trans x26
      replace x34 := (A.old 34 rfl).trans x34
      have x35 : f11.eval (.tmp 35) = .int .i64 ((k + 1 : Nat) : Int) := A.has 0 35 rfl
      replace v3 := Fk.mono _ _ _ _ v3 hb
      replace bl := (bl.trans (Below.mono hb bl.size))
      replace sz := A.size.trans sz
      replace df := A.defs.trans df
      clear A hb
      refine wl_one (.eq (.int .i64 ((k + 1 : Nat) : Int))) rfl 19 rfl (by rw [sz]; decide) (st_move (.tmp 35) rfl x35) ?_
      intro f12 w12 df2 sz2 old2 new2 hb
      replace bl0 := bl
      replace x0 := (old2 0 rfl).trans x0
      replace x2 := (old2 2 rfl).trans x2
      replace x8 := (old2 8 rfl).trans x8
      replace x3 := (old2 3 rfl).trans x3
      replace x16 := (old2 16 rfl).trans x16
      replace x17 := (old2 17 rfl).trans x17
      replace x18 := (old2 18 rfl).trans x18
      clear x19
      replace x20 := (old2 20 rfl).trans x20
      replace x5 := (old2 5 rfl).trans x5
      replace x26 := (old2 26 rfl).trans x26
      replace x34 := (old2 34 rfl).trans x34
      replace x35 := (old2 35 rfl).trans x35
      have x19 : f12.eval (.tmp 19) = .int .i64 ((k + 1 : Nat) : Int) := new2
      replace v3 := Fk.mono _ _ _ _ v3 hb
      replace bl := (bl.trans (Below.mono hb bl.size))
      replace sz := sz2.trans sz
      replace df := df2.trans df
      clear df2 sz2 old2 new2 hb
      refine wpList_nil ?_
      clear x35
      show (∃ _, _) ∧ _
      refine ⟨⟨k + 1, by omega, sz, df, x0, x2, x8, x3, x16, x17, x18, x19, v3, bl⟩, ?_⟩
      rw [show f12.eval (.tmp 19) = _ from x19, show _ = _ from hcnt]
      simp [intOf]
      omega
    -- R9
    refine wp_all_seq [.eq (.slice p.sp p.m p.c), .eq (.int .i64 (((p.bs).length : Nat) : Int)), .eq (.bool true)] (by kernel_rfl) (by kernel_rfl) (by rw [sz]; kernel_rfl) (by kernel_rfl) ⟨fun hw ac u K => ?_, fun hw ac u K => ?_, fun hw ac u K => ?_, trivial⟩ ?_
    · exact st_move (.tmp 5) rfl ((K.old 5 rfl).trans x5)
    · exact st_lenb (.tmp 24) rfl (fk_val (K.dep 0 24 rfl) (Fk.mono _ _ _ _ hsl (bl.trans (Below.mono K.grow bl.size))))
    · exact st_gtr 3 (.tmp 25) (.const (.int .i64 500)) rfl .i64 ((((p.bs).length : Nat) : Int)) (500) (K.dep 1 25 rfl) rfl _ (by rw [eq_comm, decide_eq_true_iff]; omega)
    intro f9 w9 A hb
    replace bl0 := bl
    replace x0 := (A.old 0 rfl).trans x0
    replace x2 := (A.old 2 rfl).trans x2
    replace x8 := (A.old 8 rfl).trans x8
    replace x3 := (A.old 3 rfl).trans x3
    replace x16 := (A.old 16 rfl).trans x16
    replace x17 := (A.old 17 rfl).trans x17
    replace x18 := (A.old 18 rfl).trans x18
    replace x19 := (A.old 19 rfl).trans x19
    replace x20 := (A.old 20 rfl).trans x20
    replace x4 := (A.old 4 rfl).trans x4
    replace x5 := (A.old 5 rfl).trans x5
    have x26 : f9.eval (.tmp 26) = .bool true := A.has 2 26 rfl
    replace v3 := Fk.mono _ _ _ _ v3 hb
    replace bl := (bl.trans (Below.mono hb bl.size))
    replace sz := A.size.trans sz
    replace df := A.defs.trans df
    clear A hb
    show Code.wp _ _ _ _ _
    refine wp_cond_true x26 ?_
    refine wp_seq ?_
    -- R10
    refine wp_all_seq [.eq (.bool true), .eq (.bool true)] (by kernel_rfl) (by kernel_rfl) (by rw [sz]; kernel_rfl) (by kernel_rfl) ⟨fun hw ac u K => ?_, fun hw ac u K => ?_, trivial⟩ ?_
    · exact st_call 10 (.func 10) _ _ #[] rfl rfl rfl Tryd.enter10 (fk_of (awake_any _ (hK.below (bl.trans (Below.mono K.grow bl.size)))))
    · exact st_assign (.tmp 27) rfl (K.dep 0 27 rfl)
    intro f10 w10 A hb
    replace bl0 := bl
    replace x0 := (A.old 0 rfl).trans x0
    clear x2
    replace x8 := (A.old 8 rfl).trans x8
    replace x3 := (A.old 3 rfl).trans x3
    replace x16 := (A.old 16 rfl).trans x16
    replace x17 := (A.old 17 rfl).trans x17
    replace x18 := (A.old 18 rfl).trans x18
    replace x19 := (A.old 19 rfl).trans x19
    replace x20 := (A.old 20 rfl).trans x20
    replace x4 := (A.old 4 rfl).trans x4
    replace x5 := (A.old 5 rfl).trans x5
    replace x26 := (A.old 26 rfl).trans x26
    have x2 : f10.eval (.tmp 2) = .bool true := A.has 1 2 rfl
    replace v3 := Fk.mono _ _ _ _ v3 hb
    replace bl := (bl.trans (Below.mono hb bl.size))
    replace sz := A.size.trans sz
    replace df := A.defs.trans df
    clear A hb
    show Code.wp _ _ _ _ _
    refine wp_ret ?_
    repeat (first | with_reducible refine then_ret ?_ | with_reducible refine block_ret ?_)
    exact bodyPost_ret (v := .bool true) (ret_slot rfl f10 _ x2 _ _) df ⟨rfl, bl⟩
  -- R1
  refine wp_all_seq [.eq (v), .eq (.int .i64 (((ps).length : Nat) : Int)), .eq (.bool true)] (by kernel_rfl) (by kernel_rfl) (by rw [sz]; kernel_rfl) (by kernel_rfl) ⟨fun hw ac u K => ?_, fun hw ac u K => ?_, fun hw ac u K => ?_, trivial⟩ ?_
  · exact st_move (.tmp 0) rfl ((K.old 0 rfl).trans x0)
  · exact st_lenm (.tmp 6) rfl (fk_val (K.dep 0 6 rfl) (Fk.mono _ _ _ _ hv (bl.trans (Below.mono K.grow bl.size))))
  · exact st_gtr 3 (.tmp 7) (.const (.int .i64 40)) rfl .i64 ((((ps).length : Nat) : Int)) (40) (K.dep 1 7 rfl) rfl _ (by rw [eq_comm, decide_eq_true_iff]; omega)
  intro f2 w2 A hb
  replace bl0 := bl
  replace x0 := (A.old 0 rfl).trans x0
  replace x2 := (A.old 2 rfl).trans x2
  have x8 : f2.eval (.tmp 8) = .bool true := A.has 2 8 rfl
  replace bl := (bl.trans (Below.mono hb bl.size))
  replace sz := A.size.trans sz
  replace df := A.defs.trans df
  clear A hb
  show Code.wp _ _ _ _ _
  refine wp_cond_true x8 ?_
  refine wp_seq ?_
  -- R2
  refine wp_all_seq [.eq (.bool true), .eq (.bool true)] (by kernel_rfl) (by kernel_rfl) (by rw [sz]; kernel_rfl) (by kernel_rfl) ⟨fun hw ac u K => ?_, fun hw ac u K => ?_, trivial⟩ ?_
  · exact st_call 10 (.func 10) _ _ #[] rfl rfl rfl Tryd.enter10 (fk_of (awake_any _ (hK.below (bl.trans (Below.mono K.grow bl.size)))))
  · exact st_assign (.tmp 9) rfl (K.dep 0 9 rfl)
  intro f3 w3 A hb
  replace bl0 := bl
  replace x0 := (A.old 0 rfl).trans x0
  clear x2
  replace x8 := (A.old 8 rfl).trans x8
  have x2 : f3.eval (.tmp 2) = .bool true := A.has 1 2 rfl
  replace bl := (bl.trans (Below.mono hb bl.size))
  replace sz := A.size.trans sz
  replace df := A.defs.trans df
  clear A hb
  show Code.wp _ _ _ _ _
  refine wp_ret ?_
  repeat (first | with_reducible refine then_ret ?_ | with_reducible refine block_ret ?_)
  exact bodyPost_ret (v := .bool true) (ret_slot rfl f3 _ x2 _ _) df ⟨rfl, bl⟩
end Go.Proofs.YtfbfngblocfdlaaDoor
namespace Go.Proofs.YtfbfngblocfdlaaDoor
set_option maxRecDepth 100000
open Go.ChangeShapes Go.WideShapes Go.ChangeAt Go.RowKit

theorem own : ownKnob Tryd.prog.godebug = none := by kernel_rfl
theorem laidOut : laidOutB Tryd.prog = true := by kernel_rfl
theorem gK : Tryd.prog.globalNamed "syngraph/sha.roundNumbers" = some 0 := by kernel_rfl
theorem tK : (Tryd.prog.globals[0]?).map (·.type) = some 74 := by kernel_rfl
theorem cells63 : Tryd.prog.cellsOf 63 = 1 := by kernel_rfl
theorem cells74 : Tryd.prog.cellsOf 74 = 64 := by kernel_rfl
theorem cells5 : Tryd.prog.cellsOf 5 = 1 := by kernel_rfl
theorem cells24 : Tryd.prog.cellsOf 24 = 32 := by kernel_rfl
theorem under63 : Tryd.prog.underlying 63 = some (.int .u32) := by kernel_rfl
/-- What the rows list. -/
def laidK : List (String × DataW Unit) := [("syngraph/sha.roundNumbers", Rows.laid_syngraph_sha_roundNumbers)]
theorem laidK_tab : laidK = [("syngraph/sha.roundNumbers", Lib.tabData .u32 (KN.map vl))] := by kernel_rfl
theorem hasK_of {W : World} (h : laidMetH Tryd.prog laidK W) : HasK W 0 ∧ 0 < W.heap.size := by
  rw [MakeChecks.laidMetH_plain _ _ _ (by kernel_rfl), laidK_tab] at h
  have hT := Lib.tabIs_of_head gK tK Tryd.under74 under63 cells63 cells74 h
  have hc : ∀ i, i < 64 → W.cell? ⟨0, i, none⟩ = some (.int .u32 (vl (KN.getD i 0))) := fun i hi => by
    rw [hT.cell gK i (by simpa [KN] using hi)]
    have hi' : i < KN.length := by simpa [KN] using hi
    simp [hi']
  exact ⟨hc, block_lt_of_cell (hc 0 (by omega))⟩
/-- An array of bytes, by value, opened. -/
theorem open_arr8 {H : Type} {enc : TypeId × Value → H} {P : Program} {w : World} {r : Reach} {b0 base : Nat} {spare : Nat → Bool} {held : Bool} {t e : TypeId} {n : Nat} {v : Value} {d : DataW H} {p : List MemPlace}
    (ht : P.underlying t = some (.array n e)) (he : P.underlying e = some (.int .u8)) (hce : P.cellsOf e = 1) (hct : P.cellsOf t = n)
    (hv : Value.okWide P w r b0 t v) (h : DataW.Trod enc P w base spare held t v d p) : ∃ xs : List (BitVec 8), xs.length = n ∧ v = .agg (xs.map V).toArray := by
  unfold Value.okWide at hv
  rw [ht] at hv
  obtain ⟨cs, rfl, hsz, _⟩ := hv
  obtain ⟨fuel, hf⟩ := h
  obtain ⟨ys, m, _, _, hl, hn, hel⟩ := DataW.trod_array ht hf
  have hcell : ∀ i, i < n → ∃ z : Int, cs.toList[i]? = some (.int .u8 z) ∧ 0 ≤ z ∧ z < 256 := fun i hi => by
    have h1 := hel i hi
    rw [hce, List.getElem?_eq_getElem (by omega)] at h1
    obtain ⟨z, hc, _, hw⟩ := DataW.trod_int he h1
    refine ⟨z, ?_, ?_⟩
    · have := congrArg (·[0]?) hc
      simpa [List.getElem?_take, List.getElem?_drop, Value.cells] using this
    · have := bounds_u8 hw
      omega
  refine ⟨cs.toList.map fun v => match v with | .int _ z => BitVec.ofInt 8 z | _ => 0, ?_, ?_⟩
  · rw [List.length_map, Array.length_toList]; omega
  · congr 1
    apply Array.toList_inj.1
    apply List.ext_getElem?
    intro i
    by_cases hi : i < n
    · obtain ⟨z, hz, h0, h1⟩ := hcell i hi
      rw [hz]
      simp only [List.getElem?_map, hz, Option.map_some, List.map_map, Function.comp]
      simp only [V, bv]
      rw [BitVec.toNat_ofInt]
      congr 2
      omega
    · rw [List.getElem?_eq_none (by simp; omega), List.getElem?_eq_none (by simp; omega)]
theorem door_met (os : Os) (args : Array Value) : laidMetH Tryd.prog laidK ((World.doorLaid Tryd.prog 400 os).forCall (fun _ _ => 0) ⟨#[], args, []⟩).memory :=
  laidMetH_of_parts3 (fuel := 8) (laidMet_of_run' 8 (by kernel_rfl) (by kernel_rfl)) (by kernel_rfl) (by kernel_rfl)
end Go.Proofs.YtfbfngblocfdlaaDoor
namespace Go.Proofs.YtfbfngblocfdlaaDoor
set_option maxRecDepth 100000
open Go.ChangeShapes Go.WideShapes Go.ChangeAt Go.RowKit
theorem bv_ofInt (z : Int) (h0 : 0 ≤ z) (h1 : z < 256) : bv (BitVec.ofInt 8 z) = z := by
  unfold bv
  rw [BitVec.toNat_ofInt]
  omega
theorem sl_of {H : Type} {enc : TypeId × Value → H} {W : World} {a : Option Addr} {len cap : Nat} {d : DataW H} {p : List MemPlace}
    (h : DataW.Trod enc Tryd.prog W 0 (fun _ => true) true 35 (.slice a len cap) d p) : ∃ bs b o, Sl W a len cap bs b o ∧ len ≤ maxLen := by
  obtain ⟨fuel, hf⟩ := h
  rcases open_ints Tryd.under35 Tryd.under5 (by kernel_rfl) hf with ⟨hcs, _⟩ | ⟨x, l, c, zs, hcs, _, hl, hm, hz, _, hcell, hwz⟩
  · simp [Value.cells] at hcs
    obtain ⟨rfl, rfl, rfl⟩ := hcs
    exact ⟨[], 0, 0, ⟨rfl, Nat.le_refl _, fun _ => ⟨rfl, rfl⟩, fun h => absurd h (by omega)⟩, by unfold maxLen; omega⟩
  · simp [Value.cells] at hcs
    obtain ⟨rfl, rfl, rfl⟩ := hcs
    have hlen : zs.length = cap := by simpa using hz
    refine ⟨(zs.take len).map (BitVec.ofInt 8), x.block, x.off, ⟨?_, hl, fun h => by (cases h), fun hp => ?_⟩, by unfold maxLen at *; omega⟩
    · rw [List.length_map, List.length_take]; omega
    · have hspot : x.spot = none := by
        have := hcell 0 (by omega)
        simp only [Addr.add, if_true] at this
        unfold World.cell? at this
        split at this
        · split at this
          · cases this
          · rename_i h; simpa using h
        · cases this
      have hx : x = ⟨x.block, x.off, none⟩ := by rw [← hspot]
      have hadd : ∀ i, x.add i = ⟨x.block, x.off + i, none⟩ := fun i => by
        unfold Addr.add
        split
        · rename_i h; subst h; rw [Nat.add_zero]; exact hx
        · rfl
      refine ⟨by rw [← hx], ?_, ?_⟩
      · have := block_lt_of_cell (hcell 0 (by omega))
        simpa [Addr.add] using this
      · intro i hi
        have hil : i < zs.length := by rw [List.length_map, List.length_take] at hi; omega
        have hin : i < len := by rw [List.length_map, List.length_take] at hi; omega
        rw [← hadd, hcell i hil]
        have hb := bounds_u8 (hwz (zs[i]) (List.getElem_mem hil))
        have e1 : zs.getD i 0 = zs[i] := by simp [hil]
        have e2 : ((zs.take len).map (BitVec.ofInt 8)).getD i 0 = BitVec.ofInt 8 zs[i] := by simp [hil, hin]
        rw [e1, e2, bv_ofInt _ (by omega) (by omega)]
end Go.Proofs.YtfbfngblocfdlaaDoor
namespace Go.Proofs.YtfbfngblocfdlaaDoor
set_option maxRecDepth 100000
open Go.ChangeShapes Go.WideShapes Go.ChangeAt Go.RowKit
theorem add_plain {w : World} {x : Addr} {v : Value} (h : w.cell? x = some v) : ∀ i, x.add i = ⟨x.block, x.off + i, none⟩ := by
  have hspot : x.spot = none := by
    unfold World.cell? at h
    split at h
    · split at h
      · cases h
      · rename_i h2; simpa using h2
    · cases h
  intro i
  unfold Addr.add
  split
  · rename_i h2; subst h2; rw [Nat.add_zero, ← hspot]
  · rfl
theorem Tryd.under22 : Tryd.prog.underlying 22 = some (.slice 24) := by kernel_rfl
theorem hl_of {H : Type} {enc : TypeId × Value → H} {W : World} {A : Option Addr} {N C : Nat} {d : DataW H} {p : List MemPlace}
    (h : DataW.Trod enc Tryd.prog W 0 (fun _ => true) true 22 (.slice A N C) d p) : ∃ lb lo hs, Hl W A lb lo hs ∧ N = hs.length ∧ N ≤ maxLen := by
  obtain ⟨fuel, hf⟩ := h
  rcases Deep.open_slice Tryd.under22 hf with ⟨hcs, _⟩ | ⟨a, len, cap, m, n, D, Pl, hcs, _, hl, hm, hmm, _, hel⟩
  · simp [Value.cells] at hcs
    obtain ⟨rfl, rfl, rfl⟩ := hcs
    exact ⟨0, 0, [], ⟨fun h => absurd h (by simp), fun h => absurd h (by simp), fun i x hi => by simp at hi⟩, rfl, by unfold maxLen; omega⟩
  · simp [Value.cells] at hcs
    obtain ⟨rfl, rfl, rfl⟩ := hcs
    have hmc : m = C := by simpa using hmm
    subst hmc
    rw [cells24] at hel
    obtain ⟨F, hF⟩ := Deep.choose_lt (α := List (BitVec 8)) (n := N) (p := fun i x => x.length = 32 ∧ ∀ j, j < 32 → W.cell? (a.add (i * 32 + j)) = some (.int .u8 (bv (x.getD j 0)))) (fun i hi => by
      obtain ⟨cs', h1, h2⟩ := hel i (by omega)
      obtain ⟨_, hlen, hcell⟩ := World.cells?_some h1
      obtain ⟨ys, m', _, _, hl', hn, hel'⟩ := DataW.trod_array Tryd.under24 h2
      have hz : ∀ j, j < 32 → ∃ z : Int, cs'[j]? = some (.int .u8 z) ∧ 0 ≤ z ∧ z < 256 := fun j hj => by
        have h3 := hel' j hj
        rw [cells5, List.getElem?_eq_getElem (by omega)] at h3
        obtain ⟨z, hc, _, hw⟩ := DataW.trod_int Tryd.under5 h3
        refine ⟨z, ?_, ?_⟩
        · have := congrArg (·[0]?) hc
          simpa [List.getElem?_take, List.getElem?_drop, Value.cells] using this
        · have := bounds_u8 hw
          omega
      refine ⟨cs'.map fun v => match v with | .int _ z => BitVec.ofInt 8 z | _ => 0, by rw [List.length_map]; exact hlen, fun j hj => ?_⟩
      obtain ⟨z, hz1, h0, h256⟩ := hz j hj
      rw [← Deep.add_add, hcell j hj, hz1]
      have : bv (BitVec.ofInt 8 z) = z := bv_ofInt z h0 h256
      simp [hz1, this])
    have hbase : 0 < N → ∀ i, a.add i = ⟨a.block, a.off + i, none⟩ := fun hp => by
      have h0 := (hF 0 hp).2 0 (by omega)
      have e0 : a.add (0 * 32 + 0) = a := by simp [Addr.add]
      rw [e0] at h0
      exact add_plain h0
    refine ⟨a.block, a.off, (List.range N).map F, ⟨fun hp => ?_, fun hp => ?_, fun i x hi => ?_⟩, by simp, by unfold maxLen at *; omega⟩
    · rw [List.length_map, List.length_range] at hp
      have := hbase hp 0
      have e0 : a.add 0 = a := by simp [Addr.add]
      rw [e0, Nat.add_zero] at this
      rw [← this]
    · rw [List.length_map, List.length_range] at hp
      have h0 := (hF 0 hp).2 0 (by omega)
      have e0 : a.add (0 * 32 + 0) = a := by simp [Addr.add]
      rw [e0] at h0
      exact block_lt_of_cell h0
    · obtain ⟨h1, h2⟩ := List.getElem?_eq_some_iff.1 hi
      have hiN : i < N := by simpa using h1
      have e : x = F i := by rw [← h2]; simp
      subst e
      refine ⟨(hF i hiN).1, fun j hj => ?_⟩
      have hj' : j < 32 := by rw [(hF i hiN).1] at hj; exact hj
      have := (hF i hiN).2 j hj'
      rw [hbase (by omega), ← Nat.add_assoc] at this
      exact this
end Go.Proofs.YtfbfngblocfdlaaDoor
namespace Go.Proofs.YtfbfngblocfdlaaDoor
set_option maxRecDepth 100000
open Go.ChangeShapes Go.WideShapes Go.ChangeAt Go.RowKit
/-- The types and places of a struct's fields. -/
def fldS (P : Program) (t : TypeId) : Option (List (TypeId × Nat)) := match P.underlying t with | some (.struct fs) => some (fs.toList.map fun f => (f.type, f.offset)) | _ => none
section
variable {H : Type} {enc : TypeId × Value → H} {W : World}
theorem parts_of {t : TypeId} {l : List (TypeId × Nat)} (hF : fldS Tryd.prog t = some l) {fuel : Nat} {cs : List Value} {x : DataW H × List MemPlace} (h : DataW.trod enc Tryd.prog W 0 (fun _ => true) true fuel t cs = some x) :
    cs.length = Tryd.prog.cellsOf t ∧ ∀ (i : Nat) (ty : TypeId) (off : Nat), l[i]? = some (ty, off) → ∃ n y, DataW.trod enc Tryd.prog W 0 (fun _ => true) true n ty ((cs.drop off).take (Tryd.prog.cellsOf ty)) = some y := by
  unfold fldS at hF
  cases hu : Tryd.prog.underlying t with
  | none => rw [hu] at hF; simp at hF
  | some td =>
    rw [hu] at hF
    cases td <;> simp only [] at hF <;> try (cases hF)
    rename_i fs
    obtain ⟨xs, n, _, rfl, hl, hlen, hf⟩ := DataW.trod_struct hu h
    refine ⟨hl, fun i ty off hi => ?_⟩
    rw [List.getElem?_map] at hi
    cases hfi : fs.toList[i]? with
    | none => rw [hfi] at hi; cases hi
    | some f =>
      rw [hfi] at hi
      obtain ⟨rfl, rfl⟩ : f.type = ty ∧ f.offset = off := by simpa using hi
      have hi2 : i < fs.toList.length := (List.getElem?_eq_some_iff.1 hfi).1
      have hi3 : i < xs.length := by simp only [Array.length_toList] at hi2; omega
      exact ⟨n, xs[i], (hf i f (by simpa using hfi)).trans (List.getElem?_eq_getElem hi3)⟩
theorem int_part {n : Nat} {cs : List Value} {y : DataW H × List MemPlace} (h : DataW.trod enc Tryd.prog W 0 (fun _ => true) true n 3 cs = some y) : ∃ z : Int, cs = [.int .i64 z] ∧ -9223372036854775808 ≤ z ∧ z ≤ 9223372036854775807 := by
  obtain ⟨z, hc, _, hw⟩ := DataW.trod_int Tryd.under3 h
  refine ⟨z, by simpa [Value.cells] using hc, ?_⟩
  have := bounds_i64 hw
  omega
theorem hs_part {n : Nat} {cs : List Value} {y : DataW H × List MemPlace} (h : DataW.trod enc Tryd.prog W 0 (fun _ => true) true n 22 cs = some y) : ∃ A C hs, cs = [.slice A hs.length C] ∧ (Fk.hs hs).f (.slice A hs.length C) W := by
  have key : ∀ A N C, cs = [.slice A N C] → ∃ A C hs, cs = [.slice A hs.length C] ∧ (Fk.hs hs).f (.slice A hs.length C) W := by
    intro A N C e
    obtain ⟨lb, lo, hs, hl, hn, _⟩ := hl_of (A := A) (N := N) (C := C) (d := y.1) (p := y.2) ⟨n, by rw [show (Value.slice A N C).cells.toList = cs from by rw [e]; rfl]; exact h⟩
    subst hn
    exact ⟨A, C, hs, e, A, C, lb, lo, rfl, hl⟩
  rcases Deep.open_slice Tryd.under22 h with ⟨hcs, _⟩ | ⟨a, len, cap, m, n', D, Pl, hcs, _⟩
  · exact key _ _ _ hcs
  · exact key _ _ _ hcs
theorem sl_part {n : Nat} {cs : List Value} {y : DataW H × List MemPlace} (h : DataW.trod enc Tryd.prog W 0 (fun _ => true) true n 35 cs = some y) : ∃ v bs, cs = [v] ∧ (Fk.sl bs).f v W := by
  have key : ∀ A N C, cs = [.slice A N C] → ∃ v bs, cs = [v] ∧ (Fk.sl bs).f v W := by
    intro A N C e
    obtain ⟨bs, b, o, hs, _⟩ := sl_of (a := A) (len := N) (cap := C) (d := y.1) (p := y.2) ⟨n, by rw [show (Value.slice A N C).cells.toList = cs from by rw [e]; rfl]; exact h⟩
    exact ⟨_, bs, e, A, N, C, b, o, rfl, hs⟩
  rcases Deep.open_slice Tryd.under35 h with ⟨hcs, _⟩ | ⟨a, len, cap, m, n', D, Pl, hcs, _⟩
  · exact key _ _ _ hcs
  · exact key _ _ _ hcs
theorem arr_part {n : Nat} {cs : List Value} {y : DataW H × List MemPlace} (h : DataW.trod enc Tryd.prog W 0 (fun _ => true) true n 24 cs = some y) : ∃ xs : List (BitVec 8), xs.length = 32 ∧ cs = xs.map V := by
  obtain ⟨ys, m, _, _, hl, hn, hel⟩ := DataW.trod_array Tryd.under24 h
  rw [cells24] at hl
  have hcell : ∀ i, i < 32 → ∃ z : Int, cs[i]? = some (.int .u8 z) ∧ 0 ≤ z ∧ z < 256 := fun i hi => by
    have h1 := hel i hi
    rw [cells5, List.getElem?_eq_getElem (by omega)] at h1
    obtain ⟨z, hc, _, hw⟩ := DataW.trod_int Tryd.under5 h1
    refine ⟨z, ?_, ?_⟩
    · have := congrArg (·[0]?) hc
      simpa [List.getElem?_take, List.getElem?_drop, Value.cells] using this
    · have := bounds_u8 hw
      omega
  refine ⟨cs.map fun v => match v with | .int _ z => BitVec.ofInt 8 z | _ => 0, by rw [List.length_map]; exact hl, ?_⟩
  apply List.ext_getElem?
  intro i
  by_cases hi : i < 32
  · obtain ⟨z, hz, h0, h1⟩ := hcell i hi
    rw [hz]
    simp only [List.getElem?_map, hz, Option.map_some, List.map_map, Function.comp]
    simp only [V, bv]
    rw [BitVec.toNat_ofInt]
    congr 2
    omega
  · rw [List.getElem?_eq_none (by omega), List.getElem?_eq_none (by simp; omega)]
theorem cells3 : Tryd.prog.cellsOf 3 = 1 := by kernel_rfl
theorem cells22 : Tryd.prog.cellsOf 22 = 1 := by kernel_rfl
theorem cells35 : Tryd.prog.cellsOf 35 = 1 := by kernel_rfl
end
end Go.Proofs.YtfbfngblocfdlaaDoor
namespace Go.Proofs.YtfbfngblocfdlaaDoor
set_option maxRecDepth 100000
open Go.ChangeShapes Go.WideShapes Go.ChangeAt Go.RowKit
/-- What holds of each number below n holds of the members of a list. -/
theorem list_of {P : Nat → Pt → Prop} (n : Nat) (h : ∀ k, k < n → ∃ p, P k p) : ∃ ps : List Pt, ps.length = n ∧ ∀ k p, ps[k]? = some p → P k p := by
  induction n with
  | zero => exact ⟨[], rfl, fun k p hk => by simp at hk⟩
  | succ n ih =>
    obtain ⟨ps, hl, hp⟩ := ih (fun k hk => h k (by omega))
    obtain ⟨q, hq⟩ := h n (by omega)
    refine ⟨ps ++ [q], by simp [hl], fun k p hk => ?_⟩
    rw [List.getElem?_append] at hk
    split at hk
    · exact hp k p hk
    · rename_i hge
      have hkn : k - ps.length = 0 := by
        by_cases h0 : k - ps.length = 0
        · exact h0
        · rw [List.getElem?_eq_none (by simp; omega)] at hk
          cases hk
      rw [hkn] at hk
      obtain rfl : q = p := by simpa using hk
      obtain rfl : k = n := by omega
      exact hq
section
variable {H : Type} {enc : TypeId × Value → H} {W : World}
theorem mg_part {n : Nat} {cs : List Value} {y : DataW H × List MemPlace} (h : DataW.trod enc Tryd.prog W 0 (fun _ => true) true n 33 cs = some y) : ∃ A C ps, cs = [.slice A ps.length C] ∧ (Fk.mg ps).f (.slice A ps.length C) W := by
  rcases Deep.open_slice1 Tryd.under33 cells35 h with ⟨hcs, _⟩ | ⟨a, len, cap, m, n', V', D, Pl, hcs, _, hl, hm, hmm, _, hel⟩
  · exact ⟨none, 0, [], hcs, none, 0, 0, 0, rfl, fun h => by simp at h, fun i p hi => by simp at hi, fun i p hi => by simp at hi⟩
  · have hmc : m = cap := by simpa using hmm
    subst hmc
    have hE : ∀ k, k < len → ∃ p : Pt, W.cell? ⟨a.block, a.off + k, none⟩ = some (.slice p.sp p.m p.c) ∧ p.ok W := by
      intro k hk
      have h0 := (hel 0 (by omega)).1
      have e0 : a.add 0 = a := by simp [Addr.add]
      rw [e0] at h0
      obtain ⟨hc, ht⟩ := hel k (by omega)
      rw [add_plain h0 k] at hc
      obtain ⟨sp, l, c, hv⟩ : ∃ sp l c, V' k = .slice sp l c := by
        rcases Deep.open_slice Tryd.under35 ht with ⟨hcs, _⟩ | ⟨a', len', cap', _, _, _, _, hcs, _⟩
        · exact ⟨_, _, _, by simpa using hcs⟩
        · exact ⟨_, _, _, by simpa using hcs⟩
      rw [hv] at hc ht
      obtain ⟨bs, b, o, hsl, hml⟩ := sl_of (enc := enc) (W := W) (a := sp) (len := l) (cap := c) (d := D k) (p := Pl k) ⟨n', by simpa [Value.cells] using ht⟩
      exact ⟨⟨sp, l, c, bs, b, o⟩, hc, hsl⟩
    obtain ⟨ps, hps, hp⟩ := list_of len hE
    subst hps
    refine ⟨some a, _, ps, hcs, some a, _, a.block, a.off, rfl, fun hp0 => ?_, fun i p hi => (hp i p hi).1, fun i p hi => (hp i p hi).2⟩
    have h0 := (hel 0 (by omega)).1
    have e0 : a.add 0 = a := by simp [Addr.add]
    rw [e0] at h0
    have := add_plain h0 0
    rw [e0, Nat.add_zero] at this
    rw [← this]
end
theorem weightsAll_mem {H : Type} {P : Program} {e : TypeId} {d : DataW H} : ∀ {l : List (DataW H)}, d ∈ l → ∀ n ∈ d.weights P e, n ∈ DataW.weightsAll P e l
  | x :: r, h, n, hn => by
    unfold DataW.weightsAll
    rw [List.mem_append]
    rcases List.mem_cons.1 h with rfl | h
    · exact .inl hn
    · exact .inr (weightsAll_mem h n hn)
theorem bytes5 : Tryd.prog.bytesOf 5 = 1 := by kernel_rfl
section
variable {H : Type} {enc : TypeId × Value → H} {W : World}
theorem mg_part2 {n : Nat} {cs : List Value} {y : DataW H × List MemPlace} (h : DataW.trod enc Tryd.prog W 0 (fun _ => true) true n 33 cs = some y) (hw : (y.1.weights Tryd.prog 33).all (· ≤ reachBytes) = true) : ∃ A C ps, cs = [.slice A ps.length C] ∧ (Fk.mg ps).f (.slice A ps.length C) W ∧ ∀ p ∈ ps, p.bs.length ≤ 140737488351232 := by
  rcases Deep.open_slice1 Tryd.under33 cells35 h with ⟨hcs, _⟩ | ⟨a, len, cap, m, n', V', D, Pl, hcs, _, hl, hm, hmm, hx, hel⟩
  · exact ⟨none, 0, [], hcs, ⟨none, 0, 0, 0, rfl, fun h => by simp at h, fun i p hi => by simp at hi, fun i p hi => by simp at hi⟩, fun p hp => by cases hp⟩
  · have hmc : m = cap := by simpa using hmm
    subst hmc
    have hE : ∀ k, k < len → ∃ p : Pt, W.cell? ⟨a.block, a.off + k, none⟩ = some (.slice p.sp p.m p.c) ∧ p.ok W ∧ p.bs.length ≤ 140737488351232 := by
      intro k hk
      have h0 := (hel 0 (by omega)).1
      have e0 : a.add 0 = a := by simp [Addr.add]
      rw [e0] at h0
      obtain ⟨hc, ht⟩ := hel k (by omega)
      rw [add_plain h0 k] at hc
      have hwk : ∀ n ∈ (D k).weights Tryd.prog 35, n ≤ reachBytes := by
        intro n hn
        rw [hx] at hw
        simp only [DataW.weights, Tryd.under33, List.all_eq_true, decide_eq_true_eq] at hw
        refine hw n (List.mem_cons_of_mem _ (List.mem_append_left _ (weightsAll_mem ?_ n hn)))
        exact List.mem_map.2 ⟨k, List.mem_range.2 hk, rfl⟩
      obtain ⟨sp, l, c, hv, hlc⟩ : ∃ sp l c, V' k = .slice sp l c ∧ l ≤ reachBytes := by
        rcases Deep.open_slice Tryd.under35 ht with ⟨hcs, _⟩ | ⟨a', len', cap', _, _, _, _, hcs, _, _, _, _, hx', _⟩
        · exact ⟨none, 0, 0, by simpa using hcs, Nat.zero_le _⟩
        · refine ⟨some a', len', cap', by simpa using hcs, ?_⟩
          have e := congrArg Prod.fst hx'
          simp only at e
          rw [e] at hwk
          have := hwk _ (by simp only [DataW.weights, Tryd.under35]; exact List.mem_cons_self ..)
          rw [bytes5, Nat.mul_one, List.length_map, List.length_range] at this
          omega
      rw [hv] at hc ht
      obtain ⟨bs, b, o, hsl, hml⟩ := sl_of (enc := enc) (W := W) (a := sp) (len := l) (cap := c) (d := D k) (p := Pl k) ⟨n', by simpa [Value.cells] using ht⟩
      refine ⟨⟨sp, l, c, bs, b, o⟩, hc, hsl, ?_⟩
      have := hsl.len
      unfold reachBytes at hlc
      show bs.length ≤ _
      omega
    obtain ⟨ps, hps, hp⟩ := list_of len hE
    subst hps
    refine ⟨some a, _, ps, hcs, ⟨some a, _, a.block, a.off, rfl, fun hp0 => ?_, fun i p hi => (hp i p hi).1, fun i p hi => (hp i p hi).2.1⟩, fun p hq => ?_⟩
    · have h0 := (hel 0 (by omega)).1
      have e0 : a.add 0 = a := by simp [Addr.add]
      rw [e0] at h0
      have := add_plain h0 0
      rw [e0, Nat.add_zero] at this
      rw [← this]
    · obtain ⟨i, hi⟩ := List.getElem?_of_mem hq
      exact (hp i p hi).2.2
theorem open_mg {r : Reach} {b0 : Nat} {v : Value} {d : DataW H} {p : List MemPlace} (hv : Value.okWide Tryd.prog W r b0 33 v) (h : DataW.Trod enc Tryd.prog W 0 (fun _ => true) true 33 v d p) (hw : (d.weights Tryd.prog 33).all (· ≤ reachBytes) = true) : ∃ ps, (Fk.mg ps).f v W ∧ ∀ p ∈ ps, p.bs.length ≤ 140737488351232 := by
  obtain ⟨A, N, C, rfl⟩ := okWide_slice Tryd.under33 hv
  obtain ⟨m, hm⟩ := h
  obtain ⟨A', C', ps, e, h1, h2⟩ := mg_part2 hm hw
  have e2 : Value.slice A N C = .slice A' ps.length C' := by simpa [Value.cells] using e
  rw [e2]
  exact ⟨ps, h1, h2⟩
end
end Go.Proofs.YtfbfngblocfdlaaDoor
