/- awake. CompactFull. append of any slice of hashes to a slice of the call's own; a store into such a slice. Greater and less of two numbers; append of any slice of numbers to one of the call's own; such a slice stays while other blocks turn. Plain: regions that draw their order, whose guards may lean on operations that are themselves not wanted. -/
import Derived.Test.YtnppjlpnfijobaaDoorM8
import Derived.Test.YtnppjlpnfijobaaDoorM7
import Derived.Test.YtnppjlpnfijobaaDoorM3
import Derived.Laws.AppendOwnNone
import Derived.Test.YtnppjlpnfijobaaDoorM4
import Derived.Laws.Small
namespace Go.Proofs.YtnppjlpnfijobaaDoor
set_option maxRecDepth 100000
open Go.RowKit
/-- A hash that begins with a byte, all others noughts. -/
def h1 (n : Nat) : List (BitVec 8) := BitVec.ofNat 8 n :: List.replicate 31 0
theorem h1_len (n : Nat) : (h1 n).length = 32 := rfl
theorem b3_run (w : World) : (Instr.buildSlice 22 3 #[(0, .agg ((h1 1).map V).toArray), (1, .agg ((h1 2).map V).toArray), (2, .agg ((h1 3).map V).toArray)]).run Tryd.prog w = .ok (.slice (some ⟨w.heap.size, 0, none⟩) 3 3) (w.alloc (.cells ((h1 1 ++ h1 2 ++ h1 3).map V).toArray 33)) := by kernel_rfl
theorem b3_at : ∀ (i : Fin 3) (j : Fin 32), (h1 1 ++ h1 2 ++ h1 3)[i.val * 32 + j.val]? = some ((h1 (i.val + 1)).getD j.val 0) := by decide
theorem st_b3q {Q : Exit → Act → World → Prop} {o : Oper} {a : Act} {w : World} (x y z : Operand) (ho : o.op = .buildSlice 22 3 #[(0, x), (1, y), (2, z)]) (hx : a.eval x = .agg ((h1 1).map V).toArray) (hy : a.eval y = .agg ((h1 2).map V).toArray) (hz : a.eval z = .agg ((h1 3).map V).toArray) (base : Nat) (hb : base ≤ w.heap.size) : o.wp Tryd.prog a w (Ends a o.dst w (Fk.hq (fun b => base ≤ b) [h1 1, h1 2, h1 3]).f) Q := by
  refine st_run (v := .slice (some ⟨w.heap.size, 0, none⟩) 3 3) (w' := w.alloc (.cells ((h1 1 ++ h1 2 ++ h1 3).map V).toArray 33)) ?_ ((Below.refl _ _).alloc (Nat.le_refl _) _) ⟨⟨_, 3, w.heap.size, 0, rfl, Nat.le_refl _, fun _ => rfl, fun _ => by simp, fun i x hi => ?_⟩, fun _ b e => by obtain rfl := Option.some.inj e; exact hb⟩
  · have := b3_run w
    unfold execOp
    rw [ho]
    simp [hx, hy, hz, this]
  · have hi3 : i < 3 := (List.getElem?_eq_some_iff.1 hi).1
    have hxe : x = h1 (i + 1) := by
      match i, hi3 with
      | 0, _ => simpa using hi.symm
      | 1, _ => simpa using hi.symm
      | 2, _ => simpa using hi.symm
    subst hxe
    refine ⟨h1_len _, fun j hj => ?_⟩
    rw [h1_len] at hj
    rw [World.cell?_alloc_mark, Nat.zero_add]
    have := b3_at ⟨i, hi3⟩ ⟨j, hj⟩
    simp only at this
    simp only [List.getElem?_toArray, List.getElem?_map, this, Option.map_some, V]
theorem grl_three (a b c : List (BitVec 8)) : grl (0, []) [a, b, c] = (3, [nd a b, c]) := by
  have t0 : tro 0 = 0 := tro_even (by decide)
  have t1 : tro 1 = 1 := by rw [tro_odd (by decide), tro_even (by decide)]
  have t2 : tro 2 = 0 := tro_even (by decide)
  simp only [grl, List.foldl_cons, List.foldl_nil, gr1, t0, t1, t2, Nat.zero_add]
  rfl
theorem rtp_two (a b : List (BitVec 8)) : rtp [a, b] = nd a b := by
  unfold rtp
  rw [if_neg (by simp)]
  rfl
theorem fk_rn {f : FuncId} {args : Array Value} {w : World} {g0 n : Nat} {P : List (List (BitVec 8))} (hg : g0 ≤ w.heap.size) (h : Calls Tryd.prog f args w fun e w' => ∃ u, e = .returned u ∧ (Fk.rn w.heap.size n P).f u w' ∧ Below w.heap.size w w') :
    Calls Tryd.prog f args w fun e w' => ∃ u, e = .returned u ∧ (Fk.rn g0 n P).f u w' ∧ Below w.heap.size w w' := by
  refine h.mono ?_
  rintro e w' ⟨u, rfl, ⟨g, k, e1, h1, h2, h3⟩, hb⟩
  exact ⟨u, rfl, ⟨g, k, e1, Nat.le_trans hg h1, Nat.le_trans hg h2, h3⟩, hb⟩
theorem awake_any (w : World) (hK : Tab w) :
    Calls Tryd.prog 7 #[] w fun e w' => e = .returned (.bool true) ∧ Below w.heap.size w w' := by
  obtain ⟨p, ep⟩ : ∃ p, Box (nd (h1 1) (h1 2) = p) := ⟨_, ⟨rfl⟩⟩
  have hp : p.length = 32 := by rw [← ep.out]; exact nd_len _ _
  obtain ⟨q, eq⟩ : ∃ q, Box (nd p (h1 3) = q) := ⟨_, ⟨rfl⟩⟩
  have hq : q.length = 32 := by rw [← eq.out]; exact nd_len _ _
  have hgrl : grl (0, []) [h1 1, h1 2, h1 3] = (3, [p, h1 3]) := by rw [← ep.out]; exact grl_three _ _ _
  have eQ : Box (rtp [p, h1 3] = q) := ⟨by rw [← eq.out]; exact rtp_two _ _⟩
  go_enter Tryd.func7, Tryd.ntmps7
  refine code_both (fun f w1 => f.tmps.size = 41 ∧ f.defers = [] ∧ Below w.heap.size w (w1)) ⟨rfl, rfl, Below.refl _ _⟩ ?_
  rintro f0 w0 ⟨sz, df, bl⟩
  have bl0 := bl
  refine wp_seq ?_
  refine wp_all_seq [.eq (.bool false)] (by kernel_rfl) (by kernel_rfl) (by rw [sz]; kernel_rfl) (by kernel_rfl) ⟨fun hw ac u K => ?_, trivial⟩ ?_
  · exact st_assign (.const (.bool false)) rfl rfl
  intro f1 w1 A hb
  replace bl0 := bl
  have x0 : f1.eval (.tmp 0) = .bool false := A.has 0 0 rfl
  replace bl := (bl.trans (Below.mono hb bl.size))
  replace sz := A.size.trans sz
  replace df := A.defs.trans df
  clear A hb
  show Code.wp _ _ _ _ _
  refine wp_seq ?_
  refine wp_all_seq [.rn w.heap.size 0 [], .rn w.heap.size 0 []] (by kernel_rfl) (by kernel_rfl) (by rw [sz]; kernel_rfl) (by kernel_rfl) ⟨fun hw ac u K => ?_, fun hw ac u K => ?_, trivial⟩ ?_
  · exact st_call 8 (.func 8) _ _ #[] rfl rfl rfl Tryd.enter8 (fk_rn (bl.trans (Below.mono K.grow bl.size)).size (fk_new _))
  · exact st_assign (.tmp 5) rfl (K.dep 0 5 rfl)
  intro f2 w2 A hb
  replace bl0 := bl
  replace x0 := (A.old 0 rfl).trans x0
  have x1 : Fk.f (.rn w.heap.size 0 []) (f2.eval (.tmp 1)) w2 := A.has 1 1 rfl
  replace bl := (bl.trans (Below.mono hb bl.size))
  replace sz := A.size.trans sz
  replace df := A.defs.trans df
  clear A hb
  obtain ⟨gr, kr, er, hgr, hkr, hrr⟩ := x1
  have x1 : f2.eval (.tmp 1) = .pointer (some ⟨gr, 0, none⟩) := er
  clear er
  have ltr := hrr.lt
  show Code.wp _ _ _ _ _
  refine wp_seq ?_
  refine wp_region_seq [.eq (.agg ((h1 1).map V).toArray), .eq (.agg ((h1 2).map V).toArray), .eq (.agg ((h1 3).map V).toArray)] (by kernel_rfl) (by kernel_rfl) (by rw [sz]; kernel_rfl) (by kernel_rfl) ⟨fun hw ac u K => ?_, fun hw ac u K => ?_, fun hw ac u K => ?_, trivial⟩ ?_
  · exact st_build 33 _ rfl (by kernel_rfl)
  · exact st_build 33 _ rfl (by kernel_rfl)
  · exact st_build 33 _ rfl (by kernel_rfl)
  intro f3 w3 A hb
  have S_hrr := hrr
  have hbS0 := Below.refl w2.heap.size w2
  have hbS := hb
  replace bl0 := bl
  replace x0 := (A.old 0 rfl).trans x0
  replace x1 := (A.old 1 rfl).trans x1
  have x6 : f3.eval (.tmp 6) = .agg ((h1 1).map V).toArray := A.has 0 6 rfl
  have x7 : f3.eval (.tmp 7) = .agg ((h1 2).map V).toArray := A.has 1 7 rfl
  have x8 : f3.eval (.tmp 8) = .agg ((h1 3).map V).toArray := A.has 2 8 rfl
  replace hrr := HR.mono hrr hb
  replace bl := (bl.trans (Below.mono hb bl.size))
  replace sz := A.size.trans sz
  replace df := A.defs.trans df
  clear A hb
  refine wl_one (.nw w3.heap.size 33 ((hz).map V)) rfl 2 rfl (by rw [sz]; decide) (st_alloc33 rfl _ (Nat.le_refl _)) ?_
  intro f4 w4 df2 sz2 old2 new2 hb
  replace hbS0 := hbS
  replace hbS := hbS.trans (Below.mono hb hbS.size)
  replace bl0 := bl
  replace x0 := (old2 0 rfl).trans x0
  replace x1 := (old2 1 rfl).trans x1
  replace x6 := (old2 6 rfl).trans x6
  replace x7 := (old2 7 rfl).trans x7
  replace x8 := (old2 8 rfl).trans x8
  have x2 : Fk.f (.nw w3.heap.size 33 ((hz).map V)) (f4.eval (.tmp 2)) w4 := new2
  replace hrr := HR.mono hrr hb
  replace bl := (bl.trans (Below.mono hb bl.size))
  replace sz := sz2.trans sz
  replace df := df2.trans df
  clear df2 sz2 old2 new2 hb
  obtain ⟨g2, hg2, e2, m2⟩ := x2
  have x2 := e2
  clear e2
  have hw2 : w.heap.size ≤ g2 := Nat.le_trans bl0.size hg2
  have hs2 := Nat.le_trans hbS0.size hg2
  refine wl_one (.nw w4.heap.size 33 ((hz).map V)) rfl 3 rfl (by rw [sz]; decide) (st_alloc33 rfl _ (Nat.le_refl _)) ?_
  intro f5 w5 df2 sz2 old2 new2 hb
  replace hbS0 := hbS
  replace hbS := hbS.trans (Below.mono hb hbS.size)
  replace bl0 := bl
  replace x0 := (old2 0 rfl).trans x0
  replace x1 := (old2 1 rfl).trans x1
  replace x6 := (old2 6 rfl).trans x6
  replace x7 := (old2 7 rfl).trans x7
  replace x8 := (old2 8 rfl).trans x8
  replace x2 := (old2 2 rfl).trans x2
  have x3 : Fk.f (.nw w4.heap.size 33 ((hz).map V)) (f5.eval (.tmp 3)) w5 := new2
  have lt_m2 := Ob.lt m2
  replace m2 := Ob.below m2 hb
  replace hrr := HR.mono hrr hb
  replace bl := (bl.trans (Below.mono hb bl.size))
  replace sz := sz2.trans sz
  replace df := df2.trans df
  clear df2 sz2 old2 new2 hb
  obtain ⟨g3, hg3, e3, m3⟩ := x3
  have x3 := e3
  clear e3
  have nm2_3 : g2 ≠ g3 := Nat.ne_of_lt (Nat.lt_of_lt_of_le lt_m2 hg3)
  have hw3 : w.heap.size ≤ g3 := Nat.le_trans bl0.size hg3
  have hs3 := Nat.le_trans hbS0.size hg3
  refine wl_one (.nw w5.heap.size 33 ((hz).map V)) rfl 4 rfl (by rw [sz]; decide) (st_alloc33 rfl _ (Nat.le_refl _)) ?_
  intro f6 w6 df2 sz2 old2 new2 hb
  replace hbS0 := hbS
  replace hbS := hbS.trans (Below.mono hb hbS.size)
  replace bl0 := bl
  replace x0 := (old2 0 rfl).trans x0
  replace x1 := (old2 1 rfl).trans x1
  replace x6 := (old2 6 rfl).trans x6
  replace x7 := (old2 7 rfl).trans x7
  replace x8 := (old2 8 rfl).trans x8
  replace x2 := (old2 2 rfl).trans x2
  replace x3 := (old2 3 rfl).trans x3
  have x4 : Fk.f (.nw w5.heap.size 33 ((hz).map V)) (f6.eval (.tmp 4)) w6 := new2
  have lt_m2 := Ob.lt m2
  replace m2 := Ob.below m2 hb
  have lt_m3 := Ob.lt m3
  replace m3 := Ob.below m3 hb
  replace hrr := HR.mono hrr hb
  replace bl := (bl.trans (Below.mono hb bl.size))
  replace sz := sz2.trans sz
  replace df := df2.trans df
  clear df2 sz2 old2 new2 hb
  obtain ⟨g4, hg4, e4, m4⟩ := x4
  have x4 := e4
  clear e4
  have nm2_4 : g2 ≠ g4 := Nat.ne_of_lt (Nat.lt_of_lt_of_le lt_m2 hg4)
  have nm3_4 : g3 ≠ g4 := Nat.ne_of_lt (Nat.lt_of_lt_of_le lt_m3 hg4)
  have hw4 : w.heap.size ≤ g4 := Nat.le_trans bl0.size hg4
  have hs4 := Nat.le_trans hbS0.size hg4
  refine wl_store rfl (.tmp 2) (.tmp 6) rfl rfl (g2) (h1 1) (hz) x2 x6 m2 hz_len (h1_len 1) ?_
  replace m2 : Ob (w6.setRow g2 ((h1 1).map V : List Value).toArray) (g2) 33 ((h1 1).map V) := Ob.setRow m2 ((h1 1).map V)
  replace m3 : Ob (w6.setRow g2 ((h1 1).map V : List Value).toArray) (g3) 33 ((hz).map V) := Ob.setRow_other m3 _ nm2_3.symm
  replace m4 : Ob (w6.setRow g2 ((h1 1).map V : List Value).toArray) (g4) 33 ((hz).map V) := Ob.setRow_other m4 _ nm2_4.symm
  replace hbS : Below _ _ (w6.setRow g2 ((h1 1).map V : List Value).toArray) := hbS.trans (below_setRow _ _ _ _ hs2)
  replace hrr := HR.mono S_hrr hbS
  replace bl : Below w.heap.size w (w6.setRow g2 ((h1 1).map V : List Value).toArray) := bl.trans (below_setRow _ _ _ _ hw2)
  generalize w6.setRow g2 ((h1 1).map V : List Value).toArray = w7b at bl m2 m3 m4 hrr hbS ⊢
  clear x6
  refine wl_store rfl (.tmp 3) (.tmp 7) rfl rfl (g3) (h1 2) (hz) x3 x7 m3 hz_len (h1_len 2) ?_
  replace m2 : Ob (w7b.setRow g3 ((h1 2).map V : List Value).toArray) (g2) 33 ((h1 1).map V) := Ob.setRow_other m2 _ nm2_3
  replace m3 : Ob (w7b.setRow g3 ((h1 2).map V : List Value).toArray) (g3) 33 ((h1 2).map V) := Ob.setRow m3 ((h1 2).map V)
  replace m4 : Ob (w7b.setRow g3 ((h1 2).map V : List Value).toArray) (g4) 33 ((hz).map V) := Ob.setRow_other m4 _ nm3_4.symm
  replace hbS : Below _ _ (w7b.setRow g3 ((h1 2).map V : List Value).toArray) := hbS.trans (below_setRow _ _ _ _ hs3)
  replace hrr := HR.mono S_hrr hbS
  replace bl : Below w.heap.size w (w7b.setRow g3 ((h1 2).map V : List Value).toArray) := bl.trans (below_setRow _ _ _ _ hw3)
  generalize w7b.setRow g3 ((h1 2).map V : List Value).toArray = w8b at bl m2 m3 m4 hrr hbS ⊢
  clear x7
  refine wl_store rfl (.tmp 4) (.tmp 8) rfl rfl (g4) (h1 3) (hz) x4 x8 m4 hz_len (h1_len 3) ?_
  replace m2 : Ob (w8b.setRow g4 ((h1 3).map V : List Value).toArray) (g2) 33 ((h1 1).map V) := Ob.setRow_other m2 _ nm2_4
  replace m3 : Ob (w8b.setRow g4 ((h1 3).map V : List Value).toArray) (g3) 33 ((h1 2).map V) := Ob.setRow_other m3 _ nm3_4
  replace m4 : Ob (w8b.setRow g4 ((h1 3).map V : List Value).toArray) (g4) 33 ((h1 3).map V) := Ob.setRow m4 ((h1 3).map V)
  replace hbS : Below _ _ (w8b.setRow g4 ((h1 3).map V : List Value).toArray) := hbS.trans (below_setRow _ _ _ _ hs4)
  replace hrr := HR.mono S_hrr hbS
  replace bl : Below w.heap.size w (w8b.setRow g4 ((h1 3).map V : List Value).toArray) := bl.trans (below_setRow _ _ _ _ hw4)
  generalize w8b.setRow g4 ((h1 3).map V : List Value).toArray = w9b at bl m2 m3 m4 hrr hbS ⊢
  refine wpList_nil ?_
  clear hbS hbS0 S_hrr
  clear x8
  show Code.wp _ _ _ _ _
  refine wp_seq ?_
  have ng2 : g2 ≠ gr ∧ g2 ≠ kr := ⟨by omega, by omega⟩
  have ng3 : g3 ≠ gr ∧ g3 ≠ kr := ⟨by omega, by omega⟩
  have ng4 : g4 ≠ gr ∧ g4 ≠ kr := ⟨by omega, by omega⟩
  have lt2 := Ob.lt m2
  have lt3 := Ob.lt m3
  have lt4 := Ob.lt m4
  refine wp_region_held_drew (S := fun W => Ob W g2 33 ((h1 1).map V) ∧ Ob W g3 33 ((h1 2).map V) ∧ Ob W g4 33 ((h1 3).map V)) Tryd.mixed ⟨Ob.below m2 (Below.refl _ _).drew, Ob.below m3 (Below.refl _ _).drew, Ob.below m4 (Below.refl _ _).drew⟩ (fun hS => ?_)
  replace hrr : HR w9b.drew gr kr 0 [] := hrr.mono (Below.refl _ _).drew
  replace bl := bl.drew
  clear bl0 m2 m3 m4
  replace lt2 : g2 < w9b.drew.heap.size := lt2
  replace lt3 : g3 < w9b.drew.heap.size := lt3
  replace lt4 : g4 < w9b.drew.heap.size := lt4
  generalize w9b.drew = w10 at hS hrr bl lt2 lt3 lt4 ⊢
  refine wg_step 0 9 rfl rfl (by rw [sz]; decide) (want_none rfl) (by kernel_rfl) (.eq (.pointer (some ⟨gr, 0, none⟩))) (st_move (.tmp 1) rfl x1) ?_
  intro f11 w11 df2 sz2 old2 new2 hb2
  refine ⟨⟨Ob.below hS.1 hb2, Ob.below hS.2.1 hb2, Ob.below hS.2.2 hb2⟩, ?_⟩
  have hS2 := hS
  replace hS := (show Ob w11 g2 33 ((h1 1).map V) ∧ Ob w11 g3 33 ((h1 2).map V) ∧ Ob w11 g4 33 ((h1 3).map V) from ⟨Ob.below hS.1 hb2, Ob.below hS.2.1 hb2, Ob.below hS.2.2 hb2⟩)
  clear hS2
  replace x0 := (old2 0 rfl).trans x0
  replace x1 := (old2 1 rfl).trans x1
  replace x2 := (old2 2 rfl).trans x2
  replace x3 := (old2 3 rfl).trans x3
  replace x4 := (old2 4 rfl).trans x4
  have x9 : f11.eval (.tmp 9) = .pointer (some ⟨gr, 0, none⟩) := new2
  replace hrr := hrr.mono hb2
  replace lt2 := Nat.lt_of_lt_of_le lt2 hb2.size
  replace lt3 := Nat.lt_of_lt_of_le lt3 hb2.size
  replace lt4 := Nat.lt_of_lt_of_le lt4 hb2.size
  replace bl := bl.trans (Below.mono hb2 bl.size)
  replace sz := sz2.trans sz
  replace df := df2.trans df
  clear df2 sz2 old2 new2 hb2
  refine wg_step 1 10 rfl rfl (by rw [sz]; decide) (want_none rfl) (by kernel_rfl) (.eq (.bool true)) (st_bin .neq 25 25 (.tmp 9) _ rfl x9 rfl (by kernel_rfl)) ?_
  intro f12 w12 df2 sz2 old2 new2 hb2
  refine ⟨⟨Ob.below hS.1 hb2, Ob.below hS.2.1 hb2, Ob.below hS.2.2 hb2⟩, ?_⟩
  have hS2 := hS
  replace hS := (show Ob w12 g2 33 ((h1 1).map V) ∧ Ob w12 g3 33 ((h1 2).map V) ∧ Ob w12 g4 33 ((h1 3).map V) from ⟨Ob.below hS.1 hb2, Ob.below hS.2.1 hb2, Ob.below hS.2.2 hb2⟩)
  clear hS2
  replace x0 := (old2 0 rfl).trans x0
  replace x1 := (old2 1 rfl).trans x1
  replace x2 := (old2 2 rfl).trans x2
  replace x3 := (old2 3 rfl).trans x3
  replace x4 := (old2 4 rfl).trans x4
  replace x9 := (old2 9 rfl).trans x9
  have x10 : f12.eval (.tmp 10) = .bool true := new2
  replace hrr := hrr.mono hb2
  replace lt2 := Nat.lt_of_lt_of_le lt2 hb2.size
  replace lt3 := Nat.lt_of_lt_of_le lt3 hb2.size
  replace lt4 := Nat.lt_of_lt_of_le lt4 hb2.size
  replace bl := bl.trans (Below.mono hb2 bl.size)
  replace sz := sz2.trans sz
  replace df := df2.trans df
  clear df2 sz2 old2 new2 hb2
  refine wg_step 2 11 rfl rfl (by rw [sz]; decide) (want_none rfl) (by kernel_rfl) (.eq (.bool true)) (st_move (.tmp 10) rfl x10) ?_
  intro f13 w13 df2 sz2 old2 new2 hb2
  refine ⟨⟨Ob.below hS.1 hb2, Ob.below hS.2.1 hb2, Ob.below hS.2.2 hb2⟩, ?_⟩
  have hS2 := hS
  replace hS := (show Ob w13 g2 33 ((h1 1).map V) ∧ Ob w13 g3 33 ((h1 2).map V) ∧ Ob w13 g4 33 ((h1 3).map V) from ⟨Ob.below hS.1 hb2, Ob.below hS.2.1 hb2, Ob.below hS.2.2 hb2⟩)
  clear hS2
  replace x0 := (old2 0 rfl).trans x0
  replace x1 := (old2 1 rfl).trans x1
  replace x2 := (old2 2 rfl).trans x2
  replace x3 := (old2 3 rfl).trans x3
  replace x4 := (old2 4 rfl).trans x4
  replace x9 := (old2 9 rfl).trans x9
  replace x10 := (old2 10 rfl).trans x10
  have x11 : f13.eval (.tmp 11) = .bool true := new2
  replace hrr := hrr.mono hb2
  replace lt2 := Nat.lt_of_lt_of_le lt2 hb2.size
  replace lt3 := Nat.lt_of_lt_of_le lt3 hb2.size
  replace lt4 := Nat.lt_of_lt_of_le lt4 hb2.size
  replace bl := bl.trans (Below.mono hb2 bl.size)
  replace sz := sz2.trans sz
  replace df := df2.trans df
  clear df2 sz2 old2 new2 hb2
  refine wg_take 3 12 (v := .pointer (some ⟨gr, 0, none⟩)) rfl rfl (by rw [sz]; decide) (want_of rfl rfl x11) (by kernel_rfl) (by kernel_rfl) (by kernel_rfl) (fun _ _ _ h => h) (run_mv rfl x1) hS ?_
  intro f14 df2 sz2 old2 new2
  replace x0 := (old2 0 rfl).trans x0
  replace x1 := (old2 1 rfl).trans x1
  replace x2 := (old2 2 rfl).trans x2
  replace x3 := (old2 3 rfl).trans x3
  replace x4 := (old2 4 rfl).trans x4
  replace x9 := (old2 9 rfl).trans x9
  replace x10 := (old2 10 rfl).trans x10
  replace x11 := (old2 11 rfl).trans x11
  have x12 : f14.eval (.tmp 12) = .pointer (some ⟨gr, 0, none⟩) := new2
  replace sz := sz2.trans sz
  replace df := df2.trans df
  clear df2 sz2 old2 new2
  refine wg_take 4 13 (v := .agg ((h1 1).map V).toArray) rfl rfl (by rw [sz]; decide) (want_of rfl rfl x11) (by kernel_rfl) (by kernel_rfl) (by kernel_rfl) (fun _ _ _ h => h) (run_ldh rfl (h1_len 1) x2 (fun W hW => Ob.range hW.1 0 _ (fun j v hj => by simpa using hj))) hS ?_
  intro f15 df2 sz2 old2 new2
  replace x0 := (old2 0 rfl).trans x0
  replace x1 := (old2 1 rfl).trans x1
  replace x2 := (old2 2 rfl).trans x2
  replace x3 := (old2 3 rfl).trans x3
  replace x4 := (old2 4 rfl).trans x4
  replace x9 := (old2 9 rfl).trans x9
  replace x10 := (old2 10 rfl).trans x10
  replace x11 := (old2 11 rfl).trans x11
  replace x12 := (old2 12 rfl).trans x12
  have x13 : f15.eval (.tmp 13) = .agg ((h1 1).map V).toArray := new2
  replace sz := sz2.trans sz
  replace df := df2.trans df
  clear df2 sz2 old2 new2
  refine wg_take 5 14 (v := .agg ((h1 2).map V).toArray) rfl rfl (by rw [sz]; decide) (want_of rfl rfl x11) (by kernel_rfl) (by kernel_rfl) (by kernel_rfl) (fun _ _ _ h => h) (run_ldh rfl (h1_len 2) x3 (fun W hW => Ob.range hW.2.1 0 _ (fun j v hj => by simpa using hj))) hS ?_
  intro f16 df2 sz2 old2 new2
  replace x0 := (old2 0 rfl).trans x0
  replace x1 := (old2 1 rfl).trans x1
  replace x2 := (old2 2 rfl).trans x2
  replace x3 := (old2 3 rfl).trans x3
  replace x4 := (old2 4 rfl).trans x4
  replace x9 := (old2 9 rfl).trans x9
  replace x10 := (old2 10 rfl).trans x10
  replace x11 := (old2 11 rfl).trans x11
  replace x12 := (old2 12 rfl).trans x12
  replace x13 := (old2 13 rfl).trans x13
  have x14 : f16.eval (.tmp 14) = .agg ((h1 2).map V).toArray := new2
  replace sz := sz2.trans sz
  replace df := df2.trans df
  clear df2 sz2 old2 new2
  refine wg_take 6 15 (v := .agg ((h1 3).map V).toArray) rfl rfl (by rw [sz]; decide) (want_of rfl rfl x11) (by kernel_rfl) (by kernel_rfl) (by kernel_rfl) (fun _ _ _ h => h) (run_ldh rfl (h1_len 3) x4 (fun W hW => Ob.range hW.2.2 0 _ (fun j v hj => by simpa using hj))) hS ?_
  intro f17 df2 sz2 old2 new2
  replace x0 := (old2 0 rfl).trans x0
  replace x1 := (old2 1 rfl).trans x1
  replace x2 := (old2 2 rfl).trans x2
  replace x3 := (old2 3 rfl).trans x3
  replace x4 := (old2 4 rfl).trans x4
  replace x9 := (old2 9 rfl).trans x9
  replace x10 := (old2 10 rfl).trans x10
  replace x11 := (old2 11 rfl).trans x11
  replace x12 := (old2 12 rfl).trans x12
  replace x13 := (old2 13 rfl).trans x13
  replace x14 := (old2 14 rfl).trans x14
  have x15 : f17.eval (.tmp 15) = .agg ((h1 3).map V).toArray := new2
  replace sz := sz2.trans sz
  replace df := df2.trans df
  clear df2 sz2 old2 new2
  have ltB := hrr.lt
  refine wg_step 7 16 rfl rfl (by rw [sz]; decide) (want_of rfl rfl x11) (by kernel_rfl) (.hq (fun b => w13.heap.size ≤ b) ([h1 1, h1 2, h1 3])) (st_b3q (.tmp 13) (.tmp 14) (.tmp 15) rfl x13 x14 x15 _ (Nat.le_refl _)) ?_
  intro f18 w18 df2 sz2 old2 new2 hb2
  refine ⟨⟨Ob.below hS.1 hb2, Ob.below hS.2.1 hb2, Ob.below hS.2.2 hb2⟩, ?_⟩
  have hS2 := hS
  replace hS := (show Ob w18 g2 33 ((h1 1).map V) ∧ Ob w18 g3 33 ((h1 2).map V) ∧ Ob w18 g4 33 ((h1 3).map V) from ⟨Ob.below hS.1 hb2, Ob.below hS.2.1 hb2, Ob.below hS.2.2 hb2⟩)
  clear hS2
  replace x0 := (old2 0 rfl).trans x0
  replace x1 := (old2 1 rfl).trans x1
  replace x2 := (old2 2 rfl).trans x2
  replace x3 := (old2 3 rfl).trans x3
  replace x4 := (old2 4 rfl).trans x4
  replace x9 := (old2 9 rfl).trans x9
  replace x10 := (old2 10 rfl).trans x10
  replace x11 := (old2 11 rfl).trans x11
  replace x12 := (old2 12 rfl).trans x12
  replace x13 := (old2 13 rfl).trans x13
  replace x14 := (old2 14 rfl).trans x14
  replace x15 := (old2 15 rfl).trans x15
  have x16 : Fk.f (.hq (fun b => w13.heap.size ≤ b) ([h1 1, h1 2, h1 3])) (f18.eval (.tmp 16)) w18 := new2
  replace hrr := hrr.mono hb2
  replace lt2 := Nat.lt_of_lt_of_le lt2 hb2.size
  replace lt3 := Nat.lt_of_lt_of_le lt3 hb2.size
  replace lt4 := Nat.lt_of_lt_of_le lt4 hb2.size
  replace bl := bl.trans (Below.mono hb2 bl.size)
  replace sz := sz2.trans sz
  replace df := df2.trans df
  clear df2 sz2 old2 new2 hb2
  obtain ⟨v16, e16⟩ : ∃ v, f18.eval (.tmp 16) = v := ⟨_, rfl⟩
  rw [e16] at x16
  refine wg_call 8 17 rfl rfl (by rw [sz]; decide) (want_of rfl rfl x11) (by kernel_rfl) 9 (.func 9) _ _ #[.pointer (some ⟨gr, 0, none⟩), v16] rfl rfl (arg2 x12 e16) Tryd.enter9 (fun u W' => u = .int .i64 0 ∧ (∃ k', HR W' gr k' 3 [p, h1 3] ∧ (k' = kr ∨ w18.heap.size ≤ k')) ∧ Kp gr kr w18 W') ((c_app_ok hrr x16.1 (by simp) (by simp) (hK.below bl) hgrl (fun h0 => ⟨fun e => by have := x16.2 h0 _ e; omega, fun e => by have := x16.2 h0 _ e; omega⟩) ⟨by have := hK.pos; omega, by have := hK.pos; omega⟩).mono (by rintro e w' ⟨rfl, h1, h2⟩; exact ⟨_, rfl, rfl, h1, h2⟩)) ?_
  intro f19 w19 df2 sz2 old2 hR2
  obtain ⟨x17, ⟨k2, hr2, hk2⟩, hkp⟩ := hR2
  clear x16 e16
  have hS2 : Ob w19 g2 33 ((h1 1).map V) ∧ Ob w19 g3 33 ((h1 2).map V) ∧ Ob w19 g4 33 ((h1 3).map V) := ⟨Ob.kp hS.1 hkp ng2.1 ng2.2, Ob.kp hS.2.1 hkp ng3.1 ng3.2, Ob.kp hS.2.2 hkp ng4.1 ng4.2⟩
  refine ⟨hS2, ?_⟩
  replace hS := hS2
  clear hS2
  replace x0 := (old2 0 rfl).trans x0
  replace x1 := (old2 1 rfl).trans x1
  replace x2 := (old2 2 rfl).trans x2
  replace x3 := (old2 3 rfl).trans x3
  replace x4 := (old2 4 rfl).trans x4
  replace x9 := (old2 9 rfl).trans x9
  replace x10 := (old2 10 rfl).trans x10
  replace x11 := (old2 11 rfl).trans x11
  replace x12 := (old2 12 rfl).trans x12
  replace x13 := (old2 13 rfl).trans x13
  replace x14 := (old2 14 rfl).trans x14
  replace x15 := (old2 15 rfl).trans x15
  replace bl := bl.trans (hkp.below bl.size hgr hkr)
  have hrr2 := hr2
  clear hrr
  have hrr := hrr2
  clear hrr2 hr2
  replace lt2 := Nat.lt_of_lt_of_le lt2 hkp.size
  replace lt3 := Nat.lt_of_lt_of_le lt3 hkp.size
  replace lt4 := Nat.lt_of_lt_of_le lt4 hkp.size
  replace sz := sz2.trans sz
  replace df := df2.trans df
  clear df2 sz2 old2 hkp hk2
  refine wg_step 9 18 rfl rfl (by rw [sz]; decide) (want_of rfl rfl x11) (by kernel_rfl) (.eq (.bool true)) (st_eqi 27 (.tmp 17) (.const (.int .i64 0)) rfl .i64 (0) (0) x17 rfl _ (by rfl)) ?_
  intro f20 w20 df2 sz2 old2 new2 hb2
  refine ⟨⟨Ob.below hS.1 hb2, Ob.below hS.2.1 hb2, Ob.below hS.2.2 hb2⟩, ?_⟩
  have hS2 := hS
  replace hS := (show Ob w20 g2 33 ((h1 1).map V) ∧ Ob w20 g3 33 ((h1 2).map V) ∧ Ob w20 g4 33 ((h1 3).map V) from ⟨Ob.below hS.1 hb2, Ob.below hS.2.1 hb2, Ob.below hS.2.2 hb2⟩)
  clear hS2
  replace x0 := (old2 0 rfl).trans x0
  replace x1 := (old2 1 rfl).trans x1
  replace x2 := (old2 2 rfl).trans x2
  replace x3 := (old2 3 rfl).trans x3
  replace x4 := (old2 4 rfl).trans x4
  replace x9 := (old2 9 rfl).trans x9
  replace x10 := (old2 10 rfl).trans x10
  replace x11 := (old2 11 rfl).trans x11
  replace x12 := (old2 12 rfl).trans x12
  replace x13 := (old2 13 rfl).trans x13
  replace x14 := (old2 14 rfl).trans x14
  replace x15 := (old2 15 rfl).trans x15
  replace x17 := (old2 17 rfl).trans x17
  have x18 : f20.eval (.tmp 18) = .bool true := new2
  replace hrr := hrr.mono hb2
  replace lt2 := Nat.lt_of_lt_of_le lt2 hb2.size
  replace lt3 := Nat.lt_of_lt_of_le lt3 hb2.size
  replace lt4 := Nat.lt_of_lt_of_le lt4 hb2.size
  replace bl := bl.trans (Below.mono hb2 bl.size)
  replace sz := sz2.trans sz
  replace df := df2.trans df
  clear df2 sz2 old2 new2 hb2
  refine wg_step 10 19 rfl rfl (by rw [sz]; decide) (want_none rfl) (by kernel_rfl) (.eq (.bool true)) (st_pick_t (.tmp 11) (.tmp 18) (.const (.bool false)) rfl x11 x18) ?_
  intro f21 w21 df2 sz2 old2 new2 hb2
  refine ⟨⟨Ob.below hS.1 hb2, Ob.below hS.2.1 hb2, Ob.below hS.2.2 hb2⟩, ?_⟩
  have hS2 := hS
  replace hS := (show Ob w21 g2 33 ((h1 1).map V) ∧ Ob w21 g3 33 ((h1 2).map V) ∧ Ob w21 g4 33 ((h1 3).map V) from ⟨Ob.below hS.1 hb2, Ob.below hS.2.1 hb2, Ob.below hS.2.2 hb2⟩)
  clear hS2
  replace x0 := (old2 0 rfl).trans x0
  replace x1 := (old2 1 rfl).trans x1
  replace x2 := (old2 2 rfl).trans x2
  replace x3 := (old2 3 rfl).trans x3
  replace x4 := (old2 4 rfl).trans x4
  replace x9 := (old2 9 rfl).trans x9
  replace x10 := (old2 10 rfl).trans x10
  replace x11 := (old2 11 rfl).trans x11
  replace x12 := (old2 12 rfl).trans x12
  replace x13 := (old2 13 rfl).trans x13
  replace x14 := (old2 14 rfl).trans x14
  replace x15 := (old2 15 rfl).trans x15
  replace x17 := (old2 17 rfl).trans x17
  replace x18 := (old2 18 rfl).trans x18
  have x19 : f21.eval (.tmp 19) = .bool true := new2
  replace hrr := hrr.mono hb2
  replace lt2 := Nat.lt_of_lt_of_le lt2 hb2.size
  replace lt3 := Nat.lt_of_lt_of_le lt3 hb2.size
  replace lt4 := Nat.lt_of_lt_of_le lt4 hb2.size
  replace bl := bl.trans (Below.mono hb2 bl.size)
  replace sz := sz2.trans sz
  replace df := df2.trans df
  clear df2 sz2 old2 new2 hb2
  refine wg_step 11 20 rfl rfl (by rw [sz]; decide) (want_none rfl) (by kernel_rfl) (.eq (.bool true)) (st_move (.tmp 19) rfl x19) ?_
  intro f22 w22 df2 sz2 old2 new2 hb2
  refine ⟨⟨Ob.below hS.1 hb2, Ob.below hS.2.1 hb2, Ob.below hS.2.2 hb2⟩, ?_⟩
  have hS2 := hS
  replace hS := (show Ob w22 g2 33 ((h1 1).map V) ∧ Ob w22 g3 33 ((h1 2).map V) ∧ Ob w22 g4 33 ((h1 3).map V) from ⟨Ob.below hS.1 hb2, Ob.below hS.2.1 hb2, Ob.below hS.2.2 hb2⟩)
  clear hS2
  replace x0 := (old2 0 rfl).trans x0
  replace x1 := (old2 1 rfl).trans x1
  replace x2 := (old2 2 rfl).trans x2
  replace x3 := (old2 3 rfl).trans x3
  replace x4 := (old2 4 rfl).trans x4
  replace x9 := (old2 9 rfl).trans x9
  replace x10 := (old2 10 rfl).trans x10
  replace x11 := (old2 11 rfl).trans x11
  replace x12 := (old2 12 rfl).trans x12
  replace x13 := (old2 13 rfl).trans x13
  replace x14 := (old2 14 rfl).trans x14
  replace x15 := (old2 15 rfl).trans x15
  replace x17 := (old2 17 rfl).trans x17
  replace x18 := (old2 18 rfl).trans x18
  replace x19 := (old2 19 rfl).trans x19
  have x20 : f22.eval (.tmp 20) = .bool true := new2
  replace hrr := hrr.mono hb2
  replace lt2 := Nat.lt_of_lt_of_le lt2 hb2.size
  replace lt3 := Nat.lt_of_lt_of_le lt3 hb2.size
  replace lt4 := Nat.lt_of_lt_of_le lt4 hb2.size
  replace bl := bl.trans (Below.mono hb2 bl.size)
  replace sz := sz2.trans sz
  replace df := df2.trans df
  clear df2 sz2 old2 new2 hb2
  refine wg_step 12 21 rfl rfl (by rw [sz]; decide) (want_of rfl rfl x20) (by kernel_rfl) (.eq (.pointer (some ⟨gr, 0, none⟩))) (st_move (.tmp 1) rfl x1) ?_
  intro f23 w23 df2 sz2 old2 new2 hb2
  refine ⟨⟨Ob.below hS.1 hb2, Ob.below hS.2.1 hb2, Ob.below hS.2.2 hb2⟩, ?_⟩
  have hS2 := hS
  replace hS := (show Ob w23 g2 33 ((h1 1).map V) ∧ Ob w23 g3 33 ((h1 2).map V) ∧ Ob w23 g4 33 ((h1 3).map V) from ⟨Ob.below hS.1 hb2, Ob.below hS.2.1 hb2, Ob.below hS.2.2 hb2⟩)
  clear hS2
  replace x0 := (old2 0 rfl).trans x0
  replace x1 := (old2 1 rfl).trans x1
  replace x2 := (old2 2 rfl).trans x2
  replace x3 := (old2 3 rfl).trans x3
  replace x4 := (old2 4 rfl).trans x4
  replace x9 := (old2 9 rfl).trans x9
  replace x10 := (old2 10 rfl).trans x10
  replace x11 := (old2 11 rfl).trans x11
  replace x12 := (old2 12 rfl).trans x12
  replace x13 := (old2 13 rfl).trans x13
  replace x14 := (old2 14 rfl).trans x14
  replace x15 := (old2 15 rfl).trans x15
  replace x17 := (old2 17 rfl).trans x17
  replace x18 := (old2 18 rfl).trans x18
  replace x19 := (old2 19 rfl).trans x19
  replace x20 := (old2 20 rfl).trans x20
  have x21 : f23.eval (.tmp 21) = .pointer (some ⟨gr, 0, none⟩) := new2
  replace hrr := hrr.mono hb2
  replace lt2 := Nat.lt_of_lt_of_le lt2 hb2.size
  replace lt3 := Nat.lt_of_lt_of_le lt3 hb2.size
  replace lt4 := Nat.lt_of_lt_of_le lt4 hb2.size
  replace bl := bl.trans (Below.mono hb2 bl.size)
  replace sz := sz2.trans sz
  replace df := df2.trans df
  clear df2 sz2 old2 new2 hb2
  refine wg_step 13 22 rfl rfl (by rw [sz]; decide) (want_of rfl rfl x20) (by kernel_rfl) (.eq (.int .i64 3)) (st_call 12 (.func 12) _ _ #[.pointer (some ⟨gr, 0, none⟩)] rfl rfl (one_arg x21) Tryd.enter12 (fk_size hrr)) ?_
  intro f24 w24 df2 sz2 old2 new2 hb2
  refine ⟨⟨Ob.below hS.1 hb2, Ob.below hS.2.1 hb2, Ob.below hS.2.2 hb2⟩, ?_⟩
  have hS2 := hS
  replace hS := (show Ob w24 g2 33 ((h1 1).map V) ∧ Ob w24 g3 33 ((h1 2).map V) ∧ Ob w24 g4 33 ((h1 3).map V) from ⟨Ob.below hS.1 hb2, Ob.below hS.2.1 hb2, Ob.below hS.2.2 hb2⟩)
  clear hS2
  replace x0 := (old2 0 rfl).trans x0
  replace x1 := (old2 1 rfl).trans x1
  replace x2 := (old2 2 rfl).trans x2
  replace x3 := (old2 3 rfl).trans x3
  replace x4 := (old2 4 rfl).trans x4
  replace x9 := (old2 9 rfl).trans x9
  replace x10 := (old2 10 rfl).trans x10
  replace x11 := (old2 11 rfl).trans x11
  replace x12 := (old2 12 rfl).trans x12
  replace x13 := (old2 13 rfl).trans x13
  replace x14 := (old2 14 rfl).trans x14
  replace x15 := (old2 15 rfl).trans x15
  replace x17 := (old2 17 rfl).trans x17
  replace x18 := (old2 18 rfl).trans x18
  replace x19 := (old2 19 rfl).trans x19
  replace x20 := (old2 20 rfl).trans x20
  replace x21 := (old2 21 rfl).trans x21
  have x22 : f24.eval (.tmp 22) = .int .i64 3 := new2
  replace hrr := hrr.mono hb2
  replace lt2 := Nat.lt_of_lt_of_le lt2 hb2.size
  replace lt3 := Nat.lt_of_lt_of_le lt3 hb2.size
  replace lt4 := Nat.lt_of_lt_of_le lt4 hb2.size
  replace bl := bl.trans (Below.mono hb2 bl.size)
  replace sz := sz2.trans sz
  replace df := df2.trans df
  clear df2 sz2 old2 new2 hb2
  refine wg_step 14 23 rfl rfl (by rw [sz]; decide) (want_of rfl rfl x20) (by kernel_rfl) (.eq (.bool true)) (st_eqi 3 (.tmp 22) (.const (.int .i64 3)) rfl .i64 (3) (3) x22 rfl _ (by rfl)) ?_
  intro f25 w25 df2 sz2 old2 new2 hb2
  refine ⟨⟨Ob.below hS.1 hb2, Ob.below hS.2.1 hb2, Ob.below hS.2.2 hb2⟩, ?_⟩
  have hS2 := hS
  replace hS := (show Ob w25 g2 33 ((h1 1).map V) ∧ Ob w25 g3 33 ((h1 2).map V) ∧ Ob w25 g4 33 ((h1 3).map V) from ⟨Ob.below hS.1 hb2, Ob.below hS.2.1 hb2, Ob.below hS.2.2 hb2⟩)
  clear hS2
  replace x0 := (old2 0 rfl).trans x0
  replace x1 := (old2 1 rfl).trans x1
  replace x2 := (old2 2 rfl).trans x2
  replace x3 := (old2 3 rfl).trans x3
  replace x4 := (old2 4 rfl).trans x4
  replace x9 := (old2 9 rfl).trans x9
  replace x10 := (old2 10 rfl).trans x10
  replace x11 := (old2 11 rfl).trans x11
  replace x12 := (old2 12 rfl).trans x12
  replace x13 := (old2 13 rfl).trans x13
  replace x14 := (old2 14 rfl).trans x14
  replace x15 := (old2 15 rfl).trans x15
  replace x17 := (old2 17 rfl).trans x17
  replace x18 := (old2 18 rfl).trans x18
  replace x19 := (old2 19 rfl).trans x19
  replace x20 := (old2 20 rfl).trans x20
  replace x21 := (old2 21 rfl).trans x21
  replace x22 := (old2 22 rfl).trans x22
  have x23 : f25.eval (.tmp 23) = .bool true := new2
  replace hrr := hrr.mono hb2
  replace lt2 := Nat.lt_of_lt_of_le lt2 hb2.size
  replace lt3 := Nat.lt_of_lt_of_le lt3 hb2.size
  replace lt4 := Nat.lt_of_lt_of_le lt4 hb2.size
  replace bl := bl.trans (Below.mono hb2 bl.size)
  replace sz := sz2.trans sz
  replace df := df2.trans df
  clear df2 sz2 old2 new2 hb2
  refine wg_step 15 24 rfl rfl (by rw [sz]; decide) (want_none rfl) (by kernel_rfl) (.eq (.bool true)) (st_pick_t (.tmp 20) (.tmp 23) (.const (.bool false)) rfl x20 x23) ?_
  intro f26 w26 df2 sz2 old2 new2 hb2
  refine ⟨⟨Ob.below hS.1 hb2, Ob.below hS.2.1 hb2, Ob.below hS.2.2 hb2⟩, ?_⟩
  have hS2 := hS
  replace hS := (show Ob w26 g2 33 ((h1 1).map V) ∧ Ob w26 g3 33 ((h1 2).map V) ∧ Ob w26 g4 33 ((h1 3).map V) from ⟨Ob.below hS.1 hb2, Ob.below hS.2.1 hb2, Ob.below hS.2.2 hb2⟩)
  clear hS2
  replace x0 := (old2 0 rfl).trans x0
  replace x1 := (old2 1 rfl).trans x1
  replace x2 := (old2 2 rfl).trans x2
  replace x3 := (old2 3 rfl).trans x3
  replace x4 := (old2 4 rfl).trans x4
  replace x9 := (old2 9 rfl).trans x9
  replace x10 := (old2 10 rfl).trans x10
  replace x11 := (old2 11 rfl).trans x11
  replace x12 := (old2 12 rfl).trans x12
  replace x13 := (old2 13 rfl).trans x13
  replace x14 := (old2 14 rfl).trans x14
  replace x15 := (old2 15 rfl).trans x15
  replace x17 := (old2 17 rfl).trans x17
  replace x18 := (old2 18 rfl).trans x18
  replace x19 := (old2 19 rfl).trans x19
  replace x20 := (old2 20 rfl).trans x20
  replace x21 := (old2 21 rfl).trans x21
  replace x22 := (old2 22 rfl).trans x22
  replace x23 := (old2 23 rfl).trans x23
  have x24 : f26.eval (.tmp 24) = .bool true := new2
  replace hrr := hrr.mono hb2
  replace lt2 := Nat.lt_of_lt_of_le lt2 hb2.size
  replace lt3 := Nat.lt_of_lt_of_le lt3 hb2.size
  replace lt4 := Nat.lt_of_lt_of_le lt4 hb2.size
  replace bl := bl.trans (Below.mono hb2 bl.size)
  replace sz := sz2.trans sz
  replace df := df2.trans df
  clear df2 sz2 old2 new2 hb2
  refine wg_step 16 25 rfl rfl (by rw [sz]; decide) (want_none rfl) (by kernel_rfl) (.eq (.bool true)) (st_move (.tmp 24) rfl x24) ?_
  intro f27 w27 df2 sz2 old2 new2 hb2
  refine ⟨⟨Ob.below hS.1 hb2, Ob.below hS.2.1 hb2, Ob.below hS.2.2 hb2⟩, ?_⟩
  have hS2 := hS
  replace hS := (show Ob w27 g2 33 ((h1 1).map V) ∧ Ob w27 g3 33 ((h1 2).map V) ∧ Ob w27 g4 33 ((h1 3).map V) from ⟨Ob.below hS.1 hb2, Ob.below hS.2.1 hb2, Ob.below hS.2.2 hb2⟩)
  clear hS2
  replace x0 := (old2 0 rfl).trans x0
  replace x1 := (old2 1 rfl).trans x1
  replace x2 := (old2 2 rfl).trans x2
  replace x3 := (old2 3 rfl).trans x3
  replace x4 := (old2 4 rfl).trans x4
  replace x9 := (old2 9 rfl).trans x9
  replace x10 := (old2 10 rfl).trans x10
  replace x11 := (old2 11 rfl).trans x11
  replace x12 := (old2 12 rfl).trans x12
  replace x13 := (old2 13 rfl).trans x13
  replace x14 := (old2 14 rfl).trans x14
  replace x15 := (old2 15 rfl).trans x15
  replace x17 := (old2 17 rfl).trans x17
  replace x18 := (old2 18 rfl).trans x18
  replace x19 := (old2 19 rfl).trans x19
  replace x20 := (old2 20 rfl).trans x20
  replace x21 := (old2 21 rfl).trans x21
  replace x22 := (old2 22 rfl).trans x22
  replace x23 := (old2 23 rfl).trans x23
  replace x24 := (old2 24 rfl).trans x24
  have x25 : f27.eval (.tmp 25) = .bool true := new2
  replace hrr := hrr.mono hb2
  replace lt2 := Nat.lt_of_lt_of_le lt2 hb2.size
  replace lt3 := Nat.lt_of_lt_of_le lt3 hb2.size
  replace lt4 := Nat.lt_of_lt_of_le lt4 hb2.size
  replace bl := bl.trans (Below.mono hb2 bl.size)
  replace sz := sz2.trans sz
  replace df := df2.trans df
  clear df2 sz2 old2 new2 hb2
  refine wg_step 17 26 rfl rfl (by rw [sz]; decide) (want_of rfl rfl x25) (by kernel_rfl) (.eq (.pointer (some ⟨gr, 0, none⟩))) (st_move (.tmp 1) rfl x1) ?_
  intro f28 w28 df2 sz2 old2 new2 hb2
  refine ⟨⟨Ob.below hS.1 hb2, Ob.below hS.2.1 hb2, Ob.below hS.2.2 hb2⟩, ?_⟩
  have hS2 := hS
  replace hS := (show Ob w28 g2 33 ((h1 1).map V) ∧ Ob w28 g3 33 ((h1 2).map V) ∧ Ob w28 g4 33 ((h1 3).map V) from ⟨Ob.below hS.1 hb2, Ob.below hS.2.1 hb2, Ob.below hS.2.2 hb2⟩)
  clear hS2
  replace x0 := (old2 0 rfl).trans x0
  replace x1 := (old2 1 rfl).trans x1
  replace x2 := (old2 2 rfl).trans x2
  replace x3 := (old2 3 rfl).trans x3
  replace x4 := (old2 4 rfl).trans x4
  replace x9 := (old2 9 rfl).trans x9
  replace x10 := (old2 10 rfl).trans x10
  replace x11 := (old2 11 rfl).trans x11
  replace x12 := (old2 12 rfl).trans x12
  replace x13 := (old2 13 rfl).trans x13
  replace x14 := (old2 14 rfl).trans x14
  replace x15 := (old2 15 rfl).trans x15
  replace x17 := (old2 17 rfl).trans x17
  replace x18 := (old2 18 rfl).trans x18
  replace x19 := (old2 19 rfl).trans x19
  replace x20 := (old2 20 rfl).trans x20
  replace x21 := (old2 21 rfl).trans x21
  replace x22 := (old2 22 rfl).trans x22
  replace x23 := (old2 23 rfl).trans x23
  replace x24 := (old2 24 rfl).trans x24
  replace x25 := (old2 25 rfl).trans x25
  have x26 : f28.eval (.tmp 26) = .pointer (some ⟨gr, 0, none⟩) := new2
  replace hrr := hrr.mono hb2
  replace lt2 := Nat.lt_of_lt_of_le lt2 hb2.size
  replace lt3 := Nat.lt_of_lt_of_le lt3 hb2.size
  replace lt4 := Nat.lt_of_lt_of_le lt4 hb2.size
  replace bl := bl.trans (Below.mono hb2 bl.size)
  replace sz := sz2.trans sz
  replace df := df2.trans df
  clear df2 sz2 old2 new2 hb2
  refine wg_step 18 27 rfl rfl (by rw [sz]; decide) (want_of rfl rfl x25) (by kernel_rfl) (.ow w28.heap.size ([p, h1 3])) (st_call 14 (.func 14) _ _ #[.pointer (some ⟨gr, 0, none⟩)] rfl rfl (one_arg x26) Tryd.enter14 (fk_peaks hrr)) ?_
  intro f29 w29 df2 sz2 old2 new2 hb2
  refine ⟨⟨Ob.below hS.1 hb2, Ob.below hS.2.1 hb2, Ob.below hS.2.2 hb2⟩, ?_⟩
  have hS2 := hS
  replace hS := (show Ob w29 g2 33 ((h1 1).map V) ∧ Ob w29 g3 33 ((h1 2).map V) ∧ Ob w29 g4 33 ((h1 3).map V) from ⟨Ob.below hS.1 hb2, Ob.below hS.2.1 hb2, Ob.below hS.2.2 hb2⟩)
  clear hS2
  replace x0 := (old2 0 rfl).trans x0
  replace x1 := (old2 1 rfl).trans x1
  replace x2 := (old2 2 rfl).trans x2
  replace x3 := (old2 3 rfl).trans x3
  replace x4 := (old2 4 rfl).trans x4
  replace x9 := (old2 9 rfl).trans x9
  replace x10 := (old2 10 rfl).trans x10
  replace x11 := (old2 11 rfl).trans x11
  replace x12 := (old2 12 rfl).trans x12
  replace x13 := (old2 13 rfl).trans x13
  replace x14 := (old2 14 rfl).trans x14
  replace x15 := (old2 15 rfl).trans x15
  replace x17 := (old2 17 rfl).trans x17
  replace x18 := (old2 18 rfl).trans x18
  replace x19 := (old2 19 rfl).trans x19
  replace x20 := (old2 20 rfl).trans x20
  replace x21 := (old2 21 rfl).trans x21
  replace x22 := (old2 22 rfl).trans x22
  replace x23 := (old2 23 rfl).trans x23
  replace x24 := (old2 24 rfl).trans x24
  replace x25 := (old2 25 rfl).trans x25
  replace x26 := (old2 26 rfl).trans x26
  have x27 : Fk.f (.ow w28.heap.size ([p, h1 3])) (f29.eval (.tmp 27)) w29 := new2
  replace hrr := hrr.mono hb2
  replace lt2 := Nat.lt_of_lt_of_le lt2 hb2.size
  replace lt3 := Nat.lt_of_lt_of_le lt3 hb2.size
  replace lt4 := Nat.lt_of_lt_of_le lt4 hb2.size
  replace bl := bl.trans (Below.mono hb2 bl.size)
  replace sz := sz2.trans sz
  replace df := df2.trans df
  clear df2 sz2 old2 new2 hb2
  refine wg_step 19 28 rfl rfl (by rw [sz]; decide) (want_of rfl rfl x25) (by kernel_rfl) (.eq (.int .i64 2)) (st_lenc (.tmp 27) rfl 2 rfl (ow_hc x27)) ?_
  intro f30 w30 df2 sz2 old2 new2 hb2
  refine ⟨⟨Ob.below hS.1 hb2, Ob.below hS.2.1 hb2, Ob.below hS.2.2 hb2⟩, ?_⟩
  have hS2 := hS
  replace hS := (show Ob w30 g2 33 ((h1 1).map V) ∧ Ob w30 g3 33 ((h1 2).map V) ∧ Ob w30 g4 33 ((h1 3).map V) from ⟨Ob.below hS.1 hb2, Ob.below hS.2.1 hb2, Ob.below hS.2.2 hb2⟩)
  clear hS2
  replace x0 := (old2 0 rfl).trans x0
  replace x1 := (old2 1 rfl).trans x1
  replace x2 := (old2 2 rfl).trans x2
  replace x3 := (old2 3 rfl).trans x3
  replace x4 := (old2 4 rfl).trans x4
  replace x9 := (old2 9 rfl).trans x9
  replace x10 := (old2 10 rfl).trans x10
  replace x11 := (old2 11 rfl).trans x11
  replace x12 := (old2 12 rfl).trans x12
  replace x13 := (old2 13 rfl).trans x13
  replace x14 := (old2 14 rfl).trans x14
  replace x15 := (old2 15 rfl).trans x15
  replace x17 := (old2 17 rfl).trans x17
  replace x18 := (old2 18 rfl).trans x18
  replace x19 := (old2 19 rfl).trans x19
  replace x20 := (old2 20 rfl).trans x20
  replace x21 := (old2 21 rfl).trans x21
  replace x22 := (old2 22 rfl).trans x22
  replace x23 := (old2 23 rfl).trans x23
  replace x24 := (old2 24 rfl).trans x24
  replace x25 := (old2 25 rfl).trans x25
  replace x26 := (old2 26 rfl).trans x26
  replace x27 := f_at (old2 27 rfl) (Fk.mono _ _ _ _ x27 hb2)
  have x28 : f30.eval (.tmp 28) = .int .i64 2 := new2
  replace hrr := hrr.mono hb2
  replace lt2 := Nat.lt_of_lt_of_le lt2 hb2.size
  replace lt3 := Nat.lt_of_lt_of_le lt3 hb2.size
  replace lt4 := Nat.lt_of_lt_of_le lt4 hb2.size
  replace bl := bl.trans (Below.mono hb2 bl.size)
  replace sz := sz2.trans sz
  replace df := df2.trans df
  clear df2 sz2 old2 new2 hb2
  clear x27
  refine wg_step 20 29 rfl rfl (by rw [sz]; decide) (want_of rfl rfl x25) (by kernel_rfl) (.eq (.bool true)) (st_eqi 3 (.tmp 28) (.const (.int .i64 2)) rfl .i64 (2) (2) x28 rfl _ (by rfl)) ?_
  intro f31 w31 df2 sz2 old2 new2 hb2
  refine ⟨⟨Ob.below hS.1 hb2, Ob.below hS.2.1 hb2, Ob.below hS.2.2 hb2⟩, ?_⟩
  have hS2 := hS
  replace hS := (show Ob w31 g2 33 ((h1 1).map V) ∧ Ob w31 g3 33 ((h1 2).map V) ∧ Ob w31 g4 33 ((h1 3).map V) from ⟨Ob.below hS.1 hb2, Ob.below hS.2.1 hb2, Ob.below hS.2.2 hb2⟩)
  clear hS2
  replace x0 := (old2 0 rfl).trans x0
  replace x1 := (old2 1 rfl).trans x1
  replace x2 := (old2 2 rfl).trans x2
  replace x3 := (old2 3 rfl).trans x3
  replace x4 := (old2 4 rfl).trans x4
  replace x9 := (old2 9 rfl).trans x9
  replace x10 := (old2 10 rfl).trans x10
  replace x11 := (old2 11 rfl).trans x11
  replace x12 := (old2 12 rfl).trans x12
  replace x13 := (old2 13 rfl).trans x13
  replace x14 := (old2 14 rfl).trans x14
  replace x15 := (old2 15 rfl).trans x15
  replace x17 := (old2 17 rfl).trans x17
  replace x18 := (old2 18 rfl).trans x18
  replace x19 := (old2 19 rfl).trans x19
  replace x20 := (old2 20 rfl).trans x20
  replace x21 := (old2 21 rfl).trans x21
  replace x22 := (old2 22 rfl).trans x22
  replace x23 := (old2 23 rfl).trans x23
  replace x24 := (old2 24 rfl).trans x24
  replace x25 := (old2 25 rfl).trans x25
  replace x26 := (old2 26 rfl).trans x26
  replace x28 := (old2 28 rfl).trans x28
  have x29 : f31.eval (.tmp 29) = .bool true := new2
  replace hrr := hrr.mono hb2
  replace lt2 := Nat.lt_of_lt_of_le lt2 hb2.size
  replace lt3 := Nat.lt_of_lt_of_le lt3 hb2.size
  replace lt4 := Nat.lt_of_lt_of_le lt4 hb2.size
  replace bl := bl.trans (Below.mono hb2 bl.size)
  replace sz := sz2.trans sz
  replace df := df2.trans df
  clear df2 sz2 old2 new2 hb2
  refine wg_step 21 30 rfl rfl (by rw [sz]; decide) (want_none rfl) (by kernel_rfl) (.eq (.bool true)) (st_pick_t (.tmp 25) (.tmp 29) (.const (.bool false)) rfl x25 x29) ?_
  intro f32 w32 df2 sz2 old2 new2 hb2
  refine ⟨⟨Ob.below hS.1 hb2, Ob.below hS.2.1 hb2, Ob.below hS.2.2 hb2⟩, ?_⟩
  have hS2 := hS
  replace hS := (show Ob w32 g2 33 ((h1 1).map V) ∧ Ob w32 g3 33 ((h1 2).map V) ∧ Ob w32 g4 33 ((h1 3).map V) from ⟨Ob.below hS.1 hb2, Ob.below hS.2.1 hb2, Ob.below hS.2.2 hb2⟩)
  clear hS2
  replace x0 := (old2 0 rfl).trans x0
  replace x1 := (old2 1 rfl).trans x1
  replace x2 := (old2 2 rfl).trans x2
  replace x3 := (old2 3 rfl).trans x3
  replace x4 := (old2 4 rfl).trans x4
  replace x9 := (old2 9 rfl).trans x9
  replace x10 := (old2 10 rfl).trans x10
  replace x11 := (old2 11 rfl).trans x11
  replace x12 := (old2 12 rfl).trans x12
  replace x13 := (old2 13 rfl).trans x13
  replace x14 := (old2 14 rfl).trans x14
  replace x15 := (old2 15 rfl).trans x15
  replace x17 := (old2 17 rfl).trans x17
  replace x18 := (old2 18 rfl).trans x18
  replace x19 := (old2 19 rfl).trans x19
  replace x20 := (old2 20 rfl).trans x20
  replace x21 := (old2 21 rfl).trans x21
  replace x22 := (old2 22 rfl).trans x22
  replace x23 := (old2 23 rfl).trans x23
  replace x24 := (old2 24 rfl).trans x24
  replace x25 := (old2 25 rfl).trans x25
  replace x26 := (old2 26 rfl).trans x26
  replace x28 := (old2 28 rfl).trans x28
  replace x29 := (old2 29 rfl).trans x29
  have x30 : f32.eval (.tmp 30) = .bool true := new2
  replace hrr := hrr.mono hb2
  replace lt2 := Nat.lt_of_lt_of_le lt2 hb2.size
  replace lt3 := Nat.lt_of_lt_of_le lt3 hb2.size
  replace lt4 := Nat.lt_of_lt_of_le lt4 hb2.size
  replace bl := bl.trans (Below.mono hb2 bl.size)
  replace sz := sz2.trans sz
  replace df := df2.trans df
  clear df2 sz2 old2 new2 hb2
  refine wg_step 22 31 rfl rfl (by rw [sz]; decide) (want_none rfl) (by kernel_rfl) (.eq (.bool true)) (st_move (.tmp 30) rfl x30) ?_
  intro f33 w33 df2 sz2 old2 new2 hb2
  refine ⟨⟨Ob.below hS.1 hb2, Ob.below hS.2.1 hb2, Ob.below hS.2.2 hb2⟩, ?_⟩
  have hS2 := hS
  replace hS := (show Ob w33 g2 33 ((h1 1).map V) ∧ Ob w33 g3 33 ((h1 2).map V) ∧ Ob w33 g4 33 ((h1 3).map V) from ⟨Ob.below hS.1 hb2, Ob.below hS.2.1 hb2, Ob.below hS.2.2 hb2⟩)
  clear hS2
  replace x0 := (old2 0 rfl).trans x0
  replace x1 := (old2 1 rfl).trans x1
  replace x2 := (old2 2 rfl).trans x2
  replace x3 := (old2 3 rfl).trans x3
  replace x4 := (old2 4 rfl).trans x4
  replace x9 := (old2 9 rfl).trans x9
  replace x10 := (old2 10 rfl).trans x10
  replace x11 := (old2 11 rfl).trans x11
  replace x12 := (old2 12 rfl).trans x12
  replace x13 := (old2 13 rfl).trans x13
  replace x14 := (old2 14 rfl).trans x14
  replace x15 := (old2 15 rfl).trans x15
  replace x17 := (old2 17 rfl).trans x17
  replace x18 := (old2 18 rfl).trans x18
  replace x19 := (old2 19 rfl).trans x19
  replace x20 := (old2 20 rfl).trans x20
  replace x21 := (old2 21 rfl).trans x21
  replace x22 := (old2 22 rfl).trans x22
  replace x23 := (old2 23 rfl).trans x23
  replace x24 := (old2 24 rfl).trans x24
  replace x25 := (old2 25 rfl).trans x25
  replace x26 := (old2 26 rfl).trans x26
  replace x28 := (old2 28 rfl).trans x28
  replace x29 := (old2 29 rfl).trans x29
  replace x30 := (old2 30 rfl).trans x30
  have x31 : f33.eval (.tmp 31) = .bool true := new2
  replace hrr := hrr.mono hb2
  replace lt2 := Nat.lt_of_lt_of_le lt2 hb2.size
  replace lt3 := Nat.lt_of_lt_of_le lt3 hb2.size
  replace lt4 := Nat.lt_of_lt_of_le lt4 hb2.size
  replace bl := bl.trans (Below.mono hb2 bl.size)
  replace sz := sz2.trans sz
  replace df := df2.trans df
  clear df2 sz2 old2 new2 hb2
  refine wg_take 23 32 (v := .pointer (some ⟨gr, 0, none⟩)) rfl rfl (by rw [sz]; decide) (want_of rfl rfl x31) (by kernel_rfl) (by kernel_rfl) (by kernel_rfl) (fun _ _ _ h => h) (run_mv rfl x1) hS ?_
  intro f34 df2 sz2 old2 new2
  replace x0 := (old2 0 rfl).trans x0
  replace x1 := (old2 1 rfl).trans x1
  replace x2 := (old2 2 rfl).trans x2
  replace x3 := (old2 3 rfl).trans x3
  replace x4 := (old2 4 rfl).trans x4
  replace x9 := (old2 9 rfl).trans x9
  replace x10 := (old2 10 rfl).trans x10
  replace x11 := (old2 11 rfl).trans x11
  replace x12 := (old2 12 rfl).trans x12
  replace x13 := (old2 13 rfl).trans x13
  replace x14 := (old2 14 rfl).trans x14
  replace x15 := (old2 15 rfl).trans x15
  replace x17 := (old2 17 rfl).trans x17
  replace x18 := (old2 18 rfl).trans x18
  replace x19 := (old2 19 rfl).trans x19
  replace x20 := (old2 20 rfl).trans x20
  replace x21 := (old2 21 rfl).trans x21
  replace x22 := (old2 22 rfl).trans x22
  replace x23 := (old2 23 rfl).trans x23
  replace x24 := (old2 24 rfl).trans x24
  replace x25 := (old2 25 rfl).trans x25
  replace x26 := (old2 26 rfl).trans x26
  replace x28 := (old2 28 rfl).trans x28
  replace x29 := (old2 29 rfl).trans x29
  replace x30 := (old2 30 rfl).trans x30
  replace x31 := (old2 31 rfl).trans x31
  have x32 : f34.eval (.tmp 32) = .pointer (some ⟨gr, 0, none⟩) := new2
  replace sz := sz2.trans sz
  replace df := df2.trans df
  clear df2 sz2 old2 new2
  refine wg_take 25 34 (v := .agg ((h1 1).map V).toArray) rfl rfl (by rw [sz]; decide) (want_of rfl rfl x31) (by kernel_rfl) (by kernel_rfl) (by kernel_rfl) (fun _ _ _ h => h) (run_ldh rfl (h1_len 1) x2 (fun W hW => Ob.range hW.1 0 _ (fun j v hj => by simpa using hj))) hS ?_
  intro f35 df2 sz2 old2 new2
  replace x0 := (old2 0 rfl).trans x0
  replace x1 := (old2 1 rfl).trans x1
  replace x2 := (old2 2 rfl).trans x2
  replace x3 := (old2 3 rfl).trans x3
  replace x4 := (old2 4 rfl).trans x4
  replace x9 := (old2 9 rfl).trans x9
  replace x10 := (old2 10 rfl).trans x10
  replace x11 := (old2 11 rfl).trans x11
  replace x12 := (old2 12 rfl).trans x12
  replace x13 := (old2 13 rfl).trans x13
  replace x14 := (old2 14 rfl).trans x14
  replace x15 := (old2 15 rfl).trans x15
  replace x17 := (old2 17 rfl).trans x17
  replace x18 := (old2 18 rfl).trans x18
  replace x19 := (old2 19 rfl).trans x19
  replace x20 := (old2 20 rfl).trans x20
  replace x21 := (old2 21 rfl).trans x21
  replace x22 := (old2 22 rfl).trans x22
  replace x23 := (old2 23 rfl).trans x23
  replace x24 := (old2 24 rfl).trans x24
  replace x25 := (old2 25 rfl).trans x25
  replace x26 := (old2 26 rfl).trans x26
  replace x28 := (old2 28 rfl).trans x28
  replace x29 := (old2 29 rfl).trans x29
  replace x30 := (old2 30 rfl).trans x30
  replace x31 := (old2 31 rfl).trans x31
  replace x32 := (old2 32 rfl).trans x32
  have x34 : f35.eval (.tmp 34) = .agg ((h1 1).map V).toArray := new2
  replace sz := sz2.trans sz
  replace df := df2.trans df
  clear df2 sz2 old2 new2
  refine wg_take 26 35 (v := .agg ((h1 2).map V).toArray) rfl rfl (by rw [sz]; decide) (want_of rfl rfl x31) (by kernel_rfl) (by kernel_rfl) (by kernel_rfl) (fun _ _ _ h => h) (run_ldh rfl (h1_len 2) x3 (fun W hW => Ob.range hW.2.1 0 _ (fun j v hj => by simpa using hj))) hS ?_
  intro f36 df2 sz2 old2 new2
  replace x0 := (old2 0 rfl).trans x0
  replace x1 := (old2 1 rfl).trans x1
  replace x2 := (old2 2 rfl).trans x2
  replace x3 := (old2 3 rfl).trans x3
  replace x4 := (old2 4 rfl).trans x4
  replace x9 := (old2 9 rfl).trans x9
  replace x10 := (old2 10 rfl).trans x10
  replace x11 := (old2 11 rfl).trans x11
  replace x12 := (old2 12 rfl).trans x12
  replace x13 := (old2 13 rfl).trans x13
  replace x14 := (old2 14 rfl).trans x14
  replace x15 := (old2 15 rfl).trans x15
  replace x17 := (old2 17 rfl).trans x17
  replace x18 := (old2 18 rfl).trans x18
  replace x19 := (old2 19 rfl).trans x19
  replace x20 := (old2 20 rfl).trans x20
  replace x21 := (old2 21 rfl).trans x21
  replace x22 := (old2 22 rfl).trans x22
  replace x23 := (old2 23 rfl).trans x23
  replace x24 := (old2 24 rfl).trans x24
  replace x25 := (old2 25 rfl).trans x25
  replace x26 := (old2 26 rfl).trans x26
  replace x28 := (old2 28 rfl).trans x28
  replace x29 := (old2 29 rfl).trans x29
  replace x30 := (old2 30 rfl).trans x30
  replace x31 := (old2 31 rfl).trans x31
  replace x32 := (old2 32 rfl).trans x32
  replace x34 := (old2 34 rfl).trans x34
  have x35 : f36.eval (.tmp 35) = .agg ((h1 2).map V).toArray := new2
  replace sz := sz2.trans sz
  replace df := df2.trans df
  clear df2 sz2 old2 new2
  refine wg_take 28 37 (v := .agg ((h1 3).map V).toArray) rfl rfl (by rw [sz]; decide) (want_of rfl rfl x31) (by kernel_rfl) (by kernel_rfl) (by kernel_rfl) (fun _ _ _ h => h) (run_ldh rfl (h1_len 3) x4 (fun W hW => Ob.range hW.2.2 0 _ (fun j v hj => by simpa using hj))) hS ?_
  intro f37 df2 sz2 old2 new2
  replace x0 := (old2 0 rfl).trans x0
  replace x1 := (old2 1 rfl).trans x1
  replace x2 := (old2 2 rfl).trans x2
  replace x3 := (old2 3 rfl).trans x3
  replace x4 := (old2 4 rfl).trans x4
  replace x9 := (old2 9 rfl).trans x9
  replace x10 := (old2 10 rfl).trans x10
  replace x11 := (old2 11 rfl).trans x11
  replace x12 := (old2 12 rfl).trans x12
  replace x13 := (old2 13 rfl).trans x13
  replace x14 := (old2 14 rfl).trans x14
  replace x15 := (old2 15 rfl).trans x15
  replace x17 := (old2 17 rfl).trans x17
  replace x18 := (old2 18 rfl).trans x18
  replace x19 := (old2 19 rfl).trans x19
  replace x20 := (old2 20 rfl).trans x20
  replace x21 := (old2 21 rfl).trans x21
  replace x22 := (old2 22 rfl).trans x22
  replace x23 := (old2 23 rfl).trans x23
  replace x24 := (old2 24 rfl).trans x24
  replace x25 := (old2 25 rfl).trans x25
  replace x26 := (old2 26 rfl).trans x26
  replace x28 := (old2 28 rfl).trans x28
  replace x29 := (old2 29 rfl).trans x29
  replace x30 := (old2 30 rfl).trans x30
  replace x31 := (old2 31 rfl).trans x31
  replace x32 := (old2 32 rfl).trans x32
  replace x34 := (old2 34 rfl).trans x34
  replace x35 := (old2 35 rfl).trans x35
  have x37 : f37.eval (.tmp 37) = .agg ((h1 3).map V).toArray := new2
  replace sz := sz2.trans sz
  replace df := df2.trans df
  clear df2 sz2 old2 new2
  refine wg_step 24 33 rfl rfl (by rw [sz]; decide) (want_of rfl rfl x31) (by kernel_rfl) (.eq (.agg ((q).map V).toArray)) (st_call 15 (.func 15) _ _ #[.pointer (some ⟨gr, 0, none⟩)] rfl rfl (one_arg x32) Tryd.enter15 (fk_rroot hrr (hK.below bl) eQ)) ?_
  intro f38 w38 df2 sz2 old2 new2 hb2
  refine ⟨⟨Ob.below hS.1 hb2, Ob.below hS.2.1 hb2, Ob.below hS.2.2 hb2⟩, ?_⟩
  have hS2 := hS
  replace hS := (show Ob w38 g2 33 ((h1 1).map V) ∧ Ob w38 g3 33 ((h1 2).map V) ∧ Ob w38 g4 33 ((h1 3).map V) from ⟨Ob.below hS.1 hb2, Ob.below hS.2.1 hb2, Ob.below hS.2.2 hb2⟩)
  clear hS2
  replace x0 := (old2 0 rfl).trans x0
  replace x1 := (old2 1 rfl).trans x1
  replace x2 := (old2 2 rfl).trans x2
  replace x3 := (old2 3 rfl).trans x3
  replace x4 := (old2 4 rfl).trans x4
  replace x9 := (old2 9 rfl).trans x9
  replace x10 := (old2 10 rfl).trans x10
  replace x11 := (old2 11 rfl).trans x11
  replace x12 := (old2 12 rfl).trans x12
  replace x13 := (old2 13 rfl).trans x13
  replace x14 := (old2 14 rfl).trans x14
  replace x15 := (old2 15 rfl).trans x15
  replace x17 := (old2 17 rfl).trans x17
  replace x18 := (old2 18 rfl).trans x18
  replace x19 := (old2 19 rfl).trans x19
  replace x20 := (old2 20 rfl).trans x20
  replace x21 := (old2 21 rfl).trans x21
  replace x22 := (old2 22 rfl).trans x22
  replace x23 := (old2 23 rfl).trans x23
  replace x24 := (old2 24 rfl).trans x24
  replace x25 := (old2 25 rfl).trans x25
  replace x26 := (old2 26 rfl).trans x26
  replace x28 := (old2 28 rfl).trans x28
  replace x29 := (old2 29 rfl).trans x29
  replace x30 := (old2 30 rfl).trans x30
  replace x31 := (old2 31 rfl).trans x31
  replace x32 := (old2 32 rfl).trans x32
  replace x34 := (old2 34 rfl).trans x34
  replace x35 := (old2 35 rfl).trans x35
  replace x37 := (old2 37 rfl).trans x37
  have x33 : f38.eval (.tmp 33) = .agg ((q).map V).toArray := new2
  replace hrr := hrr.mono hb2
  replace lt2 := Nat.lt_of_lt_of_le lt2 hb2.size
  replace lt3 := Nat.lt_of_lt_of_le lt3 hb2.size
  replace lt4 := Nat.lt_of_lt_of_le lt4 hb2.size
  replace bl := bl.trans (Below.mono hb2 bl.size)
  replace sz := sz2.trans sz
  replace df := df2.trans df
  clear df2 sz2 old2 new2 hb2
  refine wg_step 27 36 rfl rfl (by rw [sz]; decide) (want_of rfl rfl x31) (by kernel_rfl) (.eq (.agg ((p).map V).toArray)) (st_call 22 (.func 22) _ _ #[.agg ((h1 1).map V).toArray, .agg ((h1 2).map V).toArray] rfl rfl (arg2 x34 x35) Tryd.enter22 (fk_node (h1_len 1) (h1_len 2) (hK.below bl) ep)) ?_
  intro f39 w39 df2 sz2 old2 new2 hb2
  refine ⟨⟨Ob.below hS.1 hb2, Ob.below hS.2.1 hb2, Ob.below hS.2.2 hb2⟩, ?_⟩
  have hS2 := hS
  replace hS := (show Ob w39 g2 33 ((h1 1).map V) ∧ Ob w39 g3 33 ((h1 2).map V) ∧ Ob w39 g4 33 ((h1 3).map V) from ⟨Ob.below hS.1 hb2, Ob.below hS.2.1 hb2, Ob.below hS.2.2 hb2⟩)
  clear hS2
  replace x0 := (old2 0 rfl).trans x0
  replace x1 := (old2 1 rfl).trans x1
  replace x2 := (old2 2 rfl).trans x2
  replace x3 := (old2 3 rfl).trans x3
  replace x4 := (old2 4 rfl).trans x4
  replace x9 := (old2 9 rfl).trans x9
  replace x10 := (old2 10 rfl).trans x10
  replace x11 := (old2 11 rfl).trans x11
  replace x12 := (old2 12 rfl).trans x12
  replace x13 := (old2 13 rfl).trans x13
  replace x14 := (old2 14 rfl).trans x14
  replace x15 := (old2 15 rfl).trans x15
  replace x17 := (old2 17 rfl).trans x17
  replace x18 := (old2 18 rfl).trans x18
  replace x19 := (old2 19 rfl).trans x19
  replace x20 := (old2 20 rfl).trans x20
  replace x21 := (old2 21 rfl).trans x21
  replace x22 := (old2 22 rfl).trans x22
  replace x23 := (old2 23 rfl).trans x23
  replace x24 := (old2 24 rfl).trans x24
  replace x25 := (old2 25 rfl).trans x25
  replace x26 := (old2 26 rfl).trans x26
  replace x28 := (old2 28 rfl).trans x28
  replace x29 := (old2 29 rfl).trans x29
  replace x30 := (old2 30 rfl).trans x30
  replace x31 := (old2 31 rfl).trans x31
  replace x32 := (old2 32 rfl).trans x32
  replace x34 := (old2 34 rfl).trans x34
  replace x35 := (old2 35 rfl).trans x35
  replace x37 := (old2 37 rfl).trans x37
  replace x33 := (old2 33 rfl).trans x33
  have x36 : f39.eval (.tmp 36) = .agg ((p).map V).toArray := new2
  replace hrr := hrr.mono hb2
  replace lt2 := Nat.lt_of_lt_of_le lt2 hb2.size
  replace lt3 := Nat.lt_of_lt_of_le lt3 hb2.size
  replace lt4 := Nat.lt_of_lt_of_le lt4 hb2.size
  replace bl := bl.trans (Below.mono hb2 bl.size)
  replace sz := sz2.trans sz
  replace df := df2.trans df
  clear df2 sz2 old2 new2 hb2
  refine wg_step 29 38 rfl rfl (by rw [sz]; decide) (want_of rfl rfl x31) (by kernel_rfl) (.eq (.agg ((q).map V).toArray)) (st_call 22 (.func 22) _ _ #[.agg ((p).map V).toArray, .agg ((h1 3).map V).toArray] rfl rfl (arg2 x36 x37) Tryd.enter22 (fk_node hp (h1_len 3) (hK.below bl) eq)) ?_
  intro f40 w40 df2 sz2 old2 new2 hb2
  refine ⟨⟨Ob.below hS.1 hb2, Ob.below hS.2.1 hb2, Ob.below hS.2.2 hb2⟩, ?_⟩
  have hS2 := hS
  replace hS := (show Ob w40 g2 33 ((h1 1).map V) ∧ Ob w40 g3 33 ((h1 2).map V) ∧ Ob w40 g4 33 ((h1 3).map V) from ⟨Ob.below hS.1 hb2, Ob.below hS.2.1 hb2, Ob.below hS.2.2 hb2⟩)
  clear hS2
  replace x0 := (old2 0 rfl).trans x0
  replace x1 := (old2 1 rfl).trans x1
  replace x2 := (old2 2 rfl).trans x2
  replace x3 := (old2 3 rfl).trans x3
  replace x4 := (old2 4 rfl).trans x4
  replace x9 := (old2 9 rfl).trans x9
  replace x10 := (old2 10 rfl).trans x10
  replace x11 := (old2 11 rfl).trans x11
  replace x12 := (old2 12 rfl).trans x12
  replace x13 := (old2 13 rfl).trans x13
  replace x14 := (old2 14 rfl).trans x14
  replace x15 := (old2 15 rfl).trans x15
  replace x17 := (old2 17 rfl).trans x17
  replace x18 := (old2 18 rfl).trans x18
  replace x19 := (old2 19 rfl).trans x19
  replace x20 := (old2 20 rfl).trans x20
  replace x21 := (old2 21 rfl).trans x21
  replace x22 := (old2 22 rfl).trans x22
  replace x23 := (old2 23 rfl).trans x23
  replace x24 := (old2 24 rfl).trans x24
  replace x25 := (old2 25 rfl).trans x25
  replace x26 := (old2 26 rfl).trans x26
  replace x28 := (old2 28 rfl).trans x28
  replace x29 := (old2 29 rfl).trans x29
  replace x30 := (old2 30 rfl).trans x30
  replace x31 := (old2 31 rfl).trans x31
  replace x32 := (old2 32 rfl).trans x32
  replace x34 := (old2 34 rfl).trans x34
  replace x35 := (old2 35 rfl).trans x35
  replace x37 := (old2 37 rfl).trans x37
  replace x33 := (old2 33 rfl).trans x33
  replace x36 := (old2 36 rfl).trans x36
  have x38 : f40.eval (.tmp 38) = .agg ((q).map V).toArray := new2
  replace hrr := hrr.mono hb2
  replace lt2 := Nat.lt_of_lt_of_le lt2 hb2.size
  replace lt3 := Nat.lt_of_lt_of_le lt3 hb2.size
  replace lt4 := Nat.lt_of_lt_of_le lt4 hb2.size
  replace bl := bl.trans (Below.mono hb2 bl.size)
  replace sz := sz2.trans sz
  replace df := df2.trans df
  clear df2 sz2 old2 new2 hb2
  refine wg_step 30 39 rfl rfl (by rw [sz]; decide) (want_of rfl rfl x31) (by kernel_rfl) (.eq (.bool true)) (st_eqh (.tmp 33) (.tmp 38) rfl (q) (q) hq hq x33 x38 _ (by simp)) ?_
  intro f41 w41 df2 sz2 old2 new2 hb2
  refine ⟨⟨Ob.below hS.1 hb2, Ob.below hS.2.1 hb2, Ob.below hS.2.2 hb2⟩, ?_⟩
  have hS2 := hS
  replace hS := (show Ob w41 g2 33 ((h1 1).map V) ∧ Ob w41 g3 33 ((h1 2).map V) ∧ Ob w41 g4 33 ((h1 3).map V) from ⟨Ob.below hS.1 hb2, Ob.below hS.2.1 hb2, Ob.below hS.2.2 hb2⟩)
  clear hS2
  replace x0 := (old2 0 rfl).trans x0
  replace x1 := (old2 1 rfl).trans x1
  replace x2 := (old2 2 rfl).trans x2
  replace x3 := (old2 3 rfl).trans x3
  replace x4 := (old2 4 rfl).trans x4
  replace x9 := (old2 9 rfl).trans x9
  replace x10 := (old2 10 rfl).trans x10
  replace x11 := (old2 11 rfl).trans x11
  replace x12 := (old2 12 rfl).trans x12
  replace x13 := (old2 13 rfl).trans x13
  replace x14 := (old2 14 rfl).trans x14
  replace x15 := (old2 15 rfl).trans x15
  replace x17 := (old2 17 rfl).trans x17
  replace x18 := (old2 18 rfl).trans x18
  replace x19 := (old2 19 rfl).trans x19
  replace x20 := (old2 20 rfl).trans x20
  replace x21 := (old2 21 rfl).trans x21
  replace x22 := (old2 22 rfl).trans x22
  replace x23 := (old2 23 rfl).trans x23
  replace x24 := (old2 24 rfl).trans x24
  replace x25 := (old2 25 rfl).trans x25
  replace x26 := (old2 26 rfl).trans x26
  replace x28 := (old2 28 rfl).trans x28
  replace x29 := (old2 29 rfl).trans x29
  replace x30 := (old2 30 rfl).trans x30
  replace x31 := (old2 31 rfl).trans x31
  replace x32 := (old2 32 rfl).trans x32
  replace x34 := (old2 34 rfl).trans x34
  replace x35 := (old2 35 rfl).trans x35
  replace x37 := (old2 37 rfl).trans x37
  replace x33 := (old2 33 rfl).trans x33
  replace x36 := (old2 36 rfl).trans x36
  replace x38 := (old2 38 rfl).trans x38
  have x39 : f41.eval (.tmp 39) = .bool true := new2
  replace hrr := hrr.mono hb2
  replace lt2 := Nat.lt_of_lt_of_le lt2 hb2.size
  replace lt3 := Nat.lt_of_lt_of_le lt3 hb2.size
  replace lt4 := Nat.lt_of_lt_of_le lt4 hb2.size
  replace bl := bl.trans (Below.mono hb2 bl.size)
  replace sz := sz2.trans sz
  replace df := df2.trans df
  clear df2 sz2 old2 new2 hb2
  refine wg_step 31 40 rfl rfl (by rw [sz]; decide) (want_none rfl) (by kernel_rfl) (.eq (.bool true)) (st_pick_t (.tmp 31) (.tmp 39) (.const (.bool false)) rfl x31 x39) ?_
  intro f42 w42 df2 sz2 old2 new2 hb2
  refine ⟨⟨Ob.below hS.1 hb2, Ob.below hS.2.1 hb2, Ob.below hS.2.2 hb2⟩, ?_⟩
  have hS2 := hS
  replace hS := (show Ob w42 g2 33 ((h1 1).map V) ∧ Ob w42 g3 33 ((h1 2).map V) ∧ Ob w42 g4 33 ((h1 3).map V) from ⟨Ob.below hS.1 hb2, Ob.below hS.2.1 hb2, Ob.below hS.2.2 hb2⟩)
  clear hS2
  replace x0 := (old2 0 rfl).trans x0
  replace x1 := (old2 1 rfl).trans x1
  replace x2 := (old2 2 rfl).trans x2
  replace x3 := (old2 3 rfl).trans x3
  replace x4 := (old2 4 rfl).trans x4
  replace x9 := (old2 9 rfl).trans x9
  replace x10 := (old2 10 rfl).trans x10
  replace x11 := (old2 11 rfl).trans x11
  replace x12 := (old2 12 rfl).trans x12
  replace x13 := (old2 13 rfl).trans x13
  replace x14 := (old2 14 rfl).trans x14
  replace x15 := (old2 15 rfl).trans x15
  replace x17 := (old2 17 rfl).trans x17
  replace x18 := (old2 18 rfl).trans x18
  replace x19 := (old2 19 rfl).trans x19
  replace x20 := (old2 20 rfl).trans x20
  replace x21 := (old2 21 rfl).trans x21
  replace x22 := (old2 22 rfl).trans x22
  replace x23 := (old2 23 rfl).trans x23
  replace x24 := (old2 24 rfl).trans x24
  replace x25 := (old2 25 rfl).trans x25
  replace x26 := (old2 26 rfl).trans x26
  replace x28 := (old2 28 rfl).trans x28
  replace x29 := (old2 29 rfl).trans x29
  replace x30 := (old2 30 rfl).trans x30
  replace x31 := (old2 31 rfl).trans x31
  replace x32 := (old2 32 rfl).trans x32
  replace x34 := (old2 34 rfl).trans x34
  replace x35 := (old2 35 rfl).trans x35
  replace x37 := (old2 37 rfl).trans x37
  replace x33 := (old2 33 rfl).trans x33
  replace x36 := (old2 36 rfl).trans x36
  replace x38 := (old2 38 rfl).trans x38
  replace x39 := (old2 39 rfl).trans x39
  have x40 : f42.eval (.tmp 40) = .bool true := new2
  replace hrr := hrr.mono hb2
  replace lt2 := Nat.lt_of_lt_of_le lt2 hb2.size
  replace lt3 := Nat.lt_of_lt_of_le lt3 hb2.size
  replace lt4 := Nat.lt_of_lt_of_le lt4 hb2.size
  replace bl := bl.trans (Below.mono hb2 bl.size)
  replace sz := sz2.trans sz
  replace df := df2.trans df
  clear df2 sz2 old2 new2 hb2
  refine wh_assign 32 0 rfl rfl (by rw [sz]; decide) rfl (by kernel_rfl) (.tmp 40) rfl hS ?_
  intro f43 df2 sz2 old2 new2
  replace x0 : f43.eval (.tmp 0) = .bool true := new2.trans x40
  replace sz := sz2.trans sz
  replace df := df2.trans df
  refine wpAnyH_done (by kernel_rfl) ?_ _
  show Code.wp _ _ _ _ _
  refine wp_ret ?_
  repeat (first | with_reducible refine then_ret ?_ | with_reducible refine block_ret ?_)
  exact bodyPost_ret (v := .bool true) (ret_slot rfl f43 _ x0 _ _) df ⟨rfl, bl⟩
end Go.Proofs.YtnppjlpnfijobaaDoor
namespace Go.Proofs.YtnppjlpnfijobaaDoor
set_option maxRecDepth 100000
open Go.RowKit
theorem rgb_max (n : Int) {S : List (List (BitVec 8))} (h : ∀ x ∈ S, x.length = 32) (hl : S.length ≤ 21) : 12 ≤ (be8 n ++ hsb S).length ∧ (be8 n ++ hsb S).length ≤ 700 := by
  have e1 := flat_len2 S (fun i x hx => h x (List.mem_of_getElem? hx))
  unfold hsb
  simp only [List.length_append, be8_len, beN_len, e1]
  omega
end Go.Proofs.YtnppjlpnfijobaaDoor
namespace Go.Proofs.YtnppjlpnfijobaaDoor
set_option maxRecDepth 100000
open Go.RowKit
section
variable {Q : Exit → Act → World → Prop} {o : Oper} {a : Act} {w : World} {ops : Array Oper} {rest : List Oper}
end
/-- A slice of so many hashes, whatever they are, whose row (if there is one) is the call's own: it lies at s or behind it. -/
def OwnP (s m : Nat) (v : Value) (w : World) : Prop := (∃ A C, v = .slice A m C) ∧ (0 < m → ∃ g cap ys, v = .slice (some ⟨g, 0, none⟩) m cap ∧ s ≤ g ∧ ys.length = m ∧ Rw w g ys)
theorem OwnP.mono {s m : Nat} {v : Value} {w w' : World} (h : OwnP s m v w) (hb : Below w.heap.size w w') : OwnP s m v w' := ⟨h.1, fun hm => by
  obtain ⟨g, cap, ys, e, h1, h2, h3⟩ := h.2 hm
  exact ⟨g, cap, ys, e, h1, h2, h3.below hb⟩⟩
section
variable {Q : Exit → Act → World → Prop} {o : Oper} {a : Act} {w : World}
end
end Go.Proofs.YtnppjlpnfijobaaDoor
namespace Go.Proofs.YtnppjlpnfijobaaDoor
set_option maxRecDepth 100000
open Go.RowKit
section
variable {Q : Exit → Act → World → Prop} {o : Oper} {a : Act} {w : World} {ops : Array Oper} {rest : List Oper}
theorem st_max2 (x y : Operand) (ts : Array TypeId) (ho : o.op = .call { callee := .builtin .max, args := #[x, y], argTypes := ts }) (m n e : Int) (hx : a.eval x = .int .i64 m) (hy : a.eval y = .int .i64 n) (he : e = max m n) : o.wp Tryd.prog a w (Ends a o.dst w (Fk.eq (.int .i64 e)).f) Q := by
  refine st_pure (v := .int .i64 e) ?_ rfl
  have h1 := run_max_int2 (P := Tryd.prog) (w := w) ts o.type .i64 .i64 m n
  have h2 : (if n > m then n else m) = e := by rw [he]; split <;> omega
  rw [h2] at h1
  unfold execOp
  simp [ho, resolve, invoke, builtin, hx, hy, h1]
theorem st_min2 (x y : Operand) (ts : Array TypeId) (ho : o.op = .call { callee := .builtin .min, args := #[x, y], argTypes := ts }) (m n e : Int) (hx : a.eval x = .int .i64 m) (hy : a.eval y = .int .i64 n) (he : e = min m n) : o.wp Tryd.prog a w (Ends a o.dst w (Fk.eq (.int .i64 e)).f) Q := by
  refine st_pure (v := .int .i64 e) ?_ rfl
  have h1 := run_min_int2 (P := Tryd.prog) (w := w) ts o.type .i64 .i64 m n
  have h2 : (if n < m then n else m) = e := by rw [he]; split <;> omega
  rw [h2] at h1
  unfold execOp
  simp [ho, resolve, invoke, builtin, hx, hy, h1]
theorem wl_apprM (ST T sz by_ : Nat) {z : Value} (hu : Tryd.prog.underlying ST = some (.slice T)) (hinf : (Tryd.prog.info? T).map (fun i => (i.zero, i.size, i.bytes)) = some (some z, sz, by_)) (hzs : z.cells.size = sz) (hpos : 0 < sz)
    (hgd : o.guard = none) (s x : Operand) (ho : o.op = .call { callee := .builtin .append, args := #[s, x], argTypes := #[ST, ST] }) (d : Nat) (hd : o.dst = some d) (hsz : d < a.tmps.size)
    {wL : World} {n m : Nat} {cs ds : List Value} {A : Option Addr} {C : Nat} (hs1 : (Fk.orw wL.heap.size T sz n cs).f (a.eval s) w) (e : a.eval x = .slice A m C) (hx : (Fk.rdw sz m ds).f (.slice A m C) w) (hA : A = none → C = 0) (hone : ∀ u ∈ ds, u.oneCell' = true) (hL : Below wL.heap.size wL w) (hN : n + m ≤ 100000) (hby : by_ ≤ 1000)
    (h : ∀ a2 w2, a2.defers = a.defers → a2.tmps.size = a.tmps.size → (∀ t, (t == d) = false → a2.eval (.tmp t) = a.eval (.tmp t)) → (Fk.orw wL.heap.size T sz (n + m) (cs ++ ds)).f (a2.eval (.tmp d)) w2 → Below wL.heap.size wL w2 → wpList Tryd.prog ops Q rest a2 w2) : wpList Tryd.prog ops Q (o :: rest) a w := by
  obtain ⟨i0, hi, hz0, hz1, hz2⟩ := info_parts hinf
  obtain ⟨A', C', lb, lo, e', hp, hl, hr⟩ := hx
  cases e'
  have hown : w.ownsRow wL.heap.size T sz (a.eval s) n cs := hs1
  have hm0 : m = 0 → ds = [] := fun h0 => List.eq_nil_of_length_eq_zero (by rw [hl, h0, Nat.zero_mul])
  cases hA2 : A with
  | none =>
    have hC := hA hA2
    have hm : m = 0 := by
      rcases Nat.eq_zero_or_pos m with h0 | h0
      · exact h0
      · have := hp h0; rw [hA2] at this; cases this
    have hds := hm0 hm
    subst hm hC hds
    rw [hA2] at e
    refine wpList_append_own_none hgd s x ST ho wL.heap.size T i0 sz hu hi _ n _ rfl hown e ?_
    refine h _ _ (put_def _ _ _) (put_size _ _ _) (fun t ht => ?_) ?_ hL
    · rw [hd]
      exact put_eval_other _ _ _ _ (fun e => by subst e; simp at ht)
    · rw [hd, put_eval_same _ _ _ hsz, List.append_nil]
      exact hown
  | some ad =>
    rw [hA2] at e
    have hcell : ∀ j u, ds[j]? = some u → w.cell? (ad.add j) = some u := by
      intro j u hj
      have hm : 0 < m := by
        rcases Nat.eq_zero_or_pos m with h0 | h0
        · rw [hm0 h0] at hj; simp at hj
        · exact h0
      have had : ad = ⟨lb, lo, none⟩ := by have := hp hm; rw [hA2] at this; exact Option.some.inj this
      subst had
      rw [Addr.add_mid]
      exact hr j u hj
    refine wpList_append_own w hgd s x ST ho wL.heap.size T i0 z sz by_ hu hi hz0 hz1 hz2 hzs hpos _ n cs rfl hown ad m C ds e hl hcell hone (by unfold maxLen; omega) ?_ hL.size ?_
    · have := Nat.mul_le_mul hN hby
      omega
    · intro v' w' h1 h2 _
      refine h _ _ (put_def _ _ _) (put_size _ _ _) (fun t ht => ?_) ?_ (hL.grown h2 hL.size (fun k e => (World.ownsRow.lt hown k e).1))
      · rw [hd]
        exact put_eval_other _ _ _ _ (fun e => by subst e; simp at ht)
      · rw [hd, put_eval_same _ _ _ hsz]
        exact h1
theorem zv_mem (ds : List Int) : ∀ u ∈ zv ds, u.oneCell' = true := by
  intro u hu
  unfold zv at hu
  obtain ⟨x, _, rfl⟩ := List.mem_map.1 hu
  rfl
theorem wl_appendMI (hgd : o.guard = none) (s x : Operand) (ho : o.op = .call { callee := .builtin .append, args := #[s, x], argTypes := #[23, 23] }) (d : Nat) (hd : o.dst = some d) (hsz : d < a.tmps.size)
    {wL : World} {cs ds : List Int} {A : Option Addr} {C : Nat} (hs1 : (Fk.oi wL.heap.size cs).f (a.eval s) w) (e : a.eval x = .slice A ds.length C) (hx : (Fk.is ds).f (.slice A ds.length C) w) (hA : A = none → C = 0) (hL : Below wL.heap.size wL w) (hN : cs.length + ds.length ≤ 100000)
    (h : ∀ a2 w2, a2.defers = a.defers → a2.tmps.size = a.tmps.size → (∀ t, (t == d) = false → a2.eval (.tmp t) = a.eval (.tmp t)) → (Fk.oi wL.heap.size (cs ++ ds)).f (a2.eval (.tmp d)) w2 → Below wL.heap.size wL w2 → wpList Tryd.prog ops Q rest a2 w2) : wpList Tryd.prog ops Q (o :: rest) a w :=
  wl_apprM 23 3 1 8 Tryd.under23z Tryd.info3z rfl (by decide) hgd s x ho d hd hsz hs1 e hx hA (zv_mem ds) hL hN (by decide) (fun a2 w2 h1 h2 h3 h4 h5 => h a2 w2 h1 h2 h3 (by unfold Fk.oi; rw [List.length_append, show zv (cs ++ ds) = zv cs ++ zv ds from List.map_append]; exact h4) h5)
theorem Tryd.build0i (w : World) : (Instr.buildSlice 23 0 #[]).run Tryd.prog w = .ok (.slice (some ⟨w.heap.size, 0, none⟩) 0 0) (w.alloc (.cells #[] 3)) := by kernel_rfl
theorem st_build0i (ho : o.op = .buildSlice 23 0 #[]) (base : Nat) (hb : base ≤ w.heap.size) : o.wp Tryd.prog a w (Ends a o.dst w (Fk.oi base []).f) Q := by
  refine st_run (v := .slice (some ⟨w.heap.size, 0, none⟩) 0 0) (w' := w.alloc (.cells #[] 3)) ?_ ((Below.refl _ _).alloc (Nat.le_refl _) _) ⟨rfl, .inr ⟨w.heap.size, 0, #[], rfl, hb, heap_alloc_new _ _, Nat.le_refl _, Nat.zero_le _, rfl, rfl⟩⟩
  have := Tryd.build0i w
  unfold execOp
  rw [ho]
  simp [this]
/-- A slice of numbers of the call's own lies in one block; it has its numbers as long as that block is as it is. -/
theorem oi_block {base : Nat} {ds : List Int} {v : Value} {w : World} (h : (Fk.oi base ds).f v w) (h0 : 0 < ds.length) : ∃ b X, base ≤ b ∧ b < w.heap.size ∧ w.heap[b]? = some X ∧ ∀ w2 : World, w2.heap[b]? = some X → (Fk.is ds).f v w2 := by
  obtain ⟨h1, h2⟩ := h
  rcases h2 with ⟨_, h2⟩ | ⟨g, cap, cur, e, hb, hg, r⟩
  · omega
  · exact ⟨g, _, hb, (Array.getElem?_eq_some_iff.1 hg).1, hg, fun w2 h3 => oi_is (base := base) ⟨h1, .inr ⟨g, cap, cur, e, hb, h3, r⟩⟩⟩
end
end Go.Proofs.YtnppjlpnfijobaaDoor
namespace Go.Proofs.YtnppjlpnfijobaaDoor
set_option maxRecDepth 100000
open Go.RowKit
end Go.Proofs.YtnppjlpnfijobaaDoor
