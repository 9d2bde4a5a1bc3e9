/- awake. CollideRight, CollideLists. -/
import Derived.Test.YtfmeeimhfdnjpaaDoorM18
namespace Go.Proofs.YtfmeeimhfdnjpaaDoor
set_option maxRecDepth 100000
open Go.RowKit
theorem awake_any (w : World) (hK : Tab w) :
    Calls Tryd.prog 8 #[] w fun e w' => e = .returned (.bool true) ∧ Below w.heap.size w w' := by
  have hn1 := mc_nil w
  have hn2 := sl_nil w
  have hn3 := hc_nil w
  go_enter Tryd.func8, Tryd.ntmps8
  refine code_both (fun f w1 => f.tmps.size = 29 ∧ f.defers = [] ∧ Below w.heap.size w (w1)) ⟨rfl, rfl, Below.refl _ _⟩ ?_
  rintro f0 w0 ⟨sz, df, bl⟩
  have bl0 := bl
  refine wp_seq ?_
  refine wp_all_seq [.eq (.bool false)] (by kernel_rfl) (by kernel_rfl) (by rw [sz]; kernel_rfl) (by kernel_rfl) ⟨fun hw ac u K => ?_, trivial⟩ ?_
  · exact st_assign (.const (.bool false)) rfl rfl
  intro f1 w1 A hb
  replace bl0 := bl
  have x0 : f1.eval (.tmp 0) = .bool false := A.has 0 0 rfl
  replace bl := (bl.trans (Below.mono hb bl.size))
  replace sz := A.size.trans sz
  replace df := A.defs.trans df
  clear A hb
  show Code.wp _ _ _ _ _
  refine wp_seq ?_
  refine wp_region_seq [.eq (.agg ([.int .i64 0, .int .i64 0, .slice none 0 0, .slice none 0 0] : List Value).toArray)] (by kernel_rfl) (by kernel_rfl) (by rw [sz]; kernel_rfl) (by kernel_rfl) ⟨fun hw ac u K => ?_, trivial⟩ ?_
  · exact st_build 39 _ rfl (by kernel_rfl)
  intro f2 w2 A hb
  replace bl0 := bl
  replace x0 := (A.old 0 rfl).trans x0
  have x8 : f2.eval (.tmp 8) = .agg ([.int .i64 0, .int .i64 0, .slice none 0 0, .slice none 0 0] : List Value).toArray := A.has 0 8 rfl
  replace bl := (bl.trans (Below.mono hb bl.size))
  replace sz := A.size.trans sz
  replace df := A.defs.trans df
  clear A hb
  refine wl_call 16 (.func 16) _ _ #[.slice none 0 0, .agg ([.int .i64 0, .int .i64 0, .slice none 0 0, .slice none 0 0] : List Value).toArray] rfl 9 rfl (by rw [sz]; decide) rfl rfl (arg2 rfl x8) Tryd.enter16 (fun u W => (Fk.c3 false 11).f u W ∧ Below w2.heap.size w2 W) (fk_cin_no (ps := []) (lb := []) (P := []) (i := 0) (n := 0) ⟨by simp, by simp⟩ (by simp) (by simp) (mc_nil _) (sl_nil _) (hc_nil _) (hK.below bl) (.inr (.inr (by simp)))) ?_
  rintro f3 w3 df2 sz2 old2 ⟨⟨A1, B1, u11, u21, new2, hA1, hB1, hlA1, hlB1, hr1⟩, hb⟩
  obtain ⟨pA1, mA1, cA1, _, _, rfl, _⟩ := id hA1
  obtain ⟨pB1, mB1, cB1, _, _, rfl, _⟩ := id hB1
  replace bl0 := bl
  replace x0 := (old2 0 rfl).trans x0
  replace x8 := (old2 8 rfl).trans x8
  have x9 : f3.eval (.tmp 9) = .tuple #[.agg ([.slice pA1 mA1 cA1, .slice pB1 mB1 cB1] : List Value).toArray, .bool false, .int .i64 11] := new2
  replace bl := (bl.trans (Below.mono hb bl.size))
  replace sz := sz2.trans sz
  replace df := df2.trans df
  clear df2 sz2 old2 new2 hb
  have blw := bl
  replace hn1 := Fk.mono _ _ _ _ hn1 bl
  replace hn2 := Fk.mono _ _ _ _ hn2 bl
  replace hn3 := Fk.mono _ _ _ _ hn3 bl
  replace hK := hK.below bl
  replace bl := Below.refl w3.heap.size w3
  replace bl0 := bl
  clear x8
  refine wl_one (.eq (.tuple #[.agg ([.slice pA1 mA1 cA1, .slice pB1 mB1 cB1] : List Value).toArray, .bool false, .int .i64 11])) rfl 7 rfl (by rw [sz]; decide) (st_move (.tmp 9) rfl x9) ?_
  intro f4 w4 df2 sz2 old2 new2 hb
  replace bl0 := bl
  replace x0 := (old2 0 rfl).trans x0
  replace x9 := (old2 9 rfl).trans x9
  have x7 : f4.eval (.tmp 7) = .tuple #[.agg ([.slice pA1 mA1 cA1, .slice pB1 mB1 cB1] : List Value).toArray, .bool false, .int .i64 11] := new2
  replace bl := (bl.trans (Below.mono hb bl.size))
  replace sz := sz2.trans sz
  replace df := df2.trans df
  clear df2 sz2 old2 new2 hb
  clear x9
  refine wl_one (.eq (.agg ([.slice pA1 mA1 cA1, .slice pB1 mB1 cB1] : List Value).toArray)) rfl 10 rfl (by rw [sz]; decide) (st_tup (.tmp 7) rfl x7 (by rfl)) ?_
  intro f5 w5 df2 sz2 old2 new2 hb
  replace bl0 := bl
  replace x0 := (old2 0 rfl).trans x0
  replace x7 := (old2 7 rfl).trans x7
  have x10 : f5.eval (.tmp 10) = .agg ([.slice pA1 mA1 cA1, .slice pB1 mB1 cB1] : List Value).toArray := new2
  replace bl := (bl.trans (Below.mono hb bl.size))
  replace sz := sz2.trans sz
  replace df := df2.trans df
  clear df2 sz2 old2 new2 hb
  refine wl_one (.eq (.bool false)) rfl 11 rfl (by rw [sz]; decide) (st_tup (.tmp 7) rfl x7 (by rfl)) ?_
  intro f6 w6 df2 sz2 old2 new2 hb
  replace bl0 := bl
  replace x0 := (old2 0 rfl).trans x0
  replace x7 := (old2 7 rfl).trans x7
  replace x10 := (old2 10 rfl).trans x10
  have x11 : f6.eval (.tmp 11) = .bool false := new2
  replace bl := (bl.trans (Below.mono hb bl.size))
  replace sz := sz2.trans sz
  replace df := df2.trans df
  clear df2 sz2 old2 new2 hb
  refine wl_one (.eq (.int .i64 11)) rfl 12 rfl (by rw [sz]; decide) (st_tup (.tmp 7) rfl x7 (by rfl)) ?_
  intro f7 w7 df2 sz2 old2 new2 hb
  replace bl0 := bl
  replace x0 := (old2 0 rfl).trans x0
  replace x7 := (old2 7 rfl).trans x7
  replace x10 := (old2 10 rfl).trans x10
  replace x11 := (old2 11 rfl).trans x11
  have x12 : f7.eval (.tmp 12) = .int .i64 11 := new2
  replace bl := (bl.trans (Below.mono hb bl.size))
  replace sz := sz2.trans sz
  replace df := df2.trans df
  clear df2 sz2 old2 new2 hb
  clear x7
  refine wl_one (.nw w7.heap.size 25 [.slice none 0 0, .slice none 0 0]) rfl 1 rfl (by rw [sz]; decide) (st_alloc 25 rfl _ _ (by kernel_rfl) (Nat.le_refl _)) ?_
  intro f8 w8 df2 sz2 old2 new2 hb
  replace bl0 := bl
  replace x0 := (old2 0 rfl).trans x0
  replace x10 := (old2 10 rfl).trans x10
  replace x11 := (old2 11 rfl).trans x11
  replace x12 := (old2 12 rfl).trans x12
  have x1 : Fk.f (.nw w7.heap.size 25 [.slice none 0 0, .slice none 0 0]) (f8.eval (.tmp 1)) w8 := new2
  replace bl := (bl.trans (Below.mono hb bl.size))
  replace sz := sz2.trans sz
  replace df := df2.trans df
  clear df2 sz2 old2 new2 hb
  obtain ⟨g1, hg1, e1, m1⟩ := x1
  have x1 := e1
  clear e1
  have hw1 : w3.heap.size ≤ g1 := Nat.le_trans bl0.size hg1
  refine wl_str rfl 25 (.tmp 1) (.tmp 10) rfl rfl (g1) ([.slice pA1 mA1 cA1, .slice pB1 mB1 cB1] : List Value).toArray x1 x10 25 _ m1 (by kernel_rfl) (by kernel_rfl) (by kernel_rfl) ?_
  replace m1 : Ob (w8.setRow g1 ([.slice pA1 mA1 cA1, .slice pB1 mB1 cB1] : List Value).toArray) (g1) 25 ([.slice pA1 mA1 cA1, .slice pB1 mB1 cB1]) := Ob.setRow m1 ([.slice pA1 mA1 cA1, .slice pB1 mB1 cB1])
  replace bl : Below w3.heap.size w3 (w8.setRow g1 ([.slice pA1 mA1 cA1, .slice pB1 mB1 cB1] : List Value).toArray) := bl.trans (below_setRow _ _ _ _ hw1)
  generalize w8.setRow g1 ([.slice pA1 mA1 cA1, .slice pB1 mB1 cB1] : List Value).toArray = w9b at bl m1 ⊢
  clear x10
  clear x1
  refine wl_one (.eq (.bool false)) rfl 2 rfl (by rw [sz]; decide) (st_assign (.tmp 11) rfl x11) ?_
  intro f10 w10 df2 sz2 old2 new2 hb
  replace bl0 := bl
  replace x0 := (old2 0 rfl).trans x0
  replace x11 := (old2 11 rfl).trans x11
  replace x12 := (old2 12 rfl).trans x12
  have x2 : f10.eval (.tmp 2) = .bool false := new2
  have lt_m1 := Ob.lt m1
  replace m1 := Ob.below m1 hb
  replace bl := (bl.trans (Below.mono hb bl.size))
  replace sz := sz2.trans sz
  replace df := df2.trans df
  clear df2 sz2 old2 new2 hb
  clear x11
  clear x2
  refine wl_one (.eq (.int .i64 11)) rfl 3 rfl (by rw [sz]; decide) (st_assign (.tmp 12) rfl x12) ?_
  intro f11 w11 df2 sz2 old2 new2 hb
  replace bl0 := bl
  replace x0 := (old2 0 rfl).trans x0
  replace x12 := (old2 12 rfl).trans x12
  have x3 : f11.eval (.tmp 3) = .int .i64 11 := new2
  have lt_m1 := Ob.lt m1
  replace m1 := Ob.below m1 hb
  replace bl := (bl.trans (Below.mono hb bl.size))
  replace sz := sz2.trans sz
  replace df := df2.trans df
  clear df2 sz2 old2 new2 hb
  refine wpList_nil ?_
  clear x12
  show Code.wp _ _ _ _ _
  refine wp_seq ?_
  refine wp_region_seq [] (by kernel_rfl) (by kernel_rfl) (by rw [sz]; kernel_rfl) (by kernel_rfl) trivial ?_
  intro f12 w12 A hb
  replace bl0 := bl
  replace x0 := (A.old 0 rfl).trans x0
  replace x3 := (A.old 3 rfl).trans x3
  have lt_m1 := Ob.lt m1
  replace m1 := Ob.below m1 hb
  replace bl := (bl.trans (Below.mono hb bl.size))
  replace sz := A.size.trans sz
  replace df := A.defs.trans df
  clear A hb
  refine wl_one (.sl ([1#8])) rfl 14 rfl (by rw [sz]; decide) (st_b1 1 1#8 rfl (by rfl)) ?_
  intro f13 w13 df2 sz2 old2 new2 hb
  replace bl0 := bl
  replace x0 := (old2 0 rfl).trans x0
  replace x3 := (old2 3 rfl).trans x3
  have x14 : Fk.f (.sl ([1#8])) (f13.eval (.tmp 14)) w13 := new2
  have lt_m1 := Ob.lt m1
  replace m1 := Ob.below m1 hb
  replace bl := (bl.trans (Below.mono hb bl.size))
  replace sz := sz2.trans sz
  replace df := df2.trans df
  clear df2 sz2 old2 new2 hb
  refine wl_one (.m1 ([1#8])) rfl 15 rfl (by rw [sz]; decide) (st_bm1 (.tmp 14) rfl x14) ?_
  intro f14 w14 df2 sz2 old2 new2 hb
  replace bl0 := bl
  replace x0 := (old2 0 rfl).trans x0
  replace x3 := (old2 3 rfl).trans x3
  replace x14 := f_at (old2 14 rfl) (Fk.mono _ _ _ _ x14 hb)
  have x15 : Fk.f (.m1 ([1#8])) (f14.eval (.tmp 15)) w14 := new2
  have lt_m1 := Ob.lt m1
  replace m1 := Ob.below m1 hb
  replace bl := (bl.trans (Below.mono hb bl.size))
  replace sz := sz2.trans sz
  replace df := df2.trans df
  clear df2 sz2 old2 new2 hb
  clear x14
  refine wl_one (.eq (.agg ((hz).map V).toArray)) rfl 16 rfl (by rw [sz]; decide) (st_zero33 rfl) ?_
  intro f15 w15 df2 sz2 old2 new2 hb
  replace bl0 := bl
  replace x0 := (old2 0 rfl).trans x0
  replace x3 := (old2 3 rfl).trans x3
  replace x15 := f_at (old2 15 rfl) (Fk.mono _ _ _ _ x15 hb)
  have x16 : f15.eval (.tmp 16) = .agg ((hz).map V).toArray := new2
  have lt_m1 := Ob.lt m1
  replace m1 := Ob.below m1 hb
  replace bl := (bl.trans (Below.mono hb bl.size))
  replace sz := sz2.trans sz
  replace df := df2.trans df
  clear df2 sz2 old2 new2 hb
  refine wl_one (.hc ([hz])) rfl 17 rfl (by rw [sz]; decide) (st_bh1c (.tmp 16) rfl hz_len x16) ?_
  intro f16 w16 df2 sz2 old2 new2 hb
  replace bl0 := bl
  replace x0 := (old2 0 rfl).trans x0
  replace x3 := (old2 3 rfl).trans x3
  replace x15 := f_at (old2 15 rfl) (Fk.mono _ _ _ _ x15 hb)
  replace x16 := (old2 16 rfl).trans x16
  have x17 : Fk.f (.hc ([hz])) (f16.eval (.tmp 17)) w16 := new2
  have lt_m1 := Ob.lt m1
  replace m1 := Ob.below m1 hb
  replace bl := (bl.trans (Below.mono hb bl.size))
  replace sz := sz2.trans sz
  replace df := df2.trans df
  clear df2 sz2 old2 new2 hb
  clear x16
  obtain ⟨v15, e15⟩ : ∃ v, f16.eval (.tmp 15) = v := ⟨_, rfl⟩
  obtain ⟨p15, hp15, h15⟩ := x15
  rw [e15] at h15
  replace x15 := e15
  clear e15
  obtain ⟨v17, e17⟩ : ∃ v, f16.eval (.tmp 17) = v := ⟨_, rfl⟩
  have h17 := x17
  rw [e17] at h17
  replace x17 := e17
  clear e17
  obtain ⟨A15, C15, _, _, rfl, _⟩ := id h15.1
  obtain ⟨A17, C17, _, _, rfl, _⟩ := id h17
  refine wl_one (.eq (.agg ([.slice none 0 0, .slice A15 [p15].length C15, .slice A17 [hz].length C17] : List Value).toArray)) rfl 18 rfl (by rw [sz]; decide) (st_build 47 _ rfl (by simp only [List.map_toArray, List.map_cons, List.map_nil, show f16.eval (.tmp 15) = _ from x15, show f16.eval (.tmp 17) = _ from x17]; kernel_rfl)) ?_
  intro f17 w17 df2 sz2 old2 new2 hb
  replace bl0 := bl
  replace x0 := (old2 0 rfl).trans x0
  replace x3 := (old2 3 rfl).trans x3
  replace x15 := (old2 15 rfl).trans x15
  replace x17 := (old2 17 rfl).trans x17
  have x18 : f17.eval (.tmp 18) = .agg ([.slice none 0 0, .slice A15 [p15].length C15, .slice A17 [hz].length C17] : List Value).toArray := new2
  have lt_m1 := Ob.lt m1
  replace m1 := Ob.below m1 hb
  replace h15 := Fk.mono _ _ _ _ h15 hb
  replace h17 := Fk.mono _ _ _ _ h17 hb
  replace bl := (bl.trans (Below.mono hb bl.size))
  replace sz := sz2.trans sz
  replace df := df2.trans df
  clear df2 sz2 old2 new2 hb
  clear x15
  clear x17
  refine wl_call 20 (.func 20) _ _ #[.agg ([.slice none 0 0, .slice A15 [p15].length C15, .slice A17 [hz].length C17] : List Value).toArray] rfl 19 rfl (by rw [sz]; decide) rfl rfl (one_arg x18) Tryd.enter20 (fun u W => (Fk.c3 false 22).f u W ∧ Below w17.heap.size w17 W) (fk_con_bad (po := []) (pn := [p15]) (P := [hz]) ⟨by simp, by simp⟩ ⟨fun p hp => by rw [List.mem_singleton.1 hp, hp15]; simp, by simp⟩ (by simp) (mc_nil _) h15 h17 (hK.below bl) (by simp) (by simp [prOn])) ?_
  rintro f18 w18 df2 sz2 old2 ⟨⟨A2, B2, u12, u22, new2, hA2, hB2, hlA2, hlB2, hr2⟩, hb⟩
  obtain ⟨pA2, mA2, cA2, _, _, rfl, _⟩ := id hA2
  obtain ⟨pB2, mB2, cB2, _, _, rfl, _⟩ := id hB2
  replace bl0 := bl
  replace x0 := (old2 0 rfl).trans x0
  replace x3 := (old2 3 rfl).trans x3
  replace x18 := (old2 18 rfl).trans x18
  have x19 : f18.eval (.tmp 19) = .tuple #[.agg ([.slice pA2 mA2 cA2, .slice pB2 mB2 cB2] : List Value).toArray, .bool false, .int .i64 22] := new2
  have lt_m1 := Ob.lt m1
  replace m1 := Ob.below m1 hb
  replace h15 := Fk.mono _ _ _ _ h15 hb
  replace h17 := Fk.mono _ _ _ _ h17 hb
  replace bl := (bl.trans (Below.mono hb bl.size))
  replace sz := sz2.trans sz
  replace df := df2.trans df
  clear df2 sz2 old2 new2 hb
  replace blw := blw.trans (Below.mono bl blw.size)
  replace hn1 := Fk.mono _ _ _ _ hn1 bl
  replace hn2 := Fk.mono _ _ _ _ hn2 bl
  replace hn3 := Fk.mono _ _ _ _ hn3 bl
  replace hA1 := Fk.mono _ _ _ _ hA1 bl
  replace hB1 := Fk.mono _ _ _ _ hB1 bl
  replace hK := hK.below bl
  replace bl := Below.refl w18.heap.size w18
  replace bl0 := bl
  clear x18
  refine wl_one (.eq (.tuple #[.agg ([.slice pA2 mA2 cA2, .slice pB2 mB2 cB2] : List Value).toArray, .bool false, .int .i64 22])) rfl 13 rfl (by rw [sz]; decide) (st_move (.tmp 19) rfl x19) ?_
  intro f19 w19 df2 sz2 old2 new2 hb
  replace bl0 := bl
  replace x0 := (old2 0 rfl).trans x0
  replace x3 := (old2 3 rfl).trans x3
  replace x19 := (old2 19 rfl).trans x19
  have x13 : f19.eval (.tmp 13) = .tuple #[.agg ([.slice pA2 mA2 cA2, .slice pB2 mB2 cB2] : List Value).toArray, .bool false, .int .i64 22] := new2
  replace bl := (bl.trans (Below.mono hb bl.size))
  replace sz := sz2.trans sz
  replace df := df2.trans df
  clear df2 sz2 old2 new2 hb
  clear x19
  refine wl_one (.eq (.agg ([.slice pA2 mA2 cA2, .slice pB2 mB2 cB2] : List Value).toArray)) rfl 20 rfl (by rw [sz]; decide) (st_tup (.tmp 13) rfl x13 (by rfl)) ?_
  intro f20 w20 df2 sz2 old2 new2 hb
  replace bl0 := bl
  replace x0 := (old2 0 rfl).trans x0
  replace x3 := (old2 3 rfl).trans x3
  replace x13 := (old2 13 rfl).trans x13
  have x20 : f20.eval (.tmp 20) = .agg ([.slice pA2 mA2 cA2, .slice pB2 mB2 cB2] : List Value).toArray := new2
  replace bl := (bl.trans (Below.mono hb bl.size))
  replace sz := sz2.trans sz
  replace df := df2.trans df
  clear df2 sz2 old2 new2 hb
  refine wl_one (.eq (.bool false)) rfl 21 rfl (by rw [sz]; decide) (st_tup (.tmp 13) rfl x13 (by rfl)) ?_
  intro f21 w21 df2 sz2 old2 new2 hb
  replace bl0 := bl
  replace x0 := (old2 0 rfl).trans x0
  replace x3 := (old2 3 rfl).trans x3
  replace x13 := (old2 13 rfl).trans x13
  replace x20 := (old2 20 rfl).trans x20
  have x21 : f21.eval (.tmp 21) = .bool false := new2
  replace bl := (bl.trans (Below.mono hb bl.size))
  replace sz := sz2.trans sz
  replace df := df2.trans df
  clear df2 sz2 old2 new2 hb
  refine wl_one (.eq (.int .i64 22)) rfl 22 rfl (by rw [sz]; decide) (st_tup (.tmp 13) rfl x13 (by rfl)) ?_
  intro f22 w22 df2 sz2 old2 new2 hb
  replace bl0 := bl
  replace x0 := (old2 0 rfl).trans x0
  replace x3 := (old2 3 rfl).trans x3
  replace x13 := (old2 13 rfl).trans x13
  replace x20 := (old2 20 rfl).trans x20
  replace x21 := (old2 21 rfl).trans x21
  have x22 : f22.eval (.tmp 22) = .int .i64 22 := new2
  replace bl := (bl.trans (Below.mono hb bl.size))
  replace sz := sz2.trans sz
  replace df := df2.trans df
  clear df2 sz2 old2 new2 hb
  clear x13
  refine wl_one (.nw w22.heap.size 25 [.slice none 0 0, .slice none 0 0]) rfl 4 rfl (by rw [sz]; decide) (st_alloc 25 rfl _ _ (by kernel_rfl) (Nat.le_refl _)) ?_
  intro f23 w23 df2 sz2 old2 new2 hb
  replace bl0 := bl
  replace x0 := (old2 0 rfl).trans x0
  replace x3 := (old2 3 rfl).trans x3
  replace x20 := (old2 20 rfl).trans x20
  replace x21 := (old2 21 rfl).trans x21
  replace x22 := (old2 22 rfl).trans x22
  have x4 : Fk.f (.nw w22.heap.size 25 [.slice none 0 0, .slice none 0 0]) (f23.eval (.tmp 4)) w23 := new2
  replace bl := (bl.trans (Below.mono hb bl.size))
  replace sz := sz2.trans sz
  replace df := df2.trans df
  clear df2 sz2 old2 new2 hb
  obtain ⟨g4, hg4, e4, m4⟩ := x4
  have x4 := e4
  clear e4
  have nm1_4 : g1 ≠ g4 := Nat.ne_of_lt (Nat.lt_of_lt_of_le (Ob.lt m1) (Nat.le_trans bl0.size hg4))
  have hw4 : w18.heap.size ≤ g4 := Nat.le_trans bl0.size hg4
  refine wl_str rfl 25 (.tmp 4) (.tmp 20) rfl rfl (g4) ([.slice pA2 mA2 cA2, .slice pB2 mB2 cB2] : List Value).toArray x4 x20 25 _ m4 (by kernel_rfl) (by kernel_rfl) (by kernel_rfl) ?_
  replace m4 : Ob (w23.setRow g4 ([.slice pA2 mA2 cA2, .slice pB2 mB2 cB2] : List Value).toArray) (g4) 25 ([.slice pA2 mA2 cA2, .slice pB2 mB2 cB2]) := Ob.setRow m4 ([.slice pA2 mA2 cA2, .slice pB2 mB2 cB2])
  replace bl : Below w18.heap.size w18 (w23.setRow g4 ([.slice pA2 mA2 cA2, .slice pB2 mB2 cB2] : List Value).toArray) := bl.trans (below_setRow _ _ _ _ hw4)
  generalize w23.setRow g4 ([.slice pA2 mA2 cA2, .slice pB2 mB2 cB2] : List Value).toArray = w24b at bl m4 ⊢
  clear x20
  clear x4
  refine wl_one (.eq (.bool false)) rfl 5 rfl (by rw [sz]; decide) (st_assign (.tmp 21) rfl x21) ?_
  intro f25 w25 df2 sz2 old2 new2 hb
  replace bl0 := bl
  replace x0 := (old2 0 rfl).trans x0
  replace x3 := (old2 3 rfl).trans x3
  replace x21 := (old2 21 rfl).trans x21
  replace x22 := (old2 22 rfl).trans x22
  have x5 : f25.eval (.tmp 5) = .bool false := new2
  have lt_m4 := Ob.lt m4
  replace m4 := Ob.below m4 hb
  replace bl := (bl.trans (Below.mono hb bl.size))
  replace sz := sz2.trans sz
  replace df := df2.trans df
  clear df2 sz2 old2 new2 hb
  clear x21
  clear x5
  refine wl_one (.eq (.int .i64 22)) rfl 6 rfl (by rw [sz]; decide) (st_assign (.tmp 22) rfl x22) ?_
  intro f26 w26 df2 sz2 old2 new2 hb
  replace bl0 := bl
  replace x0 := (old2 0 rfl).trans x0
  replace x3 := (old2 3 rfl).trans x3
  replace x22 := (old2 22 rfl).trans x22
  have x6 : f26.eval (.tmp 6) = .int .i64 22 := new2
  have lt_m4 := Ob.lt m4
  replace m4 := Ob.below m4 hb
  replace bl := (bl.trans (Below.mono hb bl.size))
  replace sz := sz2.trans sz
  replace df := df2.trans df
  clear df2 sz2 old2 new2 hb
  refine wpList_nil ?_
  clear x22
  show Code.wp _ _ _ _ _
  refine wp_seq ?_
  refine wp_all_seq [.eq (.int .i64 11), .eq (.bool true), .eq (.bool true), .eq (.int .i64 22), .eq (.bool true), .eq (.bool true), .eq (.bool true)] (by kernel_rfl) (by kernel_rfl) (by rw [sz]; kernel_rfl) (by kernel_rfl) ⟨fun hw ac u K => ?_, fun hw ac u K => ?_, fun hw ac u K => ?_, fun hw ac u K => ?_, fun hw ac u K => ?_, fun hw ac u K => ?_, fun hw ac u K => ?_, trivial⟩ ?_
  · exact st_move (.tmp 3) rfl ((K.old 3 rfl).trans x3)
  · exact st_eqi 40 (.tmp 23) (.const (.int .i64 11)) rfl .i64 (11) (11) (K.dep 0 23 rfl) rfl _ (by simp)
  · exact st_move (.tmp 24) rfl (K.dep 1 24 rfl)
  · exact st_move (.tmp 6) rfl ((K.old 6 rfl).trans x6)
  · exact st_eqi 40 (.tmp 26) (.const (.int .i64 22)) rfl .i64 (22) (22) (K.dep 3 26 rfl) rfl _ (by simp)
  · exact st_pick_t (.tmp 25) (.tmp 27) (.const (.bool false)) rfl (K.dep 2 25 rfl) (K.dep 4 27 rfl)
  · exact st_assign (.tmp 28) rfl (K.dep 5 28 rfl)
  intro f27 w27 A hb
  replace bl0 := bl
  clear x0
  replace x3 := (A.old 3 rfl).trans x3
  replace x6 := (A.old 6 rfl).trans x6
  have x0 : f27.eval (.tmp 0) = .bool true := A.has 6 0 rfl
  have lt_m4 := Ob.lt m4
  replace m4 := Ob.below m4 hb
  replace bl := (bl.trans (Below.mono hb bl.size))
  replace sz := A.size.trans sz
  replace df := A.defs.trans df
  clear A hb
  clear x3
  clear x6
  show Code.wp _ _ _ _ _
  refine wp_ret ?_
  repeat (first | with_reducible refine then_ret ?_ | with_reducible refine block_ret ?_)
  exact bodyPost_ret (v := .bool true) (ret_slot rfl f27 _ x0 _ _) df ⟨rfl, (blw.trans (Below.mono bl blw.size))⟩
end Go.Proofs.YtfmeeimhfdnjpaaDoor
namespace Go.Proofs.YtfmeeimhfdnjpaaDoor
set_option maxRecDepth 100000
open Go.RowKit
end Go.Proofs.YtfmeeimhfdnjpaaDoor
