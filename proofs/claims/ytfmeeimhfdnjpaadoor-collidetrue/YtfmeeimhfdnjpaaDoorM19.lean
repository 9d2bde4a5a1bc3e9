/- awake. CollideRight, CollideLists. CollideOn. Proof. -/
import Derived.Test.YtfmeeimhfdnjpaaDoorM18
import Derived.Test.YtfmeeimhfdnjpaaDoorM11
import Derived.Test.YtfmeeimhfdnjpaaDoorM16
namespace Go.Proofs.YtfmeeimhfdnjpaaDoor
set_option maxRecDepth 100000
open Go.RowKit
theorem awake_any (w : World) (hK : Tab w) :
    Calls Tryd.prog 8 #[] w fun e w' => e = .returned (.bool true) ∧ Below w.heap.size w w' := by
  have hn1 := mc_nil w
  have hn2 := sl_nil w
  have hn3 := hc_nil w
  go_enter Tryd.func8, Tryd.ntmps8
  refine code_both (fun f w1 => f.tmps.size = 29 ∧ f.defers = [] ∧ Below w.heap.size w (w1)) ⟨rfl, rfl, Below.refl _ _⟩ ?_
  rintro f0 w0 ⟨sz, df, bl⟩
  have bl0 := bl
  refine wp_seq ?_
  refine wp_all_seq [.eq (.bool false)] (by kernel_rfl) (by kernel_rfl) (by rw [sz]; kernel_rfl) (by kernel_rfl) ⟨fun hw ac u K => ?_, trivial⟩ ?_
  · exact st_assign (.const (.bool false)) rfl rfl
  intro f1 w1 A hb
  replace bl0 := bl
  have x0 : f1.eval (.tmp 0) = .bool false := A.has 0 0 rfl
  replace bl := (bl.trans (Below.mono hb bl.size))
  replace sz := A.size.trans sz
  replace df := A.defs.trans df
  clear A hb
  show Code.wp _ _ _ _ _
  refine wp_seq ?_
  refine wp_region_seq [.eq (.agg ([.int .i64 0, .int .i64 0, .slice none 0 0, .slice none 0 0] : List Value).toArray)] (by kernel_rfl) (by kernel_rfl) (by rw [sz]; kernel_rfl) (by kernel_rfl) ⟨fun hw ac u K => ?_, trivial⟩ ?_
  · exact st_build 39 _ rfl (by kernel_rfl)
  intro f2 w2 A hb
  replace bl0 := bl
  replace x0 := (A.old 0 rfl).trans x0
  have x8 : f2.eval (.tmp 8) = .agg ([.int .i64 0, .int .i64 0, .slice none 0 0, .slice none 0 0] : List Value).toArray := A.has 0 8 rfl
  replace bl := (bl.trans (Below.mono hb bl.size))
  replace sz := A.size.trans sz
  replace df := A.defs.trans df
  clear A hb
  refine wl_call 16 (.func 16) _ _ #[.slice none 0 0, .agg ([.int .i64 0, .int .i64 0, .slice none 0 0, .slice none 0 0] : List Value).toArray] rfl 9 rfl (by rw [sz]; decide) rfl rfl (arg2 rfl x8) Tryd.enter16 (fun u W => (Fk.c3 false 11).f u W ∧ Below w2.heap.size w2 W) (fk_cin_no (ps := []) (lb := []) (P := []) (i := 0) (n := 0) ⟨by simp, by simp⟩ (by simp) (by simp) (mc_nil _) (sl_nil _) (hc_nil _) (hK.below bl) (.inr (.inr (by simp)))) ?_
  rintro f3 w3 df2 sz2 old2 ⟨⟨A1, B1, u11, u21, new2, hA1, hB1, hlA1, hlB1, hr1⟩, hb⟩
  obtain ⟨pA1, mA1, cA1, _, _, rfl, _⟩ := id hA1
  obtain ⟨pB1, mB1, cB1, _, _, rfl, _⟩ := id hB1
  replace bl0 := bl
  replace x0 := (old2 0 rfl).trans x0
  replace x8 := (old2 8 rfl).trans x8
  have x9 : f3.eval (.tmp 9) = .tuple #[.agg ([.slice pA1 mA1 cA1, .slice pB1 mB1 cB1] : List Value).toArray, .bool false, .int .i64 11] := new2
  replace bl := (bl.trans (Below.mono hb bl.size))
  replace sz := sz2.trans sz
  replace df := df2.trans df
  clear df2 sz2 old2 new2 hb
  have blw := bl
  replace hn1 := Fk.mono _ _ _ _ hn1 bl
  replace hn2 := Fk.mono _ _ _ _ hn2 bl
  replace hn3 := Fk.mono _ _ _ _ hn3 bl
  replace hK := hK.below bl
  replace bl := Below.refl w3.heap.size w3
  replace bl0 := bl
  clear x8
  refine wl_one (.eq (.tuple #[.agg ([.slice pA1 mA1 cA1, .slice pB1 mB1 cB1] : List Value).toArray, .bool false, .int .i64 11])) rfl 7 rfl (by rw [sz]; decide) (st_move (.tmp 9) rfl x9) ?_
  intro f4 w4 df2 sz2 old2 new2 hb
  replace bl0 := bl
  replace x0 := (old2 0 rfl).trans x0
  replace x9 := (old2 9 rfl).trans x9
  have x7 : f4.eval (.tmp 7) = .tuple #[.agg ([.slice pA1 mA1 cA1, .slice pB1 mB1 cB1] : List Value).toArray, .bool false, .int .i64 11] := new2
  replace bl := (bl.trans (Below.mono hb bl.size))
  replace sz := sz2.trans sz
  replace df := df2.trans df
  clear df2 sz2 old2 new2 hb
  clear x9
  refine wl_one (.eq (.agg ([.slice pA1 mA1 cA1, .slice pB1 mB1 cB1] : List Value).toArray)) rfl 10 rfl (by rw [sz]; decide) (st_tup (.tmp 7) rfl x7 (by rfl)) ?_
  intro f5 w5 df2 sz2 old2 new2 hb
  replace bl0 := bl
  replace x0 := (old2 0 rfl).trans x0
  replace x7 := (old2 7 rfl).trans x7
  have x10 : f5.eval (.tmp 10) = .agg ([.slice pA1 mA1 cA1, .slice pB1 mB1 cB1] : List Value).toArray := new2
  replace bl := (bl.trans (Below.mono hb bl.size))
  replace sz := sz2.trans sz
  replace df := df2.trans df
  clear df2 sz2 old2 new2 hb
  refine wl_one (.eq (.bool false)) rfl 11 rfl (by rw [sz]; decide) (st_tup (.tmp 7) rfl x7 (by rfl)) ?_
  intro f6 w6 df2 sz2 old2 new2 hb
  replace bl0 := bl
  replace x0 := (old2 0 rfl).trans x0
  replace x7 := (old2 7 rfl).trans x7
  replace x10 := (old2 10 rfl).trans x10
  have x11 : f6.eval (.tmp 11) = .bool false := new2
  replace bl := (bl.trans (Below.mono hb bl.size))
  replace sz := sz2.trans sz
  replace df := df2.trans df
  clear df2 sz2 old2 new2 hb
  refine wl_one (.eq (.int .i64 11)) rfl 12 rfl (by rw [sz]; decide) (st_tup (.tmp 7) rfl x7 (by rfl)) ?_
  intro f7 w7 df2 sz2 old2 new2 hb
  replace bl0 := bl
  replace x0 := (old2 0 rfl).trans x0
  replace x7 := (old2 7 rfl).trans x7
  replace x10 := (old2 10 rfl).trans x10
  replace x11 := (old2 11 rfl).trans x11
  have x12 : f7.eval (.tmp 12) = .int .i64 11 := new2
  replace bl := (bl.trans (Below.mono hb bl.size))
  replace sz := sz2.trans sz
  replace df := df2.trans df
  clear df2 sz2 old2 new2 hb
  clear x7
  refine wl_one (.nw w7.heap.size 25 [.slice none 0 0, .slice none 0 0]) rfl 1 rfl (by rw [sz]; decide) (st_alloc 25 rfl _ _ (by kernel_rfl) (Nat.le_refl _)) ?_
  intro f8 w8 df2 sz2 old2 new2 hb
  replace bl0 := bl
  replace x0 := (old2 0 rfl).trans x0
  replace x10 := (old2 10 rfl).trans x10
  replace x11 := (old2 11 rfl).trans x11
  replace x12 := (old2 12 rfl).trans x12
  have x1 : Fk.f (.nw w7.heap.size 25 [.slice none 0 0, .slice none 0 0]) (f8.eval (.tmp 1)) w8 := new2
  replace bl := (bl.trans (Below.mono hb bl.size))
  replace sz := sz2.trans sz
  replace df := df2.trans df
  clear df2 sz2 old2 new2 hb
  obtain ⟨g1, hg1, e1, m1⟩ := x1
  have x1 := e1
  clear e1
  have hw1 : w3.heap.size ≤ g1 := Nat.le_trans bl0.size hg1
  refine wl_str rfl 25 (.tmp 1) (.tmp 10) rfl rfl (g1) ([.slice pA1 mA1 cA1, .slice pB1 mB1 cB1] : List Value).toArray x1 x10 25 _ m1 (by kernel_rfl) (by kernel_rfl) (by kernel_rfl) ?_
  replace m1 : Ob (w8.setRow g1 ([.slice pA1 mA1 cA1, .slice pB1 mB1 cB1] : List Value).toArray) (g1) 25 ([.slice pA1 mA1 cA1, .slice pB1 mB1 cB1]) := Ob.setRow m1 ([.slice pA1 mA1 cA1, .slice pB1 mB1 cB1])
  replace bl : Below w3.heap.size w3 (w8.setRow g1 ([.slice pA1 mA1 cA1, .slice pB1 mB1 cB1] : List Value).toArray) := bl.trans (below_setRow _ _ _ _ hw1)
  generalize w8.setRow g1 ([.slice pA1 mA1 cA1, .slice pB1 mB1 cB1] : List Value).toArray = w9b at bl m1 ⊢
  clear x10
  clear x1
  refine wl_one (.eq (.bool false)) rfl 2 rfl (by rw [sz]; decide) (st_assign (.tmp 11) rfl x11) ?_
  intro f10 w10 df2 sz2 old2 new2 hb
  replace bl0 := bl
  replace x0 := (old2 0 rfl).trans x0
  replace x11 := (old2 11 rfl).trans x11
  replace x12 := (old2 12 rfl).trans x12
  have x2 : f10.eval (.tmp 2) = .bool false := new2
  have lt_m1 := Ob.lt m1
  replace m1 := Ob.below m1 hb
  replace bl := (bl.trans (Below.mono hb bl.size))
  replace sz := sz2.trans sz
  replace df := df2.trans df
  clear df2 sz2 old2 new2 hb
  clear x11
  clear x2
  refine wl_one (.eq (.int .i64 11)) rfl 3 rfl (by rw [sz]; decide) (st_assign (.tmp 12) rfl x12) ?_
  intro f11 w11 df2 sz2 old2 new2 hb
  replace bl0 := bl
  replace x0 := (old2 0 rfl).trans x0
  replace x12 := (old2 12 rfl).trans x12
  have x3 : f11.eval (.tmp 3) = .int .i64 11 := new2
  have lt_m1 := Ob.lt m1
  replace m1 := Ob.below m1 hb
  replace bl := (bl.trans (Below.mono hb bl.size))
  replace sz := sz2.trans sz
  replace df := df2.trans df
  clear df2 sz2 old2 new2 hb
  refine wpList_nil ?_
  clear x12
  show Code.wp _ _ _ _ _
  refine wp_seq ?_
  refine wp_region_seq [] (by kernel_rfl) (by kernel_rfl) (by rw [sz]; kernel_rfl) (by kernel_rfl) trivial ?_
  intro f12 w12 A hb
  replace bl0 := bl
  replace x0 := (A.old 0 rfl).trans x0
  replace x3 := (A.old 3 rfl).trans x3
  have lt_m1 := Ob.lt m1
  replace m1 := Ob.below m1 hb
  replace bl := (bl.trans (Below.mono hb bl.size))
  replace sz := A.size.trans sz
  replace df := A.defs.trans df
  clear A hb
  refine wl_one (.sl ([1#8])) rfl 14 rfl (by rw [sz]; decide) (st_b1 1 1#8 rfl (by rfl)) ?_
  intro f13 w13 df2 sz2 old2 new2 hb
  replace bl0 := bl
  replace x0 := (old2 0 rfl).trans x0
  replace x3 := (old2 3 rfl).trans x3
  have x14 : Fk.f (.sl ([1#8])) (f13.eval (.tmp 14)) w13 := new2
  have lt_m1 := Ob.lt m1
  replace m1 := Ob.below m1 hb
  replace bl := (bl.trans (Below.mono hb bl.size))
  replace sz := sz2.trans sz
  replace df := df2.trans df
  clear df2 sz2 old2 new2 hb
  refine wl_one (.m1 ([1#8])) rfl 15 rfl (by rw [sz]; decide) (st_bm1 (.tmp 14) rfl x14) ?_
  intro f14 w14 df2 sz2 old2 new2 hb
  replace bl0 := bl
  replace x0 := (old2 0 rfl).trans x0
  replace x3 := (old2 3 rfl).trans x3
  replace x14 := f_at (old2 14 rfl) (Fk.mono _ _ _ _ x14 hb)
  have x15 : Fk.f (.m1 ([1#8])) (f14.eval (.tmp 15)) w14 := new2
  have lt_m1 := Ob.lt m1
  replace m1 := Ob.below m1 hb
  replace bl := (bl.trans (Below.mono hb bl.size))
  replace sz := sz2.trans sz
  replace df := df2.trans df
  clear df2 sz2 old2 new2 hb
  clear x14
  refine wl_one (.eq (.agg ((hz).map V).toArray)) rfl 16 rfl (by rw [sz]; decide) (st_zero33 rfl) ?_
  intro f15 w15 df2 sz2 old2 new2 hb
  replace bl0 := bl
  replace x0 := (old2 0 rfl).trans x0
  replace x3 := (old2 3 rfl).trans x3
  replace x15 := f_at (old2 15 rfl) (Fk.mono _ _ _ _ x15 hb)
  have x16 : f15.eval (.tmp 16) = .agg ((hz).map V).toArray := new2
  have lt_m1 := Ob.lt m1
  replace m1 := Ob.below m1 hb
  replace bl := (bl.trans (Below.mono hb bl.size))
  replace sz := sz2.trans sz
  replace df := df2.trans df
  clear df2 sz2 old2 new2 hb
  refine wl_one (.hc ([hz])) rfl 17 rfl (by rw [sz]; decide) (st_bh1c (.tmp 16) rfl hz_len x16) ?_
  intro f16 w16 df2 sz2 old2 new2 hb
  replace bl0 := bl
  replace x0 := (old2 0 rfl).trans x0
  replace x3 := (old2 3 rfl).trans x3
  replace x15 := f_at (old2 15 rfl) (Fk.mono _ _ _ _ x15 hb)
  replace x16 := (old2 16 rfl).trans x16
  have x17 : Fk.f (.hc ([hz])) (f16.eval (.tmp 17)) w16 := new2
  have lt_m1 := Ob.lt m1
  replace m1 := Ob.below m1 hb
  replace bl := (bl.trans (Below.mono hb bl.size))
  replace sz := sz2.trans sz
  replace df := df2.trans df
  clear df2 sz2 old2 new2 hb
  clear x16
  obtain ⟨v15, e15⟩ : ∃ v, f16.eval (.tmp 15) = v := ⟨_, rfl⟩
  obtain ⟨p15, hp15, h15⟩ := x15
  rw [e15] at h15
  replace x15 := e15
  clear e15
  obtain ⟨v17, e17⟩ : ∃ v, f16.eval (.tmp 17) = v := ⟨_, rfl⟩
  have h17 := x17
  rw [e17] at h17
  replace x17 := e17
  clear e17
  obtain ⟨A15, C15, _, _, rfl, _⟩ := id h15.1
  obtain ⟨A17, C17, _, _, rfl, _⟩ := id h17
  refine wl_one (.eq (.agg ([.slice none 0 0, .slice A15 [p15].length C15, .slice A17 [hz].length C17] : List Value).toArray)) rfl 18 rfl (by rw [sz]; decide) (st_build 47 _ rfl (by simp only [List.map_toArray, List.map_cons, List.map_nil, show f16.eval (.tmp 15) = _ from x15, show f16.eval (.tmp 17) = _ from x17]; kernel_rfl)) ?_
  intro f17 w17 df2 sz2 old2 new2 hb
  replace bl0 := bl
  replace x0 := (old2 0 rfl).trans x0
  replace x3 := (old2 3 rfl).trans x3
  replace x15 := (old2 15 rfl).trans x15
  replace x17 := (old2 17 rfl).trans x17
  have x18 : f17.eval (.tmp 18) = .agg ([.slice none 0 0, .slice A15 [p15].length C15, .slice A17 [hz].length C17] : List Value).toArray := new2
  have lt_m1 := Ob.lt m1
  replace m1 := Ob.below m1 hb
  replace h15 := Fk.mono _ _ _ _ h15 hb
  replace h17 := Fk.mono _ _ _ _ h17 hb
  replace bl := (bl.trans (Below.mono hb bl.size))
  replace sz := sz2.trans sz
  replace df := df2.trans df
  clear df2 sz2 old2 new2 hb
  clear x15
  clear x17
  refine wl_call 20 (.func 20) _ _ #[.agg ([.slice none 0 0, .slice A15 [p15].length C15, .slice A17 [hz].length C17] : List Value).toArray] rfl 19 rfl (by rw [sz]; decide) rfl rfl (one_arg x18) Tryd.enter20 (fun u W => (Fk.c3 false 22).f u W ∧ Below w17.heap.size w17 W) (fk_con_bad (po := []) (pn := [p15]) (P := [hz]) ⟨by simp, by simp⟩ ⟨fun p hp => by rw [List.mem_singleton.1 hp, hp15]; simp, by simp⟩ (by simp) (mc_nil _) h15 h17 (hK.below bl) (by simp) (by simp [prOn])) ?_
  rintro f18 w18 df2 sz2 old2 ⟨⟨A2, B2, u12, u22, new2, hA2, hB2, hlA2, hlB2, hr2⟩, hb⟩
  obtain ⟨pA2, mA2, cA2, _, _, rfl, _⟩ := id hA2
  obtain ⟨pB2, mB2, cB2, _, _, rfl, _⟩ := id hB2
  replace bl0 := bl
  replace x0 := (old2 0 rfl).trans x0
  replace x3 := (old2 3 rfl).trans x3
  replace x18 := (old2 18 rfl).trans x18
  have x19 : f18.eval (.tmp 19) = .tuple #[.agg ([.slice pA2 mA2 cA2, .slice pB2 mB2 cB2] : List Value).toArray, .bool false, .int .i64 22] := new2
  have lt_m1 := Ob.lt m1
  replace m1 := Ob.below m1 hb
  replace h15 := Fk.mono _ _ _ _ h15 hb
  replace h17 := Fk.mono _ _ _ _ h17 hb
  replace bl := (bl.trans (Below.mono hb bl.size))
  replace sz := sz2.trans sz
  replace df := df2.trans df
  clear df2 sz2 old2 new2 hb
  replace blw := blw.trans (Below.mono bl blw.size)
  replace hn1 := Fk.mono _ _ _ _ hn1 bl
  replace hn2 := Fk.mono _ _ _ _ hn2 bl
  replace hn3 := Fk.mono _ _ _ _ hn3 bl
  replace hA1 := Fk.mono _ _ _ _ hA1 bl
  replace hB1 := Fk.mono _ _ _ _ hB1 bl
  replace hK := hK.below bl
  replace bl := Below.refl w18.heap.size w18
  replace bl0 := bl
  clear x18
  refine wl_one (.eq (.tuple #[.agg ([.slice pA2 mA2 cA2, .slice pB2 mB2 cB2] : List Value).toArray, .bool false, .int .i64 22])) rfl 13 rfl (by rw [sz]; decide) (st_move (.tmp 19) rfl x19) ?_
  intro f19 w19 df2 sz2 old2 new2 hb
  replace bl0 := bl
  replace x0 := (old2 0 rfl).trans x0
  replace x3 := (old2 3 rfl).trans x3
  replace x19 := (old2 19 rfl).trans x19
  have x13 : f19.eval (.tmp 13) = .tuple #[.agg ([.slice pA2 mA2 cA2, .slice pB2 mB2 cB2] : List Value).toArray, .bool false, .int .i64 22] := new2
  replace bl := (bl.trans (Below.mono hb bl.size))
  replace sz := sz2.trans sz
  replace df := df2.trans df
  clear df2 sz2 old2 new2 hb
  clear x19
  refine wl_one (.eq (.agg ([.slice pA2 mA2 cA2, .slice pB2 mB2 cB2] : List Value).toArray)) rfl 20 rfl (by rw [sz]; decide) (st_tup (.tmp 13) rfl x13 (by rfl)) ?_
  intro f20 w20 df2 sz2 old2 new2 hb
  replace bl0 := bl
  replace x0 := (old2 0 rfl).trans x0
  replace x3 := (old2 3 rfl).trans x3
  replace x13 := (old2 13 rfl).trans x13
  have x20 : f20.eval (.tmp 20) = .agg ([.slice pA2 mA2 cA2, .slice pB2 mB2 cB2] : List Value).toArray := new2
  replace bl := (bl.trans (Below.mono hb bl.size))
  replace sz := sz2.trans sz
  replace df := df2.trans df
  clear df2 sz2 old2 new2 hb
  refine wl_one (.eq (.bool false)) rfl 21 rfl (by rw [sz]; decide) (st_tup (.tmp 13) rfl x13 (by rfl)) ?_
  intro f21 w21 df2 sz2 old2 new2 hb
  replace bl0 := bl
  replace x0 := (old2 0 rfl).trans x0
  replace x3 := (old2 3 rfl).trans x3
  replace x13 := (old2 13 rfl).trans x13
  replace x20 := (old2 20 rfl).trans x20
  have x21 : f21.eval (.tmp 21) = .bool false := new2
  replace bl := (bl.trans (Below.mono hb bl.size))
  replace sz := sz2.trans sz
  replace df := df2.trans df
  clear df2 sz2 old2 new2 hb
  refine wl_one (.eq (.int .i64 22)) rfl 22 rfl (by rw [sz]; decide) (st_tup (.tmp 13) rfl x13 (by rfl)) ?_
  intro f22 w22 df2 sz2 old2 new2 hb
  replace bl0 := bl
  replace x0 := (old2 0 rfl).trans x0
  replace x3 := (old2 3 rfl).trans x3
  replace x13 := (old2 13 rfl).trans x13
  replace x20 := (old2 20 rfl).trans x20
  replace x21 := (old2 21 rfl).trans x21
  have x22 : f22.eval (.tmp 22) = .int .i64 22 := new2
  replace bl := (bl.trans (Below.mono hb bl.size))
  replace sz := sz2.trans sz
  replace df := df2.trans df
  clear df2 sz2 old2 new2 hb
  clear x13
  refine wl_one (.nw w22.heap.size 25 [.slice none 0 0, .slice none 0 0]) rfl 4 rfl (by rw [sz]; decide) (st_alloc 25 rfl _ _ (by kernel_rfl) (Nat.le_refl _)) ?_
  intro f23 w23 df2 sz2 old2 new2 hb
  replace bl0 := bl
  replace x0 := (old2 0 rfl).trans x0
  replace x3 := (old2 3 rfl).trans x3
  replace x20 := (old2 20 rfl).trans x20
  replace x21 := (old2 21 rfl).trans x21
  replace x22 := (old2 22 rfl).trans x22
  have x4 : Fk.f (.nw w22.heap.size 25 [.slice none 0 0, .slice none 0 0]) (f23.eval (.tmp 4)) w23 := new2
  replace bl := (bl.trans (Below.mono hb bl.size))
  replace sz := sz2.trans sz
  replace df := df2.trans df
  clear df2 sz2 old2 new2 hb
  obtain ⟨g4, hg4, e4, m4⟩ := x4
  have x4 := e4
  clear e4
  have nm1_4 : g1 ≠ g4 := Nat.ne_of_lt (Nat.lt_of_lt_of_le (Ob.lt m1) (Nat.le_trans bl0.size hg4))
  have hw4 : w18.heap.size ≤ g4 := Nat.le_trans bl0.size hg4
  refine wl_str rfl 25 (.tmp 4) (.tmp 20) rfl rfl (g4) ([.slice pA2 mA2 cA2, .slice pB2 mB2 cB2] : List Value).toArray x4 x20 25 _ m4 (by kernel_rfl) (by kernel_rfl) (by kernel_rfl) ?_
  replace m4 : Ob (w23.setRow g4 ([.slice pA2 mA2 cA2, .slice pB2 mB2 cB2] : List Value).toArray) (g4) 25 ([.slice pA2 mA2 cA2, .slice pB2 mB2 cB2]) := Ob.setRow m4 ([.slice pA2 mA2 cA2, .slice pB2 mB2 cB2])
  replace bl : Below w18.heap.size w18 (w23.setRow g4 ([.slice pA2 mA2 cA2, .slice pB2 mB2 cB2] : List Value).toArray) := bl.trans (below_setRow _ _ _ _ hw4)
  generalize w23.setRow g4 ([.slice pA2 mA2 cA2, .slice pB2 mB2 cB2] : List Value).toArray = w24b at bl m4 ⊢
  clear x20
  clear x4
  refine wl_one (.eq (.bool false)) rfl 5 rfl (by rw [sz]; decide) (st_assign (.tmp 21) rfl x21) ?_
  intro f25 w25 df2 sz2 old2 new2 hb
  replace bl0 := bl
  replace x0 := (old2 0 rfl).trans x0
  replace x3 := (old2 3 rfl).trans x3
  replace x21 := (old2 21 rfl).trans x21
  replace x22 := (old2 22 rfl).trans x22
  have x5 : f25.eval (.tmp 5) = .bool false := new2
  have lt_m4 := Ob.lt m4
  replace m4 := Ob.below m4 hb
  replace bl := (bl.trans (Below.mono hb bl.size))
  replace sz := sz2.trans sz
  replace df := df2.trans df
  clear df2 sz2 old2 new2 hb
  clear x21
  clear x5
  refine wl_one (.eq (.int .i64 22)) rfl 6 rfl (by rw [sz]; decide) (st_assign (.tmp 22) rfl x22) ?_
  intro f26 w26 df2 sz2 old2 new2 hb
  replace bl0 := bl
  replace x0 := (old2 0 rfl).trans x0
  replace x3 := (old2 3 rfl).trans x3
  replace x22 := (old2 22 rfl).trans x22
  have x6 : f26.eval (.tmp 6) = .int .i64 22 := new2
  have lt_m4 := Ob.lt m4
  replace m4 := Ob.below m4 hb
  replace bl := (bl.trans (Below.mono hb bl.size))
  replace sz := sz2.trans sz
  replace df := df2.trans df
  clear df2 sz2 old2 new2 hb
  refine wpList_nil ?_
  clear x22
  show Code.wp _ _ _ _ _
  refine wp_seq ?_
  refine wp_all_seq [.eq (.int .i64 11), .eq (.bool true), .eq (.bool true), .eq (.int .i64 22), .eq (.bool true), .eq (.bool true), .eq (.bool true)] (by kernel_rfl) (by kernel_rfl) (by rw [sz]; kernel_rfl) (by kernel_rfl) ⟨fun hw ac u K => ?_, fun hw ac u K => ?_, fun hw ac u K => ?_, fun hw ac u K => ?_, fun hw ac u K => ?_, fun hw ac u K => ?_, fun hw ac u K => ?_, trivial⟩ ?_
  · exact st_move (.tmp 3) rfl ((K.old 3 rfl).trans x3)
  · exact st_eqi 40 (.tmp 23) (.const (.int .i64 11)) rfl .i64 (11) (11) (K.dep 0 23 rfl) rfl _ (by simp)
  · exact st_move (.tmp 24) rfl (K.dep 1 24 rfl)
  · exact st_move (.tmp 6) rfl ((K.old 6 rfl).trans x6)
  · exact st_eqi 40 (.tmp 26) (.const (.int .i64 22)) rfl .i64 (22) (22) (K.dep 3 26 rfl) rfl _ (by simp)
  · exact st_pick_t (.tmp 25) (.tmp 27) (.const (.bool false)) rfl (K.dep 2 25 rfl) (K.dep 4 27 rfl)
  · exact st_assign (.tmp 28) rfl (K.dep 5 28 rfl)
  intro f27 w27 A hb
  replace bl0 := bl
  clear x0
  replace x3 := (A.old 3 rfl).trans x3
  replace x6 := (A.old 6 rfl).trans x6
  have x0 : f27.eval (.tmp 0) = .bool true := A.has 6 0 rfl
  have lt_m4 := Ob.lt m4
  replace m4 := Ob.below m4 hb
  replace bl := (bl.trans (Below.mono hb bl.size))
  replace sz := A.size.trans sz
  replace df := A.defs.trans df
  clear A hb
  clear x3
  clear x6
  show Code.wp _ _ _ _ _
  refine wp_ret ?_
  repeat (first | with_reducible refine then_ret ?_ | with_reducible refine block_ret ?_)
  exact bodyPost_ret (v := .bool true) (ret_slot rfl f27 _ x0 _ _) df ⟨rfl, (blw.trans (Below.mono bl blw.size))⟩
end Go.Proofs.YtfmeeimhfdnjpaaDoor
namespace Go.Proofs.YtfmeeimhfdnjpaaDoor
set_option maxRecDepth 100000
open Go.RowKit
end Go.Proofs.YtfmeeimhfdnjpaaDoor
namespace Go.Proofs.YtfmeeimhfdnjpaaDoor
set_option maxRecDepth 100000
open Go.RowKit
end Go.Proofs.YtfmeeimhfdnjpaaDoor
namespace Go.Proofs.YtfmeeimhfdnjpaaDoor
set_option maxRecDepth 100000
open Go.RowKit
theorem own_h1 {w : World} {g base : Nat} {x : List (BitVec 8)} (h : HasV w g 33 x) (hx : x.length = 32) (hb : base ≤ g) : (Fk.ow base [x]).f (.slice (some ⟨g, 0, none⟩) 1 1) w := by
  refine ⟨⟨by simp [hx], .inr ⟨g, 1, (x.map V).toArray, rfl, hb, h, Nat.le_refl _, by unfold maxLen; omega, by simp [hx], ?_⟩⟩, fun i y hi => ?_⟩
  · simp only [List.length_cons, List.length_nil, List.flatten_cons, List.flatten_nil, List.append_nil]
    rw [List.take_of_length_le (by simp [hx])]
  · cases i with
    | zero => obtain rfl : x = y := by simpa using hi
              exact hx
    | succ i => simp at hi
theorem st_bo1 {Q : Exit → Act → World → Prop} {o : Oper} {a : Act} {w : World} (x : Operand) (ho : o.op = .buildSlice 35 1 #[(0, x)]) {hh : List (BitVec 8)} (hl : hh.length = 32) (hx : a.eval x = .agg (hh.map V).toArray) (g0 : Nat) (hg : g0 ≤ w.heap.size) : o.wp Tryd.prog a w (Ends a o.dst w (Fk.ow g0 [hh]).f) Q := by
  refine st_run (v := .slice (some ⟨w.heap.size, 0, none⟩) 1 1) (w' := w.alloc (.cells (hh.map V).toArray 33)) ?_ ((Below.refl _ _).alloc (Nat.le_refl _) _) (own_h1 (heap_alloc_new _ _) hl hg)
  have := Tryd.build35 hh hl w
  unfold execOp
  rw [ho]
  simp [hx, this]
theorem going_any (l : List (List (BitVec 8))) (m : Nat) (b : Bool) (hm1 : 1 ≤ m) (hm : m ≤ l.length) : ∀ (w : World) (v : Value), l.length ≤ 1000 → (Fk.hc l).f v w → Tab w →
    Calls Tryd.prog 40 #[v, .int .i64 ((m : Nat) : Int), .bool b] w fun e w' => ∃ u, e = .returned u ∧ (Fk.ow w.heap.size (msub l m b)).f u w' ∧ Below w.heap.size w w' := by
  suffices H : ∀ (n : Nat) (l : List (List (BitVec 8))), l.length = n → ∀ (m : Nat) (b : Bool), 1 ≤ m → m ≤ l.length → ∀ (w : World) (v : Value), l.length ≤ 1000 → (Fk.hc l).f v w → Tab w →
    Calls Tryd.prog 40 #[v, .int .i64 ((m : Nat) : Int), .bool b] w fun e w' => ∃ u, e = .returned u ∧ (Fk.ow w.heap.size (msub l m b)).f u w' ∧ Below w.heap.size w w' from H _ l rfl m b hm1 hm
  clear hm hm1 m l b
  intro n
  induction n using Nat.strongRecOn with
  | ind n ih0 =>
  intro l hn m b hm1 hm w v h1000 hv hK
  have ih : ∀ (l' : List (List (BitVec 8))), l'.length < n → ∀ (m : Nat) (b : Bool), 1 ≤ m → m ≤ l'.length → ∀ (w : World) (v : Value), l'.length ≤ 1000 → (Fk.hc l').f v w → Tab w →
    Calls Tryd.prog 40 #[v, .int .i64 ((m : Nat) : Int), .bool b] w fun e w' => ∃ u, e = .returned u ∧ (Fk.ow w.heap.size (msub l' m b)).f u w' ∧ Below w.heap.size w w' := fun l' hl' => ih0 _ hl' l' rfl
  clear ih0
  by_cases hml : m = l.length
  · cases b
    · obtain ⟨y, ey⟩ : ∃ p, Box (mroot l = p) := ⟨_, ⟨rfl⟩⟩
      have hy : y.length = 32 := by rw [← ey.out]; exact mroot_len (hc_len hv)
      go_enter Tryd.func40, Tryd.ntmps40
      refine code_both (fun f w1 => f.tmps.size = 53 ∧ f.defers = [] ∧ f.eval (.tmp 0) = v ∧ f.eval (.tmp 1) = .int .i64 ((m : Nat) : Int) ∧ f.eval (.tmp 2) = .bool false ∧ Below w.heap.size w (w1)) ⟨rfl, rfl, rfl, rfl, rfl, Below.refl _ _⟩ ?_
      rintro f0 w0 ⟨sz, df, x0, x1, x2, bl⟩
      have bl0 := bl
      refine wp_seq ?_
      refine wp_all_seq [.eq (.slice none 0 0)] (by kernel_rfl) (by kernel_rfl) (by rw [sz]; kernel_rfl) (by kernel_rfl) ⟨fun hw ac u K => ?_, trivial⟩ ?_
      · exact st_assign (.const (.slice none 0 0)) rfl rfl
      intro f1 w1 A hb
      replace bl0 := bl
      replace x0 := (A.old 0 rfl).trans x0
      replace x1 := (A.old 1 rfl).trans x1
      replace x2 := (A.old 2 rfl).trans x2
      have x6 : f1.eval (.tmp 6) = .slice none 0 0 := A.has 0 6 rfl
      replace bl := (bl.trans (Below.mono hb bl.size))
      replace sz := A.size.trans sz
      replace df := A.defs.trans df
      clear A hb
      show Code.wp _ _ _ _ _
      refine wp_seq ?_
      refine wp_seq ?_
      refine wp_all_seq [.eq (.int .i64 ((m : Nat) : Int)), .eq (v), .eq (.int .i64 (((l).length : Nat) : Int)), .eq (.bool true), .eq (.bool true), .eq (.bool false), .eq (.bool false)] (by kernel_rfl) (by kernel_rfl) (by rw [sz]; kernel_rfl) (by kernel_rfl) ⟨fun hw ac u K => ?_, fun hw ac u K => ?_, fun hw ac u K => ?_, fun hw ac u K => ?_, fun hw ac u K => ?_, fun hw ac u K => ?_, fun hw ac u K => ?_, trivial⟩ ?_
      · exact st_move (.tmp 1) rfl ((K.old 1 rfl).trans x1)
      · exact st_move (.tmp 0) rfl ((K.old 0 rfl).trans x0)
      · exact st_lenc (.tmp 9) rfl ((l).length) rfl (fk_val (K.dep 1 9 rfl) (Fk.mono _ _ _ _ hv (bl.trans (Below.mono K.grow bl.size))))
      · exact st_eqi 3 (.tmp 8) (.tmp 10) rfl .i64 (((m : Nat) : Int)) ((((l).length : Nat) : Int)) (K.dep 0 8 rfl) (K.dep 2 10 rfl) _ (by rw [eq_comm, decide_eq_true_iff]; omega)
      · exact st_move (.tmp 11) rfl (K.dep 3 11 rfl)
      · exact st_move (.tmp 2) rfl ((K.old 2 rfl).trans x2)
      · exact st_pick_t (.tmp 12) (.tmp 13) (.const (.bool false)) rfl (K.dep 4 12 rfl) (K.dep 5 13 rfl)
      intro f2 w2 A hb
      replace bl0 := bl
      replace x0 := (A.old 0 rfl).trans x0
      replace x1 := (A.old 1 rfl).trans x1
      replace x2 := (A.old 2 rfl).trans x2
      replace x6 := (A.old 6 rfl).trans x6
      have x14 : f2.eval (.tmp 14) = .bool false := A.has 6 14 rfl
      replace bl := (bl.trans (Below.mono hb bl.size))
      replace sz := A.size.trans sz
      replace df := A.defs.trans df
      clear A hb
      show Code.wp _ _ _ _ _
      refine wp_cond_false x14 ?_
      refine wp_skip ?_
      show Code.wp _ _ _ _ _
      refine wp_seq ?_
      refine wp_seq ?_
      refine wp_all_seq [.eq (.int .i64 ((m : Nat) : Int)), .eq (v), .eq (.int .i64 (((l).length : Nat) : Int)), .eq (.bool true)] (by kernel_rfl) (by kernel_rfl) (by rw [sz]; kernel_rfl) (by kernel_rfl) ⟨fun hw ac u K => ?_, fun hw ac u K => ?_, fun hw ac u K => ?_, fun hw ac u K => ?_, trivial⟩ ?_
      · exact st_move (.tmp 1) rfl ((K.old 1 rfl).trans x1)
      · exact st_move (.tmp 0) rfl ((K.old 0 rfl).trans x0)
      · exact st_lenc (.tmp 16) rfl ((l).length) rfl (fk_val (K.dep 1 16 rfl) (Fk.mono _ _ _ _ hv (bl.trans (Below.mono K.grow bl.size))))
      · exact st_eqi 3 (.tmp 15) (.tmp 17) rfl .i64 (((m : Nat) : Int)) ((((l).length : Nat) : Int)) (K.dep 0 15 rfl) (K.dep 2 17 rfl) _ (by rw [eq_comm, decide_eq_true_iff]; omega)
      intro f3 w3 A hb
      replace bl0 := bl
      replace x0 := (A.old 0 rfl).trans x0
      replace x1 := (A.old 1 rfl).trans x1
      replace x2 := (A.old 2 rfl).trans x2
      replace x6 := (A.old 6 rfl).trans x6
      replace x14 := (A.old 14 rfl).trans x14
      have x18 : f3.eval (.tmp 18) = .bool true := A.has 3 18 rfl
      replace bl := (bl.trans (Below.mono hb bl.size))
      replace sz := A.size.trans sz
      replace df := A.defs.trans df
      clear A hb
      show Code.wp _ _ _ _ _
      refine wp_cond_true x18 ?_
      refine wp_seq ?_
      refine wp_all_seq [.eq (v), .eq (.agg ((y).map V).toArray), .ow w.heap.size ([y]), .ow w.heap.size ([y])] (by kernel_rfl) (by kernel_rfl) (by rw [sz]; kernel_rfl) (by kernel_rfl) ⟨fun hw ac u K => ?_, fun hw ac u K => ?_, fun hw ac u K => ?_, fun hw ac u K => ?_, trivial⟩ ?_
      · exact st_move (.tmp 0) rfl ((K.old 0 rfl).trans x0)
      · exact st_call 19 (.func 19) _ _ #[v] rfl rfl (one_arg (K.dep 0 19 rfl)) Tryd.enter19 (fk_of (root_any l _ _ h1000 (Fk.mono _ _ _ _ hv (bl.trans (Below.mono K.grow bl.size))) (hK.below (bl.trans (Below.mono K.grow bl.size))) ey))
      · exact st_bo1 (.tmp 20) rfl hy (K.dep 1 20 rfl) _ (bl.trans (Below.mono K.grow bl.size)).size
      · exact st_assign (.tmp 21) rfl (K.dep 2 21 rfl)
      intro f4 w4 A hb
      replace bl0 := bl
      replace x0 := (A.old 0 rfl).trans x0
      replace x1 := (A.old 1 rfl).trans x1
      replace x2 := (A.old 2 rfl).trans x2
      clear x6
      replace x14 := (A.old 14 rfl).trans x14
      replace x18 := (A.old 18 rfl).trans x18
      have x6 : Fk.f (.ow w.heap.size ([y])) (f4.eval (.tmp 6)) w4 := A.has 3 6 rfl
      replace bl := (bl.trans (Below.mono hb bl.size))
      replace sz := A.size.trans sz
      replace df := A.defs.trans df
      clear A hb
      show Code.wp _ _ _ _ _
      refine wp_ret ?_
      repeat (first | with_reducible refine then_ret ?_ | with_reducible refine block_ret ?_)
      rw [hml, msub_part, ey.out]
      exact bodyPost_ret (v := f4.eval (.tmp 6)) (ret_slot rfl f4 _ rfl _ _) df ⟨_, rfl, x6, bl⟩
    · skip
      go_enter Tryd.func40, Tryd.ntmps40
      refine code_both (fun f w1 => f.tmps.size = 53 ∧ f.defers = [] ∧ f.eval (.tmp 0) = v ∧ f.eval (.tmp 1) = .int .i64 ((m : Nat) : Int) ∧ f.eval (.tmp 2) = .bool true ∧ Below w.heap.size w (w1)) ⟨rfl, rfl, rfl, rfl, rfl, Below.refl _ _⟩ ?_
      rintro f0 w0 ⟨sz, df, x0, x1, x2, bl⟩
      have bl0 := bl
      refine wp_seq ?_
      refine wp_all_seq [.eq (.slice none 0 0)] (by kernel_rfl) (by kernel_rfl) (by rw [sz]; kernel_rfl) (by kernel_rfl) ⟨fun hw ac u K => ?_, trivial⟩ ?_
      · exact st_assign (.const (.slice none 0 0)) rfl rfl
      intro f1 w1 A hb
      replace bl0 := bl
      replace x0 := (A.old 0 rfl).trans x0
      replace x1 := (A.old 1 rfl).trans x1
      replace x2 := (A.old 2 rfl).trans x2
      have x6 : f1.eval (.tmp 6) = .slice none 0 0 := A.has 0 6 rfl
      replace bl := (bl.trans (Below.mono hb bl.size))
      replace sz := A.size.trans sz
      replace df := A.defs.trans df
      clear A hb
      show Code.wp _ _ _ _ _
      refine wp_seq ?_
      refine wp_seq ?_
      refine wp_all_seq [.eq (.int .i64 ((m : Nat) : Int)), .eq (v), .eq (.int .i64 (((l).length : Nat) : Int)), .eq (.bool true), .eq (.bool true), .eq (.bool true), .eq (.bool true)] (by kernel_rfl) (by kernel_rfl) (by rw [sz]; kernel_rfl) (by kernel_rfl) ⟨fun hw ac u K => ?_, fun hw ac u K => ?_, fun hw ac u K => ?_, fun hw ac u K => ?_, fun hw ac u K => ?_, fun hw ac u K => ?_, fun hw ac u K => ?_, trivial⟩ ?_
      · exact st_move (.tmp 1) rfl ((K.old 1 rfl).trans x1)
      · exact st_move (.tmp 0) rfl ((K.old 0 rfl).trans x0)
      · exact st_lenc (.tmp 9) rfl ((l).length) rfl (fk_val (K.dep 1 9 rfl) (Fk.mono _ _ _ _ hv (bl.trans (Below.mono K.grow bl.size))))
      · exact st_eqi 3 (.tmp 8) (.tmp 10) rfl .i64 (((m : Nat) : Int)) ((((l).length : Nat) : Int)) (K.dep 0 8 rfl) (K.dep 2 10 rfl) _ (by rw [eq_comm, decide_eq_true_iff]; omega)
      · exact st_move (.tmp 11) rfl (K.dep 3 11 rfl)
      · exact st_move (.tmp 2) rfl ((K.old 2 rfl).trans x2)
      · exact st_pick_t (.tmp 12) (.tmp 13) (.const (.bool false)) rfl (K.dep 4 12 rfl) (K.dep 5 13 rfl)
      intro f2 w2 A hb
      replace bl0 := bl
      replace x0 := (A.old 0 rfl).trans x0
      replace x1 := (A.old 1 rfl).trans x1
      replace x2 := (A.old 2 rfl).trans x2
      replace x6 := (A.old 6 rfl).trans x6
      have x14 : f2.eval (.tmp 14) = .bool true := A.has 6 14 rfl
      replace bl := (bl.trans (Below.mono hb bl.size))
      replace sz := A.size.trans sz
      replace df := A.defs.trans df
      clear A hb
      show Code.wp _ _ _ _ _
      refine wp_cond_true x14 ?_
      refine wp_seq ?_
      refine wp_all_seq [.eq (.slice none 0 0)] (by kernel_rfl) (by kernel_rfl) (by rw [sz]; kernel_rfl) (by kernel_rfl) ⟨fun hw ac u K => ?_, trivial⟩ ?_
      · exact st_assign (.const (.slice none 0 0)) rfl rfl
      intro f3 w3 A hb
      replace bl0 := bl
      replace x0 := (A.old 0 rfl).trans x0
      replace x1 := (A.old 1 rfl).trans x1
      replace x2 := (A.old 2 rfl).trans x2
      clear x6
      replace x14 := (A.old 14 rfl).trans x14
      have x6 : f3.eval (.tmp 6) = .slice none 0 0 := A.has 0 6 rfl
      replace bl := (bl.trans (Below.mono hb bl.size))
      replace sz := A.size.trans sz
      replace df := A.defs.trans df
      clear A hb
      show Code.wp _ _ _ _ _
      refine wp_ret ?_
      repeat (first | with_reducible refine then_ret ?_ | with_reducible refine block_ret ?_)
      rw [hml, msub_all]
      exact bodyPost_ret (v := .slice none 0 0) (ret_slot rfl f3 _ x6 _ _) df ⟨_, rfl, ow_nil _ _, bl⟩
  · skip
    have h2 : 2 ≤ l.length := by omega
    obtain ⟨k, hk⟩ : ∃ k, spl l.length = k := ⟨_, rfl⟩
    have hk1 : k < l.length := by rw [← hk]; exact spl_lt h2
    have hk2 : 1 ≤ k := by rw [← hk]; exact spl_pos _
    obtain ⟨y1, ey1⟩ : ∃ p, Box (mroot (l.take k) = p) := ⟨_, ⟨rfl⟩⟩
    obtain ⟨y2, ey2⟩ : ∃ p, Box (mroot (l.drop k) = p) := ⟨_, ⟨rfl⟩⟩
    have hy1 : y1.length = 32 := by rw [← ey1.out]; exact mroot_len (fun x hx => hc_len hv x (List.mem_of_mem_take hx))
    have hy2 : y2.length = 32 := by rw [← ey2.out]; exact mroot_len (fun x hx => hc_len hv x (List.mem_of_mem_drop hx))
    go_enter Tryd.func40, Tryd.ntmps40
    refine code_both (fun f w1 => f.tmps.size = 53 ∧ f.defers = [] ∧ f.eval (.tmp 0) = v ∧ f.eval (.tmp 1) = .int .i64 ((m : Nat) : Int) ∧ f.eval (.tmp 2) = .bool b ∧ Below w.heap.size w (w1)) ⟨rfl, rfl, rfl, rfl, rfl, Below.refl _ _⟩ ?_
    rintro f0 w0 ⟨sz, df, x0, x1, x2, bl⟩
    have bl0 := bl
    refine wp_seq ?_
    refine wp_all_seq [.eq (.slice none 0 0)] (by kernel_rfl) (by kernel_rfl) (by rw [sz]; kernel_rfl) (by kernel_rfl) ⟨fun hw ac u K => ?_, trivial⟩ ?_
    · exact st_assign (.const (.slice none 0 0)) rfl rfl
    intro f1 w1 A hb
    replace bl0 := bl
    replace x0 := (A.old 0 rfl).trans x0
    replace x1 := (A.old 1 rfl).trans x1
    replace x2 := (A.old 2 rfl).trans x2
    have x6 : f1.eval (.tmp 6) = .slice none 0 0 := A.has 0 6 rfl
    replace bl := (bl.trans (Below.mono hb bl.size))
    replace sz := A.size.trans sz
    replace df := A.defs.trans df
    clear A hb
    show Code.wp _ _ _ _ _
    refine wp_seq ?_
    refine wp_seq ?_
    refine wp_all_seq [.eq (.int .i64 ((m : Nat) : Int)), .eq (v), .eq (.int .i64 (((l).length : Nat) : Int)), .eq (.bool false), .eq (.bool false), .any, .eq (.bool false)] (by kernel_rfl) (by kernel_rfl) (by rw [sz]; kernel_rfl) (by kernel_rfl) ⟨fun hw ac u K => ?_, fun hw ac u K => ?_, fun hw ac u K => ?_, fun hw ac u K => ?_, fun hw ac u K => ?_, fun hw ac u K => ?_, fun hw ac u K => ?_, trivial⟩ ?_
    · exact st_move (.tmp 1) rfl ((K.old 1 rfl).trans x1)
    · exact st_move (.tmp 0) rfl ((K.old 0 rfl).trans x0)
    · exact st_lenc (.tmp 9) rfl ((l).length) rfl (fk_val (K.dep 1 9 rfl) (Fk.mono _ _ _ _ hv (bl.trans (Below.mono K.grow bl.size))))
    · exact st_eqi 3 (.tmp 8) (.tmp 10) rfl .i64 (((m : Nat) : Int)) ((((l).length : Nat) : Int)) (K.dep 0 8 rfl) (K.dep 2 10 rfl) _ (by rw [eq_comm, decide_eq_false_iff_not]; omega)
    · exact st_move (.tmp 11) rfl (K.dep 3 11 rfl)
    · exact (Bool.false_ne_true hw).elim
    · exact st_pick_f' (.tmp 12) (.tmp 13) (.const (.bool false)) rfl (K.dep 4 12 rfl) rfl
    intro f2 w2 A hb
    replace bl0 := bl
    replace x0 := (A.old 0 rfl).trans x0
    replace x1 := (A.old 1 rfl).trans x1
    replace x2 := (A.old 2 rfl).trans x2
    replace x6 := (A.old 6 rfl).trans x6
    have x14 : f2.eval (.tmp 14) = .bool false := A.has 6 14 rfl
    replace bl := (bl.trans (Below.mono hb bl.size))
    replace sz := A.size.trans sz
    replace df := A.defs.trans df
    clear A hb
    show Code.wp _ _ _ _ _
    refine wp_cond_false x14 ?_
    refine wp_skip ?_
    show Code.wp _ _ _ _ _
    refine wp_seq ?_
    refine wp_seq ?_
    refine wp_all_seq [.eq (.int .i64 ((m : Nat) : Int)), .eq (v), .eq (.int .i64 (((l).length : Nat) : Int)), .eq (.bool false)] (by kernel_rfl) (by kernel_rfl) (by rw [sz]; kernel_rfl) (by kernel_rfl) ⟨fun hw ac u K => ?_, fun hw ac u K => ?_, fun hw ac u K => ?_, fun hw ac u K => ?_, trivial⟩ ?_
    · exact st_move (.tmp 1) rfl ((K.old 1 rfl).trans x1)
    · exact st_move (.tmp 0) rfl ((K.old 0 rfl).trans x0)
    · exact st_lenc (.tmp 16) rfl ((l).length) rfl (fk_val (K.dep 1 16 rfl) (Fk.mono _ _ _ _ hv (bl.trans (Below.mono K.grow bl.size))))
    · exact st_eqi 3 (.tmp 15) (.tmp 17) rfl .i64 (((m : Nat) : Int)) ((((l).length : Nat) : Int)) (K.dep 0 15 rfl) (K.dep 2 17 rfl) _ (by rw [eq_comm, decide_eq_false_iff_not]; omega)
    intro f3 w3 A hb
    replace bl0 := bl
    replace x0 := (A.old 0 rfl).trans x0
    replace x1 := (A.old 1 rfl).trans x1
    replace x2 := (A.old 2 rfl).trans x2
    replace x6 := (A.old 6 rfl).trans x6
    replace x14 := (A.old 14 rfl).trans x14
    have x18 : f3.eval (.tmp 18) = .bool false := A.has 3 18 rfl
    replace bl := (bl.trans (Below.mono hb bl.size))
    replace sz := A.size.trans sz
    replace df := A.defs.trans df
    clear A hb
    show Code.wp _ _ _ _ _
    refine wp_cond_false x18 ?_
    refine wp_skip ?_
    show Code.wp _ _ _ _ _
    refine wp_seq ?_
    refine wp_all_seq [.eq (v), .eq (.int .i64 (((l).length : Nat) : Int)), .eq (.int .i64 ((k : Nat) : Int)), .eq (.int .i64 ((k : Nat) : Int))] (by kernel_rfl) (by kernel_rfl) (by rw [sz]; kernel_rfl) (by kernel_rfl) ⟨fun hw ac u K => ?_, fun hw ac u K => ?_, fun hw ac u K => ?_, fun hw ac u K => ?_, trivial⟩ ?_
    · exact st_move (.tmp 0) rfl ((K.old 0 rfl).trans x0)
    · exact st_lenc (.tmp 22) rfl ((l).length) rfl (fk_val (K.dep 0 22 rfl) (Fk.mono _ _ _ _ hv (bl.trans (Below.mono K.grow bl.size))))
    · exact st_call 35 (.func 35) _ _ #[.int .i64 (((l).length : Nat) : Int)] rfl rfl (one_arg (K.dep 1 23 rfl)) Tryd.enter35 (by rw [← hk]; exact fk_of (split_hi l.length (by omega) (by omega) _))
    · exact st_assign (.tmp 24) rfl (K.dep 2 24 rfl)
    intro f4 w4 A hb
    replace bl0 := bl
    replace x0 := (A.old 0 rfl).trans x0
    replace x1 := (A.old 1 rfl).trans x1
    replace x2 := (A.old 2 rfl).trans x2
    replace x6 := (A.old 6 rfl).trans x6
    replace x14 := (A.old 14 rfl).trans x14
    replace x18 := (A.old 18 rfl).trans x18
    have x7 : f4.eval (.tmp 7) = .int .i64 ((k : Nat) : Int) := A.has 3 7 rfl
    replace bl := (bl.trans (Below.mono hb bl.size))
    replace sz := A.size.trans sz
    replace df := A.defs.trans df
    clear A hb
    show Code.wp _ _ _ _ _
    refine wp_seq ?_
    refine wp_seq ?_
    by_cases hik : m ≤ k
    rotate_left
    · skip
      have hl1 := msub_len _ (l.drop k) (m - k) false rfl
      rw [List.length_drop] at hl1
      refine wp_all_seq [.eq (.int .i64 ((m : Nat) : Int)), .eq (.int .i64 ((k : Nat) : Int)), .eq (.bool false)] (by kernel_rfl) (by kernel_rfl) (by rw [sz]; kernel_rfl) (by kernel_rfl) ⟨fun hw ac u K => ?_, fun hw ac u K => ?_, fun hw ac u K => ?_, trivial⟩ ?_
      · exact st_move (.tmp 1) rfl ((K.old 1 rfl).trans x1)
      · exact st_move (.tmp 7) rfl ((K.old 7 rfl).trans x7)
      · exact st_leq 3 (.tmp 25) (.tmp 26) rfl .i64 (((m : Nat) : Int)) (((k : Nat) : Int)) (K.dep 0 25 rfl) (K.dep 1 26 rfl) _ (by first | (simp; done) | (simp; omega))
      intro f5 w5 A hb
      replace bl0 := bl
      replace x0 := (A.old 0 rfl).trans x0
      replace x1 := (A.old 1 rfl).trans x1
      replace x2 := (A.old 2 rfl).trans x2
      replace x6 := (A.old 6 rfl).trans x6
      replace x14 := (A.old 14 rfl).trans x14
      replace x18 := (A.old 18 rfl).trans x18
      replace x7 := (A.old 7 rfl).trans x7
      have x27 : f5.eval (.tmp 27) = .bool false := A.has 2 27 rfl
      replace bl := (bl.trans (Below.mono hb bl.size))
      replace sz := A.size.trans sz
      replace df := A.defs.trans df
      clear A hb
      show Code.wp _ _ _ _ _
      refine wp_cond_false x27 ?_
      refine wp_skip ?_
      show Code.wp _ _ _ _ _
      refine wp_seq ?_
      refine wp_region_tail [.eq (v), .eq (.int .i64 ((k : Nat) : Int)), .hc ((l).drop (k)), .eq (.int .i64 ((m : Nat) : Int)), .eq (.int .i64 ((k : Nat) : Int)), .eq (.int .i64 ((m - k : Nat) : Int)), .ow w.heap.size (msub (l.drop k) (m - k) false), .eq (v), .eq (.int .i64 ((k : Nat) : Int)), .hc ((l).take (k)), .eq (.agg ((y1).map V).toArray), .hs ([y1])] [12, 13] Tryd.mixed (by kernel_rfl) (by kernel_rfl) (by kernel_rfl) (by kernel_rfl) (by rw [sz]; kernel_rfl) (by kernel_rfl) ⟨fun hw ac u K => ?_, fun hw ac u K => ?_, fun hw ac u K => ?_, fun hw ac u K => ?_, fun hw ac u K => ?_, fun hw ac u K => ?_, fun hw ac u K => ?_, fun hw ac u K => ?_, fun hw ac u K => ?_, fun hw ac u K => ?_, fun hw ac u K => ?_, fun hw ac u K => ?_, trivial⟩ ?_
      · exact st_move (.tmp 0) rfl ((K.old 0 rfl).trans x0)
      · exact st_move (.tmp 7) rfl ((K.old 7 rfl).trans x7)
      · exact st_restc (.tmp 40) (.tmp 41) rfl (fk_val (K.dep 0 40 rfl) (Fk.mono _ _ _ _ hv (bl.trans (Below.mono K.grow bl.size)))) (k) (K.dep 1 41 rfl) (by omega)
      · exact st_move (.tmp 1) rfl ((K.old 1 rfl).trans x1)
      · exact st_move (.tmp 7) rfl ((K.old 7 rfl).trans x7)
      · exact st_sub (.tmp 43) (.tmp 44) rfl (m) (k) (m - k) (K.dep 3 43 rfl) (K.dep 4 44 rfl) (by omega) (by omega)
      · exact st_call 40 (.func 40) _ _ #[ac.eval (.tmp 42), .int .i64 ((m - k : Nat) : Int), .bool false] rfl rfl (arg3 rfl (K.dep 5 45 rfl) rfl) Tryd.enter40 (fk_ow (bl.trans (Below.mono K.grow bl.size)).size (ih (l.drop k) (by rw [List.length_drop]; omega) (m - k) false (by omega) (by rw [List.length_drop]; omega) _ _ (by rw [List.length_drop]; omega) (K.dep 2 42 rfl) (hK.below (bl.trans (Below.mono K.grow bl.size)))))
      · exact st_move (.tmp 0) rfl ((K.old 0 rfl).trans x0)
      · exact st_move (.tmp 7) rfl ((K.old 7 rfl).trans x7)
      · exact st_cuth (.tmp 47) (.tmp 48) rfl (fk_val (K.dep 7 47 rfl) (Fk.mono _ _ _ _ hv (bl.trans (Below.mono K.grow bl.size)))) (k) (K.dep 8 48 rfl) (by omega)
      · exact st_call 19 (.func 19) _ _ #[ac.eval (.tmp 49)] rfl rfl (one_arg rfl) Tryd.enter19 (fk_of (root_any (l.take k) _ _ (by rw [List.length_take]; omega) (K.dep 9 49 rfl) (hK.below (bl.trans (Below.mono K.grow bl.size))) ey1))
      · exact st_bh1 (.tmp 50) rfl hy1 (K.dep 10 50 rfl)
      intro f6 w6 A hb
      replace bl0 := bl
      replace x0 := (A.old 0 rfl).trans x0
      replace x1 := (A.old 1 rfl).trans x1
      replace x2 := (A.old 2 rfl).trans x2
      replace x6 := (A.old 6 rfl).trans x6
      replace x14 := (A.old 14 rfl).trans x14
      replace x18 := (A.old 18 rfl).trans x18
      replace x7 := (A.old 7 rfl).trans x7
      replace x27 := (A.old 27 rfl).trans x27
      have x46 : Fk.f (.ow w.heap.size (msub (l.drop k) (m - k) false)) (f6.eval (.tmp 46)) w6 := A.has 6 46 rfl
      have x51 : Fk.f (.hs ([y1])) (f6.eval (.tmp 51)) w6 := A.has 11 51 rfl
      replace bl := (bl.trans (Below.mono hb bl.size))
      replace sz := A.size.trans sz
      replace df := A.defs.trans df
      clear A hb
      refine wl_append rfl (.tmp 46) (.tmp 51) rfl 52 rfl (by rw [sz]; decide) x46 x51 bl (by omega) ?_
      intro f7 w7 df2 sz2 old2 new2 bl2
      clear x46
      clear x51
      replace x0 := (old2 0 rfl).trans x0
      replace x1 := (old2 1 rfl).trans x1
      replace x2 := (old2 2 rfl).trans x2
      replace x6 := (old2 6 rfl).trans x6
      replace x14 := (old2 14 rfl).trans x14
      replace x18 := (old2 18 rfl).trans x18
      replace x7 := (old2 7 rfl).trans x7
      replace x27 := (old2 27 rfl).trans x27
      have x52 : Fk.f (.ow w.heap.size (msub (l.drop k) (m - k) false ++ [y1])) (f7.eval (.tmp 52)) w7 := new2
      replace bl := bl2
      replace bl0 := bl
      replace sz := sz2.trans sz
      replace df := df2.trans df
      clear df2 sz2 old2 new2 bl2
      refine wl_one (.ow w.heap.size (msub (l.drop k) (m - k) false ++ [y1])) rfl 6 rfl (by rw [sz]; decide) (st_assign (.tmp 52) rfl x52) ?_
      intro f8 w8 df2 sz2 old2 new2 hb
      replace bl0 := bl
      replace x0 := (old2 0 rfl).trans x0
      replace x1 := (old2 1 rfl).trans x1
      replace x2 := (old2 2 rfl).trans x2
      clear x6
      replace x14 := (old2 14 rfl).trans x14
      replace x18 := (old2 18 rfl).trans x18
      replace x7 := (old2 7 rfl).trans x7
      replace x27 := (old2 27 rfl).trans x27
      replace x52 := f_at (old2 52 rfl) (Fk.mono _ _ _ _ x52 hb)
      have x6 : Fk.f (.ow w.heap.size (msub (l.drop k) (m - k) false ++ [y1])) (f8.eval (.tmp 6)) w8 := new2
      replace bl := (bl.trans (Below.mono hb bl.size))
      replace sz := sz2.trans sz
      replace df := df2.trans df
      clear df2 sz2 old2 new2 hb
      refine wpList_nil ?_
      clear x52
      show Code.wp _ _ _ _ _
      refine wp_ret ?_
      repeat (first | with_reducible refine then_ret ?_ | with_reducible refine block_ret ?_)
      rw [msub_right h2 hml (by rw [hk]; exact hik), hk, ey1.out]
      exact bodyPost_ret (v := f8.eval (.tmp 6)) (ret_slot rfl f8 _ rfl _ _) df ⟨_, rfl, x6, bl⟩
    have hl1 := msub_len _ (l.take k) m b rfl
    rw [List.length_take] at hl1
    refine wp_all_seq [.eq (.int .i64 ((m : Nat) : Int)), .eq (.int .i64 ((k : Nat) : Int)), .eq (.bool true)] (by kernel_rfl) (by kernel_rfl) (by rw [sz]; kernel_rfl) (by kernel_rfl) ⟨fun hw ac u K => ?_, fun hw ac u K => ?_, fun hw ac u K => ?_, trivial⟩ ?_
    · exact st_move (.tmp 1) rfl ((K.old 1 rfl).trans x1)
    · exact st_move (.tmp 7) rfl ((K.old 7 rfl).trans x7)
    · exact st_leq 3 (.tmp 25) (.tmp 26) rfl .i64 (((m : Nat) : Int)) (((k : Nat) : Int)) (K.dep 0 25 rfl) (K.dep 1 26 rfl) _ (by first | (simp; done) | (simp; omega))
    intro f5 w5 A hb
    replace bl0 := bl
    replace x0 := (A.old 0 rfl).trans x0
    replace x1 := (A.old 1 rfl).trans x1
    replace x2 := (A.old 2 rfl).trans x2
    replace x6 := (A.old 6 rfl).trans x6
    replace x14 := (A.old 14 rfl).trans x14
    replace x18 := (A.old 18 rfl).trans x18
    replace x7 := (A.old 7 rfl).trans x7
    have x27 : f5.eval (.tmp 27) = .bool true := A.has 2 27 rfl
    replace bl := (bl.trans (Below.mono hb bl.size))
    replace sz := A.size.trans sz
    replace df := A.defs.trans df
    clear A hb
    show Code.wp _ _ _ _ _
    refine wp_cond_true x27 ?_
    refine wp_seq ?_
    refine wp_region_tail [.eq (v), .eq (.int .i64 ((k : Nat) : Int)), .hc ((l).take (k)), .eq (.int .i64 ((m : Nat) : Int)), .eq (.bool b), .ow w.heap.size (msub (l.take k) m b), .eq (v), .eq (.int .i64 ((k : Nat) : Int)), .hc ((l).drop (k)), .eq (.agg ((y2).map V).toArray), .hs ([y2])] [11, 12] Tryd.mixed (by kernel_rfl) (by kernel_rfl) (by kernel_rfl) (by kernel_rfl) (by rw [sz]; kernel_rfl) (by kernel_rfl) ⟨fun hw ac u K => ?_, fun hw ac u K => ?_, fun hw ac u K => ?_, fun hw ac u K => ?_, fun hw ac u K => ?_, fun hw ac u K => ?_, fun hw ac u K => ?_, fun hw ac u K => ?_, fun hw ac u K => ?_, fun hw ac u K => ?_, fun hw ac u K => ?_, trivial⟩ ?_
    · exact st_move (.tmp 0) rfl ((K.old 0 rfl).trans x0)
    · exact st_move (.tmp 7) rfl ((K.old 7 rfl).trans x7)
    · exact st_cuth (.tmp 28) (.tmp 29) rfl (fk_val (K.dep 0 28 rfl) (Fk.mono _ _ _ _ hv (bl.trans (Below.mono K.grow bl.size)))) (k) (K.dep 1 29 rfl) (by omega)
    · exact st_move (.tmp 1) rfl ((K.old 1 rfl).trans x1)
    · exact st_move (.tmp 2) rfl ((K.old 2 rfl).trans x2)
    · exact st_call 40 (.func 40) _ _ #[ac.eval (.tmp 30), .int .i64 ((m : Nat) : Int), .bool b] rfl rfl (arg3 rfl (K.dep 3 31 rfl) (K.dep 4 32 rfl)) Tryd.enter40 (fk_ow (bl.trans (Below.mono K.grow bl.size)).size (ih (l.take k) (by rw [List.length_take]; omega) m b hm1 (by rw [List.length_take]; omega) _ _ (by rw [List.length_take]; omega) (K.dep 2 30 rfl) (hK.below (bl.trans (Below.mono K.grow bl.size)))))
    · exact st_move (.tmp 0) rfl ((K.old 0 rfl).trans x0)
    · exact st_move (.tmp 7) rfl ((K.old 7 rfl).trans x7)
    · exact st_restc (.tmp 34) (.tmp 35) rfl (fk_val (K.dep 6 34 rfl) (Fk.mono _ _ _ _ hv (bl.trans (Below.mono K.grow bl.size)))) (k) (K.dep 7 35 rfl) (by omega)
    · exact st_call 19 (.func 19) _ _ #[ac.eval (.tmp 36)] rfl rfl (one_arg rfl) Tryd.enter19 (fk_of (root_any (l.drop k) _ _ (by rw [List.length_drop]; omega) (K.dep 8 36 rfl) (hK.below (bl.trans (Below.mono K.grow bl.size))) ey2))
    · exact st_bh1 (.tmp 37) rfl hy2 (K.dep 9 37 rfl)
    intro f6 w6 A hb
    replace bl0 := bl
    replace x0 := (A.old 0 rfl).trans x0
    replace x1 := (A.old 1 rfl).trans x1
    replace x2 := (A.old 2 rfl).trans x2
    replace x6 := (A.old 6 rfl).trans x6
    replace x14 := (A.old 14 rfl).trans x14
    replace x18 := (A.old 18 rfl).trans x18
    replace x7 := (A.old 7 rfl).trans x7
    replace x27 := (A.old 27 rfl).trans x27
    have x33 : Fk.f (.ow w.heap.size (msub (l.take k) m b)) (f6.eval (.tmp 33)) w6 := A.has 5 33 rfl
    have x38 : Fk.f (.hs ([y2])) (f6.eval (.tmp 38)) w6 := A.has 10 38 rfl
    replace bl := (bl.trans (Below.mono hb bl.size))
    replace sz := A.size.trans sz
    replace df := A.defs.trans df
    clear A hb
    refine wl_append rfl (.tmp 33) (.tmp 38) rfl 39 rfl (by rw [sz]; decide) x33 x38 bl (by omega) ?_
    intro f7 w7 df2 sz2 old2 new2 bl2
    clear x33
    clear x38
    replace x0 := (old2 0 rfl).trans x0
    replace x1 := (old2 1 rfl).trans x1
    replace x2 := (old2 2 rfl).trans x2
    replace x6 := (old2 6 rfl).trans x6
    replace x14 := (old2 14 rfl).trans x14
    replace x18 := (old2 18 rfl).trans x18
    replace x7 := (old2 7 rfl).trans x7
    replace x27 := (old2 27 rfl).trans x27
    have x39 : Fk.f (.ow w.heap.size (msub (l.take k) m b ++ [y2])) (f7.eval (.tmp 39)) w7 := new2
    replace bl := bl2
    replace bl0 := bl
    replace sz := sz2.trans sz
    replace df := df2.trans df
    clear df2 sz2 old2 new2 bl2
    refine wl_one (.ow w.heap.size (msub (l.take k) m b ++ [y2])) rfl 6 rfl (by rw [sz]; decide) (st_assign (.tmp 39) rfl x39) ?_
    intro f8 w8 df2 sz2 old2 new2 hb
    replace bl0 := bl
    replace x0 := (old2 0 rfl).trans x0
    replace x1 := (old2 1 rfl).trans x1
    replace x2 := (old2 2 rfl).trans x2
    clear x6
    replace x14 := (old2 14 rfl).trans x14
    replace x18 := (old2 18 rfl).trans x18
    replace x7 := (old2 7 rfl).trans x7
    replace x27 := (old2 27 rfl).trans x27
    replace x39 := f_at (old2 39 rfl) (Fk.mono _ _ _ _ x39 hb)
    have x6 : Fk.f (.ow w.heap.size (msub (l.take k) m b ++ [y2])) (f8.eval (.tmp 6)) w8 := new2
    replace bl := (bl.trans (Below.mono hb bl.size))
    replace sz := sz2.trans sz
    replace df := df2.trans df
    clear df2 sz2 old2 new2 hb
    refine wpList_nil ?_
    clear x39
    show Code.wp _ _ _ _ _
    refine wp_ret ?_
    repeat (first | with_reducible refine then_ret ?_ | with_reducible refine block_ret ?_)
    rw [msub_left h2 hml (by rw [hk]; exact hik), hk, ey2.out]
    exact bodyPost_ret (v := f8.eval (.tmp 6)) (ret_slot rfl f8 _ rfl _ _) df ⟨_, rfl, x6, bl⟩
theorem proof_zero {l : List (List (BitVec 8))} (w : World) {v : Value} (hv : (Fk.hc l).f v w) :
    Calls Tryd.prog 24 #[v, .int .i64 0] w fun e w' => e = .returned (.tuple #[.slice none 0 0, .int .i64 0]) ∧ Below w.heap.size w w' := by
  go_enter Tryd.func24, Tryd.ntmps24
  refine code_both (fun f w1 => f.tmps.size = 19 ∧ f.defers = [] ∧ f.eval (.tmp 0) = v ∧ f.eval (.tmp 1) = .int .i64 0 ∧ Below w.heap.size w (w1)) ⟨rfl, rfl, rfl, rfl, Below.refl _ _⟩ ?_
  rintro f0 w0 ⟨sz, df, x0, x1, bl⟩
  have bl0 := bl
  refine wp_seq ?_
  refine wp_region_seq [] (by kernel_rfl) (by kernel_rfl) (by rw [sz]; kernel_rfl) (by kernel_rfl) trivial ?_
  intro f1 w1 A hb
  replace bl0 := bl
  replace x0 := (A.old 0 rfl).trans x0
  replace x1 := (A.old 1 rfl).trans x1
  replace bl := (bl.trans (Below.mono hb bl.size))
  replace sz := A.size.trans sz
  replace df := A.defs.trans df
  clear A hb
  refine wl_one (.eq (.slice none 0 0)) rfl 4 rfl (by rw [sz]; decide) (st_assign (.const (.slice none 0 0)) rfl rfl) ?_
  intro f2 w2 df2 sz2 old2 new2 hb
  replace bl0 := bl
  replace x0 := (old2 0 rfl).trans x0
  replace x1 := (old2 1 rfl).trans x1
  have x4 : f2.eval (.tmp 4) = .slice none 0 0 := new2
  replace bl := (bl.trans (Below.mono hb bl.size))
  replace sz := sz2.trans sz
  replace df := df2.trans df
  clear df2 sz2 old2 new2 hb
  refine wl_one (.eq (.int .i64 0)) rfl 5 rfl (by rw [sz]; decide) (st_assign (.const (.int .i64 0)) rfl rfl) ?_
  intro f3 w3 df2 sz2 old2 new2 hb
  replace bl0 := bl
  replace x0 := (old2 0 rfl).trans x0
  replace x1 := (old2 1 rfl).trans x1
  replace x4 := (old2 4 rfl).trans x4
  have x5 : f3.eval (.tmp 5) = .int .i64 0 := new2
  replace bl := (bl.trans (Below.mono hb bl.size))
  replace sz := sz2.trans sz
  replace df := df2.trans df
  clear df2 sz2 old2 new2 hb
  refine wpList_nil ?_
  show Code.wp _ _ _ _ _
  refine wp_seq ?_
  refine wp_seq ?_
  refine wp_all_seq [.eq (.int .i64 0), .eq (.bool false), .eq (.bool false), .eq (.int .i64 0), .eq (v), .eq (.int .i64 (((l).length : Nat) : Int)), .eq (.bool false), .eq (.bool false)] (by kernel_rfl) (by kernel_rfl) (by rw [sz]; kernel_rfl) (by kernel_rfl) ⟨fun hw ac u K => ?_, fun hw ac u K => ?_, fun hw ac u K => ?_, fun hw ac u K => ?_, fun hw ac u K => ?_, fun hw ac u K => ?_, fun hw ac u K => ?_, fun hw ac u K => ?_, trivial⟩ ?_
  · exact st_move (.tmp 1) rfl ((K.old 1 rfl).trans x1)
  · exact st_lss 3 (.tmp 6) (.const (.int .i64 0)) rfl .i64 (0) (0) (K.dep 0 6 rfl) rfl _ (by rw [eq_comm, decide_eq_false_iff_not]; omega)
  · exact st_move (.tmp 7) rfl (K.dep 1 7 rfl)
  · exact st_move (.tmp 1) rfl ((K.old 1 rfl).trans x1)
  · exact st_move (.tmp 0) rfl ((K.old 0 rfl).trans x0)
  · exact st_lenc (.tmp 10) rfl ((l).length) rfl (fk_val (K.dep 4 10 rfl) (Fk.mono _ _ _ _ hv (bl.trans (Below.mono K.grow bl.size))))
  · exact st_gtr 3 (.tmp 9) (.tmp 11) rfl .i64 (0) ((((l).length : Nat) : Int)) (K.dep 3 9 rfl) (K.dep 5 11 rfl) _ (by rw [eq_comm, decide_eq_false_iff_not]; omega)
  · exact st_pick_f' (.tmp 8) (.const (.bool true)) (.tmp 12) rfl (K.dep 2 8 rfl) (K.dep 6 12 rfl)
  intro f4 w4 A hb
  replace bl0 := bl
  replace x0 := (A.old 0 rfl).trans x0
  replace x1 := (A.old 1 rfl).trans x1
  replace x4 := (A.old 4 rfl).trans x4
  replace x5 := (A.old 5 rfl).trans x5
  have x13 : f4.eval (.tmp 13) = .bool false := A.has 7 13 rfl
  replace bl := (bl.trans (Below.mono hb bl.size))
  replace sz := A.size.trans sz
  replace df := A.defs.trans df
  clear A hb
  show Code.wp _ _ _ _ _
  refine wp_cond_false x13 ?_
  refine wp_skip ?_
  show Code.wp _ _ _ _ _
  refine wp_seq ?_
  refine wp_seq ?_
  refine wp_all_seq [.eq (.int .i64 0), .eq (.bool true)] (by kernel_rfl) (by kernel_rfl) (by rw [sz]; kernel_rfl) (by kernel_rfl) ⟨fun hw ac u K => ?_, fun hw ac u K => ?_, trivial⟩ ?_
  · exact st_move (.tmp 1) rfl ((K.old 1 rfl).trans x1)
  · exact st_eqi 3 (.tmp 14) (.const (.int .i64 0)) rfl .i64 (0) (0) (K.dep 0 14 rfl) rfl _ (by simp)
  intro f5 w5 A hb
  replace bl0 := bl
  replace x0 := (A.old 0 rfl).trans x0
  replace x1 := (A.old 1 rfl).trans x1
  replace x4 := (A.old 4 rfl).trans x4
  replace x5 := (A.old 5 rfl).trans x5
  replace x13 := (A.old 13 rfl).trans x13
  have x15 : f5.eval (.tmp 15) = .bool true := A.has 1 15 rfl
  replace bl := (bl.trans (Below.mono hb bl.size))
  replace sz := A.size.trans sz
  replace df := A.defs.trans df
  clear A hb
  show Code.wp _ _ _ _ _
  refine wp_cond_true x15 ?_
  refine wp_seq ?_
  refine wp_all_seq [.eq (.slice none 0 0), .eq (.int .i64 0)] (by kernel_rfl) (by kernel_rfl) (by rw [sz]; kernel_rfl) (by kernel_rfl) ⟨fun hw ac u K => ?_, fun hw ac u K => ?_, trivial⟩ ?_
  · exact st_assign (.const (.slice none 0 0)) rfl rfl
  · exact st_assign (.const (.int .i64 0)) rfl rfl
  intro f6 w6 A hb
  replace bl0 := bl
  replace x0 := (A.old 0 rfl).trans x0
  replace x1 := (A.old 1 rfl).trans x1
  clear x4
  clear x5
  replace x13 := (A.old 13 rfl).trans x13
  replace x15 := (A.old 15 rfl).trans x15
  have x4 : f6.eval (.tmp 4) = .slice none 0 0 := A.has 0 4 rfl
  have x5 : f6.eval (.tmp 5) = .int .i64 0 := A.has 1 5 rfl
  replace bl := (bl.trans (Below.mono hb bl.size))
  replace sz := A.size.trans sz
  replace df := A.defs.trans df
  clear A hb
  show Code.wp _ _ _ _ _
  refine wp_ret ?_
  repeat (first | with_reducible refine then_ret ?_ | with_reducible refine block_ret ?_)
  exact bodyPost_ret (v := .tuple #[.slice none 0 0, .int .i64 0]) (ret_two rfl f6 _ _ x4 x5 _ _) df ⟨rfl, bl⟩
theorem proof_ok {l : List (List (BitVec 8))} {m : Nat} (hm1 : 1 ≤ m) (hm : m ≤ l.length) (h1000 : l.length ≤ 1000) (w : World) {v : Value} (hv : (Fk.hc l).f v w) (hK : Tab w) :
    Calls Tryd.prog 24 #[v, .int .i64 ((m : Nat) : Int)] w fun e w' => ∃ u, e = .returned u ∧ (Fk.t2 (.ow w.heap.size (msub l m true)) (.int .i64 0)).f u w' ∧ Below w.heap.size w w' := by
  go_enter Tryd.func24, Tryd.ntmps24
  refine code_both (fun f w1 => f.tmps.size = 19 ∧ f.defers = [] ∧ f.eval (.tmp 0) = v ∧ f.eval (.tmp 1) = .int .i64 ((m : Nat) : Int) ∧ Below w.heap.size w (w1)) ⟨rfl, rfl, rfl, rfl, Below.refl _ _⟩ ?_
  rintro f0 w0 ⟨sz, df, x0, x1, bl⟩
  have bl0 := bl
  refine wp_seq ?_
  refine wp_region_seq [] (by kernel_rfl) (by kernel_rfl) (by rw [sz]; kernel_rfl) (by kernel_rfl) trivial ?_
  intro f1 w1 A hb
  replace bl0 := bl
  replace x0 := (A.old 0 rfl).trans x0
  replace x1 := (A.old 1 rfl).trans x1
  replace bl := (bl.trans (Below.mono hb bl.size))
  replace sz := A.size.trans sz
  replace df := A.defs.trans df
  clear A hb
  refine wl_one (.eq (.slice none 0 0)) rfl 4 rfl (by rw [sz]; decide) (st_assign (.const (.slice none 0 0)) rfl rfl) ?_
  intro f2 w2 df2 sz2 old2 new2 hb
  replace bl0 := bl
  replace x0 := (old2 0 rfl).trans x0
  replace x1 := (old2 1 rfl).trans x1
  have x4 : f2.eval (.tmp 4) = .slice none 0 0 := new2
  replace bl := (bl.trans (Below.mono hb bl.size))
  replace sz := sz2.trans sz
  replace df := df2.trans df
  clear df2 sz2 old2 new2 hb
  refine wl_one (.eq (.int .i64 0)) rfl 5 rfl (by rw [sz]; decide) (st_assign (.const (.int .i64 0)) rfl rfl) ?_
  intro f3 w3 df2 sz2 old2 new2 hb
  replace bl0 := bl
  replace x0 := (old2 0 rfl).trans x0
  replace x1 := (old2 1 rfl).trans x1
  replace x4 := (old2 4 rfl).trans x4
  have x5 : f3.eval (.tmp 5) = .int .i64 0 := new2
  replace bl := (bl.trans (Below.mono hb bl.size))
  replace sz := sz2.trans sz
  replace df := df2.trans df
  clear df2 sz2 old2 new2 hb
  refine wpList_nil ?_
  show Code.wp _ _ _ _ _
  refine wp_seq ?_
  refine wp_seq ?_
  refine wp_all_seq [.eq (.int .i64 ((m : Nat) : Int)), .eq (.bool false), .eq (.bool false), .eq (.int .i64 ((m : Nat) : Int)), .eq (v), .eq (.int .i64 (((l).length : Nat) : Int)), .eq (.bool false), .eq (.bool false)] (by kernel_rfl) (by kernel_rfl) (by rw [sz]; kernel_rfl) (by kernel_rfl) ⟨fun hw ac u K => ?_, fun hw ac u K => ?_, fun hw ac u K => ?_, fun hw ac u K => ?_, fun hw ac u K => ?_, fun hw ac u K => ?_, fun hw ac u K => ?_, fun hw ac u K => ?_, trivial⟩ ?_
  · exact st_move (.tmp 1) rfl ((K.old 1 rfl).trans x1)
  · exact st_lss 3 (.tmp 6) (.const (.int .i64 0)) rfl .i64 (((m : Nat) : Int)) (0) (K.dep 0 6 rfl) rfl _ (by rw [eq_comm, decide_eq_false_iff_not]; omega)
  · exact st_move (.tmp 7) rfl (K.dep 1 7 rfl)
  · exact st_move (.tmp 1) rfl ((K.old 1 rfl).trans x1)
  · exact st_move (.tmp 0) rfl ((K.old 0 rfl).trans x0)
  · exact st_lenc (.tmp 10) rfl ((l).length) rfl (fk_val (K.dep 4 10 rfl) (Fk.mono _ _ _ _ hv (bl.trans (Below.mono K.grow bl.size))))
  · exact st_gtr 3 (.tmp 9) (.tmp 11) rfl .i64 (((m : Nat) : Int)) ((((l).length : Nat) : Int)) (K.dep 3 9 rfl) (K.dep 5 11 rfl) _ (by rw [eq_comm, decide_eq_false_iff_not]; omega)
  · exact st_pick_f' (.tmp 8) (.const (.bool true)) (.tmp 12) rfl (K.dep 2 8 rfl) (K.dep 6 12 rfl)
  intro f4 w4 A hb
  replace bl0 := bl
  replace x0 := (A.old 0 rfl).trans x0
  replace x1 := (A.old 1 rfl).trans x1
  replace x4 := (A.old 4 rfl).trans x4
  replace x5 := (A.old 5 rfl).trans x5
  have x13 : f4.eval (.tmp 13) = .bool false := A.has 7 13 rfl
  replace bl := (bl.trans (Below.mono hb bl.size))
  replace sz := A.size.trans sz
  replace df := A.defs.trans df
  clear A hb
  show Code.wp _ _ _ _ _
  refine wp_cond_false x13 ?_
  refine wp_skip ?_
  show Code.wp _ _ _ _ _
  refine wp_seq ?_
  refine wp_seq ?_
  refine wp_all_seq [.eq (.int .i64 ((m : Nat) : Int)), .eq (.bool false)] (by kernel_rfl) (by kernel_rfl) (by rw [sz]; kernel_rfl) (by kernel_rfl) ⟨fun hw ac u K => ?_, fun hw ac u K => ?_, trivial⟩ ?_
  · exact st_move (.tmp 1) rfl ((K.old 1 rfl).trans x1)
  · exact st_eqi 3 (.tmp 14) (.const (.int .i64 0)) rfl .i64 (((m : Nat) : Int)) (0) (K.dep 0 14 rfl) rfl _ (by rw [eq_comm, decide_eq_false_iff_not]; omega)
  intro f5 w5 A hb
  replace bl0 := bl
  replace x0 := (A.old 0 rfl).trans x0
  replace x1 := (A.old 1 rfl).trans x1
  replace x4 := (A.old 4 rfl).trans x4
  replace x5 := (A.old 5 rfl).trans x5
  replace x13 := (A.old 13 rfl).trans x13
  have x15 : f5.eval (.tmp 15) = .bool false := A.has 1 15 rfl
  replace bl := (bl.trans (Below.mono hb bl.size))
  replace sz := A.size.trans sz
  replace df := A.defs.trans df
  clear A hb
  show Code.wp _ _ _ _ _
  refine wp_cond_false x15 ?_
  refine wp_skip ?_
  show Code.wp _ _ _ _ _
  refine wp_seq ?_
  refine wp_all_seq [.eq (v), .eq (.int .i64 ((m : Nat) : Int)), .ow w.heap.size (msub l m true), .ow w.heap.size (msub l m true), .eq (.int .i64 0)] (by kernel_rfl) (by kernel_rfl) (by rw [sz]; kernel_rfl) (by kernel_rfl) ⟨fun hw ac u K => ?_, fun hw ac u K => ?_, fun hw ac u K => ?_, fun hw ac u K => ?_, fun hw ac u K => ?_, trivial⟩ ?_
  · exact st_move (.tmp 0) rfl ((K.old 0 rfl).trans x0)
  · exact st_move (.tmp 1) rfl ((K.old 1 rfl).trans x1)
  · exact st_call 40 (.func 40) _ _ #[v, .int .i64 ((m : Nat) : Int), .bool true] rfl rfl (arg3 (K.dep 0 16 rfl) (K.dep 1 17 rfl) rfl) Tryd.enter40 (fk_ow (bl.trans (Below.mono K.grow bl.size)).size (going_any l m true hm1 hm _ _ h1000 (Fk.mono _ _ _ _ hv (bl.trans (Below.mono K.grow bl.size))) (hK.below (bl.trans (Below.mono K.grow bl.size)))))
  · exact st_assign (.tmp 18) rfl (K.dep 2 18 rfl)
  · exact st_assign (.const (.int .i64 0)) rfl rfl
  intro f6 w6 A hb
  replace bl0 := bl
  replace x0 := (A.old 0 rfl).trans x0
  replace x1 := (A.old 1 rfl).trans x1
  clear x4
  clear x5
  replace x13 := (A.old 13 rfl).trans x13
  replace x15 := (A.old 15 rfl).trans x15
  have x4 : Fk.f (.ow w.heap.size (msub l m true)) (f6.eval (.tmp 4)) w6 := A.has 3 4 rfl
  have x5 : f6.eval (.tmp 5) = .int .i64 0 := A.has 4 5 rfl
  replace bl := (bl.trans (Below.mono hb bl.size))
  replace sz := A.size.trans sz
  replace df := A.defs.trans df
  clear A hb
  show Code.wp _ _ _ _ _
  refine wp_ret ?_
  repeat (first | with_reducible refine then_ret ?_ | with_reducible refine block_ret ?_)
  exact bodyPost_ret (v := .tuple #[f6.eval (.tmp 4), .int .i64 0]) (ret_two rfl f6 _ _ rfl x5 _ _) df ⟨_, rfl, ⟨_, rfl, x4⟩, bl⟩
end Go.Proofs.YtfmeeimhfdnjpaaDoor
