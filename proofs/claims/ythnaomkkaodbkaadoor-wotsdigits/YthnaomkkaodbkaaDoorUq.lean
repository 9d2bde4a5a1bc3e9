/- Made by gen_uq.py. The walk of WotsDigits. -/
import Derived.Test.YthnaomkkaodbkaaDoorUt
namespace Go.Proofs.YthnaomkkaodbkaaDoor
open Go.RowKit
set_option maxHeartbeats 1000000 in
theorem digits_law (xa xb : List (BitVec 8)) (w : World) (hx : xa.length = 32) (hy : xb.length = 32) (hK : Tab w) :
    Calls Tryd.prog 3 #[.agg (xa.map V).toArray, .agg (xb.map V).toArray] w fun e w' => e = .returned (.bool true) ∧ Below w.heap.size w w' := by
  go_enter Tryd.func3, Tryd.ntmps3
  go_upto_region 1 with fail
  rename_i KK hKK
  refine code_both (fun f w1 => f.tmps.size = 95 ∧ f.defers = [] ∧ Fk.f (.eq (.pointer (some ⟨w.heap.size, 0, none⟩))) (f.eval (.tmp 2)) w1 ∧ Fk.f (.eq (.pointer (some ⟨w.heap.size + 1, 0, none⟩))) (f.eval (.tmp 3)) w1 ∧ HasV w1 w.heap.size 23 xa ∧ HasV w1 (w.heap.size + 1) 23 xb ∧ Below w.heap.size w w1) ?_ ?_
  · exact ⟨rfl, rfl, rfl, rfl, heap_alloc2_old _ _ _, heap_alloc2_new _ _ _, ((Below.refl _ _).alloc (Nat.le_refl _) _).alloc (by simp) _⟩
  rintro f0 w0 ⟨sz, df, x2, x3, m2, m3, bl⟩
  have tb := hK.below bl
  obtain ⟨g3, hg3⟩ : ∃ g3, g3 = w.heap.size + 1 := ⟨_, rfl⟩
  rw [← hg3] at x3 m3
  obtain ⟨g2, hg2⟩ : ∃ g2, g2 = w.heap.size := ⟨_, rfl⟩
  rw [← hg2] at x2 m2
  have hda := dig_len xa
  have hdb := dig_len xb
  refine wp_all [.eq (.agg ((xa).map V).toArray), .ds (dig (xa)), .eq (.agg ((xb).map V).toArray), .ds (dig (xb)), .ds (dig (xa)), .ds (dig (xb))] Tryd.mixed (by kernel_rfl) (by kernel_rfl) (by rw [sz]; kernel_rfl) (by kernel_rfl) ⟨fun hw ac w' K => ?_, fun hw ac w' K => ?_, fun hw ac w' K => ?_, fun hw ac w' K => ?_, fun hw ac w' K => ?_, fun hw ac w' K => ?_, trivial⟩ ?_
  · exact st_load23 (.tmp 2) rfl _ (xa) ((K.old 2 rfl).trans x2) hx (HasV.below m2 K.grow (HasV.lt m2))
  · exact st_call 8 (.func 8) _ _ #[.agg ((xa).map V).toArray] rfl rfl (one_arg (K.dep 0 11 rfl)) Tryd.enter8 (fk_digits hx)
  · exact st_load23 (.tmp 3) rfl _ (xb) ((K.old 3 rfl).trans x3) hy (HasV.below m3 K.grow (HasV.lt m3))
  · exact st_call 8 (.func 8) _ _ #[.agg ((xb).map V).toArray] rfl rfl (one_arg (K.dep 2 13 rfl)) Tryd.enter8 (fk_digits hy)
  · exact st_assign (.tmp 12) rfl (K.dep 1 12 rfl)
  · exact st_assign (.tmp 14) rfl (K.dep 3 14 rfl)
  intro f1 w1 A hb
  replace x2 : Fk.f (.eq (.pointer (some ⟨g2, 0, none⟩))) (f1.eval (.tmp 2)) w1 := f_at (A.old 2 rfl) (Fk.mono _ _ _ _ x2 hb)
  replace x3 : Fk.f (.eq (.pointer (some ⟨g3, 0, none⟩))) (f1.eval (.tmp 3)) w1 := f_at (A.old 3 rfl) (Fk.mono _ _ _ _ x3 hb)
  have x5 : Fk.f (.ds (dig (xa))) (f1.eval (.tmp 5)) w1 := A.has 4 5 rfl
  have x6 : Fk.f (.ds (dig (xb))) (f1.eval (.tmp 6)) w1 := A.has 5 6 rfl
  replace m2 := HasV.below m2 hb (HasV.lt m2)
  replace m3 := HasV.below m3 hb (HasV.lt m3)
  replace tb := tb.below hb
  replace bl := bl.trans (Below.mono hb bl.size)
  replace sz := A.size.trans sz
  replace df := A.defs.trans df
  clear A hb
  refine hKK _ _ ?_
  refine wp_seq ?_
  refine wp_all_seq [.eq (.agg ((xa).map V).toArray), .ds (dig (xa)), .ds (dig (xa))] (by kernel_rfl) (by kernel_rfl) (by rw [sz]; kernel_rfl) (by kernel_rfl) ⟨fun hw ac w' K => ?_, fun hw ac w' K => ?_, fun hw ac w' K => ?_, trivial⟩ ?_
  · exact st_load23 (.tmp 2) rfl _ (xa) ((K.old 2 rfl).trans x2) hx (HasV.below m2 K.grow (HasV.lt m2))
  · exact st_call 9 (.func 9) _ _ #[.agg ((xa).map V).toArray] rfl rfl (one_arg (K.dep 0 15 rfl)) Tryd.enter9 (fk_ref hx)
  · exact st_assign (.tmp 16) rfl (K.dep 1 16 rfl)
  intro f2 w2 A hb
  replace x2 : Fk.f (.eq (.pointer (some ⟨g2, 0, none⟩))) (f2.eval (.tmp 2)) w2 := f_at (A.old 2 rfl) (Fk.mono _ _ _ _ x2 hb)
  replace x3 : Fk.f (.eq (.pointer (some ⟨g3, 0, none⟩))) (f2.eval (.tmp 3)) w2 := f_at (A.old 3 rfl) (Fk.mono _ _ _ _ x3 hb)
  replace x5 : Fk.f (.ds (dig (xa))) (f2.eval (.tmp 5)) w2 := f_at (A.old 5 rfl) (Fk.mono _ _ _ _ x5 hb)
  replace x6 : Fk.f (.ds (dig (xb))) (f2.eval (.tmp 6)) w2 := f_at (A.old 6 rfl) (Fk.mono _ _ _ _ x6 hb)
  have x7 : Fk.f (.ds (dig (xa))) (f2.eval (.tmp 7)) w2 := A.has 2 7 rfl
  replace m2 := HasV.below m2 hb (HasV.lt m2)
  replace m3 := HasV.below m3 hb (HasV.lt m3)
  replace tb := tb.below hb
  replace bl := bl.trans (Below.mono hb bl.size)
  replace sz := A.size.trans sz
  replace df := A.defs.trans df
  clear A hb
  show Code.wp _ _ _ _ _
  refine wp_seq ?_
  refine wp_seq ?_
  refine wp_all_seq [.ds (dig (xa)), .eq (.int .i64 (((dig (xa)).length : Nat) : Int)), .eq (.bool false), .eq (.bool false), .ds (dig (xb)), .eq (.int .i64 (((dig (xb)).length : Nat) : Int)), .eq (.bool false), .eq (.bool false)] (by kernel_rfl) (by kernel_rfl) (by rw [sz]; kernel_rfl) (by kernel_rfl) ⟨fun hw ac w' K => ?_, fun hw ac w' K => ?_, fun hw ac w' K => ?_, fun hw ac w' K => ?_, fun hw ac w' K => ?_, fun hw ac w' K => ?_, fun hw ac w' K => ?_, fun hw ac w' K => ?_, trivial⟩ ?_
  · exact st_move (.tmp 5) rfl (f_at (K.old 5 rfl) (Fk.mono _ _ _ _ x5 K.grow))
  · exact st_leni (.tmp 17) rfl (K.dep 0 17 rfl)
  · exact st_neqi 3 (.tmp 18) (.const (.int .i64 67)) rfl .i64 ((((dig (xa)).length : Nat) : Int)) (67) (K.dep 1 18 rfl) rfl _ (by rw [hda]; rfl)
  · exact st_move (.tmp 19) rfl (K.dep 2 19 rfl)
  · exact st_move (.tmp 6) rfl (f_at (K.old 6 rfl) (Fk.mono _ _ _ _ x6 K.grow))
  · exact st_leni (.tmp 21) rfl (K.dep 4 21 rfl)
  · exact st_neqi 3 (.tmp 22) (.const (.int .i64 67)) rfl .i64 ((((dig (xb)).length : Nat) : Int)) (67) (K.dep 5 22 rfl) rfl _ (by rw [hdb]; rfl)
  · exact st_pick_f (.tmp 20) (.const (.bool true)) (.tmp 23) rfl (K.dep 3 20 rfl) (K.dep 6 23 rfl)
  intro f3 w3 A hb
  replace x2 : Fk.f (.eq (.pointer (some ⟨g2, 0, none⟩))) (f3.eval (.tmp 2)) w3 := f_at (A.old 2 rfl) (Fk.mono _ _ _ _ x2 hb)
  replace x3 : Fk.f (.eq (.pointer (some ⟨g3, 0, none⟩))) (f3.eval (.tmp 3)) w3 := f_at (A.old 3 rfl) (Fk.mono _ _ _ _ x3 hb)
  replace x5 : Fk.f (.ds (dig (xa))) (f3.eval (.tmp 5)) w3 := f_at (A.old 5 rfl) (Fk.mono _ _ _ _ x5 hb)
  replace x6 : Fk.f (.ds (dig (xb))) (f3.eval (.tmp 6)) w3 := f_at (A.old 6 rfl) (Fk.mono _ _ _ _ x6 hb)
  replace x7 : Fk.f (.ds (dig (xa))) (f3.eval (.tmp 7)) w3 := f_at (A.old 7 rfl) (Fk.mono _ _ _ _ x7 hb)
  have x24 : Fk.f (.eq (.bool false)) (f3.eval (.tmp 24)) w3 := A.has 7 24 rfl
  replace m2 := HasV.below m2 hb (HasV.lt m2)
  replace m3 := HasV.below m3 hb (HasV.lt m3)
  replace tb := tb.below hb
  replace bl := bl.trans (Below.mono hb bl.size)
  replace sz := A.size.trans sz
  replace df := A.defs.trans df
  clear A hb
  show Code.wp _ _ _ _ _
  refine wp_cond_false x24 ?_
  refine wp_skip ?_
  show Code.wp _ _ _ _ _
  clear x24
  refine wp_seq ?_
  refine wp_all_seq [.eq (.bool false), .eq (.bool false)] (by kernel_rfl) (by kernel_rfl) (by rw [sz]; kernel_rfl) (by kernel_rfl) ⟨fun hw ac w' K => ?_, fun hw ac w' K => ?_, trivial⟩ ?_
  · exact st_assign (.const (.bool false)) rfl rfl
  · exact st_assign (.const (.bool false)) rfl rfl
  intro f4 w4 A hb
  replace x2 : Fk.f (.eq (.pointer (some ⟨g2, 0, none⟩))) (f4.eval (.tmp 2)) w4 := f_at (A.old 2 rfl) (Fk.mono _ _ _ _ x2 hb)
  replace x3 : Fk.f (.eq (.pointer (some ⟨g3, 0, none⟩))) (f4.eval (.tmp 3)) w4 := f_at (A.old 3 rfl) (Fk.mono _ _ _ _ x3 hb)
  replace x5 : Fk.f (.ds (dig (xa))) (f4.eval (.tmp 5)) w4 := f_at (A.old 5 rfl) (Fk.mono _ _ _ _ x5 hb)
  replace x6 : Fk.f (.ds (dig (xb))) (f4.eval (.tmp 6)) w4 := f_at (A.old 6 rfl) (Fk.mono _ _ _ _ x6 hb)
  replace x7 : Fk.f (.ds (dig (xa))) (f4.eval (.tmp 7)) w4 := f_at (A.old 7 rfl) (Fk.mono _ _ _ _ x7 hb)
  have x8 : Fk.f (.eq (.bool false)) (f4.eval (.tmp 8)) w4 := A.has 0 8 rfl
  have x9 : Fk.f (.eq (.bool false)) (f4.eval (.tmp 9)) w4 := A.has 1 9 rfl
  replace m2 := HasV.below m2 hb (HasV.lt m2)
  replace m3 := HasV.below m3 hb (HasV.lt m3)
  replace tb := tb.below hb
  replace bl := bl.trans (Below.mono hb bl.size)
  replace sz := A.size.trans sz
  replace df := A.defs.trans df
  clear A hb
  show Code.wp _ _ _ _ _
  refine wp_seq ?_
  refine wp_seq ?_
  refine wp_all_seq [.ds (dig (xa)), .eq (.int .i64 (((dig (xa)).length : Nat) : Int)), .eq (.int .i64 0)] (by kernel_rfl) (by kernel_rfl) (by rw [sz]; kernel_rfl) (by kernel_rfl) ⟨fun hw ac w' K => ?_, fun hw ac w' K => ?_, fun hw ac w' K => ?_, trivial⟩ ?_
  · exact st_move (.tmp 5) rfl (f_at (K.old 5 rfl) (Fk.mono _ _ _ _ x5 K.grow))
  · exact st_leni (.tmp 25) rfl (K.dep 0 25 rfl)
  · exact st_move (.const (.int .i64 0)) rfl rfl
  intro f5 w5 A hb
  replace x2 : Fk.f (.eq (.pointer (some ⟨g2, 0, none⟩))) (f5.eval (.tmp 2)) w5 := f_at (A.old 2 rfl) (Fk.mono _ _ _ _ x2 hb)
  replace x3 : Fk.f (.eq (.pointer (some ⟨g3, 0, none⟩))) (f5.eval (.tmp 3)) w5 := f_at (A.old 3 rfl) (Fk.mono _ _ _ _ x3 hb)
  replace x5 : Fk.f (.ds (dig (xa))) (f5.eval (.tmp 5)) w5 := f_at (A.old 5 rfl) (Fk.mono _ _ _ _ x5 hb)
  replace x6 : Fk.f (.ds (dig (xb))) (f5.eval (.tmp 6)) w5 := f_at (A.old 6 rfl) (Fk.mono _ _ _ _ x6 hb)
  replace x7 : Fk.f (.ds (dig (xa))) (f5.eval (.tmp 7)) w5 := f_at (A.old 7 rfl) (Fk.mono _ _ _ _ x7 hb)
  replace x8 : Fk.f (.eq (.bool false)) (f5.eval (.tmp 8)) w5 := f_at (A.old 8 rfl) (Fk.mono _ _ _ _ x8 hb)
  replace x9 : Fk.f (.eq (.bool false)) (f5.eval (.tmp 9)) w5 := f_at (A.old 9 rfl) (Fk.mono _ _ _ _ x9 hb)
  have x26 : Fk.f (.eq (.int .i64 (((dig (xa)).length : Nat) : Int))) (f5.eval (.tmp 26)) w5 := A.has 1 26 rfl
  have x27 : Fk.f (.eq (.int .i64 0)) (f5.eval (.tmp 27)) w5 := A.has 2 27 rfl
  replace m2 := HasV.below m2 hb (HasV.lt m2)
  replace m3 := HasV.below m3 hb (HasV.lt m3)
  replace tb := tb.below hb
  replace bl := bl.trans (Below.mono hb bl.size)
  replace sz := A.size.trans sz
  replace df := A.defs.trans df
  clear A hb
  show Code.wp _ _ _ _ _
  refine wp_block ?_
  have xL2 := x2
  have xL3 := x3
  have xL5 := x5
  have xL6 := x6
  have xL7 := x7
  have xL26 := x26
  have Lm2 := m2
  have Lm3 := m3
  have tbL := tb
  have blL := bl
  refine wp_loop (fun f v1 => ∃ k : Nat, k ≤ 67 ∧ f.tmps.size = 95 ∧ f.defers = [] ∧ f.eval (.tmp 2) = f5.eval (.tmp 2) ∧ f.eval (.tmp 3) = f5.eval (.tmp 3) ∧ f.eval (.tmp 5) = f5.eval (.tmp 5) ∧ f.eval (.tmp 6) = f5.eval (.tmp 6) ∧ f.eval (.tmp 7) = f5.eval (.tmp 7) ∧ f.eval (.tmp 26) = f5.eval (.tmp 26) ∧ Fk.f (.eq (.int .i64 ((k : Nat) : Int))) (f.eval (.tmp 27)) v1 ∧ Fk.f (.eq (.bool (lessB xa xb k))) (f.eval (.tmp 8)) v1 ∧ Fk.f (.eq (.bool (lessB xb xa k))) (f.eval (.tmp 9)) v1 ∧ Below w5.heap.size w5 v1) (fun f _ => 67 - (intOf (f.eval (.tmp 27))).toNat) ⟨0, by omega, sz, df, rfl, rfl, rfl, rfl, rfl, rfl, x27, x8, x9, Below.refl _ _⟩ ?_
  intro f6 w6 hI
  clear sz df x27 tb bl x8 x9 x2 x3 x5 x6 x7 x26 m2 m3
  obtain ⟨k, hk, sz, df, a2, a3, a5, a6, a7, a26, x27, x8, x9, hL⟩ := hI
  have c27 := x27
  have x2 : Fk.f (.eq (.pointer (some ⟨g2, 0, none⟩))) (f6.eval (.tmp 2)) w6 := f_at a2 (Fk.mono _ _ _ _ xL2 hL)
  have x3 : Fk.f (.eq (.pointer (some ⟨g3, 0, none⟩))) (f6.eval (.tmp 3)) w6 := f_at a3 (Fk.mono _ _ _ _ xL3 hL)
  have x5 : Fk.f (.ds (dig (xa))) (f6.eval (.tmp 5)) w6 := f_at a5 (Fk.mono _ _ _ _ xL5 hL)
  have x6 : Fk.f (.ds (dig (xb))) (f6.eval (.tmp 6)) w6 := f_at a6 (Fk.mono _ _ _ _ xL6 hL)
  have x7 : Fk.f (.ds (dig (xa))) (f6.eval (.tmp 7)) w6 := f_at a7 (Fk.mono _ _ _ _ xL7 hL)
  have x26 : Fk.f (.eq (.int .i64 (((dig (xa)).length : Nat) : Int))) (f6.eval (.tmp 26)) w6 := f_at a26 (Fk.mono _ _ _ _ xL26 hL)
  have m2 := HasV.below Lm2 hL (HasV.lt Lm2)
  have m3 := HasV.below Lm3 hL (HasV.lt Lm3)
  have tb := tbL.below hL
  by_cases hlt : k < 67
  · obtain ⟨d, ed⟩ : ∃ d, (dig xa)[k]? = some d := ⟨_, dg_at xa k hlt⟩
    have hd15 := dig_le xa k d ed
    have edg : dg xa k = d := by unfold dg; simp [ed]
    obtain ⟨e, ee⟩ : ∃ e, (dig xb)[k]? = some e := ⟨_, dg_at xb k hlt⟩
    have eeg : dg xb k = e := by unfold dg; simp [ee]
    refine wp_seq ?_
    refine wp_all_seq [.eq (.bool true)] (by kernel_rfl) (by kernel_rfl) (by rw [sz]; kernel_rfl) (by kernel_rfl) ⟨fun hw ac w' K => ?_, trivial⟩ ?_
    · exact st_lss 3 (.tmp 27) (.tmp 26) rfl .i64 (((k : Nat) : Int)) ((((dig (xa)).length : Nat) : Int)) ((K.old 27 rfl).trans x27) ((K.old 26 rfl).trans x26) _ (by rw [hda]; simp; omega)
    intro f7 w7 A hb
    replace x2 : Fk.f (.eq (.pointer (some ⟨g2, 0, none⟩))) (f7.eval (.tmp 2)) w7 := f_at (A.old 2 rfl) (Fk.mono _ _ _ _ x2 hb)
    replace x3 : Fk.f (.eq (.pointer (some ⟨g3, 0, none⟩))) (f7.eval (.tmp 3)) w7 := f_at (A.old 3 rfl) (Fk.mono _ _ _ _ x3 hb)
    replace x5 : Fk.f (.ds (dig (xa))) (f7.eval (.tmp 5)) w7 := f_at (A.old 5 rfl) (Fk.mono _ _ _ _ x5 hb)
    replace x6 : Fk.f (.ds (dig (xb))) (f7.eval (.tmp 6)) w7 := f_at (A.old 6 rfl) (Fk.mono _ _ _ _ x6 hb)
    replace x7 : Fk.f (.ds (dig (xa))) (f7.eval (.tmp 7)) w7 := f_at (A.old 7 rfl) (Fk.mono _ _ _ _ x7 hb)
    replace x8 : Fk.f (.eq (.bool (lessB xa xb k))) (f7.eval (.tmp 8)) w7 := f_at (A.old 8 rfl) (Fk.mono _ _ _ _ x8 hb)
    replace x9 : Fk.f (.eq (.bool (lessB xb xa k))) (f7.eval (.tmp 9)) w7 := f_at (A.old 9 rfl) (Fk.mono _ _ _ _ x9 hb)
    replace x26 : Fk.f (.eq (.int .i64 (((dig (xa)).length : Nat) : Int))) (f7.eval (.tmp 26)) w7 := f_at (A.old 26 rfl) (Fk.mono _ _ _ _ x26 hb)
    replace x27 : Fk.f (.eq (.int .i64 ((k : Nat) : Int))) (f7.eval (.tmp 27)) w7 := f_at (A.old 27 rfl) (Fk.mono _ _ _ _ x27 hb)
    have x28 : Fk.f (.eq (.bool true)) (f7.eval (.tmp 28)) w7 := A.has 0 28 rfl
    replace m2 := HasV.below m2 hb (HasV.lt m2)
    replace m3 := HasV.below m3 hb (HasV.lt m3)
    replace tb := tb.below hb
    replace sz := A.size.trans sz
    replace df := A.defs.trans df
    replace a2 := (A.old 2 rfl).trans a2
    replace a3 := (A.old 3 rfl).trans a3
    replace a5 := (A.old 5 rfl).trans a5
    replace a6 := (A.old 6 rfl).trans a6
    replace a7 := (A.old 7 rfl).trans a7
    replace a26 := (A.old 26 rfl).trans a26
    replace hL := hL.trans (Below.mono hb hL.size)
    clear A hb
    show Code.wp _ _ _ _ _
    refine wp_seq ?_
    refine wp_cond_true x28 ?_
    refine wp_skip ?_
    show Code.wp _ _ _ _ _
    clear x28
    refine wp_seq ?_
    refine wp_block ?_
    refine wp_seq ?_
    refine wp_all_seq [.eq (.int .i64 ((k : Nat) : Int)), .eq (.int .i64 ((k : Nat) : Int))] (by kernel_rfl) (by kernel_rfl) (by rw [sz]; kernel_rfl) (by kernel_rfl) ⟨fun hw ac w' K => ?_, fun hw ac w' K => ?_, trivial⟩ ?_
    · exact st_move (.tmp 27) rfl ((K.old 27 rfl).trans x27)
    · exact st_assign (.tmp 29) rfl (K.dep 0 29 rfl)
    intro f8 w8 A hb
    replace x2 : Fk.f (.eq (.pointer (some ⟨g2, 0, none⟩))) (f8.eval (.tmp 2)) w8 := f_at (A.old 2 rfl) (Fk.mono _ _ _ _ x2 hb)
    replace x3 : Fk.f (.eq (.pointer (some ⟨g3, 0, none⟩))) (f8.eval (.tmp 3)) w8 := f_at (A.old 3 rfl) (Fk.mono _ _ _ _ x3 hb)
    replace x5 : Fk.f (.ds (dig (xa))) (f8.eval (.tmp 5)) w8 := f_at (A.old 5 rfl) (Fk.mono _ _ _ _ x5 hb)
    replace x6 : Fk.f (.ds (dig (xb))) (f8.eval (.tmp 6)) w8 := f_at (A.old 6 rfl) (Fk.mono _ _ _ _ x6 hb)
    replace x7 : Fk.f (.ds (dig (xa))) (f8.eval (.tmp 7)) w8 := f_at (A.old 7 rfl) (Fk.mono _ _ _ _ x7 hb)
    replace x8 : Fk.f (.eq (.bool (lessB xa xb k))) (f8.eval (.tmp 8)) w8 := f_at (A.old 8 rfl) (Fk.mono _ _ _ _ x8 hb)
    replace x9 : Fk.f (.eq (.bool (lessB xb xa k))) (f8.eval (.tmp 9)) w8 := f_at (A.old 9 rfl) (Fk.mono _ _ _ _ x9 hb)
    replace x26 : Fk.f (.eq (.int .i64 (((dig (xa)).length : Nat) : Int))) (f8.eval (.tmp 26)) w8 := f_at (A.old 26 rfl) (Fk.mono _ _ _ _ x26 hb)
    replace x27 : Fk.f (.eq (.int .i64 ((k : Nat) : Int))) (f8.eval (.tmp 27)) w8 := f_at (A.old 27 rfl) (Fk.mono _ _ _ _ x27 hb)
    have x10 : Fk.f (.eq (.int .i64 ((k : Nat) : Int))) (f8.eval (.tmp 10)) w8 := A.has 1 10 rfl
    replace m2 := HasV.below m2 hb (HasV.lt m2)
    replace m3 := HasV.below m3 hb (HasV.lt m3)
    replace tb := tb.below hb
    replace sz := A.size.trans sz
    replace df := A.defs.trans df
    replace a2 := (A.old 2 rfl).trans a2
    replace a3 := (A.old 3 rfl).trans a3
    replace a5 := (A.old 5 rfl).trans a5
    replace a6 := (A.old 6 rfl).trans a6
    replace a7 := (A.old 7 rfl).trans a7
    replace a26 := (A.old 26 rfl).trans a26
    replace hL := hL.trans (Below.mono hb hL.size)
    clear A hb
    show Code.wp _ _ _ _ _
    refine wp_seq ?_
    refine wp_seq ?_
    refine wp_all [.ds (dig (xa)), .eq (.int .i64 ((k : Nat) : Int)), .pi ((d : Nat) : Int), .eq (.int .i64 ((d : Nat) : Int)), .ds (dig (xa)), .eq (.int .i64 ((k : Nat) : Int)), .pi ((d : Nat) : Int), .eq (.int .i64 ((d : Nat) : Int)), .eq (.bool false), .eq (.bool false), .ds (dig (xa)), .eq (.int .i64 ((k : Nat) : Int)), .pi ((d : Nat) : Int), .eq (.int .i64 ((d : Nat) : Int)), .eq (.bool false), .eq (.bool false), .eq (.bool false), .ds (dig (xa)), .eq (.int .i64 ((k : Nat) : Int)), .pi ((d : Nat) : Int), .eq (.int .i64 ((d : Nat) : Int)), .eq (.bool false), .eq (.bool false)] Tryd.mixed (by kernel_rfl) (by kernel_rfl) (by rw [sz]; kernel_rfl) (by kernel_rfl) ⟨fun hw ac w' K => ?_, fun hw ac w' K => ?_, fun hw ac w' K => ?_, fun hw ac w' K => ?_, fun hw ac w' K => ?_, fun hw ac w' K => ?_, fun hw ac w' K => ?_, fun hw ac w' K => ?_, fun hw ac w' K => ?_, fun hw ac w' K => ?_, fun hw ac w' K => ?_, fun hw ac w' K => ?_, fun hw ac w' K => ?_, fun hw ac w' K => ?_, fun hw ac w' K => ?_, fun hw ac w' K => ?_, fun hw ac w' K => ?_, fun hw ac w' K => ?_, fun hw ac w' K => ?_, fun hw ac w' K => ?_, fun hw ac w' K => ?_, fun hw ac w' K => ?_, fun hw ac w' K => ?_, trivial⟩ ?_
    · exact st_move (.tmp 5) rfl (f_at (K.old 5 rfl) (Fk.mono _ _ _ _ x5 K.grow))
    · exact st_move (.tmp 10) rfl ((K.old 10 rfl).trans x10)
    · exact st_idxi (.tmp 30) (.tmp 31) rfl (K.dep 0 30 rfl) (k) (d) (K.dep 1 31 rfl) ed
    · exact st_loadi (.tmp 32) rfl (K.dep 2 32 rfl)
    · exact st_move (.tmp 7) rfl (f_at (K.old 7 rfl) (Fk.mono _ _ _ _ x7 K.grow))
    · exact st_move (.tmp 10) rfl ((K.old 10 rfl).trans x10)
    · exact st_idxi (.tmp 34) (.tmp 35) rfl (K.dep 4 34 rfl) (k) (d) (K.dep 5 35 rfl) ed
    · exact st_loadi (.tmp 36) rfl (K.dep 6 36 rfl)
    · exact st_neqi 3 (.tmp 33) (.tmp 37) rfl .i64 (((d : Nat) : Int)) (((d : Nat) : Int)) (K.dep 3 33 rfl) (K.dep 7 37 rfl) _ (by simp)
    · exact st_move (.tmp 38) rfl (K.dep 8 38 rfl)
    · exact st_move (.tmp 5) rfl (f_at (K.old 5 rfl) (Fk.mono _ _ _ _ x5 K.grow))
    · exact st_move (.tmp 10) rfl ((K.old 10 rfl).trans x10)
    · exact st_idxi (.tmp 40) (.tmp 41) rfl (K.dep 10 40 rfl) (k) (d) (K.dep 11 41 rfl) ed
    · exact st_loadi (.tmp 42) rfl (K.dep 12 42 rfl)
    · exact st_lss 3 (.tmp 43) (.const (.int .i64 0)) rfl .i64 (((d : Nat) : Int)) (0) (K.dep 13 43 rfl) rfl _ (by simp)
    · exact st_pick_f (.tmp 39) (.const (.bool true)) (.tmp 44) rfl (K.dep 9 39 rfl) (K.dep 14 44 rfl)
    · exact st_move (.tmp 45) rfl (K.dep 15 45 rfl)
    · exact st_move (.tmp 5) rfl (f_at (K.old 5 rfl) (Fk.mono _ _ _ _ x5 K.grow))
    · exact st_move (.tmp 10) rfl ((K.old 10 rfl).trans x10)
    · exact st_idxi (.tmp 47) (.tmp 48) rfl (K.dep 17 47 rfl) (k) (d) (K.dep 18 48 rfl) ed
    · exact st_loadi (.tmp 49) rfl (K.dep 19 49 rfl)
    · exact st_gtr 3 (.tmp 50) (.const (.int .i64 15)) rfl .i64 (((d : Nat) : Int)) (15) (K.dep 20 50 rfl) rfl _ (by simp; omega)
    · exact st_pick_f (.tmp 46) (.const (.bool true)) (.tmp 51) rfl (K.dep 16 46 rfl) (K.dep 21 51 rfl)
    intro f9 w9 A hb
    replace x2 : Fk.f (.eq (.pointer (some ⟨g2, 0, none⟩))) (f9.eval (.tmp 2)) w9 := f_at (A.old 2 rfl) (Fk.mono _ _ _ _ x2 hb)
    replace x3 : Fk.f (.eq (.pointer (some ⟨g3, 0, none⟩))) (f9.eval (.tmp 3)) w9 := f_at (A.old 3 rfl) (Fk.mono _ _ _ _ x3 hb)
    replace x5 : Fk.f (.ds (dig (xa))) (f9.eval (.tmp 5)) w9 := f_at (A.old 5 rfl) (Fk.mono _ _ _ _ x5 hb)
    replace x6 : Fk.f (.ds (dig (xb))) (f9.eval (.tmp 6)) w9 := f_at (A.old 6 rfl) (Fk.mono _ _ _ _ x6 hb)
    replace x7 : Fk.f (.ds (dig (xa))) (f9.eval (.tmp 7)) w9 := f_at (A.old 7 rfl) (Fk.mono _ _ _ _ x7 hb)
    replace x8 : Fk.f (.eq (.bool (lessB xa xb k))) (f9.eval (.tmp 8)) w9 := f_at (A.old 8 rfl) (Fk.mono _ _ _ _ x8 hb)
    replace x9 : Fk.f (.eq (.bool (lessB xb xa k))) (f9.eval (.tmp 9)) w9 := f_at (A.old 9 rfl) (Fk.mono _ _ _ _ x9 hb)
    replace x26 : Fk.f (.eq (.int .i64 (((dig (xa)).length : Nat) : Int))) (f9.eval (.tmp 26)) w9 := f_at (A.old 26 rfl) (Fk.mono _ _ _ _ x26 hb)
    replace x27 : Fk.f (.eq (.int .i64 ((k : Nat) : Int))) (f9.eval (.tmp 27)) w9 := f_at (A.old 27 rfl) (Fk.mono _ _ _ _ x27 hb)
    replace x10 : Fk.f (.eq (.int .i64 ((k : Nat) : Int))) (f9.eval (.tmp 10)) w9 := f_at (A.old 10 rfl) (Fk.mono _ _ _ _ x10 hb)
    have x52 : Fk.f (.eq (.bool false)) (f9.eval (.tmp 52)) w9 := A.has 22 52 rfl
    replace m2 := HasV.below m2 hb (HasV.lt m2)
    replace m3 := HasV.below m3 hb (HasV.lt m3)
    replace tb := tb.below hb
    replace sz := A.size.trans sz
    replace df := A.defs.trans df
    replace a2 := (A.old 2 rfl).trans a2
    replace a3 := (A.old 3 rfl).trans a3
    replace a5 := (A.old 5 rfl).trans a5
    replace a6 := (A.old 6 rfl).trans a6
    replace a7 := (A.old 7 rfl).trans a7
    replace a26 := (A.old 26 rfl).trans a26
    replace hL := hL.trans (Below.mono hb hL.size)
    clear A hb
    show Code.wp _ _ _ _ _
    refine wp_cond_false x52 ?_
    refine wp_skip ?_
    show Code.wp _ _ _ _ _
    clear x52
    refine wp_seq ?_
    cases h8 : lessB xa xb k
    · rw [h8] at x8
      refine wp_region_end [.eq (.bool false), .eq (.bool false), .ds (dig (xa)), .eq (.int .i64 ((k : Nat) : Int)), .pi ((d : Nat) : Int), .eq (.int .i64 ((d : Nat) : Int)), .ds (dig (xb)), .eq (.int .i64 ((k : Nat) : Int)), .pi ((e : Nat) : Int), .eq (.int .i64 ((e : Nat) : Int)), .eq (.bool (decide (d < e))), .eq (.bool (decide (d < e)))] Tryd.mixed (by kernel_rfl) (by kernel_rfl) (by rw [sz]; kernel_rfl) (by kernel_rfl) ⟨fun hw ac w' K => ?_, fun hw ac w' K => ?_, fun hw ac w' K => ?_, fun hw ac w' K => ?_, fun hw ac w' K => ?_, fun hw ac w' K => ?_, fun hw ac w' K => ?_, fun hw ac w' K => ?_, fun hw ac w' K => ?_, fun hw ac w' K => ?_, fun hw ac w' K => ?_, fun hw ac w' K => ?_, trivial⟩ ?_
      · exact st_move (.tmp 8) rfl ((K.old 8 rfl).trans x8)
      · exact st_move (.tmp 53) rfl (K.dep 0 53 rfl)
      · exact st_move (.tmp 5) rfl (f_at (K.old 5 rfl) (Fk.mono _ _ _ _ x5 K.grow))
      · exact st_move (.tmp 10) rfl ((K.old 10 rfl).trans x10)
      · exact st_idxi (.tmp 55) (.tmp 56) rfl (K.dep 2 55 rfl) (k) (d) (K.dep 3 56 rfl) ed
      · exact st_loadi (.tmp 57) rfl (K.dep 4 57 rfl)
      · exact st_move (.tmp 6) rfl (f_at (K.old 6 rfl) (Fk.mono _ _ _ _ x6 K.grow))
      · exact st_move (.tmp 10) rfl ((K.old 10 rfl).trans x10)
      · exact st_idxi (.tmp 59) (.tmp 60) rfl (K.dep 6 59 rfl) (k) (e) (K.dep 7 60 rfl) ee
      · exact st_loadi (.tmp 61) rfl (K.dep 8 61 rfl)
      · exact st_lss 3 (.tmp 58) (.tmp 62) rfl .i64 (((d : Nat) : Int)) (((e : Nat) : Int)) (K.dep 5 58 rfl) (K.dep 9 62 rfl) _ (by simp)
      · exact st_pick_f (.tmp 54) (.const (.bool true)) (.tmp 63) rfl (K.dep 1 54 rfl) (K.dep 10 63 rfl)
      intro f10 w10 A hb
      replace x2 : Fk.f (.eq (.pointer (some ⟨g2, 0, none⟩))) (f10.eval (.tmp 2)) w10 := f_at (A.old 2 rfl) (Fk.mono _ _ _ _ x2 hb)
      replace x3 : Fk.f (.eq (.pointer (some ⟨g3, 0, none⟩))) (f10.eval (.tmp 3)) w10 := f_at (A.old 3 rfl) (Fk.mono _ _ _ _ x3 hb)
      replace x5 : Fk.f (.ds (dig (xa))) (f10.eval (.tmp 5)) w10 := f_at (A.old 5 rfl) (Fk.mono _ _ _ _ x5 hb)
      replace x6 : Fk.f (.ds (dig (xb))) (f10.eval (.tmp 6)) w10 := f_at (A.old 6 rfl) (Fk.mono _ _ _ _ x6 hb)
      replace x7 : Fk.f (.ds (dig (xa))) (f10.eval (.tmp 7)) w10 := f_at (A.old 7 rfl) (Fk.mono _ _ _ _ x7 hb)
      replace x8 : Fk.f (.eq (.bool false)) (f10.eval (.tmp 8)) w10 := f_at (A.old 8 rfl) (Fk.mono _ _ _ _ x8 hb)
      replace x9 : Fk.f (.eq (.bool (lessB xb xa k))) (f10.eval (.tmp 9)) w10 := f_at (A.old 9 rfl) (Fk.mono _ _ _ _ x9 hb)
      replace x26 : Fk.f (.eq (.int .i64 (((dig (xa)).length : Nat) : Int))) (f10.eval (.tmp 26)) w10 := f_at (A.old 26 rfl) (Fk.mono _ _ _ _ x26 hb)
      replace x27 : Fk.f (.eq (.int .i64 ((k : Nat) : Int))) (f10.eval (.tmp 27)) w10 := f_at (A.old 27 rfl) (Fk.mono _ _ _ _ x27 hb)
      replace x10 : Fk.f (.eq (.int .i64 ((k : Nat) : Int))) (f10.eval (.tmp 10)) w10 := f_at (A.old 10 rfl) (Fk.mono _ _ _ _ x10 hb)
      have x64 : Fk.f (.eq (.bool (decide (d < e)))) (f10.eval (.tmp 64)) w10 := A.has 11 64 rfl
      replace m2 := HasV.below m2 hb (HasV.lt m2)
      replace m3 := HasV.below m3 hb (HasV.lt m3)
      replace tb := tb.below hb
      replace sz := A.size.trans sz
      replace df := A.defs.trans df
      replace a2 := (A.old 2 rfl).trans a2
      replace a3 := (A.old 3 rfl).trans a3
      replace a5 := (A.old 5 rfl).trans a5
      replace a6 := (A.old 6 rfl).trans a6
      replace a7 := (A.old 7 rfl).trans a7
      replace a26 := (A.old 26 rfl).trans a26
      replace hL := hL.trans (Below.mono hb hL.size)
      clear A hb
      refine wl_assign rfl (.tmp 64) rfl 8 rfl (by rw [sz]; decide) ?_
      intro f11 df2 sz2 old2 new2
      have nx8 : Fk.f (.eq (.bool (decide (d < e)))) (f11.eval (.tmp 8)) w10 := f_at new2 x64
      replace x2 : Fk.f (.eq (.pointer (some ⟨g2, 0, none⟩))) (f11.eval (.tmp 2)) w10 := f_at (old2 2 rfl) x2
      replace x3 : Fk.f (.eq (.pointer (some ⟨g3, 0, none⟩))) (f11.eval (.tmp 3)) w10 := f_at (old2 3 rfl) x3
      replace x5 : Fk.f (.ds (dig (xa))) (f11.eval (.tmp 5)) w10 := f_at (old2 5 rfl) x5
      replace x6 : Fk.f (.ds (dig (xb))) (f11.eval (.tmp 6)) w10 := f_at (old2 6 rfl) x6
      replace x7 : Fk.f (.ds (dig (xa))) (f11.eval (.tmp 7)) w10 := f_at (old2 7 rfl) x7
      replace x9 : Fk.f (.eq (.bool (lessB xb xa k))) (f11.eval (.tmp 9)) w10 := f_at (old2 9 rfl) x9
      replace x26 : Fk.f (.eq (.int .i64 (((dig (xa)).length : Nat) : Int))) (f11.eval (.tmp 26)) w10 := f_at (old2 26 rfl) x26
      replace x27 : Fk.f (.eq (.int .i64 ((k : Nat) : Int))) (f11.eval (.tmp 27)) w10 := f_at (old2 27 rfl) x27
      replace x10 : Fk.f (.eq (.int .i64 ((k : Nat) : Int))) (f11.eval (.tmp 10)) w10 := f_at (old2 10 rfl) x10
      replace x64 : Fk.f (.eq (.bool (decide (d < e)))) (f11.eval (.tmp 64)) w10 := f_at (old2 64 rfl) x64
      have x8 := nx8
      replace sz := sz2.trans sz
      replace df := df2.trans df
      replace a2 := (old2 2 rfl).trans a2
      replace a3 := (old2 3 rfl).trans a3
      replace a5 := (old2 5 rfl).trans a5
      replace a6 := (old2 6 rfl).trans a6
      replace a7 := (old2 7 rfl).trans a7
      replace a26 := (old2 26 rfl).trans a26
      clear df2 sz2 old2 new2 nx8
      clear x64
      refine wpList_nil ?_
      replace x8 : Fk.f (.eq (.bool (lessB xa xb (k + 1)))) (f11.eval (.tmp 8)) w10 := (by rw [less_f h8 edg eeg]; exact x8)
      show Code.wp _ _ _ _ _
      cases h9 : lessB xb xa k
      · rw [h9] at x9
        refine wp_region_end [.eq (.bool false), .eq (.bool false), .ds (dig (xa)), .eq (.int .i64 ((k : Nat) : Int)), .pi ((d : Nat) : Int), .eq (.int .i64 ((d : Nat) : Int)), .ds (dig (xb)), .eq (.int .i64 ((k : Nat) : Int)), .pi ((e : Nat) : Int), .eq (.int .i64 ((e : Nat) : Int)), .eq (.bool (decide (e < d))), .eq (.bool (decide (e < d)))] Tryd.mixed (by kernel_rfl) (by kernel_rfl) (by rw [sz]; kernel_rfl) (by kernel_rfl) ⟨fun hw ac w' K => ?_, fun hw ac w' K => ?_, fun hw ac w' K => ?_, fun hw ac w' K => ?_, fun hw ac w' K => ?_, fun hw ac w' K => ?_, fun hw ac w' K => ?_, fun hw ac w' K => ?_, fun hw ac w' K => ?_, fun hw ac w' K => ?_, fun hw ac w' K => ?_, fun hw ac w' K => ?_, trivial⟩ ?_
        · exact st_move (.tmp 9) rfl ((K.old 9 rfl).trans x9)
        · exact st_move (.tmp 65) rfl (K.dep 0 65 rfl)
        · exact st_move (.tmp 5) rfl (f_at (K.old 5 rfl) (Fk.mono _ _ _ _ x5 K.grow))
        · exact st_move (.tmp 10) rfl ((K.old 10 rfl).trans x10)
        · exact st_idxi (.tmp 67) (.tmp 68) rfl (K.dep 2 67 rfl) (k) (d) (K.dep 3 68 rfl) ed
        · exact st_loadi (.tmp 69) rfl (K.dep 4 69 rfl)
        · exact st_move (.tmp 6) rfl (f_at (K.old 6 rfl) (Fk.mono _ _ _ _ x6 K.grow))
        · exact st_move (.tmp 10) rfl ((K.old 10 rfl).trans x10)
        · exact st_idxi (.tmp 71) (.tmp 72) rfl (K.dep 6 71 rfl) (k) (e) (K.dep 7 72 rfl) ee
        · exact st_loadi (.tmp 73) rfl (K.dep 8 73 rfl)
        · exact st_gtr 3 (.tmp 70) (.tmp 74) rfl .i64 (((d : Nat) : Int)) (((e : Nat) : Int)) (K.dep 5 70 rfl) (K.dep 9 74 rfl) _ (by simp)
        · exact st_pick_f (.tmp 66) (.const (.bool true)) (.tmp 75) rfl (K.dep 1 66 rfl) (K.dep 10 75 rfl)
        intro f12 w12 A hb
        replace x2 : Fk.f (.eq (.pointer (some ⟨g2, 0, none⟩))) (f12.eval (.tmp 2)) w12 := f_at (A.old 2 rfl) (Fk.mono _ _ _ _ x2 hb)
        replace x3 : Fk.f (.eq (.pointer (some ⟨g3, 0, none⟩))) (f12.eval (.tmp 3)) w12 := f_at (A.old 3 rfl) (Fk.mono _ _ _ _ x3 hb)
        replace x5 : Fk.f (.ds (dig (xa))) (f12.eval (.tmp 5)) w12 := f_at (A.old 5 rfl) (Fk.mono _ _ _ _ x5 hb)
        replace x6 : Fk.f (.ds (dig (xb))) (f12.eval (.tmp 6)) w12 := f_at (A.old 6 rfl) (Fk.mono _ _ _ _ x6 hb)
        replace x7 : Fk.f (.ds (dig (xa))) (f12.eval (.tmp 7)) w12 := f_at (A.old 7 rfl) (Fk.mono _ _ _ _ x7 hb)
        replace x8 : Fk.f (.eq (.bool (lessB xa xb (k + 1)))) (f12.eval (.tmp 8)) w12 := f_at (A.old 8 rfl) (Fk.mono _ _ _ _ x8 hb)
        replace x9 : Fk.f (.eq (.bool false)) (f12.eval (.tmp 9)) w12 := f_at (A.old 9 rfl) (Fk.mono _ _ _ _ x9 hb)
        replace x26 : Fk.f (.eq (.int .i64 (((dig (xa)).length : Nat) : Int))) (f12.eval (.tmp 26)) w12 := f_at (A.old 26 rfl) (Fk.mono _ _ _ _ x26 hb)
        replace x27 : Fk.f (.eq (.int .i64 ((k : Nat) : Int))) (f12.eval (.tmp 27)) w12 := f_at (A.old 27 rfl) (Fk.mono _ _ _ _ x27 hb)
        replace x10 : Fk.f (.eq (.int .i64 ((k : Nat) : Int))) (f12.eval (.tmp 10)) w12 := f_at (A.old 10 rfl) (Fk.mono _ _ _ _ x10 hb)
        have x76 : Fk.f (.eq (.bool (decide (e < d)))) (f12.eval (.tmp 76)) w12 := A.has 11 76 rfl
        replace m2 := HasV.below m2 hb (HasV.lt m2)
        replace m3 := HasV.below m3 hb (HasV.lt m3)
        replace tb := tb.below hb
        replace sz := A.size.trans sz
        replace df := A.defs.trans df
        replace a2 := (A.old 2 rfl).trans a2
        replace a3 := (A.old 3 rfl).trans a3
        replace a5 := (A.old 5 rfl).trans a5
        replace a6 := (A.old 6 rfl).trans a6
        replace a7 := (A.old 7 rfl).trans a7
        replace a26 := (A.old 26 rfl).trans a26
        replace hL := hL.trans (Below.mono hb hL.size)
        clear A hb
        refine wl_assign rfl (.tmp 76) rfl 9 rfl (by rw [sz]; decide) ?_
        intro f13 df2 sz2 old2 new2
        have nx9 : Fk.f (.eq (.bool (decide (e < d)))) (f13.eval (.tmp 9)) w12 := f_at new2 x76
        replace x2 : Fk.f (.eq (.pointer (some ⟨g2, 0, none⟩))) (f13.eval (.tmp 2)) w12 := f_at (old2 2 rfl) x2
        replace x3 : Fk.f (.eq (.pointer (some ⟨g3, 0, none⟩))) (f13.eval (.tmp 3)) w12 := f_at (old2 3 rfl) x3
        replace x5 : Fk.f (.ds (dig (xa))) (f13.eval (.tmp 5)) w12 := f_at (old2 5 rfl) x5
        replace x6 : Fk.f (.ds (dig (xb))) (f13.eval (.tmp 6)) w12 := f_at (old2 6 rfl) x6
        replace x7 : Fk.f (.ds (dig (xa))) (f13.eval (.tmp 7)) w12 := f_at (old2 7 rfl) x7
        replace x8 : Fk.f (.eq (.bool (lessB xa xb (k + 1)))) (f13.eval (.tmp 8)) w12 := f_at (old2 8 rfl) x8
        replace x26 : Fk.f (.eq (.int .i64 (((dig (xa)).length : Nat) : Int))) (f13.eval (.tmp 26)) w12 := f_at (old2 26 rfl) x26
        replace x27 : Fk.f (.eq (.int .i64 ((k : Nat) : Int))) (f13.eval (.tmp 27)) w12 := f_at (old2 27 rfl) x27
        replace x10 : Fk.f (.eq (.int .i64 ((k : Nat) : Int))) (f13.eval (.tmp 10)) w12 := f_at (old2 10 rfl) x10
        replace x76 : Fk.f (.eq (.bool (decide (e < d)))) (f13.eval (.tmp 76)) w12 := f_at (old2 76 rfl) x76
        have x9 := nx9
        replace sz := sz2.trans sz
        replace df := df2.trans df
        replace a2 := (old2 2 rfl).trans a2
        replace a3 := (old2 3 rfl).trans a3
        replace a5 := (old2 5 rfl).trans a5
        replace a6 := (old2 6 rfl).trans a6
        replace a7 := (old2 7 rfl).trans a7
        replace a26 := (old2 26 rfl).trans a26
        clear df2 sz2 old2 new2 nx9
        clear x76
        refine wpList_nil ?_
        replace x9 : Fk.f (.eq (.bool (lessB xb xa (k + 1)))) (f13.eval (.tmp 9)) w12 := (by rw [less_f h9 eeg edg]; exact x9)
        show Code.wp _ _ _ _ _
        clear x10
        refine wp_region_seq [.eq (.int .i64 ((k + 1 : Nat) : Int))] (by kernel_rfl) (by kernel_rfl) (by rw [sz]; kernel_rfl) (by kernel_rfl) ⟨fun hw ac w' K => ?_, trivial⟩ ?_
        · exact st_add1 (.tmp 27) rfl k (by omega) ((K.old 27 rfl).trans x27)
        intro f14 w14 A hb
        replace x2 : Fk.f (.eq (.pointer (some ⟨g2, 0, none⟩))) (f14.eval (.tmp 2)) w14 := f_at (A.old 2 rfl) (Fk.mono _ _ _ _ x2 hb)
        replace x3 : Fk.f (.eq (.pointer (some ⟨g3, 0, none⟩))) (f14.eval (.tmp 3)) w14 := f_at (A.old 3 rfl) (Fk.mono _ _ _ _ x3 hb)
        replace x5 : Fk.f (.ds (dig (xa))) (f14.eval (.tmp 5)) w14 := f_at (A.old 5 rfl) (Fk.mono _ _ _ _ x5 hb)
        replace x6 : Fk.f (.ds (dig (xb))) (f14.eval (.tmp 6)) w14 := f_at (A.old 6 rfl) (Fk.mono _ _ _ _ x6 hb)
        replace x7 : Fk.f (.ds (dig (xa))) (f14.eval (.tmp 7)) w14 := f_at (A.old 7 rfl) (Fk.mono _ _ _ _ x7 hb)
        replace x8 : Fk.f (.eq (.bool (lessB xa xb (k + 1)))) (f14.eval (.tmp 8)) w14 := f_at (A.old 8 rfl) (Fk.mono _ _ _ _ x8 hb)
        replace x9 : Fk.f (.eq (.bool (lessB xb xa (k + 1)))) (f14.eval (.tmp 9)) w14 := f_at (A.old 9 rfl) (Fk.mono _ _ _ _ x9 hb)
        replace x26 : Fk.f (.eq (.int .i64 (((dig (xa)).length : Nat) : Int))) (f14.eval (.tmp 26)) w14 := f_at (A.old 26 rfl) (Fk.mono _ _ _ _ x26 hb)
        replace x27 : Fk.f (.eq (.int .i64 ((k : Nat) : Int))) (f14.eval (.tmp 27)) w14 := f_at (A.old 27 rfl) (Fk.mono _ _ _ _ x27 hb)
        have x77 : Fk.f (.eq (.int .i64 ((k + 1 : Nat) : Int))) (f14.eval (.tmp 77)) w14 := A.has 0 77 rfl
        replace m2 := HasV.below m2 hb (HasV.lt m2)
        replace m3 := HasV.below m3 hb (HasV.lt m3)
        replace tb := tb.below hb
        replace sz := A.size.trans sz
        replace df := A.defs.trans df
        replace a2 := (A.old 2 rfl).trans a2
        replace a3 := (A.old 3 rfl).trans a3
        replace a5 := (A.old 5 rfl).trans a5
        replace a6 := (A.old 6 rfl).trans a6
        replace a7 := (A.old 7 rfl).trans a7
        replace a26 := (A.old 26 rfl).trans a26
        replace hL := hL.trans (Below.mono hb hL.size)
        clear A hb
        refine wl_move rfl (.tmp 77) rfl 27 rfl (by rw [sz]; decide) ?_
        intro f15 df2 sz2 old2 new2
        have nx27 : Fk.f (.eq (.int .i64 ((k + 1 : Nat) : Int))) (f15.eval (.tmp 27)) w14 := f_at new2 x77
        replace x2 : Fk.f (.eq (.pointer (some ⟨g2, 0, none⟩))) (f15.eval (.tmp 2)) w14 := f_at (old2 2 rfl) x2
        replace x3 : Fk.f (.eq (.pointer (some ⟨g3, 0, none⟩))) (f15.eval (.tmp 3)) w14 := f_at (old2 3 rfl) x3
        replace x5 : Fk.f (.ds (dig (xa))) (f15.eval (.tmp 5)) w14 := f_at (old2 5 rfl) x5
        replace x6 : Fk.f (.ds (dig (xb))) (f15.eval (.tmp 6)) w14 := f_at (old2 6 rfl) x6
        replace x7 : Fk.f (.ds (dig (xa))) (f15.eval (.tmp 7)) w14 := f_at (old2 7 rfl) x7
        replace x8 : Fk.f (.eq (.bool (lessB xa xb (k + 1)))) (f15.eval (.tmp 8)) w14 := f_at (old2 8 rfl) x8
        replace x9 : Fk.f (.eq (.bool (lessB xb xa (k + 1)))) (f15.eval (.tmp 9)) w14 := f_at (old2 9 rfl) x9
        replace x26 : Fk.f (.eq (.int .i64 (((dig (xa)).length : Nat) : Int))) (f15.eval (.tmp 26)) w14 := f_at (old2 26 rfl) x26
        replace x77 : Fk.f (.eq (.int .i64 ((k + 1 : Nat) : Int))) (f15.eval (.tmp 77)) w14 := f_at (old2 77 rfl) x77
        have x27 := nx27
        replace sz := sz2.trans sz
        replace df := df2.trans df
        replace a2 := (old2 2 rfl).trans a2
        replace a3 := (old2 3 rfl).trans a3
        replace a5 := (old2 5 rfl).trans a5
        replace a6 := (old2 6 rfl).trans a6
        replace a7 := (old2 7 rfl).trans a7
        replace a26 := (old2 26 rfl).trans a26
        clear df2 sz2 old2 new2 nx27
        clear x77
        refine wpList_nil ?_
        show (∃ _, _) ∧ _
        refine ⟨⟨k + 1, by omega, sz, df, a2, a3, a5, a6, a7, a26, x27, x8, x9, hL⟩, ?_⟩
        rw [show f15.eval (.tmp 27) = _ from x27, show _ = _ from c27]
        simp [intOf]
        omega
      · rw [h9] at x9
        refine wp_region_end [.eq (.bool true), .eq (.bool true), .any, .any, .any, .any, .any, .any, .any, .any, .any, .eq (.bool true)] Tryd.mixed (by kernel_rfl) (by kernel_rfl) (by rw [sz]; kernel_rfl) (by kernel_rfl) ⟨fun hw ac w' K => ?_, fun hw ac w' K => ?_, fun hw ac w' K => ?_, fun hw ac w' K => ?_, fun hw ac w' K => ?_, fun hw ac w' K => ?_, fun hw ac w' K => ?_, fun hw ac w' K => ?_, fun hw ac w' K => ?_, fun hw ac w' K => ?_, fun hw ac w' K => ?_, fun hw ac w' K => ?_, trivial⟩ ?_
        · exact st_move (.tmp 9) rfl ((K.old 9 rfl).trans x9)
        · exact st_move (.tmp 65) rfl (K.dep 0 65 rfl)
        · exact (Bool.false_ne_true hw).elim
        · exact (Bool.false_ne_true hw).elim
        · exact (Bool.false_ne_true hw).elim
        · exact (Bool.false_ne_true hw).elim
        · exact (Bool.false_ne_true hw).elim
        · exact (Bool.false_ne_true hw).elim
        · exact (Bool.false_ne_true hw).elim
        · exact (Bool.false_ne_true hw).elim
        · exact (Bool.false_ne_true hw).elim
        · exact st_pick_t (.tmp 66) (.const (.bool true)) (.tmp 75) rfl (K.dep 1 66 rfl) rfl
        intro f12 w12 A hb
        replace x2 : Fk.f (.eq (.pointer (some ⟨g2, 0, none⟩))) (f12.eval (.tmp 2)) w12 := f_at (A.old 2 rfl) (Fk.mono _ _ _ _ x2 hb)
        replace x3 : Fk.f (.eq (.pointer (some ⟨g3, 0, none⟩))) (f12.eval (.tmp 3)) w12 := f_at (A.old 3 rfl) (Fk.mono _ _ _ _ x3 hb)
        replace x5 : Fk.f (.ds (dig (xa))) (f12.eval (.tmp 5)) w12 := f_at (A.old 5 rfl) (Fk.mono _ _ _ _ x5 hb)
        replace x6 : Fk.f (.ds (dig (xb))) (f12.eval (.tmp 6)) w12 := f_at (A.old 6 rfl) (Fk.mono _ _ _ _ x6 hb)
        replace x7 : Fk.f (.ds (dig (xa))) (f12.eval (.tmp 7)) w12 := f_at (A.old 7 rfl) (Fk.mono _ _ _ _ x7 hb)
        replace x8 : Fk.f (.eq (.bool (lessB xa xb (k + 1)))) (f12.eval (.tmp 8)) w12 := f_at (A.old 8 rfl) (Fk.mono _ _ _ _ x8 hb)
        replace x9 : Fk.f (.eq (.bool true)) (f12.eval (.tmp 9)) w12 := f_at (A.old 9 rfl) (Fk.mono _ _ _ _ x9 hb)
        replace x26 : Fk.f (.eq (.int .i64 (((dig (xa)).length : Nat) : Int))) (f12.eval (.tmp 26)) w12 := f_at (A.old 26 rfl) (Fk.mono _ _ _ _ x26 hb)
        replace x27 : Fk.f (.eq (.int .i64 ((k : Nat) : Int))) (f12.eval (.tmp 27)) w12 := f_at (A.old 27 rfl) (Fk.mono _ _ _ _ x27 hb)
        replace x10 : Fk.f (.eq (.int .i64 ((k : Nat) : Int))) (f12.eval (.tmp 10)) w12 := f_at (A.old 10 rfl) (Fk.mono _ _ _ _ x10 hb)
        have x76 : Fk.f (.eq (.bool true)) (f12.eval (.tmp 76)) w12 := A.has 11 76 rfl
        replace m2 := HasV.below m2 hb (HasV.lt m2)
        replace m3 := HasV.below m3 hb (HasV.lt m3)
        replace tb := tb.below hb
        replace sz := A.size.trans sz
        replace df := A.defs.trans df
        replace a2 := (A.old 2 rfl).trans a2
        replace a3 := (A.old 3 rfl).trans a3
        replace a5 := (A.old 5 rfl).trans a5
        replace a6 := (A.old 6 rfl).trans a6
        replace a7 := (A.old 7 rfl).trans a7
        replace a26 := (A.old 26 rfl).trans a26
        replace hL := hL.trans (Below.mono hb hL.size)
        clear A hb
        refine wl_assign rfl (.tmp 76) rfl 9 rfl (by rw [sz]; decide) ?_
        intro f13 df2 sz2 old2 new2
        have nx9 : Fk.f (.eq (.bool true)) (f13.eval (.tmp 9)) w12 := f_at new2 x76
        replace x2 : Fk.f (.eq (.pointer (some ⟨g2, 0, none⟩))) (f13.eval (.tmp 2)) w12 := f_at (old2 2 rfl) x2
        replace x3 : Fk.f (.eq (.pointer (some ⟨g3, 0, none⟩))) (f13.eval (.tmp 3)) w12 := f_at (old2 3 rfl) x3
        replace x5 : Fk.f (.ds (dig (xa))) (f13.eval (.tmp 5)) w12 := f_at (old2 5 rfl) x5
        replace x6 : Fk.f (.ds (dig (xb))) (f13.eval (.tmp 6)) w12 := f_at (old2 6 rfl) x6
        replace x7 : Fk.f (.ds (dig (xa))) (f13.eval (.tmp 7)) w12 := f_at (old2 7 rfl) x7
        replace x8 : Fk.f (.eq (.bool (lessB xa xb (k + 1)))) (f13.eval (.tmp 8)) w12 := f_at (old2 8 rfl) x8
        replace x26 : Fk.f (.eq (.int .i64 (((dig (xa)).length : Nat) : Int))) (f13.eval (.tmp 26)) w12 := f_at (old2 26 rfl) x26
        replace x27 : Fk.f (.eq (.int .i64 ((k : Nat) : Int))) (f13.eval (.tmp 27)) w12 := f_at (old2 27 rfl) x27
        replace x10 : Fk.f (.eq (.int .i64 ((k : Nat) : Int))) (f13.eval (.tmp 10)) w12 := f_at (old2 10 rfl) x10
        replace x76 : Fk.f (.eq (.bool true)) (f13.eval (.tmp 76)) w12 := f_at (old2 76 rfl) x76
        have x9 := nx9
        replace sz := sz2.trans sz
        replace df := df2.trans df
        replace a2 := (old2 2 rfl).trans a2
        replace a3 := (old2 3 rfl).trans a3
        replace a5 := (old2 5 rfl).trans a5
        replace a6 := (old2 6 rfl).trans a6
        replace a7 := (old2 7 rfl).trans a7
        replace a26 := (old2 26 rfl).trans a26
        clear df2 sz2 old2 new2 nx9
        clear x76
        refine wpList_nil ?_
        replace x9 : Fk.f (.eq (.bool (lessB xb xa (k + 1)))) (f13.eval (.tmp 9)) w12 := (by rw [less_t h9]; exact x9)
        show Code.wp _ _ _ _ _
        clear x10
        refine wp_region_seq [.eq (.int .i64 ((k + 1 : Nat) : Int))] (by kernel_rfl) (by kernel_rfl) (by rw [sz]; kernel_rfl) (by kernel_rfl) ⟨fun hw ac w' K => ?_, trivial⟩ ?_
        · exact st_add1 (.tmp 27) rfl k (by omega) ((K.old 27 rfl).trans x27)
        intro f14 w14 A hb
        replace x2 : Fk.f (.eq (.pointer (some ⟨g2, 0, none⟩))) (f14.eval (.tmp 2)) w14 := f_at (A.old 2 rfl) (Fk.mono _ _ _ _ x2 hb)
        replace x3 : Fk.f (.eq (.pointer (some ⟨g3, 0, none⟩))) (f14.eval (.tmp 3)) w14 := f_at (A.old 3 rfl) (Fk.mono _ _ _ _ x3 hb)
        replace x5 : Fk.f (.ds (dig (xa))) (f14.eval (.tmp 5)) w14 := f_at (A.old 5 rfl) (Fk.mono _ _ _ _ x5 hb)
        replace x6 : Fk.f (.ds (dig (xb))) (f14.eval (.tmp 6)) w14 := f_at (A.old 6 rfl) (Fk.mono _ _ _ _ x6 hb)
        replace x7 : Fk.f (.ds (dig (xa))) (f14.eval (.tmp 7)) w14 := f_at (A.old 7 rfl) (Fk.mono _ _ _ _ x7 hb)
        replace x8 : Fk.f (.eq (.bool (lessB xa xb (k + 1)))) (f14.eval (.tmp 8)) w14 := f_at (A.old 8 rfl) (Fk.mono _ _ _ _ x8 hb)
        replace x9 : Fk.f (.eq (.bool (lessB xb xa (k + 1)))) (f14.eval (.tmp 9)) w14 := f_at (A.old 9 rfl) (Fk.mono _ _ _ _ x9 hb)
        replace x26 : Fk.f (.eq (.int .i64 (((dig (xa)).length : Nat) : Int))) (f14.eval (.tmp 26)) w14 := f_at (A.old 26 rfl) (Fk.mono _ _ _ _ x26 hb)
        replace x27 : Fk.f (.eq (.int .i64 ((k : Nat) : Int))) (f14.eval (.tmp 27)) w14 := f_at (A.old 27 rfl) (Fk.mono _ _ _ _ x27 hb)
        have x77 : Fk.f (.eq (.int .i64 ((k + 1 : Nat) : Int))) (f14.eval (.tmp 77)) w14 := A.has 0 77 rfl
        replace m2 := HasV.below m2 hb (HasV.lt m2)
        replace m3 := HasV.below m3 hb (HasV.lt m3)
        replace tb := tb.below hb
        replace sz := A.size.trans sz
        replace df := A.defs.trans df
        replace a2 := (A.old 2 rfl).trans a2
        replace a3 := (A.old 3 rfl).trans a3
        replace a5 := (A.old 5 rfl).trans a5
        replace a6 := (A.old 6 rfl).trans a6
        replace a7 := (A.old 7 rfl).trans a7
        replace a26 := (A.old 26 rfl).trans a26
        replace hL := hL.trans (Below.mono hb hL.size)
        clear A hb
        refine wl_move rfl (.tmp 77) rfl 27 rfl (by rw [sz]; decide) ?_
        intro f15 df2 sz2 old2 new2
        have nx27 : Fk.f (.eq (.int .i64 ((k + 1 : Nat) : Int))) (f15.eval (.tmp 27)) w14 := f_at new2 x77
        replace x2 : Fk.f (.eq (.pointer (some ⟨g2, 0, none⟩))) (f15.eval (.tmp 2)) w14 := f_at (old2 2 rfl) x2
        replace x3 : Fk.f (.eq (.pointer (some ⟨g3, 0, none⟩))) (f15.eval (.tmp 3)) w14 := f_at (old2 3 rfl) x3
        replace x5 : Fk.f (.ds (dig (xa))) (f15.eval (.tmp 5)) w14 := f_at (old2 5 rfl) x5
        replace x6 : Fk.f (.ds (dig (xb))) (f15.eval (.tmp 6)) w14 := f_at (old2 6 rfl) x6
        replace x7 : Fk.f (.ds (dig (xa))) (f15.eval (.tmp 7)) w14 := f_at (old2 7 rfl) x7
        replace x8 : Fk.f (.eq (.bool (lessB xa xb (k + 1)))) (f15.eval (.tmp 8)) w14 := f_at (old2 8 rfl) x8
        replace x9 : Fk.f (.eq (.bool (lessB xb xa (k + 1)))) (f15.eval (.tmp 9)) w14 := f_at (old2 9 rfl) x9
        replace x26 : Fk.f (.eq (.int .i64 (((dig (xa)).length : Nat) : Int))) (f15.eval (.tmp 26)) w14 := f_at (old2 26 rfl) x26
        replace x77 : Fk.f (.eq (.int .i64 ((k + 1 : Nat) : Int))) (f15.eval (.tmp 77)) w14 := f_at (old2 77 rfl) x77
        have x27 := nx27
        replace sz := sz2.trans sz
        replace df := df2.trans df
        replace a2 := (old2 2 rfl).trans a2
        replace a3 := (old2 3 rfl).trans a3
        replace a5 := (old2 5 rfl).trans a5
        replace a6 := (old2 6 rfl).trans a6
        replace a7 := (old2 7 rfl).trans a7
        replace a26 := (old2 26 rfl).trans a26
        clear df2 sz2 old2 new2 nx27
        clear x77
        refine wpList_nil ?_
        show (∃ _, _) ∧ _
        refine ⟨⟨k + 1, by omega, sz, df, a2, a3, a5, a6, a7, a26, x27, x8, x9, hL⟩, ?_⟩
        rw [show f15.eval (.tmp 27) = _ from x27, show _ = _ from c27]
        simp [intOf]
        omega
    · rw [h8] at x8
      refine wp_region_end [.eq (.bool true), .eq (.bool true), .any, .any, .any, .any, .any, .any, .any, .any, .any, .eq (.bool true)] Tryd.mixed (by kernel_rfl) (by kernel_rfl) (by rw [sz]; kernel_rfl) (by kernel_rfl) ⟨fun hw ac w' K => ?_, fun hw ac w' K => ?_, fun hw ac w' K => ?_, fun hw ac w' K => ?_, fun hw ac w' K => ?_, fun hw ac w' K => ?_, fun hw ac w' K => ?_, fun hw ac w' K => ?_, fun hw ac w' K => ?_, fun hw ac w' K => ?_, fun hw ac w' K => ?_, fun hw ac w' K => ?_, trivial⟩ ?_
      · exact st_move (.tmp 8) rfl ((K.old 8 rfl).trans x8)
      · exact st_move (.tmp 53) rfl (K.dep 0 53 rfl)
      · exact (Bool.false_ne_true hw).elim
      · exact (Bool.false_ne_true hw).elim
      · exact (Bool.false_ne_true hw).elim
      · exact (Bool.false_ne_true hw).elim
      · exact (Bool.false_ne_true hw).elim
      · exact (Bool.false_ne_true hw).elim
      · exact (Bool.false_ne_true hw).elim
      · exact (Bool.false_ne_true hw).elim
      · exact (Bool.false_ne_true hw).elim
      · exact st_pick_t (.tmp 54) (.const (.bool true)) (.tmp 63) rfl (K.dep 1 54 rfl) rfl
      intro f10 w10 A hb
      replace x2 : Fk.f (.eq (.pointer (some ⟨g2, 0, none⟩))) (f10.eval (.tmp 2)) w10 := f_at (A.old 2 rfl) (Fk.mono _ _ _ _ x2 hb)
      replace x3 : Fk.f (.eq (.pointer (some ⟨g3, 0, none⟩))) (f10.eval (.tmp 3)) w10 := f_at (A.old 3 rfl) (Fk.mono _ _ _ _ x3 hb)
      replace x5 : Fk.f (.ds (dig (xa))) (f10.eval (.tmp 5)) w10 := f_at (A.old 5 rfl) (Fk.mono _ _ _ _ x5 hb)
      replace x6 : Fk.f (.ds (dig (xb))) (f10.eval (.tmp 6)) w10 := f_at (A.old 6 rfl) (Fk.mono _ _ _ _ x6 hb)
      replace x7 : Fk.f (.ds (dig (xa))) (f10.eval (.tmp 7)) w10 := f_at (A.old 7 rfl) (Fk.mono _ _ _ _ x7 hb)
      replace x8 : Fk.f (.eq (.bool true)) (f10.eval (.tmp 8)) w10 := f_at (A.old 8 rfl) (Fk.mono _ _ _ _ x8 hb)
      replace x9 : Fk.f (.eq (.bool (lessB xb xa k))) (f10.eval (.tmp 9)) w10 := f_at (A.old 9 rfl) (Fk.mono _ _ _ _ x9 hb)
      replace x26 : Fk.f (.eq (.int .i64 (((dig (xa)).length : Nat) : Int))) (f10.eval (.tmp 26)) w10 := f_at (A.old 26 rfl) (Fk.mono _ _ _ _ x26 hb)
      replace x27 : Fk.f (.eq (.int .i64 ((k : Nat) : Int))) (f10.eval (.tmp 27)) w10 := f_at (A.old 27 rfl) (Fk.mono _ _ _ _ x27 hb)
      replace x10 : Fk.f (.eq (.int .i64 ((k : Nat) : Int))) (f10.eval (.tmp 10)) w10 := f_at (A.old 10 rfl) (Fk.mono _ _ _ _ x10 hb)
      have x64 : Fk.f (.eq (.bool true)) (f10.eval (.tmp 64)) w10 := A.has 11 64 rfl
      replace m2 := HasV.below m2 hb (HasV.lt m2)
      replace m3 := HasV.below m3 hb (HasV.lt m3)
      replace tb := tb.below hb
      replace sz := A.size.trans sz
      replace df := A.defs.trans df
      replace a2 := (A.old 2 rfl).trans a2
      replace a3 := (A.old 3 rfl).trans a3
      replace a5 := (A.old 5 rfl).trans a5
      replace a6 := (A.old 6 rfl).trans a6
      replace a7 := (A.old 7 rfl).trans a7
      replace a26 := (A.old 26 rfl).trans a26
      replace hL := hL.trans (Below.mono hb hL.size)
      clear A hb
      refine wl_assign rfl (.tmp 64) rfl 8 rfl (by rw [sz]; decide) ?_
      intro f11 df2 sz2 old2 new2
      have nx8 : Fk.f (.eq (.bool true)) (f11.eval (.tmp 8)) w10 := f_at new2 x64
      replace x2 : Fk.f (.eq (.pointer (some ⟨g2, 0, none⟩))) (f11.eval (.tmp 2)) w10 := f_at (old2 2 rfl) x2
      replace x3 : Fk.f (.eq (.pointer (some ⟨g3, 0, none⟩))) (f11.eval (.tmp 3)) w10 := f_at (old2 3 rfl) x3
      replace x5 : Fk.f (.ds (dig (xa))) (f11.eval (.tmp 5)) w10 := f_at (old2 5 rfl) x5
      replace x6 : Fk.f (.ds (dig (xb))) (f11.eval (.tmp 6)) w10 := f_at (old2 6 rfl) x6
      replace x7 : Fk.f (.ds (dig (xa))) (f11.eval (.tmp 7)) w10 := f_at (old2 7 rfl) x7
      replace x9 : Fk.f (.eq (.bool (lessB xb xa k))) (f11.eval (.tmp 9)) w10 := f_at (old2 9 rfl) x9
      replace x26 : Fk.f (.eq (.int .i64 (((dig (xa)).length : Nat) : Int))) (f11.eval (.tmp 26)) w10 := f_at (old2 26 rfl) x26
      replace x27 : Fk.f (.eq (.int .i64 ((k : Nat) : Int))) (f11.eval (.tmp 27)) w10 := f_at (old2 27 rfl) x27
      replace x10 : Fk.f (.eq (.int .i64 ((k : Nat) : Int))) (f11.eval (.tmp 10)) w10 := f_at (old2 10 rfl) x10
      replace x64 : Fk.f (.eq (.bool true)) (f11.eval (.tmp 64)) w10 := f_at (old2 64 rfl) x64
      have x8 := nx8
      replace sz := sz2.trans sz
      replace df := df2.trans df
      replace a2 := (old2 2 rfl).trans a2
      replace a3 := (old2 3 rfl).trans a3
      replace a5 := (old2 5 rfl).trans a5
      replace a6 := (old2 6 rfl).trans a6
      replace a7 := (old2 7 rfl).trans a7
      replace a26 := (old2 26 rfl).trans a26
      clear df2 sz2 old2 new2 nx8
      clear x64
      refine wpList_nil ?_
      replace x8 : Fk.f (.eq (.bool (lessB xa xb (k + 1)))) (f11.eval (.tmp 8)) w10 := (by rw [less_t h8]; exact x8)
      show Code.wp _ _ _ _ _
      cases h9 : lessB xb xa k
      · rw [h9] at x9
        refine wp_region_end [.eq (.bool false), .eq (.bool false), .ds (dig (xa)), .eq (.int .i64 ((k : Nat) : Int)), .pi ((d : Nat) : Int), .eq (.int .i64 ((d : Nat) : Int)), .ds (dig (xb)), .eq (.int .i64 ((k : Nat) : Int)), .pi ((e : Nat) : Int), .eq (.int .i64 ((e : Nat) : Int)), .eq (.bool (decide (e < d))), .eq (.bool (decide (e < d)))] Tryd.mixed (by kernel_rfl) (by kernel_rfl) (by rw [sz]; kernel_rfl) (by kernel_rfl) ⟨fun hw ac w' K => ?_, fun hw ac w' K => ?_, fun hw ac w' K => ?_, fun hw ac w' K => ?_, fun hw ac w' K => ?_, fun hw ac w' K => ?_, fun hw ac w' K => ?_, fun hw ac w' K => ?_, fun hw ac w' K => ?_, fun hw ac w' K => ?_, fun hw ac w' K => ?_, fun hw ac w' K => ?_, trivial⟩ ?_
        · exact st_move (.tmp 9) rfl ((K.old 9 rfl).trans x9)
        · exact st_move (.tmp 65) rfl (K.dep 0 65 rfl)
        · exact st_move (.tmp 5) rfl (f_at (K.old 5 rfl) (Fk.mono _ _ _ _ x5 K.grow))
        · exact st_move (.tmp 10) rfl ((K.old 10 rfl).trans x10)
        · exact st_idxi (.tmp 67) (.tmp 68) rfl (K.dep 2 67 rfl) (k) (d) (K.dep 3 68 rfl) ed
        · exact st_loadi (.tmp 69) rfl (K.dep 4 69 rfl)
        · exact st_move (.tmp 6) rfl (f_at (K.old 6 rfl) (Fk.mono _ _ _ _ x6 K.grow))
        · exact st_move (.tmp 10) rfl ((K.old 10 rfl).trans x10)
        · exact st_idxi (.tmp 71) (.tmp 72) rfl (K.dep 6 71 rfl) (k) (e) (K.dep 7 72 rfl) ee
        · exact st_loadi (.tmp 73) rfl (K.dep 8 73 rfl)
        · exact st_gtr 3 (.tmp 70) (.tmp 74) rfl .i64 (((d : Nat) : Int)) (((e : Nat) : Int)) (K.dep 5 70 rfl) (K.dep 9 74 rfl) _ (by simp)
        · exact st_pick_f (.tmp 66) (.const (.bool true)) (.tmp 75) rfl (K.dep 1 66 rfl) (K.dep 10 75 rfl)
        intro f12 w12 A hb
        replace x2 : Fk.f (.eq (.pointer (some ⟨g2, 0, none⟩))) (f12.eval (.tmp 2)) w12 := f_at (A.old 2 rfl) (Fk.mono _ _ _ _ x2 hb)
        replace x3 : Fk.f (.eq (.pointer (some ⟨g3, 0, none⟩))) (f12.eval (.tmp 3)) w12 := f_at (A.old 3 rfl) (Fk.mono _ _ _ _ x3 hb)
        replace x5 : Fk.f (.ds (dig (xa))) (f12.eval (.tmp 5)) w12 := f_at (A.old 5 rfl) (Fk.mono _ _ _ _ x5 hb)
        replace x6 : Fk.f (.ds (dig (xb))) (f12.eval (.tmp 6)) w12 := f_at (A.old 6 rfl) (Fk.mono _ _ _ _ x6 hb)
        replace x7 : Fk.f (.ds (dig (xa))) (f12.eval (.tmp 7)) w12 := f_at (A.old 7 rfl) (Fk.mono _ _ _ _ x7 hb)
        replace x8 : Fk.f (.eq (.bool (lessB xa xb (k + 1)))) (f12.eval (.tmp 8)) w12 := f_at (A.old 8 rfl) (Fk.mono _ _ _ _ x8 hb)
        replace x9 : Fk.f (.eq (.bool false)) (f12.eval (.tmp 9)) w12 := f_at (A.old 9 rfl) (Fk.mono _ _ _ _ x9 hb)
        replace x26 : Fk.f (.eq (.int .i64 (((dig (xa)).length : Nat) : Int))) (f12.eval (.tmp 26)) w12 := f_at (A.old 26 rfl) (Fk.mono _ _ _ _ x26 hb)
        replace x27 : Fk.f (.eq (.int .i64 ((k : Nat) : Int))) (f12.eval (.tmp 27)) w12 := f_at (A.old 27 rfl) (Fk.mono _ _ _ _ x27 hb)
        replace x10 : Fk.f (.eq (.int .i64 ((k : Nat) : Int))) (f12.eval (.tmp 10)) w12 := f_at (A.old 10 rfl) (Fk.mono _ _ _ _ x10 hb)
        have x76 : Fk.f (.eq (.bool (decide (e < d)))) (f12.eval (.tmp 76)) w12 := A.has 11 76 rfl
        replace m2 := HasV.below m2 hb (HasV.lt m2)
        replace m3 := HasV.below m3 hb (HasV.lt m3)
        replace tb := tb.below hb
        replace sz := A.size.trans sz
        replace df := A.defs.trans df
        replace a2 := (A.old 2 rfl).trans a2
        replace a3 := (A.old 3 rfl).trans a3
        replace a5 := (A.old 5 rfl).trans a5
        replace a6 := (A.old 6 rfl).trans a6
        replace a7 := (A.old 7 rfl).trans a7
        replace a26 := (A.old 26 rfl).trans a26
        replace hL := hL.trans (Below.mono hb hL.size)
        clear A hb
        refine wl_assign rfl (.tmp 76) rfl 9 rfl (by rw [sz]; decide) ?_
        intro f13 df2 sz2 old2 new2
        have nx9 : Fk.f (.eq (.bool (decide (e < d)))) (f13.eval (.tmp 9)) w12 := f_at new2 x76
        replace x2 : Fk.f (.eq (.pointer (some ⟨g2, 0, none⟩))) (f13.eval (.tmp 2)) w12 := f_at (old2 2 rfl) x2
        replace x3 : Fk.f (.eq (.pointer (some ⟨g3, 0, none⟩))) (f13.eval (.tmp 3)) w12 := f_at (old2 3 rfl) x3
        replace x5 : Fk.f (.ds (dig (xa))) (f13.eval (.tmp 5)) w12 := f_at (old2 5 rfl) x5
        replace x6 : Fk.f (.ds (dig (xb))) (f13.eval (.tmp 6)) w12 := f_at (old2 6 rfl) x6
        replace x7 : Fk.f (.ds (dig (xa))) (f13.eval (.tmp 7)) w12 := f_at (old2 7 rfl) x7
        replace x8 : Fk.f (.eq (.bool (lessB xa xb (k + 1)))) (f13.eval (.tmp 8)) w12 := f_at (old2 8 rfl) x8
        replace x26 : Fk.f (.eq (.int .i64 (((dig (xa)).length : Nat) : Int))) (f13.eval (.tmp 26)) w12 := f_at (old2 26 rfl) x26
        replace x27 : Fk.f (.eq (.int .i64 ((k : Nat) : Int))) (f13.eval (.tmp 27)) w12 := f_at (old2 27 rfl) x27
        replace x10 : Fk.f (.eq (.int .i64 ((k : Nat) : Int))) (f13.eval (.tmp 10)) w12 := f_at (old2 10 rfl) x10
        replace x76 : Fk.f (.eq (.bool (decide (e < d)))) (f13.eval (.tmp 76)) w12 := f_at (old2 76 rfl) x76
        have x9 := nx9
        replace sz := sz2.trans sz
        replace df := df2.trans df
        replace a2 := (old2 2 rfl).trans a2
        replace a3 := (old2 3 rfl).trans a3
        replace a5 := (old2 5 rfl).trans a5
        replace a6 := (old2 6 rfl).trans a6
        replace a7 := (old2 7 rfl).trans a7
        replace a26 := (old2 26 rfl).trans a26
        clear df2 sz2 old2 new2 nx9
        clear x76
        refine wpList_nil ?_
        replace x9 : Fk.f (.eq (.bool (lessB xb xa (k + 1)))) (f13.eval (.tmp 9)) w12 := (by rw [less_f h9 eeg edg]; exact x9)
        show Code.wp _ _ _ _ _
        clear x10
        refine wp_region_seq [.eq (.int .i64 ((k + 1 : Nat) : Int))] (by kernel_rfl) (by kernel_rfl) (by rw [sz]; kernel_rfl) (by kernel_rfl) ⟨fun hw ac w' K => ?_, trivial⟩ ?_
        · exact st_add1 (.tmp 27) rfl k (by omega) ((K.old 27 rfl).trans x27)
        intro f14 w14 A hb
        replace x2 : Fk.f (.eq (.pointer (some ⟨g2, 0, none⟩))) (f14.eval (.tmp 2)) w14 := f_at (A.old 2 rfl) (Fk.mono _ _ _ _ x2 hb)
        replace x3 : Fk.f (.eq (.pointer (some ⟨g3, 0, none⟩))) (f14.eval (.tmp 3)) w14 := f_at (A.old 3 rfl) (Fk.mono _ _ _ _ x3 hb)
        replace x5 : Fk.f (.ds (dig (xa))) (f14.eval (.tmp 5)) w14 := f_at (A.old 5 rfl) (Fk.mono _ _ _ _ x5 hb)
        replace x6 : Fk.f (.ds (dig (xb))) (f14.eval (.tmp 6)) w14 := f_at (A.old 6 rfl) (Fk.mono _ _ _ _ x6 hb)
        replace x7 : Fk.f (.ds (dig (xa))) (f14.eval (.tmp 7)) w14 := f_at (A.old 7 rfl) (Fk.mono _ _ _ _ x7 hb)
        replace x8 : Fk.f (.eq (.bool (lessB xa xb (k + 1)))) (f14.eval (.tmp 8)) w14 := f_at (A.old 8 rfl) (Fk.mono _ _ _ _ x8 hb)
        replace x9 : Fk.f (.eq (.bool (lessB xb xa (k + 1)))) (f14.eval (.tmp 9)) w14 := f_at (A.old 9 rfl) (Fk.mono _ _ _ _ x9 hb)
        replace x26 : Fk.f (.eq (.int .i64 (((dig (xa)).length : Nat) : Int))) (f14.eval (.tmp 26)) w14 := f_at (A.old 26 rfl) (Fk.mono _ _ _ _ x26 hb)
        replace x27 : Fk.f (.eq (.int .i64 ((k : Nat) : Int))) (f14.eval (.tmp 27)) w14 := f_at (A.old 27 rfl) (Fk.mono _ _ _ _ x27 hb)
        have x77 : Fk.f (.eq (.int .i64 ((k + 1 : Nat) : Int))) (f14.eval (.tmp 77)) w14 := A.has 0 77 rfl
        replace m2 := HasV.below m2 hb (HasV.lt m2)
        replace m3 := HasV.below m3 hb (HasV.lt m3)
        replace tb := tb.below hb
        replace sz := A.size.trans sz
        replace df := A.defs.trans df
        replace a2 := (A.old 2 rfl).trans a2
        replace a3 := (A.old 3 rfl).trans a3
        replace a5 := (A.old 5 rfl).trans a5
        replace a6 := (A.old 6 rfl).trans a6
        replace a7 := (A.old 7 rfl).trans a7
        replace a26 := (A.old 26 rfl).trans a26
        replace hL := hL.trans (Below.mono hb hL.size)
        clear A hb
        refine wl_move rfl (.tmp 77) rfl 27 rfl (by rw [sz]; decide) ?_
        intro f15 df2 sz2 old2 new2
        have nx27 : Fk.f (.eq (.int .i64 ((k + 1 : Nat) : Int))) (f15.eval (.tmp 27)) w14 := f_at new2 x77
        replace x2 : Fk.f (.eq (.pointer (some ⟨g2, 0, none⟩))) (f15.eval (.tmp 2)) w14 := f_at (old2 2 rfl) x2
        replace x3 : Fk.f (.eq (.pointer (some ⟨g3, 0, none⟩))) (f15.eval (.tmp 3)) w14 := f_at (old2 3 rfl) x3
        replace x5 : Fk.f (.ds (dig (xa))) (f15.eval (.tmp 5)) w14 := f_at (old2 5 rfl) x5
        replace x6 : Fk.f (.ds (dig (xb))) (f15.eval (.tmp 6)) w14 := f_at (old2 6 rfl) x6
        replace x7 : Fk.f (.ds (dig (xa))) (f15.eval (.tmp 7)) w14 := f_at (old2 7 rfl) x7
        replace x8 : Fk.f (.eq (.bool (lessB xa xb (k + 1)))) (f15.eval (.tmp 8)) w14 := f_at (old2 8 rfl) x8
        replace x9 : Fk.f (.eq (.bool (lessB xb xa (k + 1)))) (f15.eval (.tmp 9)) w14 := f_at (old2 9 rfl) x9
        replace x26 : Fk.f (.eq (.int .i64 (((dig (xa)).length : Nat) : Int))) (f15.eval (.tmp 26)) w14 := f_at (old2 26 rfl) x26
        replace x77 : Fk.f (.eq (.int .i64 ((k + 1 : Nat) : Int))) (f15.eval (.tmp 77)) w14 := f_at (old2 77 rfl) x77
        have x27 := nx27
        replace sz := sz2.trans sz
        replace df := df2.trans df
        replace a2 := (old2 2 rfl).trans a2
        replace a3 := (old2 3 rfl).trans a3
        replace a5 := (old2 5 rfl).trans a5
        replace a6 := (old2 6 rfl).trans a6
        replace a7 := (old2 7 rfl).trans a7
        replace a26 := (old2 26 rfl).trans a26
        clear df2 sz2 old2 new2 nx27
        clear x77
        refine wpList_nil ?_
        show (∃ _, _) ∧ _
        refine ⟨⟨k + 1, by omega, sz, df, a2, a3, a5, a6, a7, a26, x27, x8, x9, hL⟩, ?_⟩
        rw [show f15.eval (.tmp 27) = _ from x27, show _ = _ from c27]
        simp [intOf]
        omega
      · rw [h9] at x9
        refine wp_region_end [.eq (.bool true), .eq (.bool true), .any, .any, .any, .any, .any, .any, .any, .any, .any, .eq (.bool true)] Tryd.mixed (by kernel_rfl) (by kernel_rfl) (by rw [sz]; kernel_rfl) (by kernel_rfl) ⟨fun hw ac w' K => ?_, fun hw ac w' K => ?_, fun hw ac w' K => ?_, fun hw ac w' K => ?_, fun hw ac w' K => ?_, fun hw ac w' K => ?_, fun hw ac w' K => ?_, fun hw ac w' K => ?_, fun hw ac w' K => ?_, fun hw ac w' K => ?_, fun hw ac w' K => ?_, fun hw ac w' K => ?_, trivial⟩ ?_
        · exact st_move (.tmp 9) rfl ((K.old 9 rfl).trans x9)
        · exact st_move (.tmp 65) rfl (K.dep 0 65 rfl)
        · exact (Bool.false_ne_true hw).elim
        · exact (Bool.false_ne_true hw).elim
        · exact (Bool.false_ne_true hw).elim
        · exact (Bool.false_ne_true hw).elim
        · exact (Bool.false_ne_true hw).elim
        · exact (Bool.false_ne_true hw).elim
        · exact (Bool.false_ne_true hw).elim
        · exact (Bool.false_ne_true hw).elim
        · exact (Bool.false_ne_true hw).elim
        · exact st_pick_t (.tmp 66) (.const (.bool true)) (.tmp 75) rfl (K.dep 1 66 rfl) rfl
        intro f12 w12 A hb
        replace x2 : Fk.f (.eq (.pointer (some ⟨g2, 0, none⟩))) (f12.eval (.tmp 2)) w12 := f_at (A.old 2 rfl) (Fk.mono _ _ _ _ x2 hb)
        replace x3 : Fk.f (.eq (.pointer (some ⟨g3, 0, none⟩))) (f12.eval (.tmp 3)) w12 := f_at (A.old 3 rfl) (Fk.mono _ _ _ _ x3 hb)
        replace x5 : Fk.f (.ds (dig (xa))) (f12.eval (.tmp 5)) w12 := f_at (A.old 5 rfl) (Fk.mono _ _ _ _ x5 hb)
        replace x6 : Fk.f (.ds (dig (xb))) (f12.eval (.tmp 6)) w12 := f_at (A.old 6 rfl) (Fk.mono _ _ _ _ x6 hb)
        replace x7 : Fk.f (.ds (dig (xa))) (f12.eval (.tmp 7)) w12 := f_at (A.old 7 rfl) (Fk.mono _ _ _ _ x7 hb)
        replace x8 : Fk.f (.eq (.bool (lessB xa xb (k + 1)))) (f12.eval (.tmp 8)) w12 := f_at (A.old 8 rfl) (Fk.mono _ _ _ _ x8 hb)
        replace x9 : Fk.f (.eq (.bool true)) (f12.eval (.tmp 9)) w12 := f_at (A.old 9 rfl) (Fk.mono _ _ _ _ x9 hb)
        replace x26 : Fk.f (.eq (.int .i64 (((dig (xa)).length : Nat) : Int))) (f12.eval (.tmp 26)) w12 := f_at (A.old 26 rfl) (Fk.mono _ _ _ _ x26 hb)
        replace x27 : Fk.f (.eq (.int .i64 ((k : Nat) : Int))) (f12.eval (.tmp 27)) w12 := f_at (A.old 27 rfl) (Fk.mono _ _ _ _ x27 hb)
        replace x10 : Fk.f (.eq (.int .i64 ((k : Nat) : Int))) (f12.eval (.tmp 10)) w12 := f_at (A.old 10 rfl) (Fk.mono _ _ _ _ x10 hb)
        have x76 : Fk.f (.eq (.bool true)) (f12.eval (.tmp 76)) w12 := A.has 11 76 rfl
        replace m2 := HasV.below m2 hb (HasV.lt m2)
        replace m3 := HasV.below m3 hb (HasV.lt m3)
        replace tb := tb.below hb
        replace sz := A.size.trans sz
        replace df := A.defs.trans df
        replace a2 := (A.old 2 rfl).trans a2
        replace a3 := (A.old 3 rfl).trans a3
        replace a5 := (A.old 5 rfl).trans a5
        replace a6 := (A.old 6 rfl).trans a6
        replace a7 := (A.old 7 rfl).trans a7
        replace a26 := (A.old 26 rfl).trans a26
        replace hL := hL.trans (Below.mono hb hL.size)
        clear A hb
        refine wl_assign rfl (.tmp 76) rfl 9 rfl (by rw [sz]; decide) ?_
        intro f13 df2 sz2 old2 new2
        have nx9 : Fk.f (.eq (.bool true)) (f13.eval (.tmp 9)) w12 := f_at new2 x76
        replace x2 : Fk.f (.eq (.pointer (some ⟨g2, 0, none⟩))) (f13.eval (.tmp 2)) w12 := f_at (old2 2 rfl) x2
        replace x3 : Fk.f (.eq (.pointer (some ⟨g3, 0, none⟩))) (f13.eval (.tmp 3)) w12 := f_at (old2 3 rfl) x3
        replace x5 : Fk.f (.ds (dig (xa))) (f13.eval (.tmp 5)) w12 := f_at (old2 5 rfl) x5
        replace x6 : Fk.f (.ds (dig (xb))) (f13.eval (.tmp 6)) w12 := f_at (old2 6 rfl) x6
        replace x7 : Fk.f (.ds (dig (xa))) (f13.eval (.tmp 7)) w12 := f_at (old2 7 rfl) x7
        replace x8 : Fk.f (.eq (.bool (lessB xa xb (k + 1)))) (f13.eval (.tmp 8)) w12 := f_at (old2 8 rfl) x8
        replace x26 : Fk.f (.eq (.int .i64 (((dig (xa)).length : Nat) : Int))) (f13.eval (.tmp 26)) w12 := f_at (old2 26 rfl) x26
        replace x27 : Fk.f (.eq (.int .i64 ((k : Nat) : Int))) (f13.eval (.tmp 27)) w12 := f_at (old2 27 rfl) x27
        replace x10 : Fk.f (.eq (.int .i64 ((k : Nat) : Int))) (f13.eval (.tmp 10)) w12 := f_at (old2 10 rfl) x10
        replace x76 : Fk.f (.eq (.bool true)) (f13.eval (.tmp 76)) w12 := f_at (old2 76 rfl) x76
        have x9 := nx9
        replace sz := sz2.trans sz
        replace df := df2.trans df
        replace a2 := (old2 2 rfl).trans a2
        replace a3 := (old2 3 rfl).trans a3
        replace a5 := (old2 5 rfl).trans a5
        replace a6 := (old2 6 rfl).trans a6
        replace a7 := (old2 7 rfl).trans a7
        replace a26 := (old2 26 rfl).trans a26
        clear df2 sz2 old2 new2 nx9
        clear x76
        refine wpList_nil ?_
        replace x9 : Fk.f (.eq (.bool (lessB xb xa (k + 1)))) (f13.eval (.tmp 9)) w12 := (by rw [less_t h9]; exact x9)
        show Code.wp _ _ _ _ _
        clear x10
        refine wp_region_seq [.eq (.int .i64 ((k + 1 : Nat) : Int))] (by kernel_rfl) (by kernel_rfl) (by rw [sz]; kernel_rfl) (by kernel_rfl) ⟨fun hw ac w' K => ?_, trivial⟩ ?_
        · exact st_add1 (.tmp 27) rfl k (by omega) ((K.old 27 rfl).trans x27)
        intro f14 w14 A hb
        replace x2 : Fk.f (.eq (.pointer (some ⟨g2, 0, none⟩))) (f14.eval (.tmp 2)) w14 := f_at (A.old 2 rfl) (Fk.mono _ _ _ _ x2 hb)
        replace x3 : Fk.f (.eq (.pointer (some ⟨g3, 0, none⟩))) (f14.eval (.tmp 3)) w14 := f_at (A.old 3 rfl) (Fk.mono _ _ _ _ x3 hb)
        replace x5 : Fk.f (.ds (dig (xa))) (f14.eval (.tmp 5)) w14 := f_at (A.old 5 rfl) (Fk.mono _ _ _ _ x5 hb)
        replace x6 : Fk.f (.ds (dig (xb))) (f14.eval (.tmp 6)) w14 := f_at (A.old 6 rfl) (Fk.mono _ _ _ _ x6 hb)
        replace x7 : Fk.f (.ds (dig (xa))) (f14.eval (.tmp 7)) w14 := f_at (A.old 7 rfl) (Fk.mono _ _ _ _ x7 hb)
        replace x8 : Fk.f (.eq (.bool (lessB xa xb (k + 1)))) (f14.eval (.tmp 8)) w14 := f_at (A.old 8 rfl) (Fk.mono _ _ _ _ x8 hb)
        replace x9 : Fk.f (.eq (.bool (lessB xb xa (k + 1)))) (f14.eval (.tmp 9)) w14 := f_at (A.old 9 rfl) (Fk.mono _ _ _ _ x9 hb)
        replace x26 : Fk.f (.eq (.int .i64 (((dig (xa)).length : Nat) : Int))) (f14.eval (.tmp 26)) w14 := f_at (A.old 26 rfl) (Fk.mono _ _ _ _ x26 hb)
        replace x27 : Fk.f (.eq (.int .i64 ((k : Nat) : Int))) (f14.eval (.tmp 27)) w14 := f_at (A.old 27 rfl) (Fk.mono _ _ _ _ x27 hb)
        have x77 : Fk.f (.eq (.int .i64 ((k + 1 : Nat) : Int))) (f14.eval (.tmp 77)) w14 := A.has 0 77 rfl
        replace m2 := HasV.below m2 hb (HasV.lt m2)
        replace m3 := HasV.below m3 hb (HasV.lt m3)
        replace tb := tb.below hb
        replace sz := A.size.trans sz
        replace df := A.defs.trans df
        replace a2 := (A.old 2 rfl).trans a2
        replace a3 := (A.old 3 rfl).trans a3
        replace a5 := (A.old 5 rfl).trans a5
        replace a6 := (A.old 6 rfl).trans a6
        replace a7 := (A.old 7 rfl).trans a7
        replace a26 := (A.old 26 rfl).trans a26
        replace hL := hL.trans (Below.mono hb hL.size)
        clear A hb
        refine wl_move rfl (.tmp 77) rfl 27 rfl (by rw [sz]; decide) ?_
        intro f15 df2 sz2 old2 new2
        have nx27 : Fk.f (.eq (.int .i64 ((k + 1 : Nat) : Int))) (f15.eval (.tmp 27)) w14 := f_at new2 x77
        replace x2 : Fk.f (.eq (.pointer (some ⟨g2, 0, none⟩))) (f15.eval (.tmp 2)) w14 := f_at (old2 2 rfl) x2
        replace x3 : Fk.f (.eq (.pointer (some ⟨g3, 0, none⟩))) (f15.eval (.tmp 3)) w14 := f_at (old2 3 rfl) x3
        replace x5 : Fk.f (.ds (dig (xa))) (f15.eval (.tmp 5)) w14 := f_at (old2 5 rfl) x5
        replace x6 : Fk.f (.ds (dig (xb))) (f15.eval (.tmp 6)) w14 := f_at (old2 6 rfl) x6
        replace x7 : Fk.f (.ds (dig (xa))) (f15.eval (.tmp 7)) w14 := f_at (old2 7 rfl) x7
        replace x8 : Fk.f (.eq (.bool (lessB xa xb (k + 1)))) (f15.eval (.tmp 8)) w14 := f_at (old2 8 rfl) x8
        replace x9 : Fk.f (.eq (.bool (lessB xb xa (k + 1)))) (f15.eval (.tmp 9)) w14 := f_at (old2 9 rfl) x9
        replace x26 : Fk.f (.eq (.int .i64 (((dig (xa)).length : Nat) : Int))) (f15.eval (.tmp 26)) w14 := f_at (old2 26 rfl) x26
        replace x77 : Fk.f (.eq (.int .i64 ((k + 1 : Nat) : Int))) (f15.eval (.tmp 77)) w14 := f_at (old2 77 rfl) x77
        have x27 := nx27
        replace sz := sz2.trans sz
        replace df := df2.trans df
        replace a2 := (old2 2 rfl).trans a2
        replace a3 := (old2 3 rfl).trans a3
        replace a5 := (old2 5 rfl).trans a5
        replace a6 := (old2 6 rfl).trans a6
        replace a7 := (old2 7 rfl).trans a7
        replace a26 := (old2 26 rfl).trans a26
        clear df2 sz2 old2 new2 nx27
        clear x77
        refine wpList_nil ?_
        show (∃ _, _) ∧ _
        refine ⟨⟨k + 1, by omega, sz, df, a2, a3, a5, a6, a7, a26, x27, x8, x9, hL⟩, ?_⟩
        rw [show f15.eval (.tmp 27) = _ from x27, show _ = _ from c27]
        simp [intOf]
        omega
  · have hk67 : k = 67 := by omega
    refine wp_seq ?_
    refine wp_all_seq [.eq (.bool false)] (by kernel_rfl) (by kernel_rfl) (by rw [sz]; kernel_rfl) (by kernel_rfl) ⟨fun hw ac w' K => ?_, trivial⟩ ?_
    · exact st_lss 3 (.tmp 27) (.tmp 26) rfl .i64 (((k : Nat) : Int)) ((((dig (xa)).length : Nat) : Int)) ((K.old 27 rfl).trans x27) ((K.old 26 rfl).trans x26) _ (by rw [hda]; simp; omega)
    intro f7 w7 A hb
    replace x2 : Fk.f (.eq (.pointer (some ⟨g2, 0, none⟩))) (f7.eval (.tmp 2)) w7 := f_at (A.old 2 rfl) (Fk.mono _ _ _ _ x2 hb)
    replace x3 : Fk.f (.eq (.pointer (some ⟨g3, 0, none⟩))) (f7.eval (.tmp 3)) w7 := f_at (A.old 3 rfl) (Fk.mono _ _ _ _ x3 hb)
    replace x5 : Fk.f (.ds (dig (xa))) (f7.eval (.tmp 5)) w7 := f_at (A.old 5 rfl) (Fk.mono _ _ _ _ x5 hb)
    replace x6 : Fk.f (.ds (dig (xb))) (f7.eval (.tmp 6)) w7 := f_at (A.old 6 rfl) (Fk.mono _ _ _ _ x6 hb)
    replace x7 : Fk.f (.ds (dig (xa))) (f7.eval (.tmp 7)) w7 := f_at (A.old 7 rfl) (Fk.mono _ _ _ _ x7 hb)
    replace x8 : Fk.f (.eq (.bool (lessB xa xb k))) (f7.eval (.tmp 8)) w7 := f_at (A.old 8 rfl) (Fk.mono _ _ _ _ x8 hb)
    replace x9 : Fk.f (.eq (.bool (lessB xb xa k))) (f7.eval (.tmp 9)) w7 := f_at (A.old 9 rfl) (Fk.mono _ _ _ _ x9 hb)
    replace x26 : Fk.f (.eq (.int .i64 (((dig (xa)).length : Nat) : Int))) (f7.eval (.tmp 26)) w7 := f_at (A.old 26 rfl) (Fk.mono _ _ _ _ x26 hb)
    replace x27 : Fk.f (.eq (.int .i64 ((k : Nat) : Int))) (f7.eval (.tmp 27)) w7 := f_at (A.old 27 rfl) (Fk.mono _ _ _ _ x27 hb)
    have x28 : Fk.f (.eq (.bool false)) (f7.eval (.tmp 28)) w7 := A.has 0 28 rfl
    replace m2 := HasV.below m2 hb (HasV.lt m2)
    replace m3 := HasV.below m3 hb (HasV.lt m3)
    replace tb := tb.below hb
    replace sz := A.size.trans sz
    replace df := A.defs.trans df
    replace a2 := (A.old 2 rfl).trans a2
    replace a3 := (A.old 3 rfl).trans a3
    replace a5 := (A.old 5 rfl).trans a5
    replace a6 := (A.old 6 rfl).trans a6
    replace a7 := (A.old 7 rfl).trans a7
    replace a26 := (A.old 26 rfl).trans a26
    replace hL := hL.trans (Below.mono hb hL.size)
    clear A hb
    show Code.wp _ _ _ _ _
    refine wp_seq ?_
    refine wp_cond_false x28 ?_
    refine wp_exit ?_
    clear x28
    show Code.wp _ _ _ _ _
    refine wp_seq ?_
    have bl := blL.trans (Below.mono hL blL.size)
    rw [hk67] at x8 x9
    by_cases hab : xa = xb
    · rw [hab, less_self] at x8 x9
      refine wp_all_seq [.eq (.agg ((xa).map V).toArray), .eq (.agg ((xb).map V).toArray), .eq (.bool true), .eq (.bool false), .eq (.bool true), .eq (.bool true), .eq (.bool true), .eq (.agg ((xa).map V).toArray), .eq (.agg ((xb).map V).toArray), .eq (.bool true), .eq (.bool false), .eq (.bool true), .eq (.bool true), .eq (.bool true), .eq (.bool true), .eq (.bool true), .eq (.bool true), .eq (.bool true)] (by kernel_rfl) (by kernel_rfl) (by rw [sz]; kernel_rfl) (by kernel_rfl) ⟨fun hw ac w' K => ?_, fun hw ac w' K => ?_, fun hw ac w' K => ?_, fun hw ac w' K => ?_, fun hw ac w' K => ?_, fun hw ac w' K => ?_, fun hw ac w' K => ?_, fun hw ac w' K => ?_, fun hw ac w' K => ?_, fun hw ac w' K => ?_, fun hw ac w' K => ?_, fun hw ac w' K => ?_, fun hw ac w' K => ?_, fun hw ac w' K => ?_, fun hw ac w' K => ?_, fun hw ac w' K => ?_, fun hw ac w' K => ?_, fun hw ac w' K => ?_, trivial⟩ ?_
      · exact st_load23 (.tmp 2) rfl _ (xa) ((K.old 2 rfl).trans x2) hx (HasV.below m2 K.grow (HasV.lt m2))
      · exact st_load23 (.tmp 3) rfl _ (xb) ((K.old 3 rfl).trans x3) hy (HasV.below m3 K.grow (HasV.lt m3))
      · exact st_eqh (.tmp 78) (.tmp 79) rfl (xa) (xb) hx hy (K.dep 0 78 rfl) (K.dep 1 79 rfl) _ (by simp [hab])
      · exact st_move (.tmp 8) rfl ((K.old 8 rfl).trans x8)
      · exact st_not (.tmp 81) rfl false (K.dep 3 81 rfl)
      · exact st_eqbb (.tmp 80) (.tmp 82) rfl (true) (true) (K.dep 2 80 rfl) (K.dep 4 82 rfl) _ (by rfl)
      · exact st_move (.tmp 83) rfl (K.dep 5 83 rfl)
      · exact st_load23 (.tmp 2) rfl _ (xa) ((K.old 2 rfl).trans x2) hx (HasV.below m2 K.grow (HasV.lt m2))
      · exact st_load23 (.tmp 3) rfl _ (xb) ((K.old 3 rfl).trans x3) hy (HasV.below m3 K.grow (HasV.lt m3))
      · exact st_eqh (.tmp 85) (.tmp 86) rfl (xa) (xb) hx hy (K.dep 7 85 rfl) (K.dep 8 86 rfl) _ (by simp [hab])
      · exact st_move (.tmp 9) rfl ((K.old 9 rfl).trans x9)
      · exact st_not (.tmp 88) rfl false (K.dep 10 88 rfl)
      · exact st_eqbb (.tmp 87) (.tmp 89) rfl (true) (true) (K.dep 9 87 rfl) (K.dep 11 89 rfl) _ (by rfl)
      · exact st_pick_t (.tmp 84) (.tmp 90) (.const (.bool false)) rfl (K.dep 6 84 rfl) (K.dep 12 90 rfl)
      · exact st_move (.tmp 91) rfl (K.dep 13 91 rfl)
      · exact st_call 10 (.func 10) _ _ #[] rfl rfl rfl Tryd.enter10 (fk_of (awake_any _ (tb.below K.grow)))
      · exact st_pick_t (.tmp 92) (.tmp 93) (.const (.bool false)) rfl (K.dep 14 92 rfl) (K.dep 15 93 rfl)
      · exact st_assign (.tmp 94) rfl (K.dep 16 94 rfl)
      intro f8 w8 A hb
      replace x2 : Fk.f (.eq (.pointer (some ⟨g2, 0, none⟩))) (f8.eval (.tmp 2)) w8 := f_at (A.old 2 rfl) (Fk.mono _ _ _ _ x2 hb)
      replace x3 : Fk.f (.eq (.pointer (some ⟨g3, 0, none⟩))) (f8.eval (.tmp 3)) w8 := f_at (A.old 3 rfl) (Fk.mono _ _ _ _ x3 hb)
      replace x5 : Fk.f (.ds (dig (xa))) (f8.eval (.tmp 5)) w8 := f_at (A.old 5 rfl) (Fk.mono _ _ _ _ x5 hb)
      replace x6 : Fk.f (.ds (dig (xb))) (f8.eval (.tmp 6)) w8 := f_at (A.old 6 rfl) (Fk.mono _ _ _ _ x6 hb)
      replace x7 : Fk.f (.ds (dig (xa))) (f8.eval (.tmp 7)) w8 := f_at (A.old 7 rfl) (Fk.mono _ _ _ _ x7 hb)
      replace x8 : Fk.f (.eq (.bool false)) (f8.eval (.tmp 8)) w8 := f_at (A.old 8 rfl) (Fk.mono _ _ _ _ x8 hb)
      replace x9 : Fk.f (.eq (.bool false)) (f8.eval (.tmp 9)) w8 := f_at (A.old 9 rfl) (Fk.mono _ _ _ _ x9 hb)
      replace x26 : Fk.f (.eq (.int .i64 (((dig (xa)).length : Nat) : Int))) (f8.eval (.tmp 26)) w8 := f_at (A.old 26 rfl) (Fk.mono _ _ _ _ x26 hb)
      replace x27 : Fk.f (.eq (.int .i64 ((k : Nat) : Int))) (f8.eval (.tmp 27)) w8 := f_at (A.old 27 rfl) (Fk.mono _ _ _ _ x27 hb)
      have x4 : Fk.f (.eq (.bool true)) (f8.eval (.tmp 4)) w8 := A.has 17 4 rfl
      replace m2 := HasV.below m2 hb (HasV.lt m2)
      replace m3 := HasV.below m3 hb (HasV.lt m3)
      replace tb := tb.below hb
      replace bl := bl.trans (Below.mono hb bl.size)
      replace sz := A.size.trans sz
      replace df := A.defs.trans df
      clear A hb
      show Code.wp _ _ _ _ _
      refine wp_ret ?_
      exact bodyPost_ret (v := .bool true) (ret_slot rfl f8 _ x4 _ _) df ⟨rfl, bl⟩
    · rw [less_ne xa xb hx hy hab] at x8
      rw [less_ne xb xa hy hx (Ne.symm hab)] at x9
      refine wp_all_seq [.eq (.agg ((xa).map V).toArray), .eq (.agg ((xb).map V).toArray), .eq (.bool false), .eq (.bool true), .eq (.bool false), .eq (.bool true), .eq (.bool true), .eq (.agg ((xa).map V).toArray), .eq (.agg ((xb).map V).toArray), .eq (.bool false), .eq (.bool true), .eq (.bool false), .eq (.bool true), .eq (.bool true), .eq (.bool true), .eq (.bool true), .eq (.bool true), .eq (.bool true)] (by kernel_rfl) (by kernel_rfl) (by rw [sz]; kernel_rfl) (by kernel_rfl) ⟨fun hw ac w' K => ?_, fun hw ac w' K => ?_, fun hw ac w' K => ?_, fun hw ac w' K => ?_, fun hw ac w' K => ?_, fun hw ac w' K => ?_, fun hw ac w' K => ?_, fun hw ac w' K => ?_, fun hw ac w' K => ?_, fun hw ac w' K => ?_, fun hw ac w' K => ?_, fun hw ac w' K => ?_, fun hw ac w' K => ?_, fun hw ac w' K => ?_, fun hw ac w' K => ?_, fun hw ac w' K => ?_, fun hw ac w' K => ?_, fun hw ac w' K => ?_, trivial⟩ ?_
      · exact st_load23 (.tmp 2) rfl _ (xa) ((K.old 2 rfl).trans x2) hx (HasV.below m2 K.grow (HasV.lt m2))
      · exact st_load23 (.tmp 3) rfl _ (xb) ((K.old 3 rfl).trans x3) hy (HasV.below m3 K.grow (HasV.lt m3))
      · exact st_eqh (.tmp 78) (.tmp 79) rfl (xa) (xb) hx hy (K.dep 0 78 rfl) (K.dep 1 79 rfl) _ (by simp [hab])
      · exact st_move (.tmp 8) rfl ((K.old 8 rfl).trans x8)
      · exact st_not (.tmp 81) rfl true (K.dep 3 81 rfl)
      · exact st_eqbb (.tmp 80) (.tmp 82) rfl (false) (false) (K.dep 2 80 rfl) (K.dep 4 82 rfl) _ (by rfl)
      · exact st_move (.tmp 83) rfl (K.dep 5 83 rfl)
      · exact st_load23 (.tmp 2) rfl _ (xa) ((K.old 2 rfl).trans x2) hx (HasV.below m2 K.grow (HasV.lt m2))
      · exact st_load23 (.tmp 3) rfl _ (xb) ((K.old 3 rfl).trans x3) hy (HasV.below m3 K.grow (HasV.lt m3))
      · exact st_eqh (.tmp 85) (.tmp 86) rfl (xa) (xb) hx hy (K.dep 7 85 rfl) (K.dep 8 86 rfl) _ (by simp [hab])
      · exact st_move (.tmp 9) rfl ((K.old 9 rfl).trans x9)
      · exact st_not (.tmp 88) rfl true (K.dep 10 88 rfl)
      · exact st_eqbb (.tmp 87) (.tmp 89) rfl (false) (false) (K.dep 9 87 rfl) (K.dep 11 89 rfl) _ (by rfl)
      · exact st_pick_t (.tmp 84) (.tmp 90) (.const (.bool false)) rfl (K.dep 6 84 rfl) (K.dep 12 90 rfl)
      · exact st_move (.tmp 91) rfl (K.dep 13 91 rfl)
      · exact st_call 10 (.func 10) _ _ #[] rfl rfl rfl Tryd.enter10 (fk_of (awake_any _ (tb.below K.grow)))
      · exact st_pick_t (.tmp 92) (.tmp 93) (.const (.bool false)) rfl (K.dep 14 92 rfl) (K.dep 15 93 rfl)
      · exact st_assign (.tmp 94) rfl (K.dep 16 94 rfl)
      intro f8 w8 A hb
      replace x2 : Fk.f (.eq (.pointer (some ⟨g2, 0, none⟩))) (f8.eval (.tmp 2)) w8 := f_at (A.old 2 rfl) (Fk.mono _ _ _ _ x2 hb)
      replace x3 : Fk.f (.eq (.pointer (some ⟨g3, 0, none⟩))) (f8.eval (.tmp 3)) w8 := f_at (A.old 3 rfl) (Fk.mono _ _ _ _ x3 hb)
      replace x5 : Fk.f (.ds (dig (xa))) (f8.eval (.tmp 5)) w8 := f_at (A.old 5 rfl) (Fk.mono _ _ _ _ x5 hb)
      replace x6 : Fk.f (.ds (dig (xb))) (f8.eval (.tmp 6)) w8 := f_at (A.old 6 rfl) (Fk.mono _ _ _ _ x6 hb)
      replace x7 : Fk.f (.ds (dig (xa))) (f8.eval (.tmp 7)) w8 := f_at (A.old 7 rfl) (Fk.mono _ _ _ _ x7 hb)
      replace x8 : Fk.f (.eq (.bool true)) (f8.eval (.tmp 8)) w8 := f_at (A.old 8 rfl) (Fk.mono _ _ _ _ x8 hb)
      replace x9 : Fk.f (.eq (.bool true)) (f8.eval (.tmp 9)) w8 := f_at (A.old 9 rfl) (Fk.mono _ _ _ _ x9 hb)
      replace x26 : Fk.f (.eq (.int .i64 (((dig (xa)).length : Nat) : Int))) (f8.eval (.tmp 26)) w8 := f_at (A.old 26 rfl) (Fk.mono _ _ _ _ x26 hb)
      replace x27 : Fk.f (.eq (.int .i64 ((k : Nat) : Int))) (f8.eval (.tmp 27)) w8 := f_at (A.old 27 rfl) (Fk.mono _ _ _ _ x27 hb)
      have x4 : Fk.f (.eq (.bool true)) (f8.eval (.tmp 4)) w8 := A.has 17 4 rfl
      replace m2 := HasV.below m2 hb (HasV.lt m2)
      replace m3 := HasV.below m3 hb (HasV.lt m3)
      replace tb := tb.below hb
      replace bl := bl.trans (Below.mono hb bl.size)
      replace sz := A.size.trans sz
      replace df := A.defs.trans df
      clear A hb
      show Code.wp _ _ _ _ _
      refine wp_ret ?_
      exact bodyPost_ret (v := .bool true) (ret_slot rfl f8 _ x4 _ _) df ⟨rfl, bl⟩
end Go.Proofs.YthnaomkkaodbkaaDoor
