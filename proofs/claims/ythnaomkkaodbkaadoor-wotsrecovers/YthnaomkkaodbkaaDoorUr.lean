/- Made by gen_ur.py. The walk of WotsRecovers. -/
import Derived.Test.YthnaomkkaodbkaaDoorUo
namespace Go.Proofs.YthnaomkkaodbkaaDoor
open Go.RowKit
set_option maxHeartbeats 1000000 in
theorem recovers_law (xs : List (BitVec 8)) (A : Option Addr) (n C lb lo : Nat) (hs : List (List (BitVec 8))) (w : World) (hx : xs.length = 32) (hl : Hl w A lb lo hs) (hn : n = hs.length) (hK : Tab w) :
    Calls Tryd.prog 5 #[.agg (xs.map V).toArray, .slice A n C] w fun e w' => e = .returned (.bool true) ∧ Below w.heap.size w w' := by
  go_enter Tryd.func5, Tryd.ntmps5
  go_upto_region 1 with fail
  rename_i K1 hK1 KK hKK
  refine code_both (fun f w1 => f.tmps.size = 63 ∧ f.defers = [] ∧ Fk.f (.hs (hs)) (f.eval (.tmp 1)) w1 ∧ Fk.f (.eq (.pointer (some ⟨w.heap.size, 0, none⟩))) (f.eval (.tmp 2)) w1 ∧ HasV w1 w.heap.size 23 xs ∧ Below w.heap.size w w1) ?_ ?_
  · have hb := (Below.refl w.heap.size w).alloc (Nat.le_refl _) (Obj.cells (xs.map V).toArray 23)
    exact ⟨rfl, rfl, ⟨A, C, lb, lo, by rw [← hn]; rfl, hl.below hb⟩, rfl, heap_alloc_new _ _, hb⟩
  rintro f0 w0 ⟨sz, df, x1, x2, m2, bl⟩
  have tb := hK.below bl
  obtain ⟨g2, hg2⟩ : ∃ g2, g2 = w.heap.size := ⟨_, rfl⟩
  rw [← hg2] at x2 m2
  have h32 : ∀ (i : Nat) (x : List (BitVec 8)), hs[i]? = some x → x.length = 32 := fun i x hi => (hl.all i x hi).1
  clear hl
  by_cases q100 : 100 < hs.length
  · refine wp_all_seq [.hs (hs), .eq (.int .i64 (((hs).length : Nat) : Int)), .eq (.bool true)] (by kernel_rfl) (by kernel_rfl) (by rw [sz]; kernel_rfl) (by kernel_rfl) ⟨fun hw ac w' K => ?_, fun hw ac w' K => ?_, fun hw ac w' K => ?_, trivial⟩ ?_
    · exact st_move (.tmp 1) rfl (f_at (K.old 1 rfl) (Fk.mono _ _ _ _ x1 K.grow))
    · exact st_lenh (.tmp 10) rfl (K.dep 0 10 rfl)
    · exact st_gtr 3 (.tmp 11) (.const (.int .i64 100)) rfl .i64 ((((hs).length : Nat) : Int)) (100) (K.dep 1 11 rfl) rfl _ (by simp; omega)
    intro f1 w1 A hb
    replace x1 : Fk.f (.hs (hs)) (f1.eval (.tmp 1)) w1 := f_at (A.old 1 rfl) (Fk.mono _ _ _ _ x1 hb)
    replace x2 : Fk.f (.eq (.pointer (some ⟨g2, 0, none⟩))) (f1.eval (.tmp 2)) w1 := f_at (A.old 2 rfl) (Fk.mono _ _ _ _ x2 hb)
    have x12 : Fk.f (.eq (.bool true)) (f1.eval (.tmp 12)) w1 := A.has 2 12 rfl
    replace m2 := HasV.below m2 hb (HasV.lt m2)
    replace tb := tb.below hb
    replace bl := bl.trans (Below.mono hb bl.size)
    replace sz := A.size.trans sz
    replace df := A.defs.trans df
    clear A hb
    refine hKK _ _ ?_
    refine wp_cond_true x12 ?_
    refine wp_seq ?_
    refine wp_all_seq [.eq (.bool true), .eq (.bool true)] (by kernel_rfl) (by kernel_rfl) (by rw [sz]; kernel_rfl) (by kernel_rfl) ⟨fun hw ac w' K => ?_, fun hw ac w' K => ?_, trivial⟩ ?_
    · exact st_call 10 (.func 10) _ _ #[] rfl rfl rfl Tryd.enter10 (fk_of (awake_any _ (tb.below K.grow)))
    · exact st_assign (.tmp 13) rfl (K.dep 0 13 rfl)
    intro f2 w2 A hb
    replace x1 : Fk.f (.hs (hs)) (f2.eval (.tmp 1)) w2 := f_at (A.old 1 rfl) (Fk.mono _ _ _ _ x1 hb)
    replace x2 : Fk.f (.eq (.pointer (some ⟨g2, 0, none⟩))) (f2.eval (.tmp 2)) w2 := f_at (A.old 2 rfl) (Fk.mono _ _ _ _ x2 hb)
    replace x12 : Fk.f (.eq (.bool true)) (f2.eval (.tmp 12)) w2 := f_at (A.old 12 rfl) (Fk.mono _ _ _ _ x12 hb)
    have x4 : Fk.f (.eq (.bool true)) (f2.eval (.tmp 4)) w2 := A.has 1 4 rfl
    replace m2 := HasV.below m2 hb (HasV.lt m2)
    replace tb := tb.below hb
    replace bl := bl.trans (Below.mono hb bl.size)
    replace sz := A.size.trans sz
    replace df := A.defs.trans df
    clear A hb
    show Code.wp _ _ _ _ _
    refine wp_ret (then_ret ?_)
    exact bodyPost_ret (v := .bool true) (ret_slot rfl f2 _ x4 _ _) df ⟨rfl, bl⟩
  · refine wp_all_seq [.hs (hs), .eq (.int .i64 (((hs).length : Nat) : Int)), .eq (.bool false)] (by kernel_rfl) (by kernel_rfl) (by rw [sz]; kernel_rfl) (by kernel_rfl) ⟨fun hw ac w' K => ?_, fun hw ac w' K => ?_, fun hw ac w' K => ?_, trivial⟩ ?_
    · exact st_move (.tmp 1) rfl (f_at (K.old 1 rfl) (Fk.mono _ _ _ _ x1 K.grow))
    · exact st_lenh (.tmp 10) rfl (K.dep 0 10 rfl)
    · exact st_gtr 3 (.tmp 11) (.const (.int .i64 100)) rfl .i64 ((((hs).length : Nat) : Int)) (100) (K.dep 1 11 rfl) rfl _ (by simp; omega)
    intro f1 w1 A hb
    replace x1 : Fk.f (.hs (hs)) (f1.eval (.tmp 1)) w1 := f_at (A.old 1 rfl) (Fk.mono _ _ _ _ x1 hb)
    replace x2 : Fk.f (.eq (.pointer (some ⟨g2, 0, none⟩))) (f1.eval (.tmp 2)) w1 := f_at (A.old 2 rfl) (Fk.mono _ _ _ _ x2 hb)
    have x12 : Fk.f (.eq (.bool false)) (f1.eval (.tmp 12)) w1 := A.has 2 12 rfl
    replace m2 := HasV.below m2 hb (HasV.lt m2)
    replace tb := tb.below hb
    replace bl := bl.trans (Below.mono hb bl.size)
    replace sz := A.size.trans sz
    replace df := A.defs.trans df
    clear A hb
    refine hKK _ _ ?_
    refine wp_cond_false x12 ?_
    refine wp_skip ?_
    refine hK1 _ _ ?_
    refine wp_seq ?_
    clear x12
    by_cases q67 : hs.length = 67
    · obtain ⟨p, ep⟩ : ∃ p, Box (pub (all67 (recOf xs hs)) = p) := ⟨_, ⟨rfl⟩⟩
      have hpl : p.length = 32 := by rw [← ep.out]; exact pub_len _
      refine wp_region_seq [.eq (.agg ((xs).map V).toArray), .hs (hs), .eq (.tuple #[.agg ((p).map V).toArray, .int .i64 0]), .eq (.tuple #[.agg ((p).map V).toArray, .int .i64 0]), .eq (.agg ((p).map V).toArray), .eq (.int .i64 0), .pn w1.heap.size hz] (by kernel_rfl) (by kernel_rfl) (by rw [sz]; kernel_rfl) (by kernel_rfl) ⟨fun hw ac w' K => ?_, fun hw ac w' K => ?_, fun hw ac w' K => ?_, fun hw ac w' K => ?_, fun hw ac w' K => ?_, fun hw ac w' K => ?_, fun hw ac w' K => ?_, trivial⟩ ?_
      · exact st_load23 (.tmp 2) rfl _ (xs) ((K.old 2 rfl).trans x2) hx (HasV.below m2 K.grow (HasV.lt m2))
      · exact st_move (.tmp 1) rfl (f_at (K.old 1 rfl) (Fk.mono _ _ _ _ x1 K.grow))
      · exact st_call 15 (.func 15) _ _ #[.agg ((xs).map V).toArray, ac.eval (.tmp 16)] rfl rfl (arg2 (K.dep 0 15 rfl) rfl) Tryd.enter15 (fk_recover_ok hx q67 (tb.below K.grow) (K.dep 1 16 rfl) ep)
      · exact st_move (.tmp 17) rfl (K.dep 2 17 rfl)
      · exact st_ext0 (.tmp 14) rfl (K.dep 3 14 rfl) rfl
      · exact st_ext1 (.tmp 14) rfl (K.dep 3 14 rfl) rfl
      · exact st_alloc23 rfl _ K.grow.size
      intro f2 w2 A hb
      obtain ⟨g5, hg5, e5, m5⟩ := A.has 6 5 rfl
      refine wl_store rfl (.tmp 5) (.tmp 18) rfl rfl g5 (p) hz e5 (A.has 4 18 rfl) m5 hz_len hpl ?_
      replace hb := Below.trans hb (below_setRow _ _ _ ((p).map V).toArray hg5)
      replace m5 : HasV (w2.setRow g5 ((p).map V).toArray) g5 23 (p) := HasV.setRow m5
      generalize w2.setRow g5 ((p).map V).toArray = w2b at hb m5 ⊢
      replace x1 : Fk.f (.hs (hs)) (f2.eval (.tmp 1)) w2b := f_at (A.old 1 rfl) (Fk.mono _ _ _ _ x1 hb)
      replace x2 : Fk.f (.eq (.pointer (some ⟨g2, 0, none⟩))) (f2.eval (.tmp 2)) w2b := f_at (A.old 2 rfl) (Fk.mono _ _ _ _ x2 hb)
      have x5 : Fk.f (.eq (.pointer (some ⟨g5, 0, none⟩))) (f2.eval (.tmp 5)) w2b := e5
      have x19 : Fk.f (.eq (.int .i64 0)) (f2.eval (.tmp 19)) w2b := A.has 5 19 rfl
      replace m2 := HasV.below m2 hb (HasV.lt m2)
      replace tb := tb.below hb
      replace bl := bl.trans (Below.mono hb bl.size)
      replace sz := A.size.trans sz
      replace df := A.defs.trans df
      clear A hb
      refine wl_assign rfl (.tmp 19) rfl 6 rfl (by rw [sz]; decide) ?_
      intro f3 df2 sz2 old2 new2
      have nx6 : Fk.f (.eq (.int .i64 0)) (f3.eval (.tmp 6)) w2b := f_at new2 x19
      replace x1 : Fk.f (.hs (hs)) (f3.eval (.tmp 1)) w2b := f_at (old2 1 rfl) x1
      replace x2 : Fk.f (.eq (.pointer (some ⟨g2, 0, none⟩))) (f3.eval (.tmp 2)) w2b := f_at (old2 2 rfl) x2
      replace x5 : Fk.f (.eq (.pointer (some ⟨g5, 0, none⟩))) (f3.eval (.tmp 5)) w2b := f_at (old2 5 rfl) x5
      replace x19 : Fk.f (.eq (.int .i64 0)) (f3.eval (.tmp 19)) w2b := f_at (old2 19 rfl) x19
      have x6 := nx6
      replace sz := sz2.trans sz
      replace df := df2.trans df
      clear df2 sz2 old2 new2 nx6
      refine wpList_nil ?_
      clear x19
      show Code.wp _ _ _ _ _
      refine wp_seq ?_
      refine wp_seq ?_
      refine wp_all_seq [.hs (hs), .eq (.int .i64 (((hs).length : Nat) : Int)), .eq (.bool false)] (by kernel_rfl) (by kernel_rfl) (by rw [sz]; kernel_rfl) (by kernel_rfl) ⟨fun hw ac w' K => ?_, fun hw ac w' K => ?_, fun hw ac w' K => ?_, trivial⟩ ?_
      · exact st_move (.tmp 1) rfl (f_at (K.old 1 rfl) (Fk.mono _ _ _ _ x1 K.grow))
      · exact st_lenh (.tmp 20) rfl (K.dep 0 20 rfl)
      · exact st_neqi 3 (.tmp 21) (.const (.int .i64 67)) rfl .i64 ((((hs).length : Nat) : Int)) (67) (K.dep 1 21 rfl) rfl _ (by simp; omega)
      intro f4 w4 A hb
      replace x1 : Fk.f (.hs (hs)) (f4.eval (.tmp 1)) w4 := f_at (A.old 1 rfl) (Fk.mono _ _ _ _ x1 hb)
      replace x2 : Fk.f (.eq (.pointer (some ⟨g2, 0, none⟩))) (f4.eval (.tmp 2)) w4 := f_at (A.old 2 rfl) (Fk.mono _ _ _ _ x2 hb)
      replace x5 : Fk.f (.eq (.pointer (some ⟨g5, 0, none⟩))) (f4.eval (.tmp 5)) w4 := f_at (A.old 5 rfl) (Fk.mono _ _ _ _ x5 hb)
      replace x6 : Fk.f (.eq (.int .i64 0)) (f4.eval (.tmp 6)) w4 := f_at (A.old 6 rfl) (Fk.mono _ _ _ _ x6 hb)
      have x22 : Fk.f (.eq (.bool false)) (f4.eval (.tmp 22)) w4 := A.has 2 22 rfl
      replace m2 := HasV.below m2 hb (HasV.lt m2)
      replace m5 := HasV.below m5 hb (HasV.lt m5)
      replace tb := tb.below hb
      replace bl := bl.trans (Below.mono hb bl.size)
      replace sz := A.size.trans sz
      replace df := A.defs.trans df
      clear A hb
      show Code.wp _ _ _ _ _
      refine wp_cond_false x22 ?_
      refine wp_skip ?_
      show Code.wp _ _ _ _ _
      refine wp_seq ?_
      clear x22
      refine wp_all_seq [.eq (.slice none 0 0)] (by kernel_rfl) (by kernel_rfl) (by rw [sz]; kernel_rfl) (by kernel_rfl) ⟨fun hw ac w' K => ?_, trivial⟩ ?_
      · exact st_assign (.const (.slice none 0 0)) rfl rfl
      intro f5 w5 A hb
      replace x1 : Fk.f (.hs (hs)) (f5.eval (.tmp 1)) w5 := f_at (A.old 1 rfl) (Fk.mono _ _ _ _ x1 hb)
      replace x2 : Fk.f (.eq (.pointer (some ⟨g2, 0, none⟩))) (f5.eval (.tmp 2)) w5 := f_at (A.old 2 rfl) (Fk.mono _ _ _ _ x2 hb)
      replace x5 : Fk.f (.eq (.pointer (some ⟨g5, 0, none⟩))) (f5.eval (.tmp 5)) w5 := f_at (A.old 5 rfl) (Fk.mono _ _ _ _ x5 hb)
      replace x6 : Fk.f (.eq (.int .i64 0)) (f5.eval (.tmp 6)) w5 := f_at (A.old 6 rfl) (Fk.mono _ _ _ _ x6 hb)
      have x7 : Fk.f (.eq (.slice none 0 0)) (f5.eval (.tmp 7)) w5 := A.has 0 7 rfl
      replace m2 := HasV.below m2 hb (HasV.lt m2)
      replace m5 := HasV.below m5 hb (HasV.lt m5)
      replace tb := tb.below hb
      replace bl := bl.trans (Below.mono hb bl.size)
      replace sz := A.size.trans sz
      replace df := A.defs.trans df
      clear A hb
      show Code.wp _ _ _ _ _
      refine wp_seq ?_
      refine wp_seq ?_
      refine wp_all_seq [.eq (.agg ((xs).map V).toArray), .ds (dig (xs)), .eq (.int .i64 (((dig (xs)).length : Nat) : Int)), .eq (.int .i64 0)] (by kernel_rfl) (by kernel_rfl) (by rw [sz]; kernel_rfl) (by kernel_rfl) ⟨fun hw ac w' K => ?_, fun hw ac w' K => ?_, fun hw ac w' K => ?_, fun hw ac w' K => ?_, trivial⟩ ?_
      · exact st_load23 (.tmp 2) rfl _ (xs) ((K.old 2 rfl).trans x2) hx (HasV.below m2 K.grow (HasV.lt m2))
      · exact st_call 9 (.func 9) _ _ #[.agg ((xs).map V).toArray] rfl rfl (one_arg (K.dep 0 33 rfl)) Tryd.enter9 (fk_ref hx)
      · exact st_leni (.tmp 34) rfl (K.dep 1 34 rfl)
      · exact st_move (.const (.int .i64 0)) rfl rfl
      intro f6 w6 A hb
      replace x1 : Fk.f (.hs (hs)) (f6.eval (.tmp 1)) w6 := f_at (A.old 1 rfl) (Fk.mono _ _ _ _ x1 hb)
      replace x2 : Fk.f (.eq (.pointer (some ⟨g2, 0, none⟩))) (f6.eval (.tmp 2)) w6 := f_at (A.old 2 rfl) (Fk.mono _ _ _ _ x2 hb)
      replace x5 : Fk.f (.eq (.pointer (some ⟨g5, 0, none⟩))) (f6.eval (.tmp 5)) w6 := f_at (A.old 5 rfl) (Fk.mono _ _ _ _ x5 hb)
      replace x6 : Fk.f (.eq (.int .i64 0)) (f6.eval (.tmp 6)) w6 := f_at (A.old 6 rfl) (Fk.mono _ _ _ _ x6 hb)
      replace x7 : Fk.f (.eq (.slice none 0 0)) (f6.eval (.tmp 7)) w6 := f_at (A.old 7 rfl) (Fk.mono _ _ _ _ x7 hb)
      have x34 : Fk.f (.ds (dig (xs))) (f6.eval (.tmp 34)) w6 := A.has 1 34 rfl
      have x35 : Fk.f (.eq (.int .i64 (((dig (xs)).length : Nat) : Int))) (f6.eval (.tmp 35)) w6 := A.has 2 35 rfl
      have x36 : Fk.f (.eq (.int .i64 0)) (f6.eval (.tmp 36)) w6 := A.has 3 36 rfl
      replace m2 := HasV.below m2 hb (HasV.lt m2)
      replace m5 := HasV.below m5 hb (HasV.lt m5)
      replace tb := tb.below hb
      replace bl := bl.trans (Below.mono hb bl.size)
      replace sz := A.size.trans sz
      replace df := A.defs.trans df
      clear A hb
      show Code.wp _ _ _ _ _
      clear m2 x2
      have hdl := dig_len xs
      refine wp_block ?_
      have xL1 := x1
      have xL5 := x5
      have xL6 := x6
      have xL34 := x34
      have xL35 := x35
      have Lm5 := m5
      have tbL := tb
      have blL := bl
      refine wp_loop (fun f v1 => ∃ k : Nat, k ≤ 67 ∧ f.tmps.size = 63 ∧ f.defers = [] ∧ f.eval (.tmp 1) = f6.eval (.tmp 1) ∧ f.eval (.tmp 5) = f6.eval (.tmp 5) ∧ f.eval (.tmp 6) = f6.eval (.tmp 6) ∧ f.eval (.tmp 34) = f6.eval (.tmp 34) ∧ f.eval (.tmp 35) = f6.eval (.tmp 35) ∧ Fk.f (.eq (.int .i64 ((k : Nat) : Int))) (f.eval (.tmp 36)) v1 ∧ Fk.f (.ow w6.heap.size (firsts (recOf xs hs) k)) (f.eval (.tmp 7)) v1 ∧ Below w6.heap.size w6 v1) (fun f _ => 67 - (intOf (f.eval (.tmp 36))).toNat) ⟨0, by omega, sz, df, rfl, rfl, rfl, rfl, rfl, x36, (by rw [show _ = _ from x7]; exact ow_nil _ _), Below.refl _ _⟩ ?_
      intro f7 w7 hI
      clear sz df x36 tb bl x7 x1 x5 x6 x34 x35 m5
      obtain ⟨k, hk, sz, df, a1, a5, a6, a34, a35, x36, x7, hL⟩ := hI
      have c36 := x36
      have x1 : Fk.f (.hs (hs)) (f7.eval (.tmp 1)) w7 := f_at a1 (Fk.mono _ _ _ _ xL1 hL)
      have x5 : Fk.f (.eq (.pointer (some ⟨g5, 0, none⟩))) (f7.eval (.tmp 5)) w7 := f_at a5 (Fk.mono _ _ _ _ xL5 hL)
      have x6 : Fk.f (.eq (.int .i64 0)) (f7.eval (.tmp 6)) w7 := f_at a6 (Fk.mono _ _ _ _ xL6 hL)
      have x34 : Fk.f (.ds (dig (xs))) (f7.eval (.tmp 34)) w7 := f_at a34 (Fk.mono _ _ _ _ xL34 hL)
      have x35 : Fk.f (.eq (.int .i64 (((dig (xs)).length : Nat) : Int))) (f7.eval (.tmp 35)) w7 := f_at a35 (Fk.mono _ _ _ _ xL35 hL)
      have m5 := HasV.below Lm5 hL (HasV.lt Lm5)
      have tb := tbL.below hL
      by_cases hlt : k < 67
      · obtain ⟨z, ez⟩ : ∃ z, hs[k]? = some z := ⟨_, List.getElem?_eq_getElem (by omega)⟩
        have hzl := h32 k z ez
        obtain ⟨d, ed⟩ : ∃ d, (dig xs)[k]? = some d := ⟨_, dg_at xs k hlt⟩
        have hd15 := dig_le xs k d ed
        obtain ⟨y, ey⟩ : ∃ y, Box (wk (k : Int) d z (15 - d) = y) := ⟨_, ⟨rfl⟩⟩
        have hyl : y.length = 32 := by rw [← ey.out]; exact wk_len _ _ _ _ hzl
        have eF : recOf xs hs k = y := by
          unfold recOf
          rw [show dg xs k = d by (unfold dg; simp [ed]), show hs.getD k [] = z by simp [ez]]; exact ey.out
        refine wp_seq ?_
        refine wp_all_seq [.eq (.bool true)] (by kernel_rfl) (by kernel_rfl) (by rw [sz]; kernel_rfl) (by kernel_rfl) ⟨fun hw ac w' K => ?_, trivial⟩ ?_
        · exact st_lss 3 (.tmp 36) (.tmp 35) rfl .i64 (((k : Nat) : Int)) ((((dig (xs)).length : Nat) : Int)) ((K.old 36 rfl).trans x36) ((K.old 35 rfl).trans x35) _ (by rw [hdl]; simp; omega)
        intro f8 w8 A hb
        replace x1 : Fk.f (.hs (hs)) (f8.eval (.tmp 1)) w8 := f_at (A.old 1 rfl) (Fk.mono _ _ _ _ x1 hb)
        replace x5 : Fk.f (.eq (.pointer (some ⟨g5, 0, none⟩))) (f8.eval (.tmp 5)) w8 := f_at (A.old 5 rfl) (Fk.mono _ _ _ _ x5 hb)
        replace x6 : Fk.f (.eq (.int .i64 0)) (f8.eval (.tmp 6)) w8 := f_at (A.old 6 rfl) (Fk.mono _ _ _ _ x6 hb)
        replace x7 : Fk.f (.ow w6.heap.size (firsts (recOf xs hs) k)) (f8.eval (.tmp 7)) w8 := f_at (A.old 7 rfl) (Fk.mono _ _ _ _ x7 hb)
        replace x34 : Fk.f (.ds (dig (xs))) (f8.eval (.tmp 34)) w8 := f_at (A.old 34 rfl) (Fk.mono _ _ _ _ x34 hb)
        replace x35 : Fk.f (.eq (.int .i64 (((dig (xs)).length : Nat) : Int))) (f8.eval (.tmp 35)) w8 := f_at (A.old 35 rfl) (Fk.mono _ _ _ _ x35 hb)
        replace x36 : Fk.f (.eq (.int .i64 ((k : Nat) : Int))) (f8.eval (.tmp 36)) w8 := f_at (A.old 36 rfl) (Fk.mono _ _ _ _ x36 hb)
        have x37 : Fk.f (.eq (.bool true)) (f8.eval (.tmp 37)) w8 := A.has 0 37 rfl
        replace m5 := HasV.below m5 hb (HasV.lt m5)
        replace tb := tb.below hb
        replace sz := A.size.trans sz
        replace df := A.defs.trans df
        replace a1 := (A.old 1 rfl).trans a1
        replace a5 := (A.old 5 rfl).trans a5
        replace a6 := (A.old 6 rfl).trans a6
        replace a34 := (A.old 34 rfl).trans a34
        replace a35 := (A.old 35 rfl).trans a35
        replace hL := hL.trans (Below.mono hb hL.size)
        clear A hb
        show Code.wp _ _ _ _ _
        refine wp_seq ?_
        refine wp_cond_true x37 ?_
        refine wp_skip ?_
        show Code.wp _ _ _ _ _
        clear x37
        refine wp_seq ?_
        refine wp_block ?_
        refine wp_seq ?_
        refine wp_all_seq [.eq (.int .i64 ((k : Nat) : Int)), .pi ((d : Nat) : Int), .eq (.int .i64 ((d : Nat) : Int)), .eq (.int .i64 ((k : Nat) : Int)), .eq (.int .i64 ((d : Nat) : Int))] (by kernel_rfl) (by kernel_rfl) (by rw [sz]; kernel_rfl) (by kernel_rfl) ⟨fun hw ac w' K => ?_, fun hw ac w' K => ?_, fun hw ac w' K => ?_, fun hw ac w' K => ?_, fun hw ac w' K => ?_, trivial⟩ ?_
        · exact st_move (.tmp 36) rfl ((K.old 36 rfl).trans x36)
        · exact st_idxi (.tmp 34) (.tmp 36) rfl (f_at (K.old 34 rfl) (Fk.mono _ _ _ _ x34 K.grow)) (k) (d) ((K.old 36 rfl).trans x36) ed
        · exact st_loadi (.tmp 39) rfl (K.dep 1 39 rfl)
        · exact st_assign (.tmp 38) rfl (K.dep 0 38 rfl)
        · exact st_assign (.tmp 40) rfl (K.dep 2 40 rfl)
        intro f9 w9 A hb
        replace x1 : Fk.f (.hs (hs)) (f9.eval (.tmp 1)) w9 := f_at (A.old 1 rfl) (Fk.mono _ _ _ _ x1 hb)
        replace x5 : Fk.f (.eq (.pointer (some ⟨g5, 0, none⟩))) (f9.eval (.tmp 5)) w9 := f_at (A.old 5 rfl) (Fk.mono _ _ _ _ x5 hb)
        replace x6 : Fk.f (.eq (.int .i64 0)) (f9.eval (.tmp 6)) w9 := f_at (A.old 6 rfl) (Fk.mono _ _ _ _ x6 hb)
        replace x7 : Fk.f (.ow w6.heap.size (firsts (recOf xs hs) k)) (f9.eval (.tmp 7)) w9 := f_at (A.old 7 rfl) (Fk.mono _ _ _ _ x7 hb)
        replace x34 : Fk.f (.ds (dig (xs))) (f9.eval (.tmp 34)) w9 := f_at (A.old 34 rfl) (Fk.mono _ _ _ _ x34 hb)
        replace x35 : Fk.f (.eq (.int .i64 (((dig (xs)).length : Nat) : Int))) (f9.eval (.tmp 35)) w9 := f_at (A.old 35 rfl) (Fk.mono _ _ _ _ x35 hb)
        replace x36 : Fk.f (.eq (.int .i64 ((k : Nat) : Int))) (f9.eval (.tmp 36)) w9 := f_at (A.old 36 rfl) (Fk.mono _ _ _ _ x36 hb)
        have x8 : Fk.f (.eq (.int .i64 ((k : Nat) : Int))) (f9.eval (.tmp 8)) w9 := A.has 3 8 rfl
        have x9 : Fk.f (.eq (.int .i64 ((d : Nat) : Int))) (f9.eval (.tmp 9)) w9 := A.has 4 9 rfl
        replace m5 := HasV.below m5 hb (HasV.lt m5)
        replace tb := tb.below hb
        replace sz := A.size.trans sz
        replace df := A.defs.trans df
        replace a1 := (A.old 1 rfl).trans a1
        replace a5 := (A.old 5 rfl).trans a5
        replace a6 := (A.old 6 rfl).trans a6
        replace a34 := (A.old 34 rfl).trans a34
        replace a35 := (A.old 35 rfl).trans a35
        replace hL := hL.trans (Below.mono hb hL.size)
        clear A hb
        show Code.wp _ _ _ _ _
        refine wp_region_seq [.ow w6.heap.size (firsts (recOf xs hs) k), .hs (hs), .eq (.int .i64 ((k : Nat) : Int)), .ph (z), .eq (.agg ((z).map V).toArray), .eq (.int .i64 ((k : Nat) : Int)), .eq (.int .i64 ((d : Nat) : Int)), .eq (.agg ((y).map V).toArray), .hs ([y])] (by kernel_rfl) (by kernel_rfl) (by rw [sz]; kernel_rfl) (by kernel_rfl) ⟨fun hw ac w' K => ?_, fun hw ac w' K => ?_, fun hw ac w' K => ?_, fun hw ac w' K => ?_, fun hw ac w' K => ?_, fun hw ac w' K => ?_, fun hw ac w' K => ?_, fun hw ac w' K => ?_, fun hw ac w' K => ?_, trivial⟩ ?_
        · exact st_move (.tmp 7) rfl (f_at (K.old 7 rfl) (Fk.mono _ _ _ _ x7 K.grow))
        · exact st_move (.tmp 1) rfl (f_at (K.old 1 rfl) (Fk.mono _ _ _ _ x1 K.grow))
        · exact st_move (.tmp 8) rfl ((K.old 8 rfl).trans x8)
        · exact st_idxh (.tmp 42) (.tmp 43) rfl (K.dep 1 42 rfl) (k) (z) (K.dep 2 43 rfl) ez
        · exact st_loadh (.tmp 44) rfl (K.dep 3 44 rfl)
        · exact st_move (.tmp 8) rfl ((K.old 8 rfl).trans x8)
        · exact st_move (.tmp 9) rfl ((K.old 9 rfl).trans x9)
        · exact st_call 13 (.func 13) _ _ #[.agg ((z).map V).toArray, .int .i64 ((k : Nat) : Int), .int .i64 ((d : Nat) : Int), .int .i64 15] rfl rfl (arg4 (K.dep 4 45 rfl) (K.dep 5 46 rfl) (K.dep 6 47 rfl) rfl) Tryd.enter13 (fk_of (walked_to (z) (((k : Nat) : Int)) (d) (15) _ hzl (by omega) (tb.below K.grow) ey))
        · exact st_bh1 (.tmp 48) rfl hyl (K.dep 7 48 rfl)
        intro f10 w10 A hb
        replace hL := hL.trans (Below.mono hb hL.size)
        refine wl_append rfl (.tmp 41) (.tmp 49) rfl 50 rfl (by rw [A.size, sz]; decide) (A.has 0 41 rfl) (A.has 8 49 rfl) hL (by rw [firsts_len]; omega) ?_
        intro f11 w11 df2 sz2 old2 x50 hL2
        replace a1 := (old2 1 rfl).trans ((A.old 1 rfl).trans a1)
        replace a5 := (old2 5 rfl).trans ((A.old 5 rfl).trans a5)
        replace a6 := (old2 6 rfl).trans ((A.old 6 rfl).trans a6)
        replace a34 := (old2 34 rfl).trans ((A.old 34 rfl).trans a34)
        replace a35 := (old2 35 rfl).trans ((A.old 35 rfl).trans a35)
        replace x36 : Fk.f (.eq (.int .i64 ((k : Nat) : Int))) (f11.eval (.tmp 36)) w11 := ((old2 36 rfl).trans (A.old 36 rfl)).trans x36
        replace x8 : Fk.f (.eq (.int .i64 ((k : Nat) : Int))) (f11.eval (.tmp 8)) w11 := ((old2 8 rfl).trans (A.old 8 rfl)).trans x8
        replace x9 : Fk.f (.eq (.int .i64 ((d : Nat) : Int))) (f11.eval (.tmp 9)) w11 := ((old2 9 rfl).trans (A.old 9 rfl)).trans x9
        clear x7
        replace sz := sz2.trans (A.size.trans sz)
        replace df := df2.trans (A.defs.trans df)
        clear x1 x5 x6 x34 x35 m5 tb hL
        have hL := hL2
        have x1 : Fk.f (.hs (hs)) (f11.eval (.tmp 1)) w11 := f_at a1 (Fk.mono _ _ _ _ xL1 hL)
        have x5 : Fk.f (.eq (.pointer (some ⟨g5, 0, none⟩))) (f11.eval (.tmp 5)) w11 := f_at a5 (Fk.mono _ _ _ _ xL5 hL)
        have x6 : Fk.f (.eq (.int .i64 0)) (f11.eval (.tmp 6)) w11 := f_at a6 (Fk.mono _ _ _ _ xL6 hL)
        have x34 : Fk.f (.ds (dig (xs))) (f11.eval (.tmp 34)) w11 := f_at a34 (Fk.mono _ _ _ _ xL34 hL)
        have x35 : Fk.f (.eq (.int .i64 (((dig (xs)).length : Nat) : Int))) (f11.eval (.tmp 35)) w11 := f_at a35 (Fk.mono _ _ _ _ xL35 hL)
        have m5 := HasV.below Lm5 hL (HasV.lt Lm5)
        have tb := tbL.below hL
        clear A hb sz2 df2 old2 hL2
        refine wl_assign rfl (.tmp 50) rfl 7 rfl (by rw [sz]; decide) ?_
        intro f12 df2 sz2 old2 new2
        have nx7 : Fk.f (.ow w6.heap.size (firsts (recOf xs hs) k ++ [y])) (f12.eval (.tmp 7)) w11 := f_at new2 x50
        replace x1 : Fk.f (.hs (hs)) (f12.eval (.tmp 1)) w11 := f_at (old2 1 rfl) x1
        replace x5 : Fk.f (.eq (.pointer (some ⟨g5, 0, none⟩))) (f12.eval (.tmp 5)) w11 := f_at (old2 5 rfl) x5
        replace x6 : Fk.f (.eq (.int .i64 0)) (f12.eval (.tmp 6)) w11 := f_at (old2 6 rfl) x6
        replace x34 : Fk.f (.ds (dig (xs))) (f12.eval (.tmp 34)) w11 := f_at (old2 34 rfl) x34
        replace x35 : Fk.f (.eq (.int .i64 (((dig (xs)).length : Nat) : Int))) (f12.eval (.tmp 35)) w11 := f_at (old2 35 rfl) x35
        replace x36 : Fk.f (.eq (.int .i64 ((k : Nat) : Int))) (f12.eval (.tmp 36)) w11 := f_at (old2 36 rfl) x36
        replace x8 : Fk.f (.eq (.int .i64 ((k : Nat) : Int))) (f12.eval (.tmp 8)) w11 := f_at (old2 8 rfl) x8
        replace x9 : Fk.f (.eq (.int .i64 ((d : Nat) : Int))) (f12.eval (.tmp 9)) w11 := f_at (old2 9 rfl) x9
        replace x50 : Fk.f (.ow w6.heap.size (firsts (recOf xs hs) k ++ [y])) (f12.eval (.tmp 50)) w11 := f_at (old2 50 rfl) x50
        have x7 := nx7
        replace sz := sz2.trans sz
        replace df := df2.trans df
        replace a1 := (old2 1 rfl).trans a1
        replace a5 := (old2 5 rfl).trans a5
        replace a6 := (old2 6 rfl).trans a6
        replace a34 := (old2 34 rfl).trans a34
        replace a35 := (old2 35 rfl).trans a35
        clear df2 sz2 old2 new2 nx7
        clear x50
        replace x7 : Fk.f (.ow w6.heap.size (firsts (recOf xs hs) (k + 1))) (f12.eval (.tmp 7)) w11 := (by rw [firsts_succ, eF]; exact x7)
        refine wpList_nil ?_
        show Code.wp _ _ _ _ _
        clear x8
        clear x9
        refine wp_region_seq [.eq (.int .i64 ((k + 1 : Nat) : Int))] (by kernel_rfl) (by kernel_rfl) (by rw [sz]; kernel_rfl) (by kernel_rfl) ⟨fun hw ac w' K => ?_, trivial⟩ ?_
        · exact st_add1 (.tmp 36) rfl k (by omega) ((K.old 36 rfl).trans x36)
        intro f13 w13 A hb
        replace x1 : Fk.f (.hs (hs)) (f13.eval (.tmp 1)) w13 := f_at (A.old 1 rfl) (Fk.mono _ _ _ _ x1 hb)
        replace x5 : Fk.f (.eq (.pointer (some ⟨g5, 0, none⟩))) (f13.eval (.tmp 5)) w13 := f_at (A.old 5 rfl) (Fk.mono _ _ _ _ x5 hb)
        replace x6 : Fk.f (.eq (.int .i64 0)) (f13.eval (.tmp 6)) w13 := f_at (A.old 6 rfl) (Fk.mono _ _ _ _ x6 hb)
        replace x34 : Fk.f (.ds (dig (xs))) (f13.eval (.tmp 34)) w13 := f_at (A.old 34 rfl) (Fk.mono _ _ _ _ x34 hb)
        replace x35 : Fk.f (.eq (.int .i64 (((dig (xs)).length : Nat) : Int))) (f13.eval (.tmp 35)) w13 := f_at (A.old 35 rfl) (Fk.mono _ _ _ _ x35 hb)
        replace x36 : Fk.f (.eq (.int .i64 ((k : Nat) : Int))) (f13.eval (.tmp 36)) w13 := f_at (A.old 36 rfl) (Fk.mono _ _ _ _ x36 hb)
        replace x7 : Fk.f (.ow w6.heap.size (firsts (recOf xs hs) (k + 1))) (f13.eval (.tmp 7)) w13 := f_at (A.old 7 rfl) (Fk.mono _ _ _ _ x7 hb)
        have x51 : Fk.f (.eq (.int .i64 ((k + 1 : Nat) : Int))) (f13.eval (.tmp 51)) w13 := A.has 0 51 rfl
        replace m5 := HasV.below m5 hb (HasV.lt m5)
        replace tb := tb.below hb
        replace sz := A.size.trans sz
        replace df := A.defs.trans df
        replace a1 := (A.old 1 rfl).trans a1
        replace a5 := (A.old 5 rfl).trans a5
        replace a6 := (A.old 6 rfl).trans a6
        replace a34 := (A.old 34 rfl).trans a34
        replace a35 := (A.old 35 rfl).trans a35
        replace hL := hL.trans (Below.mono hb hL.size)
        clear A hb
        refine wl_move rfl (.tmp 51) rfl 36 rfl (by rw [sz]; decide) ?_
        intro f14 df2 sz2 old2 new2
        have nx36 : Fk.f (.eq (.int .i64 ((k + 1 : Nat) : Int))) (f14.eval (.tmp 36)) w13 := f_at new2 x51
        replace x1 : Fk.f (.hs (hs)) (f14.eval (.tmp 1)) w13 := f_at (old2 1 rfl) x1
        replace x5 : Fk.f (.eq (.pointer (some ⟨g5, 0, none⟩))) (f14.eval (.tmp 5)) w13 := f_at (old2 5 rfl) x5
        replace x6 : Fk.f (.eq (.int .i64 0)) (f14.eval (.tmp 6)) w13 := f_at (old2 6 rfl) x6
        replace x34 : Fk.f (.ds (dig (xs))) (f14.eval (.tmp 34)) w13 := f_at (old2 34 rfl) x34
        replace x35 : Fk.f (.eq (.int .i64 (((dig (xs)).length : Nat) : Int))) (f14.eval (.tmp 35)) w13 := f_at (old2 35 rfl) x35
        replace x7 : Fk.f (.ow w6.heap.size (firsts (recOf xs hs) (k + 1))) (f14.eval (.tmp 7)) w13 := f_at (old2 7 rfl) x7
        replace x51 : Fk.f (.eq (.int .i64 ((k + 1 : Nat) : Int))) (f14.eval (.tmp 51)) w13 := f_at (old2 51 rfl) x51
        have x36 := nx36
        replace sz := sz2.trans sz
        replace df := df2.trans df
        replace a1 := (old2 1 rfl).trans a1
        replace a5 := (old2 5 rfl).trans a5
        replace a6 := (old2 6 rfl).trans a6
        replace a34 := (old2 34 rfl).trans a34
        replace a35 := (old2 35 rfl).trans a35
        clear df2 sz2 old2 new2 nx36
        clear x51
        refine wpList_nil ?_
        show (∃ _, _) ∧ _
        refine ⟨⟨k + 1, by omega, sz, df, a1, a5, a6, a34, a35, x36, x7, hL⟩, ?_⟩
        rw [show f14.eval (.tmp 36) = _ from x36, show _ = _ from c36]
        simp [intOf]
        omega
      · have hk67 : k = 67 := by omega
        refine wp_seq ?_
        refine wp_all_seq [.eq (.bool false)] (by kernel_rfl) (by kernel_rfl) (by rw [sz]; kernel_rfl) (by kernel_rfl) ⟨fun hw ac w' K => ?_, trivial⟩ ?_
        · exact st_lss 3 (.tmp 36) (.tmp 35) rfl .i64 (((k : Nat) : Int)) ((((dig (xs)).length : Nat) : Int)) ((K.old 36 rfl).trans x36) ((K.old 35 rfl).trans x35) _ (by rw [hdl]; simp; omega)
        intro f8 w8 A hb
        replace x1 : Fk.f (.hs (hs)) (f8.eval (.tmp 1)) w8 := f_at (A.old 1 rfl) (Fk.mono _ _ _ _ x1 hb)
        replace x5 : Fk.f (.eq (.pointer (some ⟨g5, 0, none⟩))) (f8.eval (.tmp 5)) w8 := f_at (A.old 5 rfl) (Fk.mono _ _ _ _ x5 hb)
        replace x6 : Fk.f (.eq (.int .i64 0)) (f8.eval (.tmp 6)) w8 := f_at (A.old 6 rfl) (Fk.mono _ _ _ _ x6 hb)
        replace x7 : Fk.f (.ow w6.heap.size (firsts (recOf xs hs) k)) (f8.eval (.tmp 7)) w8 := f_at (A.old 7 rfl) (Fk.mono _ _ _ _ x7 hb)
        replace x34 : Fk.f (.ds (dig (xs))) (f8.eval (.tmp 34)) w8 := f_at (A.old 34 rfl) (Fk.mono _ _ _ _ x34 hb)
        replace x35 : Fk.f (.eq (.int .i64 (((dig (xs)).length : Nat) : Int))) (f8.eval (.tmp 35)) w8 := f_at (A.old 35 rfl) (Fk.mono _ _ _ _ x35 hb)
        replace x36 : Fk.f (.eq (.int .i64 ((k : Nat) : Int))) (f8.eval (.tmp 36)) w8 := f_at (A.old 36 rfl) (Fk.mono _ _ _ _ x36 hb)
        have x37 : Fk.f (.eq (.bool false)) (f8.eval (.tmp 37)) w8 := A.has 0 37 rfl
        replace m5 := HasV.below m5 hb (HasV.lt m5)
        replace tb := tb.below hb
        replace sz := A.size.trans sz
        replace df := A.defs.trans df
        replace a1 := (A.old 1 rfl).trans a1
        replace a5 := (A.old 5 rfl).trans a5
        replace a6 := (A.old 6 rfl).trans a6
        replace a34 := (A.old 34 rfl).trans a34
        replace a35 := (A.old 35 rfl).trans a35
        replace hL := hL.trans (Below.mono hb hL.size)
        clear A hb
        show Code.wp _ _ _ _ _
        refine wp_seq ?_
        refine wp_cond_false x37 ?_
        refine wp_exit ?_
        clear x37
        show Code.wp _ _ _ _ _
        refine wp_seq ?_
        have bl := blL.trans (Below.mono hL blL.size)
        rw [hk67] at x7
        refine wp_all [.eq (.int .i64 0), .eq (.bool true), .eq (.bool true), .eq (.agg ((p).map V).toArray), .ow w6.heap.size (firsts (recOf xs hs) 67), .eq (.agg ((p).map V).toArray), .eq (.bool true), .eq (.bool true), .eq (.bool true), .eq (.bool true), .eq (.bool true), .eq (.bool true)] Tryd.mixed (by kernel_rfl) (by kernel_rfl) (by rw [sz]; kernel_rfl) (by kernel_rfl) ⟨fun hw ac w' K => ?_, fun hw ac w' K => ?_, fun hw ac w' K => ?_, fun hw ac w' K => ?_, fun hw ac w' K => ?_, fun hw ac w' K => ?_, fun hw ac w' K => ?_, fun hw ac w' K => ?_, fun hw ac w' K => ?_, fun hw ac w' K => ?_, fun hw ac w' K => ?_, fun hw ac w' K => ?_, trivial⟩ ?_
        · exact st_move (.tmp 6) rfl ((K.old 6 rfl).trans x6)
        · exact st_eqi 29 (.tmp 52) (.const (.int .i64 0)) rfl .i64 (0) (0) (K.dep 0 52 rfl) rfl _ (by rfl)
        · exact st_move (.tmp 53) rfl (K.dep 1 53 rfl)
        · exact st_load23 (.tmp 5) rfl _ (p) ((K.old 5 rfl).trans x5) hpl (HasV.below m5 K.grow (HasV.lt m5))
        · exact st_move (.tmp 7) rfl (f_at (K.old 7 rfl) (Fk.mono _ _ _ _ x7 K.grow))
        · exact st_call 16 (.func 16) _ _ #[ac.eval (.tmp 56)] rfl rfl rfl Tryd.enter16 (fk_public_ow (by rw [firsts_len]; omega) (tb.below K.grow) (K.dep 4 56 rfl) (by rw [firsts_all]; exact ep))
        · exact st_eqh (.tmp 55) (.tmp 57) rfl (p) (p) hpl hpl (K.dep 3 55 rfl) (K.dep 5 57 rfl) _ (by simp)
        · exact st_pick_t (.tmp 54) (.tmp 58) (.const (.bool false)) rfl (K.dep 2 54 rfl) (K.dep 6 58 rfl)
        · exact st_move (.tmp 59) rfl (K.dep 7 59 rfl)
        · exact st_call 10 (.func 10) _ _ #[] rfl rfl rfl Tryd.enter10 (fk_of (awake_any _ (tb.below K.grow)))
        · exact st_pick_t (.tmp 60) (.tmp 61) (.const (.bool false)) rfl (K.dep 8 60 rfl) (K.dep 9 61 rfl)
        · exact st_assign (.tmp 62) rfl (K.dep 10 62 rfl)
        intro f9 w9 A hb
        replace x1 : Fk.f (.hs (hs)) (f9.eval (.tmp 1)) w9 := f_at (A.old 1 rfl) (Fk.mono _ _ _ _ x1 hb)
        replace x5 : Fk.f (.eq (.pointer (some ⟨g5, 0, none⟩))) (f9.eval (.tmp 5)) w9 := f_at (A.old 5 rfl) (Fk.mono _ _ _ _ x5 hb)
        replace x6 : Fk.f (.eq (.int .i64 0)) (f9.eval (.tmp 6)) w9 := f_at (A.old 6 rfl) (Fk.mono _ _ _ _ x6 hb)
        replace x7 : Fk.f (.ow w6.heap.size (firsts (recOf xs hs) 67)) (f9.eval (.tmp 7)) w9 := f_at (A.old 7 rfl) (Fk.mono _ _ _ _ x7 hb)
        replace x34 : Fk.f (.ds (dig (xs))) (f9.eval (.tmp 34)) w9 := f_at (A.old 34 rfl) (Fk.mono _ _ _ _ x34 hb)
        replace x35 : Fk.f (.eq (.int .i64 (((dig (xs)).length : Nat) : Int))) (f9.eval (.tmp 35)) w9 := f_at (A.old 35 rfl) (Fk.mono _ _ _ _ x35 hb)
        replace x36 : Fk.f (.eq (.int .i64 ((k : Nat) : Int))) (f9.eval (.tmp 36)) w9 := f_at (A.old 36 rfl) (Fk.mono _ _ _ _ x36 hb)
        have x4 : Fk.f (.eq (.bool true)) (f9.eval (.tmp 4)) w9 := A.has 11 4 rfl
        replace m5 := HasV.below m5 hb (HasV.lt m5)
        replace tb := tb.below hb
        replace bl := bl.trans (Below.mono hb bl.size)
        replace sz := A.size.trans sz
        replace df := A.defs.trans df
        clear A hb
        show Code.wp _ _ _ _ _
        refine wp_ret ?_
        exact bodyPost_ret (v := .bool true) (ret_slot rfl f9 _ x4 _ _) df ⟨rfl, bl⟩
    · skip
      refine wp_region_seq [.eq (.agg ((xs).map V).toArray), .hs (hs), .eq (.tuple #[.agg ((hz).map V).toArray, .int .i64 10]), .eq (.tuple #[.agg ((hz).map V).toArray, .int .i64 10]), .eq (.agg ((hz).map V).toArray), .eq (.int .i64 10), .pn w1.heap.size hz] (by kernel_rfl) (by kernel_rfl) (by rw [sz]; kernel_rfl) (by kernel_rfl) ⟨fun hw ac w' K => ?_, fun hw ac w' K => ?_, fun hw ac w' K => ?_, fun hw ac w' K => ?_, fun hw ac w' K => ?_, fun hw ac w' K => ?_, fun hw ac w' K => ?_, trivial⟩ ?_
      · exact st_load23 (.tmp 2) rfl _ (xs) ((K.old 2 rfl).trans x2) hx (HasV.below m2 K.grow (HasV.lt m2))
      · exact st_move (.tmp 1) rfl (f_at (K.old 1 rfl) (Fk.mono _ _ _ _ x1 K.grow))
      · exact st_call 15 (.func 15) _ _ #[.agg ((xs).map V).toArray, ac.eval (.tmp 16)] rfl rfl (arg2 (K.dep 0 15 rfl) rfl) Tryd.enter15 (fk_recover_no q67 (K.dep 1 16 rfl))
      · exact st_move (.tmp 17) rfl (K.dep 2 17 rfl)
      · exact st_ext0 (.tmp 14) rfl (K.dep 3 14 rfl) rfl
      · exact st_ext1 (.tmp 14) rfl (K.dep 3 14 rfl) rfl
      · exact st_alloc23 rfl _ K.grow.size
      intro f2 w2 A hb
      obtain ⟨g5, hg5, e5, m5⟩ := A.has 6 5 rfl
      refine wl_store rfl (.tmp 5) (.tmp 18) rfl rfl g5 (hz) hz e5 (A.has 4 18 rfl) m5 hz_len hz_len ?_
      replace hb := Below.trans hb (below_setRow _ _ _ ((hz).map V).toArray hg5)
      replace m5 : HasV (w2.setRow g5 ((hz).map V).toArray) g5 23 (hz) := HasV.setRow m5
      generalize w2.setRow g5 ((hz).map V).toArray = w2b at hb m5 ⊢
      replace x1 : Fk.f (.hs (hs)) (f2.eval (.tmp 1)) w2b := f_at (A.old 1 rfl) (Fk.mono _ _ _ _ x1 hb)
      replace x2 : Fk.f (.eq (.pointer (some ⟨g2, 0, none⟩))) (f2.eval (.tmp 2)) w2b := f_at (A.old 2 rfl) (Fk.mono _ _ _ _ x2 hb)
      have x5 : Fk.f (.eq (.pointer (some ⟨g5, 0, none⟩))) (f2.eval (.tmp 5)) w2b := e5
      have x19 : Fk.f (.eq (.int .i64 10)) (f2.eval (.tmp 19)) w2b := A.has 5 19 rfl
      replace m2 := HasV.below m2 hb (HasV.lt m2)
      replace tb := tb.below hb
      replace bl := bl.trans (Below.mono hb bl.size)
      replace sz := A.size.trans sz
      replace df := A.defs.trans df
      clear A hb
      refine wl_assign rfl (.tmp 19) rfl 6 rfl (by rw [sz]; decide) ?_
      intro f3 df2 sz2 old2 new2
      have nx6 : Fk.f (.eq (.int .i64 10)) (f3.eval (.tmp 6)) w2b := f_at new2 x19
      replace x1 : Fk.f (.hs (hs)) (f3.eval (.tmp 1)) w2b := f_at (old2 1 rfl) x1
      replace x2 : Fk.f (.eq (.pointer (some ⟨g2, 0, none⟩))) (f3.eval (.tmp 2)) w2b := f_at (old2 2 rfl) x2
      replace x5 : Fk.f (.eq (.pointer (some ⟨g5, 0, none⟩))) (f3.eval (.tmp 5)) w2b := f_at (old2 5 rfl) x5
      replace x19 : Fk.f (.eq (.int .i64 10)) (f3.eval (.tmp 19)) w2b := f_at (old2 19 rfl) x19
      have x6 := nx6
      replace sz := sz2.trans sz
      replace df := df2.trans df
      clear df2 sz2 old2 new2 nx6
      refine wpList_nil ?_
      clear x19
      show Code.wp _ _ _ _ _
      refine wp_seq ?_
      refine wp_seq ?_
      refine wp_all_seq [.hs (hs), .eq (.int .i64 (((hs).length : Nat) : Int)), .eq (.bool true)] (by kernel_rfl) (by kernel_rfl) (by rw [sz]; kernel_rfl) (by kernel_rfl) ⟨fun hw ac w' K => ?_, fun hw ac w' K => ?_, fun hw ac w' K => ?_, trivial⟩ ?_
      · exact st_move (.tmp 1) rfl (f_at (K.old 1 rfl) (Fk.mono _ _ _ _ x1 K.grow))
      · exact st_lenh (.tmp 20) rfl (K.dep 0 20 rfl)
      · exact st_neqi 3 (.tmp 21) (.const (.int .i64 67)) rfl .i64 ((((hs).length : Nat) : Int)) (67) (K.dep 1 21 rfl) rfl _ (by simp; omega)
      intro f4 w4 A hb
      replace x1 : Fk.f (.hs (hs)) (f4.eval (.tmp 1)) w4 := f_at (A.old 1 rfl) (Fk.mono _ _ _ _ x1 hb)
      replace x2 : Fk.f (.eq (.pointer (some ⟨g2, 0, none⟩))) (f4.eval (.tmp 2)) w4 := f_at (A.old 2 rfl) (Fk.mono _ _ _ _ x2 hb)
      replace x5 : Fk.f (.eq (.pointer (some ⟨g5, 0, none⟩))) (f4.eval (.tmp 5)) w4 := f_at (A.old 5 rfl) (Fk.mono _ _ _ _ x5 hb)
      replace x6 : Fk.f (.eq (.int .i64 10)) (f4.eval (.tmp 6)) w4 := f_at (A.old 6 rfl) (Fk.mono _ _ _ _ x6 hb)
      have x22 : Fk.f (.eq (.bool true)) (f4.eval (.tmp 22)) w4 := A.has 2 22 rfl
      replace m2 := HasV.below m2 hb (HasV.lt m2)
      replace m5 := HasV.below m5 hb (HasV.lt m5)
      replace tb := tb.below hb
      replace bl := bl.trans (Below.mono hb bl.size)
      replace sz := A.size.trans sz
      replace df := A.defs.trans df
      clear A hb
      show Code.wp _ _ _ _ _
      refine wp_cond_true x22 ?_
      refine wp_seq ?_
      refine wp_all_seq [.eq (.int .i64 10), .eq (.bool true), .eq (.bool true), .eq (.agg ((hz).map V).toArray), .eq (.agg ((hz).map V).toArray), .eq (.bool true), .eq (.bool true), .eq (.bool true), .eq (.bool true), .eq (.bool true), .eq (.bool true)] (by kernel_rfl) (by kernel_rfl) (by rw [sz]; kernel_rfl) (by kernel_rfl) ⟨fun hw ac w' K => ?_, fun hw ac w' K => ?_, fun hw ac w' K => ?_, fun hw ac w' K => ?_, fun hw ac w' K => ?_, fun hw ac w' K => ?_, fun hw ac w' K => ?_, fun hw ac w' K => ?_, fun hw ac w' K => ?_, fun hw ac w' K => ?_, fun hw ac w' K => ?_, trivial⟩ ?_
      · exact st_move (.tmp 6) rfl ((K.old 6 rfl).trans x6)
      · exact st_eqi 29 (.tmp 23) (.const (.int .i64 10)) rfl .i64 (10) (10) (K.dep 0 23 rfl) rfl _ (by rfl)
      · exact st_move (.tmp 24) rfl (K.dep 1 24 rfl)
      · exact st_load23 (.tmp 5) rfl _ (hz) ((K.old 5 rfl).trans x5) hz_len (HasV.below m5 K.grow (HasV.lt m5))
      · exact st_zero23 rfl
      · exact st_eqh (.tmp 26) (.tmp 27) rfl (hz) (hz) hz_len hz_len (K.dep 3 26 rfl) (K.dep 4 27 rfl) _ (by simp)
      · exact st_pick_t (.tmp 25) (.tmp 28) (.const (.bool false)) rfl (K.dep 2 25 rfl) (K.dep 5 28 rfl)
      · exact st_move (.tmp 29) rfl (K.dep 6 29 rfl)
      · exact st_call 10 (.func 10) _ _ #[] rfl rfl rfl Tryd.enter10 (fk_of (awake_any _ (tb.below K.grow)))
      · exact st_pick_t (.tmp 30) (.tmp 31) (.const (.bool false)) rfl (K.dep 7 30 rfl) (K.dep 8 31 rfl)
      · exact st_assign (.tmp 32) rfl (K.dep 9 32 rfl)
      intro f5 w5 A hb
      replace x1 : Fk.f (.hs (hs)) (f5.eval (.tmp 1)) w5 := f_at (A.old 1 rfl) (Fk.mono _ _ _ _ x1 hb)
      replace x2 : Fk.f (.eq (.pointer (some ⟨g2, 0, none⟩))) (f5.eval (.tmp 2)) w5 := f_at (A.old 2 rfl) (Fk.mono _ _ _ _ x2 hb)
      replace x5 : Fk.f (.eq (.pointer (some ⟨g5, 0, none⟩))) (f5.eval (.tmp 5)) w5 := f_at (A.old 5 rfl) (Fk.mono _ _ _ _ x5 hb)
      replace x6 : Fk.f (.eq (.int .i64 10)) (f5.eval (.tmp 6)) w5 := f_at (A.old 6 rfl) (Fk.mono _ _ _ _ x6 hb)
      replace x22 : Fk.f (.eq (.bool true)) (f5.eval (.tmp 22)) w5 := f_at (A.old 22 rfl) (Fk.mono _ _ _ _ x22 hb)
      have x4 : Fk.f (.eq (.bool true)) (f5.eval (.tmp 4)) w5 := A.has 10 4 rfl
      replace m2 := HasV.below m2 hb (HasV.lt m2)
      replace m5 := HasV.below m5 hb (HasV.lt m5)
      replace tb := tb.below hb
      replace bl := bl.trans (Below.mono hb bl.size)
      replace sz := A.size.trans sz
      replace df := A.defs.trans df
      clear A hb
      show Code.wp _ _ _ _ _
      refine wp_ret (then_ret ?_)
      exact bodyPost_ret (v := .bool true) (ret_slot rfl f5 _ x4 _ _) df ⟨rfl, bl⟩
end Go.Proofs.YthnaomkkaodbkaaDoor
