/- Made by gen_us.py. The walk of WotsSigns. -/
import Derived.Test.YthnaomkkaodbkaaDoorUp
namespace Go.Proofs.YthnaomkkaodbkaaDoor
open Go.RowKit
set_option maxHeartbeats 1000000 in
theorem signs_law (seed : List (BitVec 8)) (key : Int) (h : List (BitVec 8)) (w : World) (hx : seed.length = 32) (hh : h.length = 32) (hK : Tab w) :
    Calls Tryd.prog 4 #[.agg (seed.map V).toArray, .int .i64 key, .agg (h.map V).toArray] w fun e w' => e = .returned (.bool true) ∧ Below w.heap.size w w' := by
  go_enter Tryd.func4, Tryd.ntmps4
  go_upto_region 1 with fail
  rename_i KK hKK
  refine code_both (fun f w1 => f.tmps.size = 117 ∧ f.defers = [] ∧ Fk.f (.eq (.int .i64 (key))) (f.eval (.tmp 1)) w1 ∧ Fk.f (.eq (.pointer (some ⟨w.heap.size, 0, none⟩))) (f.eval (.tmp 3)) w1 ∧ Fk.f (.eq (.pointer (some ⟨w.heap.size + 1, 0, none⟩))) (f.eval (.tmp 5)) w1 ∧ HasV w1 w.heap.size 23 seed ∧ HasV w1 (w.heap.size + 1) 23 h ∧ Below w.heap.size w w1) ?_ ?_
  · exact ⟨rfl, rfl, rfl, rfl, rfl, heap_alloc2_old _ _ _, heap_alloc2_new _ _ _, ((Below.refl _ _).alloc (Nat.le_refl _) _).alloc (by simp) _⟩
  rintro f0 w0 ⟨sz, df, x1, x3, x5, m3, m5, bl⟩
  have tb := hK.below bl
  obtain ⟨g5, hg5⟩ : ∃ g5, g5 = w.heap.size + 1 := ⟨_, rfl⟩
  rw [← hg5] at x5 m5
  obtain ⟨g3, hg3⟩ : ∃ g3, g3 = w.heap.size := ⟨_, rfl⟩
  rw [← hg3] at x3 m3
  by_cases qk : key < 0 ∨ 2147483647 < key
  · refine wp_region_seq [.eq (.agg ((seed).map V).toArray), .eq (.int .i64 (key)), .eq (.tuple #[.agg ((hz).map V).toArray, .int .i64 11]), .eq (.tuple #[.agg ((hz).map V).toArray, .int .i64 11]), .eq (.agg ((hz).map V).toArray), .eq (.int .i64 11), .pn w0.heap.size hz] (by kernel_rfl) (by kernel_rfl) (by rw [sz]; kernel_rfl) (by kernel_rfl) ⟨fun hw ac w' K => ?_, fun hw ac w' K => ?_, fun hw ac w' K => ?_, fun hw ac w' K => ?_, fun hw ac w' K => ?_, fun hw ac w' K => ?_, fun hw ac w' K => ?_, trivial⟩ ?_
    · exact st_load23 (.tmp 3) rfl _ (seed) ((K.old 3 rfl).trans x3) hx (HasV.below m3 K.grow (HasV.lt m3))
    · exact st_move (.tmp 1) rfl ((K.old 1 rfl).trans x1)
    · exact st_call 11 (.func 11) _ _ #[.agg ((seed).map V).toArray, .int .i64 (key)] rfl rfl (arg2 (K.dep 0 18 rfl) (K.dep 1 19 rfl)) Tryd.enter11 (fk_public_no qk)
    · exact st_move (.tmp 20) rfl (K.dep 2 20 rfl)
    · exact st_ext0 (.tmp 17) rfl (K.dep 3 17 rfl) rfl
    · exact st_ext1 (.tmp 17) rfl (K.dep 3 17 rfl) rfl
    · exact st_alloc23 rfl _ K.grow.size
    intro f1 w1 A hb
    obtain ⟨g7, hg7, e7, m7⟩ := A.has 6 7 rfl
    refine wl_store rfl (.tmp 7) (.tmp 21) rfl rfl g7 (hz) hz e7 (A.has 4 21 rfl) m7 hz_len hz_len ?_
    replace hb := Below.trans hb (below_setRow _ _ _ ((hz).map V).toArray hg7)
    replace m7 : HasV (w1.setRow g7 ((hz).map V).toArray) g7 23 (hz) := HasV.setRow m7
    generalize w1.setRow g7 ((hz).map V).toArray = w1b at hb m7 ⊢
    replace x1 : Fk.f (.eq (.int .i64 (key))) (f1.eval (.tmp 1)) w1b := f_at (A.old 1 rfl) (Fk.mono _ _ _ _ x1 hb)
    replace x3 : Fk.f (.eq (.pointer (some ⟨g3, 0, none⟩))) (f1.eval (.tmp 3)) w1b := f_at (A.old 3 rfl) (Fk.mono _ _ _ _ x3 hb)
    replace x5 : Fk.f (.eq (.pointer (some ⟨g5, 0, none⟩))) (f1.eval (.tmp 5)) w1b := f_at (A.old 5 rfl) (Fk.mono _ _ _ _ x5 hb)
    have x7 : Fk.f (.eq (.pointer (some ⟨g7, 0, none⟩))) (f1.eval (.tmp 7)) w1b := e7
    have x22 : Fk.f (.eq (.int .i64 11)) (f1.eval (.tmp 22)) w1b := A.has 5 22 rfl
    replace m3 := HasV.below m3 hb (HasV.lt m3)
    replace m5 := HasV.below m5 hb (HasV.lt m5)
    replace tb := tb.below hb
    replace bl := bl.trans (Below.mono hb bl.size)
    replace sz := A.size.trans sz
    replace df := A.defs.trans df
    clear A hb
    refine wl_assign rfl (.tmp 22) rfl 8 rfl (by rw [sz]; decide) ?_
    intro f2 df2 sz2 old2 new2
    have nx8 : Fk.f (.eq (.int .i64 11)) (f2.eval (.tmp 8)) w1b := f_at new2 x22
    replace x1 : Fk.f (.eq (.int .i64 (key))) (f2.eval (.tmp 1)) w1b := f_at (old2 1 rfl) x1
    replace x3 : Fk.f (.eq (.pointer (some ⟨g3, 0, none⟩))) (f2.eval (.tmp 3)) w1b := f_at (old2 3 rfl) x3
    replace x5 : Fk.f (.eq (.pointer (some ⟨g5, 0, none⟩))) (f2.eval (.tmp 5)) w1b := f_at (old2 5 rfl) x5
    replace x7 : Fk.f (.eq (.pointer (some ⟨g7, 0, none⟩))) (f2.eval (.tmp 7)) w1b := f_at (old2 7 rfl) x7
    replace x22 : Fk.f (.eq (.int .i64 11)) (f2.eval (.tmp 22)) w1b := f_at (old2 22 rfl) x22
    have x8 := nx8
    replace sz := sz2.trans sz
    replace df := df2.trans df
    clear df2 sz2 old2 new2 nx8
    refine wpList_nil ?_
    clear x22
    refine hKK _ _ ?_
    refine wp_seq ?_
    refine wp_all_seq [.eq (.agg ((seed).map V).toArray), .eq (.int .i64 (key)), .eq (.agg ((h).map V).toArray), .th (nilH) 11, .th (nilH) 11, .hs (nilH), .eq (.int .i64 11), .hs (nilH), .eq (.int .i64 11)] (by kernel_rfl) (by kernel_rfl) (by rw [sz]; kernel_rfl) (by kernel_rfl) ⟨fun hw ac w' K => ?_, fun hw ac w' K => ?_, fun hw ac w' K => ?_, fun hw ac w' K => ?_, fun hw ac w' K => ?_, fun hw ac w' K => ?_, fun hw ac w' K => ?_, fun hw ac w' K => ?_, fun hw ac w' K => ?_, trivial⟩ ?_
    · exact st_load23 (.tmp 3) rfl _ (seed) ((K.old 3 rfl).trans x3) hx (HasV.below m3 K.grow (HasV.lt m3))
    · exact st_move (.tmp 1) rfl ((K.old 1 rfl).trans x1)
    · exact st_load23 (.tmp 5) rfl _ (h) ((K.old 5 rfl).trans x5) hh (HasV.below m5 K.grow (HasV.lt m5))
    · exact st_call 12 (.func 12) _ _ #[.agg ((seed).map V).toArray, .int .i64 (key), .agg ((h).map V).toArray] rfl rfl (arg3 (K.dep 0 24 rfl) (K.dep 1 25 rfl) (K.dep 2 26 rfl)) Tryd.enter12 (fk_sign_no qk)
    · exact st_move (.tmp 27) rfl (K.dep 3 27 rfl)
    · exact st_exth (.tmp 23) rfl (K.dep 4 23 rfl)
    · exact st_extn (.tmp 23) rfl (K.dep 4 23 rfl)
    · exact st_assign (.tmp 28) rfl (K.dep 5 28 rfl)
    · exact st_assign (.tmp 29) rfl (K.dep 6 29 rfl)
    intro f3 w3 A hb
    replace x1 : Fk.f (.eq (.int .i64 (key))) (f3.eval (.tmp 1)) w3 := f_at (A.old 1 rfl) (Fk.mono _ _ _ _ x1 hb)
    replace x3 : Fk.f (.eq (.pointer (some ⟨g3, 0, none⟩))) (f3.eval (.tmp 3)) w3 := f_at (A.old 3 rfl) (Fk.mono _ _ _ _ x3 hb)
    replace x5 : Fk.f (.eq (.pointer (some ⟨g5, 0, none⟩))) (f3.eval (.tmp 5)) w3 := f_at (A.old 5 rfl) (Fk.mono _ _ _ _ x5 hb)
    replace x7 : Fk.f (.eq (.pointer (some ⟨g7, 0, none⟩))) (f3.eval (.tmp 7)) w3 := f_at (A.old 7 rfl) (Fk.mono _ _ _ _ x7 hb)
    replace x8 : Fk.f (.eq (.int .i64 11)) (f3.eval (.tmp 8)) w3 := f_at (A.old 8 rfl) (Fk.mono _ _ _ _ x8 hb)
    have x9 : Fk.f (.hs (nilH)) (f3.eval (.tmp 9)) w3 := A.has 7 9 rfl
    have x10 : Fk.f (.eq (.int .i64 11)) (f3.eval (.tmp 10)) w3 := A.has 8 10 rfl
    replace m3 := HasV.below m3 hb (HasV.lt m3)
    replace m5 := HasV.below m5 hb (HasV.lt m5)
    replace m7 := HasV.below m7 hb (HasV.lt m7)
    replace tb := tb.below hb
    replace bl := bl.trans (Below.mono hb bl.size)
    replace sz := A.size.trans sz
    replace df := A.defs.trans df
    clear A hb
    show Code.wp _ _ _ _ _
    refine wp_seq ?_
    refine wp_seq ?_
    by_cases q0 : key < 0
    · refine wp_all_seq [.eq (.int .i64 (key)), .eq (.bool true), .eq (.bool true), .any, .any, .eq (.bool true)] (by kernel_rfl) (by kernel_rfl) (by rw [sz]; kernel_rfl) (by kernel_rfl) ⟨fun hw ac w' K => ?_, fun hw ac w' K => ?_, fun hw ac w' K => ?_, fun hw ac w' K => ?_, fun hw ac w' K => ?_, fun hw ac w' K => ?_, trivial⟩ ?_
      · exact st_move (.tmp 1) rfl ((K.old 1 rfl).trans x1)
      · exact st_lss 3 (.tmp 30) (.const (.int .i64 0)) rfl .i64 ((key)) (0) (K.dep 0 30 rfl) rfl _ (by simp; omega)
      · exact st_move (.tmp 31) rfl (K.dep 1 31 rfl)
      · exact (Bool.false_ne_true hw).elim
      · exact (Bool.false_ne_true hw).elim
      · exact st_pick_t (.tmp 32) (.const (.bool true)) (.tmp 34) rfl (K.dep 2 32 rfl) rfl
      intro f4 w4 A hb
      replace x1 : Fk.f (.eq (.int .i64 (key))) (f4.eval (.tmp 1)) w4 := f_at (A.old 1 rfl) (Fk.mono _ _ _ _ x1 hb)
      replace x3 : Fk.f (.eq (.pointer (some ⟨g3, 0, none⟩))) (f4.eval (.tmp 3)) w4 := f_at (A.old 3 rfl) (Fk.mono _ _ _ _ x3 hb)
      replace x5 : Fk.f (.eq (.pointer (some ⟨g5, 0, none⟩))) (f4.eval (.tmp 5)) w4 := f_at (A.old 5 rfl) (Fk.mono _ _ _ _ x5 hb)
      replace x7 : Fk.f (.eq (.pointer (some ⟨g7, 0, none⟩))) (f4.eval (.tmp 7)) w4 := f_at (A.old 7 rfl) (Fk.mono _ _ _ _ x7 hb)
      replace x8 : Fk.f (.eq (.int .i64 11)) (f4.eval (.tmp 8)) w4 := f_at (A.old 8 rfl) (Fk.mono _ _ _ _ x8 hb)
      replace x9 : Fk.f (.hs (nilH)) (f4.eval (.tmp 9)) w4 := f_at (A.old 9 rfl) (Fk.mono _ _ _ _ x9 hb)
      replace x10 : Fk.f (.eq (.int .i64 11)) (f4.eval (.tmp 10)) w4 := f_at (A.old 10 rfl) (Fk.mono _ _ _ _ x10 hb)
      have x35 : Fk.f (.eq (.bool true)) (f4.eval (.tmp 35)) w4 := A.has 5 35 rfl
      replace m3 := HasV.below m3 hb (HasV.lt m3)
      replace m5 := HasV.below m5 hb (HasV.lt m5)
      replace m7 := HasV.below m7 hb (HasV.lt m7)
      replace tb := tb.below hb
      replace bl := bl.trans (Below.mono hb bl.size)
      replace sz := A.size.trans sz
      replace df := A.defs.trans df
      clear A hb
      show Code.wp _ _ _ _ _
      refine wp_cond_true x35 ?_
      refine wp_seq ?_
      refine wp_all_seq [.eq (.int .i64 11), .eq (.bool true), .eq (.bool true), .eq (.int .i64 11), .eq (.bool true), .eq (.bool true), .eq (.bool true), .eq (.agg ((hz).map V).toArray), .eq (.agg ((hz).map V).toArray), .eq (.bool true), .eq (.bool true), .eq (.bool true), .hs (nilH), .eq (.int .i64 (((nilH).length : Nat) : Int)), .eq (.bool true), .eq (.bool true), .eq (.bool true), .eq (.bool true), .eq (.bool true), .eq (.bool true)] (by kernel_rfl) (by kernel_rfl) (by rw [sz]; kernel_rfl) (by kernel_rfl) ⟨fun hw ac w' K => ?_, fun hw ac w' K => ?_, fun hw ac w' K => ?_, fun hw ac w' K => ?_, fun hw ac w' K => ?_, fun hw ac w' K => ?_, fun hw ac w' K => ?_, fun hw ac w' K => ?_, fun hw ac w' K => ?_, fun hw ac w' K => ?_, fun hw ac w' K => ?_, fun hw ac w' K => ?_, fun hw ac w' K => ?_, fun hw ac w' K => ?_, fun hw ac w' K => ?_, fun hw ac w' K => ?_, fun hw ac w' K => ?_, fun hw ac w' K => ?_, fun hw ac w' K => ?_, fun hw ac w' K => ?_, trivial⟩ ?_
      · exact st_move (.tmp 8) rfl ((K.old 8 rfl).trans x8)
      · exact st_eqi 29 (.tmp 36) (.const (.int .i64 11)) rfl .i64 (11) (11) (K.dep 0 36 rfl) rfl _ (by rfl)
      · exact st_move (.tmp 37) rfl (K.dep 1 37 rfl)
      · exact st_move (.tmp 10) rfl ((K.old 10 rfl).trans x10)
      · exact st_eqi 29 (.tmp 39) (.const (.int .i64 11)) rfl .i64 (11) (11) (K.dep 3 39 rfl) rfl _ (by rfl)
      · exact st_pick_t (.tmp 38) (.tmp 40) (.const (.bool false)) rfl (K.dep 2 38 rfl) (K.dep 4 40 rfl)
      · exact st_move (.tmp 41) rfl (K.dep 5 41 rfl)
      · exact st_load23 (.tmp 7) rfl _ (hz) ((K.old 7 rfl).trans x7) hz_len (HasV.below m7 K.grow (HasV.lt m7))
      · exact st_zero23 rfl
      · exact st_eqh (.tmp 43) (.tmp 44) rfl (hz) (hz) hz_len hz_len (K.dep 7 43 rfl) (K.dep 8 44 rfl) _ (by simp)
      · exact st_pick_t (.tmp 42) (.tmp 45) (.const (.bool false)) rfl (K.dep 6 42 rfl) (K.dep 9 45 rfl)
      · exact st_move (.tmp 46) rfl (K.dep 10 46 rfl)
      · exact st_move (.tmp 9) rfl (f_at (K.old 9 rfl) (Fk.mono _ _ _ _ x9 K.grow))
      · exact st_lenh (.tmp 48) rfl (K.dep 12 48 rfl)
      · exact st_eqi 3 (.tmp 49) (.const (.int .i64 0)) rfl .i64 ((((nilH).length : Nat) : Int)) (0) (K.dep 13 49 rfl) rfl _ (by rfl)
      · exact st_pick_t (.tmp 47) (.tmp 50) (.const (.bool false)) rfl (K.dep 11 47 rfl) (K.dep 14 50 rfl)
      · exact st_move (.tmp 51) rfl (K.dep 15 51 rfl)
      · exact st_call 10 (.func 10) _ _ #[] rfl rfl rfl Tryd.enter10 (fk_of (awake_any _ (tb.below K.grow)))
      · exact st_pick_t (.tmp 52) (.tmp 53) (.const (.bool false)) rfl (K.dep 16 52 rfl) (K.dep 17 53 rfl)
      · exact st_assign (.tmp 54) rfl (K.dep 18 54 rfl)
      intro f5 w5 A hb
      replace x1 : Fk.f (.eq (.int .i64 (key))) (f5.eval (.tmp 1)) w5 := f_at (A.old 1 rfl) (Fk.mono _ _ _ _ x1 hb)
      replace x3 : Fk.f (.eq (.pointer (some ⟨g3, 0, none⟩))) (f5.eval (.tmp 3)) w5 := f_at (A.old 3 rfl) (Fk.mono _ _ _ _ x3 hb)
      replace x5 : Fk.f (.eq (.pointer (some ⟨g5, 0, none⟩))) (f5.eval (.tmp 5)) w5 := f_at (A.old 5 rfl) (Fk.mono _ _ _ _ x5 hb)
      replace x7 : Fk.f (.eq (.pointer (some ⟨g7, 0, none⟩))) (f5.eval (.tmp 7)) w5 := f_at (A.old 7 rfl) (Fk.mono _ _ _ _ x7 hb)
      replace x8 : Fk.f (.eq (.int .i64 11)) (f5.eval (.tmp 8)) w5 := f_at (A.old 8 rfl) (Fk.mono _ _ _ _ x8 hb)
      replace x9 : Fk.f (.hs (nilH)) (f5.eval (.tmp 9)) w5 := f_at (A.old 9 rfl) (Fk.mono _ _ _ _ x9 hb)
      replace x10 : Fk.f (.eq (.int .i64 11)) (f5.eval (.tmp 10)) w5 := f_at (A.old 10 rfl) (Fk.mono _ _ _ _ x10 hb)
      replace x35 : Fk.f (.eq (.bool true)) (f5.eval (.tmp 35)) w5 := f_at (A.old 35 rfl) (Fk.mono _ _ _ _ x35 hb)
      have x6 : Fk.f (.eq (.bool true)) (f5.eval (.tmp 6)) w5 := A.has 19 6 rfl
      replace m3 := HasV.below m3 hb (HasV.lt m3)
      replace m5 := HasV.below m5 hb (HasV.lt m5)
      replace m7 := HasV.below m7 hb (HasV.lt m7)
      replace tb := tb.below hb
      replace bl := bl.trans (Below.mono hb bl.size)
      replace sz := A.size.trans sz
      replace df := A.defs.trans df
      clear A hb
      show Code.wp _ _ _ _ _
      refine wp_ret (then_ret ?_)
      exact bodyPost_ret (v := .bool true) (ret_slot rfl f5 _ x6 _ _) df ⟨rfl, bl⟩
    · refine wp_all_seq [.eq (.int .i64 (key)), .eq (.bool false), .eq (.bool false), .eq (.int .i64 (key)), .eq (.bool true), .eq (.bool true)] (by kernel_rfl) (by kernel_rfl) (by rw [sz]; kernel_rfl) (by kernel_rfl) ⟨fun hw ac w' K => ?_, fun hw ac w' K => ?_, fun hw ac w' K => ?_, fun hw ac w' K => ?_, fun hw ac w' K => ?_, fun hw ac w' K => ?_, trivial⟩ ?_
      · exact st_move (.tmp 1) rfl ((K.old 1 rfl).trans x1)
      · exact st_lss 3 (.tmp 30) (.const (.int .i64 0)) rfl .i64 ((key)) (0) (K.dep 0 30 rfl) rfl _ (by simp; omega)
      · exact st_move (.tmp 31) rfl (K.dep 1 31 rfl)
      · exact st_move (.tmp 1) rfl ((K.old 1 rfl).trans x1)
      · exact st_gtr 3 (.tmp 33) (.const (.int .i64 2147483647)) rfl .i64 ((key)) (2147483647) (K.dep 3 33 rfl) rfl _ (by simp; omega)
      · exact st_pick_f (.tmp 32) (.const (.bool true)) (.tmp 34) rfl (K.dep 2 32 rfl) (K.dep 4 34 rfl)
      intro f4 w4 A hb
      replace x1 : Fk.f (.eq (.int .i64 (key))) (f4.eval (.tmp 1)) w4 := f_at (A.old 1 rfl) (Fk.mono _ _ _ _ x1 hb)
      replace x3 : Fk.f (.eq (.pointer (some ⟨g3, 0, none⟩))) (f4.eval (.tmp 3)) w4 := f_at (A.old 3 rfl) (Fk.mono _ _ _ _ x3 hb)
      replace x5 : Fk.f (.eq (.pointer (some ⟨g5, 0, none⟩))) (f4.eval (.tmp 5)) w4 := f_at (A.old 5 rfl) (Fk.mono _ _ _ _ x5 hb)
      replace x7 : Fk.f (.eq (.pointer (some ⟨g7, 0, none⟩))) (f4.eval (.tmp 7)) w4 := f_at (A.old 7 rfl) (Fk.mono _ _ _ _ x7 hb)
      replace x8 : Fk.f (.eq (.int .i64 11)) (f4.eval (.tmp 8)) w4 := f_at (A.old 8 rfl) (Fk.mono _ _ _ _ x8 hb)
      replace x9 : Fk.f (.hs (nilH)) (f4.eval (.tmp 9)) w4 := f_at (A.old 9 rfl) (Fk.mono _ _ _ _ x9 hb)
      replace x10 : Fk.f (.eq (.int .i64 11)) (f4.eval (.tmp 10)) w4 := f_at (A.old 10 rfl) (Fk.mono _ _ _ _ x10 hb)
      have x35 : Fk.f (.eq (.bool true)) (f4.eval (.tmp 35)) w4 := A.has 5 35 rfl
      replace m3 := HasV.below m3 hb (HasV.lt m3)
      replace m5 := HasV.below m5 hb (HasV.lt m5)
      replace m7 := HasV.below m7 hb (HasV.lt m7)
      replace tb := tb.below hb
      replace bl := bl.trans (Below.mono hb bl.size)
      replace sz := A.size.trans sz
      replace df := A.defs.trans df
      clear A hb
      show Code.wp _ _ _ _ _
      refine wp_cond_true x35 ?_
      refine wp_seq ?_
      refine wp_all_seq [.eq (.int .i64 11), .eq (.bool true), .eq (.bool true), .eq (.int .i64 11), .eq (.bool true), .eq (.bool true), .eq (.bool true), .eq (.agg ((hz).map V).toArray), .eq (.agg ((hz).map V).toArray), .eq (.bool true), .eq (.bool true), .eq (.bool true), .hs (nilH), .eq (.int .i64 (((nilH).length : Nat) : Int)), .eq (.bool true), .eq (.bool true), .eq (.bool true), .eq (.bool true), .eq (.bool true), .eq (.bool true)] (by kernel_rfl) (by kernel_rfl) (by rw [sz]; kernel_rfl) (by kernel_rfl) ⟨fun hw ac w' K => ?_, fun hw ac w' K => ?_, fun hw ac w' K => ?_, fun hw ac w' K => ?_, fun hw ac w' K => ?_, fun hw ac w' K => ?_, fun hw ac w' K => ?_, fun hw ac w' K => ?_, fun hw ac w' K => ?_, fun hw ac w' K => ?_, fun hw ac w' K => ?_, fun hw ac w' K => ?_, fun hw ac w' K => ?_, fun hw ac w' K => ?_, fun hw ac w' K => ?_, fun hw ac w' K => ?_, fun hw ac w' K => ?_, fun hw ac w' K => ?_, fun hw ac w' K => ?_, fun hw ac w' K => ?_, trivial⟩ ?_
      · exact st_move (.tmp 8) rfl ((K.old 8 rfl).trans x8)
      · exact st_eqi 29 (.tmp 36) (.const (.int .i64 11)) rfl .i64 (11) (11) (K.dep 0 36 rfl) rfl _ (by rfl)
      · exact st_move (.tmp 37) rfl (K.dep 1 37 rfl)
      · exact st_move (.tmp 10) rfl ((K.old 10 rfl).trans x10)
      · exact st_eqi 29 (.tmp 39) (.const (.int .i64 11)) rfl .i64 (11) (11) (K.dep 3 39 rfl) rfl _ (by rfl)
      · exact st_pick_t (.tmp 38) (.tmp 40) (.const (.bool false)) rfl (K.dep 2 38 rfl) (K.dep 4 40 rfl)
      · exact st_move (.tmp 41) rfl (K.dep 5 41 rfl)
      · exact st_load23 (.tmp 7) rfl _ (hz) ((K.old 7 rfl).trans x7) hz_len (HasV.below m7 K.grow (HasV.lt m7))
      · exact st_zero23 rfl
      · exact st_eqh (.tmp 43) (.tmp 44) rfl (hz) (hz) hz_len hz_len (K.dep 7 43 rfl) (K.dep 8 44 rfl) _ (by simp)
      · exact st_pick_t (.tmp 42) (.tmp 45) (.const (.bool false)) rfl (K.dep 6 42 rfl) (K.dep 9 45 rfl)
      · exact st_move (.tmp 46) rfl (K.dep 10 46 rfl)
      · exact st_move (.tmp 9) rfl (f_at (K.old 9 rfl) (Fk.mono _ _ _ _ x9 K.grow))
      · exact st_lenh (.tmp 48) rfl (K.dep 12 48 rfl)
      · exact st_eqi 3 (.tmp 49) (.const (.int .i64 0)) rfl .i64 ((((nilH).length : Nat) : Int)) (0) (K.dep 13 49 rfl) rfl _ (by rfl)
      · exact st_pick_t (.tmp 47) (.tmp 50) (.const (.bool false)) rfl (K.dep 11 47 rfl) (K.dep 14 50 rfl)
      · exact st_move (.tmp 51) rfl (K.dep 15 51 rfl)
      · exact st_call 10 (.func 10) _ _ #[] rfl rfl rfl Tryd.enter10 (fk_of (awake_any _ (tb.below K.grow)))
      · exact st_pick_t (.tmp 52) (.tmp 53) (.const (.bool false)) rfl (K.dep 16 52 rfl) (K.dep 17 53 rfl)
      · exact st_assign (.tmp 54) rfl (K.dep 18 54 rfl)
      intro f5 w5 A hb
      replace x1 : Fk.f (.eq (.int .i64 (key))) (f5.eval (.tmp 1)) w5 := f_at (A.old 1 rfl) (Fk.mono _ _ _ _ x1 hb)
      replace x3 : Fk.f (.eq (.pointer (some ⟨g3, 0, none⟩))) (f5.eval (.tmp 3)) w5 := f_at (A.old 3 rfl) (Fk.mono _ _ _ _ x3 hb)
      replace x5 : Fk.f (.eq (.pointer (some ⟨g5, 0, none⟩))) (f5.eval (.tmp 5)) w5 := f_at (A.old 5 rfl) (Fk.mono _ _ _ _ x5 hb)
      replace x7 : Fk.f (.eq (.pointer (some ⟨g7, 0, none⟩))) (f5.eval (.tmp 7)) w5 := f_at (A.old 7 rfl) (Fk.mono _ _ _ _ x7 hb)
      replace x8 : Fk.f (.eq (.int .i64 11)) (f5.eval (.tmp 8)) w5 := f_at (A.old 8 rfl) (Fk.mono _ _ _ _ x8 hb)
      replace x9 : Fk.f (.hs (nilH)) (f5.eval (.tmp 9)) w5 := f_at (A.old 9 rfl) (Fk.mono _ _ _ _ x9 hb)
      replace x10 : Fk.f (.eq (.int .i64 11)) (f5.eval (.tmp 10)) w5 := f_at (A.old 10 rfl) (Fk.mono _ _ _ _ x10 hb)
      replace x35 : Fk.f (.eq (.bool true)) (f5.eval (.tmp 35)) w5 := f_at (A.old 35 rfl) (Fk.mono _ _ _ _ x35 hb)
      have x6 : Fk.f (.eq (.bool true)) (f5.eval (.tmp 6)) w5 := A.has 19 6 rfl
      replace m3 := HasV.below m3 hb (HasV.lt m3)
      replace m5 := HasV.below m5 hb (HasV.lt m5)
      replace m7 := HasV.below m7 hb (HasV.lt m7)
      replace tb := tb.below hb
      replace bl := bl.trans (Below.mono hb bl.size)
      replace sz := A.size.trans sz
      replace df := A.defs.trans df
      clear A hb
      show Code.wp _ _ _ _ _
      refine wp_ret (then_ret ?_)
      exact bodyPost_ret (v := .bool true) (ret_slot rfl f5 _ x6 _ _) df ⟨rfl, bl⟩
  · obtain ⟨n, rfl⟩ := Int.eq_ofNat_of_zero_le (show 0 ≤ key by omega)
    have hn : n ≤ 2147483647 := by omega
    obtain ⟨p, ep⟩ : ∃ p, Box (pub (all67 (endOf seed n)) = p) := ⟨_, ⟨rfl⟩⟩
    have hpl : p.length = 32 := by rw [← ep.out]; exact pub_len _
    obtain ⟨S, eS⟩ : ∃ S, Box (all67 (sigOf seed n h) = S) := ⟨_, ⟨rfl⟩⟩
    have hSl : S.length = 67 := by rw [← eS.out]; exact all_len _
    have eq : Box (pub (all67 (recOf h S)) = p) := ⟨by rw [← eS.out, rec_sig]; exact ep.out⟩
    refine wp_region_seq [.eq (.agg ((seed).map V).toArray), .eq (.int .i64 ((n : Nat) : Int)), .eq (.tuple #[.agg ((p).map V).toArray, .int .i64 0]), .eq (.tuple #[.agg ((p).map V).toArray, .int .i64 0]), .eq (.agg ((p).map V).toArray), .eq (.int .i64 0), .pn w0.heap.size hz] (by kernel_rfl) (by kernel_rfl) (by rw [sz]; kernel_rfl) (by kernel_rfl) ⟨fun hw ac w' K => ?_, fun hw ac w' K => ?_, fun hw ac w' K => ?_, fun hw ac w' K => ?_, fun hw ac w' K => ?_, fun hw ac w' K => ?_, fun hw ac w' K => ?_, trivial⟩ ?_
    · exact st_load23 (.tmp 3) rfl _ (seed) ((K.old 3 rfl).trans x3) hx (HasV.below m3 K.grow (HasV.lt m3))
    · exact st_move (.tmp 1) rfl ((K.old 1 rfl).trans x1)
    · exact st_call 11 (.func 11) _ _ #[.agg ((seed).map V).toArray, .int .i64 (((n : Nat) : Int))] rfl rfl (arg2 (K.dep 0 18 rfl) (K.dep 1 19 rfl)) Tryd.enter11 (fk_public_ok hx hn (tb.below K.grow) ep)
    · exact st_move (.tmp 20) rfl (K.dep 2 20 rfl)
    · exact st_ext0 (.tmp 17) rfl (K.dep 3 17 rfl) rfl
    · exact st_ext1 (.tmp 17) rfl (K.dep 3 17 rfl) rfl
    · exact st_alloc23 rfl _ K.grow.size
    intro f1 w1 A hb
    obtain ⟨g7, hg7, e7, m7⟩ := A.has 6 7 rfl
    refine wl_store rfl (.tmp 7) (.tmp 21) rfl rfl g7 (p) hz e7 (A.has 4 21 rfl) m7 hz_len hpl ?_
    replace hb := Below.trans hb (below_setRow _ _ _ ((p).map V).toArray hg7)
    replace m7 : HasV (w1.setRow g7 ((p).map V).toArray) g7 23 (p) := HasV.setRow m7
    generalize w1.setRow g7 ((p).map V).toArray = w1b at hb m7 ⊢
    replace x1 : Fk.f (.eq (.int .i64 ((n : Nat) : Int))) (f1.eval (.tmp 1)) w1b := f_at (A.old 1 rfl) (Fk.mono _ _ _ _ x1 hb)
    replace x3 : Fk.f (.eq (.pointer (some ⟨g3, 0, none⟩))) (f1.eval (.tmp 3)) w1b := f_at (A.old 3 rfl) (Fk.mono _ _ _ _ x3 hb)
    replace x5 : Fk.f (.eq (.pointer (some ⟨g5, 0, none⟩))) (f1.eval (.tmp 5)) w1b := f_at (A.old 5 rfl) (Fk.mono _ _ _ _ x5 hb)
    have x7 : Fk.f (.eq (.pointer (some ⟨g7, 0, none⟩))) (f1.eval (.tmp 7)) w1b := e7
    have x22 : Fk.f (.eq (.int .i64 0)) (f1.eval (.tmp 22)) w1b := A.has 5 22 rfl
    replace m3 := HasV.below m3 hb (HasV.lt m3)
    replace m5 := HasV.below m5 hb (HasV.lt m5)
    replace tb := tb.below hb
    replace bl := bl.trans (Below.mono hb bl.size)
    replace sz := A.size.trans sz
    replace df := A.defs.trans df
    clear A hb
    refine wl_assign rfl (.tmp 22) rfl 8 rfl (by rw [sz]; decide) ?_
    intro f2 df2 sz2 old2 new2
    have nx8 : Fk.f (.eq (.int .i64 0)) (f2.eval (.tmp 8)) w1b := f_at new2 x22
    replace x1 : Fk.f (.eq (.int .i64 ((n : Nat) : Int))) (f2.eval (.tmp 1)) w1b := f_at (old2 1 rfl) x1
    replace x3 : Fk.f (.eq (.pointer (some ⟨g3, 0, none⟩))) (f2.eval (.tmp 3)) w1b := f_at (old2 3 rfl) x3
    replace x5 : Fk.f (.eq (.pointer (some ⟨g5, 0, none⟩))) (f2.eval (.tmp 5)) w1b := f_at (old2 5 rfl) x5
    replace x7 : Fk.f (.eq (.pointer (some ⟨g7, 0, none⟩))) (f2.eval (.tmp 7)) w1b := f_at (old2 7 rfl) x7
    replace x22 : Fk.f (.eq (.int .i64 0)) (f2.eval (.tmp 22)) w1b := f_at (old2 22 rfl) x22
    have x8 := nx8
    replace sz := sz2.trans sz
    replace df := df2.trans df
    clear df2 sz2 old2 new2 nx8
    refine wpList_nil ?_
    clear x22
    refine hKK _ _ ?_
    refine wp_seq ?_
    refine wp_all_seq [.eq (.agg ((seed).map V).toArray), .eq (.int .i64 ((n : Nat) : Int)), .eq (.agg ((h).map V).toArray), .th (S) 0, .th (S) 0, .hs (S), .eq (.int .i64 0), .hs (S), .eq (.int .i64 0)] (by kernel_rfl) (by kernel_rfl) (by rw [sz]; kernel_rfl) (by kernel_rfl) ⟨fun hw ac w' K => ?_, fun hw ac w' K => ?_, fun hw ac w' K => ?_, fun hw ac w' K => ?_, fun hw ac w' K => ?_, fun hw ac w' K => ?_, fun hw ac w' K => ?_, fun hw ac w' K => ?_, fun hw ac w' K => ?_, trivial⟩ ?_
    · exact st_load23 (.tmp 3) rfl _ (seed) ((K.old 3 rfl).trans x3) hx (HasV.below m3 K.grow (HasV.lt m3))
    · exact st_move (.tmp 1) rfl ((K.old 1 rfl).trans x1)
    · exact st_load23 (.tmp 5) rfl _ (h) ((K.old 5 rfl).trans x5) hh (HasV.below m5 K.grow (HasV.lt m5))
    · exact st_call 12 (.func 12) _ _ #[.agg ((seed).map V).toArray, .int .i64 (((n : Nat) : Int)), .agg ((h).map V).toArray] rfl rfl (arg3 (K.dep 0 24 rfl) (K.dep 1 25 rfl) (K.dep 2 26 rfl)) Tryd.enter12 (fk_sign_ok hx hh hn (tb.below K.grow) eS)
    · exact st_move (.tmp 27) rfl (K.dep 3 27 rfl)
    · exact st_exth (.tmp 23) rfl (K.dep 4 23 rfl)
    · exact st_extn (.tmp 23) rfl (K.dep 4 23 rfl)
    · exact st_assign (.tmp 28) rfl (K.dep 5 28 rfl)
    · exact st_assign (.tmp 29) rfl (K.dep 6 29 rfl)
    intro f3 w3 A hb
    replace x1 : Fk.f (.eq (.int .i64 ((n : Nat) : Int))) (f3.eval (.tmp 1)) w3 := f_at (A.old 1 rfl) (Fk.mono _ _ _ _ x1 hb)
    replace x3 : Fk.f (.eq (.pointer (some ⟨g3, 0, none⟩))) (f3.eval (.tmp 3)) w3 := f_at (A.old 3 rfl) (Fk.mono _ _ _ _ x3 hb)
    replace x5 : Fk.f (.eq (.pointer (some ⟨g5, 0, none⟩))) (f3.eval (.tmp 5)) w3 := f_at (A.old 5 rfl) (Fk.mono _ _ _ _ x5 hb)
    replace x7 : Fk.f (.eq (.pointer (some ⟨g7, 0, none⟩))) (f3.eval (.tmp 7)) w3 := f_at (A.old 7 rfl) (Fk.mono _ _ _ _ x7 hb)
    replace x8 : Fk.f (.eq (.int .i64 0)) (f3.eval (.tmp 8)) w3 := f_at (A.old 8 rfl) (Fk.mono _ _ _ _ x8 hb)
    have x9 : Fk.f (.hs (S)) (f3.eval (.tmp 9)) w3 := A.has 7 9 rfl
    have x10 : Fk.f (.eq (.int .i64 0)) (f3.eval (.tmp 10)) w3 := A.has 8 10 rfl
    replace m3 := HasV.below m3 hb (HasV.lt m3)
    replace m5 := HasV.below m5 hb (HasV.lt m5)
    replace m7 := HasV.below m7 hb (HasV.lt m7)
    replace tb := tb.below hb
    replace bl := bl.trans (Below.mono hb bl.size)
    replace sz := A.size.trans sz
    replace df := A.defs.trans df
    clear A hb
    show Code.wp _ _ _ _ _
    refine wp_seq ?_
    refine wp_seq ?_
    refine wp_all_seq [.eq (.int .i64 ((n : Nat) : Int)), .eq (.bool false), .eq (.bool false), .eq (.int .i64 ((n : Nat) : Int)), .eq (.bool false), .eq (.bool false)] (by kernel_rfl) (by kernel_rfl) (by rw [sz]; kernel_rfl) (by kernel_rfl) ⟨fun hw ac w' K => ?_, fun hw ac w' K => ?_, fun hw ac w' K => ?_, fun hw ac w' K => ?_, fun hw ac w' K => ?_, fun hw ac w' K => ?_, trivial⟩ ?_
    · exact st_move (.tmp 1) rfl ((K.old 1 rfl).trans x1)
    · exact st_lss 3 (.tmp 30) (.const (.int .i64 0)) rfl .i64 (((n : Nat) : Int)) (0) (K.dep 0 30 rfl) rfl _ (by simp)
    · exact st_move (.tmp 31) rfl (K.dep 1 31 rfl)
    · exact st_move (.tmp 1) rfl ((K.old 1 rfl).trans x1)
    · exact st_gtr 3 (.tmp 33) (.const (.int .i64 2147483647)) rfl .i64 (((n : Nat) : Int)) (2147483647) (K.dep 3 33 rfl) rfl _ (by simp; omega)
    · exact st_pick_f (.tmp 32) (.const (.bool true)) (.tmp 34) rfl (K.dep 2 32 rfl) (K.dep 4 34 rfl)
    intro f4 w4 A hb
    replace x1 : Fk.f (.eq (.int .i64 ((n : Nat) : Int))) (f4.eval (.tmp 1)) w4 := f_at (A.old 1 rfl) (Fk.mono _ _ _ _ x1 hb)
    replace x3 : Fk.f (.eq (.pointer (some ⟨g3, 0, none⟩))) (f4.eval (.tmp 3)) w4 := f_at (A.old 3 rfl) (Fk.mono _ _ _ _ x3 hb)
    replace x5 : Fk.f (.eq (.pointer (some ⟨g5, 0, none⟩))) (f4.eval (.tmp 5)) w4 := f_at (A.old 5 rfl) (Fk.mono _ _ _ _ x5 hb)
    replace x7 : Fk.f (.eq (.pointer (some ⟨g7, 0, none⟩))) (f4.eval (.tmp 7)) w4 := f_at (A.old 7 rfl) (Fk.mono _ _ _ _ x7 hb)
    replace x8 : Fk.f (.eq (.int .i64 0)) (f4.eval (.tmp 8)) w4 := f_at (A.old 8 rfl) (Fk.mono _ _ _ _ x8 hb)
    replace x9 : Fk.f (.hs (S)) (f4.eval (.tmp 9)) w4 := f_at (A.old 9 rfl) (Fk.mono _ _ _ _ x9 hb)
    replace x10 : Fk.f (.eq (.int .i64 0)) (f4.eval (.tmp 10)) w4 := f_at (A.old 10 rfl) (Fk.mono _ _ _ _ x10 hb)
    have x35 : Fk.f (.eq (.bool false)) (f4.eval (.tmp 35)) w4 := A.has 5 35 rfl
    replace m3 := HasV.below m3 hb (HasV.lt m3)
    replace m5 := HasV.below m5 hb (HasV.lt m5)
    replace m7 := HasV.below m7 hb (HasV.lt m7)
    replace tb := tb.below hb
    replace bl := bl.trans (Below.mono hb bl.size)
    replace sz := A.size.trans sz
    replace df := A.defs.trans df
    clear A hb
    show Code.wp _ _ _ _ _
    refine wp_cond_false x35 ?_
    refine wp_skip ?_
    show Code.wp _ _ _ _ _
    clear x35
    refine wp_seq ?_
    refine wp_seq ?_
    refine wp_all_seq [.eq (.int .i64 0), .eq (.bool false), .eq (.bool false), .eq (.int .i64 0), .eq (.bool false), .eq (.bool false), .eq (.bool false), .hs (S), .eq (.int .i64 (((S).length : Nat) : Int)), .eq (.bool false), .eq (.bool false)] (by kernel_rfl) (by kernel_rfl) (by rw [sz]; kernel_rfl) (by kernel_rfl) ⟨fun hw ac w' K => ?_, fun hw ac w' K => ?_, fun hw ac w' K => ?_, fun hw ac w' K => ?_, fun hw ac w' K => ?_, fun hw ac w' K => ?_, fun hw ac w' K => ?_, fun hw ac w' K => ?_, fun hw ac w' K => ?_, fun hw ac w' K => ?_, fun hw ac w' K => ?_, trivial⟩ ?_
    · exact st_move (.tmp 8) rfl ((K.old 8 rfl).trans x8)
    · exact st_neqi 29 (.tmp 55) (.const (.int .i64 0)) rfl .i64 (0) (0) (K.dep 0 55 rfl) rfl _ (by rfl)
    · exact st_move (.tmp 56) rfl (K.dep 1 56 rfl)
    · exact st_move (.tmp 10) rfl ((K.old 10 rfl).trans x10)
    · exact st_neqi 29 (.tmp 58) (.const (.int .i64 0)) rfl .i64 (0) (0) (K.dep 3 58 rfl) rfl _ (by rfl)
    · exact st_pick_f (.tmp 57) (.const (.bool true)) (.tmp 59) rfl (K.dep 2 57 rfl) (K.dep 4 59 rfl)
    · exact st_move (.tmp 60) rfl (K.dep 5 60 rfl)
    · exact st_move (.tmp 9) rfl (f_at (K.old 9 rfl) (Fk.mono _ _ _ _ x9 K.grow))
    · exact st_lenh (.tmp 62) rfl (K.dep 7 62 rfl)
    · exact st_neqi 3 (.tmp 63) (.const (.int .i64 67)) rfl .i64 ((((S).length : Nat) : Int)) (67) (K.dep 8 63 rfl) rfl _ (by rw [hSl]; rfl)
    · exact st_pick_f (.tmp 61) (.const (.bool true)) (.tmp 64) rfl (K.dep 6 61 rfl) (K.dep 9 64 rfl)
    intro f5 w5 A hb
    replace x1 : Fk.f (.eq (.int .i64 ((n : Nat) : Int))) (f5.eval (.tmp 1)) w5 := f_at (A.old 1 rfl) (Fk.mono _ _ _ _ x1 hb)
    replace x3 : Fk.f (.eq (.pointer (some ⟨g3, 0, none⟩))) (f5.eval (.tmp 3)) w5 := f_at (A.old 3 rfl) (Fk.mono _ _ _ _ x3 hb)
    replace x5 : Fk.f (.eq (.pointer (some ⟨g5, 0, none⟩))) (f5.eval (.tmp 5)) w5 := f_at (A.old 5 rfl) (Fk.mono _ _ _ _ x5 hb)
    replace x7 : Fk.f (.eq (.pointer (some ⟨g7, 0, none⟩))) (f5.eval (.tmp 7)) w5 := f_at (A.old 7 rfl) (Fk.mono _ _ _ _ x7 hb)
    replace x8 : Fk.f (.eq (.int .i64 0)) (f5.eval (.tmp 8)) w5 := f_at (A.old 8 rfl) (Fk.mono _ _ _ _ x8 hb)
    replace x9 : Fk.f (.hs (S)) (f5.eval (.tmp 9)) w5 := f_at (A.old 9 rfl) (Fk.mono _ _ _ _ x9 hb)
    replace x10 : Fk.f (.eq (.int .i64 0)) (f5.eval (.tmp 10)) w5 := f_at (A.old 10 rfl) (Fk.mono _ _ _ _ x10 hb)
    have x65 : Fk.f (.eq (.bool false)) (f5.eval (.tmp 65)) w5 := A.has 10 65 rfl
    replace m3 := HasV.below m3 hb (HasV.lt m3)
    replace m5 := HasV.below m5 hb (HasV.lt m5)
    replace m7 := HasV.below m7 hb (HasV.lt m7)
    replace tb := tb.below hb
    replace bl := bl.trans (Below.mono hb bl.size)
    replace sz := A.size.trans sz
    replace df := A.defs.trans df
    clear A hb
    show Code.wp _ _ _ _ _
    refine wp_cond_false x65 ?_
    refine wp_skip ?_
    show Code.wp _ _ _ _ _
    clear x65
    clear x8
    clear x10
    refine wp_seq ?_
    refine wp_all_seq [.eq (.slice none 0 0)] (by kernel_rfl) (by kernel_rfl) (by rw [sz]; kernel_rfl) (by kernel_rfl) ⟨fun hw ac w' K => ?_, trivial⟩ ?_
    · exact st_assign (.const (.slice none 0 0)) rfl rfl
    intro f6 w6 A hb
    replace x1 : Fk.f (.eq (.int .i64 ((n : Nat) : Int))) (f6.eval (.tmp 1)) w6 := f_at (A.old 1 rfl) (Fk.mono _ _ _ _ x1 hb)
    replace x3 : Fk.f (.eq (.pointer (some ⟨g3, 0, none⟩))) (f6.eval (.tmp 3)) w6 := f_at (A.old 3 rfl) (Fk.mono _ _ _ _ x3 hb)
    replace x5 : Fk.f (.eq (.pointer (some ⟨g5, 0, none⟩))) (f6.eval (.tmp 5)) w6 := f_at (A.old 5 rfl) (Fk.mono _ _ _ _ x5 hb)
    replace x7 : Fk.f (.eq (.pointer (some ⟨g7, 0, none⟩))) (f6.eval (.tmp 7)) w6 := f_at (A.old 7 rfl) (Fk.mono _ _ _ _ x7 hb)
    replace x9 : Fk.f (.hs (S)) (f6.eval (.tmp 9)) w6 := f_at (A.old 9 rfl) (Fk.mono _ _ _ _ x9 hb)
    have x11 : Fk.f (.eq (.slice none 0 0)) (f6.eval (.tmp 11)) w6 := A.has 0 11 rfl
    replace m3 := HasV.below m3 hb (HasV.lt m3)
    replace m5 := HasV.below m5 hb (HasV.lt m5)
    replace m7 := HasV.below m7 hb (HasV.lt m7)
    replace tb := tb.below hb
    replace bl := bl.trans (Below.mono hb bl.size)
    replace sz := A.size.trans sz
    replace df := A.defs.trans df
    clear A hb
    show Code.wp _ _ _ _ _
    refine wp_seq ?_
    refine wp_seq ?_
    refine wp_all_seq [.eq (.agg ((h).map V).toArray), .ds (dig (h)), .eq (.int .i64 (((dig (h)).length : Nat) : Int)), .eq (.int .i64 0)] (by kernel_rfl) (by kernel_rfl) (by rw [sz]; kernel_rfl) (by kernel_rfl) ⟨fun hw ac w' K => ?_, fun hw ac w' K => ?_, fun hw ac w' K => ?_, fun hw ac w' K => ?_, trivial⟩ ?_
    · exact st_load23 (.tmp 5) rfl _ (h) ((K.old 5 rfl).trans x5) hh (HasV.below m5 K.grow (HasV.lt m5))
    · exact st_call 9 (.func 9) _ _ #[.agg ((h).map V).toArray] rfl rfl (one_arg (K.dep 0 66 rfl)) Tryd.enter9 (fk_ref hh)
    · exact st_leni (.tmp 67) rfl (K.dep 1 67 rfl)
    · exact st_move (.const (.int .i64 0)) rfl rfl
    intro f7 w7 A hb
    replace x1 : Fk.f (.eq (.int .i64 ((n : Nat) : Int))) (f7.eval (.tmp 1)) w7 := f_at (A.old 1 rfl) (Fk.mono _ _ _ _ x1 hb)
    replace x3 : Fk.f (.eq (.pointer (some ⟨g3, 0, none⟩))) (f7.eval (.tmp 3)) w7 := f_at (A.old 3 rfl) (Fk.mono _ _ _ _ x3 hb)
    replace x5 : Fk.f (.eq (.pointer (some ⟨g5, 0, none⟩))) (f7.eval (.tmp 5)) w7 := f_at (A.old 5 rfl) (Fk.mono _ _ _ _ x5 hb)
    replace x7 : Fk.f (.eq (.pointer (some ⟨g7, 0, none⟩))) (f7.eval (.tmp 7)) w7 := f_at (A.old 7 rfl) (Fk.mono _ _ _ _ x7 hb)
    replace x9 : Fk.f (.hs (S)) (f7.eval (.tmp 9)) w7 := f_at (A.old 9 rfl) (Fk.mono _ _ _ _ x9 hb)
    replace x11 : Fk.f (.eq (.slice none 0 0)) (f7.eval (.tmp 11)) w7 := f_at (A.old 11 rfl) (Fk.mono _ _ _ _ x11 hb)
    have x67 : Fk.f (.ds (dig (h))) (f7.eval (.tmp 67)) w7 := A.has 1 67 rfl
    have x68 : Fk.f (.eq (.int .i64 (((dig (h)).length : Nat) : Int))) (f7.eval (.tmp 68)) w7 := A.has 2 68 rfl
    have x69 : Fk.f (.eq (.int .i64 0)) (f7.eval (.tmp 69)) w7 := A.has 3 69 rfl
    replace m3 := HasV.below m3 hb (HasV.lt m3)
    replace m5 := HasV.below m5 hb (HasV.lt m5)
    replace m7 := HasV.below m7 hb (HasV.lt m7)
    replace tb := tb.below hb
    replace bl := bl.trans (Below.mono hb bl.size)
    replace sz := A.size.trans sz
    replace df := A.defs.trans df
    clear A hb
    show Code.wp _ _ _ _ _
    have hdl := dig_len h
    refine wp_block ?_
    have xL1 := x1
    have xL3 := x3
    have xL5 := x5
    have xL7 := x7
    have xL9 := x9
    have xL67 := x67
    have xL68 := x68
    have Lm3 := m3
    have Lm5 := m5
    have Lm7 := m7
    have tbL := tb
    have blL := bl
    refine wp_loop (fun f v1 => ∃ k : Nat, k ≤ 67 ∧ f.tmps.size = 117 ∧ f.defers = [] ∧ f.eval (.tmp 1) = f7.eval (.tmp 1) ∧ f.eval (.tmp 3) = f7.eval (.tmp 3) ∧ f.eval (.tmp 5) = f7.eval (.tmp 5) ∧ f.eval (.tmp 7) = f7.eval (.tmp 7) ∧ f.eval (.tmp 9) = f7.eval (.tmp 9) ∧ f.eval (.tmp 67) = f7.eval (.tmp 67) ∧ f.eval (.tmp 68) = f7.eval (.tmp 68) ∧ Fk.f (.eq (.int .i64 ((k : Nat) : Int))) (f.eval (.tmp 69)) v1 ∧ Fk.f (.ow w7.heap.size (firsts (endOf seed n) k)) (f.eval (.tmp 11)) v1 ∧ Below w7.heap.size w7 v1) (fun f _ => 67 - (intOf (f.eval (.tmp 69))).toNat) ⟨0, by omega, sz, df, rfl, rfl, rfl, rfl, rfl, rfl, rfl, x69, (by rw [show _ = _ from x11]; exact ow_nil _ _), Below.refl _ _⟩ ?_
    intro f8 w8 hI
    clear sz df x69 tb bl x11 x1 x3 x5 x7 x9 x67 x68 m3 m5 m7
    obtain ⟨k, hk, sz, df, a1, a3, a5, a7, a9, a67, a68, x69, x11, hL⟩ := hI
    have c69 := x69
    have x1 : Fk.f (.eq (.int .i64 ((n : Nat) : Int))) (f8.eval (.tmp 1)) w8 := f_at a1 (Fk.mono _ _ _ _ xL1 hL)
    have x3 : Fk.f (.eq (.pointer (some ⟨g3, 0, none⟩))) (f8.eval (.tmp 3)) w8 := f_at a3 (Fk.mono _ _ _ _ xL3 hL)
    have x5 : Fk.f (.eq (.pointer (some ⟨g5, 0, none⟩))) (f8.eval (.tmp 5)) w8 := f_at a5 (Fk.mono _ _ _ _ xL5 hL)
    have x7 : Fk.f (.eq (.pointer (some ⟨g7, 0, none⟩))) (f8.eval (.tmp 7)) w8 := f_at a7 (Fk.mono _ _ _ _ xL7 hL)
    have x9 : Fk.f (.hs (S)) (f8.eval (.tmp 9)) w8 := f_at a9 (Fk.mono _ _ _ _ xL9 hL)
    have x67 : Fk.f (.ds (dig (h))) (f8.eval (.tmp 67)) w8 := f_at a67 (Fk.mono _ _ _ _ xL67 hL)
    have x68 : Fk.f (.eq (.int .i64 (((dig (h)).length : Nat) : Int))) (f8.eval (.tmp 68)) w8 := f_at a68 (Fk.mono _ _ _ _ xL68 hL)
    have m3 := HasV.below Lm3 hL (HasV.lt Lm3)
    have m5 := HasV.below Lm5 hL (HasV.lt Lm5)
    have m7 := HasV.below Lm7 hL (HasV.lt Lm7)
    have tb := tbL.below hL
    by_cases hlt : k < 67
    · obtain ⟨d, ed⟩ : ∃ d, (dig h)[k]? = some d := ⟨_, dg_at h k hlt⟩
      have hd15 := dig_le h k d ed
      have edg : dg h k = d := by unfold dg; simp [ed]
      obtain ⟨t, et⟩ : ∃ t, Box (sec seed ((n : Nat) : Int) ((k : Nat) : Int) = t) := ⟨_, ⟨rfl⟩⟩
      have htl : t.length = 32 := by rw [← et.out]; exact sec_len _ _ _
      obtain ⟨z, ez⟩ : ∃ z, Box (wk ((k : Nat) : Int) 0 t (d - 0) = z) := ⟨_, ⟨rfl⟩⟩
      have hzl : z.length = 32 := by rw [← ez.out]; exact wk_len _ _ _ _ htl
      have hz' : sigOf seed n h k = z := by unfold sigOf; rw [edg, et.out]; exact ez.out
      obtain ⟨y, ey⟩ : ∃ y, Box (wk ((k : Nat) : Int) d z (15 - d) = y) := ⟨_, ⟨rfl⟩⟩
      have hyl : y.length = 32 := by rw [← ey.out]; exact wk_len _ _ _ _ hzl
      have eF : endOf seed n k = y := by rw [← sig_end seed n h k, hz', edg]; exact ey.out
      have eat : S[k]? = some z := by rw [← eS.out, all_at _ k hlt, hz']
      refine wp_seq ?_
      refine wp_all_seq [.eq (.bool true)] (by kernel_rfl) (by kernel_rfl) (by rw [sz]; kernel_rfl) (by kernel_rfl) ⟨fun hw ac w' K => ?_, trivial⟩ ?_
      · exact st_lss 3 (.tmp 69) (.tmp 68) rfl .i64 (((k : Nat) : Int)) ((((dig (h)).length : Nat) : Int)) ((K.old 69 rfl).trans x69) ((K.old 68 rfl).trans x68) _ (by rw [hdl]; simp; omega)
      intro f9 w9 A hb
      replace x1 : Fk.f (.eq (.int .i64 ((n : Nat) : Int))) (f9.eval (.tmp 1)) w9 := f_at (A.old 1 rfl) (Fk.mono _ _ _ _ x1 hb)
      replace x3 : Fk.f (.eq (.pointer (some ⟨g3, 0, none⟩))) (f9.eval (.tmp 3)) w9 := f_at (A.old 3 rfl) (Fk.mono _ _ _ _ x3 hb)
      replace x5 : Fk.f (.eq (.pointer (some ⟨g5, 0, none⟩))) (f9.eval (.tmp 5)) w9 := f_at (A.old 5 rfl) (Fk.mono _ _ _ _ x5 hb)
      replace x7 : Fk.f (.eq (.pointer (some ⟨g7, 0, none⟩))) (f9.eval (.tmp 7)) w9 := f_at (A.old 7 rfl) (Fk.mono _ _ _ _ x7 hb)
      replace x9 : Fk.f (.hs (S)) (f9.eval (.tmp 9)) w9 := f_at (A.old 9 rfl) (Fk.mono _ _ _ _ x9 hb)
      replace x11 : Fk.f (.ow w7.heap.size (firsts (endOf seed n) k)) (f9.eval (.tmp 11)) w9 := f_at (A.old 11 rfl) (Fk.mono _ _ _ _ x11 hb)
      replace x67 : Fk.f (.ds (dig (h))) (f9.eval (.tmp 67)) w9 := f_at (A.old 67 rfl) (Fk.mono _ _ _ _ x67 hb)
      replace x68 : Fk.f (.eq (.int .i64 (((dig (h)).length : Nat) : Int))) (f9.eval (.tmp 68)) w9 := f_at (A.old 68 rfl) (Fk.mono _ _ _ _ x68 hb)
      replace x69 : Fk.f (.eq (.int .i64 ((k : Nat) : Int))) (f9.eval (.tmp 69)) w9 := f_at (A.old 69 rfl) (Fk.mono _ _ _ _ x69 hb)
      have x70 : Fk.f (.eq (.bool true)) (f9.eval (.tmp 70)) w9 := A.has 0 70 rfl
      replace m3 := HasV.below m3 hb (HasV.lt m3)
      replace m5 := HasV.below m5 hb (HasV.lt m5)
      replace m7 := HasV.below m7 hb (HasV.lt m7)
      replace tb := tb.below hb
      replace sz := A.size.trans sz
      replace df := A.defs.trans df
      replace a1 := (A.old 1 rfl).trans a1
      replace a3 := (A.old 3 rfl).trans a3
      replace a5 := (A.old 5 rfl).trans a5
      replace a7 := (A.old 7 rfl).trans a7
      replace a9 := (A.old 9 rfl).trans a9
      replace a67 := (A.old 67 rfl).trans a67
      replace a68 := (A.old 68 rfl).trans a68
      replace hL := hL.trans (Below.mono hb hL.size)
      clear A hb
      show Code.wp _ _ _ _ _
      refine wp_seq ?_
      refine wp_cond_true x70 ?_
      refine wp_skip ?_
      show Code.wp _ _ _ _ _
      clear x70
      refine wp_seq ?_
      refine wp_block ?_
      refine wp_seq ?_
      refine wp_all_seq [.eq (.int .i64 ((k : Nat) : Int)), .pi ((d : Nat) : Int), .eq (.int .i64 ((d : Nat) : Int)), .eq (.int .i64 ((k : Nat) : Int)), .eq (.int .i64 ((d : Nat) : Int))] (by kernel_rfl) (by kernel_rfl) (by rw [sz]; kernel_rfl) (by kernel_rfl) ⟨fun hw ac w' K => ?_, fun hw ac w' K => ?_, fun hw ac w' K => ?_, fun hw ac w' K => ?_, fun hw ac w' K => ?_, trivial⟩ ?_
      · exact st_move (.tmp 69) rfl ((K.old 69 rfl).trans x69)
      · exact st_idxi (.tmp 67) (.tmp 69) rfl (f_at (K.old 67 rfl) (Fk.mono _ _ _ _ x67 K.grow)) (k) (d) ((K.old 69 rfl).trans x69) ed
      · exact st_loadi (.tmp 72) rfl (K.dep 1 72 rfl)
      · exact st_assign (.tmp 71) rfl (K.dep 0 71 rfl)
      · exact st_assign (.tmp 73) rfl (K.dep 2 73 rfl)
      intro f10 w10 A hb
      replace x1 : Fk.f (.eq (.int .i64 ((n : Nat) : Int))) (f10.eval (.tmp 1)) w10 := f_at (A.old 1 rfl) (Fk.mono _ _ _ _ x1 hb)
      replace x3 : Fk.f (.eq (.pointer (some ⟨g3, 0, none⟩))) (f10.eval (.tmp 3)) w10 := f_at (A.old 3 rfl) (Fk.mono _ _ _ _ x3 hb)
      replace x5 : Fk.f (.eq (.pointer (some ⟨g5, 0, none⟩))) (f10.eval (.tmp 5)) w10 := f_at (A.old 5 rfl) (Fk.mono _ _ _ _ x5 hb)
      replace x7 : Fk.f (.eq (.pointer (some ⟨g7, 0, none⟩))) (f10.eval (.tmp 7)) w10 := f_at (A.old 7 rfl) (Fk.mono _ _ _ _ x7 hb)
      replace x9 : Fk.f (.hs (S)) (f10.eval (.tmp 9)) w10 := f_at (A.old 9 rfl) (Fk.mono _ _ _ _ x9 hb)
      replace x11 : Fk.f (.ow w7.heap.size (firsts (endOf seed n) k)) (f10.eval (.tmp 11)) w10 := f_at (A.old 11 rfl) (Fk.mono _ _ _ _ x11 hb)
      replace x67 : Fk.f (.ds (dig (h))) (f10.eval (.tmp 67)) w10 := f_at (A.old 67 rfl) (Fk.mono _ _ _ _ x67 hb)
      replace x68 : Fk.f (.eq (.int .i64 (((dig (h)).length : Nat) : Int))) (f10.eval (.tmp 68)) w10 := f_at (A.old 68 rfl) (Fk.mono _ _ _ _ x68 hb)
      replace x69 : Fk.f (.eq (.int .i64 ((k : Nat) : Int))) (f10.eval (.tmp 69)) w10 := f_at (A.old 69 rfl) (Fk.mono _ _ _ _ x69 hb)
      have x12 : Fk.f (.eq (.int .i64 ((k : Nat) : Int))) (f10.eval (.tmp 12)) w10 := A.has 3 12 rfl
      have x13 : Fk.f (.eq (.int .i64 ((d : Nat) : Int))) (f10.eval (.tmp 13)) w10 := A.has 4 13 rfl
      replace m3 := HasV.below m3 hb (HasV.lt m3)
      replace m5 := HasV.below m5 hb (HasV.lt m5)
      replace m7 := HasV.below m7 hb (HasV.lt m7)
      replace tb := tb.below hb
      replace sz := A.size.trans sz
      replace df := A.defs.trans df
      replace a1 := (A.old 1 rfl).trans a1
      replace a3 := (A.old 3 rfl).trans a3
      replace a5 := (A.old 5 rfl).trans a5
      replace a7 := (A.old 7 rfl).trans a7
      replace a9 := (A.old 9 rfl).trans a9
      replace a67 := (A.old 67 rfl).trans a67
      replace a68 := (A.old 68 rfl).trans a68
      replace hL := hL.trans (Below.mono hb hL.size)
      clear A hb
      show Code.wp _ _ _ _ _
      refine wp_seq ?_
      refine wp_region_seq [.eq (.agg ((seed).map V).toArray), .eq (.int .i64 ((n : Nat) : Int)), .eq (.int .i64 ((k : Nat) : Int)), .eq (.agg ((t).map V).toArray), .eq (.int .i64 ((k : Nat) : Int)), .eq (.int .i64 ((d : Nat) : Int)), .eq (.agg ((z).map V).toArray), .pn w10.heap.size hz] (by kernel_rfl) (by kernel_rfl) (by rw [sz]; kernel_rfl) (by kernel_rfl) ⟨fun hw ac w' K => ?_, fun hw ac w' K => ?_, fun hw ac w' K => ?_, fun hw ac w' K => ?_, fun hw ac w' K => ?_, fun hw ac w' K => ?_, fun hw ac w' K => ?_, fun hw ac w' K => ?_, trivial⟩ ?_
      · exact st_load23 (.tmp 3) rfl _ (seed) ((K.old 3 rfl).trans x3) hx (HasV.below m3 K.grow (HasV.lt m3))
      · exact st_move (.tmp 1) rfl ((K.old 1 rfl).trans x1)
      · exact st_move (.tmp 12) rfl ((K.old 12 rfl).trans x12)
      · exact st_call 14 (.func 14) _ _ #[.agg ((seed).map V).toArray, .int .i64 ((n : Nat) : Int), .int .i64 ((k : Nat) : Int)] rfl rfl (arg3 (K.dep 0 74 rfl) (K.dep 1 75 rfl) (K.dep 2 76 rfl)) Tryd.enter14 (fk_of (sec_to (seed) (((n : Nat) : Int)) (((k : Nat) : Int)) _ hx (tb.below K.grow) et))
      · exact st_move (.tmp 12) rfl ((K.old 12 rfl).trans x12)
      · exact st_move (.tmp 13) rfl ((K.old 13 rfl).trans x13)
      · exact st_call 13 (.func 13) _ _ #[.agg ((t).map V).toArray, .int .i64 ((k : Nat) : Int), .int .i64 0, .int .i64 ((d : Nat) : Int)] rfl rfl (arg4 (K.dep 3 77 rfl) (K.dep 4 78 rfl) rfl (K.dep 5 79 rfl)) Tryd.enter13 (fk_of (walked_to (t) (((k : Nat) : Int)) (0) (d) _ htl (by omega) (tb.below K.grow) ez))
      · exact st_alloc23 rfl _ K.grow.size
      intro f11 w11 A hb
      obtain ⟨g14, hg14, e14, m14⟩ := A.has 7 14 rfl
      refine wl_store rfl (.tmp 14) (.tmp 80) rfl rfl g14 (z) hz e14 (A.has 6 80 rfl) m14 hz_len hzl ?_
      replace hb := Below.trans hb (below_setRow _ _ _ ((z).map V).toArray hg14)
      replace m14 : HasV (w11.setRow g14 ((z).map V).toArray) g14 23 (z) := HasV.setRow m14
      generalize w11.setRow g14 ((z).map V).toArray = w11b at hb m14 ⊢
      replace x1 : Fk.f (.eq (.int .i64 ((n : Nat) : Int))) (f11.eval (.tmp 1)) w11b := f_at (A.old 1 rfl) (Fk.mono _ _ _ _ x1 hb)
      replace x3 : Fk.f (.eq (.pointer (some ⟨g3, 0, none⟩))) (f11.eval (.tmp 3)) w11b := f_at (A.old 3 rfl) (Fk.mono _ _ _ _ x3 hb)
      replace x5 : Fk.f (.eq (.pointer (some ⟨g5, 0, none⟩))) (f11.eval (.tmp 5)) w11b := f_at (A.old 5 rfl) (Fk.mono _ _ _ _ x5 hb)
      replace x7 : Fk.f (.eq (.pointer (some ⟨g7, 0, none⟩))) (f11.eval (.tmp 7)) w11b := f_at (A.old 7 rfl) (Fk.mono _ _ _ _ x7 hb)
      replace x9 : Fk.f (.hs (S)) (f11.eval (.tmp 9)) w11b := f_at (A.old 9 rfl) (Fk.mono _ _ _ _ x9 hb)
      replace x11 : Fk.f (.ow w7.heap.size (firsts (endOf seed n) k)) (f11.eval (.tmp 11)) w11b := f_at (A.old 11 rfl) (Fk.mono _ _ _ _ x11 hb)
      replace x67 : Fk.f (.ds (dig (h))) (f11.eval (.tmp 67)) w11b := f_at (A.old 67 rfl) (Fk.mono _ _ _ _ x67 hb)
      replace x68 : Fk.f (.eq (.int .i64 (((dig (h)).length : Nat) : Int))) (f11.eval (.tmp 68)) w11b := f_at (A.old 68 rfl) (Fk.mono _ _ _ _ x68 hb)
      replace x69 : Fk.f (.eq (.int .i64 ((k : Nat) : Int))) (f11.eval (.tmp 69)) w11b := f_at (A.old 69 rfl) (Fk.mono _ _ _ _ x69 hb)
      replace x12 : Fk.f (.eq (.int .i64 ((k : Nat) : Int))) (f11.eval (.tmp 12)) w11b := f_at (A.old 12 rfl) (Fk.mono _ _ _ _ x12 hb)
      replace x13 : Fk.f (.eq (.int .i64 ((d : Nat) : Int))) (f11.eval (.tmp 13)) w11b := f_at (A.old 13 rfl) (Fk.mono _ _ _ _ x13 hb)
      have x14 : Fk.f (.eq (.pointer (some ⟨g14, 0, none⟩))) (f11.eval (.tmp 14)) w11b := e14
      replace m3 := HasV.below m3 hb (HasV.lt m3)
      replace m5 := HasV.below m5 hb (HasV.lt m5)
      replace m7 := HasV.below m7 hb (HasV.lt m7)
      replace tb := tb.below hb
      replace sz := A.size.trans sz
      replace df := A.defs.trans df
      replace a1 := (A.old 1 rfl).trans a1
      replace a3 := (A.old 3 rfl).trans a3
      replace a5 := (A.old 5 rfl).trans a5
      replace a7 := (A.old 7 rfl).trans a7
      replace a9 := (A.old 9 rfl).trans a9
      replace a67 := (A.old 67 rfl).trans a67
      replace a68 := (A.old 68 rfl).trans a68
      replace hL := hL.trans (Below.mono hb hL.size)
      clear A hb
      refine wpList_nil ?_
      show Code.wp _ _ _ _ _
      refine wp_seq ?_
      refine wp_seq ?_
      refine wp_all [.hs (S), .eq (.int .i64 ((k : Nat) : Int)), .ph (z), .eq (.agg ((z).map V).toArray), .eq (.agg ((z).map V).toArray), .eq (.bool false)] Tryd.mixed (by kernel_rfl) (by kernel_rfl) (by rw [sz]; kernel_rfl) (by kernel_rfl) ⟨fun hw ac w' K => ?_, fun hw ac w' K => ?_, fun hw ac w' K => ?_, fun hw ac w' K => ?_, fun hw ac w' K => ?_, fun hw ac w' K => ?_, trivial⟩ ?_
      · exact st_move (.tmp 9) rfl (f_at (K.old 9 rfl) (Fk.mono _ _ _ _ x9 K.grow))
      · exact st_move (.tmp 12) rfl ((K.old 12 rfl).trans x12)
      · exact st_idxh (.tmp 81) (.tmp 82) rfl (K.dep 0 81 rfl) (k) (z) (K.dep 1 82 rfl) eat
      · exact st_loadh (.tmp 83) rfl (K.dep 2 83 rfl)
      · exact st_load23 (.tmp 14) rfl _ (z) ((K.old 14 rfl).trans x14) hzl (HasV.below m14 K.grow (HasV.lt m14))
      · exact st_neqh (.tmp 84) (.tmp 85) rfl (z) (z) hzl hzl (K.dep 3 84 rfl) (K.dep 4 85 rfl) _ (by simp)
      intro f12 w12 A hb
      replace x1 : Fk.f (.eq (.int .i64 ((n : Nat) : Int))) (f12.eval (.tmp 1)) w12 := f_at (A.old 1 rfl) (Fk.mono _ _ _ _ x1 hb)
      replace x3 : Fk.f (.eq (.pointer (some ⟨g3, 0, none⟩))) (f12.eval (.tmp 3)) w12 := f_at (A.old 3 rfl) (Fk.mono _ _ _ _ x3 hb)
      replace x5 : Fk.f (.eq (.pointer (some ⟨g5, 0, none⟩))) (f12.eval (.tmp 5)) w12 := f_at (A.old 5 rfl) (Fk.mono _ _ _ _ x5 hb)
      replace x7 : Fk.f (.eq (.pointer (some ⟨g7, 0, none⟩))) (f12.eval (.tmp 7)) w12 := f_at (A.old 7 rfl) (Fk.mono _ _ _ _ x7 hb)
      replace x9 : Fk.f (.hs (S)) (f12.eval (.tmp 9)) w12 := f_at (A.old 9 rfl) (Fk.mono _ _ _ _ x9 hb)
      replace x11 : Fk.f (.ow w7.heap.size (firsts (endOf seed n) k)) (f12.eval (.tmp 11)) w12 := f_at (A.old 11 rfl) (Fk.mono _ _ _ _ x11 hb)
      replace x67 : Fk.f (.ds (dig (h))) (f12.eval (.tmp 67)) w12 := f_at (A.old 67 rfl) (Fk.mono _ _ _ _ x67 hb)
      replace x68 : Fk.f (.eq (.int .i64 (((dig (h)).length : Nat) : Int))) (f12.eval (.tmp 68)) w12 := f_at (A.old 68 rfl) (Fk.mono _ _ _ _ x68 hb)
      replace x69 : Fk.f (.eq (.int .i64 ((k : Nat) : Int))) (f12.eval (.tmp 69)) w12 := f_at (A.old 69 rfl) (Fk.mono _ _ _ _ x69 hb)
      replace x12 : Fk.f (.eq (.int .i64 ((k : Nat) : Int))) (f12.eval (.tmp 12)) w12 := f_at (A.old 12 rfl) (Fk.mono _ _ _ _ x12 hb)
      replace x13 : Fk.f (.eq (.int .i64 ((d : Nat) : Int))) (f12.eval (.tmp 13)) w12 := f_at (A.old 13 rfl) (Fk.mono _ _ _ _ x13 hb)
      replace x14 : Fk.f (.eq (.pointer (some ⟨g14, 0, none⟩))) (f12.eval (.tmp 14)) w12 := f_at (A.old 14 rfl) (Fk.mono _ _ _ _ x14 hb)
      have x86 : Fk.f (.eq (.bool false)) (f12.eval (.tmp 86)) w12 := A.has 5 86 rfl
      replace m3 := HasV.below m3 hb (HasV.lt m3)
      replace m5 := HasV.below m5 hb (HasV.lt m5)
      replace m7 := HasV.below m7 hb (HasV.lt m7)
      replace m14 := HasV.below m14 hb (HasV.lt m14)
      replace tb := tb.below hb
      replace sz := A.size.trans sz
      replace df := A.defs.trans df
      replace a1 := (A.old 1 rfl).trans a1
      replace a3 := (A.old 3 rfl).trans a3
      replace a5 := (A.old 5 rfl).trans a5
      replace a7 := (A.old 7 rfl).trans a7
      replace a9 := (A.old 9 rfl).trans a9
      replace a67 := (A.old 67 rfl).trans a67
      replace a68 := (A.old 68 rfl).trans a68
      replace hL := hL.trans (Below.mono hb hL.size)
      clear A hb
      show Code.wp _ _ _ _ _
      refine wp_cond_false x86 ?_
      refine wp_skip ?_
      show Code.wp _ _ _ _ _
      clear x86
      refine wp_region_seq [.ow w7.heap.size (firsts (endOf seed n) k), .eq (.agg ((z).map V).toArray), .eq (.int .i64 ((k : Nat) : Int)), .eq (.int .i64 ((d : Nat) : Int)), .eq (.agg ((y).map V).toArray), .hs ([y])] (by kernel_rfl) (by kernel_rfl) (by rw [sz]; kernel_rfl) (by kernel_rfl) ⟨fun hw ac w' K => ?_, fun hw ac w' K => ?_, fun hw ac w' K => ?_, fun hw ac w' K => ?_, fun hw ac w' K => ?_, fun hw ac w' K => ?_, trivial⟩ ?_
      · exact st_move (.tmp 11) rfl (f_at (K.old 11 rfl) (Fk.mono _ _ _ _ x11 K.grow))
      · exact st_load23 (.tmp 14) rfl _ (z) ((K.old 14 rfl).trans x14) hzl (HasV.below m14 K.grow (HasV.lt m14))
      · exact st_move (.tmp 12) rfl ((K.old 12 rfl).trans x12)
      · exact st_move (.tmp 13) rfl ((K.old 13 rfl).trans x13)
      · exact st_call 13 (.func 13) _ _ #[.agg ((z).map V).toArray, .int .i64 ((k : Nat) : Int), .int .i64 ((d : Nat) : Int), .int .i64 15] rfl rfl (arg4 (K.dep 1 88 rfl) (K.dep 2 89 rfl) (K.dep 3 90 rfl) rfl) Tryd.enter13 (fk_of (walked_to (z) (((k : Nat) : Int)) (d) (15) _ hzl (by omega) (tb.below K.grow) ey))
      · exact st_bh1 (.tmp 91) rfl hyl (K.dep 4 91 rfl)
      intro f13 w13 A hb
      replace hL := hL.trans (Below.mono hb hL.size)
      refine wl_append rfl (.tmp 87) (.tmp 92) rfl 93 rfl (by rw [A.size, sz]; decide) (A.has 0 87 rfl) (A.has 5 92 rfl) hL (by rw [firsts_len]; omega) ?_
      intro f14 w14 df2 sz2 old2 x93 hL2
      replace a1 := (old2 1 rfl).trans ((A.old 1 rfl).trans a1)
      replace a3 := (old2 3 rfl).trans ((A.old 3 rfl).trans a3)
      replace a5 := (old2 5 rfl).trans ((A.old 5 rfl).trans a5)
      replace a7 := (old2 7 rfl).trans ((A.old 7 rfl).trans a7)
      replace a9 := (old2 9 rfl).trans ((A.old 9 rfl).trans a9)
      replace a67 := (old2 67 rfl).trans ((A.old 67 rfl).trans a67)
      replace a68 := (old2 68 rfl).trans ((A.old 68 rfl).trans a68)
      replace x69 : Fk.f (.eq (.int .i64 ((k : Nat) : Int))) (f14.eval (.tmp 69)) w14 := ((old2 69 rfl).trans (A.old 69 rfl)).trans x69
      replace x12 : Fk.f (.eq (.int .i64 ((k : Nat) : Int))) (f14.eval (.tmp 12)) w14 := ((old2 12 rfl).trans (A.old 12 rfl)).trans x12
      replace x13 : Fk.f (.eq (.int .i64 ((d : Nat) : Int))) (f14.eval (.tmp 13)) w14 := ((old2 13 rfl).trans (A.old 13 rfl)).trans x13
      replace x14 : Fk.f (.eq (.pointer (some ⟨g14, 0, none⟩))) (f14.eval (.tmp 14)) w14 := ((old2 14 rfl).trans (A.old 14 rfl)).trans x14
      clear x11
      replace sz := sz2.trans (A.size.trans sz)
      replace df := df2.trans (A.defs.trans df)
      clear x1 x3 x5 x7 x9 x67 x68 m3 m5 m7 m14 tb hL
      clear x14
      have hL := hL2
      have x1 : Fk.f (.eq (.int .i64 ((n : Nat) : Int))) (f14.eval (.tmp 1)) w14 := f_at a1 (Fk.mono _ _ _ _ xL1 hL)
      have x3 : Fk.f (.eq (.pointer (some ⟨g3, 0, none⟩))) (f14.eval (.tmp 3)) w14 := f_at a3 (Fk.mono _ _ _ _ xL3 hL)
      have x5 : Fk.f (.eq (.pointer (some ⟨g5, 0, none⟩))) (f14.eval (.tmp 5)) w14 := f_at a5 (Fk.mono _ _ _ _ xL5 hL)
      have x7 : Fk.f (.eq (.pointer (some ⟨g7, 0, none⟩))) (f14.eval (.tmp 7)) w14 := f_at a7 (Fk.mono _ _ _ _ xL7 hL)
      have x9 : Fk.f (.hs (S)) (f14.eval (.tmp 9)) w14 := f_at a9 (Fk.mono _ _ _ _ xL9 hL)
      have x67 : Fk.f (.ds (dig (h))) (f14.eval (.tmp 67)) w14 := f_at a67 (Fk.mono _ _ _ _ xL67 hL)
      have x68 : Fk.f (.eq (.int .i64 (((dig (h)).length : Nat) : Int))) (f14.eval (.tmp 68)) w14 := f_at a68 (Fk.mono _ _ _ _ xL68 hL)
      have m3 := HasV.below Lm3 hL (HasV.lt Lm3)
      have m5 := HasV.below Lm5 hL (HasV.lt Lm5)
      have m7 := HasV.below Lm7 hL (HasV.lt Lm7)
      have tb := tbL.below hL
      clear A hb sz2 df2 old2 hL2
      refine wl_assign rfl (.tmp 93) rfl 11 rfl (by rw [sz]; decide) ?_
      intro f15 df2 sz2 old2 new2
      have nx11 : Fk.f (.ow w7.heap.size (firsts (endOf seed n) k ++ [y])) (f15.eval (.tmp 11)) w14 := f_at new2 x93
      replace x1 : Fk.f (.eq (.int .i64 ((n : Nat) : Int))) (f15.eval (.tmp 1)) w14 := f_at (old2 1 rfl) x1
      replace x3 : Fk.f (.eq (.pointer (some ⟨g3, 0, none⟩))) (f15.eval (.tmp 3)) w14 := f_at (old2 3 rfl) x3
      replace x5 : Fk.f (.eq (.pointer (some ⟨g5, 0, none⟩))) (f15.eval (.tmp 5)) w14 := f_at (old2 5 rfl) x5
      replace x7 : Fk.f (.eq (.pointer (some ⟨g7, 0, none⟩))) (f15.eval (.tmp 7)) w14 := f_at (old2 7 rfl) x7
      replace x9 : Fk.f (.hs (S)) (f15.eval (.tmp 9)) w14 := f_at (old2 9 rfl) x9
      replace x67 : Fk.f (.ds (dig (h))) (f15.eval (.tmp 67)) w14 := f_at (old2 67 rfl) x67
      replace x68 : Fk.f (.eq (.int .i64 (((dig (h)).length : Nat) : Int))) (f15.eval (.tmp 68)) w14 := f_at (old2 68 rfl) x68
      replace x69 : Fk.f (.eq (.int .i64 ((k : Nat) : Int))) (f15.eval (.tmp 69)) w14 := f_at (old2 69 rfl) x69
      replace x12 : Fk.f (.eq (.int .i64 ((k : Nat) : Int))) (f15.eval (.tmp 12)) w14 := f_at (old2 12 rfl) x12
      replace x13 : Fk.f (.eq (.int .i64 ((d : Nat) : Int))) (f15.eval (.tmp 13)) w14 := f_at (old2 13 rfl) x13
      replace x93 : Fk.f (.ow w7.heap.size (firsts (endOf seed n) k ++ [y])) (f15.eval (.tmp 93)) w14 := f_at (old2 93 rfl) x93
      have x11 := nx11
      replace sz := sz2.trans sz
      replace df := df2.trans df
      replace a1 := (old2 1 rfl).trans a1
      replace a3 := (old2 3 rfl).trans a3
      replace a5 := (old2 5 rfl).trans a5
      replace a7 := (old2 7 rfl).trans a7
      replace a9 := (old2 9 rfl).trans a9
      replace a67 := (old2 67 rfl).trans a67
      replace a68 := (old2 68 rfl).trans a68
      clear df2 sz2 old2 new2 nx11
      clear x93
      replace x11 : Fk.f (.ow w7.heap.size (firsts (endOf seed n) (k + 1))) (f15.eval (.tmp 11)) w14 := (by rw [firsts_succ, eF]; exact x11)
      refine wpList_nil ?_
      show Code.wp _ _ _ _ _
      clear x12
      clear x13
      refine wp_region_seq [.eq (.int .i64 ((k + 1 : Nat) : Int))] (by kernel_rfl) (by kernel_rfl) (by rw [sz]; kernel_rfl) (by kernel_rfl) ⟨fun hw ac w' K => ?_, trivial⟩ ?_
      · exact st_add1 (.tmp 69) rfl k (by omega) ((K.old 69 rfl).trans x69)
      intro f16 w16 A hb
      replace x1 : Fk.f (.eq (.int .i64 ((n : Nat) : Int))) (f16.eval (.tmp 1)) w16 := f_at (A.old 1 rfl) (Fk.mono _ _ _ _ x1 hb)
      replace x3 : Fk.f (.eq (.pointer (some ⟨g3, 0, none⟩))) (f16.eval (.tmp 3)) w16 := f_at (A.old 3 rfl) (Fk.mono _ _ _ _ x3 hb)
      replace x5 : Fk.f (.eq (.pointer (some ⟨g5, 0, none⟩))) (f16.eval (.tmp 5)) w16 := f_at (A.old 5 rfl) (Fk.mono _ _ _ _ x5 hb)
      replace x7 : Fk.f (.eq (.pointer (some ⟨g7, 0, none⟩))) (f16.eval (.tmp 7)) w16 := f_at (A.old 7 rfl) (Fk.mono _ _ _ _ x7 hb)
      replace x9 : Fk.f (.hs (S)) (f16.eval (.tmp 9)) w16 := f_at (A.old 9 rfl) (Fk.mono _ _ _ _ x9 hb)
      replace x67 : Fk.f (.ds (dig (h))) (f16.eval (.tmp 67)) w16 := f_at (A.old 67 rfl) (Fk.mono _ _ _ _ x67 hb)
      replace x68 : Fk.f (.eq (.int .i64 (((dig (h)).length : Nat) : Int))) (f16.eval (.tmp 68)) w16 := f_at (A.old 68 rfl) (Fk.mono _ _ _ _ x68 hb)
      replace x69 : Fk.f (.eq (.int .i64 ((k : Nat) : Int))) (f16.eval (.tmp 69)) w16 := f_at (A.old 69 rfl) (Fk.mono _ _ _ _ x69 hb)
      replace x11 : Fk.f (.ow w7.heap.size (firsts (endOf seed n) (k + 1))) (f16.eval (.tmp 11)) w16 := f_at (A.old 11 rfl) (Fk.mono _ _ _ _ x11 hb)
      have x94 : Fk.f (.eq (.int .i64 ((k + 1 : Nat) : Int))) (f16.eval (.tmp 94)) w16 := A.has 0 94 rfl
      replace m3 := HasV.below m3 hb (HasV.lt m3)
      replace m5 := HasV.below m5 hb (HasV.lt m5)
      replace m7 := HasV.below m7 hb (HasV.lt m7)
      replace tb := tb.below hb
      replace sz := A.size.trans sz
      replace df := A.defs.trans df
      replace a1 := (A.old 1 rfl).trans a1
      replace a3 := (A.old 3 rfl).trans a3
      replace a5 := (A.old 5 rfl).trans a5
      replace a7 := (A.old 7 rfl).trans a7
      replace a9 := (A.old 9 rfl).trans a9
      replace a67 := (A.old 67 rfl).trans a67
      replace a68 := (A.old 68 rfl).trans a68
      replace hL := hL.trans (Below.mono hb hL.size)
      clear A hb
      refine wl_move rfl (.tmp 94) rfl 69 rfl (by rw [sz]; decide) ?_
      intro f17 df2 sz2 old2 new2
      have nx69 : Fk.f (.eq (.int .i64 ((k + 1 : Nat) : Int))) (f17.eval (.tmp 69)) w16 := f_at new2 x94
      replace x1 : Fk.f (.eq (.int .i64 ((n : Nat) : Int))) (f17.eval (.tmp 1)) w16 := f_at (old2 1 rfl) x1
      replace x3 : Fk.f (.eq (.pointer (some ⟨g3, 0, none⟩))) (f17.eval (.tmp 3)) w16 := f_at (old2 3 rfl) x3
      replace x5 : Fk.f (.eq (.pointer (some ⟨g5, 0, none⟩))) (f17.eval (.tmp 5)) w16 := f_at (old2 5 rfl) x5
      replace x7 : Fk.f (.eq (.pointer (some ⟨g7, 0, none⟩))) (f17.eval (.tmp 7)) w16 := f_at (old2 7 rfl) x7
      replace x9 : Fk.f (.hs (S)) (f17.eval (.tmp 9)) w16 := f_at (old2 9 rfl) x9
      replace x67 : Fk.f (.ds (dig (h))) (f17.eval (.tmp 67)) w16 := f_at (old2 67 rfl) x67
      replace x68 : Fk.f (.eq (.int .i64 (((dig (h)).length : Nat) : Int))) (f17.eval (.tmp 68)) w16 := f_at (old2 68 rfl) x68
      replace x11 : Fk.f (.ow w7.heap.size (firsts (endOf seed n) (k + 1))) (f17.eval (.tmp 11)) w16 := f_at (old2 11 rfl) x11
      replace x94 : Fk.f (.eq (.int .i64 ((k + 1 : Nat) : Int))) (f17.eval (.tmp 94)) w16 := f_at (old2 94 rfl) x94
      have x69 := nx69
      replace sz := sz2.trans sz
      replace df := df2.trans df
      replace a1 := (old2 1 rfl).trans a1
      replace a3 := (old2 3 rfl).trans a3
      replace a5 := (old2 5 rfl).trans a5
      replace a7 := (old2 7 rfl).trans a7
      replace a9 := (old2 9 rfl).trans a9
      replace a67 := (old2 67 rfl).trans a67
      replace a68 := (old2 68 rfl).trans a68
      clear df2 sz2 old2 new2 nx69
      clear x94
      refine wpList_nil ?_
      show (∃ _, _) ∧ _
      refine ⟨⟨k + 1, by omega, sz, df, a1, a3, a5, a7, a9, a67, a68, x69, x11, hL⟩, ?_⟩
      rw [show f17.eval (.tmp 69) = _ from x69, show _ = _ from c69]
      simp [intOf]
      omega
    · have hk67 : k = 67 := by omega
      refine wp_seq ?_
      refine wp_all_seq [.eq (.bool false)] (by kernel_rfl) (by kernel_rfl) (by rw [sz]; kernel_rfl) (by kernel_rfl) ⟨fun hw ac w' K => ?_, trivial⟩ ?_
      · exact st_lss 3 (.tmp 69) (.tmp 68) rfl .i64 (((k : Nat) : Int)) ((((dig (h)).length : Nat) : Int)) ((K.old 69 rfl).trans x69) ((K.old 68 rfl).trans x68) _ (by rw [hdl]; simp; omega)
      intro f9 w9 A hb
      replace x1 : Fk.f (.eq (.int .i64 ((n : Nat) : Int))) (f9.eval (.tmp 1)) w9 := f_at (A.old 1 rfl) (Fk.mono _ _ _ _ x1 hb)
      replace x3 : Fk.f (.eq (.pointer (some ⟨g3, 0, none⟩))) (f9.eval (.tmp 3)) w9 := f_at (A.old 3 rfl) (Fk.mono _ _ _ _ x3 hb)
      replace x5 : Fk.f (.eq (.pointer (some ⟨g5, 0, none⟩))) (f9.eval (.tmp 5)) w9 := f_at (A.old 5 rfl) (Fk.mono _ _ _ _ x5 hb)
      replace x7 : Fk.f (.eq (.pointer (some ⟨g7, 0, none⟩))) (f9.eval (.tmp 7)) w9 := f_at (A.old 7 rfl) (Fk.mono _ _ _ _ x7 hb)
      replace x9 : Fk.f (.hs (S)) (f9.eval (.tmp 9)) w9 := f_at (A.old 9 rfl) (Fk.mono _ _ _ _ x9 hb)
      replace x11 : Fk.f (.ow w7.heap.size (firsts (endOf seed n) k)) (f9.eval (.tmp 11)) w9 := f_at (A.old 11 rfl) (Fk.mono _ _ _ _ x11 hb)
      replace x67 : Fk.f (.ds (dig (h))) (f9.eval (.tmp 67)) w9 := f_at (A.old 67 rfl) (Fk.mono _ _ _ _ x67 hb)
      replace x68 : Fk.f (.eq (.int .i64 (((dig (h)).length : Nat) : Int))) (f9.eval (.tmp 68)) w9 := f_at (A.old 68 rfl) (Fk.mono _ _ _ _ x68 hb)
      replace x69 : Fk.f (.eq (.int .i64 ((k : Nat) : Int))) (f9.eval (.tmp 69)) w9 := f_at (A.old 69 rfl) (Fk.mono _ _ _ _ x69 hb)
      have x70 : Fk.f (.eq (.bool false)) (f9.eval (.tmp 70)) w9 := A.has 0 70 rfl
      replace m3 := HasV.below m3 hb (HasV.lt m3)
      replace m5 := HasV.below m5 hb (HasV.lt m5)
      replace m7 := HasV.below m7 hb (HasV.lt m7)
      replace tb := tb.below hb
      replace sz := A.size.trans sz
      replace df := A.defs.trans df
      replace a1 := (A.old 1 rfl).trans a1
      replace a3 := (A.old 3 rfl).trans a3
      replace a5 := (A.old 5 rfl).trans a5
      replace a7 := (A.old 7 rfl).trans a7
      replace a9 := (A.old 9 rfl).trans a9
      replace a67 := (A.old 67 rfl).trans a67
      replace a68 := (A.old 68 rfl).trans a68
      replace hL := hL.trans (Below.mono hb hL.size)
      clear A hb
      show Code.wp _ _ _ _ _
      refine wp_seq ?_
      refine wp_cond_false x70 ?_
      refine wp_exit ?_
      clear x70
      show Code.wp _ _ _ _ _
      refine wp_seq ?_
      have bl := blL.trans (Below.mono hL blL.size)
      rw [hk67] at x11
      refine wp_region_seq [.eq (.agg ((h).map V).toArray), .hs (S), .eq (.tuple #[.agg ((p).map V).toArray, .int .i64 0]), .eq (.tuple #[.agg ((p).map V).toArray, .int .i64 0]), .eq (.agg ((p).map V).toArray), .eq (.int .i64 0), .pn w9.heap.size hz] (by kernel_rfl) (by kernel_rfl) (by rw [sz]; kernel_rfl) (by kernel_rfl) ⟨fun hw ac w' K => ?_, fun hw ac w' K => ?_, fun hw ac w' K => ?_, fun hw ac w' K => ?_, fun hw ac w' K => ?_, fun hw ac w' K => ?_, fun hw ac w' K => ?_, trivial⟩ ?_
      · exact st_load23 (.tmp 5) rfl _ (h) ((K.old 5 rfl).trans x5) hh (HasV.below m5 K.grow (HasV.lt m5))
      · exact st_move (.tmp 9) rfl (f_at (K.old 9 rfl) (Fk.mono _ _ _ _ x9 K.grow))
      · exact st_call 15 (.func 15) _ _ #[.agg ((h).map V).toArray, ac.eval (.tmp 97)] rfl rfl (arg2 (K.dep 0 96 rfl) rfl) Tryd.enter15 (fk_recover_ok hh hSl (tb.below K.grow) (K.dep 1 97 rfl) eq)
      · exact st_move (.tmp 98) rfl (K.dep 2 98 rfl)
      · exact st_ext0 (.tmp 95) rfl (K.dep 3 95 rfl) rfl
      · exact st_ext1 (.tmp 95) rfl (K.dep 3 95 rfl) rfl
      · exact st_alloc23 rfl _ K.grow.size
      intro f10 w10 A hb
      obtain ⟨g15, hg15, e15, m15⟩ := A.has 6 15 rfl
      refine wl_store rfl (.tmp 15) (.tmp 99) rfl rfl g15 (p) hz e15 (A.has 4 99 rfl) m15 hz_len hpl ?_
      replace hb := Below.trans hb (below_setRow _ _ _ ((p).map V).toArray hg15)
      replace m15 : HasV (w10.setRow g15 ((p).map V).toArray) g15 23 (p) := HasV.setRow m15
      generalize w10.setRow g15 ((p).map V).toArray = w10b at hb m15 ⊢
      replace x1 : Fk.f (.eq (.int .i64 ((n : Nat) : Int))) (f10.eval (.tmp 1)) w10b := f_at (A.old 1 rfl) (Fk.mono _ _ _ _ x1 hb)
      replace x3 : Fk.f (.eq (.pointer (some ⟨g3, 0, none⟩))) (f10.eval (.tmp 3)) w10b := f_at (A.old 3 rfl) (Fk.mono _ _ _ _ x3 hb)
      replace x5 : Fk.f (.eq (.pointer (some ⟨g5, 0, none⟩))) (f10.eval (.tmp 5)) w10b := f_at (A.old 5 rfl) (Fk.mono _ _ _ _ x5 hb)
      replace x7 : Fk.f (.eq (.pointer (some ⟨g7, 0, none⟩))) (f10.eval (.tmp 7)) w10b := f_at (A.old 7 rfl) (Fk.mono _ _ _ _ x7 hb)
      replace x9 : Fk.f (.hs (S)) (f10.eval (.tmp 9)) w10b := f_at (A.old 9 rfl) (Fk.mono _ _ _ _ x9 hb)
      replace x11 : Fk.f (.ow w7.heap.size (firsts (endOf seed n) 67)) (f10.eval (.tmp 11)) w10b := f_at (A.old 11 rfl) (Fk.mono _ _ _ _ x11 hb)
      replace x67 : Fk.f (.ds (dig (h))) (f10.eval (.tmp 67)) w10b := f_at (A.old 67 rfl) (Fk.mono _ _ _ _ x67 hb)
      replace x68 : Fk.f (.eq (.int .i64 (((dig (h)).length : Nat) : Int))) (f10.eval (.tmp 68)) w10b := f_at (A.old 68 rfl) (Fk.mono _ _ _ _ x68 hb)
      replace x69 : Fk.f (.eq (.int .i64 ((k : Nat) : Int))) (f10.eval (.tmp 69)) w10b := f_at (A.old 69 rfl) (Fk.mono _ _ _ _ x69 hb)
      have x15 : Fk.f (.eq (.pointer (some ⟨g15, 0, none⟩))) (f10.eval (.tmp 15)) w10b := e15
      have x100 : Fk.f (.eq (.int .i64 0)) (f10.eval (.tmp 100)) w10b := A.has 5 100 rfl
      replace m3 := HasV.below m3 hb (HasV.lt m3)
      replace m5 := HasV.below m5 hb (HasV.lt m5)
      replace m7 := HasV.below m7 hb (HasV.lt m7)
      replace tb := tb.below hb
      replace bl := bl.trans (Below.mono hb bl.size)
      replace sz := A.size.trans sz
      replace df := A.defs.trans df
      clear A hb
      refine wl_assign rfl (.tmp 100) rfl 16 rfl (by rw [sz]; decide) ?_
      intro f11 df2 sz2 old2 new2
      have nx16 : Fk.f (.eq (.int .i64 0)) (f11.eval (.tmp 16)) w10b := f_at new2 x100
      replace x1 : Fk.f (.eq (.int .i64 ((n : Nat) : Int))) (f11.eval (.tmp 1)) w10b := f_at (old2 1 rfl) x1
      replace x3 : Fk.f (.eq (.pointer (some ⟨g3, 0, none⟩))) (f11.eval (.tmp 3)) w10b := f_at (old2 3 rfl) x3
      replace x5 : Fk.f (.eq (.pointer (some ⟨g5, 0, none⟩))) (f11.eval (.tmp 5)) w10b := f_at (old2 5 rfl) x5
      replace x7 : Fk.f (.eq (.pointer (some ⟨g7, 0, none⟩))) (f11.eval (.tmp 7)) w10b := f_at (old2 7 rfl) x7
      replace x9 : Fk.f (.hs (S)) (f11.eval (.tmp 9)) w10b := f_at (old2 9 rfl) x9
      replace x11 : Fk.f (.ow w7.heap.size (firsts (endOf seed n) 67)) (f11.eval (.tmp 11)) w10b := f_at (old2 11 rfl) x11
      replace x67 : Fk.f (.ds (dig (h))) (f11.eval (.tmp 67)) w10b := f_at (old2 67 rfl) x67
      replace x68 : Fk.f (.eq (.int .i64 (((dig (h)).length : Nat) : Int))) (f11.eval (.tmp 68)) w10b := f_at (old2 68 rfl) x68
      replace x69 : Fk.f (.eq (.int .i64 ((k : Nat) : Int))) (f11.eval (.tmp 69)) w10b := f_at (old2 69 rfl) x69
      replace x15 : Fk.f (.eq (.pointer (some ⟨g15, 0, none⟩))) (f11.eval (.tmp 15)) w10b := f_at (old2 15 rfl) x15
      replace x100 : Fk.f (.eq (.int .i64 0)) (f11.eval (.tmp 100)) w10b := f_at (old2 100 rfl) x100
      have x16 := nx16
      replace sz := sz2.trans sz
      replace df := df2.trans df
      clear df2 sz2 old2 new2 nx16
      refine wpList_nil ?_
      clear x100
      show Code.wp _ _ _ _ _
      refine wp_seq ?_
      refine wp_all [.eq (.int .i64 0), .eq (.bool true), .eq (.bool true), .eq (.agg ((p).map V).toArray), .eq (.agg ((p).map V).toArray), .eq (.bool true), .eq (.bool true), .eq (.bool true), .eq (.agg ((p).map V).toArray), .ow w7.heap.size (firsts (endOf seed n) 67), .eq (.agg ((p).map V).toArray), .eq (.bool true), .eq (.bool true), .eq (.bool true), .eq (.bool true), .eq (.bool true), .eq (.bool true)] Tryd.mixed (by kernel_rfl) (by kernel_rfl) (by rw [sz]; kernel_rfl) (by kernel_rfl) ⟨fun hw ac w' K => ?_, fun hw ac w' K => ?_, fun hw ac w' K => ?_, fun hw ac w' K => ?_, fun hw ac w' K => ?_, fun hw ac w' K => ?_, fun hw ac w' K => ?_, fun hw ac w' K => ?_, fun hw ac w' K => ?_, fun hw ac w' K => ?_, fun hw ac w' K => ?_, fun hw ac w' K => ?_, fun hw ac w' K => ?_, fun hw ac w' K => ?_, fun hw ac w' K => ?_, fun hw ac w' K => ?_, fun hw ac w' K => ?_, trivial⟩ ?_
      · exact st_move (.tmp 16) rfl ((K.old 16 rfl).trans x16)
      · exact st_eqi 29 (.tmp 101) (.const (.int .i64 0)) rfl .i64 (0) (0) (K.dep 0 101 rfl) rfl _ (by rfl)
      · exact st_move (.tmp 102) rfl (K.dep 1 102 rfl)
      · exact st_load23 (.tmp 15) rfl _ (p) ((K.old 15 rfl).trans x15) hpl (HasV.below m15 K.grow (HasV.lt m15))
      · exact st_load23 (.tmp 7) rfl _ (p) ((K.old 7 rfl).trans x7) hpl (HasV.below m7 K.grow (HasV.lt m7))
      · exact st_eqh (.tmp 104) (.tmp 105) rfl (p) (p) hpl hpl (K.dep 3 104 rfl) (K.dep 4 105 rfl) _ (by simp)
      · exact st_pick_t (.tmp 103) (.tmp 106) (.const (.bool false)) rfl (K.dep 2 103 rfl) (K.dep 5 106 rfl)
      · exact st_move (.tmp 107) rfl (K.dep 6 107 rfl)
      · exact st_load23 (.tmp 7) rfl _ (p) ((K.old 7 rfl).trans x7) hpl (HasV.below m7 K.grow (HasV.lt m7))
      · exact st_move (.tmp 11) rfl (f_at (K.old 11 rfl) (Fk.mono _ _ _ _ x11 K.grow))
      · exact st_call 16 (.func 16) _ _ #[ac.eval (.tmp 110)] rfl rfl rfl Tryd.enter16 (fk_public_ow (by rw [firsts_len]; omega) (tb.below K.grow) (K.dep 9 110 rfl) (by rw [firsts_all]; exact ep))
      · exact st_eqh (.tmp 109) (.tmp 111) rfl (p) (p) hpl hpl (K.dep 8 109 rfl) (K.dep 10 111 rfl) _ (by simp)
      · exact st_pick_t (.tmp 108) (.tmp 112) (.const (.bool false)) rfl (K.dep 7 108 rfl) (K.dep 11 112 rfl)
      · exact st_move (.tmp 113) rfl (K.dep 12 113 rfl)
      · exact st_call 10 (.func 10) _ _ #[] rfl rfl rfl Tryd.enter10 (fk_of (awake_any _ (tb.below K.grow)))
      · exact st_pick_t (.tmp 114) (.tmp 115) (.const (.bool false)) rfl (K.dep 13 114 rfl) (K.dep 14 115 rfl)
      · exact st_assign (.tmp 116) rfl (K.dep 15 116 rfl)
      intro f12 w12 A hb
      replace x1 : Fk.f (.eq (.int .i64 ((n : Nat) : Int))) (f12.eval (.tmp 1)) w12 := f_at (A.old 1 rfl) (Fk.mono _ _ _ _ x1 hb)
      replace x3 : Fk.f (.eq (.pointer (some ⟨g3, 0, none⟩))) (f12.eval (.tmp 3)) w12 := f_at (A.old 3 rfl) (Fk.mono _ _ _ _ x3 hb)
      replace x5 : Fk.f (.eq (.pointer (some ⟨g5, 0, none⟩))) (f12.eval (.tmp 5)) w12 := f_at (A.old 5 rfl) (Fk.mono _ _ _ _ x5 hb)
      replace x7 : Fk.f (.eq (.pointer (some ⟨g7, 0, none⟩))) (f12.eval (.tmp 7)) w12 := f_at (A.old 7 rfl) (Fk.mono _ _ _ _ x7 hb)
      replace x9 : Fk.f (.hs (S)) (f12.eval (.tmp 9)) w12 := f_at (A.old 9 rfl) (Fk.mono _ _ _ _ x9 hb)
      replace x11 : Fk.f (.ow w7.heap.size (firsts (endOf seed n) 67)) (f12.eval (.tmp 11)) w12 := f_at (A.old 11 rfl) (Fk.mono _ _ _ _ x11 hb)
      replace x67 : Fk.f (.ds (dig (h))) (f12.eval (.tmp 67)) w12 := f_at (A.old 67 rfl) (Fk.mono _ _ _ _ x67 hb)
      replace x68 : Fk.f (.eq (.int .i64 (((dig (h)).length : Nat) : Int))) (f12.eval (.tmp 68)) w12 := f_at (A.old 68 rfl) (Fk.mono _ _ _ _ x68 hb)
      replace x69 : Fk.f (.eq (.int .i64 ((k : Nat) : Int))) (f12.eval (.tmp 69)) w12 := f_at (A.old 69 rfl) (Fk.mono _ _ _ _ x69 hb)
      replace x15 : Fk.f (.eq (.pointer (some ⟨g15, 0, none⟩))) (f12.eval (.tmp 15)) w12 := f_at (A.old 15 rfl) (Fk.mono _ _ _ _ x15 hb)
      replace x16 : Fk.f (.eq (.int .i64 0)) (f12.eval (.tmp 16)) w12 := f_at (A.old 16 rfl) (Fk.mono _ _ _ _ x16 hb)
      have x6 : Fk.f (.eq (.bool true)) (f12.eval (.tmp 6)) w12 := A.has 16 6 rfl
      replace m3 := HasV.below m3 hb (HasV.lt m3)
      replace m5 := HasV.below m5 hb (HasV.lt m5)
      replace m7 := HasV.below m7 hb (HasV.lt m7)
      replace m15 := HasV.below m15 hb (HasV.lt m15)
      replace tb := tb.below hb
      replace bl := bl.trans (Below.mono hb bl.size)
      replace sz := A.size.trans sz
      replace df := A.defs.trans df
      clear A hb
      show Code.wp _ _ _ _ _
      refine wp_ret ?_
      exact bodyPost_ret (v := .bool true) (ret_slot rfl f12 _ x6 _ _) df ⟨rfl, bl⟩
end Go.Proofs.YthnaomkkaodbkaaDoor
