/- Made by gen_rj.py. The walk of LamportSigns. -/
import Derived.Test.YtfhhlkbcoofemaaDoorRh
namespace Go.Proofs.YtfhhlkbcoofemaaDoor
open Go.RowKit
set_option maxRecDepth 100000 in
set_option maxHeartbeats 1000000 in
theorem signs_law (seed : List (BitVec 8)) (key : Int) (h : List (BitVec 8)) (w : World) (hx : seed.length = 32) (hh : h.length = 32) (hK : Tab w) :
    Calls Tryd.prog 3 #[.agg (seed.map V).toArray, .int .i64 key, .agg (h.map V).toArray] w fun e w' => e = .returned (.bool true) ∧ Below w.heap.size w w' := by
  go_enter Tryd.func3, Tryd.ntmps3
  go_upto_region 1 with fail
  rename_i KK hKK
  refine code_both (fun f w1 => f.tmps.size = 128 ∧ f.defers = [] ∧ Fk.f (.eq (.int .i64 (key))) (f.eval (.tmp 1)) w1 ∧ Fk.f (.eq (.pointer (some ⟨w.heap.size, 0, none⟩))) (f.eval (.tmp 3)) w1 ∧ Fk.f (.eq (.pointer (some ⟨w.heap.size + 1, 0, none⟩))) (f.eval (.tmp 5)) w1 ∧ HasV w1 w.heap.size 23 seed ∧ HasV w1 (w.heap.size + 1) 23 h ∧ Below w.heap.size w w1) ?_ ?_
  · exact ⟨rfl, rfl, rfl, rfl, rfl, heap_alloc2_old _ _ _, heap_alloc2_new _ _ _, ((Below.refl _ _).alloc (Nat.le_refl _) _).alloc (by simp) _⟩
  rintro f0 w0 ⟨sz, df, x1, x3, x5, m3, m5, bl⟩
  have tb := hK.below bl
  obtain ⟨g5, hg5⟩ : ∃ g5, g5 = w.heap.size + 1 := ⟨_, rfl⟩
  rw [← hg5] at x5 m5
  obtain ⟨g3, hg3⟩ : ∃ g3, g3 = w.heap.size := ⟨_, rfl⟩
  rw [← hg3] at x3 m3
  by_cases qk : key < 0 ∨ 2147483647 < key
  · refine wp_region_seq [.eq (.agg ((seed).map V).toArray), .eq (.int .i64 (key)), .eq (.tuple #[.agg ((hz).map V).toArray, .int .i64 11]), .eq (.tuple #[.agg ((hz).map V).toArray, .int .i64 11]), .eq (.agg ((hz).map V).toArray), .eq (.int .i64 11), .pn w0.heap.size hz] (by kernel_rfl) (by kernel_rfl) (by rw [sz]; kernel_rfl) (by kernel_rfl) ⟨fun hw ac w' K => ?_, fun hw ac w' K => ?_, fun hw ac w' K => ?_, fun hw ac w' K => ?_, fun hw ac w' K => ?_, fun hw ac w' K => ?_, fun hw ac w' K => ?_, trivial⟩ ?_
    · exact st_load23 (.tmp 3) rfl _ (seed) ((K.old 3 rfl).trans x3) hx (HasV.below m3 K.grow (HasV.lt m3))
    · exact st_move (.tmp 1) rfl ((K.old 1 rfl).trans x1)
    · exact st_call 6 (.func 6) _ _ #[.agg ((seed).map V).toArray, .int .i64 (key)] rfl rfl (arg2 (K.dep 0 17 rfl) (K.dep 1 18 rfl)) Tryd.enter6 (fk_public_no qk)
    · exact st_move (.tmp 19) rfl (K.dep 2 19 rfl)
    · exact st_ext0 (.tmp 16) rfl (K.dep 3 16 rfl) rfl
    · exact st_ext1 (.tmp 16) rfl (K.dep 3 16 rfl) rfl
    · exact st_alloc23 rfl _ K.grow.size
    intro f1 w1 A hb
    obtain ⟨g7, hg7, e7, m7⟩ := A.has 6 7 rfl
    refine wl_store rfl (.tmp 7) (.tmp 20) rfl rfl g7 (hz) hz e7 (A.has 4 20 rfl) m7 hz_len hz_len ?_
    replace hb := Below.trans hb (below_setRow _ _ _ ((hz).map V).toArray hg7)
    replace m7 : HasV (w1.setRow g7 ((hz).map V).toArray) g7 23 (hz) := HasV.setRow m7
    generalize w1.setRow g7 ((hz).map V).toArray = w1b at hb m7 ⊢
    replace x1 : Fk.f (.eq (.int .i64 (key))) (f1.eval (.tmp 1)) w1b := f_at (A.old 1 rfl) (Fk.mono _ _ _ _ x1 hb)
    replace x3 : Fk.f (.eq (.pointer (some ⟨g3, 0, none⟩))) (f1.eval (.tmp 3)) w1b := f_at (A.old 3 rfl) (Fk.mono _ _ _ _ x3 hb)
    replace x5 : Fk.f (.eq (.pointer (some ⟨g5, 0, none⟩))) (f1.eval (.tmp 5)) w1b := f_at (A.old 5 rfl) (Fk.mono _ _ _ _ x5 hb)
    have x7 : Fk.f (.eq (.pointer (some ⟨g7, 0, none⟩))) (f1.eval (.tmp 7)) w1b := e7
    have x21 : Fk.f (.eq (.int .i64 11)) (f1.eval (.tmp 21)) w1b := A.has 5 21 rfl
    replace m3 := HasV.below m3 hb (HasV.lt m3)
    replace m5 := HasV.below m5 hb (HasV.lt m5)
    replace tb := tb.below hb
    replace bl := bl.trans (Below.mono hb bl.size)
    replace sz := A.size.trans sz
    replace df := A.defs.trans df
    clear A hb
    refine wl_assign rfl (.tmp 21) rfl 8 rfl (by rw [sz]; decide) ?_
    intro f2 df2 sz2 old2 new2
    have nx8 : Fk.f (.eq (.int .i64 11)) (f2.eval (.tmp 8)) w1b := f_at new2 x21
    replace x1 : Fk.f (.eq (.int .i64 (key))) (f2.eval (.tmp 1)) w1b := f_at (old2 1 rfl) x1
    replace x3 : Fk.f (.eq (.pointer (some ⟨g3, 0, none⟩))) (f2.eval (.tmp 3)) w1b := f_at (old2 3 rfl) x3
    replace x5 : Fk.f (.eq (.pointer (some ⟨g5, 0, none⟩))) (f2.eval (.tmp 5)) w1b := f_at (old2 5 rfl) x5
    replace x7 : Fk.f (.eq (.pointer (some ⟨g7, 0, none⟩))) (f2.eval (.tmp 7)) w1b := f_at (old2 7 rfl) x7
    replace x21 : Fk.f (.eq (.int .i64 11)) (f2.eval (.tmp 21)) w1b := f_at (old2 21 rfl) x21
    have x8 := nx8
    replace sz := sz2.trans sz
    replace df := df2.trans df
    clear df2 sz2 old2 new2 nx8
    refine wpList_nil ?_
    clear x21
    refine hKK _ _ ?_
    refine wp_seq ?_
    refine wp_all_seq [.eq (.agg ((seed).map V).toArray), .eq (.int .i64 (key)), .eq (.agg ((h).map V).toArray), .th (nilH) 11, .th (nilH) 11, .hs (nilH), .eq (.int .i64 11), .hs (nilH), .eq (.int .i64 11)] (by kernel_rfl) (by kernel_rfl) (by rw [sz]; kernel_rfl) (by kernel_rfl) ⟨fun hw ac w' K => ?_, fun hw ac w' K => ?_, fun hw ac w' K => ?_, fun hw ac w' K => ?_, fun hw ac w' K => ?_, fun hw ac w' K => ?_, fun hw ac w' K => ?_, fun hw ac w' K => ?_, fun hw ac w' K => ?_, trivial⟩ ?_
    · exact st_load23 (.tmp 3) rfl _ (seed) ((K.old 3 rfl).trans x3) hx (HasV.below m3 K.grow (HasV.lt m3))
    · exact st_move (.tmp 1) rfl ((K.old 1 rfl).trans x1)
    · exact st_load23 (.tmp 5) rfl _ (h) ((K.old 5 rfl).trans x5) hh (HasV.below m5 K.grow (HasV.lt m5))
    · exact st_call 7 (.func 7) _ _ #[.agg ((seed).map V).toArray, .int .i64 (key), .agg ((h).map V).toArray] rfl rfl (arg3 (K.dep 0 23 rfl) (K.dep 1 24 rfl) (K.dep 2 25 rfl)) Tryd.enter7 (fk_sign_no qk)
    · exact st_move (.tmp 26) rfl (K.dep 3 26 rfl)
    · exact st_exth (.tmp 22) rfl (K.dep 4 22 rfl)
    · exact st_extn (.tmp 22) rfl (K.dep 4 22 rfl)
    · exact st_assign (.tmp 27) rfl (K.dep 5 27 rfl)
    · exact st_assign (.tmp 28) rfl (K.dep 6 28 rfl)
    intro f3 w3 A hb
    replace x1 : Fk.f (.eq (.int .i64 (key))) (f3.eval (.tmp 1)) w3 := f_at (A.old 1 rfl) (Fk.mono _ _ _ _ x1 hb)
    replace x3 : Fk.f (.eq (.pointer (some ⟨g3, 0, none⟩))) (f3.eval (.tmp 3)) w3 := f_at (A.old 3 rfl) (Fk.mono _ _ _ _ x3 hb)
    replace x5 : Fk.f (.eq (.pointer (some ⟨g5, 0, none⟩))) (f3.eval (.tmp 5)) w3 := f_at (A.old 5 rfl) (Fk.mono _ _ _ _ x5 hb)
    replace x7 : Fk.f (.eq (.pointer (some ⟨g7, 0, none⟩))) (f3.eval (.tmp 7)) w3 := f_at (A.old 7 rfl) (Fk.mono _ _ _ _ x7 hb)
    replace x8 : Fk.f (.eq (.int .i64 11)) (f3.eval (.tmp 8)) w3 := f_at (A.old 8 rfl) (Fk.mono _ _ _ _ x8 hb)
    have x9 : Fk.f (.hs (nilH)) (f3.eval (.tmp 9)) w3 := A.has 7 9 rfl
    have x10 : Fk.f (.eq (.int .i64 11)) (f3.eval (.tmp 10)) w3 := A.has 8 10 rfl
    replace m3 := HasV.below m3 hb (HasV.lt m3)
    replace m5 := HasV.below m5 hb (HasV.lt m5)
    replace m7 := HasV.below m7 hb (HasV.lt m7)
    replace tb := tb.below hb
    replace bl := bl.trans (Below.mono hb bl.size)
    replace sz := A.size.trans sz
    replace df := A.defs.trans df
    clear A hb
    show Code.wp _ _ _ _ _
    refine wp_seq ?_
    refine wp_seq ?_
    by_cases q0 : key < 0
    · refine wp_all_seq [.eq (.int .i64 (key)), .eq (.bool true), .eq (.bool true), .any, .any, .eq (.bool true)] (by kernel_rfl) (by kernel_rfl) (by rw [sz]; kernel_rfl) (by kernel_rfl) ⟨fun hw ac w' K => ?_, fun hw ac w' K => ?_, fun hw ac w' K => ?_, fun hw ac w' K => ?_, fun hw ac w' K => ?_, fun hw ac w' K => ?_, trivial⟩ ?_
      · exact st_move (.tmp 1) rfl ((K.old 1 rfl).trans x1)
      · exact st_lss 3 (.tmp 29) (.const (.int .i64 0)) rfl .i64 ((key)) (0) (K.dep 0 29 rfl) rfl _ (by simp; omega)
      · exact st_move (.tmp 30) rfl (K.dep 1 30 rfl)
      · exact (Bool.false_ne_true hw).elim
      · exact (Bool.false_ne_true hw).elim
      · exact st_pick_t (.tmp 31) (.const (.bool true)) (.tmp 33) rfl (K.dep 2 31 rfl) rfl
      intro f4 w4 A hb
      replace x1 : Fk.f (.eq (.int .i64 (key))) (f4.eval (.tmp 1)) w4 := f_at (A.old 1 rfl) (Fk.mono _ _ _ _ x1 hb)
      replace x3 : Fk.f (.eq (.pointer (some ⟨g3, 0, none⟩))) (f4.eval (.tmp 3)) w4 := f_at (A.old 3 rfl) (Fk.mono _ _ _ _ x3 hb)
      replace x5 : Fk.f (.eq (.pointer (some ⟨g5, 0, none⟩))) (f4.eval (.tmp 5)) w4 := f_at (A.old 5 rfl) (Fk.mono _ _ _ _ x5 hb)
      replace x7 : Fk.f (.eq (.pointer (some ⟨g7, 0, none⟩))) (f4.eval (.tmp 7)) w4 := f_at (A.old 7 rfl) (Fk.mono _ _ _ _ x7 hb)
      replace x8 : Fk.f (.eq (.int .i64 11)) (f4.eval (.tmp 8)) w4 := f_at (A.old 8 rfl) (Fk.mono _ _ _ _ x8 hb)
      replace x9 : Fk.f (.hs (nilH)) (f4.eval (.tmp 9)) w4 := f_at (A.old 9 rfl) (Fk.mono _ _ _ _ x9 hb)
      replace x10 : Fk.f (.eq (.int .i64 11)) (f4.eval (.tmp 10)) w4 := f_at (A.old 10 rfl) (Fk.mono _ _ _ _ x10 hb)
      have x34 : Fk.f (.eq (.bool true)) (f4.eval (.tmp 34)) w4 := A.has 5 34 rfl
      replace m3 := HasV.below m3 hb (HasV.lt m3)
      replace m5 := HasV.below m5 hb (HasV.lt m5)
      replace m7 := HasV.below m7 hb (HasV.lt m7)
      replace tb := tb.below hb
      replace bl := bl.trans (Below.mono hb bl.size)
      replace sz := A.size.trans sz
      replace df := A.defs.trans df
      clear A hb
      show Code.wp _ _ _ _ _
      refine wp_cond_true x34 ?_
      refine wp_seq ?_
      refine wp_all_seq [.eq (.int .i64 11), .eq (.bool true), .eq (.bool true), .eq (.int .i64 11), .eq (.bool true), .eq (.bool true), .eq (.bool true), .eq (.agg ((hz).map V).toArray), .eq (.agg ((hz).map V).toArray), .eq (.bool true), .eq (.bool true), .eq (.bool true), .hs (nilH), .eq (.int .i64 (((nilH).length : Nat) : Int)), .eq (.bool true), .eq (.bool true), .eq (.bool true), .eq (.bool true), .eq (.bool true), .eq (.bool true)] (by kernel_rfl) (by kernel_rfl) (by rw [sz]; kernel_rfl) (by kernel_rfl) ⟨fun hw ac w' K => ?_, fun hw ac w' K => ?_, fun hw ac w' K => ?_, fun hw ac w' K => ?_, fun hw ac w' K => ?_, fun hw ac w' K => ?_, fun hw ac w' K => ?_, fun hw ac w' K => ?_, fun hw ac w' K => ?_, fun hw ac w' K => ?_, fun hw ac w' K => ?_, fun hw ac w' K => ?_, fun hw ac w' K => ?_, fun hw ac w' K => ?_, fun hw ac w' K => ?_, fun hw ac w' K => ?_, fun hw ac w' K => ?_, fun hw ac w' K => ?_, fun hw ac w' K => ?_, fun hw ac w' K => ?_, trivial⟩ ?_
      · exact st_move (.tmp 8) rfl ((K.old 8 rfl).trans x8)
      · exact st_eqi 24 (.tmp 35) (.const (.int .i64 11)) rfl .i64 (11) (11) (K.dep 0 35 rfl) rfl _ (by rfl)
      · exact st_move (.tmp 36) rfl (K.dep 1 36 rfl)
      · exact st_move (.tmp 10) rfl ((K.old 10 rfl).trans x10)
      · exact st_eqi 24 (.tmp 38) (.const (.int .i64 11)) rfl .i64 (11) (11) (K.dep 3 38 rfl) rfl _ (by rfl)
      · exact st_pick_t (.tmp 37) (.tmp 39) (.const (.bool false)) rfl (K.dep 2 37 rfl) (K.dep 4 39 rfl)
      · exact st_move (.tmp 40) rfl (K.dep 5 40 rfl)
      · exact st_load23 (.tmp 7) rfl _ (hz) ((K.old 7 rfl).trans x7) hz_len (HasV.below m7 K.grow (HasV.lt m7))
      · exact st_zero23 rfl
      · exact st_eqh (.tmp 42) (.tmp 43) rfl (hz) (hz) hz_len hz_len (K.dep 7 42 rfl) (K.dep 8 43 rfl) _ (by simp)
      · exact st_pick_t (.tmp 41) (.tmp 44) (.const (.bool false)) rfl (K.dep 6 41 rfl) (K.dep 9 44 rfl)
      · exact st_move (.tmp 45) rfl (K.dep 10 45 rfl)
      · exact st_move (.tmp 9) rfl (f_at (K.old 9 rfl) (Fk.mono _ _ _ _ x9 K.grow))
      · exact st_lenh (.tmp 47) rfl (K.dep 12 47 rfl)
      · exact st_eqi 3 (.tmp 48) (.const (.int .i64 0)) rfl .i64 ((((nilH).length : Nat) : Int)) (0) (K.dep 13 48 rfl) rfl _ (by rfl)
      · exact st_pick_t (.tmp 46) (.tmp 49) (.const (.bool false)) rfl (K.dep 11 46 rfl) (K.dep 14 49 rfl)
      · exact st_move (.tmp 50) rfl (K.dep 15 50 rfl)
      · exact st_call 8 (.func 8) _ _ #[] rfl rfl rfl Tryd.enter8 (fk_of (awake_any _))
      · exact st_pick_t (.tmp 51) (.tmp 52) (.const (.bool false)) rfl (K.dep 16 51 rfl) (K.dep 17 52 rfl)
      · exact st_assign (.tmp 53) rfl (K.dep 18 53 rfl)
      intro f5 w5 A hb
      replace x1 : Fk.f (.eq (.int .i64 (key))) (f5.eval (.tmp 1)) w5 := f_at (A.old 1 rfl) (Fk.mono _ _ _ _ x1 hb)
      replace x3 : Fk.f (.eq (.pointer (some ⟨g3, 0, none⟩))) (f5.eval (.tmp 3)) w5 := f_at (A.old 3 rfl) (Fk.mono _ _ _ _ x3 hb)
      replace x5 : Fk.f (.eq (.pointer (some ⟨g5, 0, none⟩))) (f5.eval (.tmp 5)) w5 := f_at (A.old 5 rfl) (Fk.mono _ _ _ _ x5 hb)
      replace x7 : Fk.f (.eq (.pointer (some ⟨g7, 0, none⟩))) (f5.eval (.tmp 7)) w5 := f_at (A.old 7 rfl) (Fk.mono _ _ _ _ x7 hb)
      replace x8 : Fk.f (.eq (.int .i64 11)) (f5.eval (.tmp 8)) w5 := f_at (A.old 8 rfl) (Fk.mono _ _ _ _ x8 hb)
      replace x9 : Fk.f (.hs (nilH)) (f5.eval (.tmp 9)) w5 := f_at (A.old 9 rfl) (Fk.mono _ _ _ _ x9 hb)
      replace x10 : Fk.f (.eq (.int .i64 11)) (f5.eval (.tmp 10)) w5 := f_at (A.old 10 rfl) (Fk.mono _ _ _ _ x10 hb)
      replace x34 : Fk.f (.eq (.bool true)) (f5.eval (.tmp 34)) w5 := f_at (A.old 34 rfl) (Fk.mono _ _ _ _ x34 hb)
      have x6 : Fk.f (.eq (.bool true)) (f5.eval (.tmp 6)) w5 := A.has 19 6 rfl
      replace m3 := HasV.below m3 hb (HasV.lt m3)
      replace m5 := HasV.below m5 hb (HasV.lt m5)
      replace m7 := HasV.below m7 hb (HasV.lt m7)
      replace tb := tb.below hb
      replace bl := bl.trans (Below.mono hb bl.size)
      replace sz := A.size.trans sz
      replace df := A.defs.trans df
      clear A hb
      show Code.wp _ _ _ _ _
      refine wp_ret (then_ret ?_)
      exact bodyPost_ret (v := .bool true) (ret_slot rfl f5 _ x6 _ _) df ⟨rfl, bl⟩
    · refine wp_all_seq [.eq (.int .i64 (key)), .eq (.bool false), .eq (.bool false), .eq (.int .i64 (key)), .eq (.bool true), .eq (.bool true)] (by kernel_rfl) (by kernel_rfl) (by rw [sz]; kernel_rfl) (by kernel_rfl) ⟨fun hw ac w' K => ?_, fun hw ac w' K => ?_, fun hw ac w' K => ?_, fun hw ac w' K => ?_, fun hw ac w' K => ?_, fun hw ac w' K => ?_, trivial⟩ ?_
      · exact st_move (.tmp 1) rfl ((K.old 1 rfl).trans x1)
      · exact st_lss 3 (.tmp 29) (.const (.int .i64 0)) rfl .i64 ((key)) (0) (K.dep 0 29 rfl) rfl _ (by simp; omega)
      · exact st_move (.tmp 30) rfl (K.dep 1 30 rfl)
      · exact st_move (.tmp 1) rfl ((K.old 1 rfl).trans x1)
      · exact st_gtr 3 (.tmp 32) (.const (.int .i64 2147483647)) rfl .i64 ((key)) (2147483647) (K.dep 3 32 rfl) rfl _ (by simp; omega)
      · exact st_pick_f (.tmp 31) (.const (.bool true)) (.tmp 33) rfl (K.dep 2 31 rfl) (K.dep 4 33 rfl)
      intro f4 w4 A hb
      replace x1 : Fk.f (.eq (.int .i64 (key))) (f4.eval (.tmp 1)) w4 := f_at (A.old 1 rfl) (Fk.mono _ _ _ _ x1 hb)
      replace x3 : Fk.f (.eq (.pointer (some ⟨g3, 0, none⟩))) (f4.eval (.tmp 3)) w4 := f_at (A.old 3 rfl) (Fk.mono _ _ _ _ x3 hb)
      replace x5 : Fk.f (.eq (.pointer (some ⟨g5, 0, none⟩))) (f4.eval (.tmp 5)) w4 := f_at (A.old 5 rfl) (Fk.mono _ _ _ _ x5 hb)
      replace x7 : Fk.f (.eq (.pointer (some ⟨g7, 0, none⟩))) (f4.eval (.tmp 7)) w4 := f_at (A.old 7 rfl) (Fk.mono _ _ _ _ x7 hb)
      replace x8 : Fk.f (.eq (.int .i64 11)) (f4.eval (.tmp 8)) w4 := f_at (A.old 8 rfl) (Fk.mono _ _ _ _ x8 hb)
      replace x9 : Fk.f (.hs (nilH)) (f4.eval (.tmp 9)) w4 := f_at (A.old 9 rfl) (Fk.mono _ _ _ _ x9 hb)
      replace x10 : Fk.f (.eq (.int .i64 11)) (f4.eval (.tmp 10)) w4 := f_at (A.old 10 rfl) (Fk.mono _ _ _ _ x10 hb)
      have x34 : Fk.f (.eq (.bool true)) (f4.eval (.tmp 34)) w4 := A.has 5 34 rfl
      replace m3 := HasV.below m3 hb (HasV.lt m3)
      replace m5 := HasV.below m5 hb (HasV.lt m5)
      replace m7 := HasV.below m7 hb (HasV.lt m7)
      replace tb := tb.below hb
      replace bl := bl.trans (Below.mono hb bl.size)
      replace sz := A.size.trans sz
      replace df := A.defs.trans df
      clear A hb
      show Code.wp _ _ _ _ _
      refine wp_cond_true x34 ?_
      refine wp_seq ?_
      refine wp_all_seq [.eq (.int .i64 11), .eq (.bool true), .eq (.bool true), .eq (.int .i64 11), .eq (.bool true), .eq (.bool true), .eq (.bool true), .eq (.agg ((hz).map V).toArray), .eq (.agg ((hz).map V).toArray), .eq (.bool true), .eq (.bool true), .eq (.bool true), .hs (nilH), .eq (.int .i64 (((nilH).length : Nat) : Int)), .eq (.bool true), .eq (.bool true), .eq (.bool true), .eq (.bool true), .eq (.bool true), .eq (.bool true)] (by kernel_rfl) (by kernel_rfl) (by rw [sz]; kernel_rfl) (by kernel_rfl) ⟨fun hw ac w' K => ?_, fun hw ac w' K => ?_, fun hw ac w' K => ?_, fun hw ac w' K => ?_, fun hw ac w' K => ?_, fun hw ac w' K => ?_, fun hw ac w' K => ?_, fun hw ac w' K => ?_, fun hw ac w' K => ?_, fun hw ac w' K => ?_, fun hw ac w' K => ?_, fun hw ac w' K => ?_, fun hw ac w' K => ?_, fun hw ac w' K => ?_, fun hw ac w' K => ?_, fun hw ac w' K => ?_, fun hw ac w' K => ?_, fun hw ac w' K => ?_, fun hw ac w' K => ?_, fun hw ac w' K => ?_, trivial⟩ ?_
      · exact st_move (.tmp 8) rfl ((K.old 8 rfl).trans x8)
      · exact st_eqi 24 (.tmp 35) (.const (.int .i64 11)) rfl .i64 (11) (11) (K.dep 0 35 rfl) rfl _ (by rfl)
      · exact st_move (.tmp 36) rfl (K.dep 1 36 rfl)
      · exact st_move (.tmp 10) rfl ((K.old 10 rfl).trans x10)
      · exact st_eqi 24 (.tmp 38) (.const (.int .i64 11)) rfl .i64 (11) (11) (K.dep 3 38 rfl) rfl _ (by rfl)
      · exact st_pick_t (.tmp 37) (.tmp 39) (.const (.bool false)) rfl (K.dep 2 37 rfl) (K.dep 4 39 rfl)
      · exact st_move (.tmp 40) rfl (K.dep 5 40 rfl)
      · exact st_load23 (.tmp 7) rfl _ (hz) ((K.old 7 rfl).trans x7) hz_len (HasV.below m7 K.grow (HasV.lt m7))
      · exact st_zero23 rfl
      · exact st_eqh (.tmp 42) (.tmp 43) rfl (hz) (hz) hz_len hz_len (K.dep 7 42 rfl) (K.dep 8 43 rfl) _ (by simp)
      · exact st_pick_t (.tmp 41) (.tmp 44) (.const (.bool false)) rfl (K.dep 6 41 rfl) (K.dep 9 44 rfl)
      · exact st_move (.tmp 45) rfl (K.dep 10 45 rfl)
      · exact st_move (.tmp 9) rfl (f_at (K.old 9 rfl) (Fk.mono _ _ _ _ x9 K.grow))
      · exact st_lenh (.tmp 47) rfl (K.dep 12 47 rfl)
      · exact st_eqi 3 (.tmp 48) (.const (.int .i64 0)) rfl .i64 ((((nilH).length : Nat) : Int)) (0) (K.dep 13 48 rfl) rfl _ (by rfl)
      · exact st_pick_t (.tmp 46) (.tmp 49) (.const (.bool false)) rfl (K.dep 11 46 rfl) (K.dep 14 49 rfl)
      · exact st_move (.tmp 50) rfl (K.dep 15 50 rfl)
      · exact st_call 8 (.func 8) _ _ #[] rfl rfl rfl Tryd.enter8 (fk_of (awake_any _))
      · exact st_pick_t (.tmp 51) (.tmp 52) (.const (.bool false)) rfl (K.dep 16 51 rfl) (K.dep 17 52 rfl)
      · exact st_assign (.tmp 53) rfl (K.dep 18 53 rfl)
      intro f5 w5 A hb
      replace x1 : Fk.f (.eq (.int .i64 (key))) (f5.eval (.tmp 1)) w5 := f_at (A.old 1 rfl) (Fk.mono _ _ _ _ x1 hb)
      replace x3 : Fk.f (.eq (.pointer (some ⟨g3, 0, none⟩))) (f5.eval (.tmp 3)) w5 := f_at (A.old 3 rfl) (Fk.mono _ _ _ _ x3 hb)
      replace x5 : Fk.f (.eq (.pointer (some ⟨g5, 0, none⟩))) (f5.eval (.tmp 5)) w5 := f_at (A.old 5 rfl) (Fk.mono _ _ _ _ x5 hb)
      replace x7 : Fk.f (.eq (.pointer (some ⟨g7, 0, none⟩))) (f5.eval (.tmp 7)) w5 := f_at (A.old 7 rfl) (Fk.mono _ _ _ _ x7 hb)
      replace x8 : Fk.f (.eq (.int .i64 11)) (f5.eval (.tmp 8)) w5 := f_at (A.old 8 rfl) (Fk.mono _ _ _ _ x8 hb)
      replace x9 : Fk.f (.hs (nilH)) (f5.eval (.tmp 9)) w5 := f_at (A.old 9 rfl) (Fk.mono _ _ _ _ x9 hb)
      replace x10 : Fk.f (.eq (.int .i64 11)) (f5.eval (.tmp 10)) w5 := f_at (A.old 10 rfl) (Fk.mono _ _ _ _ x10 hb)
      replace x34 : Fk.f (.eq (.bool true)) (f5.eval (.tmp 34)) w5 := f_at (A.old 34 rfl) (Fk.mono _ _ _ _ x34 hb)
      have x6 : Fk.f (.eq (.bool true)) (f5.eval (.tmp 6)) w5 := A.has 19 6 rfl
      replace m3 := HasV.below m3 hb (HasV.lt m3)
      replace m5 := HasV.below m5 hb (HasV.lt m5)
      replace m7 := HasV.below m7 hb (HasV.lt m7)
      replace tb := tb.below hb
      replace bl := bl.trans (Below.mono hb bl.size)
      replace sz := A.size.trans sz
      replace df := A.defs.trans df
      clear A hb
      show Code.wp _ _ _ _ _
      refine wp_ret (then_ret ?_)
      exact bodyPost_ret (v := .bool true) (ret_slot rfl f5 _ x6 _ _) df ⟨rfl, bl⟩
  · obtain ⟨n, rfl⟩ := Int.eq_ofNat_of_zero_le (show 0 ≤ key by omega)
    have hn : n ≤ 2147483647 := by omega
    obtain ⟨p, ep⟩ : ∃ p, Box (pub (all512 (edOf seed n)) = p) := ⟨_, ⟨rfl⟩⟩
    have hpl : p.length = 32 := by rw [← ep.out]; exact pub_len _
    obtain ⟨S, eS⟩ : ∃ S, Box (all512 (sgOf seed n h) = S) := ⟨_, ⟨rfl⟩⟩
    have hSl : S.length = 512 := by rw [← eS.out]; exact all_len _
    obtain ⟨E, eE⟩ : ∃ E, Box (all512 (edOf seed n) = E) := ⟨_, ⟨rfl⟩⟩
    have hEl : E.length = 512 := by rw [← eE.out]; exact all_len _
    have epE : Box (pub E = p) := ⟨by rw [← eE.out]; exact ep.out⟩
    have eq : Box (pub (all512 (rcOf h S)) = p) := ⟨by rw [← eS.out, rc_sig]; exact ep.out⟩
    refine wp_region_seq [.eq (.agg ((seed).map V).toArray), .eq (.int .i64 ((n : Nat) : Int)), .eq (.tuple #[.agg ((p).map V).toArray, .int .i64 0]), .eq (.tuple #[.agg ((p).map V).toArray, .int .i64 0]), .eq (.agg ((p).map V).toArray), .eq (.int .i64 0), .pn w0.heap.size hz] (by kernel_rfl) (by kernel_rfl) (by rw [sz]; kernel_rfl) (by kernel_rfl) ⟨fun hw ac w' K => ?_, fun hw ac w' K => ?_, fun hw ac w' K => ?_, fun hw ac w' K => ?_, fun hw ac w' K => ?_, fun hw ac w' K => ?_, fun hw ac w' K => ?_, trivial⟩ ?_
    · exact st_load23 (.tmp 3) rfl _ (seed) ((K.old 3 rfl).trans x3) hx (HasV.below m3 K.grow (HasV.lt m3))
    · exact st_move (.tmp 1) rfl ((K.old 1 rfl).trans x1)
    · exact st_call 6 (.func 6) _ _ #[.agg ((seed).map V).toArray, .int .i64 (((n : Nat) : Int))] rfl rfl (arg2 (K.dep 0 17 rfl) (K.dep 1 18 rfl)) Tryd.enter6 (fk_public_ok hx hn (tb.below K.grow) ep)
    · exact st_move (.tmp 19) rfl (K.dep 2 19 rfl)
    · exact st_ext0 (.tmp 16) rfl (K.dep 3 16 rfl) rfl
    · exact st_ext1 (.tmp 16) rfl (K.dep 3 16 rfl) rfl
    · exact st_alloc23 rfl _ K.grow.size
    intro f1 w1 A hb
    obtain ⟨g7, hg7, e7, m7⟩ := A.has 6 7 rfl
    refine wl_store rfl (.tmp 7) (.tmp 20) rfl rfl g7 (p) hz e7 (A.has 4 20 rfl) m7 hz_len hpl ?_
    replace hb := Below.trans hb (below_setRow _ _ _ ((p).map V).toArray hg7)
    replace m7 : HasV (w1.setRow g7 ((p).map V).toArray) g7 23 (p) := HasV.setRow m7
    generalize w1.setRow g7 ((p).map V).toArray = w1b at hb m7 ⊢
    replace x1 : Fk.f (.eq (.int .i64 ((n : Nat) : Int))) (f1.eval (.tmp 1)) w1b := f_at (A.old 1 rfl) (Fk.mono _ _ _ _ x1 hb)
    replace x3 : Fk.f (.eq (.pointer (some ⟨g3, 0, none⟩))) (f1.eval (.tmp 3)) w1b := f_at (A.old 3 rfl) (Fk.mono _ _ _ _ x3 hb)
    replace x5 : Fk.f (.eq (.pointer (some ⟨g5, 0, none⟩))) (f1.eval (.tmp 5)) w1b := f_at (A.old 5 rfl) (Fk.mono _ _ _ _ x5 hb)
    have x7 : Fk.f (.eq (.pointer (some ⟨g7, 0, none⟩))) (f1.eval (.tmp 7)) w1b := e7
    have x21 : Fk.f (.eq (.int .i64 0)) (f1.eval (.tmp 21)) w1b := A.has 5 21 rfl
    replace m3 := HasV.below m3 hb (HasV.lt m3)
    replace m5 := HasV.below m5 hb (HasV.lt m5)
    replace tb := tb.below hb
    replace bl := bl.trans (Below.mono hb bl.size)
    replace sz := A.size.trans sz
    replace df := A.defs.trans df
    clear A hb
    refine wl_assign rfl (.tmp 21) rfl 8 rfl (by rw [sz]; decide) ?_
    intro f2 df2 sz2 old2 new2
    have nx8 : Fk.f (.eq (.int .i64 0)) (f2.eval (.tmp 8)) w1b := f_at new2 x21
    replace x1 : Fk.f (.eq (.int .i64 ((n : Nat) : Int))) (f2.eval (.tmp 1)) w1b := f_at (old2 1 rfl) x1
    replace x3 : Fk.f (.eq (.pointer (some ⟨g3, 0, none⟩))) (f2.eval (.tmp 3)) w1b := f_at (old2 3 rfl) x3
    replace x5 : Fk.f (.eq (.pointer (some ⟨g5, 0, none⟩))) (f2.eval (.tmp 5)) w1b := f_at (old2 5 rfl) x5
    replace x7 : Fk.f (.eq (.pointer (some ⟨g7, 0, none⟩))) (f2.eval (.tmp 7)) w1b := f_at (old2 7 rfl) x7
    replace x21 : Fk.f (.eq (.int .i64 0)) (f2.eval (.tmp 21)) w1b := f_at (old2 21 rfl) x21
    have x8 := nx8
    replace sz := sz2.trans sz
    replace df := df2.trans df
    clear df2 sz2 old2 new2 nx8
    refine wpList_nil ?_
    clear x21
    refine hKK _ _ ?_
    refine wp_seq ?_
    refine wp_all_seq [.eq (.agg ((seed).map V).toArray), .eq (.int .i64 ((n : Nat) : Int)), .eq (.agg ((h).map V).toArray), .th (S) 0, .th (S) 0, .hs (S), .eq (.int .i64 0), .hs (S), .eq (.int .i64 0)] (by kernel_rfl) (by kernel_rfl) (by rw [sz]; kernel_rfl) (by kernel_rfl) ⟨fun hw ac w' K => ?_, fun hw ac w' K => ?_, fun hw ac w' K => ?_, fun hw ac w' K => ?_, fun hw ac w' K => ?_, fun hw ac w' K => ?_, fun hw ac w' K => ?_, fun hw ac w' K => ?_, fun hw ac w' K => ?_, trivial⟩ ?_
    · exact st_load23 (.tmp 3) rfl _ (seed) ((K.old 3 rfl).trans x3) hx (HasV.below m3 K.grow (HasV.lt m3))
    · exact st_move (.tmp 1) rfl ((K.old 1 rfl).trans x1)
    · exact st_load23 (.tmp 5) rfl _ (h) ((K.old 5 rfl).trans x5) hh (HasV.below m5 K.grow (HasV.lt m5))
    · exact st_call 7 (.func 7) _ _ #[.agg ((seed).map V).toArray, .int .i64 (((n : Nat) : Int)), .agg ((h).map V).toArray] rfl rfl (arg3 (K.dep 0 23 rfl) (K.dep 1 24 rfl) (K.dep 2 25 rfl)) Tryd.enter7 (fk_sign_ok hx hh hn (tb.below K.grow) eS)
    · exact st_move (.tmp 26) rfl (K.dep 3 26 rfl)
    · exact st_exth (.tmp 22) rfl (K.dep 4 22 rfl)
    · exact st_extn (.tmp 22) rfl (K.dep 4 22 rfl)
    · exact st_assign (.tmp 27) rfl (K.dep 5 27 rfl)
    · exact st_assign (.tmp 28) rfl (K.dep 6 28 rfl)
    intro f3 w3 A hb
    replace x1 : Fk.f (.eq (.int .i64 ((n : Nat) : Int))) (f3.eval (.tmp 1)) w3 := f_at (A.old 1 rfl) (Fk.mono _ _ _ _ x1 hb)
    replace x3 : Fk.f (.eq (.pointer (some ⟨g3, 0, none⟩))) (f3.eval (.tmp 3)) w3 := f_at (A.old 3 rfl) (Fk.mono _ _ _ _ x3 hb)
    replace x5 : Fk.f (.eq (.pointer (some ⟨g5, 0, none⟩))) (f3.eval (.tmp 5)) w3 := f_at (A.old 5 rfl) (Fk.mono _ _ _ _ x5 hb)
    replace x7 : Fk.f (.eq (.pointer (some ⟨g7, 0, none⟩))) (f3.eval (.tmp 7)) w3 := f_at (A.old 7 rfl) (Fk.mono _ _ _ _ x7 hb)
    replace x8 : Fk.f (.eq (.int .i64 0)) (f3.eval (.tmp 8)) w3 := f_at (A.old 8 rfl) (Fk.mono _ _ _ _ x8 hb)
    have x9 : Fk.f (.hs (S)) (f3.eval (.tmp 9)) w3 := A.has 7 9 rfl
    have x10 : Fk.f (.eq (.int .i64 0)) (f3.eval (.tmp 10)) w3 := A.has 8 10 rfl
    replace m3 := HasV.below m3 hb (HasV.lt m3)
    replace m5 := HasV.below m5 hb (HasV.lt m5)
    replace m7 := HasV.below m7 hb (HasV.lt m7)
    replace tb := tb.below hb
    replace bl := bl.trans (Below.mono hb bl.size)
    replace sz := A.size.trans sz
    replace df := A.defs.trans df
    clear A hb
    show Code.wp _ _ _ _ _
    refine wp_seq ?_
    refine wp_seq ?_
    refine wp_all_seq [.eq (.int .i64 ((n : Nat) : Int)), .eq (.bool false), .eq (.bool false), .eq (.int .i64 ((n : Nat) : Int)), .eq (.bool false), .eq (.bool false)] (by kernel_rfl) (by kernel_rfl) (by rw [sz]; kernel_rfl) (by kernel_rfl) ⟨fun hw ac w' K => ?_, fun hw ac w' K => ?_, fun hw ac w' K => ?_, fun hw ac w' K => ?_, fun hw ac w' K => ?_, fun hw ac w' K => ?_, trivial⟩ ?_
    · exact st_move (.tmp 1) rfl ((K.old 1 rfl).trans x1)
    · exact st_lss 3 (.tmp 29) (.const (.int .i64 0)) rfl .i64 (((n : Nat) : Int)) (0) (K.dep 0 29 rfl) rfl _ (by simp)
    · exact st_move (.tmp 30) rfl (K.dep 1 30 rfl)
    · exact st_move (.tmp 1) rfl ((K.old 1 rfl).trans x1)
    · exact st_gtr 3 (.tmp 32) (.const (.int .i64 2147483647)) rfl .i64 (((n : Nat) : Int)) (2147483647) (K.dep 3 32 rfl) rfl _ (by simp; omega)
    · exact st_pick_f (.tmp 31) (.const (.bool true)) (.tmp 33) rfl (K.dep 2 31 rfl) (K.dep 4 33 rfl)
    intro f4 w4 A hb
    replace x1 : Fk.f (.eq (.int .i64 ((n : Nat) : Int))) (f4.eval (.tmp 1)) w4 := f_at (A.old 1 rfl) (Fk.mono _ _ _ _ x1 hb)
    replace x3 : Fk.f (.eq (.pointer (some ⟨g3, 0, none⟩))) (f4.eval (.tmp 3)) w4 := f_at (A.old 3 rfl) (Fk.mono _ _ _ _ x3 hb)
    replace x5 : Fk.f (.eq (.pointer (some ⟨g5, 0, none⟩))) (f4.eval (.tmp 5)) w4 := f_at (A.old 5 rfl) (Fk.mono _ _ _ _ x5 hb)
    replace x7 : Fk.f (.eq (.pointer (some ⟨g7, 0, none⟩))) (f4.eval (.tmp 7)) w4 := f_at (A.old 7 rfl) (Fk.mono _ _ _ _ x7 hb)
    replace x8 : Fk.f (.eq (.int .i64 0)) (f4.eval (.tmp 8)) w4 := f_at (A.old 8 rfl) (Fk.mono _ _ _ _ x8 hb)
    replace x9 : Fk.f (.hs (S)) (f4.eval (.tmp 9)) w4 := f_at (A.old 9 rfl) (Fk.mono _ _ _ _ x9 hb)
    replace x10 : Fk.f (.eq (.int .i64 0)) (f4.eval (.tmp 10)) w4 := f_at (A.old 10 rfl) (Fk.mono _ _ _ _ x10 hb)
    have x34 : Fk.f (.eq (.bool false)) (f4.eval (.tmp 34)) w4 := A.has 5 34 rfl
    replace m3 := HasV.below m3 hb (HasV.lt m3)
    replace m5 := HasV.below m5 hb (HasV.lt m5)
    replace m7 := HasV.below m7 hb (HasV.lt m7)
    replace tb := tb.below hb
    replace bl := bl.trans (Below.mono hb bl.size)
    replace sz := A.size.trans sz
    replace df := A.defs.trans df
    clear A hb
    show Code.wp _ _ _ _ _
    refine wp_cond_false x34 ?_
    refine wp_skip ?_
    show Code.wp _ _ _ _ _
    clear x34
    refine wp_seq ?_
    refine wp_all_seq [.eq (.agg ((seed).map V).toArray), .eq (.int .i64 ((n : Nat) : Int)), .hs (E), .hs (E)] (by kernel_rfl) (by kernel_rfl) (by rw [sz]; kernel_rfl) (by kernel_rfl) ⟨fun hw ac w' K => ?_, fun hw ac w' K => ?_, fun hw ac w' K => ?_, fun hw ac w' K => ?_, trivial⟩ ?_
    · exact st_load23 (.tmp 3) rfl _ (seed) ((K.old 3 rfl).trans x3) hx (HasV.below m3 K.grow (HasV.lt m3))
    · exact st_move (.tmp 1) rfl ((K.old 1 rfl).trans x1)
    · exact st_call 9 (.func 9) _ _ #[.agg ((seed).map V).toArray, .int .i64 ((n : Nat) : Int)] rfl rfl (arg2 (K.dep 0 54 rfl) (K.dep 1 55 rfl)) Tryd.enter9 (fk_ends hx (tb.below K.grow) eE)
    · exact st_assign (.tmp 56) rfl (K.dep 2 56 rfl)
    intro f5 w5 A hb
    replace x1 : Fk.f (.eq (.int .i64 ((n : Nat) : Int))) (f5.eval (.tmp 1)) w5 := f_at (A.old 1 rfl) (Fk.mono _ _ _ _ x1 hb)
    replace x3 : Fk.f (.eq (.pointer (some ⟨g3, 0, none⟩))) (f5.eval (.tmp 3)) w5 := f_at (A.old 3 rfl) (Fk.mono _ _ _ _ x3 hb)
    replace x5 : Fk.f (.eq (.pointer (some ⟨g5, 0, none⟩))) (f5.eval (.tmp 5)) w5 := f_at (A.old 5 rfl) (Fk.mono _ _ _ _ x5 hb)
    replace x7 : Fk.f (.eq (.pointer (some ⟨g7, 0, none⟩))) (f5.eval (.tmp 7)) w5 := f_at (A.old 7 rfl) (Fk.mono _ _ _ _ x7 hb)
    replace x8 : Fk.f (.eq (.int .i64 0)) (f5.eval (.tmp 8)) w5 := f_at (A.old 8 rfl) (Fk.mono _ _ _ _ x8 hb)
    replace x9 : Fk.f (.hs (S)) (f5.eval (.tmp 9)) w5 := f_at (A.old 9 rfl) (Fk.mono _ _ _ _ x9 hb)
    replace x10 : Fk.f (.eq (.int .i64 0)) (f5.eval (.tmp 10)) w5 := f_at (A.old 10 rfl) (Fk.mono _ _ _ _ x10 hb)
    have x11 : Fk.f (.hs (E)) (f5.eval (.tmp 11)) w5 := A.has 3 11 rfl
    replace m3 := HasV.below m3 hb (HasV.lt m3)
    replace m5 := HasV.below m5 hb (HasV.lt m5)
    replace m7 := HasV.below m7 hb (HasV.lt m7)
    replace tb := tb.below hb
    replace bl := bl.trans (Below.mono hb bl.size)
    replace sz := A.size.trans sz
    replace df := A.defs.trans df
    clear A hb
    show Code.wp _ _ _ _ _
    refine wp_seq ?_
    refine wp_seq ?_
    refine wp_all [.eq (.int .i64 0), .eq (.bool false), .eq (.bool false), .eq (.int .i64 0), .eq (.bool false), .eq (.bool false), .eq (.bool false), .hs (S), .eq (.int .i64 (((S).length : Nat) : Int)), .eq (.bool false), .eq (.bool false), .eq (.bool false), .eq (.agg ((p).map V).toArray), .hs (E), .eq (.agg ((p).map V).toArray), .eq (.bool false), .eq (.bool false)] Tryd.mixed (by kernel_rfl) (by kernel_rfl) (by rw [sz]; kernel_rfl) (by kernel_rfl) ⟨fun hw ac w' K => ?_, fun hw ac w' K => ?_, fun hw ac w' K => ?_, fun hw ac w' K => ?_, fun hw ac w' K => ?_, fun hw ac w' K => ?_, fun hw ac w' K => ?_, fun hw ac w' K => ?_, fun hw ac w' K => ?_, fun hw ac w' K => ?_, fun hw ac w' K => ?_, fun hw ac w' K => ?_, fun hw ac w' K => ?_, fun hw ac w' K => ?_, fun hw ac w' K => ?_, fun hw ac w' K => ?_, fun hw ac w' K => ?_, trivial⟩ ?_
    · exact st_move (.tmp 8) rfl ((K.old 8 rfl).trans x8)
    · exact st_neqi 24 (.tmp 57) (.const (.int .i64 0)) rfl .i64 (0) (0) (K.dep 0 57 rfl) rfl _ (by rfl)
    · exact st_move (.tmp 58) rfl (K.dep 1 58 rfl)
    · exact st_move (.tmp 10) rfl ((K.old 10 rfl).trans x10)
    · exact st_neqi 24 (.tmp 60) (.const (.int .i64 0)) rfl .i64 (0) (0) (K.dep 3 60 rfl) rfl _ (by rfl)
    · exact st_pick_f (.tmp 59) (.const (.bool true)) (.tmp 61) rfl (K.dep 2 59 rfl) (K.dep 4 61 rfl)
    · exact st_move (.tmp 62) rfl (K.dep 5 62 rfl)
    · exact st_move (.tmp 9) rfl (f_at (K.old 9 rfl) (Fk.mono _ _ _ _ x9 K.grow))
    · exact st_lenh (.tmp 64) rfl (K.dep 7 64 rfl)
    · exact st_neqi 3 (.tmp 65) (.const (.int .i64 512)) rfl .i64 ((((S).length : Nat) : Int)) (512) (K.dep 8 65 rfl) rfl _ (by rw [hSl]; rfl)
    · exact st_pick_f (.tmp 63) (.const (.bool true)) (.tmp 66) rfl (K.dep 6 63 rfl) (K.dep 9 66 rfl)
    · exact st_move (.tmp 67) rfl (K.dep 10 67 rfl)
    · exact st_load23 (.tmp 7) rfl _ (p) ((K.old 7 rfl).trans x7) hpl (HasV.below m7 K.grow (HasV.lt m7))
    · exact st_move (.tmp 11) rfl (f_at (K.old 11 rfl) (Fk.mono _ _ _ _ x11 K.grow))
    · exact st_call 10 (.func 10) _ _ #[ac.eval (.tmp 70)] rfl rfl rfl Tryd.enter10 (fk_public_to (by omega) (tb.below K.grow) (K.dep 13 70 rfl) epE)
    · exact st_neqh (.tmp 69) (.tmp 71) rfl (p) (p) hpl hpl (K.dep 12 69 rfl) (K.dep 14 71 rfl) _ (by simp)
    · exact st_pick_f (.tmp 68) (.const (.bool true)) (.tmp 72) rfl (K.dep 11 68 rfl) (K.dep 15 72 rfl)
    intro f6 w6 A hb
    replace x1 : Fk.f (.eq (.int .i64 ((n : Nat) : Int))) (f6.eval (.tmp 1)) w6 := f_at (A.old 1 rfl) (Fk.mono _ _ _ _ x1 hb)
    replace x3 : Fk.f (.eq (.pointer (some ⟨g3, 0, none⟩))) (f6.eval (.tmp 3)) w6 := f_at (A.old 3 rfl) (Fk.mono _ _ _ _ x3 hb)
    replace x5 : Fk.f (.eq (.pointer (some ⟨g5, 0, none⟩))) (f6.eval (.tmp 5)) w6 := f_at (A.old 5 rfl) (Fk.mono _ _ _ _ x5 hb)
    replace x7 : Fk.f (.eq (.pointer (some ⟨g7, 0, none⟩))) (f6.eval (.tmp 7)) w6 := f_at (A.old 7 rfl) (Fk.mono _ _ _ _ x7 hb)
    replace x8 : Fk.f (.eq (.int .i64 0)) (f6.eval (.tmp 8)) w6 := f_at (A.old 8 rfl) (Fk.mono _ _ _ _ x8 hb)
    replace x9 : Fk.f (.hs (S)) (f6.eval (.tmp 9)) w6 := f_at (A.old 9 rfl) (Fk.mono _ _ _ _ x9 hb)
    replace x10 : Fk.f (.eq (.int .i64 0)) (f6.eval (.tmp 10)) w6 := f_at (A.old 10 rfl) (Fk.mono _ _ _ _ x10 hb)
    replace x11 : Fk.f (.hs (E)) (f6.eval (.tmp 11)) w6 := f_at (A.old 11 rfl) (Fk.mono _ _ _ _ x11 hb)
    have x73 : Fk.f (.eq (.bool false)) (f6.eval (.tmp 73)) w6 := A.has 16 73 rfl
    replace m3 := HasV.below m3 hb (HasV.lt m3)
    replace m5 := HasV.below m5 hb (HasV.lt m5)
    replace m7 := HasV.below m7 hb (HasV.lt m7)
    replace tb := tb.below hb
    replace bl := bl.trans (Below.mono hb bl.size)
    replace sz := A.size.trans sz
    replace df := A.defs.trans df
    clear A hb
    show Code.wp _ _ _ _ _
    refine wp_cond_false x73 ?_
    refine wp_skip ?_
    show Code.wp _ _ _ _ _
    clear x73
    clear x8
    clear x10
    refine wp_seq ?_
    refine wp_seq ?_
    refine wp_all_seq [.eq (.int .i64 0)] (by kernel_rfl) (by kernel_rfl) (by rw [sz]; kernel_rfl) (by kernel_rfl) ⟨fun hw ac w' K => ?_, trivial⟩ ?_
    · exact st_move (.const (.int .i64 0)) rfl rfl
    intro f7 w7 A hb
    replace x1 : Fk.f (.eq (.int .i64 ((n : Nat) : Int))) (f7.eval (.tmp 1)) w7 := f_at (A.old 1 rfl) (Fk.mono _ _ _ _ x1 hb)
    replace x3 : Fk.f (.eq (.pointer (some ⟨g3, 0, none⟩))) (f7.eval (.tmp 3)) w7 := f_at (A.old 3 rfl) (Fk.mono _ _ _ _ x3 hb)
    replace x5 : Fk.f (.eq (.pointer (some ⟨g5, 0, none⟩))) (f7.eval (.tmp 5)) w7 := f_at (A.old 5 rfl) (Fk.mono _ _ _ _ x5 hb)
    replace x7 : Fk.f (.eq (.pointer (some ⟨g7, 0, none⟩))) (f7.eval (.tmp 7)) w7 := f_at (A.old 7 rfl) (Fk.mono _ _ _ _ x7 hb)
    replace x9 : Fk.f (.hs (S)) (f7.eval (.tmp 9)) w7 := f_at (A.old 9 rfl) (Fk.mono _ _ _ _ x9 hb)
    replace x11 : Fk.f (.hs (E)) (f7.eval (.tmp 11)) w7 := f_at (A.old 11 rfl) (Fk.mono _ _ _ _ x11 hb)
    have x74 : Fk.f (.eq (.int .i64 0)) (f7.eval (.tmp 74)) w7 := A.has 0 74 rfl
    replace m3 := HasV.below m3 hb (HasV.lt m3)
    replace m5 := HasV.below m5 hb (HasV.lt m5)
    replace m7 := HasV.below m7 hb (HasV.lt m7)
    replace tb := tb.below hb
    replace bl := bl.trans (Below.mono hb bl.size)
    replace sz := A.size.trans sz
    replace df := A.defs.trans df
    clear A hb
    show Code.wp _ _ _ _ _
    refine wp_block ?_
    have xL1 := x1
    have xL3 := x3
    have xL5 := x5
    have xL7 := x7
    have xL9 := x9
    have xL11 := x11
    have Lm3 := m3
    have Lm5 := m5
    have Lm7 := m7
    have tbL := tb
    have blL := bl
    refine wp_loop (fun f v1 => ∃ k : Nat, k ≤ 256 ∧ f.tmps.size = 128 ∧ f.defers = [] ∧ f.eval (.tmp 1) = f7.eval (.tmp 1) ∧ f.eval (.tmp 3) = f7.eval (.tmp 3) ∧ f.eval (.tmp 5) = f7.eval (.tmp 5) ∧ f.eval (.tmp 7) = f7.eval (.tmp 7) ∧ f.eval (.tmp 9) = f7.eval (.tmp 9) ∧ f.eval (.tmp 11) = f7.eval (.tmp 11) ∧ Fk.f (.eq (.int .i64 ((k : Nat) : Int))) (f.eval (.tmp 74)) v1 ∧ Below w7.heap.size w7 v1) (fun f _ => 256 - (intOf (f.eval (.tmp 74))).toNat) ⟨0, by omega, sz, df, rfl, rfl, rfl, rfl, rfl, rfl, x74, Below.refl _ _⟩ ?_
    intro f8 w8 hI
    clear sz df x74 tb bl  x1 x3 x5 x7 x9 x11 m3 m5 m7
    obtain ⟨k, hk, sz, df, a1, a3, a5, a7, a9, a11, x74, hL⟩ := hI
    have c74 := x74
    have x1 : Fk.f (.eq (.int .i64 ((n : Nat) : Int))) (f8.eval (.tmp 1)) w8 := f_at a1 (Fk.mono _ _ _ _ xL1 hL)
    have x3 : Fk.f (.eq (.pointer (some ⟨g3, 0, none⟩))) (f8.eval (.tmp 3)) w8 := f_at a3 (Fk.mono _ _ _ _ xL3 hL)
    have x5 : Fk.f (.eq (.pointer (some ⟨g5, 0, none⟩))) (f8.eval (.tmp 5)) w8 := f_at a5 (Fk.mono _ _ _ _ xL5 hL)
    have x7 : Fk.f (.eq (.pointer (some ⟨g7, 0, none⟩))) (f8.eval (.tmp 7)) w8 := f_at a7 (Fk.mono _ _ _ _ xL7 hL)
    have x9 : Fk.f (.hs (S)) (f8.eval (.tmp 9)) w8 := f_at a9 (Fk.mono _ _ _ _ xL9 hL)
    have x11 : Fk.f (.hs (E)) (f8.eval (.tmp 11)) w8 := f_at a11 (Fk.mono _ _ _ _ xL11 hL)
    have m3 := HasV.below Lm3 hL (HasV.lt Lm3)
    have m5 := HasV.below Lm5 hL (HasV.lt Lm5)
    have m7 := HasV.below Lm7 hL (HasV.lt Lm7)
    have tb := tbL.below hL
    by_cases hlt : k < 256
    · obtain ⟨b, eb⟩ : ∃ b, bt h k = b := ⟨_, rfl⟩
      have hb1 : b ≤ 1 := by rw [← eb]; exact bt_le h k
      obtain ⟨z0, ez0⟩ : ∃ z, Box (sec seed ((n : Nat) : Int) ((67 + 2 * k + b : Nat) : Int) = z) := ⟨_, ⟨rfl⟩⟩
      have hz0 : z0.length = 32 := by rw [← ez0.out]; exact sec_len _ _ _
      have at0 : S[2 * k]? = some z0 := by rw [← eS.out, all_at _ _ (by omega), sgOf_even, eb]; exact congrArg some ez0.out
      obtain ⟨y1, ey1⟩ : ∃ z, Box (en (sc seed n k (1 - b)) k (1 - b) = z) := ⟨_, ⟨rfl⟩⟩
      have hy1 : y1.length = 32 := by rw [← ey1.out]; exact en_len _ _ _
      have at1 : S[2 * k + 1]? = some y1 := by rw [← eS.out, all_at _ _ (by omega), sgOf_odd, eb]; exact congrArg some ey1.out
      have at2 : E[2 * k + 1 - b]? = some y1 := by rw [← eE.out, all_at _ _ (by omega), show 2 * k + 1 - b = 2 * k + (1 - b) by omega, edOf_at _ _ _ _ (by omega)]; exact congrArg some ey1.out
      refine wp_seq ?_
      refine wp_all_seq [.eq (.bool true)] (by kernel_rfl) (by kernel_rfl) (by rw [sz]; kernel_rfl) (by kernel_rfl) ⟨fun hw ac w' K => ?_, trivial⟩ ?_
      · exact st_lss 3 (.tmp 74) (.const (.int .i64 256)) rfl .i64 (((k : Nat) : Int)) (256) ((K.old 74 rfl).trans x74) rfl _ (by simp; omega)
      intro f9 w9 A hb
      replace x1 : Fk.f (.eq (.int .i64 ((n : Nat) : Int))) (f9.eval (.tmp 1)) w9 := f_at (A.old 1 rfl) (Fk.mono _ _ _ _ x1 hb)
      replace x3 : Fk.f (.eq (.pointer (some ⟨g3, 0, none⟩))) (f9.eval (.tmp 3)) w9 := f_at (A.old 3 rfl) (Fk.mono _ _ _ _ x3 hb)
      replace x5 : Fk.f (.eq (.pointer (some ⟨g5, 0, none⟩))) (f9.eval (.tmp 5)) w9 := f_at (A.old 5 rfl) (Fk.mono _ _ _ _ x5 hb)
      replace x7 : Fk.f (.eq (.pointer (some ⟨g7, 0, none⟩))) (f9.eval (.tmp 7)) w9 := f_at (A.old 7 rfl) (Fk.mono _ _ _ _ x7 hb)
      replace x9 : Fk.f (.hs (S)) (f9.eval (.tmp 9)) w9 := f_at (A.old 9 rfl) (Fk.mono _ _ _ _ x9 hb)
      replace x11 : Fk.f (.hs (E)) (f9.eval (.tmp 11)) w9 := f_at (A.old 11 rfl) (Fk.mono _ _ _ _ x11 hb)
      replace x74 : Fk.f (.eq (.int .i64 ((k : Nat) : Int))) (f9.eval (.tmp 74)) w9 := f_at (A.old 74 rfl) (Fk.mono _ _ _ _ x74 hb)
      have x75 : Fk.f (.eq (.bool true)) (f9.eval (.tmp 75)) w9 := A.has 0 75 rfl
      replace m3 := HasV.below m3 hb (HasV.lt m3)
      replace m5 := HasV.below m5 hb (HasV.lt m5)
      replace m7 := HasV.below m7 hb (HasV.lt m7)
      replace tb := tb.below hb
      replace sz := A.size.trans sz
      replace df := A.defs.trans df
      replace a1 := (A.old 1 rfl).trans a1
      replace a3 := (A.old 3 rfl).trans a3
      replace a5 := (A.old 5 rfl).trans a5
      replace a7 := (A.old 7 rfl).trans a7
      replace a9 := (A.old 9 rfl).trans a9
      replace a11 := (A.old 11 rfl).trans a11
      replace hL := hL.trans (Below.mono hb hL.size)
      clear A hb
      show Code.wp _ _ _ _ _
      refine wp_seq ?_
      refine wp_cond_true x75 ?_
      refine wp_skip ?_
      show Code.wp _ _ _ _ _
      clear x75
      refine wp_seq ?_
      refine wp_block ?_
      refine wp_seq ?_
      refine wp_all_seq [.eq (.int .i64 ((k : Nat) : Int)), .eq (.int .i64 ((k : Nat) : Int))] (by kernel_rfl) (by kernel_rfl) (by rw [sz]; kernel_rfl) (by kernel_rfl) ⟨fun hw ac w' K => ?_, fun hw ac w' K => ?_, trivial⟩ ?_
      · exact st_move (.tmp 74) rfl ((K.old 74 rfl).trans x74)
      · exact st_assign (.tmp 76) rfl (K.dep 0 76 rfl)
      intro f10 w10 A hb
      replace x1 : Fk.f (.eq (.int .i64 ((n : Nat) : Int))) (f10.eval (.tmp 1)) w10 := f_at (A.old 1 rfl) (Fk.mono _ _ _ _ x1 hb)
      replace x3 : Fk.f (.eq (.pointer (some ⟨g3, 0, none⟩))) (f10.eval (.tmp 3)) w10 := f_at (A.old 3 rfl) (Fk.mono _ _ _ _ x3 hb)
      replace x5 : Fk.f (.eq (.pointer (some ⟨g5, 0, none⟩))) (f10.eval (.tmp 5)) w10 := f_at (A.old 5 rfl) (Fk.mono _ _ _ _ x5 hb)
      replace x7 : Fk.f (.eq (.pointer (some ⟨g7, 0, none⟩))) (f10.eval (.tmp 7)) w10 := f_at (A.old 7 rfl) (Fk.mono _ _ _ _ x7 hb)
      replace x9 : Fk.f (.hs (S)) (f10.eval (.tmp 9)) w10 := f_at (A.old 9 rfl) (Fk.mono _ _ _ _ x9 hb)
      replace x11 : Fk.f (.hs (E)) (f10.eval (.tmp 11)) w10 := f_at (A.old 11 rfl) (Fk.mono _ _ _ _ x11 hb)
      replace x74 : Fk.f (.eq (.int .i64 ((k : Nat) : Int))) (f10.eval (.tmp 74)) w10 := f_at (A.old 74 rfl) (Fk.mono _ _ _ _ x74 hb)
      have x12 : Fk.f (.eq (.int .i64 ((k : Nat) : Int))) (f10.eval (.tmp 12)) w10 := A.has 1 12 rfl
      replace m3 := HasV.below m3 hb (HasV.lt m3)
      replace m5 := HasV.below m5 hb (HasV.lt m5)
      replace m7 := HasV.below m7 hb (HasV.lt m7)
      replace tb := tb.below hb
      replace sz := A.size.trans sz
      replace df := A.defs.trans df
      replace a1 := (A.old 1 rfl).trans a1
      replace a3 := (A.old 3 rfl).trans a3
      replace a5 := (A.old 5 rfl).trans a5
      replace a7 := (A.old 7 rfl).trans a7
      replace a9 := (A.old 9 rfl).trans a9
      replace a11 := (A.old 11 rfl).trans a11
      replace hL := hL.trans (Below.mono hb hL.size)
      clear A hb
      show Code.wp _ _ _ _ _
      refine wp_seq ?_
      refine wp_all_seq [.eq (.agg ((h).map V).toArray), .eq (.int .i64 ((k : Nat) : Int)), .eq (.int .i64 ((b : Nat) : Int)), .eq (.int .i64 ((b : Nat) : Int))] (by kernel_rfl) (by kernel_rfl) (by rw [sz]; kernel_rfl) (by kernel_rfl) ⟨fun hw ac w' K => ?_, fun hw ac w' K => ?_, fun hw ac w' K => ?_, fun hw ac w' K => ?_, trivial⟩ ?_
      · exact st_load23 (.tmp 5) rfl _ (h) ((K.old 5 rfl).trans x5) hh (HasV.below m5 K.grow (HasV.lt m5))
      · exact st_move (.tmp 12) rfl ((K.old 12 rfl).trans x12)
      · exact st_call 11 (.func 11) _ _ #[.agg ((h).map V).toArray, .int .i64 ((k : Nat) : Int)] rfl rfl (arg2 (K.dep 0 77 rfl) (K.dep 1 78 rfl)) Tryd.enter11 (fk_of (ref_to (h) (k) _ hh (by omega) eb))
      · exact st_assign (.tmp 79) rfl (K.dep 2 79 rfl)
      intro f11 w11 A hb
      replace x1 : Fk.f (.eq (.int .i64 ((n : Nat) : Int))) (f11.eval (.tmp 1)) w11 := f_at (A.old 1 rfl) (Fk.mono _ _ _ _ x1 hb)
      replace x3 : Fk.f (.eq (.pointer (some ⟨g3, 0, none⟩))) (f11.eval (.tmp 3)) w11 := f_at (A.old 3 rfl) (Fk.mono _ _ _ _ x3 hb)
      replace x5 : Fk.f (.eq (.pointer (some ⟨g5, 0, none⟩))) (f11.eval (.tmp 5)) w11 := f_at (A.old 5 rfl) (Fk.mono _ _ _ _ x5 hb)
      replace x7 : Fk.f (.eq (.pointer (some ⟨g7, 0, none⟩))) (f11.eval (.tmp 7)) w11 := f_at (A.old 7 rfl) (Fk.mono _ _ _ _ x7 hb)
      replace x9 : Fk.f (.hs (S)) (f11.eval (.tmp 9)) w11 := f_at (A.old 9 rfl) (Fk.mono _ _ _ _ x9 hb)
      replace x11 : Fk.f (.hs (E)) (f11.eval (.tmp 11)) w11 := f_at (A.old 11 rfl) (Fk.mono _ _ _ _ x11 hb)
      replace x74 : Fk.f (.eq (.int .i64 ((k : Nat) : Int))) (f11.eval (.tmp 74)) w11 := f_at (A.old 74 rfl) (Fk.mono _ _ _ _ x74 hb)
      replace x12 : Fk.f (.eq (.int .i64 ((k : Nat) : Int))) (f11.eval (.tmp 12)) w11 := f_at (A.old 12 rfl) (Fk.mono _ _ _ _ x12 hb)
      have x13 : Fk.f (.eq (.int .i64 ((b : Nat) : Int))) (f11.eval (.tmp 13)) w11 := A.has 3 13 rfl
      replace m3 := HasV.below m3 hb (HasV.lt m3)
      replace m5 := HasV.below m5 hb (HasV.lt m5)
      replace m7 := HasV.below m7 hb (HasV.lt m7)
      replace tb := tb.below hb
      replace sz := A.size.trans sz
      replace df := A.defs.trans df
      replace a1 := (A.old 1 rfl).trans a1
      replace a3 := (A.old 3 rfl).trans a3
      replace a5 := (A.old 5 rfl).trans a5
      replace a7 := (A.old 7 rfl).trans a7
      replace a9 := (A.old 9 rfl).trans a9
      replace a11 := (A.old 11 rfl).trans a11
      replace hL := hL.trans (Below.mono hb hL.size)
      clear A hb
      show Code.wp _ _ _ _ _
      refine wp_seq ?_
      refine wp_all [.hs (S), .eq (.int .i64 ((k : Nat) : Int)), .eq (.int .i64 ((2 * k : Nat) : Int)), .ph (z0), .eq (.agg ((z0).map V).toArray), .eq (.agg ((seed).map V).toArray), .eq (.int .i64 ((n : Nat) : Int)), .eq (.int .i64 ((k : Nat) : Int)), .eq (.int .i64 ((2 * k : Nat) : Int)), .eq (.int .i64 ((67 + (2 * k) : Nat) : Int)), .eq (.int .i64 ((b : Nat) : Int)), .eq (.int .i64 (((67 + (2 * k)) + b : Nat) : Int)), .eq (.agg ((z0).map V).toArray), .eq (.bool false), .eq (.bool false), .hs (S), .eq (.int .i64 ((k : Nat) : Int)), .eq (.int .i64 ((2 * k : Nat) : Int)), .eq (.int .i64 (((2 * k) + 1 : Nat) : Int)), .ph (y1), .eq (.agg ((y1).map V).toArray), .hs (E), .eq (.int .i64 ((k : Nat) : Int)), .eq (.int .i64 ((2 * k : Nat) : Int)), .eq (.int .i64 (((2 * k) + 1 : Nat) : Int)), .eq (.int .i64 ((b : Nat) : Int)), .eq (.int .i64 ((((2 * k) + 1) - b : Nat) : Int)), .ph (y1), .eq (.agg ((y1).map V).toArray), .eq (.bool false), .eq (.bool false)] Tryd.mixed (by kernel_rfl) (by kernel_rfl) (by rw [sz]; kernel_rfl) (by kernel_rfl) ⟨fun hw ac w' K => ?_, fun hw ac w' K => ?_, fun hw ac w' K => ?_, fun hw ac w' K => ?_, fun hw ac w' K => ?_, fun hw ac w' K => ?_, fun hw ac w' K => ?_, fun hw ac w' K => ?_, fun hw ac w' K => ?_, fun hw ac w' K => ?_, fun hw ac w' K => ?_, fun hw ac w' K => ?_, fun hw ac w' K => ?_, fun hw ac w' K => ?_, fun hw ac w' K => ?_, fun hw ac w' K => ?_, fun hw ac w' K => ?_, fun hw ac w' K => ?_, fun hw ac w' K => ?_, fun hw ac w' K => ?_, fun hw ac w' K => ?_, fun hw ac w' K => ?_, fun hw ac w' K => ?_, fun hw ac w' K => ?_, fun hw ac w' K => ?_, fun hw ac w' K => ?_, fun hw ac w' K => ?_, fun hw ac w' K => ?_, fun hw ac w' K => ?_, fun hw ac w' K => ?_, fun hw ac w' K => ?_, trivial⟩ ?_
      · exact st_move (.tmp 9) rfl (f_at (K.old 9 rfl) (Fk.mono _ _ _ _ x9 K.grow))
      · exact st_move (.tmp 12) rfl ((K.old 12 rfl).trans x12)
      · exact st_mul (.const (.int .i64 2)) (.tmp 81) rfl (2) (k) (2 * k) rfl (K.dep 1 81 rfl) (by omega) (by omega)
      · exact st_idxh (.tmp 80) (.tmp 82) rfl (K.dep 0 80 rfl) (2 * k) (z0) (K.dep 2 82 rfl) at0
      · exact st_loadh (.tmp 83) rfl (K.dep 3 83 rfl)
      · exact st_load23 (.tmp 3) rfl _ (seed) ((K.old 3 rfl).trans x3) hx (HasV.below m3 K.grow (HasV.lt m3))
      · exact st_move (.tmp 1) rfl ((K.old 1 rfl).trans x1)
      · exact st_move (.tmp 12) rfl ((K.old 12 rfl).trans x12)
      · exact st_mul (.const (.int .i64 2)) (.tmp 87) rfl (2) (k) (2 * k) rfl (K.dep 7 87 rfl) (by omega) (by omega)
      · exact st_add (.const (.int .i64 67)) (.tmp 88) rfl (67) (2 * k) (67 + (2 * k)) rfl (K.dep 8 88 rfl) (by omega) (by omega)
      · exact st_move (.tmp 13) rfl ((K.old 13 rfl).trans x13)
      · exact st_add (.tmp 89) (.tmp 90) rfl (67 + (2 * k)) (b) ((67 + (2 * k)) + b) (K.dep 9 89 rfl) (K.dep 10 90 rfl) (by omega) (by omega)
      · exact st_call 12 (.func 12) _ _ #[.agg ((seed).map V).toArray, .int .i64 ((n : Nat) : Int), .int .i64 (((67 + (2 * k)) + b : Nat) : Int)] rfl rfl (arg3 (K.dep 5 85 rfl) (K.dep 6 86 rfl) (K.dep 11 91 rfl)) Tryd.enter12 (fk_of (sec_to (seed) (((n : Nat) : Int)) ((((67 + (2 * k)) + b : Nat) : Int)) _ hx (tb.below K.grow) ez0))
      · exact st_neqh (.tmp 84) (.tmp 92) rfl (z0) (z0) hz0 hz0 (K.dep 4 84 rfl) (K.dep 12 92 rfl) _ (by simp)
      · exact st_move (.tmp 93) rfl (K.dep 13 93 rfl)
      · exact st_move (.tmp 9) rfl (f_at (K.old 9 rfl) (Fk.mono _ _ _ _ x9 K.grow))
      · exact st_move (.tmp 12) rfl ((K.old 12 rfl).trans x12)
      · exact st_mul (.const (.int .i64 2)) (.tmp 96) rfl (2) (k) (2 * k) rfl (K.dep 16 96 rfl) (by omega) (by omega)
      · exact st_add1 (.tmp 97) rfl (2 * k) (by omega) (K.dep 17 97 rfl)
      · exact st_idxh (.tmp 95) (.tmp 98) rfl (K.dep 15 95 rfl) (2 * k + 1) (y1) (K.dep 18 98 rfl) at1
      · exact st_loadh (.tmp 99) rfl (K.dep 19 99 rfl)
      · exact st_move (.tmp 11) rfl (f_at (K.old 11 rfl) (Fk.mono _ _ _ _ x11 K.grow))
      · exact st_move (.tmp 12) rfl ((K.old 12 rfl).trans x12)
      · exact st_mul (.const (.int .i64 2)) (.tmp 102) rfl (2) (k) (2 * k) rfl (K.dep 22 102 rfl) (by omega) (by omega)
      · exact st_add1 (.tmp 103) rfl (2 * k) (by omega) (K.dep 23 103 rfl)
      · exact st_move (.tmp 13) rfl ((K.old 13 rfl).trans x13)
      · exact st_sub (.tmp 104) (.tmp 105) rfl ((2 * k) + 1) (b) (((2 * k) + 1) - b) (K.dep 24 104 rfl) (K.dep 25 105 rfl) (by omega) (by omega)
      · exact st_idxh (.tmp 101) (.tmp 106) rfl (K.dep 21 101 rfl) (2 * k + 1 - b) (y1) (K.dep 26 106 rfl) at2
      · exact st_loadh (.tmp 107) rfl (K.dep 27 107 rfl)
      · exact st_neqh (.tmp 100) (.tmp 108) rfl (y1) (y1) hy1 hy1 (K.dep 20 100 rfl) (K.dep 28 108 rfl) _ (by simp)
      · exact st_pick_f (.tmp 94) (.const (.bool true)) (.tmp 109) rfl (K.dep 14 94 rfl) (K.dep 29 109 rfl)
      intro f12 w12 A hb
      replace x1 : Fk.f (.eq (.int .i64 ((n : Nat) : Int))) (f12.eval (.tmp 1)) w12 := f_at (A.old 1 rfl) (Fk.mono _ _ _ _ x1 hb)
      replace x3 : Fk.f (.eq (.pointer (some ⟨g3, 0, none⟩))) (f12.eval (.tmp 3)) w12 := f_at (A.old 3 rfl) (Fk.mono _ _ _ _ x3 hb)
      replace x5 : Fk.f (.eq (.pointer (some ⟨g5, 0, none⟩))) (f12.eval (.tmp 5)) w12 := f_at (A.old 5 rfl) (Fk.mono _ _ _ _ x5 hb)
      replace x7 : Fk.f (.eq (.pointer (some ⟨g7, 0, none⟩))) (f12.eval (.tmp 7)) w12 := f_at (A.old 7 rfl) (Fk.mono _ _ _ _ x7 hb)
      replace x9 : Fk.f (.hs (S)) (f12.eval (.tmp 9)) w12 := f_at (A.old 9 rfl) (Fk.mono _ _ _ _ x9 hb)
      replace x11 : Fk.f (.hs (E)) (f12.eval (.tmp 11)) w12 := f_at (A.old 11 rfl) (Fk.mono _ _ _ _ x11 hb)
      replace x74 : Fk.f (.eq (.int .i64 ((k : Nat) : Int))) (f12.eval (.tmp 74)) w12 := f_at (A.old 74 rfl) (Fk.mono _ _ _ _ x74 hb)
      replace x12 : Fk.f (.eq (.int .i64 ((k : Nat) : Int))) (f12.eval (.tmp 12)) w12 := f_at (A.old 12 rfl) (Fk.mono _ _ _ _ x12 hb)
      replace x13 : Fk.f (.eq (.int .i64 ((b : Nat) : Int))) (f12.eval (.tmp 13)) w12 := f_at (A.old 13 rfl) (Fk.mono _ _ _ _ x13 hb)
      have x110 : Fk.f (.eq (.bool false)) (f12.eval (.tmp 110)) w12 := A.has 30 110 rfl
      replace m3 := HasV.below m3 hb (HasV.lt m3)
      replace m5 := HasV.below m5 hb (HasV.lt m5)
      replace m7 := HasV.below m7 hb (HasV.lt m7)
      replace tb := tb.below hb
      replace sz := A.size.trans sz
      replace df := A.defs.trans df
      replace a1 := (A.old 1 rfl).trans a1
      replace a3 := (A.old 3 rfl).trans a3
      replace a5 := (A.old 5 rfl).trans a5
      replace a7 := (A.old 7 rfl).trans a7
      replace a9 := (A.old 9 rfl).trans a9
      replace a11 := (A.old 11 rfl).trans a11
      replace hL := hL.trans (Below.mono hb hL.size)
      clear A hb
      show Code.wp _ _ _ _ _
      refine wp_cond_false x110 ?_
      refine wp_skip ?_
      show Code.wp _ _ _ _ _
      clear x110
      clear x12
      clear x13
      refine wp_region_seq [.eq (.int .i64 ((k + 1 : Nat) : Int))] (by kernel_rfl) (by kernel_rfl) (by rw [sz]; kernel_rfl) (by kernel_rfl) ⟨fun hw ac w' K => ?_, trivial⟩ ?_
      · exact st_add1 (.tmp 74) rfl k (by omega) ((K.old 74 rfl).trans x74)
      intro f13 w13 A hb
      replace x1 : Fk.f (.eq (.int .i64 ((n : Nat) : Int))) (f13.eval (.tmp 1)) w13 := f_at (A.old 1 rfl) (Fk.mono _ _ _ _ x1 hb)
      replace x3 : Fk.f (.eq (.pointer (some ⟨g3, 0, none⟩))) (f13.eval (.tmp 3)) w13 := f_at (A.old 3 rfl) (Fk.mono _ _ _ _ x3 hb)
      replace x5 : Fk.f (.eq (.pointer (some ⟨g5, 0, none⟩))) (f13.eval (.tmp 5)) w13 := f_at (A.old 5 rfl) (Fk.mono _ _ _ _ x5 hb)
      replace x7 : Fk.f (.eq (.pointer (some ⟨g7, 0, none⟩))) (f13.eval (.tmp 7)) w13 := f_at (A.old 7 rfl) (Fk.mono _ _ _ _ x7 hb)
      replace x9 : Fk.f (.hs (S)) (f13.eval (.tmp 9)) w13 := f_at (A.old 9 rfl) (Fk.mono _ _ _ _ x9 hb)
      replace x11 : Fk.f (.hs (E)) (f13.eval (.tmp 11)) w13 := f_at (A.old 11 rfl) (Fk.mono _ _ _ _ x11 hb)
      replace x74 : Fk.f (.eq (.int .i64 ((k : Nat) : Int))) (f13.eval (.tmp 74)) w13 := f_at (A.old 74 rfl) (Fk.mono _ _ _ _ x74 hb)
      have x111 : Fk.f (.eq (.int .i64 ((k + 1 : Nat) : Int))) (f13.eval (.tmp 111)) w13 := A.has 0 111 rfl
      replace m3 := HasV.below m3 hb (HasV.lt m3)
      replace m5 := HasV.below m5 hb (HasV.lt m5)
      replace m7 := HasV.below m7 hb (HasV.lt m7)
      replace tb := tb.below hb
      replace sz := A.size.trans sz
      replace df := A.defs.trans df
      replace a1 := (A.old 1 rfl).trans a1
      replace a3 := (A.old 3 rfl).trans a3
      replace a5 := (A.old 5 rfl).trans a5
      replace a7 := (A.old 7 rfl).trans a7
      replace a9 := (A.old 9 rfl).trans a9
      replace a11 := (A.old 11 rfl).trans a11
      replace hL := hL.trans (Below.mono hb hL.size)
      clear A hb
      refine wl_move rfl (.tmp 111) rfl 74 rfl (by rw [sz]; decide) ?_
      intro f14 df2 sz2 old2 new2
      have nx74 : Fk.f (.eq (.int .i64 ((k + 1 : Nat) : Int))) (f14.eval (.tmp 74)) w13 := f_at new2 x111
      replace x1 : Fk.f (.eq (.int .i64 ((n : Nat) : Int))) (f14.eval (.tmp 1)) w13 := f_at (old2 1 rfl) x1
      replace x3 : Fk.f (.eq (.pointer (some ⟨g3, 0, none⟩))) (f14.eval (.tmp 3)) w13 := f_at (old2 3 rfl) x3
      replace x5 : Fk.f (.eq (.pointer (some ⟨g5, 0, none⟩))) (f14.eval (.tmp 5)) w13 := f_at (old2 5 rfl) x5
      replace x7 : Fk.f (.eq (.pointer (some ⟨g7, 0, none⟩))) (f14.eval (.tmp 7)) w13 := f_at (old2 7 rfl) x7
      replace x9 : Fk.f (.hs (S)) (f14.eval (.tmp 9)) w13 := f_at (old2 9 rfl) x9
      replace x11 : Fk.f (.hs (E)) (f14.eval (.tmp 11)) w13 := f_at (old2 11 rfl) x11
      replace x111 : Fk.f (.eq (.int .i64 ((k + 1 : Nat) : Int))) (f14.eval (.tmp 111)) w13 := f_at (old2 111 rfl) x111
      have x74 := nx74
      replace sz := sz2.trans sz
      replace df := df2.trans df
      replace a1 := (old2 1 rfl).trans a1
      replace a3 := (old2 3 rfl).trans a3
      replace a5 := (old2 5 rfl).trans a5
      replace a7 := (old2 7 rfl).trans a7
      replace a9 := (old2 9 rfl).trans a9
      replace a11 := (old2 11 rfl).trans a11
      clear df2 sz2 old2 new2 nx74
      clear x111
      refine wpList_nil ?_
      show (∃ _, _) ∧ _
      refine ⟨⟨k + 1, by omega, sz, df, a1, a3, a5, a7, a9, a11, x74, hL⟩, ?_⟩
      rw [show f14.eval (.tmp 74) = _ from x74, show _ = _ from c74]
      simp [intOf]
      omega
    · refine wp_seq ?_
      refine wp_all_seq [.eq (.bool false)] (by kernel_rfl) (by kernel_rfl) (by rw [sz]; kernel_rfl) (by kernel_rfl) ⟨fun hw ac w' K => ?_, trivial⟩ ?_
      · exact st_lss 3 (.tmp 74) (.const (.int .i64 256)) rfl .i64 (((k : Nat) : Int)) (256) ((K.old 74 rfl).trans x74) rfl _ (by simp; omega)
      intro f9 w9 A hb
      replace x1 : Fk.f (.eq (.int .i64 ((n : Nat) : Int))) (f9.eval (.tmp 1)) w9 := f_at (A.old 1 rfl) (Fk.mono _ _ _ _ x1 hb)
      replace x3 : Fk.f (.eq (.pointer (some ⟨g3, 0, none⟩))) (f9.eval (.tmp 3)) w9 := f_at (A.old 3 rfl) (Fk.mono _ _ _ _ x3 hb)
      replace x5 : Fk.f (.eq (.pointer (some ⟨g5, 0, none⟩))) (f9.eval (.tmp 5)) w9 := f_at (A.old 5 rfl) (Fk.mono _ _ _ _ x5 hb)
      replace x7 : Fk.f (.eq (.pointer (some ⟨g7, 0, none⟩))) (f9.eval (.tmp 7)) w9 := f_at (A.old 7 rfl) (Fk.mono _ _ _ _ x7 hb)
      replace x9 : Fk.f (.hs (S)) (f9.eval (.tmp 9)) w9 := f_at (A.old 9 rfl) (Fk.mono _ _ _ _ x9 hb)
      replace x11 : Fk.f (.hs (E)) (f9.eval (.tmp 11)) w9 := f_at (A.old 11 rfl) (Fk.mono _ _ _ _ x11 hb)
      replace x74 : Fk.f (.eq (.int .i64 ((k : Nat) : Int))) (f9.eval (.tmp 74)) w9 := f_at (A.old 74 rfl) (Fk.mono _ _ _ _ x74 hb)
      have x75 : Fk.f (.eq (.bool false)) (f9.eval (.tmp 75)) w9 := A.has 0 75 rfl
      replace m3 := HasV.below m3 hb (HasV.lt m3)
      replace m5 := HasV.below m5 hb (HasV.lt m5)
      replace m7 := HasV.below m7 hb (HasV.lt m7)
      replace tb := tb.below hb
      replace sz := A.size.trans sz
      replace df := A.defs.trans df
      replace a1 := (A.old 1 rfl).trans a1
      replace a3 := (A.old 3 rfl).trans a3
      replace a5 := (A.old 5 rfl).trans a5
      replace a7 := (A.old 7 rfl).trans a7
      replace a9 := (A.old 9 rfl).trans a9
      replace a11 := (A.old 11 rfl).trans a11
      replace hL := hL.trans (Below.mono hb hL.size)
      clear A hb
      show Code.wp _ _ _ _ _
      refine wp_seq ?_
      refine wp_cond_false x75 ?_
      refine wp_exit ?_
      clear x75
      show Code.wp _ _ _ _ _
      refine wp_seq ?_
      have bl := blL.trans (Below.mono hL blL.size)
      refine wp_region_seq [.eq (.agg ((h).map V).toArray), .hs (S), .eq (.tuple #[.agg ((p).map V).toArray, .int .i64 0]), .eq (.tuple #[.agg ((p).map V).toArray, .int .i64 0]), .eq (.agg ((p).map V).toArray), .eq (.int .i64 0), .pn w9.heap.size hz] (by kernel_rfl) (by kernel_rfl) (by rw [sz]; kernel_rfl) (by kernel_rfl) ⟨fun hw ac w' K => ?_, fun hw ac w' K => ?_, fun hw ac w' K => ?_, fun hw ac w' K => ?_, fun hw ac w' K => ?_, fun hw ac w' K => ?_, fun hw ac w' K => ?_, trivial⟩ ?_
      · exact st_load23 (.tmp 5) rfl _ (h) ((K.old 5 rfl).trans x5) hh (HasV.below m5 K.grow (HasV.lt m5))
      · exact st_move (.tmp 9) rfl (f_at (K.old 9 rfl) (Fk.mono _ _ _ _ x9 K.grow))
      · exact st_call 13 (.func 13) _ _ #[.agg ((h).map V).toArray, ac.eval (.tmp 114)] rfl rfl (arg2 (K.dep 0 113 rfl) rfl) Tryd.enter13 (fk_recover_ok hh hSl (tb.below K.grow) (K.dep 1 114 rfl) eq)
      · exact st_move (.tmp 115) rfl (K.dep 2 115 rfl)
      · exact st_ext0 (.tmp 112) rfl (K.dep 3 112 rfl) rfl
      · exact st_ext1 (.tmp 112) rfl (K.dep 3 112 rfl) rfl
      · exact st_alloc23 rfl _ K.grow.size
      intro f10 w10 A hb
      obtain ⟨g14, hg14, e14, m14⟩ := A.has 6 14 rfl
      refine wl_store rfl (.tmp 14) (.tmp 116) rfl rfl g14 (p) hz e14 (A.has 4 116 rfl) m14 hz_len hpl ?_
      replace hb := Below.trans hb (below_setRow _ _ _ ((p).map V).toArray hg14)
      replace m14 : HasV (w10.setRow g14 ((p).map V).toArray) g14 23 (p) := HasV.setRow m14
      generalize w10.setRow g14 ((p).map V).toArray = w10b at hb m14 ⊢
      replace x1 : Fk.f (.eq (.int .i64 ((n : Nat) : Int))) (f10.eval (.tmp 1)) w10b := f_at (A.old 1 rfl) (Fk.mono _ _ _ _ x1 hb)
      replace x3 : Fk.f (.eq (.pointer (some ⟨g3, 0, none⟩))) (f10.eval (.tmp 3)) w10b := f_at (A.old 3 rfl) (Fk.mono _ _ _ _ x3 hb)
      replace x5 : Fk.f (.eq (.pointer (some ⟨g5, 0, none⟩))) (f10.eval (.tmp 5)) w10b := f_at (A.old 5 rfl) (Fk.mono _ _ _ _ x5 hb)
      replace x7 : Fk.f (.eq (.pointer (some ⟨g7, 0, none⟩))) (f10.eval (.tmp 7)) w10b := f_at (A.old 7 rfl) (Fk.mono _ _ _ _ x7 hb)
      replace x9 : Fk.f (.hs (S)) (f10.eval (.tmp 9)) w10b := f_at (A.old 9 rfl) (Fk.mono _ _ _ _ x9 hb)
      replace x11 : Fk.f (.hs (E)) (f10.eval (.tmp 11)) w10b := f_at (A.old 11 rfl) (Fk.mono _ _ _ _ x11 hb)
      replace x74 : Fk.f (.eq (.int .i64 ((k : Nat) : Int))) (f10.eval (.tmp 74)) w10b := f_at (A.old 74 rfl) (Fk.mono _ _ _ _ x74 hb)
      have x14 : Fk.f (.eq (.pointer (some ⟨g14, 0, none⟩))) (f10.eval (.tmp 14)) w10b := e14
      have x117 : Fk.f (.eq (.int .i64 0)) (f10.eval (.tmp 117)) w10b := A.has 5 117 rfl
      replace m3 := HasV.below m3 hb (HasV.lt m3)
      replace m5 := HasV.below m5 hb (HasV.lt m5)
      replace m7 := HasV.below m7 hb (HasV.lt m7)
      replace tb := tb.below hb
      replace bl := bl.trans (Below.mono hb bl.size)
      replace sz := A.size.trans sz
      replace df := A.defs.trans df
      clear A hb
      refine wl_assign rfl (.tmp 117) rfl 15 rfl (by rw [sz]; decide) ?_
      intro f11 df2 sz2 old2 new2
      have nx15 : Fk.f (.eq (.int .i64 0)) (f11.eval (.tmp 15)) w10b := f_at new2 x117
      replace x1 : Fk.f (.eq (.int .i64 ((n : Nat) : Int))) (f11.eval (.tmp 1)) w10b := f_at (old2 1 rfl) x1
      replace x3 : Fk.f (.eq (.pointer (some ⟨g3, 0, none⟩))) (f11.eval (.tmp 3)) w10b := f_at (old2 3 rfl) x3
      replace x5 : Fk.f (.eq (.pointer (some ⟨g5, 0, none⟩))) (f11.eval (.tmp 5)) w10b := f_at (old2 5 rfl) x5
      replace x7 : Fk.f (.eq (.pointer (some ⟨g7, 0, none⟩))) (f11.eval (.tmp 7)) w10b := f_at (old2 7 rfl) x7
      replace x9 : Fk.f (.hs (S)) (f11.eval (.tmp 9)) w10b := f_at (old2 9 rfl) x9
      replace x11 : Fk.f (.hs (E)) (f11.eval (.tmp 11)) w10b := f_at (old2 11 rfl) x11
      replace x74 : Fk.f (.eq (.int .i64 ((k : Nat) : Int))) (f11.eval (.tmp 74)) w10b := f_at (old2 74 rfl) x74
      replace x14 : Fk.f (.eq (.pointer (some ⟨g14, 0, none⟩))) (f11.eval (.tmp 14)) w10b := f_at (old2 14 rfl) x14
      replace x117 : Fk.f (.eq (.int .i64 0)) (f11.eval (.tmp 117)) w10b := f_at (old2 117 rfl) x117
      have x15 := nx15
      replace sz := sz2.trans sz
      replace df := df2.trans df
      clear df2 sz2 old2 new2 nx15
      refine wpList_nil ?_
      clear x117
      show Code.wp _ _ _ _ _
      refine wp_seq ?_
      refine wp_all_seq [.eq (.int .i64 0), .eq (.bool true), .eq (.bool true), .eq (.agg ((p).map V).toArray), .eq (.agg ((p).map V).toArray), .eq (.bool true), .eq (.bool true), .eq (.bool true), .eq (.bool true), .eq (.bool true), .eq (.bool true)] (by kernel_rfl) (by kernel_rfl) (by rw [sz]; kernel_rfl) (by kernel_rfl) ⟨fun hw ac w' K => ?_, fun hw ac w' K => ?_, fun hw ac w' K => ?_, fun hw ac w' K => ?_, fun hw ac w' K => ?_, fun hw ac w' K => ?_, fun hw ac w' K => ?_, fun hw ac w' K => ?_, fun hw ac w' K => ?_, fun hw ac w' K => ?_, fun hw ac w' K => ?_, trivial⟩ ?_
      · exact st_move (.tmp 15) rfl ((K.old 15 rfl).trans x15)
      · exact st_eqi 24 (.tmp 118) (.const (.int .i64 0)) rfl .i64 (0) (0) (K.dep 0 118 rfl) rfl _ (by rfl)
      · exact st_move (.tmp 119) rfl (K.dep 1 119 rfl)
      · exact st_load23 (.tmp 14) rfl _ (p) ((K.old 14 rfl).trans x14) hpl (HasV.below m14 K.grow (HasV.lt m14))
      · exact st_load23 (.tmp 7) rfl _ (p) ((K.old 7 rfl).trans x7) hpl (HasV.below m7 K.grow (HasV.lt m7))
      · exact st_eqh (.tmp 121) (.tmp 122) rfl (p) (p) hpl hpl (K.dep 3 121 rfl) (K.dep 4 122 rfl) _ (by simp)
      · exact st_pick_t (.tmp 120) (.tmp 123) (.const (.bool false)) rfl (K.dep 2 120 rfl) (K.dep 5 123 rfl)
      · exact st_move (.tmp 124) rfl (K.dep 6 124 rfl)
      · exact st_call 8 (.func 8) _ _ #[] rfl rfl rfl Tryd.enter8 (fk_of (awake_any _))
      · exact st_pick_t (.tmp 125) (.tmp 126) (.const (.bool false)) rfl (K.dep 7 125 rfl) (K.dep 8 126 rfl)
      · exact st_assign (.tmp 127) rfl (K.dep 9 127 rfl)
      intro f12 w12 A hb
      replace x1 : Fk.f (.eq (.int .i64 ((n : Nat) : Int))) (f12.eval (.tmp 1)) w12 := f_at (A.old 1 rfl) (Fk.mono _ _ _ _ x1 hb)
      replace x3 : Fk.f (.eq (.pointer (some ⟨g3, 0, none⟩))) (f12.eval (.tmp 3)) w12 := f_at (A.old 3 rfl) (Fk.mono _ _ _ _ x3 hb)
      replace x5 : Fk.f (.eq (.pointer (some ⟨g5, 0, none⟩))) (f12.eval (.tmp 5)) w12 := f_at (A.old 5 rfl) (Fk.mono _ _ _ _ x5 hb)
      replace x7 : Fk.f (.eq (.pointer (some ⟨g7, 0, none⟩))) (f12.eval (.tmp 7)) w12 := f_at (A.old 7 rfl) (Fk.mono _ _ _ _ x7 hb)
      replace x9 : Fk.f (.hs (S)) (f12.eval (.tmp 9)) w12 := f_at (A.old 9 rfl) (Fk.mono _ _ _ _ x9 hb)
      replace x11 : Fk.f (.hs (E)) (f12.eval (.tmp 11)) w12 := f_at (A.old 11 rfl) (Fk.mono _ _ _ _ x11 hb)
      replace x74 : Fk.f (.eq (.int .i64 ((k : Nat) : Int))) (f12.eval (.tmp 74)) w12 := f_at (A.old 74 rfl) (Fk.mono _ _ _ _ x74 hb)
      replace x14 : Fk.f (.eq (.pointer (some ⟨g14, 0, none⟩))) (f12.eval (.tmp 14)) w12 := f_at (A.old 14 rfl) (Fk.mono _ _ _ _ x14 hb)
      replace x15 : Fk.f (.eq (.int .i64 0)) (f12.eval (.tmp 15)) w12 := f_at (A.old 15 rfl) (Fk.mono _ _ _ _ x15 hb)
      have x6 : Fk.f (.eq (.bool true)) (f12.eval (.tmp 6)) w12 := A.has 10 6 rfl
      replace m3 := HasV.below m3 hb (HasV.lt m3)
      replace m5 := HasV.below m5 hb (HasV.lt m5)
      replace m7 := HasV.below m7 hb (HasV.lt m7)
      replace m14 := HasV.below m14 hb (HasV.lt m14)
      replace tb := tb.below hb
      replace bl := bl.trans (Below.mono hb bl.size)
      replace sz := A.size.trans sz
      replace df := A.defs.trans df
      clear A hb
      show Code.wp _ _ _ _ _
      refine wp_ret ?_
      exact bodyPost_ret (v := .bool true) (ret_slot rfl f12 _ x6 _ _) df ⟨rfl, bl⟩
end Go.Proofs.YtfhhlkbcoofemaaDoor
