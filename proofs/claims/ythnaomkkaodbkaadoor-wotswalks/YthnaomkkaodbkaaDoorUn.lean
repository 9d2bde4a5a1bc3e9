/- Made by gen_un.py. The walk of WotsWalks. -/
import Derived.Test.YthnaomkkaodbkaaDoorUm
namespace Go.Proofs.YthnaomkkaodbkaaDoor
open Go.RowKit
set_option maxHeartbeats 1000000 in
theorem walks_law (hs : List (BitVec 8)) (z a b c : Int) (w : World) (hx : hs.length = 32) (hK : Tab w) :
    Calls Tryd.prog 6 #[.agg (hs.map V).toArray, .int .i64 z, .agg #[.int .i64 a, .int .i64 b, .int .i64 c]] w fun e w' => e = .returned (.bool true) ∧ Below w.heap.size w w' := by
  go_enter Tryd.func6, Tryd.ntmps6
  go_upto_region 1 with fail
  rename_i KK hKK
  refine code_both (fun f w1 => f.tmps.size = 83 ∧ f.defers = [] ∧ Fk.f (.eq (.int .i64 z)) (f.eval (.tmp 1)) w1 ∧ Fk.f (.eq (.pointer (some ⟨w.heap.size, 0, none⟩))) (f.eval (.tmp 3)) w1 ∧ Fk.f (.eq (.pointer (some ⟨w.heap.size + 1, 0, none⟩))) (f.eval (.tmp 5)) w1 ∧ HasV w1 w.heap.size 23 hs ∧ w1.heap[w.heap.size + 1]? = some (.cells #[.int .i64 a, .int .i64 b, .int .i64 c] 42 (0, 0)) ∧ Below w.heap.size w w1) ?_ ?_
  · exact ⟨rfl, rfl, rfl, rfl, rfl, heap_alloc2_old _ _ _, heap_alloc2_new _ _ _, ((Below.refl _ _).alloc (Nat.le_refl _) _).alloc (by simp) _⟩
  rintro f0 w0 ⟨sz, df, x1, x3, x5, m3, hst, bl⟩
  have c0 : w0.cell? ⟨w.heap.size + 1, 0, none⟩ = some (.int .i64 a) := by rw [cell_of_row _ _ _ _ _ _ hst]; rfl
  have c1 : w0.cell? ⟨w.heap.size + 1, 1, none⟩ = some (.int .i64 b) := by rw [cell_of_row _ _ _ _ _ _ hst]; rfl
  have c2 : w0.cell? ⟨w.heap.size + 1, 2, none⟩ = some (.int .i64 c) := by rw [cell_of_row _ _ _ _ _ _ hst]; rfl
  have hlt5 : w.heap.size + 1 < w0.heap.size := block_lt_of_cell c0
  have tb := hK.below bl
  generalize w.heap.size + 1 = g5 at *
  have hg3 : ∃ g3, g3 = w.heap.size := ⟨_, rfl⟩
  obtain ⟨g3, hg3⟩ := hg3
  rw [← hg3] at x3 m3
  refine wp_all [.pi (a), .eq (.int .i64 (a)), .pi (b), .eq (.int .i64 (b)), .pi (c), .eq (.int .i64 (c)), .eq (.int .i64 (a)), .eq (.int .i64 (b)), .eq (.int .i64 (c))] Tryd.mixed (by kernel_rfl) (by kernel_rfl) (by rw [sz]; kernel_rfl) (by kernel_rfl) ⟨fun hw ac w' K => ?_, fun hw ac w' K => ?_, fun hw ac w' K => ?_, fun hw ac w' K => ?_, fun hw ac w' K => ?_, fun hw ac w' K => ?_, fun hw ac w' K => ?_, fun hw ac w' K => ?_, fun hw ac w' K => ?_, trivial⟩ ?_
  · exact st_field (.tmp 5) 0 rfl (by omega) g5 (a) ((K.old 5 rfl).trans x5) (by rw [K.grow.cell hlt5]; exact c0)
  · exact st_loadi (.tmp 11) rfl (K.dep 0 11 rfl)
  · exact st_field (.tmp 5) 1 rfl (by omega) g5 (b) ((K.old 5 rfl).trans x5) (by rw [K.grow.cell hlt5]; exact c1)
  · exact st_loadi (.tmp 13) rfl (K.dep 2 13 rfl)
  · exact st_field (.tmp 5) 2 rfl (by omega) g5 (c) ((K.old 5 rfl).trans x5) (by rw [K.grow.cell hlt5]; exact c2)
  · exact st_loadi (.tmp 15) rfl (K.dep 4 15 rfl)
  · exact st_assign (.tmp 12) rfl (K.dep 1 12 rfl)
  · exact st_assign (.tmp 14) rfl (K.dep 3 14 rfl)
  · exact st_assign (.tmp 16) rfl (K.dep 5 16 rfl)
  intro f1 w1 A hb
  replace x1 : Fk.f (.eq (.int .i64 z)) (f1.eval (.tmp 1)) w1 := f_at (A.old 1 rfl) (Fk.mono _ _ _ _ x1 hb)
  replace x3 : Fk.f (.eq (.pointer (some ⟨g3, 0, none⟩))) (f1.eval (.tmp 3)) w1 := f_at (A.old 3 rfl) (Fk.mono _ _ _ _ x3 hb)
  replace x5 : Fk.f (.eq (.pointer (some ⟨g5, 0, none⟩))) (f1.eval (.tmp 5)) w1 := f_at (A.old 5 rfl) (Fk.mono _ _ _ _ x5 hb)
  have x7 : Fk.f (.eq (.int .i64 (a))) (f1.eval (.tmp 7)) w1 := A.has 6 7 rfl
  have x8 : Fk.f (.eq (.int .i64 (b))) (f1.eval (.tmp 8)) w1 := A.has 7 8 rfl
  have x9 : Fk.f (.eq (.int .i64 (c))) (f1.eval (.tmp 9)) w1 := A.has 8 9 rfl
  replace m3 := HasV.below m3 hb (HasV.lt m3)
  replace tb := tb.below hb
  replace bl := bl.trans (Below.mono hb bl.size)
  replace sz := A.size.trans sz
  replace df := A.defs.trans df
  clear A hb
  clear x5
  clear c0 c1 c2 hst hlt5
  refine hKK _ _ ?_
  refine wp_seq ?_
  refine wp_seq ?_
  by_cases q0 : z < 0
  · refine wp_all_seq [.eq (.int .i64 z), .eq (.bool true), .eq (.bool true), .any, .any, .eq (.bool true), .eq (.bool true), .any, .any, .eq (.bool true), .eq (.bool true), .any, .any, .any, .eq (.bool true), .eq (.bool true), .any, .any, .any, .eq (.bool true), .eq (.bool true), .any, .any, .eq (.bool true)] (by kernel_rfl) (by kernel_rfl) (by rw [sz]; kernel_rfl) (by kernel_rfl) ⟨fun hw ac w' K => ?_, fun hw ac w' K => ?_, fun hw ac w' K => ?_, fun hw ac w' K => ?_, fun hw ac w' K => ?_, fun hw ac w' K => ?_, fun hw ac w' K => ?_, fun hw ac w' K => ?_, fun hw ac w' K => ?_, fun hw ac w' K => ?_, fun hw ac w' K => ?_, fun hw ac w' K => ?_, fun hw ac w' K => ?_, fun hw ac w' K => ?_, fun hw ac w' K => ?_, fun hw ac w' K => ?_, fun hw ac w' K => ?_, fun hw ac w' K => ?_, fun hw ac w' K => ?_, fun hw ac w' K => ?_, fun hw ac w' K => ?_, fun hw ac w' K => ?_, fun hw ac w' K => ?_, fun hw ac w' K => ?_, trivial⟩ ?_
    · exact st_move (.tmp 1) rfl ((K.old 1 rfl).trans x1)
    · exact st_lss 3 (.tmp 17) (.const (.int .i64 0)) rfl .i64 (z) (0) (K.dep 0 17 rfl) rfl _ (by simp; omega)
    · exact st_move (.tmp 18) rfl (K.dep 1 18 rfl)
    · exact (Bool.false_ne_true hw).elim
    · exact (Bool.false_ne_true hw).elim
    · exact st_pick_t (.tmp 19) (.const (.bool true)) (.tmp 21) rfl (K.dep 2 19 rfl) rfl
    · exact st_move (.tmp 22) rfl (K.dep 5 22 rfl)
    · exact (Bool.false_ne_true hw).elim
    · exact (Bool.false_ne_true hw).elim
    · exact st_pick_t (.tmp 23) (.const (.bool true)) (.tmp 25) rfl (K.dep 6 23 rfl) rfl
    · exact st_move (.tmp 26) rfl (K.dep 9 26 rfl)
    · exact (Bool.false_ne_true hw).elim
    · exact (Bool.false_ne_true hw).elim
    · exact (Bool.false_ne_true hw).elim
    · exact st_pick_t (.tmp 27) (.const (.bool true)) (.tmp 30) rfl (K.dep 10 27 rfl) rfl
    · exact st_move (.tmp 31) rfl (K.dep 14 31 rfl)
    · exact (Bool.false_ne_true hw).elim
    · exact (Bool.false_ne_true hw).elim
    · exact (Bool.false_ne_true hw).elim
    · exact st_pick_t (.tmp 32) (.const (.bool true)) (.tmp 35) rfl (K.dep 15 32 rfl) rfl
    · exact st_move (.tmp 36) rfl (K.dep 19 36 rfl)
    · exact (Bool.false_ne_true hw).elim
    · exact (Bool.false_ne_true hw).elim
    · exact st_pick_t (.tmp 37) (.const (.bool true)) (.tmp 39) rfl (K.dep 20 37 rfl) rfl
    intro f2 w2 A hb
    replace x1 : Fk.f (.eq (.int .i64 z)) (f2.eval (.tmp 1)) w2 := f_at (A.old 1 rfl) (Fk.mono _ _ _ _ x1 hb)
    replace x3 : Fk.f (.eq (.pointer (some ⟨g3, 0, none⟩))) (f2.eval (.tmp 3)) w2 := f_at (A.old 3 rfl) (Fk.mono _ _ _ _ x3 hb)
    replace x7 : Fk.f (.eq (.int .i64 (a))) (f2.eval (.tmp 7)) w2 := f_at (A.old 7 rfl) (Fk.mono _ _ _ _ x7 hb)
    replace x8 : Fk.f (.eq (.int .i64 (b))) (f2.eval (.tmp 8)) w2 := f_at (A.old 8 rfl) (Fk.mono _ _ _ _ x8 hb)
    replace x9 : Fk.f (.eq (.int .i64 (c))) (f2.eval (.tmp 9)) w2 := f_at (A.old 9 rfl) (Fk.mono _ _ _ _ x9 hb)
    have x40 : Fk.f (.eq (.bool true)) (f2.eval (.tmp 40)) w2 := A.has 23 40 rfl
    replace m3 := HasV.below m3 hb (HasV.lt m3)
    replace tb := tb.below hb
    replace bl := bl.trans (Below.mono hb bl.size)
    replace sz := A.size.trans sz
    replace df := A.defs.trans df
    clear A hb
    show Code.wp _ _ _ _ _
    refine wp_cond_true x40 ?_
    refine wp_seq ?_
    refine wp_all_seq [.eq (.bool true), .eq (.bool true)] (by kernel_rfl) (by kernel_rfl) (by rw [sz]; kernel_rfl) (by kernel_rfl) ⟨fun hw ac w' K => ?_, fun hw ac w' K => ?_, trivial⟩ ?_
    · exact st_call 10 (.func 10) _ _ #[] rfl rfl rfl Tryd.enter10 (fk_of (awake_any _ (tb.below K.grow)))
    · exact st_assign (.tmp 41) rfl (K.dep 0 41 rfl)
    intro f3 w3 A hb
    replace x1 : Fk.f (.eq (.int .i64 z)) (f3.eval (.tmp 1)) w3 := f_at (A.old 1 rfl) (Fk.mono _ _ _ _ x1 hb)
    replace x3 : Fk.f (.eq (.pointer (some ⟨g3, 0, none⟩))) (f3.eval (.tmp 3)) w3 := f_at (A.old 3 rfl) (Fk.mono _ _ _ _ x3 hb)
    replace x7 : Fk.f (.eq (.int .i64 (a))) (f3.eval (.tmp 7)) w3 := f_at (A.old 7 rfl) (Fk.mono _ _ _ _ x7 hb)
    replace x8 : Fk.f (.eq (.int .i64 (b))) (f3.eval (.tmp 8)) w3 := f_at (A.old 8 rfl) (Fk.mono _ _ _ _ x8 hb)
    replace x9 : Fk.f (.eq (.int .i64 (c))) (f3.eval (.tmp 9)) w3 := f_at (A.old 9 rfl) (Fk.mono _ _ _ _ x9 hb)
    replace x40 : Fk.f (.eq (.bool true)) (f3.eval (.tmp 40)) w3 := f_at (A.old 40 rfl) (Fk.mono _ _ _ _ x40 hb)
    have x6 : Fk.f (.eq (.bool true)) (f3.eval (.tmp 6)) w3 := A.has 1 6 rfl
    replace m3 := HasV.below m3 hb (HasV.lt m3)
    replace tb := tb.below hb
    replace bl := bl.trans (Below.mono hb bl.size)
    replace sz := A.size.trans sz
    replace df := A.defs.trans df
    clear A hb
    show Code.wp _ _ _ _ _
    refine wp_ret (then_ret ?_)
    exact bodyPost_ret (v := .bool true) (ret_slot rfl f3 _ x6 _ _) df ⟨rfl, bl⟩
  by_cases q1 : 66 < z
  · refine wp_all_seq [.eq (.int .i64 z), .eq (.bool false), .eq (.bool false), .eq (.int .i64 z), .eq (.bool true), .eq (.bool true), .eq (.bool true), .any, .any, .eq (.bool true), .eq (.bool true), .any, .any, .any, .eq (.bool true), .eq (.bool true), .any, .any, .any, .eq (.bool true), .eq (.bool true), .any, .any, .eq (.bool true)] (by kernel_rfl) (by kernel_rfl) (by rw [sz]; kernel_rfl) (by kernel_rfl) ⟨fun hw ac w' K => ?_, fun hw ac w' K => ?_, fun hw ac w' K => ?_, fun hw ac w' K => ?_, fun hw ac w' K => ?_, fun hw ac w' K => ?_, fun hw ac w' K => ?_, fun hw ac w' K => ?_, fun hw ac w' K => ?_, fun hw ac w' K => ?_, fun hw ac w' K => ?_, fun hw ac w' K => ?_, fun hw ac w' K => ?_, fun hw ac w' K => ?_, fun hw ac w' K => ?_, fun hw ac w' K => ?_, fun hw ac w' K => ?_, fun hw ac w' K => ?_, fun hw ac w' K => ?_, fun hw ac w' K => ?_, fun hw ac w' K => ?_, fun hw ac w' K => ?_, fun hw ac w' K => ?_, fun hw ac w' K => ?_, trivial⟩ ?_
    · exact st_move (.tmp 1) rfl ((K.old 1 rfl).trans x1)
    · exact st_lss 3 (.tmp 17) (.const (.int .i64 0)) rfl .i64 (z) (0) (K.dep 0 17 rfl) rfl _ (by simp; omega)
    · exact st_move (.tmp 18) rfl (K.dep 1 18 rfl)
    · exact st_move (.tmp 1) rfl ((K.old 1 rfl).trans x1)
    · exact st_gtr 3 (.tmp 20) (.const (.int .i64 66)) rfl .i64 (z) (66) (K.dep 3 20 rfl) rfl _ (by simp; omega)
    · exact st_pick_f (.tmp 19) (.const (.bool true)) (.tmp 21) rfl (K.dep 2 19 rfl) (K.dep 4 21 rfl)
    · exact st_move (.tmp 22) rfl (K.dep 5 22 rfl)
    · exact (Bool.false_ne_true hw).elim
    · exact (Bool.false_ne_true hw).elim
    · exact st_pick_t (.tmp 23) (.const (.bool true)) (.tmp 25) rfl (K.dep 6 23 rfl) rfl
    · exact st_move (.tmp 26) rfl (K.dep 9 26 rfl)
    · exact (Bool.false_ne_true hw).elim
    · exact (Bool.false_ne_true hw).elim
    · exact (Bool.false_ne_true hw).elim
    · exact st_pick_t (.tmp 27) (.const (.bool true)) (.tmp 30) rfl (K.dep 10 27 rfl) rfl
    · exact st_move (.tmp 31) rfl (K.dep 14 31 rfl)
    · exact (Bool.false_ne_true hw).elim
    · exact (Bool.false_ne_true hw).elim
    · exact (Bool.false_ne_true hw).elim
    · exact st_pick_t (.tmp 32) (.const (.bool true)) (.tmp 35) rfl (K.dep 15 32 rfl) rfl
    · exact st_move (.tmp 36) rfl (K.dep 19 36 rfl)
    · exact (Bool.false_ne_true hw).elim
    · exact (Bool.false_ne_true hw).elim
    · exact st_pick_t (.tmp 37) (.const (.bool true)) (.tmp 39) rfl (K.dep 20 37 rfl) rfl
    intro f2 w2 A hb
    replace x1 : Fk.f (.eq (.int .i64 z)) (f2.eval (.tmp 1)) w2 := f_at (A.old 1 rfl) (Fk.mono _ _ _ _ x1 hb)
    replace x3 : Fk.f (.eq (.pointer (some ⟨g3, 0, none⟩))) (f2.eval (.tmp 3)) w2 := f_at (A.old 3 rfl) (Fk.mono _ _ _ _ x3 hb)
    replace x7 : Fk.f (.eq (.int .i64 (a))) (f2.eval (.tmp 7)) w2 := f_at (A.old 7 rfl) (Fk.mono _ _ _ _ x7 hb)
    replace x8 : Fk.f (.eq (.int .i64 (b))) (f2.eval (.tmp 8)) w2 := f_at (A.old 8 rfl) (Fk.mono _ _ _ _ x8 hb)
    replace x9 : Fk.f (.eq (.int .i64 (c))) (f2.eval (.tmp 9)) w2 := f_at (A.old 9 rfl) (Fk.mono _ _ _ _ x9 hb)
    have x40 : Fk.f (.eq (.bool true)) (f2.eval (.tmp 40)) w2 := A.has 23 40 rfl
    replace m3 := HasV.below m3 hb (HasV.lt m3)
    replace tb := tb.below hb
    replace bl := bl.trans (Below.mono hb bl.size)
    replace sz := A.size.trans sz
    replace df := A.defs.trans df
    clear A hb
    show Code.wp _ _ _ _ _
    refine wp_cond_true x40 ?_
    refine wp_seq ?_
    refine wp_all_seq [.eq (.bool true), .eq (.bool true)] (by kernel_rfl) (by kernel_rfl) (by rw [sz]; kernel_rfl) (by kernel_rfl) ⟨fun hw ac w' K => ?_, fun hw ac w' K => ?_, trivial⟩ ?_
    · exact st_call 10 (.func 10) _ _ #[] rfl rfl rfl Tryd.enter10 (fk_of (awake_any _ (tb.below K.grow)))
    · exact st_assign (.tmp 41) rfl (K.dep 0 41 rfl)
    intro f3 w3 A hb
    replace x1 : Fk.f (.eq (.int .i64 z)) (f3.eval (.tmp 1)) w3 := f_at (A.old 1 rfl) (Fk.mono _ _ _ _ x1 hb)
    replace x3 : Fk.f (.eq (.pointer (some ⟨g3, 0, none⟩))) (f3.eval (.tmp 3)) w3 := f_at (A.old 3 rfl) (Fk.mono _ _ _ _ x3 hb)
    replace x7 : Fk.f (.eq (.int .i64 (a))) (f3.eval (.tmp 7)) w3 := f_at (A.old 7 rfl) (Fk.mono _ _ _ _ x7 hb)
    replace x8 : Fk.f (.eq (.int .i64 (b))) (f3.eval (.tmp 8)) w3 := f_at (A.old 8 rfl) (Fk.mono _ _ _ _ x8 hb)
    replace x9 : Fk.f (.eq (.int .i64 (c))) (f3.eval (.tmp 9)) w3 := f_at (A.old 9 rfl) (Fk.mono _ _ _ _ x9 hb)
    replace x40 : Fk.f (.eq (.bool true)) (f3.eval (.tmp 40)) w3 := f_at (A.old 40 rfl) (Fk.mono _ _ _ _ x40 hb)
    have x6 : Fk.f (.eq (.bool true)) (f3.eval (.tmp 6)) w3 := A.has 1 6 rfl
    replace m3 := HasV.below m3 hb (HasV.lt m3)
    replace tb := tb.below hb
    replace bl := bl.trans (Below.mono hb bl.size)
    replace sz := A.size.trans sz
    replace df := A.defs.trans df
    clear A hb
    show Code.wp _ _ _ _ _
    refine wp_ret (then_ret ?_)
    exact bodyPost_ret (v := .bool true) (ret_slot rfl f3 _ x6 _ _) df ⟨rfl, bl⟩
  by_cases q2 : a < 0
  · refine wp_all_seq [.eq (.int .i64 z), .eq (.bool false), .eq (.bool false), .eq (.int .i64 z), .eq (.bool false), .eq (.bool false), .eq (.bool false), .eq (.int .i64 (a)), .eq (.bool true), .eq (.bool true), .eq (.bool true), .any, .any, .any, .eq (.bool true), .eq (.bool true), .any, .any, .any, .eq (.bool true), .eq (.bool true), .any, .any, .eq (.bool true)] (by kernel_rfl) (by kernel_rfl) (by rw [sz]; kernel_rfl) (by kernel_rfl) ⟨fun hw ac w' K => ?_, fun hw ac w' K => ?_, fun hw ac w' K => ?_, fun hw ac w' K => ?_, fun hw ac w' K => ?_, fun hw ac w' K => ?_, fun hw ac w' K => ?_, fun hw ac w' K => ?_, fun hw ac w' K => ?_, fun hw ac w' K => ?_, fun hw ac w' K => ?_, fun hw ac w' K => ?_, fun hw ac w' K => ?_, fun hw ac w' K => ?_, fun hw ac w' K => ?_, fun hw ac w' K => ?_, fun hw ac w' K => ?_, fun hw ac w' K => ?_, fun hw ac w' K => ?_, fun hw ac w' K => ?_, fun hw ac w' K => ?_, fun hw ac w' K => ?_, fun hw ac w' K => ?_, fun hw ac w' K => ?_, trivial⟩ ?_
    · exact st_move (.tmp 1) rfl ((K.old 1 rfl).trans x1)
    · exact st_lss 3 (.tmp 17) (.const (.int .i64 0)) rfl .i64 (z) (0) (K.dep 0 17 rfl) rfl _ (by simp; omega)
    · exact st_move (.tmp 18) rfl (K.dep 1 18 rfl)
    · exact st_move (.tmp 1) rfl ((K.old 1 rfl).trans x1)
    · exact st_gtr 3 (.tmp 20) (.const (.int .i64 66)) rfl .i64 (z) (66) (K.dep 3 20 rfl) rfl _ (by simp; omega)
    · exact st_pick_f (.tmp 19) (.const (.bool true)) (.tmp 21) rfl (K.dep 2 19 rfl) (K.dep 4 21 rfl)
    · exact st_move (.tmp 22) rfl (K.dep 5 22 rfl)
    · exact st_move (.tmp 7) rfl ((K.old 7 rfl).trans x7)
    · exact st_lss 3 (.tmp 24) (.const (.int .i64 0)) rfl .i64 ((a)) (0) (K.dep 7 24 rfl) rfl _ (by simp; omega)
    · exact st_pick_f (.tmp 23) (.const (.bool true)) (.tmp 25) rfl (K.dep 6 23 rfl) (K.dep 8 25 rfl)
    · exact st_move (.tmp 26) rfl (K.dep 9 26 rfl)
    · exact (Bool.false_ne_true hw).elim
    · exact (Bool.false_ne_true hw).elim
    · exact (Bool.false_ne_true hw).elim
    · exact st_pick_t (.tmp 27) (.const (.bool true)) (.tmp 30) rfl (K.dep 10 27 rfl) rfl
    · exact st_move (.tmp 31) rfl (K.dep 14 31 rfl)
    · exact (Bool.false_ne_true hw).elim
    · exact (Bool.false_ne_true hw).elim
    · exact (Bool.false_ne_true hw).elim
    · exact st_pick_t (.tmp 32) (.const (.bool true)) (.tmp 35) rfl (K.dep 15 32 rfl) rfl
    · exact st_move (.tmp 36) rfl (K.dep 19 36 rfl)
    · exact (Bool.false_ne_true hw).elim
    · exact (Bool.false_ne_true hw).elim
    · exact st_pick_t (.tmp 37) (.const (.bool true)) (.tmp 39) rfl (K.dep 20 37 rfl) rfl
    intro f2 w2 A hb
    replace x1 : Fk.f (.eq (.int .i64 z)) (f2.eval (.tmp 1)) w2 := f_at (A.old 1 rfl) (Fk.mono _ _ _ _ x1 hb)
    replace x3 : Fk.f (.eq (.pointer (some ⟨g3, 0, none⟩))) (f2.eval (.tmp 3)) w2 := f_at (A.old 3 rfl) (Fk.mono _ _ _ _ x3 hb)
    replace x7 : Fk.f (.eq (.int .i64 (a))) (f2.eval (.tmp 7)) w2 := f_at (A.old 7 rfl) (Fk.mono _ _ _ _ x7 hb)
    replace x8 : Fk.f (.eq (.int .i64 (b))) (f2.eval (.tmp 8)) w2 := f_at (A.old 8 rfl) (Fk.mono _ _ _ _ x8 hb)
    replace x9 : Fk.f (.eq (.int .i64 (c))) (f2.eval (.tmp 9)) w2 := f_at (A.old 9 rfl) (Fk.mono _ _ _ _ x9 hb)
    have x40 : Fk.f (.eq (.bool true)) (f2.eval (.tmp 40)) w2 := A.has 23 40 rfl
    replace m3 := HasV.below m3 hb (HasV.lt m3)
    replace tb := tb.below hb
    replace bl := bl.trans (Below.mono hb bl.size)
    replace sz := A.size.trans sz
    replace df := A.defs.trans df
    clear A hb
    show Code.wp _ _ _ _ _
    refine wp_cond_true x40 ?_
    refine wp_seq ?_
    refine wp_all_seq [.eq (.bool true), .eq (.bool true)] (by kernel_rfl) (by kernel_rfl) (by rw [sz]; kernel_rfl) (by kernel_rfl) ⟨fun hw ac w' K => ?_, fun hw ac w' K => ?_, trivial⟩ ?_
    · exact st_call 10 (.func 10) _ _ #[] rfl rfl rfl Tryd.enter10 (fk_of (awake_any _ (tb.below K.grow)))
    · exact st_assign (.tmp 41) rfl (K.dep 0 41 rfl)
    intro f3 w3 A hb
    replace x1 : Fk.f (.eq (.int .i64 z)) (f3.eval (.tmp 1)) w3 := f_at (A.old 1 rfl) (Fk.mono _ _ _ _ x1 hb)
    replace x3 : Fk.f (.eq (.pointer (some ⟨g3, 0, none⟩))) (f3.eval (.tmp 3)) w3 := f_at (A.old 3 rfl) (Fk.mono _ _ _ _ x3 hb)
    replace x7 : Fk.f (.eq (.int .i64 (a))) (f3.eval (.tmp 7)) w3 := f_at (A.old 7 rfl) (Fk.mono _ _ _ _ x7 hb)
    replace x8 : Fk.f (.eq (.int .i64 (b))) (f3.eval (.tmp 8)) w3 := f_at (A.old 8 rfl) (Fk.mono _ _ _ _ x8 hb)
    replace x9 : Fk.f (.eq (.int .i64 (c))) (f3.eval (.tmp 9)) w3 := f_at (A.old 9 rfl) (Fk.mono _ _ _ _ x9 hb)
    replace x40 : Fk.f (.eq (.bool true)) (f3.eval (.tmp 40)) w3 := f_at (A.old 40 rfl) (Fk.mono _ _ _ _ x40 hb)
    have x6 : Fk.f (.eq (.bool true)) (f3.eval (.tmp 6)) w3 := A.has 1 6 rfl
    replace m3 := HasV.below m3 hb (HasV.lt m3)
    replace tb := tb.below hb
    replace bl := bl.trans (Below.mono hb bl.size)
    replace sz := A.size.trans sz
    replace df := A.defs.trans df
    clear A hb
    show Code.wp _ _ _ _ _
    refine wp_ret (then_ret ?_)
    exact bodyPost_ret (v := .bool true) (ret_slot rfl f3 _ x6 _ _) df ⟨rfl, bl⟩
  by_cases q3 : b < a
  · refine wp_all_seq [.eq (.int .i64 z), .eq (.bool false), .eq (.bool false), .eq (.int .i64 z), .eq (.bool false), .eq (.bool false), .eq (.bool false), .eq (.int .i64 (a)), .eq (.bool false), .eq (.bool false), .eq (.bool false), .eq (.int .i64 (a)), .eq (.int .i64 (b)), .eq (.bool true), .eq (.bool true), .eq (.bool true), .any, .any, .any, .eq (.bool true), .eq (.bool true), .any, .any, .eq (.bool true)] (by kernel_rfl) (by kernel_rfl) (by rw [sz]; kernel_rfl) (by kernel_rfl) ⟨fun hw ac w' K => ?_, fun hw ac w' K => ?_, fun hw ac w' K => ?_, fun hw ac w' K => ?_, fun hw ac w' K => ?_, fun hw ac w' K => ?_, fun hw ac w' K => ?_, fun hw ac w' K => ?_, fun hw ac w' K => ?_, fun hw ac w' K => ?_, fun hw ac w' K => ?_, fun hw ac w' K => ?_, fun hw ac w' K => ?_, fun hw ac w' K => ?_, fun hw ac w' K => ?_, fun hw ac w' K => ?_, fun hw ac w' K => ?_, fun hw ac w' K => ?_, fun hw ac w' K => ?_, fun hw ac w' K => ?_, fun hw ac w' K => ?_, fun hw ac w' K => ?_, fun hw ac w' K => ?_, fun hw ac w' K => ?_, trivial⟩ ?_
    · exact st_move (.tmp 1) rfl ((K.old 1 rfl).trans x1)
    · exact st_lss 3 (.tmp 17) (.const (.int .i64 0)) rfl .i64 (z) (0) (K.dep 0 17 rfl) rfl _ (by simp; omega)
    · exact st_move (.tmp 18) rfl (K.dep 1 18 rfl)
    · exact st_move (.tmp 1) rfl ((K.old 1 rfl).trans x1)
    · exact st_gtr 3 (.tmp 20) (.const (.int .i64 66)) rfl .i64 (z) (66) (K.dep 3 20 rfl) rfl _ (by simp; omega)
    · exact st_pick_f (.tmp 19) (.const (.bool true)) (.tmp 21) rfl (K.dep 2 19 rfl) (K.dep 4 21 rfl)
    · exact st_move (.tmp 22) rfl (K.dep 5 22 rfl)
    · exact st_move (.tmp 7) rfl ((K.old 7 rfl).trans x7)
    · exact st_lss 3 (.tmp 24) (.const (.int .i64 0)) rfl .i64 ((a)) (0) (K.dep 7 24 rfl) rfl _ (by simp; omega)
    · exact st_pick_f (.tmp 23) (.const (.bool true)) (.tmp 25) rfl (K.dep 6 23 rfl) (K.dep 8 25 rfl)
    · exact st_move (.tmp 26) rfl (K.dep 9 26 rfl)
    · exact st_move (.tmp 7) rfl ((K.old 7 rfl).trans x7)
    · exact st_move (.tmp 8) rfl ((K.old 8 rfl).trans x8)
    · exact st_gtr 3 (.tmp 28) (.tmp 29) rfl .i64 ((a)) ((b)) (K.dep 11 28 rfl) (K.dep 12 29 rfl) _ (by simp; omega)
    · exact st_pick_f (.tmp 27) (.const (.bool true)) (.tmp 30) rfl (K.dep 10 27 rfl) (K.dep 13 30 rfl)
    · exact st_move (.tmp 31) rfl (K.dep 14 31 rfl)
    · exact (Bool.false_ne_true hw).elim
    · exact (Bool.false_ne_true hw).elim
    · exact (Bool.false_ne_true hw).elim
    · exact st_pick_t (.tmp 32) (.const (.bool true)) (.tmp 35) rfl (K.dep 15 32 rfl) rfl
    · exact st_move (.tmp 36) rfl (K.dep 19 36 rfl)
    · exact (Bool.false_ne_true hw).elim
    · exact (Bool.false_ne_true hw).elim
    · exact st_pick_t (.tmp 37) (.const (.bool true)) (.tmp 39) rfl (K.dep 20 37 rfl) rfl
    intro f2 w2 A hb
    replace x1 : Fk.f (.eq (.int .i64 z)) (f2.eval (.tmp 1)) w2 := f_at (A.old 1 rfl) (Fk.mono _ _ _ _ x1 hb)
    replace x3 : Fk.f (.eq (.pointer (some ⟨g3, 0, none⟩))) (f2.eval (.tmp 3)) w2 := f_at (A.old 3 rfl) (Fk.mono _ _ _ _ x3 hb)
    replace x7 : Fk.f (.eq (.int .i64 (a))) (f2.eval (.tmp 7)) w2 := f_at (A.old 7 rfl) (Fk.mono _ _ _ _ x7 hb)
    replace x8 : Fk.f (.eq (.int .i64 (b))) (f2.eval (.tmp 8)) w2 := f_at (A.old 8 rfl) (Fk.mono _ _ _ _ x8 hb)
    replace x9 : Fk.f (.eq (.int .i64 (c))) (f2.eval (.tmp 9)) w2 := f_at (A.old 9 rfl) (Fk.mono _ _ _ _ x9 hb)
    have x40 : Fk.f (.eq (.bool true)) (f2.eval (.tmp 40)) w2 := A.has 23 40 rfl
    replace m3 := HasV.below m3 hb (HasV.lt m3)
    replace tb := tb.below hb
    replace bl := bl.trans (Below.mono hb bl.size)
    replace sz := A.size.trans sz
    replace df := A.defs.trans df
    clear A hb
    show Code.wp _ _ _ _ _
    refine wp_cond_true x40 ?_
    refine wp_seq ?_
    refine wp_all_seq [.eq (.bool true), .eq (.bool true)] (by kernel_rfl) (by kernel_rfl) (by rw [sz]; kernel_rfl) (by kernel_rfl) ⟨fun hw ac w' K => ?_, fun hw ac w' K => ?_, trivial⟩ ?_
    · exact st_call 10 (.func 10) _ _ #[] rfl rfl rfl Tryd.enter10 (fk_of (awake_any _ (tb.below K.grow)))
    · exact st_assign (.tmp 41) rfl (K.dep 0 41 rfl)
    intro f3 w3 A hb
    replace x1 : Fk.f (.eq (.int .i64 z)) (f3.eval (.tmp 1)) w3 := f_at (A.old 1 rfl) (Fk.mono _ _ _ _ x1 hb)
    replace x3 : Fk.f (.eq (.pointer (some ⟨g3, 0, none⟩))) (f3.eval (.tmp 3)) w3 := f_at (A.old 3 rfl) (Fk.mono _ _ _ _ x3 hb)
    replace x7 : Fk.f (.eq (.int .i64 (a))) (f3.eval (.tmp 7)) w3 := f_at (A.old 7 rfl) (Fk.mono _ _ _ _ x7 hb)
    replace x8 : Fk.f (.eq (.int .i64 (b))) (f3.eval (.tmp 8)) w3 := f_at (A.old 8 rfl) (Fk.mono _ _ _ _ x8 hb)
    replace x9 : Fk.f (.eq (.int .i64 (c))) (f3.eval (.tmp 9)) w3 := f_at (A.old 9 rfl) (Fk.mono _ _ _ _ x9 hb)
    replace x40 : Fk.f (.eq (.bool true)) (f3.eval (.tmp 40)) w3 := f_at (A.old 40 rfl) (Fk.mono _ _ _ _ x40 hb)
    have x6 : Fk.f (.eq (.bool true)) (f3.eval (.tmp 6)) w3 := A.has 1 6 rfl
    replace m3 := HasV.below m3 hb (HasV.lt m3)
    replace tb := tb.below hb
    replace bl := bl.trans (Below.mono hb bl.size)
    replace sz := A.size.trans sz
    replace df := A.defs.trans df
    clear A hb
    show Code.wp _ _ _ _ _
    refine wp_ret (then_ret ?_)
    exact bodyPost_ret (v := .bool true) (ret_slot rfl f3 _ x6 _ _) df ⟨rfl, bl⟩
  by_cases q4 : c < b
  · refine wp_all_seq [.eq (.int .i64 z), .eq (.bool false), .eq (.bool false), .eq (.int .i64 z), .eq (.bool false), .eq (.bool false), .eq (.bool false), .eq (.int .i64 (a)), .eq (.bool false), .eq (.bool false), .eq (.bool false), .eq (.int .i64 (a)), .eq (.int .i64 (b)), .eq (.bool false), .eq (.bool false), .eq (.bool false), .eq (.int .i64 (b)), .eq (.int .i64 (c)), .eq (.bool true), .eq (.bool true), .eq (.bool true), .any, .any, .eq (.bool true)] (by kernel_rfl) (by kernel_rfl) (by rw [sz]; kernel_rfl) (by kernel_rfl) ⟨fun hw ac w' K => ?_, fun hw ac w' K => ?_, fun hw ac w' K => ?_, fun hw ac w' K => ?_, fun hw ac w' K => ?_, fun hw ac w' K => ?_, fun hw ac w' K => ?_, fun hw ac w' K => ?_, fun hw ac w' K => ?_, fun hw ac w' K => ?_, fun hw ac w' K => ?_, fun hw ac w' K => ?_, fun hw ac w' K => ?_, fun hw ac w' K => ?_, fun hw ac w' K => ?_, fun hw ac w' K => ?_, fun hw ac w' K => ?_, fun hw ac w' K => ?_, fun hw ac w' K => ?_, fun hw ac w' K => ?_, fun hw ac w' K => ?_, fun hw ac w' K => ?_, fun hw ac w' K => ?_, fun hw ac w' K => ?_, trivial⟩ ?_
    · exact st_move (.tmp 1) rfl ((K.old 1 rfl).trans x1)
    · exact st_lss 3 (.tmp 17) (.const (.int .i64 0)) rfl .i64 (z) (0) (K.dep 0 17 rfl) rfl _ (by simp; omega)
    · exact st_move (.tmp 18) rfl (K.dep 1 18 rfl)
    · exact st_move (.tmp 1) rfl ((K.old 1 rfl).trans x1)
    · exact st_gtr 3 (.tmp 20) (.const (.int .i64 66)) rfl .i64 (z) (66) (K.dep 3 20 rfl) rfl _ (by simp; omega)
    · exact st_pick_f (.tmp 19) (.const (.bool true)) (.tmp 21) rfl (K.dep 2 19 rfl) (K.dep 4 21 rfl)
    · exact st_move (.tmp 22) rfl (K.dep 5 22 rfl)
    · exact st_move (.tmp 7) rfl ((K.old 7 rfl).trans x7)
    · exact st_lss 3 (.tmp 24) (.const (.int .i64 0)) rfl .i64 ((a)) (0) (K.dep 7 24 rfl) rfl _ (by simp; omega)
    · exact st_pick_f (.tmp 23) (.const (.bool true)) (.tmp 25) rfl (K.dep 6 23 rfl) (K.dep 8 25 rfl)
    · exact st_move (.tmp 26) rfl (K.dep 9 26 rfl)
    · exact st_move (.tmp 7) rfl ((K.old 7 rfl).trans x7)
    · exact st_move (.tmp 8) rfl ((K.old 8 rfl).trans x8)
    · exact st_gtr 3 (.tmp 28) (.tmp 29) rfl .i64 ((a)) ((b)) (K.dep 11 28 rfl) (K.dep 12 29 rfl) _ (by simp; omega)
    · exact st_pick_f (.tmp 27) (.const (.bool true)) (.tmp 30) rfl (K.dep 10 27 rfl) (K.dep 13 30 rfl)
    · exact st_move (.tmp 31) rfl (K.dep 14 31 rfl)
    · exact st_move (.tmp 8) rfl ((K.old 8 rfl).trans x8)
    · exact st_move (.tmp 9) rfl ((K.old 9 rfl).trans x9)
    · exact st_gtr 3 (.tmp 33) (.tmp 34) rfl .i64 ((b)) ((c)) (K.dep 16 33 rfl) (K.dep 17 34 rfl) _ (by simp; omega)
    · exact st_pick_f (.tmp 32) (.const (.bool true)) (.tmp 35) rfl (K.dep 15 32 rfl) (K.dep 18 35 rfl)
    · exact st_move (.tmp 36) rfl (K.dep 19 36 rfl)
    · exact (Bool.false_ne_true hw).elim
    · exact (Bool.false_ne_true hw).elim
    · exact st_pick_t (.tmp 37) (.const (.bool true)) (.tmp 39) rfl (K.dep 20 37 rfl) rfl
    intro f2 w2 A hb
    replace x1 : Fk.f (.eq (.int .i64 z)) (f2.eval (.tmp 1)) w2 := f_at (A.old 1 rfl) (Fk.mono _ _ _ _ x1 hb)
    replace x3 : Fk.f (.eq (.pointer (some ⟨g3, 0, none⟩))) (f2.eval (.tmp 3)) w2 := f_at (A.old 3 rfl) (Fk.mono _ _ _ _ x3 hb)
    replace x7 : Fk.f (.eq (.int .i64 (a))) (f2.eval (.tmp 7)) w2 := f_at (A.old 7 rfl) (Fk.mono _ _ _ _ x7 hb)
    replace x8 : Fk.f (.eq (.int .i64 (b))) (f2.eval (.tmp 8)) w2 := f_at (A.old 8 rfl) (Fk.mono _ _ _ _ x8 hb)
    replace x9 : Fk.f (.eq (.int .i64 (c))) (f2.eval (.tmp 9)) w2 := f_at (A.old 9 rfl) (Fk.mono _ _ _ _ x9 hb)
    have x40 : Fk.f (.eq (.bool true)) (f2.eval (.tmp 40)) w2 := A.has 23 40 rfl
    replace m3 := HasV.below m3 hb (HasV.lt m3)
    replace tb := tb.below hb
    replace bl := bl.trans (Below.mono hb bl.size)
    replace sz := A.size.trans sz
    replace df := A.defs.trans df
    clear A hb
    show Code.wp _ _ _ _ _
    refine wp_cond_true x40 ?_
    refine wp_seq ?_
    refine wp_all_seq [.eq (.bool true), .eq (.bool true)] (by kernel_rfl) (by kernel_rfl) (by rw [sz]; kernel_rfl) (by kernel_rfl) ⟨fun hw ac w' K => ?_, fun hw ac w' K => ?_, trivial⟩ ?_
    · exact st_call 10 (.func 10) _ _ #[] rfl rfl rfl Tryd.enter10 (fk_of (awake_any _ (tb.below K.grow)))
    · exact st_assign (.tmp 41) rfl (K.dep 0 41 rfl)
    intro f3 w3 A hb
    replace x1 : Fk.f (.eq (.int .i64 z)) (f3.eval (.tmp 1)) w3 := f_at (A.old 1 rfl) (Fk.mono _ _ _ _ x1 hb)
    replace x3 : Fk.f (.eq (.pointer (some ⟨g3, 0, none⟩))) (f3.eval (.tmp 3)) w3 := f_at (A.old 3 rfl) (Fk.mono _ _ _ _ x3 hb)
    replace x7 : Fk.f (.eq (.int .i64 (a))) (f3.eval (.tmp 7)) w3 := f_at (A.old 7 rfl) (Fk.mono _ _ _ _ x7 hb)
    replace x8 : Fk.f (.eq (.int .i64 (b))) (f3.eval (.tmp 8)) w3 := f_at (A.old 8 rfl) (Fk.mono _ _ _ _ x8 hb)
    replace x9 : Fk.f (.eq (.int .i64 (c))) (f3.eval (.tmp 9)) w3 := f_at (A.old 9 rfl) (Fk.mono _ _ _ _ x9 hb)
    replace x40 : Fk.f (.eq (.bool true)) (f3.eval (.tmp 40)) w3 := f_at (A.old 40 rfl) (Fk.mono _ _ _ _ x40 hb)
    have x6 : Fk.f (.eq (.bool true)) (f3.eval (.tmp 6)) w3 := A.has 1 6 rfl
    replace m3 := HasV.below m3 hb (HasV.lt m3)
    replace tb := tb.below hb
    replace bl := bl.trans (Below.mono hb bl.size)
    replace sz := A.size.trans sz
    replace df := A.defs.trans df
    clear A hb
    show Code.wp _ _ _ _ _
    refine wp_ret (then_ret ?_)
    exact bodyPost_ret (v := .bool true) (ret_slot rfl f3 _ x6 _ _) df ⟨rfl, bl⟩
  by_cases q5 : 15 < c
  · refine wp_all_seq [.eq (.int .i64 z), .eq (.bool false), .eq (.bool false), .eq (.int .i64 z), .eq (.bool false), .eq (.bool false), .eq (.bool false), .eq (.int .i64 (a)), .eq (.bool false), .eq (.bool false), .eq (.bool false), .eq (.int .i64 (a)), .eq (.int .i64 (b)), .eq (.bool false), .eq (.bool false), .eq (.bool false), .eq (.int .i64 (b)), .eq (.int .i64 (c)), .eq (.bool false), .eq (.bool false), .eq (.bool false), .eq (.int .i64 (c)), .eq (.bool true), .eq (.bool true)] (by kernel_rfl) (by kernel_rfl) (by rw [sz]; kernel_rfl) (by kernel_rfl) ⟨fun hw ac w' K => ?_, fun hw ac w' K => ?_, fun hw ac w' K => ?_, fun hw ac w' K => ?_, fun hw ac w' K => ?_, fun hw ac w' K => ?_, fun hw ac w' K => ?_, fun hw ac w' K => ?_, fun hw ac w' K => ?_, fun hw ac w' K => ?_, fun hw ac w' K => ?_, fun hw ac w' K => ?_, fun hw ac w' K => ?_, fun hw ac w' K => ?_, fun hw ac w' K => ?_, fun hw ac w' K => ?_, fun hw ac w' K => ?_, fun hw ac w' K => ?_, fun hw ac w' K => ?_, fun hw ac w' K => ?_, fun hw ac w' K => ?_, fun hw ac w' K => ?_, fun hw ac w' K => ?_, fun hw ac w' K => ?_, trivial⟩ ?_
    · exact st_move (.tmp 1) rfl ((K.old 1 rfl).trans x1)
    · exact st_lss 3 (.tmp 17) (.const (.int .i64 0)) rfl .i64 (z) (0) (K.dep 0 17 rfl) rfl _ (by simp; omega)
    · exact st_move (.tmp 18) rfl (K.dep 1 18 rfl)
    · exact st_move (.tmp 1) rfl ((K.old 1 rfl).trans x1)
    · exact st_gtr 3 (.tmp 20) (.const (.int .i64 66)) rfl .i64 (z) (66) (K.dep 3 20 rfl) rfl _ (by simp; omega)
    · exact st_pick_f (.tmp 19) (.const (.bool true)) (.tmp 21) rfl (K.dep 2 19 rfl) (K.dep 4 21 rfl)
    · exact st_move (.tmp 22) rfl (K.dep 5 22 rfl)
    · exact st_move (.tmp 7) rfl ((K.old 7 rfl).trans x7)
    · exact st_lss 3 (.tmp 24) (.const (.int .i64 0)) rfl .i64 ((a)) (0) (K.dep 7 24 rfl) rfl _ (by simp; omega)
    · exact st_pick_f (.tmp 23) (.const (.bool true)) (.tmp 25) rfl (K.dep 6 23 rfl) (K.dep 8 25 rfl)
    · exact st_move (.tmp 26) rfl (K.dep 9 26 rfl)
    · exact st_move (.tmp 7) rfl ((K.old 7 rfl).trans x7)
    · exact st_move (.tmp 8) rfl ((K.old 8 rfl).trans x8)
    · exact st_gtr 3 (.tmp 28) (.tmp 29) rfl .i64 ((a)) ((b)) (K.dep 11 28 rfl) (K.dep 12 29 rfl) _ (by simp; omega)
    · exact st_pick_f (.tmp 27) (.const (.bool true)) (.tmp 30) rfl (K.dep 10 27 rfl) (K.dep 13 30 rfl)
    · exact st_move (.tmp 31) rfl (K.dep 14 31 rfl)
    · exact st_move (.tmp 8) rfl ((K.old 8 rfl).trans x8)
    · exact st_move (.tmp 9) rfl ((K.old 9 rfl).trans x9)
    · exact st_gtr 3 (.tmp 33) (.tmp 34) rfl .i64 ((b)) ((c)) (K.dep 16 33 rfl) (K.dep 17 34 rfl) _ (by simp; omega)
    · exact st_pick_f (.tmp 32) (.const (.bool true)) (.tmp 35) rfl (K.dep 15 32 rfl) (K.dep 18 35 rfl)
    · exact st_move (.tmp 36) rfl (K.dep 19 36 rfl)
    · exact st_move (.tmp 9) rfl ((K.old 9 rfl).trans x9)
    · exact st_gtr 3 (.tmp 38) (.const (.int .i64 15)) rfl .i64 ((c)) (15) (K.dep 21 38 rfl) rfl _ (by simp; omega)
    · exact st_pick_f (.tmp 37) (.const (.bool true)) (.tmp 39) rfl (K.dep 20 37 rfl) (K.dep 22 39 rfl)
    intro f2 w2 A hb
    replace x1 : Fk.f (.eq (.int .i64 z)) (f2.eval (.tmp 1)) w2 := f_at (A.old 1 rfl) (Fk.mono _ _ _ _ x1 hb)
    replace x3 : Fk.f (.eq (.pointer (some ⟨g3, 0, none⟩))) (f2.eval (.tmp 3)) w2 := f_at (A.old 3 rfl) (Fk.mono _ _ _ _ x3 hb)
    replace x7 : Fk.f (.eq (.int .i64 (a))) (f2.eval (.tmp 7)) w2 := f_at (A.old 7 rfl) (Fk.mono _ _ _ _ x7 hb)
    replace x8 : Fk.f (.eq (.int .i64 (b))) (f2.eval (.tmp 8)) w2 := f_at (A.old 8 rfl) (Fk.mono _ _ _ _ x8 hb)
    replace x9 : Fk.f (.eq (.int .i64 (c))) (f2.eval (.tmp 9)) w2 := f_at (A.old 9 rfl) (Fk.mono _ _ _ _ x9 hb)
    have x40 : Fk.f (.eq (.bool true)) (f2.eval (.tmp 40)) w2 := A.has 23 40 rfl
    replace m3 := HasV.below m3 hb (HasV.lt m3)
    replace tb := tb.below hb
    replace bl := bl.trans (Below.mono hb bl.size)
    replace sz := A.size.trans sz
    replace df := A.defs.trans df
    clear A hb
    show Code.wp _ _ _ _ _
    refine wp_cond_true x40 ?_
    refine wp_seq ?_
    refine wp_all_seq [.eq (.bool true), .eq (.bool true)] (by kernel_rfl) (by kernel_rfl) (by rw [sz]; kernel_rfl) (by kernel_rfl) ⟨fun hw ac w' K => ?_, fun hw ac w' K => ?_, trivial⟩ ?_
    · exact st_call 10 (.func 10) _ _ #[] rfl rfl rfl Tryd.enter10 (fk_of (awake_any _ (tb.below K.grow)))
    · exact st_assign (.tmp 41) rfl (K.dep 0 41 rfl)
    intro f3 w3 A hb
    replace x1 : Fk.f (.eq (.int .i64 z)) (f3.eval (.tmp 1)) w3 := f_at (A.old 1 rfl) (Fk.mono _ _ _ _ x1 hb)
    replace x3 : Fk.f (.eq (.pointer (some ⟨g3, 0, none⟩))) (f3.eval (.tmp 3)) w3 := f_at (A.old 3 rfl) (Fk.mono _ _ _ _ x3 hb)
    replace x7 : Fk.f (.eq (.int .i64 (a))) (f3.eval (.tmp 7)) w3 := f_at (A.old 7 rfl) (Fk.mono _ _ _ _ x7 hb)
    replace x8 : Fk.f (.eq (.int .i64 (b))) (f3.eval (.tmp 8)) w3 := f_at (A.old 8 rfl) (Fk.mono _ _ _ _ x8 hb)
    replace x9 : Fk.f (.eq (.int .i64 (c))) (f3.eval (.tmp 9)) w3 := f_at (A.old 9 rfl) (Fk.mono _ _ _ _ x9 hb)
    replace x40 : Fk.f (.eq (.bool true)) (f3.eval (.tmp 40)) w3 := f_at (A.old 40 rfl) (Fk.mono _ _ _ _ x40 hb)
    have x6 : Fk.f (.eq (.bool true)) (f3.eval (.tmp 6)) w3 := A.has 1 6 rfl
    replace m3 := HasV.below m3 hb (HasV.lt m3)
    replace tb := tb.below hb
    replace bl := bl.trans (Below.mono hb bl.size)
    replace sz := A.size.trans sz
    replace df := A.defs.trans df
    clear A hb
    show Code.wp _ _ _ _ _
    refine wp_ret (then_ret ?_)
    exact bodyPost_ret (v := .bool true) (ret_slot rfl f3 _ x6 _ _) df ⟨rfl, bl⟩
  refine wp_all_seq [.eq (.int .i64 z), .eq (.bool false), .eq (.bool false), .eq (.int .i64 z), .eq (.bool false), .eq (.bool false), .eq (.bool false), .eq (.int .i64 (a)), .eq (.bool false), .eq (.bool false), .eq (.bool false), .eq (.int .i64 (a)), .eq (.int .i64 (b)), .eq (.bool false), .eq (.bool false), .eq (.bool false), .eq (.int .i64 (b)), .eq (.int .i64 (c)), .eq (.bool false), .eq (.bool false), .eq (.bool false), .eq (.int .i64 (c)), .eq (.bool false), .eq (.bool false)] (by kernel_rfl) (by kernel_rfl) (by rw [sz]; kernel_rfl) (by kernel_rfl) ⟨fun hw ac w' K => ?_, fun hw ac w' K => ?_, fun hw ac w' K => ?_, fun hw ac w' K => ?_, fun hw ac w' K => ?_, fun hw ac w' K => ?_, fun hw ac w' K => ?_, fun hw ac w' K => ?_, fun hw ac w' K => ?_, fun hw ac w' K => ?_, fun hw ac w' K => ?_, fun hw ac w' K => ?_, fun hw ac w' K => ?_, fun hw ac w' K => ?_, fun hw ac w' K => ?_, fun hw ac w' K => ?_, fun hw ac w' K => ?_, fun hw ac w' K => ?_, fun hw ac w' K => ?_, fun hw ac w' K => ?_, fun hw ac w' K => ?_, fun hw ac w' K => ?_, fun hw ac w' K => ?_, fun hw ac w' K => ?_, trivial⟩ ?_
  · exact st_move (.tmp 1) rfl ((K.old 1 rfl).trans x1)
  · exact st_lss 3 (.tmp 17) (.const (.int .i64 0)) rfl .i64 (z) (0) (K.dep 0 17 rfl) rfl _ (by simp; omega)
  · exact st_move (.tmp 18) rfl (K.dep 1 18 rfl)
  · exact st_move (.tmp 1) rfl ((K.old 1 rfl).trans x1)
  · exact st_gtr 3 (.tmp 20) (.const (.int .i64 66)) rfl .i64 (z) (66) (K.dep 3 20 rfl) rfl _ (by simp; omega)
  · exact st_pick_f (.tmp 19) (.const (.bool true)) (.tmp 21) rfl (K.dep 2 19 rfl) (K.dep 4 21 rfl)
  · exact st_move (.tmp 22) rfl (K.dep 5 22 rfl)
  · exact st_move (.tmp 7) rfl ((K.old 7 rfl).trans x7)
  · exact st_lss 3 (.tmp 24) (.const (.int .i64 0)) rfl .i64 ((a)) (0) (K.dep 7 24 rfl) rfl _ (by simp; omega)
  · exact st_pick_f (.tmp 23) (.const (.bool true)) (.tmp 25) rfl (K.dep 6 23 rfl) (K.dep 8 25 rfl)
  · exact st_move (.tmp 26) rfl (K.dep 9 26 rfl)
  · exact st_move (.tmp 7) rfl ((K.old 7 rfl).trans x7)
  · exact st_move (.tmp 8) rfl ((K.old 8 rfl).trans x8)
  · exact st_gtr 3 (.tmp 28) (.tmp 29) rfl .i64 ((a)) ((b)) (K.dep 11 28 rfl) (K.dep 12 29 rfl) _ (by simp; omega)
  · exact st_pick_f (.tmp 27) (.const (.bool true)) (.tmp 30) rfl (K.dep 10 27 rfl) (K.dep 13 30 rfl)
  · exact st_move (.tmp 31) rfl (K.dep 14 31 rfl)
  · exact st_move (.tmp 8) rfl ((K.old 8 rfl).trans x8)
  · exact st_move (.tmp 9) rfl ((K.old 9 rfl).trans x9)
  · exact st_gtr 3 (.tmp 33) (.tmp 34) rfl .i64 ((b)) ((c)) (K.dep 16 33 rfl) (K.dep 17 34 rfl) _ (by simp; omega)
  · exact st_pick_f (.tmp 32) (.const (.bool true)) (.tmp 35) rfl (K.dep 15 32 rfl) (K.dep 18 35 rfl)
  · exact st_move (.tmp 36) rfl (K.dep 19 36 rfl)
  · exact st_move (.tmp 9) rfl ((K.old 9 rfl).trans x9)
  · exact st_gtr 3 (.tmp 38) (.const (.int .i64 15)) rfl .i64 ((c)) (15) (K.dep 21 38 rfl) rfl _ (by simp; omega)
  · exact st_pick_f (.tmp 37) (.const (.bool true)) (.tmp 39) rfl (K.dep 20 37 rfl) (K.dep 22 39 rfl)
  intro f2 w2 A hb
  replace x1 : Fk.f (.eq (.int .i64 z)) (f2.eval (.tmp 1)) w2 := f_at (A.old 1 rfl) (Fk.mono _ _ _ _ x1 hb)
  replace x3 : Fk.f (.eq (.pointer (some ⟨g3, 0, none⟩))) (f2.eval (.tmp 3)) w2 := f_at (A.old 3 rfl) (Fk.mono _ _ _ _ x3 hb)
  replace x7 : Fk.f (.eq (.int .i64 (a))) (f2.eval (.tmp 7)) w2 := f_at (A.old 7 rfl) (Fk.mono _ _ _ _ x7 hb)
  replace x8 : Fk.f (.eq (.int .i64 (b))) (f2.eval (.tmp 8)) w2 := f_at (A.old 8 rfl) (Fk.mono _ _ _ _ x8 hb)
  replace x9 : Fk.f (.eq (.int .i64 (c))) (f2.eval (.tmp 9)) w2 := f_at (A.old 9 rfl) (Fk.mono _ _ _ _ x9 hb)
  have x40 : Fk.f (.eq (.bool false)) (f2.eval (.tmp 40)) w2 := A.has 23 40 rfl
  replace m3 := HasV.below m3 hb (HasV.lt m3)
  replace tb := tb.below hb
  replace bl := bl.trans (Below.mono hb bl.size)
  replace sz := A.size.trans sz
  replace df := A.defs.trans df
  clear A hb
  obtain ⟨a, rfl⟩ := Int.eq_ofNat_of_zero_le (show 0 ≤ a by omega)
  obtain ⟨b, rfl⟩ := Int.eq_ofNat_of_zero_le (show 0 ≤ b by omega)
  obtain ⟨c, rfl⟩ := Int.eq_ofNat_of_zero_le (show 0 ≤ c by omega)
  obtain ⟨y1, e1⟩ : ∃ y, Box (wk z a hs (c - a) = y) := ⟨_, ⟨rfl⟩⟩
  obtain ⟨y2, e2⟩ : ∃ y, Box (wk z a hs (b - a) = y) := ⟨_, ⟨rfl⟩⟩
  have hy1 : y1.length = 32 := by rw [← e1.out]; exact wk_len _ _ _ _ hx
  have hy2 : y2.length = 32 := by rw [← e2.out]; exact wk_len _ _ _ _ hx
  have e3 : Box (wk z b y2 (c - b) = y1) := ⟨by rw [← e1.out, ← e2.out, show c - a = (b - a) + (c - b) by omega, wk_add, show a + (b - a) = b by omega]⟩
  have e4 : Box (wk z c hs (a - c) = hs) := ⟨by rw [show a - c = 0 by omega]; rfl⟩
  show Code.wp _ _ _ _ _
  refine wp_cond_false x40 ?_
  refine wp_skip ?_
  show Code.wp _ _ _ _ _
  refine wp_seq ?_
  clear x40
  refine wp_region_seq [.eq (.agg ((hs).map V).toArray), .eq (.int .i64 z), .eq (.int .i64 ((a : Nat) : Int)), .eq (.int .i64 ((c : Nat) : Int)), .eq (.agg ((y1).map V).toArray), .pn w2.heap.size hz] (by kernel_rfl) (by kernel_rfl) (by rw [sz]; kernel_rfl) (by kernel_rfl) ⟨fun hw ac w' K => ?_, fun hw ac w' K => ?_, fun hw ac w' K => ?_, fun hw ac w' K => ?_, fun hw ac w' K => ?_, fun hw ac w' K => ?_, trivial⟩ ?_
  · exact st_load23 (.tmp 3) rfl _ (hs) ((K.old 3 rfl).trans x3) hx (HasV.below m3 K.grow (HasV.lt m3))
  · exact st_move (.tmp 1) rfl ((K.old 1 rfl).trans x1)
  · exact st_move (.tmp 7) rfl ((K.old 7 rfl).trans x7)
  · exact st_move (.tmp 9) rfl ((K.old 9 rfl).trans x9)
  · exact st_call 17 (.func 17) _ _ #[.agg ((hs).map V).toArray, .int .i64 z, .int .i64 ((a : Nat) : Int), .int .i64 ((c : Nat) : Int)] rfl rfl (arg4 (K.dep 0 42 rfl) (K.dep 1 43 rfl) (K.dep 2 44 rfl) (K.dep 3 45 rfl)) Tryd.enter17 (fk_of (walk_to (hs) (z) (a) (c) _ hx (by omega) (tb.below K.grow) e1))
  · exact st_alloc23 rfl _ K.grow.size
  intro f3 w3 A hb
  obtain ⟨g10, hg10, e10, m10⟩ := A.has 5 10 rfl
  refine wl_store rfl (.tmp 10) (.tmp 46) rfl rfl g10 (y1) hz e10 (A.has 4 46 rfl) m10 hz_len hy1 ?_
  replace hb := Below.trans hb (below_setRow _ _ _ ((y1).map V).toArray hg10)
  replace m10 : HasV (w3.setRow g10 ((y1).map V).toArray) g10 23 (y1) := HasV.setRow m10
  generalize w3.setRow g10 ((y1).map V).toArray = w3b at hb m10 ⊢
  replace x1 : Fk.f (.eq (.int .i64 z)) (f3.eval (.tmp 1)) w3b := f_at (A.old 1 rfl) (Fk.mono _ _ _ _ x1 hb)
  replace x3 : Fk.f (.eq (.pointer (some ⟨g3, 0, none⟩))) (f3.eval (.tmp 3)) w3b := f_at (A.old 3 rfl) (Fk.mono _ _ _ _ x3 hb)
  replace x7 : Fk.f (.eq (.int .i64 ((a : Nat) : Int))) (f3.eval (.tmp 7)) w3b := f_at (A.old 7 rfl) (Fk.mono _ _ _ _ x7 hb)
  replace x8 : Fk.f (.eq (.int .i64 ((b : Nat) : Int))) (f3.eval (.tmp 8)) w3b := f_at (A.old 8 rfl) (Fk.mono _ _ _ _ x8 hb)
  replace x9 : Fk.f (.eq (.int .i64 ((c : Nat) : Int))) (f3.eval (.tmp 9)) w3b := f_at (A.old 9 rfl) (Fk.mono _ _ _ _ x9 hb)
  have x10 : Fk.f (.eq (.pointer (some ⟨g10, 0, none⟩))) (f3.eval (.tmp 10)) w3b := e10
  replace m3 := HasV.below m3 hb (HasV.lt m3)
  replace tb := tb.below hb
  replace bl := bl.trans (Below.mono hb bl.size)
  replace sz := A.size.trans sz
  replace df := A.defs.trans df
  clear A hb
  refine wpList_nil ?_
  show Code.wp _ _ _ _ _
  refine wp_seq ?_
  refine wp_all [.eq (.agg ((y1).map V).toArray), .eq (.agg ((hs).map V).toArray), .eq (.int .i64 z), .eq (.int .i64 ((a : Nat) : Int)), .eq (.int .i64 ((c : Nat) : Int)), .eq (.agg ((y1).map V).toArray), .eq (.bool true), .eq (.bool true), .eq (.agg ((hs).map V).toArray), .eq (.int .i64 z), .eq (.int .i64 ((a : Nat) : Int)), .eq (.int .i64 ((b : Nat) : Int)), .eq (.agg ((y2).map V).toArray), .eq (.int .i64 z), .eq (.int .i64 ((b : Nat) : Int)), .eq (.int .i64 ((c : Nat) : Int)), .eq (.agg ((y1).map V).toArray), .eq (.agg ((y1).map V).toArray), .eq (.bool true), .eq (.bool true), .eq (.bool true), .eq (.agg ((hs).map V).toArray), .eq (.int .i64 z), .eq (.int .i64 ((c : Nat) : Int)), .eq (.int .i64 ((a : Nat) : Int)), .eq (.agg ((hs).map V).toArray), .eq (.agg ((hs).map V).toArray), .eq (.int .i64 z), .eq (.int .i64 ((c : Nat) : Int)), .eq (.int .i64 ((a : Nat) : Int)), .eq (.agg ((hs).map V).toArray), .eq (.bool true), .eq (.bool true), .eq (.bool true), .eq (.bool true), .eq (.bool true), .eq (.bool true)] Tryd.mixed (by kernel_rfl) (by kernel_rfl) (by rw [sz]; kernel_rfl) (by kernel_rfl) ⟨fun hw ac w' K => ?_, fun hw ac w' K => ?_, fun hw ac w' K => ?_, fun hw ac w' K => ?_, fun hw ac w' K => ?_, fun hw ac w' K => ?_, fun hw ac w' K => ?_, fun hw ac w' K => ?_, fun hw ac w' K => ?_, fun hw ac w' K => ?_, fun hw ac w' K => ?_, fun hw ac w' K => ?_, fun hw ac w' K => ?_, fun hw ac w' K => ?_, fun hw ac w' K => ?_, fun hw ac w' K => ?_, fun hw ac w' K => ?_, fun hw ac w' K => ?_, fun hw ac w' K => ?_, fun hw ac w' K => ?_, fun hw ac w' K => ?_, fun hw ac w' K => ?_, fun hw ac w' K => ?_, fun hw ac w' K => ?_, fun hw ac w' K => ?_, fun hw ac w' K => ?_, fun hw ac w' K => ?_, fun hw ac w' K => ?_, fun hw ac w' K => ?_, fun hw ac w' K => ?_, fun hw ac w' K => ?_, fun hw ac w' K => ?_, fun hw ac w' K => ?_, fun hw ac w' K => ?_, fun hw ac w' K => ?_, fun hw ac w' K => ?_, fun hw ac w' K => ?_, trivial⟩ ?_
  · exact st_load23 (.tmp 10) rfl _ (y1) ((K.old 10 rfl).trans x10) hy1 (HasV.below m10 K.grow (HasV.lt m10))
  · exact st_load23 (.tmp 3) rfl _ (hs) ((K.old 3 rfl).trans x3) hx (HasV.below m3 K.grow (HasV.lt m3))
  · exact st_move (.tmp 1) rfl ((K.old 1 rfl).trans x1)
  · exact st_move (.tmp 7) rfl ((K.old 7 rfl).trans x7)
  · exact st_move (.tmp 9) rfl ((K.old 9 rfl).trans x9)
  · exact st_call 13 (.func 13) _ _ #[.agg ((hs).map V).toArray, .int .i64 z, .int .i64 ((a : Nat) : Int), .int .i64 ((c : Nat) : Int)] rfl rfl (arg4 (K.dep 1 48 rfl) (K.dep 2 49 rfl) (K.dep 3 50 rfl) (K.dep 4 51 rfl)) Tryd.enter13 (fk_of (walked_to (hs) (z) (a) (c) _ hx (by omega) (tb.below K.grow) e1))
  · exact st_eqh (.tmp 47) (.tmp 52) rfl (y1) (y1) hy1 hy1 (K.dep 0 47 rfl) (K.dep 5 52 rfl) _ (by simp)
  · exact st_move (.tmp 53) rfl (K.dep 6 53 rfl)
  · exact st_load23 (.tmp 3) rfl _ (hs) ((K.old 3 rfl).trans x3) hx (HasV.below m3 K.grow (HasV.lt m3))
  · exact st_move (.tmp 1) rfl ((K.old 1 rfl).trans x1)
  · exact st_move (.tmp 7) rfl ((K.old 7 rfl).trans x7)
  · exact st_move (.tmp 8) rfl ((K.old 8 rfl).trans x8)
  · exact st_call 17 (.func 17) _ _ #[.agg ((hs).map V).toArray, .int .i64 z, .int .i64 ((a : Nat) : Int), .int .i64 ((b : Nat) : Int)] rfl rfl (arg4 (K.dep 8 55 rfl) (K.dep 9 56 rfl) (K.dep 10 57 rfl) (K.dep 11 58 rfl)) Tryd.enter17 (fk_of (walk_to (hs) (z) (a) (b) _ hx (by omega) (tb.below K.grow) e2))
  · exact st_move (.tmp 1) rfl ((K.old 1 rfl).trans x1)
  · exact st_move (.tmp 8) rfl ((K.old 8 rfl).trans x8)
  · exact st_move (.tmp 9) rfl ((K.old 9 rfl).trans x9)
  · exact st_call 17 (.func 17) _ _ #[.agg ((y2).map V).toArray, .int .i64 z, .int .i64 ((b : Nat) : Int), .int .i64 ((c : Nat) : Int)] rfl rfl (arg4 (K.dep 12 59 rfl) (K.dep 13 60 rfl) (K.dep 14 61 rfl) (K.dep 15 62 rfl)) Tryd.enter17 (fk_of (walk_to (y2) (z) (b) (c) _ hy2 (by omega) (tb.below K.grow) e3))
  · exact st_load23 (.tmp 10) rfl _ (y1) ((K.old 10 rfl).trans x10) hy1 (HasV.below m10 K.grow (HasV.lt m10))
  · exact st_eqh (.tmp 63) (.tmp 64) rfl (y1) (y1) hy1 hy1 (K.dep 16 63 rfl) (K.dep 17 64 rfl) _ (by simp)
  · exact st_pick_t (.tmp 54) (.tmp 65) (.const (.bool false)) rfl (K.dep 7 54 rfl) (K.dep 18 65 rfl)
  · exact st_move (.tmp 66) rfl (K.dep 19 66 rfl)
  · exact st_load23 (.tmp 3) rfl _ (hs) ((K.old 3 rfl).trans x3) hx (HasV.below m3 K.grow (HasV.lt m3))
  · exact st_move (.tmp 1) rfl ((K.old 1 rfl).trans x1)
  · exact st_move (.tmp 9) rfl ((K.old 9 rfl).trans x9)
  · exact st_move (.tmp 7) rfl ((K.old 7 rfl).trans x7)
  · exact st_call 17 (.func 17) _ _ #[.agg ((hs).map V).toArray, .int .i64 z, .int .i64 ((c : Nat) : Int), .int .i64 ((a : Nat) : Int)] rfl rfl (arg4 (K.dep 21 68 rfl) (K.dep 22 69 rfl) (K.dep 23 70 rfl) (K.dep 24 71 rfl)) Tryd.enter17 (fk_of (walk_to (hs) (z) (c) (a) _ hx (by omega) (tb.below K.grow) e4))
  · exact st_load23 (.tmp 3) rfl _ (hs) ((K.old 3 rfl).trans x3) hx (HasV.below m3 K.grow (HasV.lt m3))
  · exact st_move (.tmp 1) rfl ((K.old 1 rfl).trans x1)
  · exact st_move (.tmp 9) rfl ((K.old 9 rfl).trans x9)
  · exact st_move (.tmp 7) rfl ((K.old 7 rfl).trans x7)
  · exact st_call 13 (.func 13) _ _ #[.agg ((hs).map V).toArray, .int .i64 z, .int .i64 ((c : Nat) : Int), .int .i64 ((a : Nat) : Int)] rfl rfl (arg4 (K.dep 26 73 rfl) (K.dep 27 74 rfl) (K.dep 28 75 rfl) (K.dep 29 76 rfl)) Tryd.enter13 (fk_of (walked_to (hs) (z) (c) (a) _ hx (by omega) (tb.below K.grow) e4))
  · exact st_eqh (.tmp 72) (.tmp 77) rfl (hs) (hs) hx hx (K.dep 25 72 rfl) (K.dep 30 77 rfl) _ (by simp)
  · exact st_pick_t (.tmp 67) (.tmp 78) (.const (.bool false)) rfl (K.dep 20 67 rfl) (K.dep 31 78 rfl)
  · exact st_move (.tmp 79) rfl (K.dep 32 79 rfl)
  · exact st_call 10 (.func 10) _ _ #[] rfl rfl rfl Tryd.enter10 (fk_of (awake_any _ (tb.below K.grow)))
  · exact st_pick_t (.tmp 80) (.tmp 81) (.const (.bool false)) rfl (K.dep 33 80 rfl) (K.dep 34 81 rfl)
  · exact st_assign (.tmp 82) rfl (K.dep 35 82 rfl)
  intro f4 w4 A hb
  replace x1 : Fk.f (.eq (.int .i64 z)) (f4.eval (.tmp 1)) w4 := f_at (A.old 1 rfl) (Fk.mono _ _ _ _ x1 hb)
  replace x3 : Fk.f (.eq (.pointer (some ⟨g3, 0, none⟩))) (f4.eval (.tmp 3)) w4 := f_at (A.old 3 rfl) (Fk.mono _ _ _ _ x3 hb)
  replace x7 : Fk.f (.eq (.int .i64 ((a : Nat) : Int))) (f4.eval (.tmp 7)) w4 := f_at (A.old 7 rfl) (Fk.mono _ _ _ _ x7 hb)
  replace x8 : Fk.f (.eq (.int .i64 ((b : Nat) : Int))) (f4.eval (.tmp 8)) w4 := f_at (A.old 8 rfl) (Fk.mono _ _ _ _ x8 hb)
  replace x9 : Fk.f (.eq (.int .i64 ((c : Nat) : Int))) (f4.eval (.tmp 9)) w4 := f_at (A.old 9 rfl) (Fk.mono _ _ _ _ x9 hb)
  replace x10 : Fk.f (.eq (.pointer (some ⟨g10, 0, none⟩))) (f4.eval (.tmp 10)) w4 := f_at (A.old 10 rfl) (Fk.mono _ _ _ _ x10 hb)
  have x6 : Fk.f (.eq (.bool true)) (f4.eval (.tmp 6)) w4 := A.has 36 6 rfl
  replace m3 := HasV.below m3 hb (HasV.lt m3)
  replace m10 := HasV.below m10 hb (HasV.lt m10)
  replace tb := tb.below hb
  replace bl := bl.trans (Below.mono hb bl.size)
  replace sz := A.size.trans sz
  replace df := A.defs.trans df
  clear A hb
  show Code.wp _ _ _ _ _
  refine wp_ret ?_
  exact bodyPost_ret (v := .bool true) (ret_slot rfl f4 _ x6 _ _) df ⟨rfl, bl⟩
end Go.Proofs.YthnaomkkaodbkaaDoor
