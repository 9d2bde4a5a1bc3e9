/- DiskKeeps. -/
import Derived.Test.YtjdpomilifnlaaaM7
namespace Go.Proofs.Ytjdpomilifnlaaa
set_option maxRecDepth 100000
open Go.RowKit
set_option maxHeartbeats 4000000 in
theorem keeps_law {l l2 : List Opn} {ls : List Int} {v v2 vl : Value} (hln : l.length ≤ maxLen) (hln2 : l2.length ≤ maxLen) (w : World) (hv : (Fk.ol l).f v w) (hv2 : (Fk.ol l2).f v2 w) (hls : (Fk.is ls).f vl w) (hlw : ∀ z ∈ ls, (Lit.int .i64 z).wf = true) :
    Calls Try.prog 4 #[v, v2, vl] w fun e w' => e = .returned (.bool true) ∧ Below w.heap.size w w' := by
  go_enter Try.func4, Try.ntmps4
  refine code_both (fun f w1 => f.tmps.size = 154 ∧ f.defers = [] ∧ f.eval (.tmp 0) = v ∧ f.eval (.tmp 1) = v2 ∧ f.eval (.tmp 2) = vl ∧ Below w.heap.size w (w1)) ⟨rfl, rfl, rfl, rfl, rfl, Below.refl _ _⟩ ?_
  rintro f0 w0 ⟨sz, df, x0, x1, x2, bl⟩
  have sd := And.intro sz df
  clear sz df
  have bl0 := bl
  refine wp_seq ?_
  refine wr_a [.eq (.bool false)] (by rw [sd.1]; kernel_rfl) ⟨fun hw ac u K => ?_, trivial⟩ ?_
  · exact st_assign (.const (.bool false)) rfl rfl
  intro f1 w1 A hb
  replace x0 := A.t x0 rfl
  replace x1 := A.t x1 rfl
  replace x2 := A.t x2 rfl
  replace bl := bgo bl hb
  replace sd := A.sd sd
  clear A hb
  show Code.wp _ _ _ _ _
  refine wp_seq ?_
  refine wr_s [] (by rw [sd.1]; kernel_rfl) trivial ?_
  intro f2 w2 A hb
  replace x0 := A.t x0 rfl
  replace x1 := A.t x1 rfl
  replace x2 := A.t x2 rfl
  replace bl := bgo bl hb
  replace sd := A.sd sd
  clear A hb
  refine wl_call 8 (.func 8) _ _ #[.int .i64 ((10 : Nat) : Int), .int .i64 ((16 : Nat) : Int)] rfl 23 rfl (by rw [sd.1]; decide) rfl rfl rfl Try.enter8 (fun u W' => ∃ (gd : Nat) (M D : Nat → Prop), u = .pointer (some ⟨gd, 0, none⟩) ∧ HD W' gd M D (newd (10) (16)) ∧ (∀ j, D j → w2.heap.size ≤ j) ∧ Below w2.heap.size w2 W') ((fk_dnew (N := 10) (Z := 16) (by decide) (by decide) (by decide) (by decide) w2).mono (by rintro e w' ⟨gd, M, D, rfl, q⟩; exact ⟨_, rfl, gd, M, D, rfl, q⟩)) ?_
  rintro f3 w3 df2 sz2 old2 ⟨gd, M, DD, x23, hd, hD0, hb⟩
  have hDD : ∀ j, DD j → w.heap.size ≤ j := fun j q => Nat.le_trans bl.size (hD0 j q)
  clear hD0
  replace bl0 := bl
  replace x0 := tr old2 x0 rfl
  replace x1 := tr old2 x1 rfl
  replace x2 := tr old2 x2 rfl
  replace bl := bgo bl hb
  replace sd := sd2 sz2 df2 sd
  clear df2 sz2 old2 hb
  refine wl_one (.eq (.pointer (some ⟨gd, 0, none⟩))) rfl 7 rfl (by rw [sd.1]; decide) (st_assign (.tmp 23) rfl x23) ?_
  intro f4 w4 df2 sz2 old2 new2 hb
  replace x0 := tr old2 x0 rfl
  replace x1 := tr old2 x1 rfl
  replace x2 := tr old2 x2 rfl
  replace x23 := tr old2 x23 rfl
  have x7 := Fk.e new2
  replace hd := HD.below hd hb
  replace bl := bgo bl hb
  replace sd := sd2 sz2 df2 sd
  clear df2 sz2 old2 new2 hb
  refine wpList_nil ?_
  clear x23
  show Code.wp _ _ _ _ _
  refine wp_seq ?_
  refine wp_seq ?_
  have h9 : ¬ smallO l 30 ∨ (smallO l 30 ∧ ¬ smallO l2 30) ∨ (smallO l 30 ∧ smallO l2 30 ∧ (ls.length : Int) > 40) ∨ (smallO l 30 ∧ smallO l2 30 ∧ ¬ (ls.length : Int) > 40) := by
    by_cases h1 : smallO l 30
    · by_cases h2 : smallO l2 30
      · by_cases h3 : (ls.length : Int) > 40
        · exact .inr (.inr (.inl ⟨h1, h2, h3⟩))
        · exact .inr (.inr (.inr ⟨h1, h2, h3⟩))
      · exact .inr (.inl ⟨h1, h2⟩)
    · exact .inl h1
  rcases h9 with h1s | ⟨h1s, h2s⟩ | ⟨h1s, h2s, h3s⟩ | ⟨h1s, h2s, h3s⟩
  · skip
    refine wr_a [.eq (.pointer (some ⟨gd, 0, none⟩)), .eq (.bool false), .eq (.bool false), .eq (v), .eq (.bool false), .eq (.bool true), .eq (.bool true), .eq (.bool true), .any, .any, .any, .eq (.bool true), .eq (.bool true), .any, .any, .any, .eq (.bool true)] (by rw [sd.1]; kernel_rfl) ⟨fun hw ac u K => ?_, fun hw ac u K => ?_, fun hw ac u K => ?_, fun hw ac u K => ?_, fun hw ac u K => ?_, fun hw ac u K => ?_, fun hw ac u K => ?_, fun hw ac u K => ?_, fun hw ac u K => ?_, fun hw ac u K => ?_, fun hw ac u K => ?_, fun hw ac u K => ?_, fun hw ac u K => ?_, fun hw ac u K => ?_, fun hw ac u K => ?_, fun hw ac u K => ?_, fun hw ac u K => ?_, trivial⟩ ?_
    · exact st_move (.tmp 7) rfl (K.t x7 rfl)
    · exact st_bin .eql 23 23 (.tmp 24) _ rfl (K.dep 0 24 rfl) rfl (by kernel_rfl)
    · exact st_move (.tmp 25) rfl (K.dep 1 25 rfl)
    · exact st_move (.tmp 0) rfl (K.t x0 rfl)
    · exact st_call 10 (.func 10) _ _ _ rfl rfl (arg2 (K.dep 3 27 rfl) rfl) Try.enter10 (fk_smallo hln (Fk.mono _ _ _ _ hv (bgo bl K.grow)) (by symm; rw [decide_eq_false_iff_not]; exact h1s))
    · exact st_not (.tmp 28) rfl false (K.dep 4 28 rfl)
    · exact st_pick_f' (.tmp 26) (.const (.bool true)) (.tmp 29) rfl (K.dep 2 26 rfl) (K.dep 5 29 rfl)
    · exact st_move (.tmp 30) rfl (K.dep 6 30 rfl)
    · exact (Bool.false_ne_true hw).elim
    · exact (Bool.false_ne_true hw).elim
    · exact (Bool.false_ne_true hw).elim
    · exact st_pick_t (.tmp 31) (.const (.bool true)) (.tmp 34) rfl (K.dep 7 31 rfl) rfl
    · exact st_move (.tmp 35) rfl (K.dep 11 35 rfl)
    · exact (Bool.false_ne_true hw).elim
    · exact (Bool.false_ne_true hw).elim
    · exact (Bool.false_ne_true hw).elim
    · exact st_pick_t (.tmp 36) (.const (.bool true)) (.tmp 39) rfl (K.dep 12 36 rfl) rfl
    intro f5 w5 A hb
    replace x0 := A.t x0 rfl
    replace x1 := A.t x1 rfl
    replace x2 := A.t x2 rfl
    replace x7 := A.t x7 rfl
    have x40 := A.e 16 40 rfl rfl
    replace hd := HD.below hd hb
    replace bl := bgo bl hb
    replace sd := A.sd sd
    clear A hb
    show Code.wp _ _ _ _ _
    refine wp_cond_true x40 ?_
    refine wp_seq ?_
    refine wr_a [.eq (.pointer (some ⟨gd, 0, none⟩)), .eq (.bool true), .eq (.bool true), .eq (.bool true), .eq (.bool true), .eq (.bool true)] (by rw [sd.1]; kernel_rfl) ⟨fun hw ac u K => ?_, fun hw ac u K => ?_, fun hw ac u K => ?_, fun hw ac u K => ?_, fun hw ac u K => ?_, fun hw ac u K => ?_, trivial⟩ ?_
    · exact st_move (.tmp 7) rfl (K.t x7 rfl)
    · exact st_bin .neq 23 23 (.tmp 41) _ rfl (K.dep 0 41 rfl) rfl (by kernel_rfl)
    · exact st_move (.tmp 42) rfl (K.dep 1 42 rfl)
    · exact st_call 9 (.func 9) _ _ _ rfl rfl rfl Try.enter9 (awake_any _)
    · exact st_pick_t (.tmp 43) (.tmp 44) (.const (.bool false)) rfl (K.dep 2 43 rfl) (K.dep 3 44 rfl)
    · exact st_assign (.tmp 45) rfl (K.dep 4 45 rfl)
    intro f6 w6 A hb
    replace x0 := A.t x0 rfl
    replace x1 := A.t x1 rfl
    replace x2 := A.t x2 rfl
    replace x7 := A.t x7 rfl
    replace x40 := A.t x40 rfl
    have x6 := A.e 5 6 rfl rfl
    replace hd := HD.below hd hb
    replace bl := bgo bl hb
    replace sd := A.sd sd
    clear A hb
    clear x0
    clear x1
    clear x2
    clear x7
    clear x40
    show Code.wp _ _ _ _ _
    refine wp_ret ?_
    repeat (first | with_reducible refine then_ret ?_ | with_reducible refine block_ret ?_)
    exact bodyPost_ret (v := .bool true) (ret_slot rfl f6 _ x6 _ _) sd.2 ⟨rfl, bl⟩
  · skip
    refine wr_a [.eq (.pointer (some ⟨gd, 0, none⟩)), .eq (.bool false), .eq (.bool false), .eq (v), .eq (.bool true), .eq (.bool false), .eq (.bool false), .eq (.bool false), .eq (v2), .eq (.bool false), .eq (.bool true), .eq (.bool true), .eq (.bool true), .any, .any, .any, .eq (.bool true)] (by rw [sd.1]; kernel_rfl) ⟨fun hw ac u K => ?_, fun hw ac u K => ?_, fun hw ac u K => ?_, fun hw ac u K => ?_, fun hw ac u K => ?_, fun hw ac u K => ?_, fun hw ac u K => ?_, fun hw ac u K => ?_, fun hw ac u K => ?_, fun hw ac u K => ?_, fun hw ac u K => ?_, fun hw ac u K => ?_, fun hw ac u K => ?_, fun hw ac u K => ?_, fun hw ac u K => ?_, fun hw ac u K => ?_, fun hw ac u K => ?_, trivial⟩ ?_
    · exact st_move (.tmp 7) rfl (K.t x7 rfl)
    · exact st_bin .eql 23 23 (.tmp 24) _ rfl (K.dep 0 24 rfl) rfl (by kernel_rfl)
    · exact st_move (.tmp 25) rfl (K.dep 1 25 rfl)
    · exact st_move (.tmp 0) rfl (K.t x0 rfl)
    · exact st_call 10 (.func 10) _ _ _ rfl rfl (arg2 (K.dep 3 27 rfl) rfl) Try.enter10 (fk_smallo hln (Fk.mono _ _ _ _ hv (bgo bl K.grow)) (by symm; rw [decide_eq_true_iff]; exact h1s))
    · exact st_not (.tmp 28) rfl true (K.dep 4 28 rfl)
    · exact st_pick_f' (.tmp 26) (.const (.bool true)) (.tmp 29) rfl (K.dep 2 26 rfl) (K.dep 5 29 rfl)
    · exact st_move (.tmp 30) rfl (K.dep 6 30 rfl)
    · exact st_move (.tmp 1) rfl (K.t x1 rfl)
    · exact st_call 10 (.func 10) _ _ _ rfl rfl (arg2 (K.dep 8 32 rfl) rfl) Try.enter10 (fk_smallo hln2 (Fk.mono _ _ _ _ hv2 (bgo bl K.grow)) (by symm; rw [decide_eq_false_iff_not]; exact h2s))
    · exact st_not (.tmp 33) rfl false (K.dep 9 33 rfl)
    · exact st_pick_f' (.tmp 31) (.const (.bool true)) (.tmp 34) rfl (K.dep 7 31 rfl) (K.dep 10 34 rfl)
    · exact st_move (.tmp 35) rfl (K.dep 11 35 rfl)
    · exact (Bool.false_ne_true hw).elim
    · exact (Bool.false_ne_true hw).elim
    · exact (Bool.false_ne_true hw).elim
    · exact st_pick_t (.tmp 36) (.const (.bool true)) (.tmp 39) rfl (K.dep 12 36 rfl) rfl
    intro f5 w5 A hb
    replace x0 := A.t x0 rfl
    replace x1 := A.t x1 rfl
    replace x2 := A.t x2 rfl
    replace x7 := A.t x7 rfl
    have x40 := A.e 16 40 rfl rfl
    replace hd := HD.below hd hb
    replace bl := bgo bl hb
    replace sd := A.sd sd
    clear A hb
    show Code.wp _ _ _ _ _
    refine wp_cond_true x40 ?_
    refine wp_seq ?_
    refine wr_a [.eq (.pointer (some ⟨gd, 0, none⟩)), .eq (.bool true), .eq (.bool true), .eq (.bool true), .eq (.bool true), .eq (.bool true)] (by rw [sd.1]; kernel_rfl) ⟨fun hw ac u K => ?_, fun hw ac u K => ?_, fun hw ac u K => ?_, fun hw ac u K => ?_, fun hw ac u K => ?_, fun hw ac u K => ?_, trivial⟩ ?_
    · exact st_move (.tmp 7) rfl (K.t x7 rfl)
    · exact st_bin .neq 23 23 (.tmp 41) _ rfl (K.dep 0 41 rfl) rfl (by kernel_rfl)
    · exact st_move (.tmp 42) rfl (K.dep 1 42 rfl)
    · exact st_call 9 (.func 9) _ _ _ rfl rfl rfl Try.enter9 (awake_any _)
    · exact st_pick_t (.tmp 43) (.tmp 44) (.const (.bool false)) rfl (K.dep 2 43 rfl) (K.dep 3 44 rfl)
    · exact st_assign (.tmp 45) rfl (K.dep 4 45 rfl)
    intro f6 w6 A hb
    replace x0 := A.t x0 rfl
    replace x1 := A.t x1 rfl
    replace x2 := A.t x2 rfl
    replace x7 := A.t x7 rfl
    replace x40 := A.t x40 rfl
    have x6 := A.e 5 6 rfl rfl
    replace hd := HD.below hd hb
    replace bl := bgo bl hb
    replace sd := A.sd sd
    clear A hb
    clear x0
    clear x1
    clear x2
    clear x7
    clear x40
    show Code.wp _ _ _ _ _
    refine wp_ret ?_
    repeat (first | with_reducible refine then_ret ?_ | with_reducible refine block_ret ?_)
    exact bodyPost_ret (v := .bool true) (ret_slot rfl f6 _ x6 _ _) sd.2 ⟨rfl, bl⟩
  · skip
    refine wr_a [.eq (.pointer (some ⟨gd, 0, none⟩)), .eq (.bool false), .eq (.bool false), .eq (v), .eq (.bool true), .eq (.bool false), .eq (.bool false), .eq (.bool false), .eq (v2), .eq (.bool true), .eq (.bool false), .eq (.bool false), .eq (.bool false), .eq (vl), .eq (.int .i64 (((ls).length : Nat) : Int)), .eq (.bool true), .eq (.bool true)] (by rw [sd.1]; kernel_rfl) ⟨fun hw ac u K => ?_, fun hw ac u K => ?_, fun hw ac u K => ?_, fun hw ac u K => ?_, fun hw ac u K => ?_, fun hw ac u K => ?_, fun hw ac u K => ?_, fun hw ac u K => ?_, fun hw ac u K => ?_, fun hw ac u K => ?_, fun hw ac u K => ?_, fun hw ac u K => ?_, fun hw ac u K => ?_, fun hw ac u K => ?_, fun hw ac u K => ?_, fun hw ac u K => ?_, fun hw ac u K => ?_, trivial⟩ ?_
    · exact st_move (.tmp 7) rfl (K.t x7 rfl)
    · exact st_bin .eql 23 23 (.tmp 24) _ rfl (K.dep 0 24 rfl) rfl (by kernel_rfl)
    · exact st_move (.tmp 25) rfl (K.dep 1 25 rfl)
    · exact st_move (.tmp 0) rfl (K.t x0 rfl)
    · exact st_call 10 (.func 10) _ _ _ rfl rfl (arg2 (K.dep 3 27 rfl) rfl) Try.enter10 (fk_smallo hln (Fk.mono _ _ _ _ hv (bgo bl K.grow)) (by symm; rw [decide_eq_true_iff]; exact h1s))
    · exact st_not (.tmp 28) rfl true (K.dep 4 28 rfl)
    · exact st_pick_f' (.tmp 26) (.const (.bool true)) (.tmp 29) rfl (K.dep 2 26 rfl) (K.dep 5 29 rfl)
    · exact st_move (.tmp 30) rfl (K.dep 6 30 rfl)
    · exact st_move (.tmp 1) rfl (K.t x1 rfl)
    · exact st_call 10 (.func 10) _ _ _ rfl rfl (arg2 (K.dep 8 32 rfl) rfl) Try.enter10 (fk_smallo hln2 (Fk.mono _ _ _ _ hv2 (bgo bl K.grow)) (by symm; rw [decide_eq_true_iff]; exact h2s))
    · exact st_not (.tmp 33) rfl true (K.dep 9 33 rfl)
    · exact st_pick_f' (.tmp 31) (.const (.bool true)) (.tmp 34) rfl (K.dep 7 31 rfl) (K.dep 10 34 rfl)
    · exact st_move (.tmp 35) rfl (K.dep 11 35 rfl)
    · exact st_move (.tmp 2) rfl (K.t x2 rfl)
    · exact st_lenis (.tmp 37) rfl (fk_val (K.dep 13 37 rfl) (Fk.mono _ _ _ _ hls (bgo bl K.grow)))
    · exact st_gtr 3 (.tmp 38) (.const (.int .i64 40)) rfl .i64 ((((ls).length : Nat) : Int)) (40) (K.dep 14 38 rfl) rfl _ (by rw [eq_comm, decide_eq_true_iff]; omega)
    · exact st_pick_f' (.tmp 36) (.const (.bool true)) (.tmp 39) rfl (K.dep 12 36 rfl) (K.dep 15 39 rfl)
    intro f5 w5 A hb
    replace x0 := A.t x0 rfl
    replace x1 := A.t x1 rfl
    replace x2 := A.t x2 rfl
    replace x7 := A.t x7 rfl
    have x40 := A.e 16 40 rfl rfl
    replace hd := HD.below hd hb
    replace bl := bgo bl hb
    replace sd := A.sd sd
    clear A hb
    show Code.wp _ _ _ _ _
    refine wp_cond_true x40 ?_
    refine wp_seq ?_
    refine wr_a [.eq (.pointer (some ⟨gd, 0, none⟩)), .eq (.bool true), .eq (.bool true), .eq (.bool true), .eq (.bool true), .eq (.bool true)] (by rw [sd.1]; kernel_rfl) ⟨fun hw ac u K => ?_, fun hw ac u K => ?_, fun hw ac u K => ?_, fun hw ac u K => ?_, fun hw ac u K => ?_, fun hw ac u K => ?_, trivial⟩ ?_
    · exact st_move (.tmp 7) rfl (K.t x7 rfl)
    · exact st_bin .neq 23 23 (.tmp 41) _ rfl (K.dep 0 41 rfl) rfl (by kernel_rfl)
    · exact st_move (.tmp 42) rfl (K.dep 1 42 rfl)
    · exact st_call 9 (.func 9) _ _ _ rfl rfl rfl Try.enter9 (awake_any _)
    · exact st_pick_t (.tmp 43) (.tmp 44) (.const (.bool false)) rfl (K.dep 2 43 rfl) (K.dep 3 44 rfl)
    · exact st_assign (.tmp 45) rfl (K.dep 4 45 rfl)
    intro f6 w6 A hb
    replace x0 := A.t x0 rfl
    replace x1 := A.t x1 rfl
    replace x2 := A.t x2 rfl
    replace x7 := A.t x7 rfl
    replace x40 := A.t x40 rfl
    have x6 := A.e 5 6 rfl rfl
    replace hd := HD.below hd hb
    replace bl := bgo bl hb
    replace sd := A.sd sd
    clear A hb
    clear x0
    clear x1
    clear x2
    clear x7
    clear x40
    show Code.wp _ _ _ _ _
    refine wp_ret ?_
    repeat (first | with_reducible refine then_ret ?_ | with_reducible refine block_ret ?_)
    exact bodyPost_ret (v := .bool true) (ret_slot rfl f6 _ x6 _ _) sd.2 ⟨rfl, bl⟩
  refine wr_a [.eq (.pointer (some ⟨gd, 0, none⟩)), .eq (.bool false), .eq (.bool false), .eq (v), .eq (.bool true), .eq (.bool false), .eq (.bool false), .eq (.bool false), .eq (v2), .eq (.bool true), .eq (.bool false), .eq (.bool false), .eq (.bool false), .eq (vl), .eq (.int .i64 (((ls).length : Nat) : Int)), .eq (.bool false), .eq (.bool false)] (by rw [sd.1]; kernel_rfl) ⟨fun hw ac u K => ?_, fun hw ac u K => ?_, fun hw ac u K => ?_, fun hw ac u K => ?_, fun hw ac u K => ?_, fun hw ac u K => ?_, fun hw ac u K => ?_, fun hw ac u K => ?_, fun hw ac u K => ?_, fun hw ac u K => ?_, fun hw ac u K => ?_, fun hw ac u K => ?_, fun hw ac u K => ?_, fun hw ac u K => ?_, fun hw ac u K => ?_, fun hw ac u K => ?_, fun hw ac u K => ?_, trivial⟩ ?_
  · exact st_move (.tmp 7) rfl (K.t x7 rfl)
  · exact st_bin .eql 23 23 (.tmp 24) _ rfl (K.dep 0 24 rfl) rfl (by kernel_rfl)
  · exact st_move (.tmp 25) rfl (K.dep 1 25 rfl)
  · exact st_move (.tmp 0) rfl (K.t x0 rfl)
  · exact st_call 10 (.func 10) _ _ _ rfl rfl (arg2 (K.dep 3 27 rfl) rfl) Try.enter10 (fk_smallo hln (Fk.mono _ _ _ _ hv (bgo bl K.grow)) (by symm; rw [decide_eq_true_iff]; exact h1s))
  · exact st_not (.tmp 28) rfl true (K.dep 4 28 rfl)
  · exact st_pick_f' (.tmp 26) (.const (.bool true)) (.tmp 29) rfl (K.dep 2 26 rfl) (K.dep 5 29 rfl)
  · exact st_move (.tmp 30) rfl (K.dep 6 30 rfl)
  · exact st_move (.tmp 1) rfl (K.t x1 rfl)
  · exact st_call 10 (.func 10) _ _ _ rfl rfl (arg2 (K.dep 8 32 rfl) rfl) Try.enter10 (fk_smallo hln2 (Fk.mono _ _ _ _ hv2 (bgo bl K.grow)) (by symm; rw [decide_eq_true_iff]; exact h2s))
  · exact st_not (.tmp 33) rfl true (K.dep 9 33 rfl)
  · exact st_pick_f' (.tmp 31) (.const (.bool true)) (.tmp 34) rfl (K.dep 7 31 rfl) (K.dep 10 34 rfl)
  · exact st_move (.tmp 35) rfl (K.dep 11 35 rfl)
  · exact st_move (.tmp 2) rfl (K.t x2 rfl)
  · exact st_lenis (.tmp 37) rfl (fk_val (K.dep 13 37 rfl) (Fk.mono _ _ _ _ hls (bgo bl K.grow)))
  · exact st_gtr 3 (.tmp 38) (.const (.int .i64 40)) rfl .i64 ((((ls).length : Nat) : Int)) (40) (K.dep 14 38 rfl) rfl _ (by rw [eq_comm, decide_eq_false_iff_not]; omega)
  · exact st_pick_f' (.tmp 36) (.const (.bool true)) (.tmp 39) rfl (K.dep 12 36 rfl) (K.dep 15 39 rfl)
  intro f5 w5 A hb
  replace x0 := A.t x0 rfl
  replace x1 := A.t x1 rfl
  replace x2 := A.t x2 rfl
  replace x7 := A.t x7 rfl
  have x40 := A.e 16 40 rfl rfl
  replace hd := HD.below hd hb
  replace bl := bgo bl hb
  replace sd := A.sd sd
  clear A hb
  show Code.wp _ _ _ _ _
  refine wp_cond_false x40 ?_
  refine wp_skip ?_
  show Code.wp _ _ _ _ _
  refine wp_seq ?_
  refine wp_seq ?_
  have gs0 := gd_new 10 16
  have on0 : On (newd 10 16) := ⟨rfl, rfl⟩
  have hll : l.length ≤ 30 := by have := h1s.2; omega
  have hll2 : l2.length ≤ 30 := by have := h2s.2; omega
  refine wr_a [.eq (v), .eq (.int .i64 (((l).length : Nat) : Int)), .eq (.int .i64 0)] (by rw [sd.1]; kernel_rfl) ⟨fun hw ac u K => ?_, fun hw ac u K => ?_, fun hw ac u K => ?_, trivial⟩ ?_
  · exact st_move (.tmp 0) rfl (K.t x0 rfl)
  · exact st_leno (.tmp 46) rfl (fk_val (K.dep 0 46 rfl) (Fk.mono _ _ _ _ hv (bgo bl K.grow)))
  · exact st_move (.const (.int .i64 0)) rfl rfl
  intro f6 w6 A hb
  replace x0 := A.t x0 rfl
  replace x1 := A.t x1 rfl
  replace x2 := A.t x2 rfl
  replace x7 := A.t x7 rfl
  replace x40 := A.t x40 rfl
  have x46 := A.e 0 46 rfl rfl
  have x47 := A.e 1 47 rfl rfl
  have x48 := A.e 2 48 rfl rfl
  replace hd := HD.below hd hb
  replace bl := bgo bl hb
  replace sd := A.sd sd
  clear A hb
  clear x0
  clear x40
  show Code.wp _ _ _ _ _
  refine wp_block ?_
  refine wp_loop (fun f v1 => ∃ (k : Nat) (s : Dst) (DD : Nat → Prop), k ≤ l.length ∧ Gd s 10 16 k ∧ On s ∧ (∀ j, DD j → w.heap.size ≤ j) ∧ f.tmps.size = 154 ∧ f.defers = [] ∧ f.eval (.tmp 1) = v2 ∧ f.eval (.tmp 2) = vl ∧ f.eval (.tmp 7) = .pointer (some ⟨gd, 0, none⟩) ∧ f.eval (.tmp 46) = v ∧ f.eval (.tmp 47) = .int .i64 (((l).length : Nat) : Int) ∧ f.eval (.tmp 48) = .int .i64 (k : Int) ∧ HD v1 gd M DD s ∧ Below w.heap.size w (v1)) (fun f _ => l.length - (intOf (f.eval (.tmp 48))).toNat) ⟨0, newd 10 16, DD, Nat.zero_le _, gs0, on0, hDD, sd.1, sd.2, x1, x2, x7, x46, x47, x48, hd, bl⟩ ?_
  intro f7 w7 hI
  clear sd bl bl0 x1 x2 x7 x46 x47 x48 hd
  obtain ⟨k, s, DD, hk9, gs, hon9, hDD, sz, df, x1, x2, x7, x46, x47, x48, hd, bl⟩ := hI
  have sd := And.intro sz df
  clear sz df
  have bl0 := bl
  have hcnt := x48
  clear gs0 on0
  refine wp_seq ?_
  by_cases hlt : k < l.length
  rotate_left
  · skip
    refine wr_a [.eq (.bool false)] (by rw [sd.1]; kernel_rfl) ⟨fun hw ac u K => ?_, trivial⟩ ?_
    · exact st_lss 3 (.tmp 48) (.tmp 47) rfl .i64 ((k : Int)) ((((l).length : Nat) : Int)) (K.t x48 rfl) (K.t x47 rfl) _ (by rw [eq_comm, decide_eq_false_iff_not]; exact fun h => hlt (Int.ofNat_lt.1 h))
    intro f8 w8 A hb
    replace x1 := A.t x1 rfl
    replace x2 := A.t x2 rfl
    replace x7 := A.t x7 rfl
    replace x46 := A.t x46 rfl
    replace x47 := A.t x47 rfl
    replace x48 := A.t x48 rfl
    have x49 := A.e 0 49 rfl rfl
    replace hd := HD.below hd hb
    replace bl := bgo bl hb
    replace sd := A.sd sd
    clear A hb
    show Code.wp _ _ _ _ _
    refine wp_seq ?_
    refine wp_cond_false x49 ?_
    refine wp_exit ?_
    show Code.wp _ _ _ _ _
    refine wp_seq ?_
    refine wp_seq ?_
    clear x46
    clear x47
    clear x48
    refine wr_s [.eq (.pointer (some ⟨gd, 0, none⟩))] (by rw [sd.1]; kernel_rfl) ⟨fun hw ac u K => ?_, trivial⟩ ?_
    · exact st_move (.tmp 7) rfl (K.t x7 rfl)
    intro f9 w9 A hb
    replace x1 := A.t x1 rfl
    replace x2 := A.t x2 rfl
    replace x7 := A.t x7 rfl
    replace x49 := A.t x49 rfl
    have x59 := A.e 0 59 rfl rfl
    replace hd := HD.below hd hb
    replace bl := bgo bl hb
    replace sd := A.sd sd
    clear A hb
    clear x49
    refine wl_call 19 (.func 19) _ _ #[.pointer (some ⟨gd, 0, none⟩)] rfl 60 rfl (by rw [sd.1]; decide) rfl rfl (one_arg x59) Try.enter19 (fun u W' => ∃ D2 : Nat → Prop, u = .int .i64 0 ∧ HD W' gd M D2 ((flu s).2) ∧ (∀ j, D2 j → DD j ∨ w9.heap.size ≤ j) ∧ Fr M w9 W') (((show Calls Try.prog 19 #[.pointer (some ⟨gd, 0, none⟩)] w9 (fun e w' => ∃ D', e = .returned (.int .i64 0) ∧ HD w' gd M D' (flu s).2 ∧ _) from by have := fk_dflush hd (by have := gs.done; omega) (by have := gs.has; omega); rw [show (flu s).1 = 0 from by rw [flu_on hon9]] at this; exact this)).mono (by rintro e w' ⟨D2, rfl, q⟩; exact ⟨_, rfl, D2, rfl, q⟩)) ?_
    rintro f10 w10 df2 sz2 old2 ⟨D2, x60, hd2, hD2, O⟩
    have OM := O
    replace O := O.mono hd.sub
    replace x1 := tr old2 x1 rfl
    replace x2 := tr old2 x2 rfl
    replace x7 := tr old2 x7 rfl
    replace x59 := tr old2 x59 rfl
    have bl9 := bl.trans (O.below bl.size hDD)
    replace hDD : ∀ j, D2 j → w.heap.size ≤ j := fun j q => (hD2 j q).elim (hDD j) (fun q => Nat.le_trans bl.size q)
    replace bl := bl9
    replace bl0 := bl
    replace hd := hd2
    replace sd := sd2 sz2 df2 sd
    clear df2 sz2 old2 hd2 bl9
    clear O OM hD2
    clear DD
    obtain ⟨DD, rfl⟩ : ∃ E, E = D2 := ⟨_, rfl⟩
    clear x59
    refine wl_one (.eq (.bool false)) rfl 61 rfl (by rw [sd.1]; decide) (st_neqi 37 (.tmp 60) (.const (.int .i64 0)) rfl .i64 (0) (0) x60 rfl _ (by simp)) ?_
    intro f11 w11 df2 sz2 old2 new2 hb
    replace x1 := tr old2 x1 rfl
    replace x2 := tr old2 x2 rfl
    replace x7 := tr old2 x7 rfl
    replace x60 := tr old2 x60 rfl
    have x61 := Fk.e new2
    replace hd := HD.below hd hb
    replace bl := bgo bl hb
    replace sd := sd2 sz2 df2 sd
    clear df2 sz2 old2 new2 hb
    refine wpList_nil ?_
    clear x60
    have hcn := flu_cch hon9
    have gs1 : Gd (flu s).2 10 16 31 := (gd_flu gs).le (by omega)
    have hon1 := on_flu hon9
    obtain ⟨s0, hs0⟩ : ∃ q, q = (flu s).2 := ⟨_, rfl⟩
    rw [← hs0] at hd hcn gs1 hon1
    clear hs0 gs hon9
    show Code.wp _ _ _ _ _
    refine wp_cond_false x61 ?_
    refine wp_skip ?_
    show Code.wp _ _ _ _ _
    refine wp_seq ?_
    refine wr_s [] (by rw [sd.1]; kernel_rfl) trivial ?_
    intro f12 w12 A hb
    replace x1 := A.t x1 rfl
    replace x2 := A.t x2 rfl
    replace x7 := A.t x7 rfl
    replace x61 := A.t x61 rfl
    replace hd := HD.below hd hb
    replace bl := bgo bl hb
    replace sd := A.sd sd
    clear A hb
    clear x61
    have hdl := hd.lt
    have hrun := (run_makeI (P := Try.prog) (t := 44) w12).1
    have him := (run_makeI (P := Try.prog) (t := 44) w12).2
    have hb := (Below.refl w12.heap.size w12).alloc (Nat.le_refl _) (.map #[] 0)
    refine wl_execl rfl 62 rfl (by rw [sd.1]; decide) (v := .map (some w12.heap.size)) (w2 := w12.alloc (.map #[] 0)) (by unfold execOp; simp [hrun]) ?_
    intro f13 df2 sz2 old2 x62
    generalize w12.alloc (.map #[] 0) = w13 at hb him ⊢
    obtain ⟨b9, hb9⟩ : ∃ q, q = w12.heap.size := ⟨_, rfl⟩
    rw [← hb9] at x62 him
    have hmr : Mr w13 w.heap.size b9 DD 0 (tsd s0) [] := Mr.nil him (by rw [hb9]; exact bl.size) (fun q => by have := hdl _ q; omega)
    clear hb9 hrun him hdl
    replace x1 := tr old2 x1 rfl
    replace x2 := tr old2 x2 rfl
    replace x7 := tr old2 x7 rfl
    replace hd := HD.below hd hb
    replace bl := bgo bl hb
    replace bl0 := bl
    replace sd := sd2 sz2 df2 sd
    clear df2 sz2 old2 hb
    refine wl_one (.eq (.map (some b9))) rfl 10 rfl (by rw [sd.1]; decide) (st_assign (.tmp 62) rfl x62) ?_
    intro f14 w14 df2 sz2 old2 new2 hb
    replace x1 := tr old2 x1 rfl
    replace x2 := tr old2 x2 rfl
    replace x7 := tr old2 x7 rfl
    replace x62 := tr old2 x62 rfl
    have x10 := Fk.e new2
    replace hd := HD.below hd hb
    replace hmr := Mr.below hmr hb
    replace bl := bgo bl hb
    replace sd := sd2 sz2 df2 sd
    clear df2 sz2 old2 new2 hb
    refine wpList_nil ?_
    clear x62
    show Code.wp _ _ _ _ _
    refine wp_seq ?_
    refine wp_seq ?_
    refine wr_a [.eq (.int .i64 0)] (by rw [sd.1]; kernel_rfl) ⟨fun hw ac u K => ?_, trivial⟩ ?_
    · exact st_move (.const (.int .i64 0)) rfl rfl
    intro f15 w15 A hb
    replace x1 := A.t x1 rfl
    replace x2 := A.t x2 rfl
    replace x7 := A.t x7 rfl
    replace x10 := A.t x10 rfl
    have x63 := A.e 0 63 rfl rfl
    replace hd := HD.below hd hb
    replace hmr := Mr.below hmr hb
    replace bl := bgo bl hb
    replace sd := A.sd sd
    clear A hb
    show Code.wp _ _ _ _ _
    refine wp_block ?_
    refine wp_loop (fun f v1 => ∃ (k : Nat) (DD : Nat → Prop) (lm : List (Int × Value)), k ≤ 10 ∧ (∀ j, DD j → w.heap.size ≤ j) ∧ f.tmps.size = 154 ∧ f.defers = [] ∧ f.eval (.tmp 1) = v2 ∧ f.eval (.tmp 2) = vl ∧ f.eval (.tmp 7) = .pointer (some ⟨gd, 0, none⟩) ∧ f.eval (.tmp 10) = .map (some b9) ∧ f.eval (.tmp 63) = .int .i64 (k : Int) ∧ HD v1 gd M DD s0 ∧ Mr v1 w.heap.size b9 DD k (tsd s0) lm ∧ Below w.heap.size w (v1)) (fun f _ => 10 - (intOf (f.eval (.tmp 63))).toNat) ⟨0, DD, [], Nat.zero_le _, hDD, sd.1, sd.2, x1, x2, x7, x10, x63, hd, hmr, bl⟩ ?_
    intro f16 w16 hI
    clear sd bl bl0 x1 x2 x7 x10 x63 hd hmr
    obtain ⟨k, DD, lm, hk9, hDD, sz, df, x1, x2, x7, x10, x63, hd, hmr, bl⟩ := hI
    have sd := And.intro sz df
    clear sz df
    have bl0 := bl
    have hcnt := x63
    refine wp_seq ?_
    by_cases hlt : k < 10
    rotate_left
    · skip
      have hk10 : k = 10 := by omega
      rw [hk10] at hmr
      refine wr_a [.eq (.bool false)] (by rw [sd.1]; kernel_rfl) ⟨fun hw ac u K => ?_, trivial⟩ ?_
      · exact st_lss 3 (.tmp 63) (.const (.int .i64 10)) rfl .i64 ((k : Int)) (10) (K.t x63 rfl) rfl _ (by rw [eq_comm, decide_eq_false_iff_not]; omega)
      intro f17 w17 A hb
      replace x1 := A.t x1 rfl
      replace x2 := A.t x2 rfl
      replace x7 := A.t x7 rfl
      replace x10 := A.t x10 rfl
      replace x63 := A.t x63 rfl
      have x64 := A.e 0 64 rfl rfl
      replace hd := HD.below hd hb
      replace hmr := Mr.below hmr hb
      replace bl := bgo bl hb
      replace sd := A.sd sd
      clear A hb
      show Code.wp _ _ _ _ _
      refine wp_seq ?_
      refine wp_cond_false x64 ?_
      refine wp_exit ?_
      show Code.wp _ _ _ _ _
      refine wp_seq ?_
      refine wp_seq ?_
      clear x63
      obtain ⟨s, hs9⟩ : ∃ q, q = s0 := ⟨_, rfl⟩
      rw [← hs9] at hd hmr gs1 hon1
      have hsh : s.has = s0.has := by rw [hs9]
      clear hs9
      refine wr_a [.eq (v2), .eq (.int .i64 (((l2).length : Nat) : Int)), .eq (.int .i64 0)] (by rw [sd.1]; kernel_rfl) ⟨fun hw ac u K => ?_, fun hw ac u K => ?_, fun hw ac u K => ?_, trivial⟩ ?_
      · exact st_move (.tmp 1) rfl (K.t x1 rfl)
      · exact st_leno (.tmp 84) rfl (fk_val (K.dep 0 84 rfl) (Fk.mono _ _ _ _ hv2 (bgo bl K.grow)))
      · exact st_move (.const (.int .i64 0)) rfl rfl
      intro f18 w18 A hb
      replace x1 := A.t x1 rfl
      replace x2 := A.t x2 rfl
      replace x7 := A.t x7 rfl
      replace x10 := A.t x10 rfl
      replace x64 := A.t x64 rfl
      have x84 := A.e 0 84 rfl rfl
      have x85 := A.e 1 85 rfl rfl
      have x86 := A.e 2 86 rfl rfl
      replace hd := HD.below hd hb
      replace hmr := Mr.below hmr hb
      replace bl := bgo bl hb
      replace sd := A.sd sd
      clear A hb
      clear x64
      show Code.wp _ _ _ _ _
      refine wp_block ?_
      refine wp_loop (fun f v1 => ∃ (k : Nat) (s : Dst) (DD : Nat → Prop) (lm : List (Int × Value)), k ≤ l2.length ∧ Gd s 10 16 (31 + k) ∧ On s ∧ (∀ j, DD j → w.heap.size ≤ j) ∧ f.tmps.size = 154 ∧ f.defers = [] ∧ f.eval (.tmp 1) = v2 ∧ f.eval (.tmp 2) = vl ∧ f.eval (.tmp 7) = .pointer (some ⟨gd, 0, none⟩) ∧ f.eval (.tmp 10) = .map (some b9) ∧ f.eval (.tmp 84) = v2 ∧ f.eval (.tmp 85) = .int .i64 (((l2).length : Nat) : Int) ∧ f.eval (.tmp 86) = .int .i64 (k : Int) ∧ HD v1 gd M DD s ∧ Mr v1 w.heap.size b9 DD 10 (tsd s) lm ∧ Below w.heap.size w (v1)) (fun f _ => l2.length - (intOf (f.eval (.tmp 86))).toNat) ⟨0, s, DD, lm, Nat.zero_le _, gs1, hon1, hDD, sd.1, sd.2, x1, x2, x7, x10, x84, x85, x86, hd, hmr, bl⟩ ?_
      intro f19 w19 hI
      clear sd bl bl0 x1 x2 x7 x10 x84 x85 x86 hd hmr
      obtain ⟨k, s, DD, lm, hk9, gs, hon9, hDD, sz, df, x1, x2, x7, x10, x84, x85, x86, hd, hmr, bl⟩ := hI
      have sd := And.intro sz df
      clear sz df
      have bl0 := bl
      have hcnt := x86
      refine wp_seq ?_
      by_cases hlt : k < l2.length
      rotate_left
      · skip
        refine wr_a [.eq (.bool false)] (by rw [sd.1]; kernel_rfl) ⟨fun hw ac u K => ?_, trivial⟩ ?_
        · exact st_lss 3 (.tmp 86) (.tmp 85) rfl .i64 ((k : Int)) ((((l2).length : Nat) : Int)) (K.t x86 rfl) (K.t x85 rfl) _ (by rw [eq_comm, decide_eq_false_iff_not]; exact fun h => hlt (Int.ofNat_lt.1 h))
        intro f20 w20 A hb
        replace x1 := A.t x1 rfl
        replace x2 := A.t x2 rfl
        replace x7 := A.t x7 rfl
        replace x10 := A.t x10 rfl
        replace x84 := A.t x84 rfl
        replace x85 := A.t x85 rfl
        replace x86 := A.t x86 rfl
        have x87 := A.e 0 87 rfl rfl
        replace hd := HD.below hd hb
        replace hmr := Mr.below hmr hb
        replace bl := bgo bl hb
        replace sd := A.sd sd
        clear A hb
        show Code.wp _ _ _ _ _
        refine wp_seq ?_
        refine wp_cond_false x87 ?_
        refine wp_exit ?_
        show Code.wp _ _ _ _ _
        refine wp_seq ?_
        clear x84
        clear x85
        clear x86
        refine wr_s [.eq (.pointer (some ⟨gd, 0, none⟩)), .eq (vl)] (by rw [sd.1]; kernel_rfl) ⟨fun hw ac u K => ?_, fun hw ac u K => ?_, trivial⟩ ?_
        · exact st_move (.tmp 7) rfl (K.t x7 rfl)
        · exact st_move (.tmp 2) rfl (K.t x2 rfl)
        intro f21 w21 A hb
        replace x1 := A.t x1 rfl
        replace x2 := A.t x2 rfl
        replace x7 := A.t x7 rfl
        replace x10 := A.t x10 rfl
        replace x87 := A.t x87 rfl
        have x111 := A.e 0 111 rfl rfl
        have x112 := A.e 1 112 rfl rfl
        replace hd := HD.below hd hb
        replace hmr := Mr.below hmr hb
        replace bl := bgo bl hb
        replace sd := A.sd sd
        clear A hb
        clear x87
        refine wl_call 14 (.func 14) _ _ #[.pointer (some ⟨gd, 0, none⟩), vl] rfl 113 rfl (by rw [sd.1]; decide) rfl rfl (two_arg x111 x112) Try.enter14 (fun u W' => ∃ D2 : Nat → Prop, u = .tuple #[] ∧ HD W' gd M D2 (crs s ls) ∧ (∀ j, D2 j → DD j ∨ w21.heap.size ≤ j) ∧ Fr M w21 W') ((fk_dcrash hd (by have := gs.has; omega) (Fk.mono _ _ _ _ hls bl) hlw (by omega)).mono (by rintro e w' ⟨D2, rfl, q⟩; exact ⟨_, rfl, D2, rfl, q⟩)) ?_
        rintro f22 w22 df2 sz2 old2 ⟨D2, x113, hd2, hD2, O⟩
        have OM := O
        replace O := O.mono hd.sub
        replace x1 := tr old2 x1 rfl
        replace x2 := tr old2 x2 rfl
        replace x7 := tr old2 x7 rfl
        replace x10 := tr old2 x10 rfl
        replace x111 := tr old2 x111 rfl
        replace x112 := tr old2 x112 rfl
        have hml := hmr.lt
        replace hmr := hmr.disk O hD2
        clear hml
        have bl9 := bl.trans (O.below bl.size hDD)
        replace hDD : ∀ j, D2 j → w.heap.size ≤ j := fun j q => (hD2 j q).elim (hDD j) (fun q => Nat.le_trans bl.size q)
        replace bl := bl9
        replace bl0 := bl
        replace hd := hd2
        replace sd := sd2 sz2 df2 sd
        clear df2 sz2 old2 hd2 bl9
        clear O OM hD2
        clear DD
        obtain ⟨DD, rfl⟩ : ∃ E, E = D2 := ⟨_, rfl⟩
        refine wpList_nil ?_
        clear x111
        clear x112
        clear x113
        have gc := gd_crs gs ls
        have honc := on_crs s ls
        have hin := fun i (hi : i < 10) => crs_in gs ls hi
        have hclp := clp_crs (s := s) ls
        obtain ⟨sc, hsc⟩ : ∃ q, q = crs s ls := ⟨_, rfl⟩
        rw [← hsc] at hd gc honc hclp
        simp only [← hsc] at hin
        clear hsc
        show Code.wp _ _ _ _ _
        refine wp_seq ?_
        refine wp_seq ?_
        refine wr_s [.eq (.map (some b9))] (by rw [sd.1]; kernel_rfl) ⟨fun hw ac u K => ?_, trivial⟩ ?_
        · exact st_move (.tmp 10) rfl (K.t x10 rfl)
        intro f23 w23 A hb
        replace x1 := A.t x1 rfl
        replace x2 := A.t x2 rfl
        replace x7 := A.t x7 rfl
        replace x10 := A.t x10 rfl
        have x114 := A.e 0 114 rfl rfl
        replace hd := HD.below hd hb
        replace hmr := Mr.below hmr hb
        replace bl := bgo bl hb
        replace sd := A.sd sd
        clear A hb
        have hdl := hd.lt
        obtain ⟨w24, hrun, hit, hb⟩ := run_rangeI (P := Try.prog) (t := 44) mapS hmr.im
        refine wl_execl rfl 115 rfl (by rw [sd.1]; decide) (v := .pointer (some ⟨w23.heap.size, 0, none⟩)) (w2 := w24) (by unfold execOp; simp [x114, hrun]) ?_
        intro f24 df2 sz2 old2 x115
        obtain ⟨r9, hr9⟩ : ∃ q, q = w23.heap.size := ⟨_, rfl⟩
        rw [← hr9] at hit x115
        have hrD : ¬ DD r9 := fun q => by have := hdl _ q; omega
        have hwr : w.heap.size ≤ r9 := by rw [hr9]; exact bl.size
        have hrlt : ∀ g : Nat, g < w23.heap.size → g ≠ r9 := fun g h e => by omega
        have hrow9 : ∀ k v, mget lm k = some v → v.ownBlock ≠ some r9 := fun k v h e => by obtain ⟨g7, e7, _, _, q7, _⟩ := hmr.own h; rw [e] at e7; cases e7; omega
        clear hr9 hrlt hdl hrun
        replace x1 := tr old2 x1 rfl
        replace x2 := tr old2 x2 rfl
        replace x7 := tr old2 x7 rfl
        replace x10 := tr old2 x10 rfl
        replace x114 := tr old2 x114 rfl
        replace hd := HD.below hd hb
        replace hmr := Mr.below hmr hb
        replace bl := bgo bl hb
        replace bl0 := bl
        replace sd := sd2 sz2 df2 sd
        clear df2 sz2 old2 hb
        refine wpList_nil ?_
        clear x114
        show Code.wp _ _ _ _ _
        refine wp_block ?_
        refine wp_loop (fun f v1 => ∃ (V : List (Int × Value)) (DD : Nat → Prop), (∀ j, DD j → w.heap.size ≤ j) ∧ (¬ DD r9) ∧ f.tmps.size = 154 ∧ f.defers = [] ∧ f.eval (.tmp 1) = v2 ∧ f.eval (.tmp 2) = vl ∧ f.eval (.tmp 7) = .pointer (some ⟨gd, 0, none⟩) ∧ f.eval (.tmp 10) = .map (some b9) ∧ f.eval (.tmp 115) = .pointer (some ⟨r9, 0, none⟩) ∧ HD v1 gd M DD sc ∧ Mr v1 w.heap.size b9 DD 10 (tsd s) lm ∧ It v1 r9 b9 lm V ∧ Below w.heap.size w (v1)) (fun _ v => itm v r9 lm.length) ⟨[], DD, hDD, hrD, sd.1, sd.2, x1, x2, x7, x10, x115, hd, hmr, hit, bl⟩ ?_
        intro f25 w25 hI
        clear sd bl bl0 x1 x2 x7 x10 x115 hd hmr hit
        obtain ⟨V, DD, hDD, hrD, sz, df, x1, x2, x7, x10, x115, hd, hmr, hit, bl⟩ := hI
        have sd := And.intro sz df
        clear sz df
        have bl0 := bl
        have hml := hit.left.1
        refine wp_seq ?_
        by_cases hall : ∀ p ∈ lm, p ∈ V
        rotate_left
        · skip
          refine wr_s [] (by rw [sd.1]; kernel_rfl) trivial ?_
          intro f26 w26 A hb
          replace x1 := A.t x1 rfl
          replace x2 := A.t x2 rfl
          replace x7 := A.t x7 rfl
          replace x10 := A.t x10 rfl
          replace x115 := A.t x115 rfl
          replace hd := HD.below hd hb
          replace hmr := Mr.below hmr hb
          replace hit := It.below hit hb
          replace bl := bgo bl hb
          replace sd := A.sd sd
          clear A hb
          obtain ⟨p9, w27, hpl, hpV, hrun, hit2, O⟩ := hit.next_yes (P := Try.prog) hall 0
          refine wl_execl rfl 116 rfl (by rw [sd.1]; decide) (v := .tuple #[.bool true, .int .i64 p9.1, p9.2]) (w2 := w27) (by unfold execOp; simp [x115, hrun]) ?_
          intro f27 df2 sz2 old2 x116
          replace hd := hd.keep (fun j q => O.block j (hd.lt j q) (fun e => hrD (e ▸ q))) O.size
          replace hmr := hmr.iter O hrow9 hit.lt.2.2
          replace hit := hit2
          replace bl := bl.trans (O.below _ hwr bl.size)
          replace bl0 := bl
          clear hrun hit2 O
          replace x1 := tr old2 x1 rfl
          replace x2 := tr old2 x2 rfl
          replace x7 := tr old2 x7 rfl
          replace x10 := tr old2 x10 rfl
          replace x115 := tr old2 x115 rfl
          replace sd := sd2 sz2 df2 sd
          clear df2 sz2 old2
          refine wl_one (.eq (.bool true)) rfl 117 rfl (by rw [sd.1]; decide) (st_extv (.tmp 116) 0 rfl x116 rfl) ?_
          intro f28 w28 df2 sz2 old2 new2 hb
          replace x1 := tr old2 x1 rfl
          replace x2 := tr old2 x2 rfl
          replace x7 := tr old2 x7 rfl
          replace x10 := tr old2 x10 rfl
          replace x115 := tr old2 x115 rfl
          replace x116 := tr old2 x116 rfl
          have x117 := Fk.e new2
          replace hd := HD.below hd hb
          replace hmr := Mr.below hmr hb
          replace hit := It.below hit hb
          replace bl := bgo bl hb
          replace sd := sd2 sz2 df2 sd
          clear df2 sz2 old2 new2 hb
          refine wpList_nil ?_
          clear x116
          show Code.wp _ _ _ _ _
          refine wp_seq ?_
          refine wp_cond_true x117 ?_
          refine wp_skip ?_
          show Code.wp _ _ _ _ _
          refine wp_block ?_
          refine wp_seq ?_
          have hp9 := mget_of_mem hmr.im.ok.keys (show (p9.1, p9.2) ∈ lm from hpl)
          obtain ⟨i, hi, hi10⟩ := hmr.key _ _ hp9
          obtain ⟨z, v⟩ := p9
          dsimp only at hp9 hi
          subst hi
          obtain ⟨v7, g7, h71, h72, h73, h74⟩ := hmr.row i hi10
          rw [hp9] at h71
          obtain rfl := Option.some.inj h71
          obtain ⟨gr, Cr, hvr, hBr, hltr, hrs⟩ := os_block h72 (hmr.ne i hi10)
          have hgr7 : gr = g7 := by rw [hvr] at h73; exact Option.some.inj h73
          subst hgr7
          subst hvr
          clear h71 h72 h73 hltr hBr
          refine wr_a [.eq (.tuple #[.int .i64 (i : Int), .slice (some ⟨gr, 0, none⟩) (tsd s i).length Cr]), .eq (.int .i64 (i : Int)), .eq (.slice (some ⟨gr, 0, none⟩) (tsd s i).length Cr), .eq (.int .i64 (i : Int)), .eq (.slice (some ⟨gr, 0, none⟩) (tsd s i).length Cr)] (by rw [sd.1]; kernel_rfl) ⟨fun hw ac u K => ?_, fun hw ac u K => ?_, fun hw ac u K => ?_, fun hw ac u K => ?_, fun hw ac u K => ?_, trivial⟩ ?_
          · exact st_entry rfl (K.t x115 rfl) (It.below hit K.grow)
          · exact st_extv (.tmp 118) 0 rfl (K.dep 0 118 rfl) rfl
          · exact st_extv (.tmp 118) 1 rfl (K.dep 0 118 rfl) rfl
          · exact st_assign (.tmp 119) rfl (K.dep 1 119 rfl)
          · exact st_assign (.tmp 120) rfl (K.dep 2 120 rfl)
          intro f29 w29 A hb
          replace x1 := A.t x1 rfl
          replace x2 := A.t x2 rfl
          replace x7 := A.t x7 rfl
          replace x10 := A.t x10 rfl
          replace x115 := A.t x115 rfl
          replace x117 := A.t x117 rfl
          have x16 := A.e 3 16 rfl rfl
          have x17 := A.e 4 17 rfl rfl
          replace hd := HD.below hd hb
          replace hmr := Mr.below hmr hb
          replace hit := It.below hit hb
          replace hrs := Rs.below hrs hb
          replace bl := bgo bl hb
          replace sd := A.sd sd
          clear A hb
          clear x117
          show Code.wp _ _ _ _ _
          refine wp_seq ?_
          have hr1 := on_rd honc (k := i) (by rw [gc.has]; exact hi10)
          obtain ⟨yr, hyr⟩ : ∃ q, q = nowd sc i := ⟨_, rfl⟩
          rw [← hyr] at hr1
          have hmem : yr ∈ tsd s i := by rw [hyr]; exact hin i hi10
          have htl : (tsd s i).length ≤ 2 := by unfold tsd; split <;> simp
          refine wr_s [.eq (.pointer (some ⟨gd, 0, none⟩)), .eq (.int .i64 (i : Int))] (by rw [sd.1]; kernel_rfl) ⟨fun hw ac u K => ?_, fun hw ac u K => ?_, trivial⟩ ?_
          · exact st_move (.tmp 7) rfl (K.t x7 rfl)
          · exact st_move (.tmp 16) rfl (K.t x16 rfl)
          intro f30 w30 A hb
          replace x1 := A.t x1 rfl
          replace x2 := A.t x2 rfl
          replace x7 := A.t x7 rfl
          replace x10 := A.t x10 rfl
          replace x115 := A.t x115 rfl
          replace x16 := A.t x16 rfl
          replace x17 := A.t x17 rfl
          have x122 := A.e 0 122 rfl rfl
          have x123 := A.e 1 123 rfl rfl
          replace hd := HD.below hd hb
          replace hmr := Mr.below hmr hb
          replace hit := It.below hit hb
          replace hrs := Rs.below hrs hb
          replace bl := bgo bl hb
          replace sd := A.sd sd
          clear A hb
          clear x16
          refine wl_call 16 (.func 16) _ _ #[.pointer (some ⟨gd, 0, none⟩), .int .i64 (i : Int)] rfl 124 rfl (by rw [sd.1]; decide) rfl rfl (two_arg x122 x123) Try.enter16 (fun u W' => ∃ (D2 : Nat → Prop) (A : Option Addr) (C : Nat), u = .tuple #[.slice A (yr).length C, .int .i64 0] ∧ (Fk.sl (yr)).f (.slice A (yr).length C) W' ∧ (0 < (yr).length → ∃ g, A = some ⟨g, 0, none⟩ ∧ w30.heap.size ≤ g ∧ ¬ D2 g ∧ Wb W' g (yr).length) ∧ HD W' gd M D2 sc ∧ (∀ j, D2 j → DD j ∨ w30.heap.size ≤ j) ∧ Fr M w30 W') ((show Calls Try.prog 16 #[.pointer (some ⟨gd, 0, none⟩), .int .i64 (i : Int)] w30 (fun e W' => ∃ (D2 : Nat → Prop) (A : Option Addr) (C : Nat), e = .returned (.tuple #[.slice A (yr).length C, .int .i64 0]) ∧ _) from by have := fk_dread hd (i : Int); rw [show (rd sc (i : Int)).1 = 0 from by rw [hr1], show (rd sc (i : Int)).2 = yr from by rw [hr1]] at this; exact this).mono (by rintro e w' ⟨D2, A, C, rfl, q⟩; exact ⟨_, rfl, D2, A, C, rfl, q⟩)) ?_
          rintro f31 w31 df2 sz2 old2 ⟨D2, A1, C1, x124, hsl, hG0, hd2, hD2, O⟩
          have OM := O
          replace O := O.mono hd.sub
          replace x1 := tr old2 x1 rfl
          replace x2 := tr old2 x2 rfl
          replace x7 := tr old2 x7 rfl
          replace x10 := tr old2 x10 rfl
          replace x115 := tr old2 x115 rfl
          replace x17 := tr old2 x17 rfl
          replace x122 := tr old2 x122 rfl
          replace x123 := tr old2 x123 rfl
          have hO1 : Ob8 w.heap.size D2 (fun _ => False) (yr) A1 C1 w31 := ⟨hsl, fun q => by
            obtain ⟨g, h1, h2, h3, h4⟩ := hG0 q
            exact ⟨g, h1, Nat.le_trans bl.size h2, not_false, h3, h4⟩⟩
          clear hsl hG0
          have hrl := hrs.lt
          replace hrs := hrs.keep (O.block gr hrl h74)
          replace h74 : ¬ D2 gr := fun q => (hD2 _ q).elim h74 (fun q => by omega)
          clear hrl
          have hmbX := hmr.bX
          have hil := hit.lt
          replace hit := hit.disk O hrD hmbX
          replace hrD : ¬ D2 r9 := fun q => (hD2 _ q).elim hrD (fun q => by omega)
          clear hil
          have hml := hmr.lt
          replace hmr := hmr.disk O hD2
          clear hml hmbX
          have bl9 := bl.trans (O.below bl.size hDD)
          replace hDD : ∀ j, D2 j → w.heap.size ≤ j := fun j q => (hD2 j q).elim (hDD j) (fun q => Nat.le_trans bl.size q)
          replace bl := bl9
          replace bl0 := bl
          replace hd := hd2
          replace sd := sd2 sz2 df2 sd
          clear df2 sz2 old2 hd2 bl9
          clear O OM hD2
          clear DD
          obtain ⟨DD, rfl⟩ : ∃ E, E = D2 := ⟨_, rfl⟩
          clear x122
          clear x123
          refine wl_one (.eq (.tuple #[.slice A1 (yr).length C1, .int .i64 0])) rfl 121 rfl (by rw [sd.1]; decide) (st_move (.tmp 124) rfl x124) ?_
          intro f32 w32 df2 sz2 old2 new2 hb
          replace x1 := tr old2 x1 rfl
          replace x2 := tr old2 x2 rfl
          replace x7 := tr old2 x7 rfl
          replace x10 := tr old2 x10 rfl
          replace x115 := tr old2 x115 rfl
          replace x17 := tr old2 x17 rfl
          replace x124 := tr old2 x124 rfl
          have x121 := Fk.e new2
          replace hd := HD.below hd hb
          replace hmr := Mr.below hmr hb
          replace hit := It.below hit hb
          replace hrs := Rs.below hrs hb
          replace hO1 := Ob8.below hO1 hb
          replace bl := bgo bl hb
          replace sd := sd2 sz2 df2 sd
          clear df2 sz2 old2 new2 hb
          clear x124
          refine wl_one (.eq (.slice A1 (yr).length C1)) rfl 125 rfl (by rw [sd.1]; decide) (st_ext0 (.tmp 121) rfl x121 rfl) ?_
          intro f33 w33 df2 sz2 old2 new2 hb
          replace x1 := tr old2 x1 rfl
          replace x2 := tr old2 x2 rfl
          replace x7 := tr old2 x7 rfl
          replace x10 := tr old2 x10 rfl
          replace x115 := tr old2 x115 rfl
          replace x17 := tr old2 x17 rfl
          replace x121 := tr old2 x121 rfl
          have x125 := Fk.e new2
          replace hd := HD.below hd hb
          replace hmr := Mr.below hmr hb
          replace hit := It.below hit hb
          replace hrs := Rs.below hrs hb
          replace hO1 := Ob8.below hO1 hb
          replace bl := bgo bl hb
          replace sd := sd2 sz2 df2 sd
          clear df2 sz2 old2 new2 hb
          refine wl_one (.eq (.int .i64 0)) rfl 126 rfl (by rw [sd.1]; decide) (st_ext1 (.tmp 121) rfl x121 rfl) ?_
          intro f34 w34 df2 sz2 old2 new2 hb
          replace x1 := tr old2 x1 rfl
          replace x2 := tr old2 x2 rfl
          replace x7 := tr old2 x7 rfl
          replace x10 := tr old2 x10 rfl
          replace x115 := tr old2 x115 rfl
          replace x17 := tr old2 x17 rfl
          replace x121 := tr old2 x121 rfl
          replace x125 := tr old2 x125 rfl
          have x126 := Fk.e new2
          replace hd := HD.below hd hb
          replace hmr := Mr.below hmr hb
          replace hit := It.below hit hb
          replace hrs := Rs.below hrs hb
          replace hO1 := Ob8.below hO1 hb
          replace bl := bgo bl hb
          replace sd := sd2 sz2 df2 sd
          clear df2 sz2 old2 new2 hb
          clear x121
          refine wl_one (.eq (.slice A1 (yr).length C1)) rfl 18 rfl (by rw [sd.1]; decide) (st_assign (.tmp 125) rfl x125) ?_
          intro f35 w35 df2 sz2 old2 new2 hb
          replace x1 := tr old2 x1 rfl
          replace x2 := tr old2 x2 rfl
          replace x7 := tr old2 x7 rfl
          replace x10 := tr old2 x10 rfl
          replace x115 := tr old2 x115 rfl
          replace x17 := tr old2 x17 rfl
          replace x125 := tr old2 x125 rfl
          replace x126 := tr old2 x126 rfl
          have x18 := Fk.e new2
          replace hd := HD.below hd hb
          replace hmr := Mr.below hmr hb
          replace hit := It.below hit hb
          replace hrs := Rs.below hrs hb
          replace hO1 := Ob8.below hO1 hb
          replace bl := bgo bl hb
          replace sd := sd2 sz2 df2 sd
          clear df2 sz2 old2 new2 hb
          clear x125
          refine wl_one (.eq (.int .i64 0)) rfl 19 rfl (by rw [sd.1]; decide) (st_assign (.tmp 126) rfl x126) ?_
          intro f36 w36 df2 sz2 old2 new2 hb
          replace x1 := tr old2 x1 rfl
          replace x2 := tr old2 x2 rfl
          replace x7 := tr old2 x7 rfl
          replace x10 := tr old2 x10 rfl
          replace x115 := tr old2 x115 rfl
          replace x17 := tr old2 x17 rfl
          replace x126 := tr old2 x126 rfl
          replace x18 := tr old2 x18 rfl
          have x19 := Fk.e new2
          replace hd := HD.below hd hb
          replace hmr := Mr.below hmr hb
          replace hit := It.below hit hb
          replace hrs := Rs.below hrs hb
          replace hO1 := Ob8.below hO1 hb
          replace bl := bgo bl hb
          replace sd := sd2 sz2 df2 sd
          clear df2 sz2 old2 new2 hb
          refine wpList_nil ?_
          clear x126
          show Code.wp _ _ _ _ _
          refine wp_seq ?_
          have hv1 := hO1.1
          clear hO1
          refine wr_a [.eq (.bool false)] (by rw [sd.1]; kernel_rfl) ⟨fun hw ac u K => ?_, trivial⟩ ?_
          · exact st_assign (.const (.bool false)) rfl rfl
          intro f37 w37 A hb
          replace x1 := A.t x1 rfl
          replace x2 := A.t x2 rfl
          replace x7 := A.t x7 rfl
          replace x10 := A.t x10 rfl
          replace x115 := A.t x115 rfl
          replace x17 := A.t x17 rfl
          replace x18 := A.t x18 rfl
          replace x19 := A.t x19 rfl
          have x20 := A.e 0 20 rfl rfl
          replace hv1 := Fk.mono _ _ _ _ hv1 hb
          replace hd := HD.below hd hb
          replace hmr := Mr.below hmr hb
          replace hit := It.below hit hb
          replace hrs := Rs.below hrs hb
          replace bl := bgo bl hb
          replace sd := A.sd sd
          clear A hb
          show Code.wp _ _ _ _ _
          refine wp_seq ?_
          refine wp_seq ?_
          refine wr_a [.eq (.slice (some ⟨gr, 0, none⟩) (tsd s i).length Cr), .eq (.int .i64 (((tsd s i).length : Nat) : Int)), .eq (.int .i64 0)] (by rw [sd.1]; kernel_rfl) ⟨fun hw ac u K => ?_, fun hw ac u K => ?_, fun hw ac u K => ?_, trivial⟩ ?_
          · exact st_move (.tmp 17) rfl (K.t x17 rfl)
          · exact st_lens (.tmp 127) rfl (K.dep 0 127 rfl)
          · exact st_move (.const (.int .i64 0)) rfl rfl
          intro f38 w38 A hb
          replace x1 := A.t x1 rfl
          replace x2 := A.t x2 rfl
          replace x7 := A.t x7 rfl
          replace x10 := A.t x10 rfl
          replace x115 := A.t x115 rfl
          replace x17 := A.t x17 rfl
          replace x18 := A.t x18 rfl
          replace x19 := A.t x19 rfl
          replace x20 := A.t x20 rfl
          have x127 := A.e 0 127 rfl rfl
          have x128 := A.e 1 128 rfl rfl
          have x129 := A.e 2 129 rfl rfl
          replace hv1 := Fk.mono _ _ _ _ hv1 hb
          replace hd := HD.below hd hb
          replace hmr := Mr.below hmr hb
          replace hit := It.below hit hb
          replace hrs := Rs.below hrs hb
          replace bl := bgo bl hb
          replace sd := A.sd sd
          clear A hb
          clear x17
          show Code.wp _ _ _ _ _
          refine wp_block ?_
          refine wp_loop (fun f v1 => ∃ (m : Nat) (okb : Bool), m ≤ (tsd s i).length ∧ okb = ((tsd s i).take m).contains yr ∧ f.tmps.size = 154 ∧ f.defers = [] ∧ f.eval (.tmp 1) = v2 ∧ f.eval (.tmp 2) = vl ∧ f.eval (.tmp 7) = .pointer (some ⟨gd, 0, none⟩) ∧ f.eval (.tmp 10) = .map (some b9) ∧ f.eval (.tmp 115) = .pointer (some ⟨r9, 0, none⟩) ∧ f.eval (.tmp 18) = .slice A1 (yr).length C1 ∧ f.eval (.tmp 19) = .int .i64 0 ∧ f.eval (.tmp 127) = .slice (some ⟨gr, 0, none⟩) (tsd s i).length Cr ∧ f.eval (.tmp 128) = .int .i64 (((tsd s i).length : Nat) : Int) ∧ f.eval (.tmp 20) = .bool okb ∧ f.eval (.tmp 129) = .int .i64 (m : Int) ∧ Fk.f (.sl (yr)) (.slice A1 (yr).length C1) v1 ∧ HD v1 gd M DD sc ∧ Mr v1 w.heap.size b9 DD 10 (tsd s) lm ∧ It v1 r9 b9 lm (V ++ [((i : Int), .slice (some ⟨gr, 0, none⟩) (tsd s i).length Cr)]) ∧ Rs v1 gr (tsd s i) ∧ Below w.heap.size w (v1)) (fun f _ => (tsd s i).length - (intOf (f.eval (.tmp 129))).toNat) ⟨0, false, Nat.zero_le _, rfl, sd.1, sd.2, x1, x2, x7, x10, x115, x18, x19, x127, x128, x20, x129, hv1, hd, hmr, hit, hrs, bl⟩ ?_
          intro f39 w39 hI
          clear sd bl bl0 x1 x2 x7 x10 x115 x18 x19 x20 x127 x128 x129 hv1 hd hmr hit hrs
          obtain ⟨m, okb, hm9, hok, sz, df, x1, x2, x7, x10, x115, x18, x19, x127, x128, x20, x129, hv1, hd, hmr, hit, hrs, bl⟩ := hI
          have sd := And.intro sz df
          clear sz df
          have bl0 := bl
          have hcnt := x129
          refine wp_seq ?_
          by_cases hlt : m < (tsd s i).length
          rotate_left
          · skip
            obtain rfl : okb = true := by rw [hok, List.take_of_length_le (by omega)]; exact List.contains_iff_mem.2 hmem
            refine wr_a [.eq (.bool false)] (by rw [sd.1]; kernel_rfl) ⟨fun hw ac u K => ?_, trivial⟩ ?_
            · exact st_lss 3 (.tmp 129) (.tmp 128) rfl .i64 ((m : Int)) ((((tsd s i).length : Nat) : Int)) (K.t x129 rfl) (K.t x128 rfl) _ (by rw [eq_comm, decide_eq_false_iff_not]; exact fun h => hlt (Int.ofNat_lt.1 h))
            intro f40 w40 A hb
            replace x1 := A.t x1 rfl
            replace x2 := A.t x2 rfl
            replace x7 := A.t x7 rfl
            replace x10 := A.t x10 rfl
            replace x115 := A.t x115 rfl
            replace x18 := A.t x18 rfl
            replace x19 := A.t x19 rfl
            replace x20 := A.t x20 rfl
            replace x127 := A.t x127 rfl
            replace x128 := A.t x128 rfl
            replace x129 := A.t x129 rfl
            have x130 := A.e 0 130 rfl rfl
            replace hv1 := Fk.mono _ _ _ _ hv1 hb
            replace hd := HD.below hd hb
            replace hmr := Mr.below hmr hb
            replace hit := It.below hit hb
            replace hrs := Rs.below hrs hb
            replace bl := bgo bl hb
            replace sd := A.sd sd
            clear A hb
            show Code.wp _ _ _ _ _
            refine wp_seq ?_
            refine wp_cond_false x130 ?_
            refine wp_exit ?_
            show Code.wp _ _ _ _ _
            refine wp_seq ?_
            clear hv1
            clear hrs h74
            clear x127
            clear x128
            clear x129
            refine wr_a [.eq (.int .i64 0), .eq (.bool false), .eq (.bool false), .eq (.bool true), .eq (.bool false), .eq (.bool false)] (by rw [sd.1]; kernel_rfl) ⟨fun hw ac u K => ?_, fun hw ac u K => ?_, fun hw ac u K => ?_, fun hw ac u K => ?_, fun hw ac u K => ?_, fun hw ac u K => ?_, trivial⟩ ?_
            · exact st_move (.tmp 19) rfl (K.t x19 rfl)
            · exact st_neqi 37 (.tmp 141) (.const (.int .i64 0)) rfl .i64 (0) (0) (K.dep 0 141 rfl) rfl _ (by simp)
            · exact st_move (.tmp 142) rfl (K.dep 1 142 rfl)
            · exact st_move (.tmp 20) rfl (K.t x20 rfl)
            · exact st_not (.tmp 144) rfl true (K.dep 3 144 rfl)
            · exact st_pick_f' (.tmp 143) (.const (.bool true)) (.tmp 145) rfl (K.dep 2 143 rfl) (K.dep 4 145 rfl)
            intro f41 w41 A hb
            replace x1 := A.t x1 rfl
            replace x2 := A.t x2 rfl
            replace x7 := A.t x7 rfl
            replace x10 := A.t x10 rfl
            replace x115 := A.t x115 rfl
            replace x18 := A.t x18 rfl
            replace x19 := A.t x19 rfl
            replace x20 := A.t x20 rfl
            replace x130 := A.t x130 rfl
            have x146 := A.e 5 146 rfl rfl
            replace hd := HD.below hd hb
            replace hmr := Mr.below hmr hb
            replace hit := It.below hit hb
            replace bl := bgo bl hb
            replace sd := A.sd sd
            clear A hb
            clear x130
            show Code.wp _ _ _ _ _
            refine wp_cond_false x146 ?_
            refine wp_skip ?_
            show (∃ _, _) ∧ _
            refine ⟨⟨V ++ [((i : Int), .slice (some ⟨gr, 0, none⟩) (tsd s i).length Cr)], DD, hDD, hrD, sd.1, sd.2, x1, x2, x7, x10, x115, hd, hmr, hit, bl⟩, ?_⟩
            rw [hml, hit.left.1, List.length_append]
            have hll9 := hit.left.2
            rw [List.length_append] at hll9
            simp only [List.length_cons, List.length_nil] at hll9 ⊢
            omega
          obtain ⟨tm, htm⟩ : ∃ t, (tsd s i)[m]? = some t := ⟨_, List.getElem?_eq_getElem hlt⟩
          refine wr_a [.eq (.bool true)] (by rw [sd.1]; kernel_rfl) ⟨fun hw ac u K => ?_, trivial⟩ ?_
          · exact st_lss 3 (.tmp 129) (.tmp 128) rfl .i64 ((m : Int)) ((((tsd s i).length : Nat) : Int)) (K.t x129 rfl) (K.t x128 rfl) _ (by rw [eq_comm, decide_eq_true_iff]; exact Int.ofNat_lt.2 hlt)
          intro f40 w40 A hb
          replace x1 := A.t x1 rfl
          replace x2 := A.t x2 rfl
          replace x7 := A.t x7 rfl
          replace x10 := A.t x10 rfl
          replace x115 := A.t x115 rfl
          replace x18 := A.t x18 rfl
          replace x19 := A.t x19 rfl
          replace x20 := A.t x20 rfl
          replace x127 := A.t x127 rfl
          replace x128 := A.t x128 rfl
          replace x129 := A.t x129 rfl
          have x130 := A.e 0 130 rfl rfl
          replace hv1 := Fk.mono _ _ _ _ hv1 hb
          replace hd := HD.below hd hb
          replace hmr := Mr.below hmr hb
          replace hit := It.below hit hb
          replace hrs := Rs.below hrs hb
          replace bl := bgo bl hb
          replace sd := A.sd sd
          clear A hb
          show Code.wp _ _ _ _ _
          refine wp_seq ?_
          refine wp_cond_true x130 ?_
          refine wp_skip ?_
          show Code.wp _ _ _ _ _
          refine wp_seq ?_
          refine wp_block ?_
          refine wp_seq ?_
          refine wr_a [.eq (.pointer (some ⟨gr, m, none⟩)), .eq (.string (str tm)), .eq (.string (str tm))] (by rw [sd.1]; kernel_rfl) ⟨fun hw ac u K => ?_, fun hw ac u K => ?_, fun hw ac u K => ?_, trivial⟩ ?_
          · exact st_idxs (.tmp 127) (.tmp 129) rfl (K.t x127 rfl) (m) (K.t x129 rfl) hlt
          · exact st_loadc 9 (.tmp 131) rfl (by kernel_rfl) (K.dep 0 131 rfl) ((Rs.below hrs K.grow).cell htm)
          · exact st_assign (.tmp 132) rfl (K.dep 1 132 rfl)
          intro f41 w41 A hb
          replace x1 := A.t x1 rfl
          replace x2 := A.t x2 rfl
          replace x7 := A.t x7 rfl
          replace x10 := A.t x10 rfl
          replace x115 := A.t x115 rfl
          replace x18 := A.t x18 rfl
          replace x19 := A.t x19 rfl
          replace x20 := A.t x20 rfl
          replace x127 := A.t x127 rfl
          replace x128 := A.t x128 rfl
          replace x129 := A.t x129 rfl
          replace x130 := A.t x130 rfl
          have x22 := A.e 2 22 rfl rfl
          replace hv1 := Fk.mono _ _ _ _ hv1 hb
          replace hd := HD.below hd hb
          replace hmr := Mr.below hmr hb
          replace hit := It.below hit hb
          replace hrs := Rs.below hrs hb
          replace bl := bgo bl hb
          replace sd := A.sd sd
          clear A hb
          clear x130
          show Code.wp _ _ _ _ _
          cases okb
          rotate_left
          · skip
            refine wr_s [.eq (.bool true), .eq (.bool true), .any, .any, .any, .any, .eq (.bool true)] (by rw [sd.1]; kernel_rfl) ⟨fun hw ac u K => ?_, fun hw ac u K => ?_, fun hw ac u K => ?_, fun hw ac u K => ?_, fun hw ac u K => ?_, fun hw ac u K => ?_, fun hw ac u K => ?_, trivial⟩ ?_
            · exact st_move (.tmp 20) rfl (K.t x20 rfl)
            · exact st_move (.tmp 133) rfl (K.dep 0 133 rfl)
            · exact (Bool.false_ne_true hw).elim
            · exact (Bool.false_ne_true hw).elim
            · exact (Bool.false_ne_true hw).elim
            · exact (Bool.false_ne_true hw).elim
            · exact st_pick_t (.tmp 134) (.const (.bool true)) (.tmp 138) rfl (K.dep 1 134 rfl) rfl
            intro f42 w42 A hb
            replace x1 := A.t x1 rfl
            replace x2 := A.t x2 rfl
            replace x7 := A.t x7 rfl
            replace x10 := A.t x10 rfl
            replace x115 := A.t x115 rfl
            replace x18 := A.t x18 rfl
            replace x19 := A.t x19 rfl
            replace x20 := A.t x20 rfl
            replace x127 := A.t x127 rfl
            replace x128 := A.t x128 rfl
            replace x129 := A.t x129 rfl
            replace x22 := A.t x22 rfl
            have x139 := A.e 6 139 rfl rfl
            replace hv1 := Fk.mono _ _ _ _ hv1 hb
            replace hd := HD.below hd hb
            replace hmr := Mr.below hmr hb
            replace hit := It.below hit hb
            replace hrs := Rs.below hrs hb
            replace bl := bgo bl hb
            replace sd := A.sd sd
            clear A hb
            clear x22
            refine wl_one (.eq (.bool true)) rfl 20 rfl (by rw [sd.1]; decide) (st_assign (.tmp 139) rfl x139) ?_
            intro f43 w43 df2 sz2 old2 new2 hb
            replace x1 := tr old2 x1 rfl
            replace x2 := tr old2 x2 rfl
            replace x7 := tr old2 x7 rfl
            replace x10 := tr old2 x10 rfl
            replace x115 := tr old2 x115 rfl
            replace x18 := tr old2 x18 rfl
            replace x19 := tr old2 x19 rfl
            clear x20
            replace x127 := tr old2 x127 rfl
            replace x128 := tr old2 x128 rfl
            replace x129 := tr old2 x129 rfl
            replace x139 := tr old2 x139 rfl
            have x20 := Fk.e new2
            replace hv1 := Fk.mono _ _ _ _ hv1 hb
            replace hd := HD.below hd hb
            replace hmr := Mr.below hmr hb
            replace hit := It.below hit hb
            replace hrs := Rs.below hrs hb
            replace bl := bgo bl hb
            replace sd := sd2 sz2 df2 sd
            clear df2 sz2 old2 new2 hb
            refine wpList_nil ?_
            clear x139
            show Code.wp _ _ _ _ _
            refine wr_s [.eq (.int .i64 ((m + 1 : Nat) : Int))] (by rw [sd.1]; kernel_rfl) ⟨fun hw ac u K => ?_, trivial⟩ ?_
            · exact st_add (.tmp 129) (.const (.int .i64 1)) rfl (m) (1) (m + 1) (K.t x129 rfl) rfl (by omega) (by omega)
            intro f44 w44 A hb
            replace x1 := A.t x1 rfl
            replace x2 := A.t x2 rfl
            replace x7 := A.t x7 rfl
            replace x10 := A.t x10 rfl
            replace x115 := A.t x115 rfl
            replace x18 := A.t x18 rfl
            replace x19 := A.t x19 rfl
            replace x127 := A.t x127 rfl
            replace x128 := A.t x128 rfl
            replace x129 := A.t x129 rfl
            replace x20 := A.t x20 rfl
            have x140 := A.e 0 140 rfl rfl
            replace hv1 := Fk.mono _ _ _ _ hv1 hb
            replace hd := HD.below hd hb
            replace hmr := Mr.below hmr hb
            replace hit := It.below hit hb
            replace hrs := Rs.below hrs hb
            replace bl := bgo bl hb
            replace sd := A.sd sd
            clear A hb
            refine wl_one (.eq (.int .i64 ((m + 1 : Nat) : Int))) rfl 129 rfl (by rw [sd.1]; decide) (st_move (.tmp 140) rfl x140) ?_
            intro f45 w45 df2 sz2 old2 new2 hb
            replace x1 := tr old2 x1 rfl
            replace x2 := tr old2 x2 rfl
            replace x7 := tr old2 x7 rfl
            replace x10 := tr old2 x10 rfl
            replace x115 := tr old2 x115 rfl
            replace x18 := tr old2 x18 rfl
            replace x19 := tr old2 x19 rfl
            replace x127 := tr old2 x127 rfl
            replace x128 := tr old2 x128 rfl
            clear x129
            replace x20 := tr old2 x20 rfl
            replace x140 := tr old2 x140 rfl
            have x129 := Fk.e new2
            replace hv1 := Fk.mono _ _ _ _ hv1 hb
            replace hd := HD.below hd hb
            replace hmr := Mr.below hmr hb
            replace hit := It.below hit hb
            replace hrs := Rs.below hrs hb
            replace bl := bgo bl hb
            replace sd := sd2 sz2 df2 sd
            clear df2 sz2 old2 new2 hb
            refine wpList_nil ?_
            clear x140
            show (∃ _, _) ∧ _
            refine ⟨⟨m + 1, true, by omega, (by rw [take_one htm, List.contains_append, ← hok]; rfl), sd.1, sd.2, x1, x2, x7, x10, x115, x18, x19, x127, x128, x20, x129, hv1, hd, hmr, hit, hrs, bl⟩, ?_⟩
            rw [show f45.eval (.tmp 129) = _ from x129, show _ = _ from hcnt]
            first | (simp [intOf]; done) | (simp [intOf]; omega)
          refine wr_s [.eq (.bool false), .eq (.bool false), .eq (.string (str tm)), .eq (.slice A1 (yr).length C1), .eq (.string (str (yr))), .eq (.bool (decide (tm = yr))), .eq (.bool (decide (tm = yr)))] (by rw [sd.1]; kernel_rfl) ⟨fun hw ac u K => ?_, fun hw ac u K => ?_, fun hw ac u K => ?_, fun hw ac u K => ?_, fun hw ac u K => ?_, fun hw ac u K => ?_, fun hw ac u K => ?_, trivial⟩ ?_
          · exact st_move (.tmp 20) rfl (K.t x20 rfl)
          · exact st_move (.tmp 133) rfl (K.dep 0 133 rfl)
          · exact st_move (.tmp 22) rfl (K.t x22 rfl)
          · exact st_move (.tmp 18) rfl (K.t x18 rfl)
          · exact st_stra (.tmp 136) rfl (fk_val (K.dep 3 136 rfl) (Fk.mono _ _ _ _ hv1 K.grow))
          · exact st_eqs (.tmp 135) (.tmp 137) rfl (str tm) (str yr) (K.dep 2 135 rfl) (K.dep 4 137 rfl) _ (str_dec _ _)
          · exact st_pick_f' (.tmp 134) (.const (.bool true)) (.tmp 138) rfl (K.dep 1 134 rfl) (K.dep 5 138 rfl)
          intro f42 w42 A hb
          replace x1 := A.t x1 rfl
          replace x2 := A.t x2 rfl
          replace x7 := A.t x7 rfl
          replace x10 := A.t x10 rfl
          replace x115 := A.t x115 rfl
          replace x18 := A.t x18 rfl
          replace x19 := A.t x19 rfl
          replace x20 := A.t x20 rfl
          replace x127 := A.t x127 rfl
          replace x128 := A.t x128 rfl
          replace x129 := A.t x129 rfl
          replace x22 := A.t x22 rfl
          have x139 := A.e 6 139 rfl rfl
          replace hv1 := Fk.mono _ _ _ _ hv1 hb
          replace hd := HD.below hd hb
          replace hmr := Mr.below hmr hb
          replace hit := It.below hit hb
          replace hrs := Rs.below hrs hb
          replace bl := bgo bl hb
          replace sd := A.sd sd
          clear A hb
          clear x22
          refine wl_one (.eq (.bool (decide (tm = yr)))) rfl 20 rfl (by rw [sd.1]; decide) (st_assign (.tmp 139) rfl x139) ?_
          intro f43 w43 df2 sz2 old2 new2 hb
          replace x1 := tr old2 x1 rfl
          replace x2 := tr old2 x2 rfl
          replace x7 := tr old2 x7 rfl
          replace x10 := tr old2 x10 rfl
          replace x115 := tr old2 x115 rfl
          replace x18 := tr old2 x18 rfl
          replace x19 := tr old2 x19 rfl
          clear x20
          replace x127 := tr old2 x127 rfl
          replace x128 := tr old2 x128 rfl
          replace x129 := tr old2 x129 rfl
          replace x139 := tr old2 x139 rfl
          have x20 := Fk.e new2
          replace hv1 := Fk.mono _ _ _ _ hv1 hb
          replace hd := HD.below hd hb
          replace hmr := Mr.below hmr hb
          replace hit := It.below hit hb
          replace hrs := Rs.below hrs hb
          replace bl := bgo bl hb
          replace sd := sd2 sz2 df2 sd
          clear df2 sz2 old2 new2 hb
          refine wpList_nil ?_
          clear x139
          show Code.wp _ _ _ _ _
          refine wr_s [.eq (.int .i64 ((m + 1 : Nat) : Int))] (by rw [sd.1]; kernel_rfl) ⟨fun hw ac u K => ?_, trivial⟩ ?_
          · exact st_add (.tmp 129) (.const (.int .i64 1)) rfl (m) (1) (m + 1) (K.t x129 rfl) rfl (by omega) (by omega)
          intro f44 w44 A hb
          replace x1 := A.t x1 rfl
          replace x2 := A.t x2 rfl
          replace x7 := A.t x7 rfl
          replace x10 := A.t x10 rfl
          replace x115 := A.t x115 rfl
          replace x18 := A.t x18 rfl
          replace x19 := A.t x19 rfl
          replace x127 := A.t x127 rfl
          replace x128 := A.t x128 rfl
          replace x129 := A.t x129 rfl
          replace x20 := A.t x20 rfl
          have x140 := A.e 0 140 rfl rfl
          replace hv1 := Fk.mono _ _ _ _ hv1 hb
          replace hd := HD.below hd hb
          replace hmr := Mr.below hmr hb
          replace hit := It.below hit hb
          replace hrs := Rs.below hrs hb
          replace bl := bgo bl hb
          replace sd := A.sd sd
          clear A hb
          refine wl_one (.eq (.int .i64 ((m + 1 : Nat) : Int))) rfl 129 rfl (by rw [sd.1]; decide) (st_move (.tmp 140) rfl x140) ?_
          intro f45 w45 df2 sz2 old2 new2 hb
          replace x1 := tr old2 x1 rfl
          replace x2 := tr old2 x2 rfl
          replace x7 := tr old2 x7 rfl
          replace x10 := tr old2 x10 rfl
          replace x115 := tr old2 x115 rfl
          replace x18 := tr old2 x18 rfl
          replace x19 := tr old2 x19 rfl
          replace x127 := tr old2 x127 rfl
          replace x128 := tr old2 x128 rfl
          clear x129
          replace x20 := tr old2 x20 rfl
          replace x140 := tr old2 x140 rfl
          have x129 := Fk.e new2
          replace hv1 := Fk.mono _ _ _ _ hv1 hb
          replace hd := HD.below hd hb
          replace hmr := Mr.below hmr hb
          replace hit := It.below hit hb
          replace hrs := Rs.below hrs hb
          replace bl := bgo bl hb
          replace sd := sd2 sz2 df2 sd
          clear df2 sz2 old2 new2 hb
          refine wpList_nil ?_
          clear x140
          show (∃ _, _) ∧ _
          refine ⟨⟨m + 1, decide (tm = yr), by omega, (by rw [take_one htm, List.contains_append, ← hok]; simp [eq_comm]), sd.1, sd.2, x1, x2, x7, x10, x115, x18, x19, x127, x128, x20, x129, hv1, hd, hmr, hit, hrs, bl⟩, ?_⟩
          rw [show f45.eval (.tmp 129) = _ from x129, show _ = _ from hcnt]
          first | (simp [intOf]; done) | (simp [intOf]; omega)
        refine wr_s [] (by rw [sd.1]; kernel_rfl) trivial ?_
        intro f26 w26 A hb
        replace x1 := A.t x1 rfl
        replace x2 := A.t x2 rfl
        replace x7 := A.t x7 rfl
        replace x10 := A.t x10 rfl
        replace x115 := A.t x115 rfl
        replace hd := HD.below hd hb
        replace hmr := Mr.below hmr hb
        replace hit := It.below hit hb
        replace bl := bgo bl hb
        replace sd := A.sd sd
        clear A hb
        refine wl_execl rfl 116 rfl (by rw [sd.1]; decide) (v := .tuple #[.bool false]) (w2 := w26) (by unfold execOp; simp [x115, hit.next_no hall]) ?_
        intro f27 df2 sz2 old2 x116
        replace x1 := tr old2 x1 rfl
        replace x2 := tr old2 x2 rfl
        replace x7 := tr old2 x7 rfl
        replace x10 := tr old2 x10 rfl
        replace x115 := tr old2 x115 rfl
        replace sd := sd2 sz2 df2 sd
        clear df2 sz2 old2
        refine wl_one (.eq (.bool false)) rfl 117 rfl (by rw [sd.1]; decide) (st_extv (.tmp 116) 0 rfl x116 rfl) ?_
        intro f28 w28 df2 sz2 old2 new2 hb
        replace x1 := tr old2 x1 rfl
        replace x2 := tr old2 x2 rfl
        replace x7 := tr old2 x7 rfl
        replace x10 := tr old2 x10 rfl
        replace x115 := tr old2 x115 rfl
        replace x116 := tr old2 x116 rfl
        have x117 := Fk.e new2
        replace hd := HD.below hd hb
        replace hmr := Mr.below hmr hb
        replace hit := It.below hit hb
        replace bl := bgo bl hb
        replace sd := sd2 sz2 df2 sd
        clear df2 sz2 old2 new2 hb
        refine wpList_nil ?_
        clear x116
        show Code.wp _ _ _ _ _
        refine wp_seq ?_
        refine wp_cond_false x117 ?_
        refine wp_exit ?_
        show Code.wp _ _ _ _ _
        refine wp_seq ?_
        clear x115
        clear hit
        refine wr_a [.eq (.pointer (some ⟨gd, 0, none⟩)), .is (([] : List Int)), .eq (.int .i64 (((([] : List Int)).length : Nat) : Int)), .eq (.bool true), .eq (.bool true), .eq (.bool true), .eq (.bool true), .eq (.bool true)] (by rw [sd.1]; kernel_rfl) ⟨fun hw ac u K => ?_, fun hw ac u K => ?_, fun hw ac u K => ?_, fun hw ac u K => ?_, fun hw ac u K => ?_, fun hw ac u K => ?_, fun hw ac u K => ?_, fun hw ac u K => ?_, trivial⟩ ?_
        · exact st_move (.tmp 7) rfl (K.t x7 rfl)
        · exact st_call 20 (.func 20) _ _ _ rfl rfl (one_arg (K.dep 0 147 rfl)) Try.enter20 ((show Calls Try.prog 20 #[.pointer (some ⟨gd, 0, none⟩)] u (fun e w' => ∃ v, e = .returned v ∧ (Fk.is ([] : List Int)).f v w' ∧ Below u.heap.size u w') from by have := fk_dcached (HD.below hd K.grow); rw [hclp] at this; exact this))
        · exact st_lenis (.tmp 148) rfl (K.dep 1 148 rfl)
        · exact st_eqi 3 (.tmp 149) (.const (.int .i64 0)) rfl .i64 ((((([] : List Int)).length : Nat) : Int)) (0) (K.dep 2 149 rfl) rfl _ (by simp)
        · exact st_move (.tmp 150) rfl (K.dep 3 150 rfl)
        · exact st_call 9 (.func 9) _ _ _ rfl rfl rfl Try.enter9 (awake_any _)
        · exact st_pick_t (.tmp 151) (.tmp 152) (.const (.bool false)) rfl (K.dep 4 151 rfl) (K.dep 5 152 rfl)
        · exact st_assign (.tmp 153) rfl (K.dep 6 153 rfl)
        intro f29 w29 A hb
        replace x1 := A.t x1 rfl
        replace x2 := A.t x2 rfl
        replace x7 := A.t x7 rfl
        replace x10 := A.t x10 rfl
        replace x117 := A.t x117 rfl
        have x6 := A.e 7 6 rfl rfl
        replace hd := HD.below hd hb
        replace hmr := Mr.below hmr hb
        replace bl := bgo bl hb
        replace sd := A.sd sd
        clear A hb
        clear x117
        show Code.wp _ _ _ _ _
        refine wp_ret ?_
        repeat (first | with_reducible refine then_ret ?_ | with_reducible refine block_ret ?_)
        exact bodyPost_ret (v := .bool true) (ret_slot rfl f29 _ x6 _ _) sd.2 ⟨rfl, bl⟩
      obtain ⟨oo, hook⟩ : ∃ p, l2[k]? = some p := ⟨_, List.getElem?_eq_getElem hlt⟩
      have hboo : (Fk.sl oo.bs).f oo.vb w := (ol_ok hv2 hook).b
      have hloo : (Fk.is oo.ls).f oo.vl w := (ol_ok hv2 hook).l
      have hsm := o_small h2s hook
      have hon := (ol_ok hv2 hook).n
      have how := (ol_ok hv2 hook).w
      refine wr_a [.eq (.bool true)] (by rw [sd.1]; kernel_rfl) ⟨fun hw ac u K => ?_, trivial⟩ ?_
      · exact st_lss 3 (.tmp 86) (.tmp 85) rfl .i64 ((k : Int)) ((((l2).length : Nat) : Int)) (K.t x86 rfl) (K.t x85 rfl) _ (by rw [eq_comm, decide_eq_true_iff]; exact Int.ofNat_lt.2 hlt)
      intro f20 w20 A hb
      replace x1 := A.t x1 rfl
      replace x2 := A.t x2 rfl
      replace x7 := A.t x7 rfl
      replace x10 := A.t x10 rfl
      replace x84 := A.t x84 rfl
      replace x85 := A.t x85 rfl
      replace x86 := A.t x86 rfl
      have x87 := A.e 0 87 rfl rfl
      replace hd := HD.below hd hb
      replace hmr := Mr.below hmr hb
      replace bl := bgo bl hb
      replace sd := A.sd sd
      clear A hb
      show Code.wp _ _ _ _ _
      refine wp_seq ?_
      refine wp_cond_true x87 ?_
      refine wp_skip ?_
      show Code.wp _ _ _ _ _
      refine wp_seq ?_
      refine wp_block ?_
      refine wp_seq ?_
      have hdL := hd.lt
      have hbL := hmr.lt
      have hrL : ∀ k v g, mget lm k = some v → v.ownBlock = some g → g < w20.heap.size := fun k v g h e => by obtain ⟨g7, e7, _, _, l7, _⟩ := hmr.own h; rw [e] at e7; cases e7; exact l7
      refine wr_s [.oq oo, .eq (.agg ([.int .i64 oo.k, .int .i64 oo.s, .int .i64 oo.n, oo.vb, oo.vl] : List Value).toArray)] (by rw [sd.1]; kernel_rfl) ⟨fun hw ac u K => ?_, fun hw ac u K => ?_, trivial⟩ ?_
      · exact st_idxo (.tmp 84) (.tmp 86) rfl (fk_val (K.t x84 rfl) (Fk.mono _ _ _ _ hv2 (bgo bl K.grow))) k oo (K.t x86 rfl) hook
      · exact st_loado (.tmp 88) rfl (K.dep 0 88 rfl)
      intro f21 w21 A hb
      have S_hd := hd
      have S_hmr := hmr
      have hbS0 := Below.refl w20.heap.size w20
      have hbS := hb
      replace x1 := A.t x1 rfl
      replace x2 := A.t x2 rfl
      replace x7 := A.t x7 rfl
      replace x10 := A.t x10 rfl
      replace x84 := A.t x84 rfl
      replace x85 := A.t x85 rfl
      replace x86 := A.t x86 rfl
      replace x87 := A.t x87 rfl
      have x89 := A.e 1 89 rfl rfl
      replace hd := HD.below hd hb
      replace hmr := Mr.below hmr hb
      replace bl := bgo bl hb
      replace sd := A.sd sd
      clear A hb
      clear x87
      refine wl_one (.nw w21.heap.size 32 [.int .i64 0, .int .i64 0, .int .i64 0, .slice none 0 0, .slice none 0 0]) rfl 15 rfl (by rw [sd.1]; decide) (st_alloc 32 rfl _ _ (by kernel_rfl) (Nat.le_refl _)) ?_
      intro f22 w22 df2 sz2 old2 new2 hb
      replace hbS0 := hbS
      replace hbS := hbS.trans (Below.mono hb hbS.size)
      replace bl0 := bl
      replace x1 := tr old2 x1 rfl
      replace x2 := tr old2 x2 rfl
      replace x7 := tr old2 x7 rfl
      replace x10 := tr old2 x10 rfl
      replace x84 := tr old2 x84 rfl
      replace x85 := tr old2 x85 rfl
      replace x86 := tr old2 x86 rfl
      replace x89 := tr old2 x89 rfl
      have x15 : Fk.f (.nw w21.heap.size 32 [.int .i64 0, .int .i64 0, .int .i64 0, .slice none 0 0, .slice none 0 0]) (f22.eval (.tmp 15)) w22 := new2
      replace hd := HD.below hd hb
      replace hmr := Mr.below hmr hb
      replace bl := bgo bl hb
      replace sd := sd2 sz2 df2 sd
      clear df2 sz2 old2 new2 hb
      obtain ⟨g15, hg15, e15, m15⟩ := x15
      have x15 := e15
      clear e15
      have hw15 : w.heap.size ≤ g15 := Nat.le_trans bl0.size hg15
      have hs15 := Nat.le_trans hbS0.size hg15
      refine wl_str rfl 32 (.tmp 15) (.tmp 89) rfl rfl (g15) ([.int .i64 oo.k, .int .i64 oo.s, .int .i64 oo.n, oo.vb, oo.vl] : List Value).toArray x15 x89 32 _ m15 (by kernel_rfl) (by kernel_rfl) (by kernel_rfl) ?_
      replace m15 : Ob (w22.setRow g15 ([.int .i64 oo.k, .int .i64 oo.s, .int .i64 oo.n, oo.vb, oo.vl] : List Value).toArray) (g15) 32 ([.int .i64 oo.k, .int .i64 oo.s, .int .i64 oo.n, oo.vb, oo.vl]) := Ob.setRow m15 ([.int .i64 oo.k, .int .i64 oo.s, .int .i64 oo.n, oo.vb, oo.vl])
      replace hbS : Below _ _ (w22.setRow g15 ([.int .i64 oo.k, .int .i64 oo.s, .int .i64 oo.n, oo.vb, oo.vl] : List Value).toArray) := hbS.trans (below_setRow _ _ _ _ hs15)
      replace hd := HD.below S_hd hbS
      replace hmr := Mr.below S_hmr hbS
      replace bl : Below w.heap.size w (w22.setRow g15 ([.int .i64 oo.k, .int .i64 oo.s, .int .i64 oo.n, oo.vb, oo.vl] : List Value).toArray) := bl.trans (below_setRow _ _ _ _ hw15)
      generalize w22.setRow g15 ([.int .i64 oo.k, .int .i64 oo.s, .int .i64 oo.n, oo.vb, oo.vl] : List Value).toArray = w23b at bl m15 hd hmr hbS ⊢
      refine wpList_nil ?_
      clear hbS hbS0 S_hd S_hmr
      clear x89
      have nDb : ¬ DD g15 := fun q => by have := hdL _ q; omega
      have nbb : ¬ g15 = b9 := fun q => by omega
      have nbr : ∀ k v, mget lm k = some v → v.ownBlock ≠ some g15 := fun k v h e => by have := hrL k v _ h e; omega
      clear hdL hbL hrL
      show Code.wp _ _ _ _ _
      refine wp_seq ?_
      by_cases hw : (wrt s oo.s oo.bs).1 = 0
      rotate_left
      · skip
        refine wr_s [.eq (.pointer (some ⟨gd, 0, none⟩)), .eq (.pointer (some ⟨g15, 1, none⟩)), .eq (.int .i64 oo.s), .eq (.pointer (some ⟨g15, 3, none⟩)), .eq (oo.vb)] (by rw [sd.1]; kernel_rfl) ⟨fun hw ac u K => ?_, fun hw ac u K => ?_, fun hw ac u K => ?_, fun hw ac u K => ?_, fun hw ac u K => ?_, trivial⟩ ?_
        · exact st_move (.tmp 7) rfl (K.t x7 rfl)
        · exact st_field 32 1 (.tmp 15) rfl (K.t x15 rfl) (by kernel_rfl)
        · exact st_loadc 3 (.tmp 91) rfl (by kernel_rfl) (K.dep 1 91 rfl) (Ob.cell (Ob.below m15 K.grow) 1 rfl)
        · exact st_field 32 3 (.tmp 15) rfl (K.t x15 rfl) (by kernel_rfl)
        · exact st_loadc 29 (.tmp 93) rfl (by kernel_rfl) (K.dep 3 93 rfl) (Ob.cell (Ob.below m15 K.grow) 3 rfl)
        intro f24 w24 A hb
        replace x1 := A.t x1 rfl
        replace x2 := A.t x2 rfl
        replace x7 := A.t x7 rfl
        replace x10 := A.t x10 rfl
        replace x84 := A.t x84 rfl
        replace x85 := A.t x85 rfl
        replace x86 := A.t x86 rfl
        replace x15 := A.t x15 rfl
        have x90 := A.e 0 90 rfl rfl
        have x92 := A.e 2 92 rfl rfl
        have x94 := A.e 4 94 rfl rfl
        replace m15 := Ob.below m15 hb
        replace hd := HD.below hd hb
        replace hmr := Mr.below hmr hb
        replace bl := bgo bl hb
        replace sd := A.sd sd
        clear A hb
        refine wl_call 18 (.func 18) _ _ #[.pointer (some ⟨gd, 0, none⟩), .int .i64 oo.s, oo.vb] rfl 95 rfl (by rw [sd.1]; decide) rfl rfl (three_arg x90 x92 x94) Try.enter18 (fun u W' => ∃ D2 : Nat → Prop, u = .int .i64 (wrt s oo.s oo.bs).1 ∧ HD W' gd M D2 ((wrt s oo.s oo.bs).2) ∧ (∀ j, D2 j → DD j ∨ w24.heap.size ≤ j) ∧ Fr M w24 W') ((fk_dwrite hd (by have := gs.done; omega) (by have := gs.has; omega) oo.s (Fk.mono _ _ _ _ hboo bl)).mono (by rintro e w' ⟨D2, rfl, q⟩; exact ⟨_, rfl, D2, rfl, q⟩)) ?_
        rintro f25 w25 df2 sz2 old2 ⟨D2, x95, hd2, hD2, O⟩
        have OM := O
        replace O := O.mono hd.sub
        replace x1 := tr old2 x1 rfl
        replace x2 := tr old2 x2 rfl
        replace x7 := tr old2 x7 rfl
        replace x10 := tr old2 x10 rfl
        replace x84 := tr old2 x84 rfl
        replace x85 := tr old2 x85 rfl
        replace x86 := tr old2 x86 rfl
        replace x15 := tr old2 x15 rfl
        replace x90 := tr old2 x90 rfl
        replace x92 := tr old2 x92 rfl
        replace x94 := tr old2 x94 rfl
        have ltb := Ob.lt m15
        replace m15 := O.ob m15 nDb
        replace nDb : ¬ D2 g15 := fun q => (hD2 _ q).elim nDb (fun q => by omega)
        clear ltb
        have hml := hmr.lt
        replace hmr := hmr.disk O hD2
        clear hml
        have bl9 := bl.trans (O.below bl.size hDD)
        replace hDD : ∀ j, D2 j → w.heap.size ≤ j := fun j q => (hD2 j q).elim (hDD j) (fun q => Nat.le_trans bl.size q)
        replace bl := bl9
        replace bl0 := bl
        replace hd := hd2
        replace sd := sd2 sz2 df2 sd
        clear df2 sz2 old2 hd2 bl9
        clear O OM hD2
        clear DD
        obtain ⟨DD, rfl⟩ : ∃ E, E = D2 := ⟨_, rfl⟩
        clear x90
        clear x92
        clear x94
        refine wl_one (.eq (.bool false)) rfl 96 rfl (by rw [sd.1]; decide) (st_eqi 37 (.tmp 95) (.const (.int .i64 0)) rfl .i64 ((wrt s oo.s oo.bs).1) (0) x95 rfl _ (by symm; rw [decide_eq_false_iff_not]; exact hw)) ?_
        intro f26 w26 df2 sz2 old2 new2 hb
        replace x1 := tr old2 x1 rfl
        replace x2 := tr old2 x2 rfl
        replace x7 := tr old2 x7 rfl
        replace x10 := tr old2 x10 rfl
        replace x84 := tr old2 x84 rfl
        replace x85 := tr old2 x85 rfl
        replace x86 := tr old2 x86 rfl
        replace x15 := tr old2 x15 rfl
        replace x95 := tr old2 x95 rfl
        have x96 := Fk.e new2
        replace m15 := Ob.below m15 hb
        replace hd := HD.below hd hb
        replace hmr := Mr.below hmr hb
        replace bl := bgo bl hb
        replace sd := sd2 sz2 df2 sd
        clear df2 sz2 old2 new2 hb
        refine wpList_nil ?_
        clear x95
        rw [wrt_no hon9 hw] at hd
        clear m15
        clear nDb nbb nbr
        show Code.wp _ _ _ _ _
        refine wp_cond_false x96 ?_
        refine wp_skip ?_
        show Code.wp _ _ _ _ _
        refine wr_s [.eq (.int .i64 ((k + 1 : Nat) : Int))] (by rw [sd.1]; kernel_rfl) ⟨fun hw ac u K => ?_, trivial⟩ ?_
        · exact st_add (.tmp 86) (.const (.int .i64 1)) rfl (k) (1) (k + 1) (K.t x86 rfl) rfl (by omega) (by omega)
        intro f27 w27 A hb
        replace x1 := A.t x1 rfl
        replace x2 := A.t x2 rfl
        replace x7 := A.t x7 rfl
        replace x10 := A.t x10 rfl
        replace x84 := A.t x84 rfl
        replace x85 := A.t x85 rfl
        replace x86 := A.t x86 rfl
        replace x15 := A.t x15 rfl
        replace x96 := A.t x96 rfl
        have x110 := A.e 0 110 rfl rfl
        replace hd := HD.below hd hb
        replace hmr := Mr.below hmr hb
        replace bl := bgo bl hb
        replace sd := A.sd sd
        clear A hb
        clear x15
        clear x96
        refine wl_one (.eq (.int .i64 ((k + 1 : Nat) : Int))) rfl 86 rfl (by rw [sd.1]; decide) (st_move (.tmp 110) rfl x110) ?_
        intro f28 w28 df2 sz2 old2 new2 hb
        replace x1 := tr old2 x1 rfl
        replace x2 := tr old2 x2 rfl
        replace x7 := tr old2 x7 rfl
        replace x10 := tr old2 x10 rfl
        replace x84 := tr old2 x84 rfl
        replace x85 := tr old2 x85 rfl
        clear x86
        replace x110 := tr old2 x110 rfl
        have x86 := Fk.e new2
        replace hd := HD.below hd hb
        replace hmr := Mr.below hmr hb
        replace bl := bgo bl hb
        replace sd := sd2 sz2 df2 sd
        clear df2 sz2 old2 new2 hb
        refine wpList_nil ?_
        clear x110
        show (∃ _, _) ∧ _
        refine ⟨⟨k + 1, s, DD, lm, by omega, gs.le (Nat.le_succ _), hon9, hDD, sd.1, sd.2, x1, x2, x7, x10, x84, x85, x86, hd, hmr, bl⟩, ?_⟩
        rw [show f28.eval (.tmp 86) = _ from x86, show _ = _ from hcnt]
        first | (simp [intOf]; done) | (simp [intOf]; omega)
      refine wr_s [.eq (.pointer (some ⟨gd, 0, none⟩)), .eq (.pointer (some ⟨g15, 1, none⟩)), .eq (.int .i64 oo.s), .eq (.pointer (some ⟨g15, 3, none⟩)), .eq (oo.vb)] (by rw [sd.1]; kernel_rfl) ⟨fun hw ac u K => ?_, fun hw ac u K => ?_, fun hw ac u K => ?_, fun hw ac u K => ?_, fun hw ac u K => ?_, trivial⟩ ?_
      · exact st_move (.tmp 7) rfl (K.t x7 rfl)
      · exact st_field 32 1 (.tmp 15) rfl (K.t x15 rfl) (by kernel_rfl)
      · exact st_loadc 3 (.tmp 91) rfl (by kernel_rfl) (K.dep 1 91 rfl) (Ob.cell (Ob.below m15 K.grow) 1 rfl)
      · exact st_field 32 3 (.tmp 15) rfl (K.t x15 rfl) (by kernel_rfl)
      · exact st_loadc 29 (.tmp 93) rfl (by kernel_rfl) (K.dep 3 93 rfl) (Ob.cell (Ob.below m15 K.grow) 3 rfl)
      intro f24 w24 A hb
      replace x1 := A.t x1 rfl
      replace x2 := A.t x2 rfl
      replace x7 := A.t x7 rfl
      replace x10 := A.t x10 rfl
      replace x84 := A.t x84 rfl
      replace x85 := A.t x85 rfl
      replace x86 := A.t x86 rfl
      replace x15 := A.t x15 rfl
      have x90 := A.e 0 90 rfl rfl
      have x92 := A.e 2 92 rfl rfl
      have x94 := A.e 4 94 rfl rfl
      replace m15 := Ob.below m15 hb
      replace hd := HD.below hd hb
      replace hmr := Mr.below hmr hb
      replace bl := bgo bl hb
      replace sd := A.sd sd
      clear A hb
      refine wl_call 18 (.func 18) _ _ #[.pointer (some ⟨gd, 0, none⟩), .int .i64 oo.s, oo.vb] rfl 95 rfl (by rw [sd.1]; decide) rfl rfl (three_arg x90 x92 x94) Try.enter18 (fun u W' => ∃ D2 : Nat → Prop, u = .int .i64 (wrt s oo.s oo.bs).1 ∧ HD W' gd M D2 ((wrt s oo.s oo.bs).2) ∧ (∀ j, D2 j → DD j ∨ w24.heap.size ≤ j) ∧ Fr M w24 W') ((fk_dwrite hd (by have := gs.done; omega) (by have := gs.has; omega) oo.s (Fk.mono _ _ _ _ hboo bl)).mono (by rintro e w' ⟨D2, rfl, q⟩; exact ⟨_, rfl, D2, rfl, q⟩)) ?_
      rintro f25 w25 df2 sz2 old2 ⟨D2, x95, hd2, hD2, O⟩
      have OM := O
      replace O := O.mono hd.sub
      replace x1 := tr old2 x1 rfl
      replace x2 := tr old2 x2 rfl
      replace x7 := tr old2 x7 rfl
      replace x10 := tr old2 x10 rfl
      replace x84 := tr old2 x84 rfl
      replace x85 := tr old2 x85 rfl
      replace x86 := tr old2 x86 rfl
      replace x15 := tr old2 x15 rfl
      replace x90 := tr old2 x90 rfl
      replace x92 := tr old2 x92 rfl
      replace x94 := tr old2 x94 rfl
      have ltb := Ob.lt m15
      replace m15 := O.ob m15 nDb
      replace nDb : ¬ D2 g15 := fun q => (hD2 _ q).elim nDb (fun q => by omega)
      clear ltb
      have hml := hmr.lt
      replace hmr := hmr.disk O hD2
      clear hml
      have bl9 := bl.trans (O.below bl.size hDD)
      replace hDD : ∀ j, D2 j → w.heap.size ≤ j := fun j q => (hD2 j q).elim (hDD j) (fun q => Nat.le_trans bl.size q)
      replace bl := bl9
      replace bl0 := bl
      replace hd := hd2
      replace sd := sd2 sz2 df2 sd
      clear df2 sz2 old2 hd2 bl9
      clear O OM hD2
      clear DD
      obtain ⟨DD, rfl⟩ : ∃ E, E = D2 := ⟨_, rfl⟩
      clear x90
      clear x92
      clear x94
      refine wl_one (.eq (.bool true)) rfl 96 rfl (by rw [sd.1]; decide) (st_eqi 37 (.tmp 95) (.const (.int .i64 0)) rfl .i64 ((wrt s oo.s oo.bs).1) (0) x95 rfl _ (by symm; rw [decide_eq_true_iff]; exact hw)) ?_
      intro f26 w26 df2 sz2 old2 new2 hb
      replace x1 := tr old2 x1 rfl
      replace x2 := tr old2 x2 rfl
      replace x7 := tr old2 x7 rfl
      replace x10 := tr old2 x10 rfl
      replace x84 := tr old2 x84 rfl
      replace x85 := tr old2 x85 rfl
      replace x86 := tr old2 x86 rfl
      replace x15 := tr old2 x15 rfl
      replace x95 := tr old2 x95 rfl
      have x96 := Fk.e new2
      replace m15 := Ob.below m15 hb
      replace hd := HD.below hd hb
      replace hmr := Mr.below hmr hb
      replace bl := bgo bl hb
      replace sd := sd2 sz2 df2 sd
      clear df2 sz2 old2 new2 hb
      refine wpList_nil ?_
      clear x95
      show Code.wp _ _ _ _ _
      refine wp_cond_true x96 ?_
      obtain ⟨j, hj, hjn, hlb, hs1, hs2⟩ := wrt_yes hon9 hw
      have hbz : 0 < oo.bs.length := by have := gs.size; omega
      have hj10 : j < 10 := by rw [gs.has] at hjn; exact hjn
      rw [hj] at m15
      refine wp_cut (F := fun f9 w9 => ∃ v9, f9.tmps.size = 154 ∧ f9.defers = [] ∧ f9.eval (.tmp 1) = v2 ∧ f9.eval (.tmp 2) = vl ∧ f9.eval (.tmp 7) = .pointer (some ⟨gd, 0, none⟩) ∧ f9.eval (.tmp 10) = .map (some b9) ∧ f9.eval (.tmp 84) = v2 ∧ f9.eval (.tmp 85) = .int .i64 (((l2).length : Nat) : Int) ∧ f9.eval (.tmp 86) = .int .i64 (k : Int) ∧ HD w9 gd M DD (wrt s oo.s oo.bs).2 ∧ Mr w9 w.heap.size b9 DD 10 (tsd (wrt s oo.s oo.bs).2) (mput lm (j : Int) v9) ∧ Below w.heap.size w w9) ?_ ?_
      · skip
        have hb : Below w26.heap.size w26 w26.drew := (Below.refl _ _).drew
        have hsl := Fk.mono _ _ _ _ hboo bl
        refine wp_region_held_drew (S := fun W => Ob W g15 32 [.int .i64 oo.k, .int .i64 (j : Int), .int .i64 oo.n, oo.vb, oo.vl] ∧ (Fk.sl oo.bs).f oo.vb W) Try.mixed ⟨Ob.below m15 hb, Fk.mono _ _ _ _ hsl hb⟩ (fun hS => ?_)
        replace hd := HD.below hd hb
        replace hmr := Mr.below hmr hb
        replace bl := bgo bl hb
        clear hb m15 hsl
        generalize w26.drew = w27 at hd hmr bl hS ⊢
        refine wh_take 0 97 (v := .map (some b9)) rfl rfl (by rw [sd.1]; decide) rfl (by kernel_rfl) (by kernel_rfl) (by kernel_rfl) (fun _ _ _ h => by cases h.1) (run_mv rfl x10) hS ?_
        intro f28 df2 sz2 old2 new2
        replace x1 := tr old2 x1 rfl
        replace x2 := tr old2 x2 rfl
        replace x7 := tr old2 x7 rfl
        replace x10 := tr old2 x10 rfl
        replace x84 := tr old2 x84 rfl
        replace x85 := tr old2 x85 rfl
        replace x86 := tr old2 x86 rfl
        replace x15 := tr old2 x15 rfl
        replace x96 := tr old2 x96 rfl
        have x97 := new2
        replace sd := sd2 sz2 df2 sd
        clear df2 sz2 old2 new2
        refine wh_take 1 98 (v := .pointer (some ⟨g15, 1, none⟩)) rfl rfl (by rw [sd.1]; decide) rfl (by kernel_rfl) (by kernel_rfl) (by kernel_rfl) (fun _ _ _ h => by cases h.1) (run_field rfl x15 (fun w => by kernel_rfl)) hS ?_
        intro f29 df2 sz2 old2 new2
        replace x1 := tr old2 x1 rfl
        replace x2 := tr old2 x2 rfl
        replace x7 := tr old2 x7 rfl
        replace x10 := tr old2 x10 rfl
        replace x84 := tr old2 x84 rfl
        replace x85 := tr old2 x85 rfl
        replace x86 := tr old2 x86 rfl
        replace x15 := tr old2 x15 rfl
        replace x96 := tr old2 x96 rfl
        replace x97 := tr old2 x97 rfl
        have x98 := new2
        replace sd := sd2 sz2 df2 sd
        clear df2 sz2 old2 new2
        refine wh_take 2 99 (v := .int .i64 (j : Int)) rfl rfl (by rw [sd.1]; decide) rfl (by kernel_rfl) (by kernel_rfl) (by kernel_rfl) (fun _ _ _ h => by cases h.1) (run_loadc rfl (fun w => by kernel_rfl) x98 (fun W hW => Ob.cell hW.1 1 rfl)) hS ?_
        intro f30 df2 sz2 old2 new2
        replace x1 := tr old2 x1 rfl
        replace x2 := tr old2 x2 rfl
        replace x7 := tr old2 x7 rfl
        replace x10 := tr old2 x10 rfl
        replace x84 := tr old2 x84 rfl
        replace x85 := tr old2 x85 rfl
        replace x86 := tr old2 x86 rfl
        replace x15 := tr old2 x15 rfl
        replace x96 := tr old2 x96 rfl
        replace x97 := tr old2 x97 rfl
        replace x98 := tr old2 x98 rfl
        have x99 := new2
        replace sd := sd2 sz2 df2 sd
        clear df2 sz2 old2 new2
        refine wh_take 3 100 (v := .map (some b9)) rfl rfl (by rw [sd.1]; decide) rfl (by kernel_rfl) (by kernel_rfl) (by kernel_rfl) (fun _ _ _ h => by cases h.1) (run_mv rfl x10) hS ?_
        intro f31 df2 sz2 old2 new2
        replace x1 := tr old2 x1 rfl
        replace x2 := tr old2 x2 rfl
        replace x7 := tr old2 x7 rfl
        replace x10 := tr old2 x10 rfl
        replace x84 := tr old2 x84 rfl
        replace x85 := tr old2 x85 rfl
        replace x86 := tr old2 x86 rfl
        replace x15 := tr old2 x15 rfl
        replace x96 := tr old2 x96 rfl
        replace x97 := tr old2 x97 rfl
        replace x98 := tr old2 x98 rfl
        replace x99 := tr old2 x99 rfl
        have x100 := new2
        replace sd := sd2 sz2 df2 sd
        clear df2 sz2 old2 new2
        refine wh_take 4 101 (v := .pointer (some ⟨g15, 1, none⟩)) rfl rfl (by rw [sd.1]; decide) rfl (by kernel_rfl) (by kernel_rfl) (by kernel_rfl) (fun _ _ _ h => by cases h.1) (run_field rfl x15 (fun w => by kernel_rfl)) hS ?_
        intro f32 df2 sz2 old2 new2
        replace x1 := tr old2 x1 rfl
        replace x2 := tr old2 x2 rfl
        replace x7 := tr old2 x7 rfl
        replace x10 := tr old2 x10 rfl
        replace x84 := tr old2 x84 rfl
        replace x85 := tr old2 x85 rfl
        replace x86 := tr old2 x86 rfl
        replace x15 := tr old2 x15 rfl
        replace x96 := tr old2 x96 rfl
        replace x97 := tr old2 x97 rfl
        replace x98 := tr old2 x98 rfl
        replace x99 := tr old2 x99 rfl
        replace x100 := tr old2 x100 rfl
        have x101 := new2
        replace sd := sd2 sz2 df2 sd
        clear df2 sz2 old2 new2
        refine wh_take 5 102 (v := .int .i64 (j : Int)) rfl rfl (by rw [sd.1]; decide) rfl (by kernel_rfl) (by kernel_rfl) (by kernel_rfl) (fun _ _ _ h => by cases h.1) (run_loadc rfl (fun w => by kernel_rfl) x101 (fun W hW => Ob.cell hW.1 1 rfl)) hS ?_
        intro f33 df2 sz2 old2 new2
        replace x1 := tr old2 x1 rfl
        replace x2 := tr old2 x2 rfl
        replace x7 := tr old2 x7 rfl
        replace x10 := tr old2 x10 rfl
        replace x84 := tr old2 x84 rfl
        replace x85 := tr old2 x85 rfl
        replace x86 := tr old2 x86 rfl
        replace x15 := tr old2 x15 rfl
        replace x96 := tr old2 x96 rfl
        replace x97 := tr old2 x97 rfl
        replace x98 := tr old2 x98 rfl
        replace x99 := tr old2 x99 rfl
        replace x100 := tr old2 x100 rfl
        replace x101 := tr old2 x101 rfl
        have x102 := new2
        replace sd := sd2 sz2 df2 sd
        clear df2 sz2 old2 new2
        refine wh_take 8 105 (v := .pointer (some ⟨g15, 3, none⟩)) rfl rfl (by rw [sd.1]; decide) rfl (by kernel_rfl) (by kernel_rfl) (by kernel_rfl) (fun _ _ _ h => by cases h.1) (run_field rfl x15 (fun w => by kernel_rfl)) hS ?_
        intro f34 df2 sz2 old2 new2
        replace x1 := tr old2 x1 rfl
        replace x2 := tr old2 x2 rfl
        replace x7 := tr old2 x7 rfl
        replace x10 := tr old2 x10 rfl
        replace x84 := tr old2 x84 rfl
        replace x85 := tr old2 x85 rfl
        replace x86 := tr old2 x86 rfl
        replace x15 := tr old2 x15 rfl
        replace x96 := tr old2 x96 rfl
        replace x97 := tr old2 x97 rfl
        replace x98 := tr old2 x98 rfl
        replace x99 := tr old2 x99 rfl
        replace x100 := tr old2 x100 rfl
        replace x101 := tr old2 x101 rfl
        replace x102 := tr old2 x102 rfl
        have x105 := new2
        replace sd := sd2 sz2 df2 sd
        clear df2 sz2 old2 new2
        refine wh_take 9 106 (v := oo.vb) rfl rfl (by rw [sd.1]; decide) rfl (by kernel_rfl) (by kernel_rfl) (by kernel_rfl) (fun _ _ _ h => by cases h.1) (run_loadc rfl (fun w => by kernel_rfl) x105 (fun W hW => Ob.cell hW.1 3 rfl)) hS ?_
        intro f35 df2 sz2 old2 new2
        replace x1 := tr old2 x1 rfl
        replace x2 := tr old2 x2 rfl
        replace x7 := tr old2 x7 rfl
        replace x10 := tr old2 x10 rfl
        replace x84 := tr old2 x84 rfl
        replace x85 := tr old2 x85 rfl
        replace x86 := tr old2 x86 rfl
        replace x15 := tr old2 x15 rfl
        replace x96 := tr old2 x96 rfl
        replace x97 := tr old2 x97 rfl
        replace x98 := tr old2 x98 rfl
        replace x99 := tr old2 x99 rfl
        replace x100 := tr old2 x100 rfl
        replace x101 := tr old2 x101 rfl
        replace x102 := tr old2 x102 rfl
        replace x105 := tr old2 x105 rfl
        have x106 := new2
        replace sd := sd2 sz2 df2 sd
        clear df2 sz2 old2 new2
        refine wh_take 10 107 (v := .string (str oo.bs)) rfl rfl (by rw [sd.1]; decide) rfl (by kernel_rfl) (by kernel_rfl) (by kernel_rfl) (fun _ _ _ h => by cases h.1) (run_strh rfl x106 hbz (fun W hW => hW.2)) hS ?_
        intro f36 df2 sz2 old2 new2
        replace x1 := tr old2 x1 rfl
        replace x2 := tr old2 x2 rfl
        replace x7 := tr old2 x7 rfl
        replace x10 := tr old2 x10 rfl
        replace x84 := tr old2 x84 rfl
        replace x85 := tr old2 x85 rfl
        replace x86 := tr old2 x86 rfl
        replace x15 := tr old2 x15 rfl
        replace x96 := tr old2 x96 rfl
        replace x97 := tr old2 x97 rfl
        replace x98 := tr old2 x98 rfl
        replace x99 := tr old2 x99 rfl
        replace x100 := tr old2 x100 rfl
        replace x101 := tr old2 x101 rfl
        replace x102 := tr old2 x102 rfl
        replace x105 := tr old2 x105 rfl
        replace x106 := tr old2 x106 rfl
        have x107 := new2
        replace sd := sd2 sz2 df2 sd
        clear df2 sz2 old2 new2
        obtain ⟨v1, gq, hq1, hq2, hq3, hq4⟩ := hmr.row j hj10
        obtain ⟨g1, C1, hv1, hB1, hlt1, _⟩ := os_block hq2 (hmr.ne j hj10)
        subst hv1
        have hcut := os_cut hq2
        obtain ⟨hc1, hC1⟩ := hcut
        clear hlt1
        obtain rfl : g1 = gq := Option.some.inj hq3
        refine wh_either 6 11 (by kernel_rfl) ?_ ?_
        · skip
          have hlk := run_lookupF (P := Try.prog) (t := 44) Try.under3 mapS (zeroS w27) hmr.im (k := (j : Int)) (wf_nat (by omega))
          rw [hq1] at hlk
          refine wpOp_execl rfl rfl 103 rfl (by rw [sd.1]; decide) (v := .slice (some ⟨g1, 0, none⟩) (tsd s j).length C1) (w2 := w27) (by unfold execOp; simp [x100, x102, hlk]) ?_
          intro f37 df2 sz2 old2 new2
          replace x1 := tr old2 x1 rfl
          replace x2 := tr old2 x2 rfl
          replace x7 := tr old2 x7 rfl
          replace x10 := tr old2 x10 rfl
          replace x84 := tr old2 x84 rfl
          replace x85 := tr old2 x85 rfl
          replace x86 := tr old2 x86 rfl
          replace x15 := tr old2 x15 rfl
          replace x96 := tr old2 x96 rfl
          replace x97 := tr old2 x97 rfl
          replace x98 := tr old2 x98 rfl
          replace x99 := tr old2 x99 rfl
          replace x100 := tr old2 x100 rfl
          replace x101 := tr old2 x101 rfl
          replace x102 := tr old2 x102 rfl
          replace x105 := tr old2 x105 rfl
          replace x106 := tr old2 x106 rfl
          replace x107 := tr old2 x107 rfl
          have x103 : f37.eval (.tmp 103) = .slice (some ⟨g1, 0, none⟩) (tsd s j).length C1 := new2
          replace sd := sd2 sz2 df2 sd
          clear df2 sz2 old2 new2
          clear hlk
          refine ⟨hS, ?_⟩
          refine wh_take 7 104 (v := .slice (some ⟨g1, 0, none⟩) 1 C1) rfl rfl (by rw [sd.1]; decide) rfl (by kernel_rfl) (by kernel_rfl) (by kernel_rfl) (fun _ _ _ h => by cases h.1) (run_cutS rfl x103 hC1) hS ?_
          intro f38 df2 sz2 old2 new2
          replace x1 := tr old2 x1 rfl
          replace x2 := tr old2 x2 rfl
          replace x7 := tr old2 x7 rfl
          replace x10 := tr old2 x10 rfl
          replace x84 := tr old2 x84 rfl
          replace x85 := tr old2 x85 rfl
          replace x86 := tr old2 x86 rfl
          replace x15 := tr old2 x15 rfl
          replace x96 := tr old2 x96 rfl
          replace x97 := tr old2 x97 rfl
          replace x98 := tr old2 x98 rfl
          replace x99 := tr old2 x99 rfl
          replace x100 := tr old2 x100 rfl
          replace x101 := tr old2 x101 rfl
          replace x102 := tr old2 x102 rfl
          replace x105 := tr old2 x105 rfl
          replace x106 := tr old2 x106 rfl
          replace x107 := tr old2 x107 rfl
          replace x103 := tr old2 x103 rfl
          have x104 := new2
          replace sd := sd2 sz2 df2 sd
          clear df2 sz2 old2 new2
          refine wh_only 11 (by kernel_rfl) ?_
          have hb := (Below.refl w27.heap.size w27).alloc (Nat.le_refl _) (.cells #[.string (str oo.bs)] 9)
          have hu : (Fk.os 0 [oo.bs]).f (.slice (some ⟨w27.heap.size, 0, none⟩) 1 1) (w27.alloc (.cells #[.string (str oo.bs)] 9)) := orw_new (cs := [.string (str oo.bs)]) rfl (Nat.zero_le _)
          refine wpOp_execl rfl rfl 108 rfl (by rw [sd.1]; decide) (v := .slice (some ⟨w27.heap.size, 0, none⟩) 1 1) (w2 := w27.alloc (.cells #[.string (str oo.bs)] 9)) (by unfold execOp; simp [x107, Try.bld45s]) ?_
          intro f40 df2 sz2 old2 new2
          replace x1 := tr old2 x1 rfl
          replace x2 := tr old2 x2 rfl
          replace x7 := tr old2 x7 rfl
          replace x10 := tr old2 x10 rfl
          replace x84 := tr old2 x84 rfl
          replace x85 := tr old2 x85 rfl
          replace x86 := tr old2 x86 rfl
          replace x15 := tr old2 x15 rfl
          replace x96 := tr old2 x96 rfl
          replace x97 := tr old2 x97 rfl
          replace x98 := tr old2 x98 rfl
          replace x99 := tr old2 x99 rfl
          replace x100 := tr old2 x100 rfl
          replace x101 := tr old2 x101 rfl
          replace x102 := tr old2 x102 rfl
          replace x105 := tr old2 x105 rfl
          replace x106 := tr old2 x106 rfl
          replace x107 := tr old2 x107 rfl
          replace x103 := tr old2 x103 rfl
          replace x104 := tr old2 x104 rfl
          have x108 : f40.eval (.tmp 108) = .slice (some ⟨w27.heap.size, 0, none⟩) 1 1 := new2
          replace sd := sd2 sz2 df2 sd
          clear df2 sz2 old2 new2
          generalize w27.alloc (.cells #[.string (str oo.bs)] 9) = w39 at hb hu ⊢
          obtain ⟨gu, hgu⟩ : ∃ q, q = w27.heap.size := ⟨_, rfl⟩
          rw [← hgu] at x108 hu
          clear hgu
          replace hd := HD.below hd hb
          replace hc1 := Fk.mono _ _ _ _ hc1 hb
          replace hmr := Mr.below hmr hb
          replace bl := bgo bl hb
          replace hS := And.intro (Ob.below hS.1 hb) (Fk.mono _ _ _ _ hS.2 hb)
          clear hb
          refine ⟨hS, ?_⟩
          have hdl := hd.lt
          obtain ⟨v9, w41, hrun, hos, hgr, hown⟩ := run_appS 45 (B := w.heap.size) bl.size hc1 hu (by simp)
          refine wh_only 12 (by kernel_rfl) ?_
          refine wpOp_execl rfl rfl 109 rfl (by rw [sd.1]; decide) (v := v9) (w2 := w41) (by unfold execOp; simp [resolve, invoke, builtin, x104, x108, hrun]) ?_
          intro f43 df2 sz2 old2 new2
          replace x1 := tr old2 x1 rfl
          replace x2 := tr old2 x2 rfl
          replace x7 := tr old2 x7 rfl
          replace x10 := tr old2 x10 rfl
          replace x84 := tr old2 x84 rfl
          replace x85 := tr old2 x85 rfl
          replace x86 := tr old2 x86 rfl
          replace x15 := tr old2 x15 rfl
          replace x96 := tr old2 x96 rfl
          replace x97 := tr old2 x97 rfl
          replace x98 := tr old2 x98 rfl
          replace x99 := tr old2 x99 rfl
          replace x100 := tr old2 x100 rfl
          replace x101 := tr old2 x101 rfl
          replace x102 := tr old2 x102 rfl
          replace x105 := tr old2 x105 rfl
          replace x106 := tr old2 x106 rfl
          replace x107 := tr old2 x107 rfl
          replace x103 := tr old2 x103 rfl
          replace x104 := tr old2 x104 rfl
          replace x108 := tr old2 x108 rfl
          have x109 : f43.eval (.tmp 109) = v9 := new2
          replace sd := sd2 sz2 df2 sd
          clear df2 sz2 old2 new2
          have himg : Im w41 b9 lm := hmr.im.keep (hgr.block b9 hmr.lt (fun e => by have h7 := hmr.own hq1; obtain ⟨g7, e7, _, _, _, n7⟩ := h7; cases e7; cases e; exact n7 rfl))
          obtain ⟨w42, hrun2, him, O⟩ := run_updateI (P := Try.prog) (t := 44) Try.under3 mapS himg (k := (j : Int)) (wf_nat (by omega)) v9
          obtain ⟨hmr2, hF⟩ := hmr.put (i := j) (n2 := 10) (v1 := .slice (some ⟨g1, 0, none⟩) 1 C1) hgr (.inr ⟨_, hq1, rfl⟩) hos (by simp) hown him O hdl (fun q h => .inr h) hj10 (Nat.le_refl _)
          have hnb1 : ¬ g15 = g1 := fun e => nbr _ _ hq1 (by rw [e]; rfl)
          have hnb2 := nbb
          have hsF : ∀ {X : Nat → Prop} {v : World}, Fr X w39 v → (∀ q, X q → w.heap.size ≤ q) → (Fk.sl oo.bs).f oo.vb v := fun F h => Fk.mono _ _ _ _ hboo (bl.trans (F.below bl.size h))
          have hsF2 : ∀ {X : Nat → Prop} {v v2 : World}, Fr X w39 v → (∀ q, X q → w.heap.size ≤ q) → Only b9 v v2 → w.heap.size ≤ b9 → (Fk.sl oo.bs).f oo.vb v2 := fun F h O hB => Fk.mono _ _ _ _ hboo ((bl.trans (F.below bl.size h)).trans (O.below _ hB (Nat.le_trans bl.size F.size)))
          have hne7 : g15 ≠ g1 ∧ g15 ≠ b9 := ⟨hnb1, hnb2⟩
          have hS1 : (fun W => Ob W g15 32 [.int .i64 oo.k, .int .i64 (j : Int), .int .i64 oo.n, oo.vb, oo.vl] ∧ (Fk.sl oo.bs).f oo.vb W) w41 := ⟨by have := hS.1; unfold Ob at *; rw [hgr.block g15 (Ob.lt hS.1) (fun e => hnb1 (by cases e; rfl))]; exact this, hsF (fr_grown hgr) (fun q e => by cases e; exact hB1)⟩
          refine ⟨hS1, ?_⟩
          refine wh_only 13 (by kernel_rfl) ?_
          refine wpOp_exec0 rfl rfl rfl (w2 := w42) (by unfold execOp; simp [x97, x99, x109, hrun2]) ?_
          refine ⟨⟨hS1.1.only O hnb2, hsF2 (fr_grown hgr) (fun q e => by cases e; exact hB1) O hmr.bB⟩, ?_⟩
          refine wpAnyH_done (by kernel_rfl) ?_ _
          replace hd := hd.keep (fun j q => hF.block j (hdl j q) (fun q2 => q2.1 q)) hF.size
          replace bl := bl.trans (hF.below bl.size (fun j q => q.2))
          exact ⟨rfl, v9, sd.1, sd.2, x1, x2, x7, x10, x84, x85, x86, hd, hmr2.congr (fun i hi => tsd_wrt hs1 hs2 (by rw [gs.cch]; exact hj10) (fun e => by rw [e] at hbz; cases hbz) i), bl⟩
        · skip
          have hb := (Below.refl w27.heap.size w27).alloc (Nat.le_refl _) (.cells #[.string (str oo.bs)] 9)
          have hu : (Fk.os 0 [oo.bs]).f (.slice (some ⟨w27.heap.size, 0, none⟩) 1 1) (w27.alloc (.cells #[.string (str oo.bs)] 9)) := orw_new (cs := [.string (str oo.bs)]) rfl (Nat.zero_le _)
          refine wpOp_execl rfl rfl 108 rfl (by rw [sd.1]; decide) (v := .slice (some ⟨w27.heap.size, 0, none⟩) 1 1) (w2 := w27.alloc (.cells #[.string (str oo.bs)] 9)) (by unfold execOp; simp [x107, Try.bld45s]) ?_
          intro f45 df2 sz2 old2 new2
          replace x1 := tr old2 x1 rfl
          replace x2 := tr old2 x2 rfl
          replace x7 := tr old2 x7 rfl
          replace x10 := tr old2 x10 rfl
          replace x84 := tr old2 x84 rfl
          replace x85 := tr old2 x85 rfl
          replace x86 := tr old2 x86 rfl
          replace x15 := tr old2 x15 rfl
          replace x96 := tr old2 x96 rfl
          replace x97 := tr old2 x97 rfl
          replace x98 := tr old2 x98 rfl
          replace x99 := tr old2 x99 rfl
          replace x100 := tr old2 x100 rfl
          replace x101 := tr old2 x101 rfl
          replace x102 := tr old2 x102 rfl
          replace x105 := tr old2 x105 rfl
          replace x106 := tr old2 x106 rfl
          replace x107 := tr old2 x107 rfl
          have x108 : f45.eval (.tmp 108) = .slice (some ⟨w27.heap.size, 0, none⟩) 1 1 := new2
          replace sd := sd2 sz2 df2 sd
          clear df2 sz2 old2 new2
          generalize w27.alloc (.cells #[.string (str oo.bs)] 9) = w44 at hb hu ⊢
          obtain ⟨gu, hgu⟩ : ∃ q, q = w27.heap.size := ⟨_, rfl⟩
          rw [← hgu] at x108 hu
          clear hgu
          replace hd := HD.below hd hb
          replace hc1 := Fk.mono _ _ _ _ hc1 hb
          replace hmr := Mr.below hmr hb
          replace bl := bgo bl hb
          replace hS := And.intro (Ob.below hS.1 hb) (Fk.mono _ _ _ _ hS.2 hb)
          clear hb
          refine ⟨hS, ?_⟩
          refine wh_only 6 (by kernel_rfl) ?_
          have hlk := run_lookupF (P := Try.prog) (t := 44) Try.under3 mapS (zeroS w44) hmr.im (k := (j : Int)) (wf_nat (by omega))
          rw [hq1] at hlk
          refine wpOp_execl rfl rfl 103 rfl (by rw [sd.1]; decide) (v := .slice (some ⟨g1, 0, none⟩) (tsd s j).length C1) (w2 := w44) (by unfold execOp; simp [x100, x102, hlk]) ?_
          intro f46 df2 sz2 old2 new2
          replace x1 := tr old2 x1 rfl
          replace x2 := tr old2 x2 rfl
          replace x7 := tr old2 x7 rfl
          replace x10 := tr old2 x10 rfl
          replace x84 := tr old2 x84 rfl
          replace x85 := tr old2 x85 rfl
          replace x86 := tr old2 x86 rfl
          replace x15 := tr old2 x15 rfl
          replace x96 := tr old2 x96 rfl
          replace x97 := tr old2 x97 rfl
          replace x98 := tr old2 x98 rfl
          replace x99 := tr old2 x99 rfl
          replace x100 := tr old2 x100 rfl
          replace x101 := tr old2 x101 rfl
          replace x102 := tr old2 x102 rfl
          replace x105 := tr old2 x105 rfl
          replace x106 := tr old2 x106 rfl
          replace x107 := tr old2 x107 rfl
          replace x108 := tr old2 x108 rfl
          have x103 : f46.eval (.tmp 103) = .slice (some ⟨g1, 0, none⟩) (tsd s j).length C1 := new2
          replace sd := sd2 sz2 df2 sd
          clear df2 sz2 old2 new2
          clear hlk
          refine ⟨hS, ?_⟩
          refine wh_take 7 104 (v := .slice (some ⟨g1, 0, none⟩) 1 C1) rfl rfl (by rw [sd.1]; decide) rfl (by kernel_rfl) (by kernel_rfl) (by kernel_rfl) (fun _ _ _ h => by cases h.1) (run_cutS rfl x103 hC1) hS ?_
          intro f47 df2 sz2 old2 new2
          replace x1 := tr old2 x1 rfl
          replace x2 := tr old2 x2 rfl
          replace x7 := tr old2 x7 rfl
          replace x10 := tr old2 x10 rfl
          replace x84 := tr old2 x84 rfl
          replace x85 := tr old2 x85 rfl
          replace x86 := tr old2 x86 rfl
          replace x15 := tr old2 x15 rfl
          replace x96 := tr old2 x96 rfl
          replace x97 := tr old2 x97 rfl
          replace x98 := tr old2 x98 rfl
          replace x99 := tr old2 x99 rfl
          replace x100 := tr old2 x100 rfl
          replace x101 := tr old2 x101 rfl
          replace x102 := tr old2 x102 rfl
          replace x105 := tr old2 x105 rfl
          replace x106 := tr old2 x106 rfl
          replace x107 := tr old2 x107 rfl
          replace x108 := tr old2 x108 rfl
          replace x103 := tr old2 x103 rfl
          have x104 := new2
          replace sd := sd2 sz2 df2 sd
          clear df2 sz2 old2 new2
          have hdl := hd.lt
          obtain ⟨v9, w48, hrun, hos, hgr, hown⟩ := run_appS 45 (B := w.heap.size) bl.size hc1 hu (by simp)
          refine wh_only 12 (by kernel_rfl) ?_
          refine wpOp_execl rfl rfl 109 rfl (by rw [sd.1]; decide) (v := v9) (w2 := w48) (by unfold execOp; simp [resolve, invoke, builtin, x104, x108, hrun]) ?_
          intro f50 df2 sz2 old2 new2
          replace x1 := tr old2 x1 rfl
          replace x2 := tr old2 x2 rfl
          replace x7 := tr old2 x7 rfl
          replace x10 := tr old2 x10 rfl
          replace x84 := tr old2 x84 rfl
          replace x85 := tr old2 x85 rfl
          replace x86 := tr old2 x86 rfl
          replace x15 := tr old2 x15 rfl
          replace x96 := tr old2 x96 rfl
          replace x97 := tr old2 x97 rfl
          replace x98 := tr old2 x98 rfl
          replace x99 := tr old2 x99 rfl
          replace x100 := tr old2 x100 rfl
          replace x101 := tr old2 x101 rfl
          replace x102 := tr old2 x102 rfl
          replace x105 := tr old2 x105 rfl
          replace x106 := tr old2 x106 rfl
          replace x107 := tr old2 x107 rfl
          replace x108 := tr old2 x108 rfl
          replace x103 := tr old2 x103 rfl
          replace x104 := tr old2 x104 rfl
          have x109 : f50.eval (.tmp 109) = v9 := new2
          replace sd := sd2 sz2 df2 sd
          clear df2 sz2 old2 new2
          have himg : Im w48 b9 lm := hmr.im.keep (hgr.block b9 hmr.lt (fun e => by have h7 := hmr.own hq1; obtain ⟨g7, e7, _, _, _, n7⟩ := h7; cases e7; cases e; exact n7 rfl))
          obtain ⟨w49, hrun2, him, O⟩ := run_updateI (P := Try.prog) (t := 44) Try.under3 mapS himg (k := (j : Int)) (wf_nat (by omega)) v9
          obtain ⟨hmr2, hF⟩ := hmr.put (i := j) (n2 := 10) (v1 := .slice (some ⟨g1, 0, none⟩) 1 C1) hgr (.inr ⟨_, hq1, rfl⟩) hos (by simp) hown him O hdl (fun q h => .inr h) hj10 (Nat.le_refl _)
          have hnb1 : ¬ g15 = g1 := fun e => nbr _ _ hq1 (by rw [e]; rfl)
          have hnb2 := nbb
          have hsF : ∀ {X : Nat → Prop} {v : World}, Fr X w44 v → (∀ q, X q → w.heap.size ≤ q) → (Fk.sl oo.bs).f oo.vb v := fun F h => Fk.mono _ _ _ _ hboo (bl.trans (F.below bl.size h))
          have hsF2 : ∀ {X : Nat → Prop} {v v2 : World}, Fr X w44 v → (∀ q, X q → w.heap.size ≤ q) → Only b9 v v2 → w.heap.size ≤ b9 → (Fk.sl oo.bs).f oo.vb v2 := fun F h O hB => Fk.mono _ _ _ _ hboo ((bl.trans (F.below bl.size h)).trans (O.below _ hB (Nat.le_trans bl.size F.size)))
          have hne7 : g15 ≠ g1 ∧ g15 ≠ b9 := ⟨hnb1, hnb2⟩
          have hS1 : (fun W => Ob W g15 32 [.int .i64 oo.k, .int .i64 (j : Int), .int .i64 oo.n, oo.vb, oo.vl] ∧ (Fk.sl oo.bs).f oo.vb W) w48 := ⟨by have := hS.1; unfold Ob at *; rw [hgr.block g15 (Ob.lt hS.1) (fun e => hnb1 (by cases e; rfl))]; exact this, hsF (fr_grown hgr) (fun q e => by cases e; exact hB1)⟩
          refine ⟨hS1, ?_⟩
          refine wh_only 13 (by kernel_rfl) ?_
          refine wpOp_exec0 rfl rfl rfl (w2 := w49) (by unfold execOp; simp [x97, x99, x109, hrun2]) ?_
          refine ⟨⟨hS1.1.only O hnb2, hsF2 (fr_grown hgr) (fun q e => by cases e; exact hB1) O hmr.bB⟩, ?_⟩
          refine wpAnyH_done (by kernel_rfl) ?_ _
          replace hd := hd.keep (fun j q => hF.block j (hdl j q) (fun q2 => q2.1 q)) hF.size
          replace bl := bl.trans (hF.below bl.size (fun j q => q.2))
          exact ⟨rfl, v9, sd.1, sd.2, x1, x2, x7, x10, x84, x85, x86, hd, hmr2.congr (fun i hi => tsd_wrt hs1 hs2 (by rw [gs.cch]; exact hj10) (fun e => by rw [e] at hbz; cases hbz) i), bl⟩
      clear sd hd hmr bl bl0 m15 x1 x2 x7 x10 x84 x85 x86 x15 x96 nDb
      clear nbb nbr
      rintro f51 w51 ⟨v9, sz, df, x1, x2, x7, x10, x84, x85, x86, hd, hmr, bl⟩
      have sd := And.intro sz df
      clear sz df
      have bl0 := bl
      show Code.wp _ _ _ _ _
      refine wr_s [.eq (.int .i64 ((k + 1 : Nat) : Int))] (by rw [sd.1]; kernel_rfl) ⟨fun hw ac u K => ?_, trivial⟩ ?_
      · exact st_add (.tmp 86) (.const (.int .i64 1)) rfl (k) (1) (k + 1) (K.t x86 rfl) rfl (by omega) (by omega)
      intro f52 w52 A hb
      replace x1 := A.t x1 rfl
      replace x2 := A.t x2 rfl
      replace x7 := A.t x7 rfl
      replace x10 := A.t x10 rfl
      replace x84 := A.t x84 rfl
      replace x85 := A.t x85 rfl
      replace x86 := A.t x86 rfl
      have x110 := A.e 0 110 rfl rfl
      replace hd := HD.below hd hb
      replace hmr := Mr.below hmr hb
      replace bl := bgo bl hb
      replace sd := A.sd sd
      clear A hb
      refine wl_one (.eq (.int .i64 ((k + 1 : Nat) : Int))) rfl 86 rfl (by rw [sd.1]; decide) (st_move (.tmp 110) rfl x110) ?_
      intro f53 w53 df2 sz2 old2 new2 hb
      replace x1 := tr old2 x1 rfl
      replace x2 := tr old2 x2 rfl
      replace x7 := tr old2 x7 rfl
      replace x10 := tr old2 x10 rfl
      replace x84 := tr old2 x84 rfl
      replace x85 := tr old2 x85 rfl
      clear x86
      replace x110 := tr old2 x110 rfl
      have x86 := Fk.e new2
      replace hd := HD.below hd hb
      replace hmr := Mr.below hmr hb
      replace bl := bgo bl hb
      replace sd := sd2 sz2 df2 sd
      clear df2 sz2 old2 new2 hb
      refine wpList_nil ?_
      clear x110
      show (∃ _, _) ∧ _
      refine ⟨⟨k + 1, (wrt s oo.s oo.bs).2, DD, mput lm (j : Int) v9, by omega, gd_wrt gs _ _, on_wrt hon9 _ _, hDD, sd.1, sd.2, x1, x2, x7, x10, x84, x85, x86, hd, hmr, bl⟩, ?_⟩
      rw [show f53.eval (.tmp 86) = _ from x86, show _ = _ from hcnt]
      first | (simp [intOf]; done) | (simp [intOf]; omega)
    have hr1 := on_rd hon1 (k := k) (by rw [gs1.has]; exact hlt)
    refine wr_a [.eq (.bool true)] (by rw [sd.1]; kernel_rfl) ⟨fun hw ac u K => ?_, trivial⟩ ?_
    · exact st_lss 3 (.tmp 63) (.const (.int .i64 10)) rfl .i64 ((k : Int)) (10) (K.t x63 rfl) rfl _ (by rw [eq_comm, decide_eq_true_iff]; omega)
    intro f17 w17 A hb
    replace x1 := A.t x1 rfl
    replace x2 := A.t x2 rfl
    replace x7 := A.t x7 rfl
    replace x10 := A.t x10 rfl
    replace x63 := A.t x63 rfl
    have x64 := A.e 0 64 rfl rfl
    replace hd := HD.below hd hb
    replace hmr := Mr.below hmr hb
    replace bl := bgo bl hb
    replace sd := A.sd sd
    clear A hb
    show Code.wp _ _ _ _ _
    refine wp_seq ?_
    refine wp_cond_true x64 ?_
    refine wp_skip ?_
    show Code.wp _ _ _ _ _
    refine wp_seq ?_
    refine wp_block ?_
    refine wp_seq ?_
    refine wr_a [.eq (.int .i64 (k : Int)), .eq (.int .i64 (k : Int))] (by rw [sd.1]; kernel_rfl) ⟨fun hw ac u K => ?_, fun hw ac u K => ?_, trivial⟩ ?_
    · exact st_move (.tmp 63) rfl (K.t x63 rfl)
    · exact st_assign (.tmp 65) rfl (K.dep 0 65 rfl)
    intro f18 w18 A hb
    replace x1 := A.t x1 rfl
    replace x2 := A.t x2 rfl
    replace x7 := A.t x7 rfl
    replace x10 := A.t x10 rfl
    replace x63 := A.t x63 rfl
    replace x64 := A.t x64 rfl
    have x11 := A.e 1 11 rfl rfl
    replace hd := HD.below hd hb
    replace hmr := Mr.below hmr hb
    replace bl := bgo bl hb
    replace sd := A.sd sd
    clear A hb
    clear x64
    show Code.wp _ _ _ _ _
    refine wp_seq ?_
    refine wr_s [.eq (.pointer (some ⟨gd, 0, none⟩)), .eq (.int .i64 (k : Int))] (by rw [sd.1]; kernel_rfl) ⟨fun hw ac u K => ?_, fun hw ac u K => ?_, trivial⟩ ?_
    · exact st_move (.tmp 7) rfl (K.t x7 rfl)
    · exact st_move (.tmp 11) rfl (K.t x11 rfl)
    intro f19 w19 A hb
    replace x1 := A.t x1 rfl
    replace x2 := A.t x2 rfl
    replace x7 := A.t x7 rfl
    replace x10 := A.t x10 rfl
    replace x63 := A.t x63 rfl
    replace x11 := A.t x11 rfl
    have x67 := A.e 0 67 rfl rfl
    have x68 := A.e 1 68 rfl rfl
    replace hd := HD.below hd hb
    replace hmr := Mr.below hmr hb
    replace bl := bgo bl hb
    replace sd := A.sd sd
    clear A hb
    refine wl_call 16 (.func 16) _ _ #[.pointer (some ⟨gd, 0, none⟩), .int .i64 (k : Int)] rfl 69 rfl (by rw [sd.1]; decide) rfl rfl (two_arg x67 x68) Try.enter16 (fun u W' => ∃ (D2 : Nat → Prop) (A : Option Addr) (C : Nat), u = .tuple #[.slice A (nowd s0 k).length C, .int .i64 0] ∧ (Fk.sl (nowd s0 k)).f (.slice A (nowd s0 k).length C) W' ∧ (0 < (nowd s0 k).length → ∃ g, A = some ⟨g, 0, none⟩ ∧ w19.heap.size ≤ g ∧ ¬ D2 g ∧ Wb W' g (nowd s0 k).length) ∧ HD W' gd M D2 s0 ∧ (∀ j, D2 j → DD j ∨ w19.heap.size ≤ j) ∧ Fr M w19 W') ((show Calls Try.prog 16 #[.pointer (some ⟨gd, 0, none⟩), .int .i64 (k : Int)] w19 (fun e W' => ∃ (D2 : Nat → Prop) (A : Option Addr) (C : Nat), e = .returned (.tuple #[.slice A (nowd s0 k).length C, .int .i64 0]) ∧ _) from by have := fk_dread hd (k : Int); rw [show (rd s0 (k : Int)).1 = 0 from by rw [hr1], show (rd s0 (k : Int)).2 = nowd s0 k from by rw [hr1]] at this; exact this).mono (by rintro e w' ⟨D2, A, C, rfl, q⟩; exact ⟨_, rfl, D2, A, C, rfl, q⟩)) ?_
    rintro f20 w20 df2 sz2 old2 ⟨D2, A1, C1, x69, hsl, hG0, hd2, hD2, O⟩
    have OM := O
    replace O := O.mono hd.sub
    replace x1 := tr old2 x1 rfl
    replace x2 := tr old2 x2 rfl
    replace x7 := tr old2 x7 rfl
    replace x10 := tr old2 x10 rfl
    replace x63 := tr old2 x63 rfl
    replace x11 := tr old2 x11 rfl
    replace x67 := tr old2 x67 rfl
    replace x68 := tr old2 x68 rfl
    have hO1 : Ob8 w.heap.size D2 (fun _ => False) (nowd s0 k) A1 C1 w20 := ⟨hsl, fun q => by
      obtain ⟨g, h1, h2, h3, h4⟩ := hG0 q
      exact ⟨g, h1, Nat.le_trans bl.size h2, not_false, h3, h4⟩⟩
    clear hsl hG0
    have hml := hmr.lt
    replace hmr := hmr.disk O hD2
    clear hml
    have bl9 := bl.trans (O.below bl.size hDD)
    replace hDD : ∀ j, D2 j → w.heap.size ≤ j := fun j q => (hD2 j q).elim (hDD j) (fun q => Nat.le_trans bl.size q)
    replace bl := bl9
    replace bl0 := bl
    replace hd := hd2
    replace sd := sd2 sz2 df2 sd
    clear df2 sz2 old2 hd2 bl9
    clear O OM hD2
    clear DD
    obtain ⟨DD, rfl⟩ : ∃ E, E = D2 := ⟨_, rfl⟩
    clear x67
    clear x68
    refine wl_one (.eq (.tuple #[.slice A1 (nowd s0 k).length C1, .int .i64 0])) rfl 66 rfl (by rw [sd.1]; decide) (st_move (.tmp 69) rfl x69) ?_
    intro f21 w21 df2 sz2 old2 new2 hb
    replace x1 := tr old2 x1 rfl
    replace x2 := tr old2 x2 rfl
    replace x7 := tr old2 x7 rfl
    replace x10 := tr old2 x10 rfl
    replace x63 := tr old2 x63 rfl
    replace x11 := tr old2 x11 rfl
    replace x69 := tr old2 x69 rfl
    have x66 := Fk.e new2
    replace hd := HD.below hd hb
    replace hmr := Mr.below hmr hb
    replace hO1 := Ob8.below hO1 hb
    replace bl := bgo bl hb
    replace sd := sd2 sz2 df2 sd
    clear df2 sz2 old2 new2 hb
    clear x69
    refine wl_one (.eq (.slice A1 (nowd s0 k).length C1)) rfl 70 rfl (by rw [sd.1]; decide) (st_ext0 (.tmp 66) rfl x66 rfl) ?_
    intro f22 w22 df2 sz2 old2 new2 hb
    replace x1 := tr old2 x1 rfl
    replace x2 := tr old2 x2 rfl
    replace x7 := tr old2 x7 rfl
    replace x10 := tr old2 x10 rfl
    replace x63 := tr old2 x63 rfl
    replace x11 := tr old2 x11 rfl
    replace x66 := tr old2 x66 rfl
    have x70 := Fk.e new2
    replace hd := HD.below hd hb
    replace hmr := Mr.below hmr hb
    replace hO1 := Ob8.below hO1 hb
    replace bl := bgo bl hb
    replace sd := sd2 sz2 df2 sd
    clear df2 sz2 old2 new2 hb
    refine wl_one (.eq (.int .i64 0)) rfl 71 rfl (by rw [sd.1]; decide) (st_ext1 (.tmp 66) rfl x66 rfl) ?_
    intro f23 w23 df2 sz2 old2 new2 hb
    replace x1 := tr old2 x1 rfl
    replace x2 := tr old2 x2 rfl
    replace x7 := tr old2 x7 rfl
    replace x10 := tr old2 x10 rfl
    replace x63 := tr old2 x63 rfl
    replace x11 := tr old2 x11 rfl
    replace x66 := tr old2 x66 rfl
    replace x70 := tr old2 x70 rfl
    have x71 := Fk.e new2
    replace hd := HD.below hd hb
    replace hmr := Mr.below hmr hb
    replace hO1 := Ob8.below hO1 hb
    replace bl := bgo bl hb
    replace sd := sd2 sz2 df2 sd
    clear df2 sz2 old2 new2 hb
    clear x66
    refine wl_one (.eq (.slice A1 (nowd s0 k).length C1)) rfl 12 rfl (by rw [sd.1]; decide) (st_assign (.tmp 70) rfl x70) ?_
    intro f24 w24 df2 sz2 old2 new2 hb
    replace x1 := tr old2 x1 rfl
    replace x2 := tr old2 x2 rfl
    replace x7 := tr old2 x7 rfl
    replace x10 := tr old2 x10 rfl
    replace x63 := tr old2 x63 rfl
    replace x11 := tr old2 x11 rfl
    replace x70 := tr old2 x70 rfl
    replace x71 := tr old2 x71 rfl
    have x12 := Fk.e new2
    replace hd := HD.below hd hb
    replace hmr := Mr.below hmr hb
    replace hO1 := Ob8.below hO1 hb
    replace bl := bgo bl hb
    replace sd := sd2 sz2 df2 sd
    clear df2 sz2 old2 new2 hb
    clear x70
    refine wl_one (.eq (.int .i64 0)) rfl 13 rfl (by rw [sd.1]; decide) (st_assign (.tmp 71) rfl x71) ?_
    intro f25 w25 df2 sz2 old2 new2 hb
    replace x1 := tr old2 x1 rfl
    replace x2 := tr old2 x2 rfl
    replace x7 := tr old2 x7 rfl
    replace x10 := tr old2 x10 rfl
    replace x63 := tr old2 x63 rfl
    replace x11 := tr old2 x11 rfl
    replace x71 := tr old2 x71 rfl
    replace x12 := tr old2 x12 rfl
    have x13 := Fk.e new2
    replace hd := HD.below hd hb
    replace hmr := Mr.below hmr hb
    replace hO1 := Ob8.below hO1 hb
    replace bl := bgo bl hb
    replace sd := sd2 sz2 df2 sd
    clear df2 sz2 old2 new2 hb
    refine wpList_nil ?_
    clear x71
    show Code.wp _ _ _ _ _
    refine wp_seq ?_
    refine wp_seq ?_
    refine wr_a [.eq (.int .i64 0), .eq (.bool false)] (by rw [sd.1]; kernel_rfl) ⟨fun hw ac u K => ?_, fun hw ac u K => ?_, trivial⟩ ?_
    · exact st_move (.tmp 13) rfl (K.t x13 rfl)
    · exact st_neqi 37 (.tmp 72) (.const (.int .i64 0)) rfl .i64 (0) (0) (K.dep 0 72 rfl) rfl _ (by simp)
    intro f26 w26 A hb
    replace x1 := A.t x1 rfl
    replace x2 := A.t x2 rfl
    replace x7 := A.t x7 rfl
    replace x10 := A.t x10 rfl
    replace x63 := A.t x63 rfl
    replace x11 := A.t x11 rfl
    replace x12 := A.t x12 rfl
    replace x13 := A.t x13 rfl
    have x73 := A.e 1 73 rfl rfl
    replace hd := HD.below hd hb
    replace hmr := Mr.below hmr hb
    replace hO1 := Ob8.below hO1 hb
    replace bl := bgo bl hb
    replace sd := A.sd sd
    clear A hb
    clear x13
    show Code.wp _ _ _ _ _
    refine wp_cond_false x73 ?_
    refine wp_skip ?_
    show Code.wp _ _ _ _ _
    have hv1 := hO1.1
    clear hO1
    refine wr_s [.eq (.map (some b9)), .eq (.int .i64 (k : Int)), .eq (.map (some b9)), .eq (.int .i64 (k : Int)), .eq (.slice none 0 0), .eq (.slice A1 (nowd s0 k).length C1), .eq (.string (str (nowd s0 k))), .os 0 [nowd s0 k]] (by rw [sd.1]; kernel_rfl) ⟨fun hw ac u K => ?_, fun hw ac u K => ?_, fun hw ac u K => ?_, fun hw ac u K => ?_, fun hw ac u K => ?_, fun hw ac u K => ?_, fun hw ac u K => ?_, fun hw ac u K => ?_, trivial⟩ ?_
    · exact st_move (.tmp 10) rfl (K.t x10 rfl)
    · exact st_move (.tmp 11) rfl (K.t x11 rfl)
    · exact st_move (.tmp 10) rfl (K.t x10 rfl)
    · exact st_move (.tmp 11) rfl (K.t x11 rfl)
    · exact st_lookF rfl (K.dep 2 76 rfl) (Im.below hmr.im K.grow) (K.dep 3 77 rfl) (wf_nat (by omega)) (by rw [hmr.none (Nat.le_refl k)]; rfl)
    · exact st_move (.tmp 12) rfl (K.t x12 rfl)
    · exact st_stra (.tmp 79) rfl (fk_val (K.dep 5 79 rfl) (Fk.mono _ _ _ _ hv1 K.grow))
    · exact st_blds (.tmp 80) rfl (K.dep 6 80 rfl)
    intro f27 w27 A hb
    have S_hv1 := hv1
    have S_hd := hd
    have S_hmr := hmr
    have hbS0 := Below.refl w26.heap.size w26
    have hbS := hb
    replace x1 := A.t x1 rfl
    replace x2 := A.t x2 rfl
    replace x7 := A.t x7 rfl
    replace x10 := A.t x10 rfl
    replace x63 := A.t x63 rfl
    replace x11 := A.t x11 rfl
    replace x12 := A.t x12 rfl
    replace x73 := A.t x73 rfl
    have x74 := A.e 0 74 rfl rfl
    have x75 := A.e 1 75 rfl rfl
    have x78 := A.e 4 78 rfl rfl
    have x81 : Fk.f (.os 0 [nowd s0 k]) (f27.eval (.tmp 81)) w27 := A.has 7 81 rfl
    replace hv1 := Fk.mono _ _ _ _ hv1 hb
    replace hd := HD.below hd hb
    replace hmr := Mr.below hmr hb
    replace bl := bgo bl hb
    replace sd := A.sd sd
    clear A hb
    clear x11
    clear x12
    clear x73
    have hdl := hd.lt
    refine wl_appS rfl (.tmp 78) (.tmp 81) rfl 82 rfl (by rw [sd.1]; decide) (B := w.heap.size) (P := []) bl.size x78 (os_nil _ _) x81 (Nat.zero_le _) ?_
    intro f28 w28 v9 df2 sz2 old2 x82 hos hgr hown
    clear x81
    replace x1 := tr old2 x1 rfl
    replace x2 := tr old2 x2 rfl
    replace x7 := tr old2 x7 rfl
    replace x10 := tr old2 x10 rfl
    replace x63 := tr old2 x63 rfl
    replace x74 := tr old2 x74 rfl
    replace x75 := tr old2 x75 rfl
    replace x78 := tr old2 x78 rfl
    replace sd := sd2 sz2 df2 sd
    clear df2 sz2 old2
    clear x78
    have himg : Im w28 b9 lm := hmr.im.keep (hgr.block b9 hmr.lt (by rintro q; cases q))
    obtain ⟨w29, hrun, him, O⟩ := run_updateI (P := Try.prog) (t := 44) Try.under3 mapS himg (k := (k : Int)) (wf_nat (by omega)) v9
    refine wl_exec0 rfl rfl (v := undef) (w2 := w29) (.inr (by unfold execOp; simp [x74, x75, x82, hrun])) ?_
    obtain ⟨hmr2, hF⟩ := hmr.put (i := k) (n2 := k + 1) (v1 := .slice none 0 0) hgr (.inl rfl) hos (by simp) hown him O hdl (fun j hj => by omega) (by omega) (by omega)
    replace hd := hd.keep (fun j q => hF.block j (hdl j q) (fun q2 => q2.1 q)) hF.size
    replace bl := bl.trans (hF.below bl.size (fun j q => q.2))
    replace bl0 := bl
    replace hmr : Mr w29 w.heap.size b9 DD (k + 1) (tsd s0) (mput lm (k : Int) v9) := hmr2.congr (fun i hi => if e : i = k then (by subst e; rw [if_pos rfl, tsd_flu hcn]; rfl) else (by rw [if_neg e]))
    clear hmr2 hF himg hrun him O hgr hos hown hdl
    clear hv1
    clear x74
    clear x75
    clear x82
    refine wpList_nil ?_
    clear hbS hbS0 S_hd S_hmr
    show Code.wp _ _ _ _ _
    refine wr_s [.eq (.int .i64 ((k + 1 : Nat) : Int))] (by rw [sd.1]; kernel_rfl) ⟨fun hw ac u K => ?_, trivial⟩ ?_
    · exact st_add (.tmp 63) (.const (.int .i64 1)) rfl (k) (1) (k + 1) (K.t x63 rfl) rfl (by omega) (by omega)
    intro f30 w30 A hb
    replace x1 := A.t x1 rfl
    replace x2 := A.t x2 rfl
    replace x7 := A.t x7 rfl
    replace x10 := A.t x10 rfl
    replace x63 := A.t x63 rfl
    have x83 := A.e 0 83 rfl rfl
    replace hd := HD.below hd hb
    replace hmr := Mr.below hmr hb
    replace bl := bgo bl hb
    replace sd := A.sd sd
    clear A hb
    refine wl_one (.eq (.int .i64 ((k + 1 : Nat) : Int))) rfl 63 rfl (by rw [sd.1]; decide) (st_move (.tmp 83) rfl x83) ?_
    intro f31 w31 df2 sz2 old2 new2 hb
    replace x1 := tr old2 x1 rfl
    replace x2 := tr old2 x2 rfl
    replace x7 := tr old2 x7 rfl
    replace x10 := tr old2 x10 rfl
    clear x63
    replace x83 := tr old2 x83 rfl
    have x63 := Fk.e new2
    replace hd := HD.below hd hb
    replace hmr := Mr.below hmr hb
    replace bl := bgo bl hb
    replace sd := sd2 sz2 df2 sd
    clear df2 sz2 old2 new2 hb
    refine wpList_nil ?_
    clear x83
    show (∃ _, _) ∧ _
    refine ⟨⟨k + 1, DD, mput lm (k : Int) v9, by omega, hDD, sd.1, sd.2, x1, x2, x7, x10, x63, hd, hmr, bl⟩, ?_⟩
    rw [show f31.eval (.tmp 63) = _ from x63, show _ = _ from hcnt]
    first | (simp [intOf]; done) | (simp [intOf]; omega)
  obtain ⟨oo, hook⟩ : ∃ p, l[k]? = some p := ⟨_, List.getElem?_eq_getElem hlt⟩
  have hboo : (Fk.sl oo.bs).f oo.vb w := (ol_ok hv hook).b
  have hloo : (Fk.is oo.ls).f oo.vl w := (ol_ok hv hook).l
  have hsm := o_small h1s hook
  have hon := (ol_ok hv hook).n
  have how := (ol_ok hv hook).w
  refine wr_a [.eq (.bool true)] (by rw [sd.1]; kernel_rfl) ⟨fun hw ac u K => ?_, trivial⟩ ?_
  · exact st_lss 3 (.tmp 48) (.tmp 47) rfl .i64 ((k : Int)) ((((l).length : Nat) : Int)) (K.t x48 rfl) (K.t x47 rfl) _ (by rw [eq_comm, decide_eq_true_iff]; exact Int.ofNat_lt.2 hlt)
  intro f8 w8 A hb
  replace x1 := A.t x1 rfl
  replace x2 := A.t x2 rfl
  replace x7 := A.t x7 rfl
  replace x46 := A.t x46 rfl
  replace x47 := A.t x47 rfl
  replace x48 := A.t x48 rfl
  have x49 := A.e 0 49 rfl rfl
  replace hd := HD.below hd hb
  replace bl := bgo bl hb
  replace sd := A.sd sd
  clear A hb
  show Code.wp _ _ _ _ _
  refine wp_seq ?_
  refine wp_cond_true x49 ?_
  refine wp_skip ?_
  show Code.wp _ _ _ _ _
  refine wp_seq ?_
  refine wp_block ?_
  refine wp_seq ?_
  refine wr_s [.oq oo, .eq (.agg ([.int .i64 oo.k, .int .i64 oo.s, .int .i64 oo.n, oo.vb, oo.vl] : List Value).toArray)] (by rw [sd.1]; kernel_rfl) ⟨fun hw ac u K => ?_, fun hw ac u K => ?_, trivial⟩ ?_
  · exact st_idxo (.tmp 46) (.tmp 48) rfl (fk_val (K.t x46 rfl) (Fk.mono _ _ _ _ hv (bgo bl K.grow))) k oo (K.t x48 rfl) hook
  · exact st_loado (.tmp 50) rfl (K.dep 0 50 rfl)
  intro f9 w9 A hb
  have S_hd := hd
  have hbS0 := Below.refl w8.heap.size w8
  have hbS := hb
  replace x1 := A.t x1 rfl
  replace x2 := A.t x2 rfl
  replace x7 := A.t x7 rfl
  replace x46 := A.t x46 rfl
  replace x47 := A.t x47 rfl
  replace x48 := A.t x48 rfl
  replace x49 := A.t x49 rfl
  have x51 := A.e 1 51 rfl rfl
  replace hd := HD.below hd hb
  replace bl := bgo bl hb
  replace sd := A.sd sd
  clear A hb
  clear x49
  refine wl_one (.nw w9.heap.size 32 [.int .i64 0, .int .i64 0, .int .i64 0, .slice none 0 0, .slice none 0 0]) rfl 9 rfl (by rw [sd.1]; decide) (st_alloc 32 rfl _ _ (by kernel_rfl) (Nat.le_refl _)) ?_
  intro f10 w10 df2 sz2 old2 new2 hb
  replace hbS0 := hbS
  replace hbS := hbS.trans (Below.mono hb hbS.size)
  replace bl0 := bl
  replace x1 := tr old2 x1 rfl
  replace x2 := tr old2 x2 rfl
  replace x7 := tr old2 x7 rfl
  replace x46 := tr old2 x46 rfl
  replace x47 := tr old2 x47 rfl
  replace x48 := tr old2 x48 rfl
  replace x51 := tr old2 x51 rfl
  have x9 : Fk.f (.nw w9.heap.size 32 [.int .i64 0, .int .i64 0, .int .i64 0, .slice none 0 0, .slice none 0 0]) (f10.eval (.tmp 9)) w10 := new2
  replace hd := HD.below hd hb
  replace bl := bgo bl hb
  replace sd := sd2 sz2 df2 sd
  clear df2 sz2 old2 new2 hb
  obtain ⟨g9, hg9, e9, m9⟩ := x9
  have x9 := e9
  clear e9
  have hw9 : w.heap.size ≤ g9 := Nat.le_trans bl0.size hg9
  have hs9 := Nat.le_trans hbS0.size hg9
  refine wl_str rfl 32 (.tmp 9) (.tmp 51) rfl rfl (g9) ([.int .i64 oo.k, .int .i64 oo.s, .int .i64 oo.n, oo.vb, oo.vl] : List Value).toArray x9 x51 32 _ m9 (by kernel_rfl) (by kernel_rfl) (by kernel_rfl) ?_
  replace m9 : Ob (w10.setRow g9 ([.int .i64 oo.k, .int .i64 oo.s, .int .i64 oo.n, oo.vb, oo.vl] : List Value).toArray) (g9) 32 ([.int .i64 oo.k, .int .i64 oo.s, .int .i64 oo.n, oo.vb, oo.vl]) := Ob.setRow m9 ([.int .i64 oo.k, .int .i64 oo.s, .int .i64 oo.n, oo.vb, oo.vl])
  replace hbS : Below _ _ (w10.setRow g9 ([.int .i64 oo.k, .int .i64 oo.s, .int .i64 oo.n, oo.vb, oo.vl] : List Value).toArray) := hbS.trans (below_setRow _ _ _ _ hs9)
  replace hd := HD.below S_hd hbS
  replace bl : Below w.heap.size w (w10.setRow g9 ([.int .i64 oo.k, .int .i64 oo.s, .int .i64 oo.n, oo.vb, oo.vl] : List Value).toArray) := bl.trans (below_setRow _ _ _ _ hw9)
  generalize w10.setRow g9 ([.int .i64 oo.k, .int .i64 oo.s, .int .i64 oo.n, oo.vb, oo.vl] : List Value).toArray = w11b at bl m9 hd hbS ⊢
  refine wpList_nil ?_
  clear hbS hbS0 S_hd
  clear x51
  show Code.wp _ _ _ _ _
  refine wr_s [.eq (.pointer (some ⟨gd, 0, none⟩)), .eq (.pointer (some ⟨g9, 1, none⟩)), .eq (.int .i64 oo.s), .eq (.pointer (some ⟨g9, 3, none⟩)), .eq (oo.vb)] (by rw [sd.1]; kernel_rfl) ⟨fun hw ac u K => ?_, fun hw ac u K => ?_, fun hw ac u K => ?_, fun hw ac u K => ?_, fun hw ac u K => ?_, trivial⟩ ?_
  · exact st_move (.tmp 7) rfl (K.t x7 rfl)
  · exact st_field 32 1 (.tmp 9) rfl (K.t x9 rfl) (by kernel_rfl)
  · exact st_loadc 3 (.tmp 53) rfl (by kernel_rfl) (K.dep 1 53 rfl) (Ob.cell (Ob.below m9 K.grow) 1 rfl)
  · exact st_field 32 3 (.tmp 9) rfl (K.t x9 rfl) (by kernel_rfl)
  · exact st_loadc 29 (.tmp 55) rfl (by kernel_rfl) (K.dep 3 55 rfl) (Ob.cell (Ob.below m9 K.grow) 3 rfl)
  intro f12 w12 A hb
  replace x1 := A.t x1 rfl
  replace x2 := A.t x2 rfl
  replace x7 := A.t x7 rfl
  replace x46 := A.t x46 rfl
  replace x47 := A.t x47 rfl
  replace x48 := A.t x48 rfl
  replace x9 := A.t x9 rfl
  have x52 := A.e 0 52 rfl rfl
  have x54 := A.e 2 54 rfl rfl
  have x56 := A.e 4 56 rfl rfl
  replace m9 := Ob.below m9 hb
  replace hd := HD.below hd hb
  replace bl := bgo bl hb
  replace sd := A.sd sd
  clear A hb
  clear x9
  refine wl_call 18 (.func 18) _ _ #[.pointer (some ⟨gd, 0, none⟩), .int .i64 oo.s, oo.vb] rfl 57 rfl (by rw [sd.1]; decide) rfl rfl (three_arg x52 x54 x56) Try.enter18 (fun u W' => ∃ D2 : Nat → Prop, u = .int .i64 (wrt s oo.s oo.bs).1 ∧ HD W' gd M D2 ((wrt s oo.s oo.bs).2) ∧ (∀ j, D2 j → DD j ∨ w12.heap.size ≤ j) ∧ Fr M w12 W') ((fk_dwrite hd (by have := gs.done; omega) (by have := gs.has; omega) oo.s (Fk.mono _ _ _ _ hboo bl)).mono (by rintro e w' ⟨D2, rfl, q⟩; exact ⟨_, rfl, D2, rfl, q⟩)) ?_
  rintro f13 w13 df2 sz2 old2 ⟨D2, x57, hd2, hD2, O⟩
  have OM := O
  replace O := O.mono hd.sub
  replace x1 := tr old2 x1 rfl
  replace x2 := tr old2 x2 rfl
  replace x7 := tr old2 x7 rfl
  replace x46 := tr old2 x46 rfl
  replace x47 := tr old2 x47 rfl
  replace x48 := tr old2 x48 rfl
  replace x52 := tr old2 x52 rfl
  replace x54 := tr old2 x54 rfl
  replace x56 := tr old2 x56 rfl
  clear m9
  have bl9 := bl.trans (O.below bl.size hDD)
  replace hDD : ∀ j, D2 j → w.heap.size ≤ j := fun j q => (hD2 j q).elim (hDD j) (fun q => Nat.le_trans bl.size q)
  replace bl := bl9
  replace bl0 := bl
  replace hd := hd2
  replace sd := sd2 sz2 df2 sd
  clear df2 sz2 old2 hd2 bl9
  clear O OM hD2
  clear DD
  obtain ⟨DD, rfl⟩ : ∃ E, E = D2 := ⟨_, rfl⟩
  refine wpList_nil ?_
  clear x52
  clear x54
  clear x56
  clear x57
  show Code.wp _ _ _ _ _
  refine wr_s [.eq (.int .i64 ((k + 1 : Nat) : Int))] (by rw [sd.1]; kernel_rfl) ⟨fun hw ac u K => ?_, trivial⟩ ?_
  · exact st_add (.tmp 48) (.const (.int .i64 1)) rfl (k) (1) (k + 1) (K.t x48 rfl) rfl (by omega) (by omega)
  intro f14 w14 A hb
  replace x1 := A.t x1 rfl
  replace x2 := A.t x2 rfl
  replace x7 := A.t x7 rfl
  replace x46 := A.t x46 rfl
  replace x47 := A.t x47 rfl
  replace x48 := A.t x48 rfl
  have x58 := A.e 0 58 rfl rfl
  replace hd := HD.below hd hb
  replace bl := bgo bl hb
  replace sd := A.sd sd
  clear A hb
  refine wl_one (.eq (.int .i64 ((k + 1 : Nat) : Int))) rfl 48 rfl (by rw [sd.1]; decide) (st_move (.tmp 58) rfl x58) ?_
  intro f15 w15 df2 sz2 old2 new2 hb
  replace x1 := tr old2 x1 rfl
  replace x2 := tr old2 x2 rfl
  replace x7 := tr old2 x7 rfl
  replace x46 := tr old2 x46 rfl
  replace x47 := tr old2 x47 rfl
  clear x48
  replace x58 := tr old2 x58 rfl
  have x48 := Fk.e new2
  replace hd := HD.below hd hb
  replace bl := bgo bl hb
  replace sd := sd2 sz2 df2 sd
  clear df2 sz2 old2 new2 hb
  refine wpList_nil ?_
  clear x58
  show (∃ _, _) ∧ _
  refine ⟨⟨k + 1, (wrt s oo.s oo.bs).2, DD, by omega, gd_wrt gs _ _, on_wrt hon9 _ _, hDD, sd.1, sd.2, x1, x2, x7, x46, x47, x48, hd, bl⟩, ?_⟩
  rw [show f15.eval (.tmp 48) = _ from x48, show _ = _ from hcnt]
  first | (simp [intOf]; done) | (simp [intOf]; omega)
end Go.Proofs.Ytjdpomilifnlaaa
