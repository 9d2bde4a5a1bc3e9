/- DiskPlays. Arguments opened: a pair of numbers, a list of numbers. -/
import Derived.Test.YtjdpomilifnlaaaM13
import Derived.Test.YtjdpomilifnlaaaM5
namespace Go.Proofs.Ytjdpomilifnlaaa
set_option maxRecDepth 100000
open Go.RowKit
theorem is_nil (w : World) : (Fk.is []).f (.slice none 0 0) w := ⟨none, 0, 0, 0, rfl, fun h => absurd h (by decide), rfl, fun j u hj => by simp [zv] at hj⟩
theorem st_ness {Q : Exit → Act → World → Prop} {o : Oper} {a : Act} {w : World} (x y : Operand) (ho : o.op = .binOp .neq 9 x y 9) (s t : ByteArray) (hx : a.eval x = .string s) (hy : a.eval y = .string t) (b : Bool) (hb : b = decide (s ≠ t)) : o.wp Try.prog a w (Ends a o.dst w (Fk.eq (.bool b)).f) Q := st_nes x y ho s t hx hy b hb
theorem plays_law {l : List Opn} {n z : Int} {v : Value} (hln : l.length ≤ maxLen) (w : World) (hv : (Fk.ol l).f v w) :
    Calls Try.prog 3 #[.int .i64 n, .int .i64 z, v] w fun e w' => e = .returned (.bool true) ∧ Below w.heap.size w w' := by
  go_enter Try.func3, Try.ntmps3
  refine code_both (fun f w1 => f.tmps.size = 103 ∧ f.defers = [] ∧ f.eval (.tmp 0) = .int .i64 n ∧ f.eval (.tmp 1) = .int .i64 z ∧ f.eval (.tmp 2) = v ∧ Below w.heap.size w (w1)) ⟨rfl, rfl, rfl, rfl, rfl, Below.refl _ _⟩ ?_
  rintro f0 w0 ⟨sz, df, x0, x1, x2, bl⟩
  have sd := And.intro sz df
  clear sz df
  have bl0 := bl
  refine wp_seq ?_
  refine wr_a [.eq (.bool false)] (by rw [sd.1]; kernel_rfl) ⟨fun hw ac u K => ?_, trivial⟩ ?_
  · exact st_assign (.const (.bool false)) rfl rfl
  intro f1 w1 A hb
  replace x0 := A.t x0 rfl
  replace x1 := A.t x1 rfl
  replace x2 := A.t x2 rfl
  replace bl := bgo bl hb
  replace sd := A.sd sd
  clear A hb
  show Code.wp _ _ _ _ _
  refine wp_seq ?_
  by_cases hin : 1 ≤ n ∧ n ≤ 65536 ∧ 16 ≤ z ∧ z ≤ 4096
  rotate_left
  · skip
    refine wr_a [.eq (.int .i64 n), .eq (.int .i64 z), .eq (.pointer none), .eq (.pointer none)] (by rw [sd.1]; kernel_rfl) ⟨fun hw ac u K => ?_, fun hw ac u K => ?_, fun hw ac u K => ?_, fun hw ac u K => ?_, trivial⟩ ?_
    · exact st_move (.tmp 0) rfl (K.t x0 rfl)
    · exact st_move (.tmp 1) rfl (K.t x1 rfl)
    · exact st_call 8 (.func 8) _ _ _ rfl rfl (arg2 (K.dep 0 14 rfl) (K.dep 1 15 rfl)) Try.enter8 (fk_dnew_no (by omega) _)
    · exact st_assign (.tmp 16) rfl (K.dep 2 16 rfl)
    intro f2 w2 A hb
    replace x0 := A.t x0 rfl
    replace x1 := A.t x1 rfl
    replace x2 := A.t x2 rfl
    have x7 := A.e 3 7 rfl rfl
    replace bl := bgo bl hb
    replace sd := A.sd sd
    clear A hb
    show Code.wp _ _ _ _ _
    refine wp_seq ?_
    refine wp_seq ?_
    have h4 : n < 1 ∨ (¬ n < 1 ∧ n > 65536) ∨ (¬ n < 1 ∧ ¬ n > 65536 ∧ z < 16) ∨ (¬ n < 1 ∧ ¬ n > 65536 ∧ ¬ z < 16 ∧ z > 4096) := by omega
    rcases h4 with h4 | h4 | h4 | h4
    · skip
      refine wr_a [.eq (.int .i64 n), .eq (.bool true), .eq (.bool true), .any, .any, .eq (.bool true), .eq (.bool true), .any, .any, .eq (.bool true), .eq (.bool true), .any, .any, .eq (.bool true)] (by rw [sd.1]; kernel_rfl) ⟨fun hw ac u K => ?_, fun hw ac u K => ?_, fun hw ac u K => ?_, fun hw ac u K => ?_, fun hw ac u K => ?_, fun hw ac u K => ?_, fun hw ac u K => ?_, fun hw ac u K => ?_, fun hw ac u K => ?_, fun hw ac u K => ?_, fun hw ac u K => ?_, fun hw ac u K => ?_, fun hw ac u K => ?_, fun hw ac u K => ?_, trivial⟩ ?_
      · exact st_move (.tmp 0) rfl (K.t x0 rfl)
      · exact st_lss 3 (.tmp 17) (.const (.int .i64 1)) rfl .i64 (n) (1) (K.dep 0 17 rfl) rfl _ (by rw [eq_comm, decide_eq_true_iff]; omega)
      · exact st_move (.tmp 18) rfl (K.dep 1 18 rfl)
      · exact (Bool.false_ne_true hw).elim
      · exact (Bool.false_ne_true hw).elim
      · exact st_pick_t (.tmp 19) (.const (.bool true)) (.tmp 21) rfl (K.dep 2 19 rfl) rfl
      · exact st_move (.tmp 22) rfl (K.dep 5 22 rfl)
      · exact (Bool.false_ne_true hw).elim
      · exact (Bool.false_ne_true hw).elim
      · exact st_pick_t (.tmp 23) (.const (.bool true)) (.tmp 25) rfl (K.dep 6 23 rfl) rfl
      · exact st_move (.tmp 26) rfl (K.dep 9 26 rfl)
      · exact (Bool.false_ne_true hw).elim
      · exact (Bool.false_ne_true hw).elim
      · exact st_pick_t (.tmp 27) (.const (.bool true)) (.tmp 29) rfl (K.dep 10 27 rfl) rfl
      intro f3 w3 A hb
      replace x0 := A.t x0 rfl
      replace x1 := A.t x1 rfl
      replace x2 := A.t x2 rfl
      replace x7 := A.t x7 rfl
      have x30 := A.e 13 30 rfl rfl
      replace bl := bgo bl hb
      replace sd := A.sd sd
      clear A hb
      show Code.wp _ _ _ _ _
      refine wp_cond_true x30 ?_
      refine wp_seq ?_
      refine wr_a [.eq (.pointer none), .eq (.bool true), .eq (.bool true), .eq (.bool true), .eq (.bool true), .eq (.bool true)] (by rw [sd.1]; kernel_rfl) ⟨fun hw ac u K => ?_, fun hw ac u K => ?_, fun hw ac u K => ?_, fun hw ac u K => ?_, fun hw ac u K => ?_, fun hw ac u K => ?_, trivial⟩ ?_
      · exact st_move (.tmp 7) rfl (K.t x7 rfl)
      · exact st_bin .eql 23 23 (.tmp 31) _ rfl (K.dep 0 31 rfl) rfl (by kernel_rfl)
      · exact st_move (.tmp 32) rfl (K.dep 1 32 rfl)
      · exact st_call 9 (.func 9) _ _ _ rfl rfl rfl Try.enter9 (awake_any _)
      · exact st_pick_t (.tmp 33) (.tmp 34) (.const (.bool false)) rfl (K.dep 2 33 rfl) (K.dep 3 34 rfl)
      · exact st_assign (.tmp 35) rfl (K.dep 4 35 rfl)
      intro f4 w4 A hb
      replace x0 := A.t x0 rfl
      replace x1 := A.t x1 rfl
      replace x2 := A.t x2 rfl
      replace x7 := A.t x7 rfl
      replace x30 := A.t x30 rfl
      have x6 := A.e 5 6 rfl rfl
      replace bl := bgo bl hb
      replace sd := A.sd sd
      clear A hb
      clear x0
      clear x1
      clear x2
      clear x7
      clear x30
      show Code.wp _ _ _ _ _
      refine wp_ret ?_
      repeat (first | with_reducible refine then_ret ?_ | with_reducible refine block_ret ?_)
      exact bodyPost_ret (v := .bool true) (ret_slot rfl f4 _ x6 _ _) sd.2 ⟨rfl, bl⟩
    · skip
      refine wr_a [.eq (.int .i64 n), .eq (.bool false), .eq (.bool false), .eq (.int .i64 n), .eq (.bool true), .eq (.bool true), .eq (.bool true), .any, .any, .eq (.bool true), .eq (.bool true), .any, .any, .eq (.bool true)] (by rw [sd.1]; kernel_rfl) ⟨fun hw ac u K => ?_, fun hw ac u K => ?_, fun hw ac u K => ?_, fun hw ac u K => ?_, fun hw ac u K => ?_, fun hw ac u K => ?_, fun hw ac u K => ?_, fun hw ac u K => ?_, fun hw ac u K => ?_, fun hw ac u K => ?_, fun hw ac u K => ?_, fun hw ac u K => ?_, fun hw ac u K => ?_, fun hw ac u K => ?_, trivial⟩ ?_
      · exact st_move (.tmp 0) rfl (K.t x0 rfl)
      · exact st_lss 3 (.tmp 17) (.const (.int .i64 1)) rfl .i64 (n) (1) (K.dep 0 17 rfl) rfl _ (by rw [eq_comm, decide_eq_false_iff_not]; omega)
      · exact st_move (.tmp 18) rfl (K.dep 1 18 rfl)
      · exact st_move (.tmp 0) rfl (K.t x0 rfl)
      · exact st_gtr 3 (.tmp 20) (.const (.int .i64 65536)) rfl .i64 (n) (65536) (K.dep 3 20 rfl) rfl _ (by rw [eq_comm, decide_eq_true_iff]; omega)
      · exact st_pick_f' (.tmp 19) (.const (.bool true)) (.tmp 21) rfl (K.dep 2 19 rfl) (K.dep 4 21 rfl)
      · exact st_move (.tmp 22) rfl (K.dep 5 22 rfl)
      · exact (Bool.false_ne_true hw).elim
      · exact (Bool.false_ne_true hw).elim
      · exact st_pick_t (.tmp 23) (.const (.bool true)) (.tmp 25) rfl (K.dep 6 23 rfl) rfl
      · exact st_move (.tmp 26) rfl (K.dep 9 26 rfl)
      · exact (Bool.false_ne_true hw).elim
      · exact (Bool.false_ne_true hw).elim
      · exact st_pick_t (.tmp 27) (.const (.bool true)) (.tmp 29) rfl (K.dep 10 27 rfl) rfl
      intro f3 w3 A hb
      replace x0 := A.t x0 rfl
      replace x1 := A.t x1 rfl
      replace x2 := A.t x2 rfl
      replace x7 := A.t x7 rfl
      have x30 := A.e 13 30 rfl rfl
      replace bl := bgo bl hb
      replace sd := A.sd sd
      clear A hb
      show Code.wp _ _ _ _ _
      refine wp_cond_true x30 ?_
      refine wp_seq ?_
      refine wr_a [.eq (.pointer none), .eq (.bool true), .eq (.bool true), .eq (.bool true), .eq (.bool true), .eq (.bool true)] (by rw [sd.1]; kernel_rfl) ⟨fun hw ac u K => ?_, fun hw ac u K => ?_, fun hw ac u K => ?_, fun hw ac u K => ?_, fun hw ac u K => ?_, fun hw ac u K => ?_, trivial⟩ ?_
      · exact st_move (.tmp 7) rfl (K.t x7 rfl)
      · exact st_bin .eql 23 23 (.tmp 31) _ rfl (K.dep 0 31 rfl) rfl (by kernel_rfl)
      · exact st_move (.tmp 32) rfl (K.dep 1 32 rfl)
      · exact st_call 9 (.func 9) _ _ _ rfl rfl rfl Try.enter9 (awake_any _)
      · exact st_pick_t (.tmp 33) (.tmp 34) (.const (.bool false)) rfl (K.dep 2 33 rfl) (K.dep 3 34 rfl)
      · exact st_assign (.tmp 35) rfl (K.dep 4 35 rfl)
      intro f4 w4 A hb
      replace x0 := A.t x0 rfl
      replace x1 := A.t x1 rfl
      replace x2 := A.t x2 rfl
      replace x7 := A.t x7 rfl
      replace x30 := A.t x30 rfl
      have x6 := A.e 5 6 rfl rfl
      replace bl := bgo bl hb
      replace sd := A.sd sd
      clear A hb
      clear x0
      clear x1
      clear x2
      clear x7
      clear x30
      show Code.wp _ _ _ _ _
      refine wp_ret ?_
      repeat (first | with_reducible refine then_ret ?_ | with_reducible refine block_ret ?_)
      exact bodyPost_ret (v := .bool true) (ret_slot rfl f4 _ x6 _ _) sd.2 ⟨rfl, bl⟩
    · skip
      refine wr_a [.eq (.int .i64 n), .eq (.bool false), .eq (.bool false), .eq (.int .i64 n), .eq (.bool false), .eq (.bool false), .eq (.bool false), .eq (.int .i64 z), .eq (.bool true), .eq (.bool true), .eq (.bool true), .any, .any, .eq (.bool true)] (by rw [sd.1]; kernel_rfl) ⟨fun hw ac u K => ?_, fun hw ac u K => ?_, fun hw ac u K => ?_, fun hw ac u K => ?_, fun hw ac u K => ?_, fun hw ac u K => ?_, fun hw ac u K => ?_, fun hw ac u K => ?_, fun hw ac u K => ?_, fun hw ac u K => ?_, fun hw ac u K => ?_, fun hw ac u K => ?_, fun hw ac u K => ?_, fun hw ac u K => ?_, trivial⟩ ?_
      · exact st_move (.tmp 0) rfl (K.t x0 rfl)
      · exact st_lss 3 (.tmp 17) (.const (.int .i64 1)) rfl .i64 (n) (1) (K.dep 0 17 rfl) rfl _ (by rw [eq_comm, decide_eq_false_iff_not]; omega)
      · exact st_move (.tmp 18) rfl (K.dep 1 18 rfl)
      · exact st_move (.tmp 0) rfl (K.t x0 rfl)
      · exact st_gtr 3 (.tmp 20) (.const (.int .i64 65536)) rfl .i64 (n) (65536) (K.dep 3 20 rfl) rfl _ (by rw [eq_comm, decide_eq_false_iff_not]; omega)
      · exact st_pick_f' (.tmp 19) (.const (.bool true)) (.tmp 21) rfl (K.dep 2 19 rfl) (K.dep 4 21 rfl)
      · exact st_move (.tmp 22) rfl (K.dep 5 22 rfl)
      · exact st_move (.tmp 1) rfl (K.t x1 rfl)
      · exact st_lss 3 (.tmp 24) (.const (.int .i64 16)) rfl .i64 (z) (16) (K.dep 7 24 rfl) rfl _ (by rw [eq_comm, decide_eq_true_iff]; omega)
      · exact st_pick_f' (.tmp 23) (.const (.bool true)) (.tmp 25) rfl (K.dep 6 23 rfl) (K.dep 8 25 rfl)
      · exact st_move (.tmp 26) rfl (K.dep 9 26 rfl)
      · exact (Bool.false_ne_true hw).elim
      · exact (Bool.false_ne_true hw).elim
      · exact st_pick_t (.tmp 27) (.const (.bool true)) (.tmp 29) rfl (K.dep 10 27 rfl) rfl
      intro f3 w3 A hb
      replace x0 := A.t x0 rfl
      replace x1 := A.t x1 rfl
      replace x2 := A.t x2 rfl
      replace x7 := A.t x7 rfl
      have x30 := A.e 13 30 rfl rfl
      replace bl := bgo bl hb
      replace sd := A.sd sd
      clear A hb
      show Code.wp _ _ _ _ _
      refine wp_cond_true x30 ?_
      refine wp_seq ?_
      refine wr_a [.eq (.pointer none), .eq (.bool true), .eq (.bool true), .eq (.bool true), .eq (.bool true), .eq (.bool true)] (by rw [sd.1]; kernel_rfl) ⟨fun hw ac u K => ?_, fun hw ac u K => ?_, fun hw ac u K => ?_, fun hw ac u K => ?_, fun hw ac u K => ?_, fun hw ac u K => ?_, trivial⟩ ?_
      · exact st_move (.tmp 7) rfl (K.t x7 rfl)
      · exact st_bin .eql 23 23 (.tmp 31) _ rfl (K.dep 0 31 rfl) rfl (by kernel_rfl)
      · exact st_move (.tmp 32) rfl (K.dep 1 32 rfl)
      · exact st_call 9 (.func 9) _ _ _ rfl rfl rfl Try.enter9 (awake_any _)
      · exact st_pick_t (.tmp 33) (.tmp 34) (.const (.bool false)) rfl (K.dep 2 33 rfl) (K.dep 3 34 rfl)
      · exact st_assign (.tmp 35) rfl (K.dep 4 35 rfl)
      intro f4 w4 A hb
      replace x0 := A.t x0 rfl
      replace x1 := A.t x1 rfl
      replace x2 := A.t x2 rfl
      replace x7 := A.t x7 rfl
      replace x30 := A.t x30 rfl
      have x6 := A.e 5 6 rfl rfl
      replace bl := bgo bl hb
      replace sd := A.sd sd
      clear A hb
      clear x0
      clear x1
      clear x2
      clear x7
      clear x30
      show Code.wp _ _ _ _ _
      refine wp_ret ?_
      repeat (first | with_reducible refine then_ret ?_ | with_reducible refine block_ret ?_)
      exact bodyPost_ret (v := .bool true) (ret_slot rfl f4 _ x6 _ _) sd.2 ⟨rfl, bl⟩
    refine wr_a [.eq (.int .i64 n), .eq (.bool false), .eq (.bool false), .eq (.int .i64 n), .eq (.bool false), .eq (.bool false), .eq (.bool false), .eq (.int .i64 z), .eq (.bool false), .eq (.bool false), .eq (.bool false), .eq (.int .i64 z), .eq (.bool true), .eq (.bool true)] (by rw [sd.1]; kernel_rfl) ⟨fun hw ac u K => ?_, fun hw ac u K => ?_, fun hw ac u K => ?_, fun hw ac u K => ?_, fun hw ac u K => ?_, fun hw ac u K => ?_, fun hw ac u K => ?_, fun hw ac u K => ?_, fun hw ac u K => ?_, fun hw ac u K => ?_, fun hw ac u K => ?_, fun hw ac u K => ?_, fun hw ac u K => ?_, fun hw ac u K => ?_, trivial⟩ ?_
    · exact st_move (.tmp 0) rfl (K.t x0 rfl)
    · exact st_lss 3 (.tmp 17) (.const (.int .i64 1)) rfl .i64 (n) (1) (K.dep 0 17 rfl) rfl _ (by rw [eq_comm, decide_eq_false_iff_not]; omega)
    · exact st_move (.tmp 18) rfl (K.dep 1 18 rfl)
    · exact st_move (.tmp 0) rfl (K.t x0 rfl)
    · exact st_gtr 3 (.tmp 20) (.const (.int .i64 65536)) rfl .i64 (n) (65536) (K.dep 3 20 rfl) rfl _ (by rw [eq_comm, decide_eq_false_iff_not]; omega)
    · exact st_pick_f' (.tmp 19) (.const (.bool true)) (.tmp 21) rfl (K.dep 2 19 rfl) (K.dep 4 21 rfl)
    · exact st_move (.tmp 22) rfl (K.dep 5 22 rfl)
    · exact st_move (.tmp 1) rfl (K.t x1 rfl)
    · exact st_lss 3 (.tmp 24) (.const (.int .i64 16)) rfl .i64 (z) (16) (K.dep 7 24 rfl) rfl _ (by rw [eq_comm, decide_eq_false_iff_not]; omega)
    · exact st_pick_f' (.tmp 23) (.const (.bool true)) (.tmp 25) rfl (K.dep 6 23 rfl) (K.dep 8 25 rfl)
    · exact st_move (.tmp 26) rfl (K.dep 9 26 rfl)
    · exact st_move (.tmp 1) rfl (K.t x1 rfl)
    · exact st_gtr 3 (.tmp 28) (.const (.int .i64 4096)) rfl .i64 (z) (4096) (K.dep 11 28 rfl) rfl _ (by rw [eq_comm, decide_eq_true_iff]; omega)
    · exact st_pick_f' (.tmp 27) (.const (.bool true)) (.tmp 29) rfl (K.dep 10 27 rfl) (K.dep 12 29 rfl)
    intro f3 w3 A hb
    replace x0 := A.t x0 rfl
    replace x1 := A.t x1 rfl
    replace x2 := A.t x2 rfl
    replace x7 := A.t x7 rfl
    have x30 := A.e 13 30 rfl rfl
    replace bl := bgo bl hb
    replace sd := A.sd sd
    clear A hb
    show Code.wp _ _ _ _ _
    refine wp_cond_true x30 ?_
    refine wp_seq ?_
    refine wr_a [.eq (.pointer none), .eq (.bool true), .eq (.bool true), .eq (.bool true), .eq (.bool true), .eq (.bool true)] (by rw [sd.1]; kernel_rfl) ⟨fun hw ac u K => ?_, fun hw ac u K => ?_, fun hw ac u K => ?_, fun hw ac u K => ?_, fun hw ac u K => ?_, fun hw ac u K => ?_, trivial⟩ ?_
    · exact st_move (.tmp 7) rfl (K.t x7 rfl)
    · exact st_bin .eql 23 23 (.tmp 31) _ rfl (K.dep 0 31 rfl) rfl (by kernel_rfl)
    · exact st_move (.tmp 32) rfl (K.dep 1 32 rfl)
    · exact st_call 9 (.func 9) _ _ _ rfl rfl rfl Try.enter9 (awake_any _)
    · exact st_pick_t (.tmp 33) (.tmp 34) (.const (.bool false)) rfl (K.dep 2 33 rfl) (K.dep 3 34 rfl)
    · exact st_assign (.tmp 35) rfl (K.dep 4 35 rfl)
    intro f4 w4 A hb
    replace x0 := A.t x0 rfl
    replace x1 := A.t x1 rfl
    replace x2 := A.t x2 rfl
    replace x7 := A.t x7 rfl
    replace x30 := A.t x30 rfl
    have x6 := A.e 5 6 rfl rfl
    replace bl := bgo bl hb
    replace sd := A.sd sd
    clear A hb
    clear x0
    clear x1
    clear x2
    clear x7
    clear x30
    show Code.wp _ _ _ _ _
    refine wp_ret ?_
    repeat (first | with_reducible refine then_ret ?_ | with_reducible refine block_ret ?_)
    exact bodyPost_ret (v := .bool true) (ret_slot rfl f4 _ x6 _ _) sd.2 ⟨rfl, bl⟩
  obtain ⟨N, rfl⟩ : ∃ N : Nat, n = N := ⟨n.toNat, by omega⟩
  obtain ⟨Z, rfl⟩ : ∃ Z : Nat, z = Z := ⟨z.toNat, by omega⟩
  refine wr_s [.eq (.int .i64 (N : Int)), .eq (.int .i64 (Z : Int))] (by rw [sd.1]; kernel_rfl) ⟨fun hw ac u K => ?_, fun hw ac u K => ?_, trivial⟩ ?_
  · exact st_move (.tmp 0) rfl (K.t x0 rfl)
  · exact st_move (.tmp 1) rfl (K.t x1 rfl)
  intro f2 w2 A hb
  replace x0 := A.t x0 rfl
  replace x1 := A.t x1 rfl
  replace x2 := A.t x2 rfl
  have x14 := A.e 0 14 rfl rfl
  have x15 := A.e 1 15 rfl rfl
  replace bl := bgo bl hb
  replace sd := A.sd sd
  clear A hb
  refine wl_call 8 (.func 8) _ _ #[.int .i64 (N : Int), .int .i64 (Z : Int)] rfl 16 rfl (by rw [sd.1]; decide) rfl rfl (two_arg x14 x15) Try.enter8 (fun u W' => ∃ (gd : Nat) (M D : Nat → Prop), u = .pointer (some ⟨gd, 0, none⟩) ∧ HD W' gd M D (newd (N) (Z)) ∧ (∀ j, D j → w2.heap.size ≤ j) ∧ Below w2.heap.size w2 W') ((fk_dnew (N := N) (Z := Z) (by omega) (by omega) (by omega) (by omega) w2).mono (by rintro e w' ⟨gd, M, D, rfl, q⟩; exact ⟨_, rfl, gd, M, D, rfl, q⟩)) ?_
  rintro f3 w3 df2 sz2 old2 ⟨gd, M, DD, x16, hd, hD0, hb⟩
  have hDD : ∀ j, DD j → w.heap.size ≤ j := fun j q => Nat.le_trans bl.size (hD0 j q)
  clear hD0
  replace bl0 := bl
  replace x0 := tr old2 x0 rfl
  replace x1 := tr old2 x1 rfl
  replace x2 := tr old2 x2 rfl
  replace x14 := tr old2 x14 rfl
  replace x15 := tr old2 x15 rfl
  replace bl := bgo bl hb
  replace sd := sd2 sz2 df2 sd
  clear df2 sz2 old2 hb
  clear x14
  clear x15
  refine wl_one (.eq (.pointer (some ⟨gd, 0, none⟩))) rfl 7 rfl (by rw [sd.1]; decide) (st_assign (.tmp 16) rfl x16) ?_
  intro f4 w4 df2 sz2 old2 new2 hb
  replace x0 := tr old2 x0 rfl
  replace x1 := tr old2 x1 rfl
  replace x2 := tr old2 x2 rfl
  replace x16 := tr old2 x16 rfl
  have x7 := Fk.e new2
  replace hd := HD.below hd hb
  replace bl := bgo bl hb
  replace sd := sd2 sz2 df2 sd
  clear df2 sz2 old2 new2 hb
  refine wpList_nil ?_
  clear x16
  show Code.wp _ _ _ _ _
  refine wp_seq ?_
  refine wp_seq ?_
  refine wr_a [.eq (.int .i64 (N : Int)), .eq (.bool false), .eq (.bool false), .eq (.int .i64 (N : Int)), .eq (.bool false), .eq (.bool false), .eq (.bool false), .eq (.int .i64 (Z : Int)), .eq (.bool false), .eq (.bool false), .eq (.bool false), .eq (.int .i64 (Z : Int)), .eq (.bool false), .eq (.bool false)] (by rw [sd.1]; kernel_rfl) ⟨fun hw ac u K => ?_, fun hw ac u K => ?_, fun hw ac u K => ?_, fun hw ac u K => ?_, fun hw ac u K => ?_, fun hw ac u K => ?_, fun hw ac u K => ?_, fun hw ac u K => ?_, fun hw ac u K => ?_, fun hw ac u K => ?_, fun hw ac u K => ?_, fun hw ac u K => ?_, fun hw ac u K => ?_, fun hw ac u K => ?_, trivial⟩ ?_
  · exact st_move (.tmp 0) rfl (K.t x0 rfl)
  · exact st_lss 3 (.tmp 17) (.const (.int .i64 1)) rfl .i64 ((N : Int)) (1) (K.dep 0 17 rfl) rfl _ (by rw [eq_comm, decide_eq_false_iff_not]; omega)
  · exact st_move (.tmp 18) rfl (K.dep 1 18 rfl)
  · exact st_move (.tmp 0) rfl (K.t x0 rfl)
  · exact st_gtr 3 (.tmp 20) (.const (.int .i64 65536)) rfl .i64 ((N : Int)) (65536) (K.dep 3 20 rfl) rfl _ (by rw [eq_comm, decide_eq_false_iff_not]; omega)
  · exact st_pick_f' (.tmp 19) (.const (.bool true)) (.tmp 21) rfl (K.dep 2 19 rfl) (K.dep 4 21 rfl)
  · exact st_move (.tmp 22) rfl (K.dep 5 22 rfl)
  · exact st_move (.tmp 1) rfl (K.t x1 rfl)
  · exact st_lss 3 (.tmp 24) (.const (.int .i64 16)) rfl .i64 ((Z : Int)) (16) (K.dep 7 24 rfl) rfl _ (by rw [eq_comm, decide_eq_false_iff_not]; omega)
  · exact st_pick_f' (.tmp 23) (.const (.bool true)) (.tmp 25) rfl (K.dep 6 23 rfl) (K.dep 8 25 rfl)
  · exact st_move (.tmp 26) rfl (K.dep 9 26 rfl)
  · exact st_move (.tmp 1) rfl (K.t x1 rfl)
  · exact st_gtr 3 (.tmp 28) (.const (.int .i64 4096)) rfl .i64 ((Z : Int)) (4096) (K.dep 11 28 rfl) rfl _ (by rw [eq_comm, decide_eq_false_iff_not]; omega)
  · exact st_pick_f' (.tmp 27) (.const (.bool true)) (.tmp 29) rfl (K.dep 10 27 rfl) (K.dep 12 29 rfl)
  intro f5 w5 A hb
  replace x0 := A.t x0 rfl
  replace x1 := A.t x1 rfl
  replace x2 := A.t x2 rfl
  replace x7 := A.t x7 rfl
  have x30 := A.e 13 30 rfl rfl
  replace hd := HD.below hd hb
  replace bl := bgo bl hb
  replace sd := A.sd sd
  clear A hb
  show Code.wp _ _ _ _ _
  refine wp_cond_false x30 ?_
  refine wp_skip ?_
  show Code.wp _ _ _ _ _
  refine wp_seq ?_
  refine wp_seq ?_
  by_cases hsmall : (N : Int) ≤ 30 ∧ (Z : Int) ≤ 100 ∧ smallO l 60
  rotate_left
  · skip
    have h3 : (N : Int) > 30 ∨ (¬ (N : Int) > 30 ∧ (Z : Int) > 100) ∨ (¬ (N : Int) > 30 ∧ ¬ (Z : Int) > 100 ∧ ¬ smallO l 60) := by
      by_cases h1 : (N : Int) > 30
      · exact .inl h1
      · by_cases h2 : (Z : Int) > 100
        · exact .inr (.inl ⟨h1, h2⟩)
        · exact .inr (.inr ⟨h1, h2, fun h3 => hsmall ⟨by omega, by omega, h3⟩⟩)
    rcases h3 with h3 | h3 | h3
    · skip
      refine wr_a [.eq (.pointer (some ⟨gd, 0, none⟩)), .eq (.bool false), .eq (.bool false), .eq (.int .i64 (N : Int)), .eq (.bool true), .eq (.bool true), .eq (.bool true), .any, .any, .eq (.bool true), .eq (.bool true), .any, .any, .any, .eq (.bool true)] (by rw [sd.1]; kernel_rfl) ⟨fun hw ac u K => ?_, fun hw ac u K => ?_, fun hw ac u K => ?_, fun hw ac u K => ?_, fun hw ac u K => ?_, fun hw ac u K => ?_, fun hw ac u K => ?_, fun hw ac u K => ?_, fun hw ac u K => ?_, fun hw ac u K => ?_, fun hw ac u K => ?_, fun hw ac u K => ?_, fun hw ac u K => ?_, fun hw ac u K => ?_, fun hw ac u K => ?_, trivial⟩ ?_
      · exact st_move (.tmp 7) rfl (K.t x7 rfl)
      · exact st_bin .eql 23 23 (.tmp 36) _ rfl (K.dep 0 36 rfl) rfl (by kernel_rfl)
      · exact st_move (.tmp 37) rfl (K.dep 1 37 rfl)
      · exact st_move (.tmp 0) rfl (K.t x0 rfl)
      · exact st_gtr 3 (.tmp 39) (.const (.int .i64 30)) rfl .i64 ((N : Int)) (30) (K.dep 3 39 rfl) rfl _ (by rw [eq_comm, decide_eq_true_iff]; omega)
      · exact st_pick_f' (.tmp 38) (.const (.bool true)) (.tmp 40) rfl (K.dep 2 38 rfl) (K.dep 4 40 rfl)
      · exact st_move (.tmp 41) rfl (K.dep 5 41 rfl)
      · exact (Bool.false_ne_true hw).elim
      · exact (Bool.false_ne_true hw).elim
      · exact st_pick_t (.tmp 42) (.const (.bool true)) (.tmp 44) rfl (K.dep 6 42 rfl) rfl
      · exact st_move (.tmp 45) rfl (K.dep 9 45 rfl)
      · exact (Bool.false_ne_true hw).elim
      · exact (Bool.false_ne_true hw).elim
      · exact (Bool.false_ne_true hw).elim
      · exact st_pick_t (.tmp 46) (.const (.bool true)) (.tmp 49) rfl (K.dep 10 46 rfl) rfl
      intro f6 w6 A hb
      replace x0 := A.t x0 rfl
      replace x1 := A.t x1 rfl
      replace x2 := A.t x2 rfl
      replace x7 := A.t x7 rfl
      replace x30 := A.t x30 rfl
      have x50 := A.e 14 50 rfl rfl
      replace hd := HD.below hd hb
      replace bl := bgo bl hb
      replace sd := A.sd sd
      clear A hb
      clear x30
      show Code.wp _ _ _ _ _
      refine wp_cond_true x50 ?_
      refine wp_seq ?_
      refine wr_a [.eq (.pointer (some ⟨gd, 0, none⟩)), .eq (.bool true), .eq (.bool true), .eq (.bool true), .eq (.bool true), .eq (.bool true)] (by rw [sd.1]; kernel_rfl) ⟨fun hw ac u K => ?_, fun hw ac u K => ?_, fun hw ac u K => ?_, fun hw ac u K => ?_, fun hw ac u K => ?_, fun hw ac u K => ?_, trivial⟩ ?_
      · exact st_move (.tmp 7) rfl (K.t x7 rfl)
      · exact st_bin .neq 23 23 (.tmp 51) _ rfl (K.dep 0 51 rfl) rfl (by kernel_rfl)
      · exact st_move (.tmp 52) rfl (K.dep 1 52 rfl)
      · exact st_call 9 (.func 9) _ _ _ rfl rfl rfl Try.enter9 (awake_any _)
      · exact st_pick_t (.tmp 53) (.tmp 54) (.const (.bool false)) rfl (K.dep 2 53 rfl) (K.dep 3 54 rfl)
      · exact st_assign (.tmp 55) rfl (K.dep 4 55 rfl)
      intro f7 w7 A hb
      replace x0 := A.t x0 rfl
      replace x1 := A.t x1 rfl
      replace x2 := A.t x2 rfl
      replace x7 := A.t x7 rfl
      replace x50 := A.t x50 rfl
      have x6 := A.e 5 6 rfl rfl
      replace hd := HD.below hd hb
      replace bl := bgo bl hb
      replace sd := A.sd sd
      clear A hb
      clear x0
      clear x1
      clear x2
      clear x7
      clear x50
      show Code.wp _ _ _ _ _
      refine wp_ret ?_
      repeat (first | with_reducible refine then_ret ?_ | with_reducible refine block_ret ?_)
      exact bodyPost_ret (v := .bool true) (ret_slot rfl f7 _ x6 _ _) sd.2 ⟨rfl, bl⟩
    · skip
      refine wr_a [.eq (.pointer (some ⟨gd, 0, none⟩)), .eq (.bool false), .eq (.bool false), .eq (.int .i64 (N : Int)), .eq (.bool false), .eq (.bool false), .eq (.bool false), .eq (.int .i64 (Z : Int)), .eq (.bool true), .eq (.bool true), .eq (.bool true), .any, .any, .any, .eq (.bool true)] (by rw [sd.1]; kernel_rfl) ⟨fun hw ac u K => ?_, fun hw ac u K => ?_, fun hw ac u K => ?_, fun hw ac u K => ?_, fun hw ac u K => ?_, fun hw ac u K => ?_, fun hw ac u K => ?_, fun hw ac u K => ?_, fun hw ac u K => ?_, fun hw ac u K => ?_, fun hw ac u K => ?_, fun hw ac u K => ?_, fun hw ac u K => ?_, fun hw ac u K => ?_, fun hw ac u K => ?_, trivial⟩ ?_
      · exact st_move (.tmp 7) rfl (K.t x7 rfl)
      · exact st_bin .eql 23 23 (.tmp 36) _ rfl (K.dep 0 36 rfl) rfl (by kernel_rfl)
      · exact st_move (.tmp 37) rfl (K.dep 1 37 rfl)
      · exact st_move (.tmp 0) rfl (K.t x0 rfl)
      · exact st_gtr 3 (.tmp 39) (.const (.int .i64 30)) rfl .i64 ((N : Int)) (30) (K.dep 3 39 rfl) rfl _ (by rw [eq_comm, decide_eq_false_iff_not]; omega)
      · exact st_pick_f' (.tmp 38) (.const (.bool true)) (.tmp 40) rfl (K.dep 2 38 rfl) (K.dep 4 40 rfl)
      · exact st_move (.tmp 41) rfl (K.dep 5 41 rfl)
      · exact st_move (.tmp 1) rfl (K.t x1 rfl)
      · exact st_gtr 3 (.tmp 43) (.const (.int .i64 100)) rfl .i64 ((Z : Int)) (100) (K.dep 7 43 rfl) rfl _ (by rw [eq_comm, decide_eq_true_iff]; omega)
      · exact st_pick_f' (.tmp 42) (.const (.bool true)) (.tmp 44) rfl (K.dep 6 42 rfl) (K.dep 8 44 rfl)
      · exact st_move (.tmp 45) rfl (K.dep 9 45 rfl)
      · exact (Bool.false_ne_true hw).elim
      · exact (Bool.false_ne_true hw).elim
      · exact (Bool.false_ne_true hw).elim
      · exact st_pick_t (.tmp 46) (.const (.bool true)) (.tmp 49) rfl (K.dep 10 46 rfl) rfl
      intro f6 w6 A hb
      replace x0 := A.t x0 rfl
      replace x1 := A.t x1 rfl
      replace x2 := A.t x2 rfl
      replace x7 := A.t x7 rfl
      replace x30 := A.t x30 rfl
      have x50 := A.e 14 50 rfl rfl
      replace hd := HD.below hd hb
      replace bl := bgo bl hb
      replace sd := A.sd sd
      clear A hb
      clear x30
      show Code.wp _ _ _ _ _
      refine wp_cond_true x50 ?_
      refine wp_seq ?_
      refine wr_a [.eq (.pointer (some ⟨gd, 0, none⟩)), .eq (.bool true), .eq (.bool true), .eq (.bool true), .eq (.bool true), .eq (.bool true)] (by rw [sd.1]; kernel_rfl) ⟨fun hw ac u K => ?_, fun hw ac u K => ?_, fun hw ac u K => ?_, fun hw ac u K => ?_, fun hw ac u K => ?_, fun hw ac u K => ?_, trivial⟩ ?_
      · exact st_move (.tmp 7) rfl (K.t x7 rfl)
      · exact st_bin .neq 23 23 (.tmp 51) _ rfl (K.dep 0 51 rfl) rfl (by kernel_rfl)
      · exact st_move (.tmp 52) rfl (K.dep 1 52 rfl)
      · exact st_call 9 (.func 9) _ _ _ rfl rfl rfl Try.enter9 (awake_any _)
      · exact st_pick_t (.tmp 53) (.tmp 54) (.const (.bool false)) rfl (K.dep 2 53 rfl) (K.dep 3 54 rfl)
      · exact st_assign (.tmp 55) rfl (K.dep 4 55 rfl)
      intro f7 w7 A hb
      replace x0 := A.t x0 rfl
      replace x1 := A.t x1 rfl
      replace x2 := A.t x2 rfl
      replace x7 := A.t x7 rfl
      replace x50 := A.t x50 rfl
      have x6 := A.e 5 6 rfl rfl
      replace hd := HD.below hd hb
      replace bl := bgo bl hb
      replace sd := A.sd sd
      clear A hb
      clear x0
      clear x1
      clear x2
      clear x7
      clear x50
      show Code.wp _ _ _ _ _
      refine wp_ret ?_
      repeat (first | with_reducible refine then_ret ?_ | with_reducible refine block_ret ?_)
      exact bodyPost_ret (v := .bool true) (ret_slot rfl f7 _ x6 _ _) sd.2 ⟨rfl, bl⟩
    have hs9 := h3.2.2
    refine wr_a [.eq (.pointer (some ⟨gd, 0, none⟩)), .eq (.bool false), .eq (.bool false), .eq (.int .i64 (N : Int)), .eq (.bool false), .eq (.bool false), .eq (.bool false), .eq (.int .i64 (Z : Int)), .eq (.bool false), .eq (.bool false), .eq (.bool false), .eq (v), .eq (.bool false), .eq (.bool true), .eq (.bool true)] (by rw [sd.1]; kernel_rfl) ⟨fun hw ac u K => ?_, fun hw ac u K => ?_, fun hw ac u K => ?_, fun hw ac u K => ?_, fun hw ac u K => ?_, fun hw ac u K => ?_, fun hw ac u K => ?_, fun hw ac u K => ?_, fun hw ac u K => ?_, fun hw ac u K => ?_, fun hw ac u K => ?_, fun hw ac u K => ?_, fun hw ac u K => ?_, fun hw ac u K => ?_, fun hw ac u K => ?_, trivial⟩ ?_
    · exact st_move (.tmp 7) rfl (K.t x7 rfl)
    · exact st_bin .eql 23 23 (.tmp 36) _ rfl (K.dep 0 36 rfl) rfl (by kernel_rfl)
    · exact st_move (.tmp 37) rfl (K.dep 1 37 rfl)
    · exact st_move (.tmp 0) rfl (K.t x0 rfl)
    · exact st_gtr 3 (.tmp 39) (.const (.int .i64 30)) rfl .i64 ((N : Int)) (30) (K.dep 3 39 rfl) rfl _ (by rw [eq_comm, decide_eq_false_iff_not]; omega)
    · exact st_pick_f' (.tmp 38) (.const (.bool true)) (.tmp 40) rfl (K.dep 2 38 rfl) (K.dep 4 40 rfl)
    · exact st_move (.tmp 41) rfl (K.dep 5 41 rfl)
    · exact st_move (.tmp 1) rfl (K.t x1 rfl)
    · exact st_gtr 3 (.tmp 43) (.const (.int .i64 100)) rfl .i64 ((Z : Int)) (100) (K.dep 7 43 rfl) rfl _ (by rw [eq_comm, decide_eq_false_iff_not]; omega)
    · exact st_pick_f' (.tmp 42) (.const (.bool true)) (.tmp 44) rfl (K.dep 6 42 rfl) (K.dep 8 44 rfl)
    · exact st_move (.tmp 45) rfl (K.dep 9 45 rfl)
    · exact st_move (.tmp 2) rfl (K.t x2 rfl)
    · exact st_call 10 (.func 10) _ _ _ rfl rfl (arg2 (K.dep 11 47 rfl) rfl) Try.enter10 (fk_smallo hln (Fk.mono _ _ _ _ hv (bgo bl K.grow)) (by symm; rw [decide_eq_false_iff_not]; first | exact hs9 | exact hsmall))
    · exact st_not (.tmp 48) rfl false (K.dep 12 48 rfl)
    · exact st_pick_f' (.tmp 46) (.const (.bool true)) (.tmp 49) rfl (K.dep 10 46 rfl) (K.dep 13 49 rfl)
    intro f6 w6 A hb
    replace x0 := A.t x0 rfl
    replace x1 := A.t x1 rfl
    replace x2 := A.t x2 rfl
    replace x7 := A.t x7 rfl
    replace x30 := A.t x30 rfl
    have x50 := A.e 14 50 rfl rfl
    replace hd := HD.below hd hb
    replace bl := bgo bl hb
    replace sd := A.sd sd
    clear A hb
    clear x30
    show Code.wp _ _ _ _ _
    refine wp_cond_true x50 ?_
    refine wp_seq ?_
    refine wr_a [.eq (.pointer (some ⟨gd, 0, none⟩)), .eq (.bool true), .eq (.bool true), .eq (.bool true), .eq (.bool true), .eq (.bool true)] (by rw [sd.1]; kernel_rfl) ⟨fun hw ac u K => ?_, fun hw ac u K => ?_, fun hw ac u K => ?_, fun hw ac u K => ?_, fun hw ac u K => ?_, fun hw ac u K => ?_, trivial⟩ ?_
    · exact st_move (.tmp 7) rfl (K.t x7 rfl)
    · exact st_bin .neq 23 23 (.tmp 51) _ rfl (K.dep 0 51 rfl) rfl (by kernel_rfl)
    · exact st_move (.tmp 52) rfl (K.dep 1 52 rfl)
    · exact st_call 9 (.func 9) _ _ _ rfl rfl rfl Try.enter9 (awake_any _)
    · exact st_pick_t (.tmp 53) (.tmp 54) (.const (.bool false)) rfl (K.dep 2 53 rfl) (K.dep 3 54 rfl)
    · exact st_assign (.tmp 55) rfl (K.dep 4 55 rfl)
    intro f7 w7 A hb
    replace x0 := A.t x0 rfl
    replace x1 := A.t x1 rfl
    replace x2 := A.t x2 rfl
    replace x7 := A.t x7 rfl
    replace x50 := A.t x50 rfl
    have x6 := A.e 5 6 rfl rfl
    replace hd := HD.below hd hb
    replace bl := bgo bl hb
    replace sd := A.sd sd
    clear A hb
    clear x0
    clear x1
    clear x2
    clear x7
    clear x50
    show Code.wp _ _ _ _ _
    refine wp_ret ?_
    repeat (first | with_reducible refine then_ret ?_ | with_reducible refine block_ret ?_)
    exact bodyPost_ret (v := .bool true) (ret_slot rfl f7 _ x6 _ _) sd.2 ⟨rfl, bl⟩
  obtain ⟨hN, hZ, hsmall⟩ := hsmall
  refine wr_a [.eq (.pointer (some ⟨gd, 0, none⟩)), .eq (.bool false), .eq (.bool false), .eq (.int .i64 (N : Int)), .eq (.bool false), .eq (.bool false), .eq (.bool false), .eq (.int .i64 (Z : Int)), .eq (.bool false), .eq (.bool false), .eq (.bool false), .eq (v), .eq (.bool true), .eq (.bool false), .eq (.bool false)] (by rw [sd.1]; kernel_rfl) ⟨fun hw ac u K => ?_, fun hw ac u K => ?_, fun hw ac u K => ?_, fun hw ac u K => ?_, fun hw ac u K => ?_, fun hw ac u K => ?_, fun hw ac u K => ?_, fun hw ac u K => ?_, fun hw ac u K => ?_, fun hw ac u K => ?_, fun hw ac u K => ?_, fun hw ac u K => ?_, fun hw ac u K => ?_, fun hw ac u K => ?_, fun hw ac u K => ?_, trivial⟩ ?_
  · exact st_move (.tmp 7) rfl (K.t x7 rfl)
  · exact st_bin .eql 23 23 (.tmp 36) _ rfl (K.dep 0 36 rfl) rfl (by kernel_rfl)
  · exact st_move (.tmp 37) rfl (K.dep 1 37 rfl)
  · exact st_move (.tmp 0) rfl (K.t x0 rfl)
  · exact st_gtr 3 (.tmp 39) (.const (.int .i64 30)) rfl .i64 ((N : Int)) (30) (K.dep 3 39 rfl) rfl _ (by rw [eq_comm, decide_eq_false_iff_not]; omega)
  · exact st_pick_f' (.tmp 38) (.const (.bool true)) (.tmp 40) rfl (K.dep 2 38 rfl) (K.dep 4 40 rfl)
  · exact st_move (.tmp 41) rfl (K.dep 5 41 rfl)
  · exact st_move (.tmp 1) rfl (K.t x1 rfl)
  · exact st_gtr 3 (.tmp 43) (.const (.int .i64 100)) rfl .i64 ((Z : Int)) (100) (K.dep 7 43 rfl) rfl _ (by rw [eq_comm, decide_eq_false_iff_not]; omega)
  · exact st_pick_f' (.tmp 42) (.const (.bool true)) (.tmp 44) rfl (K.dep 6 42 rfl) (K.dep 8 44 rfl)
  · exact st_move (.tmp 45) rfl (K.dep 9 45 rfl)
  · exact st_move (.tmp 2) rfl (K.t x2 rfl)
  · exact st_call 10 (.func 10) _ _ _ rfl rfl (arg2 (K.dep 11 47 rfl) rfl) Try.enter10 (fk_smallo hln (Fk.mono _ _ _ _ hv (bgo bl K.grow)) (by symm; rw [decide_eq_true_iff]; first | exact hs9 | exact hsmall))
  · exact st_not (.tmp 48) rfl true (K.dep 12 48 rfl)
  · exact st_pick_f' (.tmp 46) (.const (.bool true)) (.tmp 49) rfl (K.dep 10 46 rfl) (K.dep 13 49 rfl)
  intro f6 w6 A hb
  replace x0 := A.t x0 rfl
  replace x1 := A.t x1 rfl
  replace x2 := A.t x2 rfl
  replace x7 := A.t x7 rfl
  replace x30 := A.t x30 rfl
  have x50 := A.e 14 50 rfl rfl
  replace hd := HD.below hd hb
  replace bl := bgo bl hb
  replace sd := A.sd sd
  clear A hb
  clear x30
  show Code.wp _ _ _ _ _
  refine wp_cond_false x50 ?_
  refine wp_skip ?_
  show Code.wp _ _ _ _ _
  refine wp_seq ?_
  refine wr_s [.eq (.int .i64 (N : Int)), .eq (.int .i64 (Z : Int))] (by rw [sd.1]; kernel_rfl) ⟨fun hw ac u K => ?_, fun hw ac u K => ?_, trivial⟩ ?_
  · exact st_move (.tmp 0) rfl (K.t x0 rfl)
  · exact st_move (.tmp 1) rfl (K.t x1 rfl)
  intro f7 w7 A hb
  replace x0 := A.t x0 rfl
  replace x1 := A.t x1 rfl
  replace x2 := A.t x2 rfl
  replace x7 := A.t x7 rfl
  replace x50 := A.t x50 rfl
  have x56 := A.e 0 56 rfl rfl
  have x57 := A.e 1 57 rfl rfl
  replace hd := HD.below hd hb
  replace bl := bgo bl hb
  replace sd := A.sd sd
  clear A hb
  clear x1
  clear x50
  refine wl_call 11 (.func 11) _ _ #[.int .i64 (N : Int), .int .i64 (Z : Int)] rfl 58 rfl (by rw [sd.1]; decide) rfl rfl (two_arg x56 x57) Try.enter11 (fun u W' => ∃ x h c, u = .pointer (some ⟨x, 0, none⟩) ∧ w7.heap.size ≤ x ∧ w7.heap.size ≤ h ∧ w7.heap.size ≤ c ∧ HX W' x h c (newd (N) (Z)) ∧ Below w7.heap.size w7 W') ((ref_new (n := N) (z := Z) (by omega) (by omega) (by omega) w7).mono (by rintro e w' ⟨x, h, c, rfl, q⟩; exact ⟨_, rfl, x, h, c, rfl, q⟩)) ?_
  rintro f8 w8 df2 sz2 old2 ⟨x, h, c, x58, gx, gh, gc, hx, hb⟩
  have hX : ∀ j, j = x ∨ j = h ∨ j = c → w.heap.size ≤ j := fun j q => by have := bl.size; rcases q with rfl | rfl | rfl <;> omega
  have hxD : ¬ DD x ∧ ¬ DD h ∧ ¬ DD c := ⟨fun q => by have := hd.lt _ q; omega, fun q => by have := hd.lt _ q; omega, fun q => by have := hd.lt _ q; omega⟩
  clear gx gh gc
  replace bl0 := bl
  replace x0 := tr old2 x0 rfl
  replace x2 := tr old2 x2 rfl
  replace x7 := tr old2 x7 rfl
  replace x56 := tr old2 x56 rfl
  replace x57 := tr old2 x57 rfl
  replace hd := HD.below hd hb
  replace bl := bgo bl hb
  replace sd := sd2 sz2 df2 sd
  clear df2 sz2 old2 hb
  clear x56
  clear x57
  refine wl_one (.eq (.pointer (some ⟨x, 0, none⟩))) rfl 8 rfl (by rw [sd.1]; decide) (st_assign (.tmp 58) rfl x58) ?_
  intro f9 w9 df2 sz2 old2 new2 hb
  replace x0 := tr old2 x0 rfl
  replace x2 := tr old2 x2 rfl
  replace x7 := tr old2 x7 rfl
  replace x58 := tr old2 x58 rfl
  have x8 := Fk.e new2
  replace hd := HD.below hd hb
  replace hx := HX.below hx hb
  replace bl := bgo bl hb
  replace sd := sd2 sz2 df2 sd
  clear df2 sz2 old2 new2 hb
  refine wpList_nil ?_
  clear x58
  show Code.wp _ _ _ _ _
  refine wp_seq ?_
  refine wp_seq ?_
  have gs0 := gd_new N Z
  have hN16 : N ≤ 100000 := by omega
  have hZ16 : Z ≤ 100000 := by omega
  have hll : l.length ≤ 60 := by have := hsmall.2; omega
  refine wr_a [.eq (v), .eq (.int .i64 (((l).length : Nat) : Int)), .eq (.int .i64 0)] (by rw [sd.1]; kernel_rfl) ⟨fun hw ac u K => ?_, fun hw ac u K => ?_, fun hw ac u K => ?_, trivial⟩ ?_
  · exact st_move (.tmp 2) rfl (K.t x2 rfl)
  · exact st_leno (.tmp 59) rfl (fk_val (K.dep 0 59 rfl) (Fk.mono _ _ _ _ hv (bgo bl K.grow)))
  · exact st_move (.const (.int .i64 0)) rfl rfl
  intro f10 w10 A hb
  replace x0 := A.t x0 rfl
  replace x2 := A.t x2 rfl
  replace x7 := A.t x7 rfl
  replace x8 := A.t x8 rfl
  have x59 := A.e 0 59 rfl rfl
  have x60 := A.e 1 60 rfl rfl
  have x61 := A.e 2 61 rfl rfl
  replace hd := HD.below hd hb
  replace hx := HX.below hx hb
  replace bl := bgo bl hb
  replace sd := A.sd sd
  clear A hb
  clear x2
  show Code.wp _ _ _ _ _
  refine wp_block ?_
  refine wp_loop (fun f v1 => ∃ (k : Nat) (s : Dst) (DD : Nat → Prop), k ≤ l.length ∧ Gd s N Z k ∧ (∀ j, DD j → w.heap.size ≤ j) ∧ (¬ DD x ∧ ¬ DD h ∧ ¬ DD c) ∧ f.tmps.size = 103 ∧ f.defers = [] ∧ f.eval (.tmp 0) = .int .i64 (N : Int) ∧ f.eval (.tmp 7) = .pointer (some ⟨gd, 0, none⟩) ∧ f.eval (.tmp 8) = .pointer (some ⟨x, 0, none⟩) ∧ f.eval (.tmp 59) = v ∧ f.eval (.tmp 60) = .int .i64 (((l).length : Nat) : Int) ∧ f.eval (.tmp 61) = .int .i64 (k : Int) ∧ HD v1 gd M DD s ∧ HX v1 x h c s ∧ Below w.heap.size w (v1)) (fun f _ => l.length - (intOf (f.eval (.tmp 61))).toNat) ⟨0, newd N Z, DD, Nat.zero_le _, gs0, hDD, hxD, sd.1, sd.2, x0, x7, x8, x59, x60, x61, hd, hx, bl⟩ ?_
  intro f11 w11 hI
  clear sd bl bl0 x0 x7 x8 x59 x60 x61 hd hx
  obtain ⟨k, s, DD, hk9, gs, hDD, hxD, sz, df, x0, x7, x8, x59, x60, x61, hd, hx, bl⟩ := hI
  have sd := And.intro sz df
  clear sz df
  have bl0 := bl
  have hcnt := x61
  clear gs0
  refine wp_seq ?_
  by_cases hlt : k < l.length
  rotate_left
  · skip
    refine wr_a [.eq (.bool false)] (by rw [sd.1]; kernel_rfl) ⟨fun hw ac u K => ?_, trivial⟩ ?_
    · exact st_lss 3 (.tmp 61) (.tmp 60) rfl .i64 ((k : Int)) ((((l).length : Nat) : Int)) (K.t x61 rfl) (K.t x60 rfl) _ (by rw [eq_comm, decide_eq_false_iff_not]; exact fun h => hlt (Int.ofNat_lt.1 h))
    intro f12 w12 A hb
    replace x0 := A.t x0 rfl
    replace x7 := A.t x7 rfl
    replace x8 := A.t x8 rfl
    replace x59 := A.t x59 rfl
    replace x60 := A.t x60 rfl
    replace x61 := A.t x61 rfl
    have x62 := A.e 0 62 rfl rfl
    replace hd := HD.below hd hb
    replace hx := HX.below hx hb
    replace bl := bgo bl hb
    replace sd := A.sd sd
    clear A hb
    show Code.wp _ _ _ _ _
    refine wp_seq ?_
    refine wp_cond_false x62 ?_
    refine wp_exit ?_
    show Code.wp _ _ _ _ _
    refine wp_seq ?_
    clear x59
    clear x60
    clear x61
    refine wr_s [.eq (.pointer (some ⟨gd, 0, none⟩))] (by rw [sd.1]; kernel_rfl) ⟨fun hw ac u K => ?_, trivial⟩ ?_
    · exact st_move (.tmp 7) rfl (K.t x7 rfl)
    intro f13 w13 A hb
    replace x0 := A.t x0 rfl
    replace x7 := A.t x7 rfl
    replace x8 := A.t x8 rfl
    replace x62 := A.t x62 rfl
    have x77 := A.e 0 77 rfl rfl
    replace hd := HD.below hd hb
    replace hx := HX.below hx hb
    replace bl := bgo bl hb
    replace sd := A.sd sd
    clear A hb
    clear x62
    refine wl_call 14 (.func 14) _ _ #[.pointer (some ⟨gd, 0, none⟩), .slice none 0 0] rfl 78 rfl (by rw [sd.1]; decide) rfl rfl (two_arg x77 rfl) Try.enter14 (fun u W' => ∃ D2 : Nat → Prop, u = .tuple #[] ∧ HD W' gd M D2 (crs s []) ∧ (∀ j, D2 j → DD j ∨ w13.heap.size ≤ j) ∧ Fr M w13 W') ((fk_dcrash hd (by have := gs.has; omega) (is_nil _) (fun z hz => by cases hz) (by simp)).mono (by rintro e w' ⟨D2, rfl, q⟩; exact ⟨_, rfl, D2, rfl, q⟩)) ?_
    rintro f14 w14 df2 sz2 old2 ⟨D2, x78, hd2, hD2, O⟩
    have OM := O
    replace O := O.mono hd.sub
    replace x0 := tr old2 x0 rfl
    replace x7 := tr old2 x7 rfl
    replace x8 := tr old2 x8 rfl
    replace x77 := tr old2 x77 rfl
    have hxL := hx.lt
    replace hx := hx.keep (O.block _ hxL.1 hxD.1) (O.block _ hxL.2.1 hxD.2.1) (O.block _ hxL.2.2 hxD.2.2)
    replace hxD : ¬ D2 x ∧ ¬ D2 h ∧ ¬ D2 c := ⟨fun q => (hD2 _ q).elim hxD.1 (fun q => by omega), fun q => (hD2 _ q).elim hxD.2.1 (fun q => by omega), fun q => (hD2 _ q).elim hxD.2.2 (fun q => by omega)⟩
    clear hxL
    have bl9 := bl.trans (O.below bl.size hDD)
    replace hDD : ∀ j, D2 j → w.heap.size ≤ j := fun j q => (hD2 j q).elim (hDD j) (fun q => Nat.le_trans bl.size q)
    replace bl := bl9
    replace bl0 := bl
    replace hd := hd2
    replace sd := sd2 sz2 df2 sd
    clear df2 sz2 old2 hd2 bl9
    clear O OM hD2
    clear DD
    obtain ⟨DD, rfl⟩ : ∃ E, E = D2 := ⟨_, rfl⟩
    refine wpList_nil ?_
    clear x77
    clear x78
    show Code.wp _ _ _ _ _
    refine wp_seq ?_
    refine wr_s [.eq (.pointer (some ⟨x, 0, none⟩))] (by rw [sd.1]; kernel_rfl) ⟨fun hw ac u K => ?_, trivial⟩ ?_
    · exact st_move (.tmp 8) rfl (K.t x8 rfl)
    intro f15 w15 A hb
    replace x0 := A.t x0 rfl
    replace x7 := A.t x7 rfl
    replace x8 := A.t x8 rfl
    have x79 := A.e 0 79 rfl rfl
    replace hd := HD.below hd hb
    replace hx := HX.below hx hb
    replace bl := bgo bl hb
    replace sd := A.sd sd
    clear A hb
    refine wl_call 15 (.func 15) _ _ #[.pointer (some ⟨x, 0, none⟩), .slice none 0 0] rfl 80 rfl (by rw [sd.1]; decide) rfl rfl (two_arg x79 rfl) Try.enter15 (fun u W' => u = .tuple #[] ∧ HX W' x h c (crs s []) ∧ Fr (fun j => j = x ∨ j = h ∨ j = c) w15 W') ((ref_crash hx (fun _ => is_nil _) (by have := gs.has; omega) (by simp)).mono (by rintro e w' ⟨rfl, q⟩; exact ⟨_, rfl, rfl, q⟩)) ?_
    rintro f16 w16 df2 sz2 old2 ⟨x80, hx2, O⟩
    replace x0 := tr old2 x0 rfl
    replace x7 := tr old2 x7 rfl
    replace x8 := tr old2 x8 rfl
    replace x79 := tr old2 x79 rfl
    replace hd := hd.keep (fun j hj => O.block j (hd.lt j hj) (fun q => q.elim (fun e => hxD.1 (e ▸ hj)) (fun q => q.elim (fun e => hxD.2.1 (e ▸ hj)) (fun e => hxD.2.2 (e ▸ hj))))) O.size
    replace bl := bl.trans (O.below bl.size hX)
    replace bl0 := bl
    replace hx := hx2
    replace sd := sd2 sz2 df2 sd
    clear df2 sz2 old2 O hx2
    refine wpList_nil ?_
    clear x79
    clear x80
    have gc := gd_crs gs []
    have hdn : (crs s []).down = false := rfl
    obtain ⟨s2, hs2⟩ : ∃ s2, s2 = crs s [] := ⟨_, rfl⟩
    rw [← hs2] at hd hx gc hdn
    clear hs2
    show Code.wp _ _ _ _ _
    refine wp_seq ?_
    refine wp_seq ?_
    refine wr_a [.eq (.int .i64 (N : Int)), .eq (.int .i64 0)] (by rw [sd.1]; kernel_rfl) ⟨fun hw ac u K => ?_, fun hw ac u K => ?_, trivial⟩ ?_
    · exact st_move (.tmp 0) rfl (K.t x0 rfl)
    · exact st_move (.const (.int .i64 0)) rfl rfl
    intro f17 w17 A hb
    replace x0 := A.t x0 rfl
    replace x7 := A.t x7 rfl
    replace x8 := A.t x8 rfl
    have x81 := A.e 0 81 rfl rfl
    have x82 := A.e 1 82 rfl rfl
    replace hd := HD.below hd hb
    replace hx := HX.below hx hb
    replace bl := bgo bl hb
    replace sd := A.sd sd
    clear A hb
    show Code.wp _ _ _ _ _
    refine wp_block ?_
    refine wp_loop (fun f v1 => ∃ (k : Nat) (DD : Nat → Prop), k ≤ N ∧ (∀ j, DD j → w.heap.size ≤ j) ∧ (¬ DD x ∧ ¬ DD h ∧ ¬ DD c) ∧ f.tmps.size = 103 ∧ f.defers = [] ∧ f.eval (.tmp 0) = .int .i64 (N : Int) ∧ f.eval (.tmp 7) = .pointer (some ⟨gd, 0, none⟩) ∧ f.eval (.tmp 8) = .pointer (some ⟨x, 0, none⟩) ∧ f.eval (.tmp 81) = .int .i64 (N : Int) ∧ f.eval (.tmp 82) = .int .i64 (k : Int) ∧ HD v1 gd M DD s2 ∧ HX v1 x h c s2 ∧ Below w.heap.size w (v1)) (fun f _ => N - (intOf (f.eval (.tmp 82))).toNat) ⟨0, DD, Nat.zero_le _, hDD, hxD, sd.1, sd.2, x0, x7, x8, x81, x82, hd, hx, bl⟩ ?_
    intro f18 w18 hI
    clear sd bl bl0 x0 x7 x8 x81 x82 hd hx
    obtain ⟨k, DD, hk9, hDD, hxD, sz, df, x0, x7, x8, x81, x82, hd, hx, bl⟩ := hI
    have sd := And.intro sz df
    clear sz df
    have bl0 := bl
    have hcnt := x82
    refine wp_seq ?_
    by_cases hlt : k < N
    rotate_left
    · skip
      refine wr_a [.eq (.bool false)] (by rw [sd.1]; kernel_rfl) ⟨fun hw ac u K => ?_, trivial⟩ ?_
      · exact st_lss 3 (.tmp 82) (.tmp 81) rfl .i64 ((k : Int)) ((N : Int)) (K.t x82 rfl) (K.t x81 rfl) _ (by rw [eq_comm, decide_eq_false_iff_not]; omega)
      intro f19 w19 A hb
      replace x0 := A.t x0 rfl
      replace x7 := A.t x7 rfl
      replace x8 := A.t x8 rfl
      replace x81 := A.t x81 rfl
      replace x82 := A.t x82 rfl
      have x83 := A.e 0 83 rfl rfl
      replace hd := HD.below hd hb
      replace hx := HX.below hx hb
      replace bl := bgo bl hb
      replace sd := A.sd sd
      clear A hb
      show Code.wp _ _ _ _ _
      refine wp_seq ?_
      refine wp_cond_false x83 ?_
      refine wp_exit ?_
      show Code.wp _ _ _ _ _
      refine wp_seq ?_
      refine wr_a [.eq (.bool true), .eq (.bool true)] (by rw [sd.1]; kernel_rfl) ⟨fun hw ac u K => ?_, fun hw ac u K => ?_, trivial⟩ ?_
      · exact st_call 9 (.func 9) _ _ _ rfl rfl rfl Try.enter9 (awake_any _)
      · exact st_assign (.tmp 102) rfl (K.dep 0 102 rfl)
      intro f20 w20 A hb
      replace x0 := A.t x0 rfl
      replace x7 := A.t x7 rfl
      replace x8 := A.t x8 rfl
      replace x81 := A.t x81 rfl
      replace x82 := A.t x82 rfl
      replace x83 := A.t x83 rfl
      have x6 := A.e 1 6 rfl rfl
      replace hd := HD.below hd hb
      replace hx := HX.below hx hb
      replace bl := bgo bl hb
      replace sd := A.sd sd
      clear A hb
      clear x83
      show Code.wp _ _ _ _ _
      refine wp_ret ?_
      repeat (first | with_reducible refine then_ret ?_ | with_reducible refine block_ret ?_)
      exact bodyPost_ret (v := .bool true) (ret_slot rfl f20 _ x6 _ _) sd.2 ⟨rfl, bl⟩
    obtain ⟨yh, hyh⟩ : ∃ y, s2.has[k]? = some y := ⟨_, List.getElem?_eq_getElem (by rw [gc.has]; exact hlt)⟩
    obtain ⟨yc, hyc⟩ : ∃ y, s2.cch[k]? = some y := ⟨_, List.getElem?_eq_getElem (by rw [gc.cch]; exact hlt)⟩
    have hrd := rd_ok hdn (i := (k : Int)) rfl (by rw [gc.has]; exact hlt) hyh hyc
    refine wr_a [.eq (.bool true)] (by rw [sd.1]; kernel_rfl) ⟨fun hw ac u K => ?_, trivial⟩ ?_
    · exact st_lss 3 (.tmp 82) (.tmp 81) rfl .i64 ((k : Int)) ((N : Int)) (K.t x82 rfl) (K.t x81 rfl) _ (by rw [eq_comm, decide_eq_true_iff]; omega)
    intro f19 w19 A hb
    replace x0 := A.t x0 rfl
    replace x7 := A.t x7 rfl
    replace x8 := A.t x8 rfl
    replace x81 := A.t x81 rfl
    replace x82 := A.t x82 rfl
    have x83 := A.e 0 83 rfl rfl
    replace hd := HD.below hd hb
    replace hx := HX.below hx hb
    replace bl := bgo bl hb
    replace sd := A.sd sd
    clear A hb
    show Code.wp _ _ _ _ _
    refine wp_seq ?_
    refine wp_cond_true x83 ?_
    refine wp_skip ?_
    show Code.wp _ _ _ _ _
    refine wp_seq ?_
    refine wp_block ?_
    refine wp_seq ?_
    refine wr_a [.eq (.int .i64 (k : Int)), .eq (.int .i64 (k : Int))] (by rw [sd.1]; kernel_rfl) ⟨fun hw ac u K => ?_, fun hw ac u K => ?_, trivial⟩ ?_
    · exact st_move (.tmp 82) rfl (K.t x82 rfl)
    · exact st_assign (.tmp 84) rfl (K.dep 0 84 rfl)
    intro f20 w20 A hb
    replace x0 := A.t x0 rfl
    replace x7 := A.t x7 rfl
    replace x8 := A.t x8 rfl
    replace x81 := A.t x81 rfl
    replace x82 := A.t x82 rfl
    replace x83 := A.t x83 rfl
    have x11 := A.e 1 11 rfl rfl
    replace hd := HD.below hd hb
    replace hx := HX.below hx hb
    replace bl := bgo bl hb
    replace sd := A.sd sd
    clear A hb
    clear x83
    show Code.wp _ _ _ _ _
    refine wp_seq ?_
    refine wr_s [.eq (.pointer (some ⟨gd, 0, none⟩)), .eq (.int .i64 (k : Int))] (by rw [sd.1]; kernel_rfl) ⟨fun hw ac u K => ?_, fun hw ac u K => ?_, trivial⟩ ?_
    · exact st_move (.tmp 7) rfl (K.t x7 rfl)
    · exact st_move (.tmp 11) rfl (K.t x11 rfl)
    intro f21 w21 A hb
    replace x0 := A.t x0 rfl
    replace x7 := A.t x7 rfl
    replace x8 := A.t x8 rfl
    replace x81 := A.t x81 rfl
    replace x82 := A.t x82 rfl
    replace x11 := A.t x11 rfl
    have x86 := A.e 0 86 rfl rfl
    have x87 := A.e 1 87 rfl rfl
    replace hd := HD.below hd hb
    replace hx := HX.below hx hb
    replace bl := bgo bl hb
    replace sd := A.sd sd
    clear A hb
    refine wl_call 16 (.func 16) _ _ #[.pointer (some ⟨gd, 0, none⟩), .int .i64 (k : Int)] rfl 88 rfl (by rw [sd.1]; decide) rfl rfl (two_arg x86 x87) Try.enter16 (fun u W' => ∃ (D2 : Nat → Prop) (A : Option Addr) (C : Nat), u = .tuple #[.slice A (nowv yh yc).length C, .int .i64 0] ∧ (Fk.sl (nowv yh yc)).f (.slice A (nowv yh yc).length C) W' ∧ (0 < (nowv yh yc).length → ∃ g, A = some ⟨g, 0, none⟩ ∧ w21.heap.size ≤ g ∧ ¬ D2 g ∧ Wb W' g (nowv yh yc).length) ∧ HD W' gd M D2 s2 ∧ (∀ j, D2 j → DD j ∨ w21.heap.size ≤ j) ∧ Fr M w21 W') ((show Calls Try.prog 16 #[.pointer (some ⟨gd, 0, none⟩), .int .i64 (k : Int)] w21 (fun e W' => ∃ (D2 : Nat → Prop) (A : Option Addr) (C : Nat), e = .returned (.tuple #[.slice A (nowv yh yc).length C, .int .i64 0]) ∧ _) from by have := fk_dread hd (k : Int); rw [show (rd s2 (k : Int)).1 = 0 from by rw [hrd], show (rd s2 (k : Int)).2 = nowv yh yc from by rw [hrd]] at this; exact this).mono (by rintro e w' ⟨D2, A, C, rfl, q⟩; exact ⟨_, rfl, D2, A, C, rfl, q⟩)) ?_
    rintro f22 w22 df2 sz2 old2 ⟨D2, A1, C1, x88, hsl, hG0, hd2, hD2, O⟩
    have OM := O
    replace O := O.mono hd.sub
    replace x0 := tr old2 x0 rfl
    replace x7 := tr old2 x7 rfl
    replace x8 := tr old2 x8 rfl
    replace x81 := tr old2 x81 rfl
    replace x82 := tr old2 x82 rfl
    replace x11 := tr old2 x11 rfl
    replace x86 := tr old2 x86 rfl
    replace x87 := tr old2 x87 rfl
    have hO1 : Ob8 w.heap.size D2 (fun _ => False) (nowv yh yc) A1 C1 w22 := ⟨hsl, fun q => by
      obtain ⟨g, h1, h2, h3, h4⟩ := hG0 q
      exact ⟨g, h1, Nat.le_trans bl.size h2, not_false, h3, h4⟩⟩
    clear hsl hG0
    have hxL := hx.lt
    replace hx := hx.keep (O.block _ hxL.1 hxD.1) (O.block _ hxL.2.1 hxD.2.1) (O.block _ hxL.2.2 hxD.2.2)
    replace hxD : ¬ D2 x ∧ ¬ D2 h ∧ ¬ D2 c := ⟨fun q => (hD2 _ q).elim hxD.1 (fun q => by omega), fun q => (hD2 _ q).elim hxD.2.1 (fun q => by omega), fun q => (hD2 _ q).elim hxD.2.2 (fun q => by omega)⟩
    clear hxL
    have bl9 := bl.trans (O.below bl.size hDD)
    replace hDD : ∀ j, D2 j → w.heap.size ≤ j := fun j q => (hD2 j q).elim (hDD j) (fun q => Nat.le_trans bl.size q)
    replace bl := bl9
    replace bl0 := bl
    replace hd := hd2
    replace sd := sd2 sz2 df2 sd
    clear df2 sz2 old2 hd2 bl9
    clear O OM hD2
    clear DD
    obtain ⟨DD, rfl⟩ : ∃ E, E = D2 := ⟨_, rfl⟩
    clear x86
    clear x87
    refine wl_one (.eq (.tuple #[.slice A1 (nowv yh yc).length C1, .int .i64 0])) rfl 85 rfl (by rw [sd.1]; decide) (st_move (.tmp 88) rfl x88) ?_
    intro f23 w23 df2 sz2 old2 new2 hb
    replace x0 := tr old2 x0 rfl
    replace x7 := tr old2 x7 rfl
    replace x8 := tr old2 x8 rfl
    replace x81 := tr old2 x81 rfl
    replace x82 := tr old2 x82 rfl
    replace x11 := tr old2 x11 rfl
    replace x88 := tr old2 x88 rfl
    have x85 := Fk.e new2
    replace hd := HD.below hd hb
    replace hx := HX.below hx hb
    replace hO1 := Ob8.below hO1 hb
    replace bl := bgo bl hb
    replace sd := sd2 sz2 df2 sd
    clear df2 sz2 old2 new2 hb
    clear x88
    refine wl_one (.eq (.slice A1 (nowv yh yc).length C1)) rfl 89 rfl (by rw [sd.1]; decide) (st_ext0 (.tmp 85) rfl x85 rfl) ?_
    intro f24 w24 df2 sz2 old2 new2 hb
    replace x0 := tr old2 x0 rfl
    replace x7 := tr old2 x7 rfl
    replace x8 := tr old2 x8 rfl
    replace x81 := tr old2 x81 rfl
    replace x82 := tr old2 x82 rfl
    replace x11 := tr old2 x11 rfl
    replace x85 := tr old2 x85 rfl
    have x89 := Fk.e new2
    replace hd := HD.below hd hb
    replace hx := HX.below hx hb
    replace hO1 := Ob8.below hO1 hb
    replace bl := bgo bl hb
    replace sd := sd2 sz2 df2 sd
    clear df2 sz2 old2 new2 hb
    refine wl_one (.eq (.int .i64 0)) rfl 90 rfl (by rw [sd.1]; decide) (st_ext1 (.tmp 85) rfl x85 rfl) ?_
    intro f25 w25 df2 sz2 old2 new2 hb
    replace x0 := tr old2 x0 rfl
    replace x7 := tr old2 x7 rfl
    replace x8 := tr old2 x8 rfl
    replace x81 := tr old2 x81 rfl
    replace x82 := tr old2 x82 rfl
    replace x11 := tr old2 x11 rfl
    replace x85 := tr old2 x85 rfl
    replace x89 := tr old2 x89 rfl
    have x90 := Fk.e new2
    replace hd := HD.below hd hb
    replace hx := HX.below hx hb
    replace hO1 := Ob8.below hO1 hb
    replace bl := bgo bl hb
    replace sd := sd2 sz2 df2 sd
    clear df2 sz2 old2 new2 hb
    clear x85
    refine wl_one (.eq (.slice A1 (nowv yh yc).length C1)) rfl 12 rfl (by rw [sd.1]; decide) (st_assign (.tmp 89) rfl x89) ?_
    intro f26 w26 df2 sz2 old2 new2 hb
    replace x0 := tr old2 x0 rfl
    replace x7 := tr old2 x7 rfl
    replace x8 := tr old2 x8 rfl
    replace x81 := tr old2 x81 rfl
    replace x82 := tr old2 x82 rfl
    replace x11 := tr old2 x11 rfl
    replace x89 := tr old2 x89 rfl
    replace x90 := tr old2 x90 rfl
    have x12 := Fk.e new2
    replace hd := HD.below hd hb
    replace hx := HX.below hx hb
    replace hO1 := Ob8.below hO1 hb
    replace bl := bgo bl hb
    replace sd := sd2 sz2 df2 sd
    clear df2 sz2 old2 new2 hb
    clear x89
    refine wl_one (.eq (.int .i64 0)) rfl 13 rfl (by rw [sd.1]; decide) (st_assign (.tmp 90) rfl x90) ?_
    intro f27 w27 df2 sz2 old2 new2 hb
    replace x0 := tr old2 x0 rfl
    replace x7 := tr old2 x7 rfl
    replace x8 := tr old2 x8 rfl
    replace x81 := tr old2 x81 rfl
    replace x82 := tr old2 x82 rfl
    replace x11 := tr old2 x11 rfl
    replace x90 := tr old2 x90 rfl
    replace x12 := tr old2 x12 rfl
    have x13 := Fk.e new2
    replace hd := HD.below hd hb
    replace hx := HX.below hx hb
    replace hO1 := Ob8.below hO1 hb
    replace bl := bgo bl hb
    replace sd := sd2 sz2 df2 sd
    clear df2 sz2 old2 new2 hb
    refine wpList_nil ?_
    clear x90
    show Code.wp _ _ _ _ _
    refine wp_seq ?_
    have hv1 := hO1.1
    obtain ⟨Ch, Cc, m0, rh, rc, hl, n1, n2, n3, hma, hmm⟩ := id hx
    refine wr_d [.eq (.int .i64 0), .eq (.bool false), .eq (.bool false), .eq (.slice A1 (nowv yh yc).length C1), .eq (.string (str (nowv yh yc))), .eq (.pointer (some ⟨x, 0, none⟩)), .eq (.int .i64 (k : Int)), .eq (.string (str (nowv yh yc))), .eq (.bool false), .eq (.bool false)] Try.mixed (by rw [sd.1]; kernel_rfl) ⟨fun hw ac u K => ?_, fun hw ac u K => ?_, fun hw ac u K => ?_, fun hw ac u K => ?_, fun hw ac u K => ?_, fun hw ac u K => ?_, fun hw ac u K => ?_, fun hw ac u K => ?_, fun hw ac u K => ?_, fun hw ac u K => ?_, trivial⟩ ?_
    · exact st_move (.tmp 13) rfl (K.t x13 rfl)
    · exact st_neqi 37 (.tmp 91) (.const (.int .i64 0)) rfl .i64 (0) (0) (K.dep 0 91 rfl) rfl _ (by rfl)
    · exact st_move (.tmp 92) rfl (K.dep 1 92 rfl)
    · exact st_move (.tmp 12) rfl (K.t x12 rfl)
    · exact st_stra (.tmp 94) rfl (fk_val (K.dep 3 94 rfl) (Fk.mono _ _ _ _ hv1 K.grow))
    · exact st_move (.tmp 8) rfl (K.t x8 rfl)
    · exact st_move (.tmp 11) rfl (K.t x11 rfl)
    · exact st_call 17 (.func 17) _ _ _ rfl rfl (arg2 (K.dep 5 96 rfl) (K.dep 6 97 rfl)) Try.enter17 ((now_any (Ob.below m0 K.grow) (Rs.below rh K.grow) (Rs.below rc K.grow) (by rw [gc.has]; exact hlt) hyh hyc).mono (by rintro e w' ⟨rfl, q⟩; exact ⟨_, rfl, rfl, q⟩))
    · exact st_ness (.tmp 95) (.tmp 98) rfl (str (nowv yh yc)) (str (nowv yh yc)) (K.dep 4 95 rfl) (K.dep 7 98 rfl) false (by simp)
    · exact st_pick_f' (.tmp 93) (.const (.bool true)) (.tmp 99) rfl (K.dep 2 93 rfl) (K.dep 8 99 rfl)
    intro f28 w28 A hb
    replace x0 := A.t x0 rfl
    replace x7 := A.t x7 rfl
    replace x8 := A.t x8 rfl
    replace x81 := A.t x81 rfl
    replace x82 := A.t x82 rfl
    replace x11 := A.t x11 rfl
    replace x12 := A.t x12 rfl
    replace x13 := A.t x13 rfl
    have x100 := A.e 9 100 rfl rfl
    replace hv1 := Fk.mono _ _ _ _ hv1 hb
    replace hd := HD.below hd hb
    replace hx := HX.below hx hb
    replace hO1 := Ob8.below hO1 hb
    replace m0 := Ob.below m0 hb
    replace rh := Rs.below rh hb
    replace rc := Rs.below rc hb
    replace bl := bgo bl hb
    replace sd := A.sd sd
    clear A hb
    clear x11
    clear x12
    clear x13
    clear m0 rh rc hO1 hv1
    show Code.wp _ _ _ _ _
    refine wp_cond_false x100 ?_
    refine wp_skip ?_
    show Code.wp _ _ _ _ _
    refine wr_s [.eq (.int .i64 ((k + 1 : Nat) : Int))] (by rw [sd.1]; kernel_rfl) ⟨fun hw ac u K => ?_, trivial⟩ ?_
    · exact st_add (.tmp 82) (.const (.int .i64 1)) rfl (k) (1) (k + 1) (K.t x82 rfl) rfl (by omega) (by omega)
    intro f29 w29 A hb
    replace x0 := A.t x0 rfl
    replace x7 := A.t x7 rfl
    replace x8 := A.t x8 rfl
    replace x81 := A.t x81 rfl
    replace x82 := A.t x82 rfl
    replace x100 := A.t x100 rfl
    have x101 := A.e 0 101 rfl rfl
    replace hd := HD.below hd hb
    replace hx := HX.below hx hb
    replace bl := bgo bl hb
    replace sd := A.sd sd
    clear A hb
    clear x100
    refine wl_one (.eq (.int .i64 ((k + 1 : Nat) : Int))) rfl 82 rfl (by rw [sd.1]; decide) (st_move (.tmp 101) rfl x101) ?_
    intro f30 w30 df2 sz2 old2 new2 hb
    replace x0 := tr old2 x0 rfl
    replace x7 := tr old2 x7 rfl
    replace x8 := tr old2 x8 rfl
    replace x81 := tr old2 x81 rfl
    clear x82
    replace x101 := tr old2 x101 rfl
    have x82 := Fk.e new2
    replace hd := HD.below hd hb
    replace hx := HX.below hx hb
    replace bl := bgo bl hb
    replace sd := sd2 sz2 df2 sd
    clear df2 sz2 old2 new2 hb
    refine wpList_nil ?_
    clear x101
    show (∃ _, _) ∧ _
    refine ⟨⟨k + 1, DD, by omega, hDD, hxD, sd.1, sd.2, x0, x7, x8, x81, x82, hd, hx, bl⟩, ?_⟩
    rw [show f30.eval (.tmp 82) = _ from x82, show _ = _ from hcnt]
    first | (simp [intOf]; done) | (simp [intOf]; omega)
  obtain ⟨oo, hook⟩ : ∃ p, l[k]? = some p := ⟨_, List.getElem?_eq_getElem hlt⟩
  have hboo : (Fk.sl oo.bs).f oo.vb w := (ol_ok hv hook).b
  have hloo : (Fk.is oo.ls).f oo.vl w := (ol_ok hv hook).l
  have hsm := o_small hsmall hook
  have hon := (ol_ok hv hook).n
  have how := (ol_ok hv hook).w
  refine wr_a [.eq (.bool true)] (by rw [sd.1]; kernel_rfl) ⟨fun hw ac u K => ?_, trivial⟩ ?_
  · exact st_lss 3 (.tmp 61) (.tmp 60) rfl .i64 ((k : Int)) ((((l).length : Nat) : Int)) (K.t x61 rfl) (K.t x60 rfl) _ (by rw [eq_comm, decide_eq_true_iff]; exact Int.ofNat_lt.2 hlt)
  intro f12 w12 A hb
  replace x0 := A.t x0 rfl
  replace x7 := A.t x7 rfl
  replace x8 := A.t x8 rfl
  replace x59 := A.t x59 rfl
  replace x60 := A.t x60 rfl
  replace x61 := A.t x61 rfl
  have x62 := A.e 0 62 rfl rfl
  replace hd := HD.below hd hb
  replace hx := HX.below hx hb
  replace bl := bgo bl hb
  replace sd := A.sd sd
  clear A hb
  show Code.wp _ _ _ _ _
  refine wp_seq ?_
  refine wp_cond_true x62 ?_
  refine wp_skip ?_
  show Code.wp _ _ _ _ _
  refine wp_seq ?_
  refine wp_block ?_
  refine wp_seq ?_
  refine wr_s [.oq oo, .eq (.agg ([.int .i64 oo.k, .int .i64 oo.s, .int .i64 oo.n, oo.vb, oo.vl] : List Value).toArray)] (by rw [sd.1]; kernel_rfl) ⟨fun hw ac u K => ?_, fun hw ac u K => ?_, trivial⟩ ?_
  · exact st_idxo (.tmp 59) (.tmp 61) rfl (fk_val (K.t x59 rfl) (Fk.mono _ _ _ _ hv (bgo bl K.grow))) k oo (K.t x61 rfl) hook
  · exact st_loado (.tmp 63) rfl (K.dep 0 63 rfl)
  intro f13 w13 A hb
  have S_hd := hd
  have S_hx := hx
  have hbS0 := Below.refl w12.heap.size w12
  have hbS := hb
  replace x0 := A.t x0 rfl
  replace x7 := A.t x7 rfl
  replace x8 := A.t x8 rfl
  replace x59 := A.t x59 rfl
  replace x60 := A.t x60 rfl
  replace x61 := A.t x61 rfl
  replace x62 := A.t x62 rfl
  have x64 := A.e 1 64 rfl rfl
  replace hd := HD.below hd hb
  replace hx := HX.below hx hb
  replace bl := bgo bl hb
  replace sd := A.sd sd
  clear A hb
  clear x62
  refine wl_one (.nw w13.heap.size 32 [.int .i64 0, .int .i64 0, .int .i64 0, .slice none 0 0, .slice none 0 0]) rfl 10 rfl (by rw [sd.1]; decide) (st_alloc 32 rfl _ _ (by kernel_rfl) (Nat.le_refl _)) ?_
  intro f14 w14 df2 sz2 old2 new2 hb
  replace hbS0 := hbS
  replace hbS := hbS.trans (Below.mono hb hbS.size)
  replace bl0 := bl
  replace x0 := tr old2 x0 rfl
  replace x7 := tr old2 x7 rfl
  replace x8 := tr old2 x8 rfl
  replace x59 := tr old2 x59 rfl
  replace x60 := tr old2 x60 rfl
  replace x61 := tr old2 x61 rfl
  replace x64 := tr old2 x64 rfl
  have x10 : Fk.f (.nw w13.heap.size 32 [.int .i64 0, .int .i64 0, .int .i64 0, .slice none 0 0, .slice none 0 0]) (f14.eval (.tmp 10)) w14 := new2
  replace hd := HD.below hd hb
  replace hx := HX.below hx hb
  replace bl := bgo bl hb
  replace sd := sd2 sz2 df2 sd
  clear df2 sz2 old2 new2 hb
  obtain ⟨g10, hg10, e10, m10⟩ := x10
  have x10 := e10
  clear e10
  have hw10 : w.heap.size ≤ g10 := Nat.le_trans bl0.size hg10
  have hs10 := Nat.le_trans hbS0.size hg10
  refine wl_str rfl 32 (.tmp 10) (.tmp 64) rfl rfl (g10) ([.int .i64 oo.k, .int .i64 oo.s, .int .i64 oo.n, oo.vb, oo.vl] : List Value).toArray x10 x64 32 _ m10 (by kernel_rfl) (by kernel_rfl) (by kernel_rfl) ?_
  replace m10 : Ob (w14.setRow g10 ([.int .i64 oo.k, .int .i64 oo.s, .int .i64 oo.n, oo.vb, oo.vl] : List Value).toArray) (g10) 32 ([.int .i64 oo.k, .int .i64 oo.s, .int .i64 oo.n, oo.vb, oo.vl]) := Ob.setRow m10 ([.int .i64 oo.k, .int .i64 oo.s, .int .i64 oo.n, oo.vb, oo.vl])
  replace hbS : Below _ _ (w14.setRow g10 ([.int .i64 oo.k, .int .i64 oo.s, .int .i64 oo.n, oo.vb, oo.vl] : List Value).toArray) := hbS.trans (below_setRow _ _ _ _ hs10)
  replace hd := HD.below S_hd hbS
  replace hx := HX.below S_hx hbS
  replace bl : Below w.heap.size w (w14.setRow g10 ([.int .i64 oo.k, .int .i64 oo.s, .int .i64 oo.n, oo.vb, oo.vl] : List Value).toArray) := bl.trans (below_setRow _ _ _ _ hw10)
  generalize w14.setRow g10 ([.int .i64 oo.k, .int .i64 oo.s, .int .i64 oo.n, oo.vb, oo.vl] : List Value).toArray = w15b at bl m10 hd hx hbS ⊢
  refine wpList_nil ?_
  clear hbS hbS0 S_hd S_hx
  clear x64
  show Code.wp _ _ _ _ _
  refine wp_seq ?_
  refine wr_s [.eq (.pointer (some ⟨gd, 0, none⟩)), .eq (.pointer (some ⟨x, 0, none⟩)), .eq (.agg ([.int .i64 oo.k, .int .i64 oo.s, .int .i64 oo.n, oo.vb, oo.vl] : List Value).toArray)] (by rw [sd.1]; kernel_rfl) ⟨fun hw ac u K => ?_, fun hw ac u K => ?_, fun hw ac u K => ?_, trivial⟩ ?_
  · exact st_move (.tmp 7) rfl (K.t x7 rfl)
  · exact st_move (.tmp 8) rfl (K.t x8 rfl)
  · exact st_loadz 32 (.tmp 10) rfl (g10) 0 [.int .i64 oo.k, .int .i64 oo.s, .int .i64 oo.n, oo.vb, oo.vl] (by kernel_rfl) (by kernel_rfl) (K.t x10 rfl) (Ob.range (Ob.below m10 K.grow) 0 _ (fun j v hj => by simpa using hj))
  intro f16 w16 A hb
  replace x0 := A.t x0 rfl
  replace x7 := A.t x7 rfl
  replace x8 := A.t x8 rfl
  replace x59 := A.t x59 rfl
  replace x60 := A.t x60 rfl
  replace x61 := A.t x61 rfl
  replace x10 := A.t x10 rfl
  have x65 := A.e 0 65 rfl rfl
  have x66 := A.e 1 66 rfl rfl
  have x67 := A.e 2 67 rfl rfl
  replace m10 := Ob.below m10 hb
  replace hd := HD.below hd hb
  replace hx := HX.below hx hb
  replace bl := bgo bl hb
  replace sd := A.sd sd
  clear A hb
  clear x10
  have hS : ∀ j, (fun j => M j ∨ j = x ∨ j = h ∨ j = c) j → w.heap.size ≤ j := fun j q => q.elim (fun q => hDD j (hd.sub j q)) (hX j)
  refine wl_call 12 (.func 12) _ _ #[.pointer (some ⟨gd, 0, none⟩), .pointer (some ⟨x, 0, none⟩), oo.val] rfl 68 rfl (by rw [sd.1]; decide) rfl rfl (three_arg x65 x66 x67) Try.enter12 (fun u W' => ∃ (D2 : Nat → Prop) (r : Bool), u = .bool r ∧ (s = s → r = true) ∧ HD W' gd M D2 (stepD s oo) ∧ HX W' x h c (stepD s oo) ∧ (¬ D2 x ∧ ¬ D2 h ∧ ¬ D2 c) ∧ (∀ j, D2 j → DD j ∨ w16.heap.size ≤ j) ∧ Fr (fun j => M j ∨ j = x ∨ j = h ∨ j = c) w16 W') ((step_any hd hx hxD gs gs hN16 hZ16 (by have := hsmall.2; omega) (o := oo) (fun q => Fk.mono _ _ _ _ hboo (bl.trans (q.below bl.size hS))) (fun q => Fk.mono _ _ _ _ hloo (bl.trans (q.below bl.size hS))) hsm.1 hsm.2 hon how).mono (by rintro e w' ⟨D2, r, rfl, q⟩; exact ⟨_, rfl, D2, r, rfl, q⟩)) ?_
  rintro f17 w17 df2 sz2 old2 ⟨D2, r, x68, hr, hd2, hx2, hxD2, hD2, O⟩
  obtain rfl : r = true := hr rfl
  clear hr
  replace x0 := tr old2 x0 rfl
  replace x7 := tr old2 x7 rfl
  replace x8 := tr old2 x8 rfl
  replace x59 := tr old2 x59 rfl
  replace x60 := tr old2 x60 rfl
  replace x61 := tr old2 x61 rfl
  replace x65 := tr old2 x65 rfl
  replace x66 := tr old2 x66 rfl
  replace x67 := tr old2 x67 rfl
  clear m10
  have bl9 := bl.trans (O.below bl.size hS)
  replace hDD : ∀ j, D2 j → w.heap.size ≤ j := fun j q => (hD2 j q).elim (hDD j) (fun q => Nat.le_trans bl.size q)
  replace bl := bl9
  replace bl0 := bl
  replace hd := hd2
  replace hx := hx2
  replace hxD := hxD2
  replace sd := sd2 sz2 df2 sd
  clear df2 sz2 old2 hd2 hx2 hxD2 bl9 O hD2 hS
  clear DD
  obtain ⟨DD, rfl⟩ : ∃ E, E = D2 := ⟨_, rfl⟩
  clear x65
  clear x66
  clear x67
  refine wl_one (.eq (.bool false)) rfl 69 rfl (by rw [sd.1]; decide) (st_not (.tmp 68) rfl true x68) ?_
  intro f18 w18 df2 sz2 old2 new2 hb
  replace x0 := tr old2 x0 rfl
  replace x7 := tr old2 x7 rfl
  replace x8 := tr old2 x8 rfl
  replace x59 := tr old2 x59 rfl
  replace x60 := tr old2 x60 rfl
  replace x61 := tr old2 x61 rfl
  replace x68 := tr old2 x68 rfl
  have x69 := Fk.e new2
  replace hd := HD.below hd hb
  replace hx := HX.below hx hb
  replace bl := bgo bl hb
  replace sd := sd2 sz2 df2 sd
  clear df2 sz2 old2 new2 hb
  clear x68
  refine wl_one (.eq (.bool false)) rfl 70 rfl (by rw [sd.1]; decide) (st_move (.tmp 69) rfl x69) ?_
  intro f19 w19 df2 sz2 old2 new2 hb
  replace x0 := tr old2 x0 rfl
  replace x7 := tr old2 x7 rfl
  replace x8 := tr old2 x8 rfl
  replace x59 := tr old2 x59 rfl
  replace x60 := tr old2 x60 rfl
  replace x61 := tr old2 x61 rfl
  replace x69 := tr old2 x69 rfl
  have x70 := Fk.e new2
  replace hd := HD.below hd hb
  replace hx := HX.below hx hb
  replace bl := bgo bl hb
  replace sd := sd2 sz2 df2 sd
  clear df2 sz2 old2 new2 hb
  clear x69
  refine wl_onew (.eq (.pointer (some ⟨gd, 0, none⟩))) (want_of rfl rfl x70) 71 rfl (by rw [sd.1]; decide) (st_move (.tmp 7) rfl x7) ?_
  intro f20 w20 df2 sz2 old2 new2 hb
  replace bl0 := bl
  replace x0 := tr old2 x0 rfl
  replace x7 := tr old2 x7 rfl
  replace x8 := tr old2 x8 rfl
  replace x59 := tr old2 x59 rfl
  replace x60 := tr old2 x60 rfl
  replace x61 := tr old2 x61 rfl
  replace x70 := tr old2 x70 rfl
  have x71 := Fk.e new2
  replace hd := HD.below hd hb
  replace hx := HX.below hx hb
  replace bl := bgo bl hb
  replace sd := sd2 sz2 df2 sd
  clear df2 sz2 old2 new2 hb
  refine wl_onew (.eq (.pointer (some ⟨x, 0, none⟩))) (want_of rfl rfl x70) 72 rfl (by rw [sd.1]; decide) (st_move (.tmp 8) rfl x8) ?_
  intro f21 w21 df2 sz2 old2 new2 hb
  replace bl0 := bl
  replace x0 := tr old2 x0 rfl
  replace x7 := tr old2 x7 rfl
  replace x8 := tr old2 x8 rfl
  replace x59 := tr old2 x59 rfl
  replace x60 := tr old2 x60 rfl
  replace x61 := tr old2 x61 rfl
  replace x70 := tr old2 x70 rfl
  replace x71 := tr old2 x71 rfl
  have x72 := Fk.e new2
  replace hd := HD.below hd hb
  replace hx := HX.below hx hb
  replace bl := bgo bl hb
  replace sd := sd2 sz2 df2 sd
  clear df2 sz2 old2 new2 hb
  refine wl_onew (.eq (.bool true)) (want_of rfl rfl x70) 73 rfl (by rw [sd.1]; decide) (st_call 13 (.func 13) _ _ #[.pointer (some ⟨gd, 0, none⟩), .pointer (some ⟨x, 0, none⟩)] rfl rfl (arg2 x71 x72) Try.enter13 ((same_any hd hx (by have := (gd_step gs oo).has; omega)).mono (by rintro e w' ⟨rfl, q⟩; exact ⟨_, rfl, rfl, q⟩))) ?_
  intro f22 w22 df2 sz2 old2 new2 hb
  replace bl0 := bl
  replace x0 := tr old2 x0 rfl
  replace x7 := tr old2 x7 rfl
  replace x8 := tr old2 x8 rfl
  replace x59 := tr old2 x59 rfl
  replace x60 := tr old2 x60 rfl
  replace x61 := tr old2 x61 rfl
  replace x70 := tr old2 x70 rfl
  replace x71 := tr old2 x71 rfl
  replace x72 := tr old2 x72 rfl
  have x73 := Fk.e new2
  replace hd := HD.below hd hb
  replace hx := HX.below hx hb
  replace bl := bgo bl hb
  replace sd := sd2 sz2 df2 sd
  clear df2 sz2 old2 new2 hb
  clear x71
  clear x72
  refine wl_onew (.eq (.bool false)) (want_of rfl rfl x70) 74 rfl (by rw [sd.1]; decide) (st_not (.tmp 73) rfl true x73) ?_
  intro f23 w23 df2 sz2 old2 new2 hb
  replace bl0 := bl
  replace x0 := tr old2 x0 rfl
  replace x7 := tr old2 x7 rfl
  replace x8 := tr old2 x8 rfl
  replace x59 := tr old2 x59 rfl
  replace x60 := tr old2 x60 rfl
  replace x61 := tr old2 x61 rfl
  replace x70 := tr old2 x70 rfl
  replace x73 := tr old2 x73 rfl
  have x74 := Fk.e new2
  replace hd := HD.below hd hb
  replace hx := HX.below hx hb
  replace bl := bgo bl hb
  replace sd := sd2 sz2 df2 sd
  clear df2 sz2 old2 new2 hb
  clear x73
  refine wl_one (.eq (.bool false)) rfl 75 rfl (by rw [sd.1]; decide) (st_pick_f' (.tmp 70) (.const (.bool true)) (.tmp 74) rfl x70 x74) ?_
  intro f24 w24 df2 sz2 old2 new2 hb
  replace x0 := tr old2 x0 rfl
  replace x7 := tr old2 x7 rfl
  replace x8 := tr old2 x8 rfl
  replace x59 := tr old2 x59 rfl
  replace x60 := tr old2 x60 rfl
  replace x61 := tr old2 x61 rfl
  replace x70 := tr old2 x70 rfl
  replace x74 := tr old2 x74 rfl
  have x75 := Fk.e new2
  replace hd := HD.below hd hb
  replace hx := HX.below hx hb
  replace bl := bgo bl hb
  replace sd := sd2 sz2 df2 sd
  clear df2 sz2 old2 new2 hb
  refine wpList_nil ?_
  clear x70
  clear x74
  show Code.wp _ _ _ _ _
  refine wp_cond_false x75 ?_
  refine wp_skip ?_
  show Code.wp _ _ _ _ _
  refine wr_s [.eq (.int .i64 ((k + 1 : Nat) : Int))] (by rw [sd.1]; kernel_rfl) ⟨fun hw ac u K => ?_, trivial⟩ ?_
  · exact st_add (.tmp 61) (.const (.int .i64 1)) rfl (k) (1) (k + 1) (K.t x61 rfl) rfl (by omega) (by omega)
  intro f25 w25 A hb
  replace x0 := A.t x0 rfl
  replace x7 := A.t x7 rfl
  replace x8 := A.t x8 rfl
  replace x59 := A.t x59 rfl
  replace x60 := A.t x60 rfl
  replace x61 := A.t x61 rfl
  replace x75 := A.t x75 rfl
  have x76 := A.e 0 76 rfl rfl
  replace hd := HD.below hd hb
  replace hx := HX.below hx hb
  replace bl := bgo bl hb
  replace sd := A.sd sd
  clear A hb
  clear x75
  refine wl_one (.eq (.int .i64 ((k + 1 : Nat) : Int))) rfl 61 rfl (by rw [sd.1]; decide) (st_move (.tmp 76) rfl x76) ?_
  intro f26 w26 df2 sz2 old2 new2 hb
  replace x0 := tr old2 x0 rfl
  replace x7 := tr old2 x7 rfl
  replace x8 := tr old2 x8 rfl
  replace x59 := tr old2 x59 rfl
  replace x60 := tr old2 x60 rfl
  clear x61
  replace x76 := tr old2 x76 rfl
  have x61 := Fk.e new2
  replace hd := HD.below hd hb
  replace hx := HX.below hx hb
  replace bl := bgo bl hb
  replace sd := sd2 sz2 df2 sd
  clear df2 sz2 old2 new2 hb
  refine wpList_nil ?_
  clear x76
  show (∃ _, _) ∧ _
  refine ⟨⟨k + 1, stepD s oo, DD, by omega, gd_step gs oo, hDD, hxD, sd.1, sd.2, x0, x7, x8, x59, x60, x61, hd, hx, bl⟩, ?_⟩
  rw [show f26.eval (.tmp 61) = _ from x61, show _ = _ from hcnt]
  first | (simp [intOf]; done) | (simp [intOf]; omega)
end Go.Proofs.Ytjdpomilifnlaaa
namespace Go.Proofs.Ytjdpomilifnlaaa
set_option maxRecDepth 100000
open Go.RowKit
open Go.ChangeShapes Go.WideShapes Go.ChangeAt
variable {H : Type} {enc : TypeId × Value → H} {W : World}
end Go.Proofs.Ytjdpomilifnlaaa
