/- Split, and the reference's. Slices of numbers, and of pairs of numbers: of the call's own, and to be read. -/
import Derived.Test.YtfbfngblocfdlaaDoorM6
namespace Go.Proofs.YtfbfngblocfdlaaDoor
set_option maxRecDepth 100000
open Go.RowKit
theorem spl_bln {n : Nat} (h : 2 ≤ n) : bln (n - 1) = Nat.log2 (n - 1) + 1 := bln_pos (by omega)
theorem log_le {n : Nat} (h : 2 ≤ n) (h2 : n ≤ 9223372036854775807) : Nat.log2 (n - 1) ≤ 62 := by
  have : Nat.log2 (n - 1) < 63 := (Nat.log2_lt (by omega)).2 (by omega)
  omega
theorem spl_le {n : Nat} (h : 2 ≤ n) (h2 : n ≤ 9223372036854775807) : spl n ≤ 4611686018427387904 := by
  unfold spl
  exact Nat.pow_le_pow_right (n := 2) (by decide) (log_le h h2)
section
variable {Q : Exit → Act → World → Prop} {o : Oper} {a : Act} {w : World}
theorem st_addz (x y : Operand) (ho : o.op = .binOp .add 3 x y 3) (m n e : Int) (hx : a.eval x = .int .i64 m) (hy : a.eval y = .int .i64 n) (he : e = m + n) (h1 : -9223372036854775808 ≤ e) (h2 : e ≤ 9223372036854775807) : o.wp Tryd.prog a w (Ends a o.dst w (Fk.eq (.int .i64 e)).f) Q := by
  refine st_bin .add 3 3 x y ho hx hy ?_
  have hw : IntKind.i64.wrap (m + n) = e := by rw [IntKind.wrap_i64]; omega
  simp [eqGuard, binOp, Op.intArith, hw]
theorem st_subz (x y : Operand) (ho : o.op = .binOp .sub 3 x y 3) (m n e : Int) (hx : a.eval x = .int .i64 m) (hy : a.eval y = .int .i64 n) (he : e = m - n) (h1 : -9223372036854775808 ≤ e) (h2 : e ≤ 9223372036854775807) : o.wp Tryd.prog a w (Ends a o.dst w (Fk.eq (.int .i64 e)).f) Q := by
  refine st_bin .sub 3 3 x y ho hx hy ?_
  have hw : IntKind.i64.wrap (m - n) = e := by rw [IntKind.wrap_i64]; omega
  simp [eqGuard, binOp, Op.intArith, hw]
theorem st_shl1 (x y : Operand) (ho : o.op = .binOp .shl 3 x y 3) (k : Nat) (hx : a.eval x = .int .i64 1) (hy : a.eval y = .int .i64 (k : Int)) (e : Nat) (he : e = 2 ^ k) (hk : k ≤ 62) : o.wp Tryd.prog a w (Ends a o.dst w (Fk.eq (.int .i64 (e : Int))).f) Q := by
  refine st_bin .shl 3 3 x y ho hx hy ?_
  have h3 : e ≤ 4611686018427387904 := by rw [he]; exact Nat.pow_le_pow_right (n := 2) (by decide) hk
  have hw : IntKind.i64.wrap ((1 : Int) * 2 ^ k) = (e : Int) := by
    have : (1 : Int) * 2 ^ k = (e : Int) := by rw [he]; simp
    rw [this, IntKind.wrap_i64]; omega
  have hw2 : IntKind.i64.wrap ((2 : Int) ^ k) = (e : Int) := by rw [← hw, Int.one_mul]
  simp [eqGuard, binOp, hw2]
  try omega
theorem st_andp (x y : Operand) (ho : o.op = .binOp .and 3 x y 3) (j : Nat) (hj : j ≤ 62) (hx : a.eval x = .int .i64 ((2 ^ j : Nat) : Int)) (hy : a.eval y = .int .i64 ((2 ^ j - 1 : Nat) : Int)) : o.wp Tryd.prog a w (Ends a o.dst w (Fk.eq (.int .i64 0)).f) Q := by
  refine st_bin .and 3 3 x y ho hx hy ?_
  have h0 : 2 ^ j ≤ 4611686018427387904 := Nat.pow_le_pow_right (n := 2) (by decide) hj
  have ha : 2 ^ j &&& (2 ^ j - 1) = 0 := by rw [Nat.and_two_pow_sub_one_eq_mod, Nat.mod_self]
  generalize 2 ^ j = m at *
  have h2 : m % 2 ^ IntKind.i64.bits = m := Nat.mod_eq_of_lt (by show m < 18446744073709551616; omega)
  have h3 : (m - 1) % 2 ^ IntKind.i64.bits = m - 1 := Nat.mod_eq_of_lt (by show m - 1 < 18446744073709551616; omega)
  simp [eqGuard, binOp, Op.intBits, h2, h3, ha]
  rfl
end
theorem split_lo (z : Int) (hz : z < 2) (w : World) :
    Calls Tryd.prog 12 #[.int .i64 z] w fun e w' => e = .returned (.int .i64 0) ∧ Below w.heap.size w w' := by
  go_enter Tryd.func12, Tryd.ntmps12
  refine code_both (fun f w1 => f.tmps.size = 11 ∧ f.defers = [] ∧ f.eval (.tmp 0) = .int .i64 z ∧ Below w.heap.size w (w1)) ⟨rfl, rfl, rfl, Below.refl _ _⟩ ?_
  rintro f0 w0 ⟨sz, df, x0, bl⟩
  have bl0 := bl
  refine wp_seq ?_
  -- R0
  refine wp_all_seq [.eq (.int .i64 0)] (by kernel_rfl) (by kernel_rfl) (by rw [sz]; kernel_rfl) (by kernel_rfl) ⟨fun hw ac u K => ?_, trivial⟩ ?_
  · exact st_assign (.const (.int .i64 0)) rfl rfl
  intro f1 w1 A hb
  replace bl0 := bl
  replace x0 := (A.old 0 rfl).trans x0
  have x2 : f1.eval (.tmp 2) = .int .i64 0 := A.has 0 2 rfl
  replace bl := (bl.trans (Below.mono hb bl.size))
  replace sz := A.size.trans sz
  replace df := A.defs.trans df
  clear A hb
  show Code.wp _ _ _ _ _
  refine wp_seq ?_
  refine wp_seq ?_
  -- R1
  refine wp_all_seq [.eq (.int .i64 z), .eq (.bool true)] (by kernel_rfl) (by kernel_rfl) (by rw [sz]; kernel_rfl) (by kernel_rfl) ⟨fun hw ac u K => ?_, fun hw ac u K => ?_, trivial⟩ ?_
  · exact st_move (.tmp 0) rfl ((K.old 0 rfl).trans x0)
  · exact st_lss 3 (.tmp 3) (.const (.int .i64 2)) rfl .i64 (z) (2) (K.dep 0 3 rfl) rfl _ (by rw [eq_comm, decide_eq_true_iff]; omega)
  intro f2 w2 A hb
  replace bl0 := bl
  replace x0 := (A.old 0 rfl).trans x0
  replace x2 := (A.old 2 rfl).trans x2
  have x4 : f2.eval (.tmp 4) = .bool true := A.has 1 4 rfl
  replace bl := (bl.trans (Below.mono hb bl.size))
  replace sz := A.size.trans sz
  replace df := A.defs.trans df
  clear A hb
  show Code.wp _ _ _ _ _
  refine wp_cond_true x4 ?_
  refine wp_seq ?_
  -- R2
  refine wp_all_seq [.eq (.int .i64 0)] (by kernel_rfl) (by kernel_rfl) (by rw [sz]; kernel_rfl) (by kernel_rfl) ⟨fun hw ac u K => ?_, trivial⟩ ?_
  · exact st_assign (.const (.int .i64 0)) rfl rfl
  intro f3 w3 A hb
  replace bl0 := bl
  replace x0 := (A.old 0 rfl).trans x0
  clear x2
  replace x4 := (A.old 4 rfl).trans x4
  have x2 : f3.eval (.tmp 2) = .int .i64 0 := A.has 0 2 rfl
  replace bl := (bl.trans (Below.mono hb bl.size))
  replace sz := A.size.trans sz
  replace df := A.defs.trans df
  clear A hb
  show Code.wp _ _ _ _ _
  refine wp_ret ?_
  repeat (first | with_reducible refine then_ret ?_ | with_reducible refine block_ret ?_)
  exact bodyPost_ret (v := .int .i64 0) (ret_slot rfl f3 _ x2 _ _) df ⟨rfl, bl⟩
theorem split_hi (n : Nat) (h2 : 2 ≤ n) (h3 : n ≤ 9223372036854775807) (w : World) :
    Calls Tryd.prog 12 #[.int .i64 ((n : Nat) : Int)] w fun e w' => e = .returned (.int .i64 ((spl n : Nat) : Int)) ∧ Below w.heap.size w w' := by
  go_enter Tryd.func12, Tryd.ntmps12
  refine code_both (fun f w1 => f.tmps.size = 11 ∧ f.defers = [] ∧ f.eval (.tmp 0) = .int .i64 ((n : Nat) : Int) ∧ Below w.heap.size w (w1)) ⟨rfl, rfl, rfl, Below.refl _ _⟩ ?_
  rintro f0 w0 ⟨sz, df, x0, bl⟩
  have bl0 := bl
  refine wp_seq ?_
  -- R0
  refine wp_all_seq [.eq (.int .i64 0)] (by kernel_rfl) (by kernel_rfl) (by rw [sz]; kernel_rfl) (by kernel_rfl) ⟨fun hw ac u K => ?_, trivial⟩ ?_
  · exact st_assign (.const (.int .i64 0)) rfl rfl
  intro f1 w1 A hb
  replace bl0 := bl
  replace x0 := (A.old 0 rfl).trans x0
  have x2 : f1.eval (.tmp 2) = .int .i64 0 := A.has 0 2 rfl
  replace bl := (bl.trans (Below.mono hb bl.size))
  replace sz := A.size.trans sz
  replace df := A.defs.trans df
  clear A hb
  show Code.wp _ _ _ _ _
  refine wp_seq ?_
  refine wp_seq ?_
  -- R1
  refine wp_all_seq [.eq (.int .i64 ((n : Nat) : Int)), .eq (.bool false)] (by kernel_rfl) (by kernel_rfl) (by rw [sz]; kernel_rfl) (by kernel_rfl) ⟨fun hw ac u K => ?_, fun hw ac u K => ?_, trivial⟩ ?_
  · exact st_move (.tmp 0) rfl ((K.old 0 rfl).trans x0)
  · exact st_lss 3 (.tmp 3) (.const (.int .i64 2)) rfl .i64 (n : Int) (2) (K.dep 0 3 rfl) rfl _ (by rw [eq_comm, decide_eq_false_iff_not]; omega)
  intro f2 w2 A hb
  replace bl0 := bl
  replace x0 := (A.old 0 rfl).trans x0
  replace x2 := (A.old 2 rfl).trans x2
  have x4 : f2.eval (.tmp 4) = .bool false := A.has 1 4 rfl
  replace bl := (bl.trans (Below.mono hb bl.size))
  replace sz := A.size.trans sz
  replace df := A.defs.trans df
  clear A hb
  show Code.wp _ _ _ _ _
  refine wp_cond_false x4 ?_
  refine wp_skip ?_
  show Code.wp _ _ _ _ _
  refine wp_seq ?_
  -- R3
  refine wp_all_seq [.eq (.int .i64 ((n : Nat) : Int)), .eq (.int .i64 ((n - 1 : Nat) : Int)), .eq (.int .u64 ((n - 1 : Nat) : Int)), .eq (.int .i64 ((bln (n - 1) : Nat) : Int)), .eq (.int .i64 ((Nat.log2 (n - 1) : Nat) : Int)), .eq (.int .i64 ((spl n : Nat) : Int)), .eq (.int .i64 ((spl n : Nat) : Int))] (by kernel_rfl) (by kernel_rfl) (by rw [sz]; kernel_rfl) (by kernel_rfl) ⟨fun hw ac u K => ?_, fun hw ac u K => ?_, fun hw ac u K => ?_, fun hw ac u K => ?_, fun hw ac u K => ?_, fun hw ac u K => ?_, fun hw ac u K => ?_, trivial⟩ ?_
  · exact st_move (.tmp 0) rfl ((K.old 0 rfl).trans x0)
  · exact st_subz (.tmp 5) (.const (.int .i64 1)) rfl (n : Int) 1 _ (K.dep 0 5 rfl) rfl (by omega) (by omega) (by omega)
  · exact st_conv 3 53 (.tmp 6) rfl .i64 .u64 _ _ (K.dep 1 6 rfl) Tryd.under3 Tryd.under53 (by rw [IntKind.wrap_u64]; omega)
  · exact st_call 28 (.func 28) _ _ #[.int .u64 ((n - 1 : Nat) : Int)] rfl rfl (one_arg (K.dep 2 7 rfl)) Tryd.enter28 (fk_of (len_any (n - 1) (by omega) _))
  · exact st_subz (.tmp 8) (.const (.int .i64 1)) rfl _ 1 _ (K.dep 3 8 rfl) rfl (by rw [spl_bln h2]; omega) (by omega) (by have := log_le h2 h3; omega)
  · exact st_shl1 (.const (.int .i64 1)) (.tmp 9) rfl (Nat.log2 (n - 1)) rfl (K.dep 4 9 rfl) (spl n) rfl (log_le h2 h3)
  · exact st_assign (.tmp 10) rfl (K.dep 5 10 rfl)
  intro f3 w3 A hb
  replace bl0 := bl
  replace x0 := (A.old 0 rfl).trans x0
  clear x2
  replace x4 := (A.old 4 rfl).trans x4
  have x2 : f3.eval (.tmp 2) = .int .i64 ((spl n : Nat) : Int) := A.has 6 2 rfl
  replace bl := (bl.trans (Below.mono hb bl.size))
  replace sz := A.size.trans sz
  replace df := A.defs.trans df
  clear A hb
  show Code.wp _ _ _ _ _
  refine wp_ret ?_
  repeat (first | with_reducible refine then_ret ?_ | with_reducible refine block_ret ?_)
  exact bodyPost_ret (v := .int .i64 ((spl n : Nat) : Int)) (ret_slot rfl f3 _ x2 _ _) df ⟨rfl, bl⟩
theorem rsplit_any (n : Nat) (h2 : 2 ≤ n) (h3 : n ≤ 100000) (w : World) :
    Calls Tryd.prog 31 #[.int .i64 ((n : Nat) : Int)] w fun e w' => e = .returned (.int .i64 ((spl n : Nat) : Int)) ∧ Below w.heap.size w w' := by
  go_enter Tryd.func31, Tryd.ntmps31
  refine code_both (fun f w1 => f.tmps.size = 11 ∧ f.defers = [] ∧ f.eval (.tmp 0) = .int .i64 ((n : Nat) : Int) ∧ Below w.heap.size w (w1)) ⟨rfl, rfl, rfl, Below.refl _ _⟩ ?_
  rintro f0 w0 ⟨sz, df, x0, bl⟩
  have bl0 := bl
  refine wp_seq ?_
  -- R0
  refine wp_all_seq [.eq (.int .i64 0)] (by kernel_rfl) (by kernel_rfl) (by rw [sz]; kernel_rfl) (by kernel_rfl) ⟨fun hw ac u K => ?_, trivial⟩ ?_
  · exact st_assign (.const (.int .i64 0)) rfl rfl
  intro f1 w1 A hb
  replace bl0 := bl
  replace x0 := (A.old 0 rfl).trans x0
  have x2 : f1.eval (.tmp 2) = .int .i64 0 := A.has 0 2 rfl
  replace bl := (bl.trans (Below.mono hb bl.size))
  replace sz := A.size.trans sz
  replace df := A.defs.trans df
  clear A hb
  show Code.wp _ _ _ _ _
  refine wp_seq ?_
  -- R1
  refine wp_all_seq [.eq (.int .i64 1)] (by kernel_rfl) (by kernel_rfl) (by rw [sz]; kernel_rfl) (by kernel_rfl) ⟨fun hw ac u K => ?_, trivial⟩ ?_
  · exact st_assign (.const (.int .i64 1)) rfl rfl
  intro f2 w2 A hb
  replace bl0 := bl
  replace x0 := (A.old 0 rfl).trans x0
  replace x2 := (A.old 2 rfl).trans x2
  have x3 : f2.eval (.tmp 3) = .int .i64 1 := A.has 0 3 rfl
  replace bl := (bl.trans (Below.mono hb bl.size))
  replace sz := A.size.trans sz
  replace df := A.defs.trans df
  clear A hb
  show Code.wp _ _ _ _ _
  refine wp_seq ?_
  refine wp_block ?_
  refine wp_loop (fun f v1 => ∃ j : Nat, (2 ^ j < n ∨ j = 0) ∧ f.tmps.size = 11 ∧ f.defers = [] ∧ f.eval (.tmp 0) = .int .i64 ((n : Nat) : Int) ∧ f.eval (.tmp 2) = .int .i64 0 ∧ f.eval (.tmp 3) = .int .i64 ((2 ^ j : Nat) : Int) ∧ Below w.heap.size w (v1)) (fun f _ => n - (intOf (f.eval (.tmp 3))).toNat) ⟨0, .inr rfl, sz, df, x0, x2, x3, bl⟩ ?_
  intro f3 w3 hI
  clear sz df bl bl0 x0 x2 x3
  obtain ⟨j, hj, sz, df, x0, x2, x3, bl⟩ := hI
  have bl0 := bl
  refine wp_seq ?_
  refine wp_seq ?_
  have hcnt := x3
  have hp : 2 ^ j ≤ n := by rcases hj with hj | rfl <;> omega
  have hp1 : 1 ≤ 2 ^ j := Nat.one_le_two_pow
  by_cases hlt : 2 * 2 ^ j < n
  rotate_left
  · skip
    have hsp : spl n = 2 ^ j := spl_one (by rcases hj with hj | rfl <;> omega) (by omega)
    -- R2
    refine wp_all_seq [.eq (.int .i64 ((2 ^ j : Nat) : Int)), .eq (.int .i64 ((2 * 2 ^ j : Nat) : Int)), .eq (.int .i64 ((n : Nat) : Int)), .eq (.bool false)] (by kernel_rfl) (by kernel_rfl) (by rw [sz]; kernel_rfl) (by kernel_rfl) ⟨fun hw ac u K => ?_, fun hw ac u K => ?_, fun hw ac u K => ?_, fun hw ac u K => ?_, trivial⟩ ?_
    · exact st_move (.tmp 3) rfl ((K.old 3 rfl).trans x3)
    · exact st_mul (.const (.int .i64 2)) (.tmp 4) rfl 2 (2 ^ j) _ rfl (K.dep 0 4 rfl) rfl (by omega)
    · exact st_move (.tmp 0) rfl ((K.old 0 rfl).trans x0)
    · exact st_lss 3 (.tmp 5) (.tmp 6) rfl .i64 (((2 * 2 ^ j : Nat) : Int)) (((n : Nat) : Int)) (K.dep 1 5 rfl) (K.dep 2 6 rfl) _ (by rw [eq_comm, decide_eq_false_iff_not]; omega)
    intro f4 w4 A hb
    replace bl0 := bl
    replace x0 := (A.old 0 rfl).trans x0
    replace x2 := (A.old 2 rfl).trans x2
    replace x3 := (A.old 3 rfl).trans x3
    have x7 : f4.eval (.tmp 7) = .bool false := A.has 3 7 rfl
    replace bl := (bl.trans (Below.mono hb bl.size))
    replace sz := A.size.trans sz
    replace df := A.defs.trans df
    clear A hb
    show Code.wp _ _ _ _ _
    refine wp_cond_false x7 ?_
    refine wp_exit ?_
    show Code.wp _ _ _ _ _
    refine wp_seq ?_
    -- R4
    refine wp_all_seq [.eq (.int .i64 ((2 ^ j : Nat) : Int)), .eq (.int .i64 ((2 ^ j : Nat) : Int))] (by kernel_rfl) (by kernel_rfl) (by rw [sz]; kernel_rfl) (by kernel_rfl) ⟨fun hw ac u K => ?_, fun hw ac u K => ?_, trivial⟩ ?_
    · exact st_move (.tmp 3) rfl ((K.old 3 rfl).trans x3)
    · exact st_assign (.tmp 10) rfl (K.dep 0 10 rfl)
    intro f5 w5 A hb
    replace bl0 := bl
    replace x0 := (A.old 0 rfl).trans x0
    clear x2
    replace x3 := (A.old 3 rfl).trans x3
    replace x7 := (A.old 7 rfl).trans x7
    have x2 : f5.eval (.tmp 2) = .int .i64 ((2 ^ j : Nat) : Int) := A.has 1 2 rfl
    replace bl := (bl.trans (Below.mono hb bl.size))
    replace sz := A.size.trans sz
    replace df := A.defs.trans df
    clear A hb
    show Code.wp _ _ _ _ _
    refine wp_ret ?_
    repeat (first | with_reducible refine then_ret ?_ | with_reducible refine block_ret ?_)
    rw [← hsp] at x2
    exact bodyPost_ret (v := .int .i64 ((spl n : Nat) : Int)) (ret_slot rfl f5 _ x2 _ _) df ⟨rfl, bl⟩
  -- R2
  refine wp_all_seq [.eq (.int .i64 ((2 ^ j : Nat) : Int)), .eq (.int .i64 ((2 * 2 ^ j : Nat) : Int)), .eq (.int .i64 ((n : Nat) : Int)), .eq (.bool true)] (by kernel_rfl) (by kernel_rfl) (by rw [sz]; kernel_rfl) (by kernel_rfl) ⟨fun hw ac u K => ?_, fun hw ac u K => ?_, fun hw ac u K => ?_, fun hw ac u K => ?_, trivial⟩ ?_
  · exact st_move (.tmp 3) rfl ((K.old 3 rfl).trans x3)
  · exact st_mul (.const (.int .i64 2)) (.tmp 4) rfl 2 (2 ^ j) _ rfl (K.dep 0 4 rfl) rfl (by omega)
  · exact st_move (.tmp 0) rfl ((K.old 0 rfl).trans x0)
  · exact st_lss 3 (.tmp 5) (.tmp 6) rfl .i64 (((2 * 2 ^ j : Nat) : Int)) (((n : Nat) : Int)) (K.dep 1 5 rfl) (K.dep 2 6 rfl) _ (by rw [eq_comm, decide_eq_true_iff]; omega)
  intro f4 w4 A hb
  replace bl0 := bl
  replace x0 := (A.old 0 rfl).trans x0
  replace x2 := (A.old 2 rfl).trans x2
  replace x3 := (A.old 3 rfl).trans x3
  have x7 : f4.eval (.tmp 7) = .bool true := A.has 3 7 rfl
  replace bl := (bl.trans (Below.mono hb bl.size))
  replace sz := A.size.trans sz
  replace df := A.defs.trans df
  clear A hb
  show Code.wp _ _ _ _ _
  refine wp_cond_true x7 ?_
  refine wp_skip ?_
  show Code.wp _ _ _ _ _
  refine wp_block ?_
  -- R3
  refine wp_region_seq [.eq (.int .i64 ((2 ^ j : Nat) : Int)), .eq (.int .i64 ((2 * 2 ^ j : Nat) : Int))] (by kernel_rfl) (by kernel_rfl) (by rw [sz]; kernel_rfl) (by kernel_rfl) ⟨fun hw ac u K => ?_, fun hw ac u K => ?_, trivial⟩ ?_
  · exact st_move (.tmp 3) rfl ((K.old 3 rfl).trans x3)
  · exact st_mul (.const (.int .i64 2)) (.tmp 8) rfl 2 (2 ^ j) _ rfl (K.dep 0 8 rfl) rfl (by omega)
  intro f5 w5 A hb
  replace bl0 := bl
  replace x0 := (A.old 0 rfl).trans x0
  replace x2 := (A.old 2 rfl).trans x2
  replace x3 := (A.old 3 rfl).trans x3
  replace x7 := (A.old 7 rfl).trans x7
  have x9 : f5.eval (.tmp 9) = .int .i64 ((2 * 2 ^ j : Nat) : Int) := A.has 1 9 rfl
  replace bl := (bl.trans (Below.mono hb bl.size))
  replace sz := A.size.trans sz
  replace df := A.defs.trans df
  clear A hb
  refine wl_one (.eq (.int .i64 ((2 * 2 ^ j : Nat) : Int))) rfl 3 rfl (by rw [sz]; decide) (st_assign (.tmp 9) rfl x9) ?_
  intro f6 w6 df2 sz2 old2 new2 hb
  replace bl0 := bl
  replace x0 := (old2 0 rfl).trans x0
  replace x2 := (old2 2 rfl).trans x2
  clear x3
  replace x7 := (old2 7 rfl).trans x7
  replace x9 := (old2 9 rfl).trans x9
  have x3 : f6.eval (.tmp 3) = .int .i64 ((2 * 2 ^ j : Nat) : Int) := new2
  replace bl := (bl.trans (Below.mono hb bl.size))
  replace sz := sz2.trans sz
  replace df := df2.trans df
  clear df2 sz2 old2 new2 hb
  refine wpList_nil ?_
  clear x9
  show (∃ _, _) ∧ _
  replace x3 : Fk.f (.eq (.int .i64 ((2 ^ (j + 1) : Nat) : Int))) (f6.eval (.tmp 3)) w6 := (by rw [show 2 ^ (j + 1) = 2 * 2 ^ j by rw [Nat.pow_succ, Nat.mul_comm]]; exact x3)
  refine ⟨⟨j + 1, .inl (by rw [Nat.pow_succ]; omega), sz, df, x0, x2, x3, bl⟩, ?_⟩
  rw [show f6.eval (.tmp 3) = _ from x3, show _ = _ from hcnt]
  simp only [intOf, Int.toNat_natCast, Nat.pow_succ]
  omega
end Go.Proofs.YtfbfngblocfdlaaDoor
namespace Go.Proofs.YtfbfngblocfdlaaDoor
set_option maxRecDepth 100000
open Go.RowKit
/-- A slice of the call's own: n things of a type, of so many cells each. -/
def Fk.orw (base T sz n : Nat) (cs : List Value) : Fk := .inr (.inl ⟨fun v w => w.ownsRow base T sz v n cs, by
  rintro v w w' ⟨h1, h2⟩ hb
  refine ⟨h1, ?_⟩
  rcases h2 with h2 | ⟨g, cap, cur, e, hbg, hg, r⟩
  · exact .inl h2
  · exact .inr ⟨g, cap, cur, e, hbg, by rw [hb.block g (Array.getElem?_eq_some_iff.1 hg).1]; exact hg, r⟩⟩)
/-- A slice that may be read: n things, of so many cells each. -/
def Fk.rdw (sz n : Nat) (cs : List Value) : Fk := .inr (.inl ⟨fun v w => ∃ A C lb lo, v = .slice A n C ∧ (0 < n → A = some ⟨lb, lo, none⟩) ∧ cs.length = n * sz ∧ w.rangeAt lb lo cs, by
  rintro v w w' ⟨A, C, lb, lo, e, h1, h2, h3⟩ hb
  exact ⟨A, C, lb, lo, e, h1, h2, fun j u hj => by have := h3 j u hj; rw [hb.cell (block_lt_of_cell this)]; exact this⟩⟩)
theorem orw_rdw {base T sz n : Nat} {cs : List Value} {v : Value} {w : World} (h : (Fk.orw base T sz n cs).f v w) : (Fk.rdw sz n cs).f v w := by
  obtain ⟨h1, h2⟩ := h
  rcases h2 with ⟨rfl, rfl⟩ | ⟨g, cap, cur, rfl, hbg, hg, hnc, _, hcs, ht⟩
  · have : cs = [] := List.eq_nil_of_length_eq_zero (by rw [h1]; simp)
    subst this
    exact ⟨none, 0, 0, 0, rfl, fun h => absurd h (by decide), by simp, fun j u hj => by simp at hj⟩
  · refine ⟨_, cap, g, 0, rfl, fun _ => rfl, h1, fun j u hj => ?_⟩
    have hjl : j < n * sz := by rw [← h1]; exact (List.getElem?_eq_some_iff.1 hj).1
    rw [cell_of_row _ _ _ _ _ _ hg, Nat.zero_add]
    have e := congrArg (·[j]?) ht
    simp only [List.getElem?_take, hj, if_pos hjl, Array.getElem?_toList] at e
    exact e
theorem orw_le {g0 g1 : Nat} (hg : g1 ≤ g0) {T sz n : Nat} {cs : List Value} {v : Value} {w : World} (h : (Fk.orw g0 T sz n cs).f v w) : (Fk.orw g1 T sz n cs).f v w := by
  obtain ⟨h1, h2⟩ := h
  refine ⟨h1, ?_⟩
  rcases h2 with h2 | ⟨g, cap, cur, e, hbg, r⟩
  · exact .inl h2
  · exact .inr ⟨g, cap, cur, e, Nat.le_trans hg hbg, r⟩
theorem orw_nil (base T sz : Nat) (w : World) : (Fk.orw base T sz 0 []).f (.slice none 0 0) w := World.ownsRow_nil _ _ _ _
theorem fk_orw {f : FuncId} {args : Array Value} {w : World} {g0 T sz n : Nat} {cs : List Value} (hg : g0 ≤ w.heap.size) (h : Calls Tryd.prog f args w fun e w' => ∃ u, e = .returned u ∧ (Fk.orw w.heap.size T sz n cs).f u w' ∧ Below w.heap.size w w') :
    Calls Tryd.prog f args w fun e w' => ∃ u, e = .returned u ∧ (Fk.orw g0 T sz n cs).f u w' ∧ Below w.heap.size w w' := by
  refine h.mono ?_
  rintro e w' ⟨u, rfl, h1, h3⟩
  exact ⟨u, rfl, orw_le hg h1, h3⟩
theorem orw_new {w : World} {base T sz : Nat} {cs : List Value} (hl : cs.length = sz) (hb : base ≤ w.heap.size) : (Fk.orw base T sz 1 cs).f (.slice (some ⟨w.heap.size, 0, none⟩) 1 1) (w.alloc (.cells cs.toArray T)) :=
  ⟨by rw [hl, Nat.one_mul], .inr ⟨w.heap.size, 1, cs.toArray, rfl, hb, heap_alloc_new _ _, Nat.le_refl _, by unfold maxLen; omega, by simp [hl], by simp [← hl]⟩⟩
section
variable {Q : Exit → Act → World → Prop} {o : Oper} {a : Act} {w : World} {ops : Array Oper} {rest : List Oper}
theorem wl_appr (ST T sz by_ : Nat) {z : Value} (hu : Tryd.prog.underlying ST = some (.slice T)) (hinf : (Tryd.prog.info? T).map (fun i => (i.zero, i.size, i.bytes)) = some (some z, sz, by_)) (hzs : z.cells.size = sz) (hpos : 0 < sz)
    (hgd : o.guard = none) (s x : Operand) (ho : o.op = .call { callee := .builtin .append, args := #[s, x], argTypes := #[ST, ST] }) (d : Nat) (hd : o.dst = some d) (hsz : d < a.tmps.size)
    {wL : World} {b n m : Nat} {cs ds : List Value} (hs1 : (Fk.orw wL.heap.size T sz n cs).f (a.eval s) w) (hx : (Fk.orw b T sz m ds).f (a.eval x) w) (hm : 1 ≤ m) (hone : ∀ u ∈ ds, u.oneCell' = true) (hL : Below wL.heap.size wL w) (hN : n + m ≤ 100000) (hby : by_ ≤ 1000)
    (h : ∀ a2 w2, a2.defers = a.defers → a2.tmps.size = a.tmps.size → (∀ t, (t == d) = false → a2.eval (.tmp t) = a.eval (.tmp t)) → (Fk.orw wL.heap.size T sz (n + m) (cs ++ ds)).f (a2.eval (.tmp d)) w2 → Below wL.heap.size wL w2 → wpList Tryd.prog ops Q rest a2 w2) : wpList Tryd.prog ops Q (o :: rest) a w := by
  obtain ⟨i0, hi, hz0, hz1, hz2⟩ := info_parts hinf
  obtain ⟨A, C, lb, lo, e, hp, hl, hr⟩ := orw_rdw hx
  have hp := hp (by omega)
  subst hp
  have hown : w.ownsRow wL.heap.size T sz (a.eval s) n cs := hs1
  refine wpList_append_own w hgd s x ST ho wL.heap.size T i0 z sz by_ hu hi hz0 hz1 hz2 hzs hpos _ n cs rfl hown ⟨lb, lo, none⟩ m C ds e hl (fun j u hj => by rw [Addr.add_mid]; exact hr j u hj) hone (by unfold maxLen; omega) ?_ hL.size ?_
  · have := Nat.mul_le_mul hN hby
    omega
  · intro v' w' h1 h2 _
    refine h _ _ (put_def _ _ _) (put_size _ _ _) (fun t ht => ?_) ?_ (hL.grown h2 hL.size (fun k e => (World.ownsRow.lt hown k e).1))
    · rw [hd]
      exact put_eval_other _ _ _ _ (fun e => by subst e; simp at ht)
    · rw [hd, put_eval_same _ _ _ hsz]
      exact h1
theorem st_lenr (ST T : Nat) (hu : Tryd.prog.underlying ST = some (.slice T)) (he : Tryd.prog.elem ST = T) (x : Operand) (ho : o.op = .call { callee := .builtin .len, args := #[x], argTypes := #[ST] }) {sz n : Nat} {cs : List Value} (h : (Fk.rdw sz n cs).f (a.eval x) w) : o.wp Tryd.prog a w (Ends a o.dst w (Fk.eq (.int .i64 ((n : Nat) : Int))).f) Q := by
  obtain ⟨A, C, lb, lo, e, _⟩ := h
  refine st_pure (v := .int .i64 (n : Int)) ?_ rfl
  have h1 := run_len_slice (P := Tryd.prog) (w := w) ST o.type A n C (by rw [he]; exact hu)
  unfold execOp
  simp [ho, resolve, invoke, builtin, e, h1, goInt]
/-- A pointer to these cells. -/
def Fk.prg (cs : List Value) : Fk := .inr (.inl ⟨fun v w => ∃ b o, v = .pointer (some ⟨b, o, none⟩) ∧ w.rangeAt b o cs, by
  rintro v w w' ⟨b, o, e, h⟩ hb
  exact ⟨b, o, e, fun j u hj => by have := h j u hj; rw [hb.cell (block_lt_of_cell this)]; exact this⟩⟩)
theorem st_idxr2 (ST T : Nat) (hu : Tryd.prog.underlying ST = some (.slice T)) (he : Tryd.prog.elem ST = T) {sz : Nat} (hs : ∀ w, (sizeOf T).run Tryd.prog w = .ok sz w) (x y : Operand) (ho : o.op = .indexAddr ST x y) {n : Nat} {cs : List Value} (h : (Fk.rdw sz n cs).f (a.eval x) w) (i : Nat) (hy : a.eval y = .int .i64 (i : Int)) (hi : i < n) (ds : List Value) (hd : ∀ (j : Nat) (v : Value), ds[j]? = some v → cs[i * sz + j]? = some v) : o.wp Tryd.prog a w (Ends a o.dst w (Fk.prg ds).f) Q := by
  obtain ⟨A, C, lb, lo, e, hp, hl, hr⟩ := h
  have hp := hp (by omega)
  subst hp
  refine st_pure (v := .pointer (some ⟨lb, lo + i * sz, none⟩)) ?_ ⟨lb, lo + i * sz, rfl, fun j u hj => by rw [Nat.add_assoc]; exact hr _ _ (hd j u hj)⟩
  have h1 := run_indexAt_slice (P := Tryd.prog) (w := w) ST ⟨lb, lo, none⟩ n C .i64 (i : Int) (by rw [he]; exact hu)
  rw [if_pos (by omega), he, hs] at h1
  simp only [Result.andThen_ok, Int.toNat_natCast, Addr.add_mid] at h1
  unfold execOp
  rw [ho]
  simp [e, hy, h1]
theorem st_loadr1 (T : TypeId) (x : Operand) (ho : o.op = .load T x) (h1 : (isAgg T).run Tryd.prog w = .ok false w) {u : Value} (h : (Fk.prg [u]).f (a.eval x) w) : o.wp Tryd.prog a w (Ends a o.dst w (Fk.eq u).f) Q := by
  obtain ⟨b, so, e, hr⟩ := h
  exact st_loadc T x ho h1 e (by have := hr 0 u rfl; simpa using this)
theorem st_loadr (T : TypeId) (x : Operand) (ho : o.op = .load T x) (cs : List Value) (hr : (Tryd.prog.underlying T).map (·.isRow) = some true) (hi : (Tryd.prog.info? T).map (·.size) = some cs.length) (h : (Fk.prg cs).f (a.eval x) w) : o.wp Tryd.prog a w (Ends a o.dst w (Fk.eq (.agg cs.toArray)).f) Q := by
  obtain ⟨b, so, e, hc⟩ := h
  exact st_loadz T x ho b so cs hr hi e hc
theorem st_bldr (ST T sz : Nat) (x : Operand) (ho : o.op = .buildSlice ST 1 #[(0, x)]) {u : Value} (cs : List Value) (hx : a.eval x = u) (hr : ∀ w, (Instr.buildSlice ST 1 #[(0, u)]).run Tryd.prog w = .ok (.slice (some ⟨w.heap.size, 0, none⟩) 1 1) (w.alloc (.cells cs.toArray T))) (hl : cs.length = sz) (g0 : Nat) (hg : g0 ≤ w.heap.size) : o.wp Tryd.prog a w (Ends a o.dst w (Fk.orw g0 T sz 1 cs).f) Q := by
  refine st_run (v := .slice (some ⟨w.heap.size, 0, none⟩) 1 1) (w' := w.alloc (.cells cs.toArray T)) ?_ ((Below.refl _ _).alloc (Nat.le_refl _) _) (orw_new hl hg)
  unfold execOp
  rw [ho]
  simp [hx, hr]
end
/-- Numbers in cells. -/
def zv (ds : List Int) : List Value := ds.map fun z => .int .i64 z
theorem zv_len (ds : List Int) : (zv ds).length = ds.length := List.length_map _
theorem zv_append (a b : List Int) : zv (a ++ b) = zv a ++ zv b := List.map_append
theorem zv_one (ds : List Int) : ∀ u ∈ zv ds, u.oneCell' = true := by
  intro u hu
  obtain ⟨z, _, rfl⟩ := List.mem_map.1 hu
  rfl
theorem zv_at {ds : List Int} {i : Nat} {z : Int} (h : ds[i]? = some z) : ∀ (j : Nat) (v : Value), ([.int .i64 z] : List Value)[j]? = some v → (zv ds)[i * 1 + j]? = some v := by
  intro j v hj
  cases j with
  | zero =>
    obtain rfl : Value.int .i64 z = v := by simpa using hj
    simp [zv, h]
  | succ j => simp at hj
/-- Pairs of numbers in cells. -/
def pv2 (ps : List (Nat × Nat)) : List Value := ps.flatMap fun p => [.int .i64 (p.1 : Int), .int .i64 (p.2 : Int)]
theorem pv2_len (ps : List (Nat × Nat)) : (pv2 ps).length = ps.length * 2 := by
  induction ps with
  | nil => rfl
  | cons p r ih => simp only [pv2, List.flatMap_cons, List.length_append, List.length_cons, List.length_nil] at *; omega
theorem pv2_append (a b : List (Nat × Nat)) : pv2 (a ++ b) = pv2 a ++ pv2 b := List.flatMap_append
theorem pv2_one (ps : List (Nat × Nat)) : ∀ u ∈ pv2 ps, u.oneCell' = true := by
  intro u hu
  obtain ⟨p, _, hp⟩ := List.mem_flatMap.1 hu
  simp only [List.mem_cons, List.not_mem_nil, or_false] at hp
  rcases hp with rfl | rfl <;> rfl
theorem pv2_at : ∀ {ps : List (Nat × Nat)} {i : Nat} {p : Nat × Nat}, ps[i]? = some p → ∀ (j : Nat) (v : Value), ([.int .i64 (p.1 : Int), .int .i64 (p.2 : Int)] : List Value)[j]? = some v → (pv2 ps)[i * 2 + j]? = some v
  | q :: r, 0, p, h, j, v, hj => by
    obtain rfl : q = p := by simpa using h
    rw [Nat.zero_mul, Nat.zero_add]
    have hlt : j < 2 := (List.getElem?_eq_some_iff.1 hj).1
    simp only [pv2, List.flatMap_cons]
    rw [List.getElem?_append_left (by simpa using hlt)]
    exact hj
  | q :: r, i + 1, p, h, j, v, hj => by
    have := pv2_at (ps := r) (i := i) (p := p) (by simpa using h) j v hj
    simp only [pv2, List.flatMap_cons] at *
    rw [List.getElem?_append_right (by simp; omega)]
    simp only [List.length_cons, List.length_nil]
    rw [show (i + 1) * 2 + j - (0 + 1 + 1) = i * 2 + j by omega]
    exact this
/-- Numbers of the call's own; to be read. -/
def Fk.oi (base : Nat) (ds : List Int) : Fk := Fk.orw base 3 1 ds.length (zv ds)
def Fk.is (ds : List Int) : Fk := Fk.rdw 1 ds.length (zv ds)
/-- Pairs of the call's own; to be read. -/
def Fk.op (base : Nat) (ps : List (Nat × Nat)) : Fk := Fk.orw base 56 2 ps.length (pv2 ps)
def Fk.ps (ps : List (Nat × Nat)) : Fk := Fk.rdw 2 ps.length (pv2 ps)
theorem Tryd.under47z : Tryd.prog.underlying 47 = some (.slice 3) := by kernel_rfl
theorem Tryd.under43z : Tryd.prog.underlying 43 = some (.slice 56) := by kernel_rfl
theorem Tryd.elem47z : Tryd.prog.elem 47 = 3 := by kernel_rfl
theorem Tryd.elem43z : Tryd.prog.elem 43 = 56 := by kernel_rfl
theorem Tryd.info3z : (Tryd.prog.info? 3).map (fun i => (i.zero, i.size, i.bytes)) = some (some (.int .i64 0), 1, 8) := by kernel_rfl
theorem Tryd.info56z : (Tryd.prog.info? 56).map (fun i => (i.zero, i.size, i.bytes)) = some (some (.agg #[.int .i64 0, .int .i64 0]), 2, 16) := by kernel_rfl
theorem Tryd.size3z (w : World) : (sizeOf 3).run Tryd.prog w = .ok 1 w := by kernel_rfl
theorem Tryd.size56z (w : World) : (sizeOf 56).run Tryd.prog w = .ok 2 w := by kernel_rfl
theorem Tryd.bld3z (z : Int) (w : World) : (Instr.buildSlice 47 1 #[(0, .int .i64 z)]).run Tryd.prog w = .ok (.slice (some ⟨w.heap.size, 0, none⟩) 1 1) (w.alloc (.cells (zv [z]).toArray 3)) := by kernel_rfl
theorem Tryd.bld56z (p q : Nat) (w : World) : (Instr.buildSlice 43 1 #[(0, .agg ([.int .i64 (p : Int), .int .i64 (q : Int)] : List Value).toArray)]).run Tryd.prog w = .ok (.slice (some ⟨w.heap.size, 0, none⟩) 1 1) (w.alloc (.cells (pv2 [(p, q)]).toArray 56)) := by kernel_rfl
theorem oi_is {base : Nat} {ds : List Int} {v : Value} {w : World} (h : (Fk.oi base ds).f v w) : (Fk.is ds).f v w := orw_rdw h
theorem op_ps {base : Nat} {ps : List (Nat × Nat)} {v : Value} {w : World} (h : (Fk.op base ps).f v w) : (Fk.ps ps).f v w := orw_rdw h
theorem oi_nil (base : Nat) (w : World) : (Fk.oi base []).f (.slice none 0 0) w := orw_nil _ _ _ _
theorem op_nil (base : Nat) (w : World) : (Fk.op base []).f (.slice none 0 0) w := orw_nil _ _ _ _
section
variable {Q : Exit → Act → World → Prop} {o : Oper} {a : Act} {w : World} {ops : Array Oper} {rest : List Oper}
theorem wl_appendi (hgd : o.guard = none) (s x : Operand) (ho : o.op = .call { callee := .builtin .append, args := #[s, x], argTypes := #[47, 47] }) (d : Nat) (hd : o.dst = some d) (hsz : d < a.tmps.size)
    {wL : World} {b : Nat} {cs ds : List Int} (hs1 : (Fk.oi wL.heap.size cs).f (a.eval s) w) (hx : (Fk.oi b ds).f (a.eval x) w) (hm : 1 ≤ ds.length) (hL : Below wL.heap.size wL w) (hN : cs.length + ds.length ≤ 100000)
    (h : ∀ a2 w2, a2.defers = a.defers → a2.tmps.size = a.tmps.size → (∀ t, (t == d) = false → a2.eval (.tmp t) = a.eval (.tmp t)) → (Fk.oi wL.heap.size (cs ++ ds)).f (a2.eval (.tmp d)) w2 → Below wL.heap.size wL w2 → wpList Tryd.prog ops Q rest a2 w2) : wpList Tryd.prog ops Q (o :: rest) a w :=
  wl_appr 47 3 1 8 Tryd.under47z Tryd.info3z rfl (by decide) hgd s x ho d hd hsz hs1 hx hm (zv_one ds) hL hN (by decide) (fun a2 w2 h1 h2 h3 h4 h5 => h a2 w2 h1 h2 h3 (by unfold Fk.oi; rw [List.length_append, zv_append]; exact h4) h5)
theorem wl_appendp (hgd : o.guard = none) (s x : Operand) (ho : o.op = .call { callee := .builtin .append, args := #[s, x], argTypes := #[43, 43] }) (d : Nat) (hd : o.dst = some d) (hsz : d < a.tmps.size)
    {wL : World} {b : Nat} {cs ds : List (Nat × Nat)} (hs1 : (Fk.op wL.heap.size cs).f (a.eval s) w) (hx : (Fk.op b ds).f (a.eval x) w) (hm : 1 ≤ ds.length) (hL : Below wL.heap.size wL w) (hN : cs.length + ds.length ≤ 100000)
    (h : ∀ a2 w2, a2.defers = a.defers → a2.tmps.size = a.tmps.size → (∀ t, (t == d) = false → a2.eval (.tmp t) = a.eval (.tmp t)) → (Fk.op wL.heap.size (cs ++ ds)).f (a2.eval (.tmp d)) w2 → Below wL.heap.size wL w2 → wpList Tryd.prog ops Q rest a2 w2) : wpList Tryd.prog ops Q (o :: rest) a w :=
  wl_appr 43 56 2 16 Tryd.under43z Tryd.info56z rfl (by decide) hgd s x ho d hd hsz hs1 hx hm (pv2_one ds) hL hN (by decide) (fun a2 w2 h1 h2 h3 h4 h5 => h a2 w2 h1 h2 h3 (by unfold Fk.op; rw [List.length_append, pv2_append]; exact h4) h5)
theorem st_lenis (x : Operand) (ho : o.op = .call { callee := .builtin .len, args := #[x], argTypes := #[47] }) {ds : List Int} (h : (Fk.is ds).f (a.eval x) w) : o.wp Tryd.prog a w (Ends a o.dst w (Fk.eq (.int .i64 ((ds.length : Nat) : Int))).f) Q := st_lenr 47 3 Tryd.under47z Tryd.elem47z x ho h
theorem st_lenps (x : Operand) (ho : o.op = .call { callee := .builtin .len, args := #[x], argTypes := #[43] }) {ps : List (Nat × Nat)} (h : (Fk.ps ps).f (a.eval x) w) : o.wp Tryd.prog a w (Ends a o.dst w (Fk.eq (.int .i64 ((ps.length : Nat) : Int))).f) Q := st_lenr 43 56 Tryd.under43z Tryd.elem43z x ho h
theorem st_idxis (x y : Operand) (ho : o.op = .indexAddr 47 x y) {ds : List Int} (h : (Fk.is ds).f (a.eval x) w) (i : Nat) (hy : a.eval y = .int .i64 (i : Int)) (z : Int) (hi : ds[i]? = some z) : o.wp Tryd.prog a w (Ends a o.dst w (Fk.prg [.int .i64 z]).f) Q :=
  st_idxr2 47 3 Tryd.under47z Tryd.elem47z Tryd.size3z x y ho h i hy (List.getElem?_eq_some_iff.1 hi).1 _ (zv_at hi)
theorem st_idxps (x y : Operand) (ho : o.op = .indexAddr 43 x y) {ps : List (Nat × Nat)} (h : (Fk.ps ps).f (a.eval x) w) (i : Nat) (hy : a.eval y = .int .i64 (i : Int)) (p : Nat × Nat) (hi : ps[i]? = some p) : o.wp Tryd.prog a w (Ends a o.dst w (Fk.prg [.int .i64 (p.1 : Int), .int .i64 (p.2 : Int)]).f) Q :=
  st_idxr2 43 56 Tryd.under43z Tryd.elem43z Tryd.size56z x y ho h i hy (List.getElem?_eq_some_iff.1 hi).1 _ (pv2_at hi)
theorem st_bi1 (x : Operand) (ho : o.op = .buildSlice 47 1 #[(0, x)]) (z : Int) (hx : a.eval x = .int .i64 z) (g0 : Nat) (hg : g0 ≤ w.heap.size) : o.wp Tryd.prog a w (Ends a o.dst w (Fk.oi g0 [z]).f) Q := st_bldr 47 3 1 x ho _ hx (Tryd.bld3z z) rfl g0 hg
theorem st_bp1 (x : Operand) (ho : o.op = .buildSlice 43 1 #[(0, x)]) (p q : Nat) (hx : a.eval x = .agg ([.int .i64 (p : Int), .int .i64 (q : Int)] : List Value).toArray) (g0 : Nat) (hg : g0 ≤ w.heap.size) : o.wp Tryd.prog a w (Ends a o.dst w (Fk.op g0 [(p, q)]).f) Q := st_bldr 43 56 2 x ho _ hx (Tryd.bld56z p q) rfl g0 hg
end
end Go.Proofs.YtfbfngblocfdlaaDoor
