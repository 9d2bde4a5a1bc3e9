/- The place of the lowest bit, the count of ones, for numbers below 2^21; peaksOf. Parse of package compact. A drawn region in which a store does not wait for what is read beside it: looks at hashes and slices, and the store. One hash more, appended to a row that lies anywhere: in place, or in a new block; all other blocks are as they were. A drawn region with one operation that only looks and for which the last ones need not wait: it is taken first; the others in any order; the last ones in a chain. -/
import Derived.Test.YtnppjlpnfijobaaDoorM3
import Derived.Test.YtnppjlpnfijobaaDoorM2
import Derived.Test.YtnppjlpnfijobaaDoorM6
import Derived.Test.YtnppjlpnfijobaaDoorM4
import Derived.Test.YtnppjlpnfijobaaDoorM5
namespace Go.Proofs.YtnppjlpnfijobaaDoor
set_option maxRecDepth 100000
open Go.RowKit
theorem land2 (x y : Nat) : x &&& y = 2 * ((x / 2) &&& (y / 2)) + (x % 2) * (y % 2) := by
  have h1 : (x &&& y) / 2 = (x / 2) &&& (y / 2) := Nat.and_div_two
  have h2 : (x &&& y) % 2 = (x % 2) * (y % 2) := by
    rcases Nat.mod_two_eq_zero_or_one x with hx | hx <;> rcases Nat.mod_two_eq_zero_or_one y with hy | hy <;> rw [hx, hy]
    · have := (Nat.and_mod_two_eq_one (a := x) (b := y)); omega
    · have := (Nat.and_mod_two_eq_one (a := x) (b := y)); omega
    · have := (Nat.and_mod_two_eq_one (a := x) (b := y)); omega
    · have := (Nat.and_mod_two_eq_one (a := x) (b := y)); omega
  omega
/-- A number and what it lacks to all ones have no one in common. -/
theorem land_comp (k : Nat) : ∀ a, a < 2 ^ k → a &&& (2 ^ k - 1 - a) = 0 := by
  induction k with
  | zero => intro a h; have : a = 0 := by omega
            subst this; rfl
  | succ k ih =>
    intro a h
    have hp : 2 ^ (k + 1) = 2 * 2 ^ k := by rw [Nat.pow_succ]; omega
    rw [land2, hp, show (2 * 2 ^ k - 1 - a) / 2 = 2 ^ k - 1 - a / 2 by omega, ih (a / 2) (by omega)]
    rcases Nat.mod_two_eq_zero_or_one a with h2 | h2
    · rw [h2, Nat.zero_mul]
    · rw [show (2 * 2 ^ k - 1 - a) % 2 = 0 by omega]
      simp
theorem land_low (n : Nat) : ∀ k, n + 1 < 2 ^ k → (n + 1) &&& (2 ^ k - (n + 1)) = 2 ^ tro n := by
  induction n using Nat.strongRecOn with
  | ind n ih =>
    intro k h
    cases k with
    | zero => simp at h
    | succ k =>
      have hp : 2 ^ (k + 1) = 2 * 2 ^ k := by rw [Nat.pow_succ]; omega
      rw [land2, hp]
      by_cases ho : n % 2 = 1
      · rw [tro_odd ho, show (n + 1) % 2 = 0 by omega, Nat.zero_mul, Nat.add_zero, show (n + 1) / 2 = n / 2 + 1 by omega, show (2 * 2 ^ k - (n + 1)) / 2 = 2 ^ k - (n / 2 + 1) by omega, ih (n / 2) (by omega) k (by omega), Nat.pow_succ]
        omega
      · rw [tro_even ho, show (n + 1) % 2 = 1 by omega, show (n + 1) / 2 = n / 2 by omega, show (2 * 2 ^ k - (n + 1)) / 2 = 2 ^ k - 1 - n / 2 by omega, land_comp k (n / 2) (by omega), show (2 * 2 ^ k - (n + 1)) % 2 = 1 by omega]
theorem land_split (k : Nat) : ∀ a b c d, a < 2 ^ k → c < 2 ^ k → (a + 2 ^ k * b) &&& (c + 2 ^ k * d) = (a &&& c) + 2 ^ k * (b &&& d) := by
  induction k with
  | zero => intro a b c d h1 h2; have e1 : a = 0 := by omega
            have e2 : c = 0 := by omega
            subst e1; subst e2; simp
  | succ k ih =>
    intro a b c d h1 h2
    have hp : 2 ^ (k + 1) = 2 * 2 ^ k := by rw [Nat.pow_succ]; omega
    rw [land2, hp, Nat.mul_assoc, Nat.mul_assoc, show (a + 2 * (2 ^ k * b)) / 2 = a / 2 + 2 ^ k * b by omega, show (c + 2 * (2 ^ k * d)) / 2 = c / 2 + 2 ^ k * d by omega, show (a + 2 * (2 ^ k * b)) % 2 = a % 2 by omega, show (c + 2 * (2 ^ k * d)) % 2 = c % 2 by omega, ih _ _ _ _ (by omega) (by omega), land2 a c, Nat.mul_assoc]
    omega
/-- The ones of a byte, pair by pair, and nibble by nibble. -/
def sA1 (b : Nat) : Nat := (b / 2 &&& 85) + (b &&& 85)
def sA2 (b : Nat) : Nat := (b / 4 &&& 51) + (b &&& 51)
def sA3 (b : Nat) : Nat := b / 16 + b % 16
theorem b_one : ∀ b : Fin 256, ∀ c : Fin 2, (b.val / 2 + 128 * c.val) &&& 85 = b.val / 2 &&& 85 := by decide +kernel
theorem b_two : ∀ b : Fin 256, ∀ c : Fin 4, (b.val / 4 + 64 * c.val) &&& 51 = b.val / 4 &&& 51 := by decide +kernel
theorem s1_lt : ∀ b : Fin 256, sA1 b.val < 256 := by decide +kernel
theorem s2_lt : ∀ b : Fin 256, sA2 (sA1 b.val) % 16 ≤ 4 ∧ sA2 (sA1 b.val) / 16 ≤ 4 := by decide +kernel
theorem land1 (M b0 r : Nat) (h : b0 < 256) : (((b0 + 256 * r) / 2) &&& (85 + 256 * M)) + ((b0 + 256 * r) &&& (85 + 256 * M)) = sA1 b0 + 256 * ((r / 2 &&& M) + (r &&& M)) := by
  have e := land_split 8 (b0 / 2 + 128 * (r % 2)) (r / 2) 85 M (by omega) (by omega)
  have e2 := land_split 8 b0 r 85 M (by omega) (by omega)
  have e3 := b_one ⟨b0, h⟩ ⟨r % 2, by omega⟩
  dsimp only at e3
  rw [show (2 : Nat) ^ 8 = 256 from rfl] at e e2
  rw [show (b0 + 256 * r) / 2 = b0 / 2 + 128 * (r % 2) + 256 * (r / 2) by omega, e, e2, e3]
  unfold sA1
  omega
theorem land4 (M b0 r : Nat) (h : b0 < 256) : (((b0 + 256 * r) / 4) &&& (51 + 256 * M)) + ((b0 + 256 * r) &&& (51 + 256 * M)) = sA2 b0 + 256 * ((r / 4 &&& M) + (r &&& M)) := by
  have e := land_split 8 (b0 / 4 + 64 * (r % 4)) (r / 4) 51 M (by omega) (by omega)
  have e2 := land_split 8 b0 r 51 M (by omega) (by omega)
  have e3 := b_two ⟨b0, h⟩ ⟨r % 4, by omega⟩
  dsimp only at e3
  rw [show (2 : Nat) ^ 8 = 256 from rfl] at e e2
  rw [show (b0 + 256 * r) / 4 = b0 / 4 + 64 * (r % 4) + 256 * (r / 4) by omega, e, e2, e3]
  unfold sA2
  omega
theorem land15 (x : Nat) : x &&& 15 = x % 16 := Nat.and_two_pow_sub_one_eq_mod x 4
theorem land16 (M b0 r : Nat) (h1 : b0 % 16 ≤ 4) (h2 : b0 / 16 ≤ 4) (h3 : r % 16 ≤ 4) : (((b0 + 256 * r) / 16 + (b0 + 256 * r)) &&& (15 + 256 * M)) = sA3 b0 + 256 * ((r / 16 + r) &&& M) := by
  have e := land_split 8 (b0 / 16 + 16 * (r % 16) + b0) (r / 16 + r) 15 M (by omega) (by omega)
  rw [show (2 : Nat) ^ 8 = 256 from rfl] at e
  rw [show (b0 + 256 * r) / 16 + (b0 + 256 * r) = b0 / 16 + 16 * (r % 16) + b0 + 256 * (r / 16 + r) by omega, e, land15]
  unfold sA3
  omega
theorem pcn_split (k : Nat) : ∀ a b, a < 2 ^ k → pcn (a + 2 ^ k * b) = pcn a + pcn b := by
  induction k with
  | zero => intro a b h; have e : a = 0 := by omega
            subst e; simp [pcn_zero]
  | succ k ih =>
    intro a b h
    have hp : 2 ^ (k + 1) = 2 * 2 ^ k := by rw [Nat.pow_succ]; omega
    rw [pcn_all, pcn_all a, hp, Nat.mul_assoc, show (a + 2 * (2 ^ k * b)) / 2 = a / 2 + 2 ^ k * b by omega, show (a + 2 * (2 ^ k * b)) % 2 = a % 2 by omega, ih _ _ (by omega)]
    omega
/-- The ones of a byte, bit by bit. -/
def p8 (b : Nat) : Nat := b % 2 + (b / 2 % 2 + (b / 4 % 2 + (b / 8 % 2 + (b / 16 % 2 + (b / 32 % 2 + (b / 64 % 2 + b / 128 % 2))))))
theorem p8_eq {b : Nat} (h : b < 256) : pcn b = p8 b := by
  rw [pcn_all, pcn_all (b / 2), pcn_all (b / 2 / 2), pcn_all (b / 2 / 2 / 2), pcn_all (b / 2 / 2 / 2 / 2), pcn_all (b / 2 / 2 / 2 / 2 / 2), pcn_all (b / 2 / 2 / 2 / 2 / 2 / 2), pcn_all (b / 2 / 2 / 2 / 2 / 2 / 2 / 2), show b / 2 / 2 / 2 / 2 / 2 / 2 / 2 / 2 = 0 by omega, pcn_zero]
  unfold p8
  omega
theorem s_all : ∀ b : Fin 256, sA3 (sA2 (sA1 b.val)) = p8 b.val ∧ p8 b.val ≤ 8 := by decide +kernel
theorem ones_eq (x : Nat) (h : x < 2097152) {x1 x2 x3 : Nat} (e1 : x1 = (x / 2 &&& 6148914691236517205) + (x &&& 6148914691236517205)) (e2 : x2 = (x1 / 4 &&& 3689348814741910323) + (x1 &&& 3689348814741910323)) (e3 : x3 = (x2 / 16 + x2) &&& 1085102592571150095) :
    x1 < 16777216 ∧ x2 < 16777216 ∧ x3 < 16777216 ∧ x / 2 &&& 6148914691236517205 < 16777216 ∧ x &&& 6148914691236517205 < 16777216 ∧ (x1 / 4 &&& 3689348814741910323) < 16777216 ∧ (x1 &&& 3689348814741910323) < 16777216 ∧ (x3 + x3 / 256 + (x3 + x3 / 256) / 65536 + (x3 + x3 / 256 + (x3 + x3 / 256) / 65536) / 4294967296) % 128 = pcn x := by
  obtain ⟨a, ha⟩ : ∃ a, x % 256 = a := ⟨_, rfl⟩
  obtain ⟨b, hb⟩ : ∃ b, x / 256 % 256 = b := ⟨_, rfl⟩
  obtain ⟨c, hc⟩ : ∃ c, x / 65536 = c := ⟨_, rfl⟩
  have hx : x = a + 256 * (b + 256 * c) := by omega
  have l1 := s1_lt ⟨a, by omega⟩
  have l2 := s1_lt ⟨b, by omega⟩
  have l3 := s1_lt ⟨c, by omega⟩
  have m1 := s2_lt ⟨a, by omega⟩
  have m2 := s2_lt ⟨b, by omega⟩
  have m3 := s2_lt ⟨c, by omega⟩
  have q1 := s_all ⟨a, by omega⟩
  have q2 := s_all ⟨b, by omega⟩
  have q3 := s_all ⟨c, by omega⟩
  dsimp only at l1 l2 l3 m1 m2 m3 q1 q2 q3
  have z1 : ∀ M, (0 / 2 &&& M) + (0 &&& M) = 0 := fun M => by simp
  have z2 : ∀ M, (0 / 4 &&& M) + (0 &&& M) = 0 := fun M => by simp
  have z3 : ∀ M, (0 / 16 + 0) &&& M = 0 := fun M => by simp
  have f1 : x1 = sA1 a + 256 * (sA1 b + 256 * sA1 c) := by
    have k1 := land1 24019198012642645 a (b + 256 * c) (by omega)
    have k2 := land1 93824992236885 b c (by omega)
    have k3 := land1 366503875925 c 0 (by omega)
    rw [z1] at k3
    rw [e1, hx]
    simp only [Nat.mul_zero, Nat.add_zero, Nat.reduceMul, Nat.reduceAdd] at k1 k2 k3
    rw [k1, k2, k3]
  have f2 : x2 = sA2 (sA1 a) + 256 * (sA2 (sA1 b) + 256 * sA2 (sA1 c)) := by
    have k1 := land4 14411518807585587 (sA1 a) (sA1 b + 256 * sA1 c) l1
    have k2 := land4 56294995342131 (sA1 b) (sA1 c) l2
    have k3 := land4 219902325555 (sA1 c) 0 l3
    rw [z2] at k3
    rw [e2, f1]
    simp only [Nat.mul_zero, Nat.add_zero, Nat.reduceMul, Nat.reduceAdd] at k1 k2 k3
    rw [k1, k2, k3]
  have f3 : x3 = p8 a + 256 * (p8 b + 256 * p8 c) := by
    have k1 := land16 4238682002231055 (sA2 (sA1 a)) (sA2 (sA1 b) + 256 * sA2 (sA1 c)) m1.1 m1.2 (by omega)
    have k2 := land16 16557351571215 (sA2 (sA1 b)) (sA2 (sA1 c)) m2.1 m2.2 (by omega)
    have k3 := land16 64677154575 (sA2 (sA1 c)) 0 m3.1 m3.2 (by omega)
    rw [z3] at k3
    rw [e3, f2]
    simp only [Nat.mul_zero, Nat.add_zero, Nat.reduceMul, Nat.reduceAdd] at k1 k2 k3
    rw [k1, k2, k3, q1.1, q2.1, q3.1]
  have hp : pcn x = p8 a + (p8 b + p8 c) := by
    have k1 := pcn_split 8 a (b + 256 * c) (by omega)
    have k2 := pcn_split 8 b c (by omega)
    rw [show (2 : Nat) ^ 8 = 256 from rfl] at k1 k2
    rw [hx, k1, k2, p8_eq (by omega), p8_eq (by omega), p8_eq (by omega)]
  have i1 : x / 2 &&& 6148914691236517205 ≤ x / 2 := Nat.and_le_left
  have i2 : x &&& 6148914691236517205 ≤ x := Nat.and_le_left
  have i3 : x1 / 4 &&& 3689348814741910323 ≤ x1 / 4 := Nat.and_le_left
  have i4 : x1 &&& 3689348814741910323 ≤ x1 := Nat.and_le_left
  clear e1 e2 e3 z1 z2 z3
  have g1 : x1 < 16777216 := by rw [f1]; omega
  have g2 : x2 < 16777216 := by rw [f2]; omega
  have g3 : x3 < 16777216 := by rw [f3]; omega
  refine ⟨g1, g2, g3, by omega, by omega, by omega, by omega, ?_⟩
  rw [hp, f3]
  obtain ⟨_, q1⟩ := q1
  obtain ⟨_, q2⟩ := q2
  obtain ⟨_, q3⟩ := q3
  clear f1 f2 f3 g1 g2 g3 hp i1 i2 i3 i4 m1 m2 m3 l1 l2 l3 hx ha hb hc h
  generalize p8 a = p at *
  generalize p8 b = q at *
  generalize p8 c = r at *
  have h4 : p + 256 * (q + 256 * r) + (p + 256 * (q + 256 * r)) / 256 = p + q + 256 * (q + r) + 65536 * r := by omega
  rw [h4, show (p + q + 256 * (q + r) + 65536 * r) / 65536 = r by omega, show (p + q + 256 * (q + r) + 65536 * r + r) / 4294967296 = 0 by omega]
  omega
theorem tz_tab : ∀ t : Fin 21, dbt.getD (2 ^ t.val * 285870213051353865 % 18446744073709551616 / 2 ^ 58) 0 = t.val ∧ 2 ^ t.val * 285870213051353865 % 18446744073709551616 / 2 ^ 58 < 64 := by decide +kernel
section
variable {Q : Exit → Act → World → Prop} {o : Oper} {a : Act} {w : World}
theorem st_negu (x : Operand) (ho : o.op = .unOp .neg 80 x) (n : Nat) (h0 : 1 ≤ n) (h1 : n < 2097152) (hx : a.eval x = .int .u64 (n : Int)) : o.wp Tryd.prog a w (Ends a o.dst w (Fk.eq (.int .u64 ((18446744073709551616 - n : Nat) : Int))).f) Q := by
  refine st_pure (v := .int .u64 ((18446744073709551616 - n : Nat) : Int)) ?_ rfl
  have hw : IntKind.u64.wrap (-(n : Int)) = ((18446744073709551616 - n : Nat) : Int) := by rw [IntKind.wrap_u64]; omega
  unfold execOp
  rw [ho]
  simp [hx, Op.unary, Op.intArith, hw]
theorem st_andu (x y : Operand) (ho : o.op = .binOp .and 80 x y 80) (m n : Nat) (hm : m < 18446744073709551616) (hn : n < 18446744073709551616) (hx : a.eval x = .int .u64 (m : Int)) (hy : a.eval y = .int .u64 (n : Int)) : o.wp Tryd.prog a w (Ends a o.dst w (Fk.eq (.int .u64 ((m &&& n : Nat) : Int))).f) Q := by
  refine st_bin .and 80 80 x y ho hx hy ?_
  have h1 : m &&& n < 2 ^ 64 := Nat.and_lt_two_pow _ (by omega)
  have h2 : m % 2 ^ IntKind.u64.bits = m := Nat.mod_eq_of_lt (by show m < 18446744073709551616; omega)
  have h3 : n % 2 ^ IntKind.u64.bits = n := Nat.mod_eq_of_lt (by show n < 18446744073709551616; omega)
  simp [eqGuard, binOp, Op.intBits, h2, h3]
  rw [IntKind.wrap_u64]
  omega
theorem st_and7 (x y : Operand) (ho : o.op = .binOp .and 3 x y 3) (m : Nat) (hm : m < 4294967296) (hx : a.eval x = .int .i64 (m : Int)) (hy : a.eval y = .int .i64 127) (z : Nat) (hz : m % 128 = z) : o.wp Tryd.prog a w (Ends a o.dst w (Fk.eq (.int .i64 ((z : Nat) : Int))).f) Q := by
  refine st_bin .and 3 3 x y ho hx hy ?_
  have h0 : m &&& 127 = z := by rw [← hz]; exact Nat.and_two_pow_sub_one_eq_mod m 7
  have h2 : (m : Int).toNat % 2 ^ IntKind.i64.bits = m := Nat.mod_eq_of_lt (by show m < 18446744073709551616; omega)
  simp [eqGuard, binOp, Op.intBits]
  have h4 : m % 2 ^ IntKind.i64.bits = m := h2
  have h5 : 127 % 2 ^ IntKind.i64.bits = 127 := by decide
  first | rw [h4, h5, h0, IntKind.wrap_i64] | (simp [h4, h0]; rw [IntKind.wrap_i64])
  omega
theorem st_mulu (x y : Operand) (ho : o.op = .binOp .mul 80 x y 80) (m n : Nat) (hx : a.eval x = .int .u64 (m : Int)) (hy : a.eval y = .int .u64 (n : Int)) : o.wp Tryd.prog a w (Ends a o.dst w (Fk.eq (.int .u64 ((m * n % 18446744073709551616 : Nat) : Int))).f) Q := by
  refine st_bin .mul 80 80 x y ho hx hy ?_
  have hw : IntKind.u64.wrap ((m : Int) * (n : Int)) = ((m * n % 18446744073709551616 : Nat) : Int) := by rw [IntKind.wrap_u64]; simp
  simp [eqGuard, binOp, Op.intArith, hw]
theorem st_addu (x y : Operand) (ho : o.op = .binOp .add 80 x y 80) (m n z : Nat) (hx : a.eval x = .int .u64 (m : Int)) (hy : a.eval y = .int .u64 (n : Int)) (hm : m < 4294967296) (hn : n < 4294967296) (hz : m + n = z) : o.wp Tryd.prog a w (Ends a o.dst w (Fk.eq (.int .u64 ((z : Nat) : Int))).f) Q := by
  refine st_bin .add 80 80 x y ho hx hy ?_
  have hw : IntKind.u64.wrap ((m : Int) + (n : Int)) = ((z : Nat) : Int) := by rw [IntKind.wrap_u64]; omega
  simp [eqGuard, binOp, Op.intArith, hw]
theorem Tryd.und92z : Tryd.prog.underlying 92 = some (.array (Tryd.prog.arrayLen 92) (Tryd.prog.elem 92)) := by kernel_rfl
theorem Tryd.len92z : Tryd.prog.arrayLen 92 = 64 := by kernel_rfl
theorem Tryd.el92z : Tryd.prog.elem 92 = 5 := by kernel_rfl
theorem Tryd.sz5z (w : World) : (sizeOf 5).run Tryd.prog w = .ok 1 w := by kernel_rfl
theorem st_idxg (x y : Operand) (ho : o.op = .indexAddr 92 x y) (i : Nat) (hi : i < 64) (hx : a.eval x = .pointer (some ⟨1, 0, none⟩)) (hy : a.eval y = .int .u64 (i : Int)) : o.wp Tryd.prog a w (Ends a o.dst w (Fk.eq (.pointer (some ⟨1, i, none⟩))).f) Q := by
  refine st_pure (v := .pointer (some ⟨1, i, none⟩)) ?_ rfl
  have h1 := run_indexAt_array (P := Tryd.prog) (w := w) 92 ⟨1, 0, none⟩ .u64 (i : Int) Tryd.und92z
  rw [Tryd.len92z, if_pos (by omega), Tryd.el92z, Tryd.sz5z] at h1
  simp only [Result.andThen_ok, Int.toNat_natCast, Addr.add_mid, Nat.mul_one, Nat.zero_add] at h1
  unfold execOp
  rw [ho]
  simp [hx, hy, h1]
end
theorem tz64_any (n : Nat) (h1 : n + 1 < 2097152) {t : Nat} (ht : tro n = t) (w : World) (hz : Tab w) :
    Calls Tryd.prog 58 #[.int .u64 ((n + 1 : Nat) : Int)] w fun e w' => e = .returned (.int .i64 ((t : Nat) : Int)) ∧ Below w.heap.size w w' := by
  have hlo : (n + 1) &&& (18446744073709551616 - (n + 1)) = 2 ^ t := by rw [← ht]; exact land_low n 64 (by omega)
  have htl : t < 21 := by
    rcases Nat.lt_or_ge t 21 with h | h
    · exact h
    · have h2 : (n + 1) &&& (18446744073709551616 - (n + 1)) ≤ n + 1 := Nat.and_le_left
      have h3 : 2 ^ 21 ≤ 2 ^ t := Nat.pow_le_pow_right (by omega) h
      omega
  obtain ⟨e1, e2⟩ := tz_tab ⟨t, htl⟩
  dsimp only at e1 e2
  go_enter Tryd.func58, Tryd.ntmps58
  refine code_both (fun f w1 => f.tmps.size = 14 ∧ f.defers = [] ∧ f.eval (.tmp 0) = .int .u64 ((n + 1 : Nat) : Int) ∧ Below w.heap.size w (w1)) ⟨rfl, rfl, rfl, Below.refl _ _⟩ ?_
  rintro f0 w0 ⟨sz, df, x0, bl⟩
  have bl0 := bl
  refine wp_seq ?_
  refine wp_all_seq [.eq (.int .i64 0)] (by kernel_rfl) (by kernel_rfl) (by rw [sz]; kernel_rfl) (by kernel_rfl) ⟨fun hw ac u K => ?_, trivial⟩ ?_
  · exact st_assign (.const (.int .i64 0)) rfl rfl
  intro f1 w1 A hb
  replace bl0 := bl
  replace x0 := (A.old 0 rfl).trans x0
  have x2 : f1.eval (.tmp 2) = .int .i64 0 := A.has 0 2 rfl
  replace bl := (bl.trans (Below.mono hb bl.size))
  replace sz := A.size.trans sz
  replace df := A.defs.trans df
  clear A hb
  show Code.wp _ _ _ _ _
  refine wp_seq ?_
  refine wp_seq ?_
  refine wp_all_seq [.eq (.int .u64 ((n + 1 : Nat) : Int)), .eq (.bool false)] (by kernel_rfl) (by kernel_rfl) (by rw [sz]; kernel_rfl) (by kernel_rfl) ⟨fun hw ac u K => ?_, fun hw ac u K => ?_, trivial⟩ ?_
  · exact st_move (.tmp 0) rfl ((K.old 0 rfl).trans x0)
  · exact st_eqi 80 (.tmp 3) (.const (.int .u64 0)) rfl .u64 _ _ (K.dep 0 3 rfl) rfl _ (by rw [eq_comm, decide_eq_false_iff_not]; omega)
  intro f2 w2 A hb
  replace bl0 := bl
  replace x0 := (A.old 0 rfl).trans x0
  replace x2 := (A.old 2 rfl).trans x2
  have x4 : f2.eval (.tmp 4) = .bool false := A.has 1 4 rfl
  replace bl := (bl.trans (Below.mono hb bl.size))
  replace sz := A.size.trans sz
  replace df := A.defs.trans df
  clear A hb
  show Code.wp _ _ _ _ _
  refine wp_cond_false x4 ?_
  refine wp_skip ?_
  show Code.wp _ _ _ _ _
  refine wp_seq ?_
  refine wp_all_seq [.eq (.int .u64 ((n + 1 : Nat) : Int)), .eq (.int .u64 ((n + 1 : Nat) : Int)), .eq (.int .u64 ((18446744073709551616 - (n + 1) : Nat) : Int)), .eq (.int .u64 ((2 ^ t : Nat) : Int)), .eq (.int .u64 ((2 ^ t * 285870213051353865 % 18446744073709551616 : Nat) : Int)), .eq (.int .u64 ((2 ^ t * 285870213051353865 % 18446744073709551616 / 2 ^ 58 : Nat) : Int)), .eq (.pointer (some ⟨1, 2 ^ t * 285870213051353865 % 18446744073709551616 / 2 ^ 58, none⟩)), .eq (.int .u8 ((t : Nat) : Int)), .eq (.int .i64 ((t : Nat) : Int)), .eq (.int .i64 ((t : Nat) : Int))] (by kernel_rfl) (by kernel_rfl) (by rw [sz]; kernel_rfl) (by kernel_rfl) ⟨fun hw ac u K => ?_, fun hw ac u K => ?_, fun hw ac u K => ?_, fun hw ac u K => ?_, fun hw ac u K => ?_, fun hw ac u K => ?_, fun hw ac u K => ?_, fun hw ac u K => ?_, fun hw ac u K => ?_, fun hw ac u K => ?_, trivial⟩ ?_
  · exact st_move (.tmp 0) rfl ((K.old 0 rfl).trans x0)
  · exact st_move (.tmp 0) rfl ((K.old 0 rfl).trans x0)
  · exact st_negu (.tmp 6) rfl (n + 1) (by omega) h1 (K.dep 1 6 rfl)
  · exact by rw [← hlo]; exact st_andu (.tmp 5) (.tmp 7) rfl (n + 1) _ (by omega) (by omega) (K.dep 0 5 rfl) (K.dep 2 7 rfl)
  · exact st_mulu (.tmp 8) (.const (.int .u64 285870213051353865)) rfl (2 ^ t) _ (K.dep 3 8 rfl) rfl
  · exact st_shru 80 72 (.tmp 9) (.const (.int .u64 58)) rfl (2 ^ t * 285870213051353865 % 18446744073709551616) 58 (K.dep 4 9 rfl) rfl _ rfl (by decide)
  · exact st_idxg (.global 1) (.tmp 10) rfl _ e2 rfl (K.dep 5 10 rfl)
  · exact by rw [← e1]; exact st_loadc 5 (.tmp 11) rfl (by kernel_rfl) (K.dep 6 11 rfl) ((hz.below (bl.trans (Below.mono K.grow bl.size))).Z _ e2)
  · exact st_conv 5 3 (.tmp 12) rfl .u8 .i64 _ _ (K.dep 7 12 rfl) Tryd.under5 Tryd.under3 (by rw [IntKind.wrap_i64]; omega)
  · exact st_assign (.tmp 13) rfl (K.dep 8 13 rfl)
  intro f3 w3 A hb
  replace bl0 := bl
  replace x0 := (A.old 0 rfl).trans x0
  clear x2
  replace x4 := (A.old 4 rfl).trans x4
  have x2 : f3.eval (.tmp 2) = .int .i64 ((t : Nat) : Int) := A.has 9 2 rfl
  replace bl := (bl.trans (Below.mono hb bl.size))
  replace sz := A.size.trans sz
  replace df := A.defs.trans df
  clear A hb
  show Code.wp _ _ _ _ _
  refine wp_ret ?_
  repeat (first | with_reducible refine then_ret ?_ | with_reducible refine block_ret ?_)
  exact bodyPost_ret (v := .int .i64 ((t : Nat) : Int)) (ret_slot rfl f3 _ x2 _ _) df ⟨rfl, bl⟩
theorem tz_any (n : Nat) (h1 : n + 1 < 2097152) {t : Nat} (ht : tro n = t) (w : World) (hK : Tab w) :
    Calls Tryd.prog 41 #[.int .u64 ((n + 1 : Nat) : Int)] w fun e w' => e = .returned (.int .i64 ((t : Nat) : Int)) ∧ Below w.heap.size w w' := by
  go_enter Tryd.func41, Tryd.ntmps41
  refine code_both (fun f w1 => f.tmps.size = 8 ∧ f.defers = [] ∧ f.eval (.tmp 0) = .int .u64 ((n + 1 : Nat) : Int) ∧ Below w.heap.size w (w1)) ⟨rfl, rfl, rfl, Below.refl _ _⟩ ?_
  rintro f0 w0 ⟨sz, df, x0, bl⟩
  have bl0 := bl
  refine wp_seq ?_
  refine wp_all_seq [.eq (.int .i64 0)] (by kernel_rfl) (by kernel_rfl) (by rw [sz]; kernel_rfl) (by kernel_rfl) ⟨fun hw ac u K => ?_, trivial⟩ ?_
  · exact st_assign (.const (.int .i64 0)) rfl rfl
  intro f1 w1 A hb
  replace bl0 := bl
  replace x0 := (A.old 0 rfl).trans x0
  have x2 : f1.eval (.tmp 2) = .int .i64 0 := A.has 0 2 rfl
  replace bl := (bl.trans (Below.mono hb bl.size))
  replace sz := A.size.trans sz
  replace df := A.defs.trans df
  clear A hb
  show Code.wp _ _ _ _ _
  refine wp_seq ?_
  refine wp_cond_false rfl ?_
  refine wp_skip ?_
  show Code.wp _ _ _ _ _
  refine wp_seq ?_
  refine wp_all_seq [.eq (.int .u64 ((n + 1 : Nat) : Int)), .eq (.int .i64 ((t : Nat) : Int)), .eq (.int .i64 ((t : Nat) : Int))] (by kernel_rfl) (by kernel_rfl) (by rw [sz]; kernel_rfl) (by kernel_rfl) ⟨fun hw ac u K => ?_, fun hw ac u K => ?_, fun hw ac u K => ?_, trivial⟩ ?_
  · exact st_move (.tmp 0) rfl ((K.old 0 rfl).trans x0)
  · exact st_call 58 (.func 58) _ _ #[.int .u64 ((n + 1 : Nat) : Int)] rfl rfl (one_arg (K.dep 0 6 rfl)) Tryd.enter58 (fk_of (tz64_any n h1 ht _ (hK.below (bl.trans (Below.mono K.grow bl.size)))))
  · exact st_assign (.tmp 7) rfl (K.dep 1 7 rfl)
  intro f2 w2 A hb
  replace bl0 := bl
  replace x0 := (A.old 0 rfl).trans x0
  clear x2
  have x2 : f2.eval (.tmp 2) = .int .i64 ((t : Nat) : Int) := A.has 2 2 rfl
  replace bl := (bl.trans (Below.mono hb bl.size))
  replace sz := A.size.trans sz
  replace df := A.defs.trans df
  clear A hb
  show Code.wp _ _ _ _ _
  refine wp_ret ?_
  repeat (first | with_reducible refine then_ret ?_ | with_reducible refine block_ret ?_)
  exact bodyPost_ret (v := .int .i64 ((t : Nat) : Int)) (ret_slot rfl f2 _ x2 _ _) df ⟨rfl, bl⟩
theorem ones64_any (x : Nat) (hx : x < 2097152) {p : Nat} (hp : pcn x = p) (w : World) :
    Calls Tryd.prog 66 #[.int .u64 ((x : Nat) : Int)] w fun e w' => e = .returned (.int .i64 ((p : Nat) : Int)) ∧ Below w.heap.size w w' := by
  obtain ⟨q1, e1⟩ : ∃ k, k = (x / 2 &&& 6148914691236517205) + (x &&& 6148914691236517205) := ⟨_, rfl⟩
  obtain ⟨q2, e2⟩ : ∃ k, k = (q1 / 4 &&& 3689348814741910323) + (q1 &&& 3689348814741910323) := ⟨_, rfl⟩
  obtain ⟨q3, e3⟩ : ∃ k, k = (q2 / 16 + q2) &&& 1085102592571150095 := ⟨_, rfl⟩
  obtain ⟨q4, e4⟩ : ∃ k, k = q3 + q3 / 256 := ⟨_, rfl⟩
  obtain ⟨q5, e5⟩ : ∃ k, k = q4 + q4 / 65536 := ⟨_, rfl⟩
  obtain ⟨q6, e6⟩ : ∃ k, k = q5 + q5 / 4294967296 := ⟨_, rfl⟩
  obtain ⟨g1, g2, g3, g4, g5, g6, g7, he⟩ := ones_eq x hx e1 e2 e3
  rw [← e4, ← e5, ← e6, hp] at he
  go_enter Tryd.func66, Tryd.ntmps66
  refine code_both (fun f w1 => f.tmps.size = 35 ∧ f.defers = [] ∧ f.eval (.tmp 0) = .int .u64 ((x : Nat) : Int) ∧ Below w.heap.size w (w1)) ⟨rfl, rfl, rfl, Below.refl _ _⟩ ?_
  rintro f0 w0 ⟨sz, df, x0, bl⟩
  have bl0 := bl
  refine wp_seq ?_
  refine wp_all_seq [.eq (.int .i64 0)] (by kernel_rfl) (by kernel_rfl) (by rw [sz]; kernel_rfl) (by kernel_rfl) ⟨fun hw ac u K => ?_, trivial⟩ ?_
  · exact st_assign (.const (.int .i64 0)) rfl rfl
  intro f1 w1 A hb
  replace bl0 := bl
  replace x0 := (A.old 0 rfl).trans x0
  have x2 : f1.eval (.tmp 2) = .int .i64 0 := A.has 0 2 rfl
  replace bl := (bl.trans (Below.mono hb bl.size))
  replace sz := A.size.trans sz
  replace df := A.defs.trans df
  clear A hb
  show Code.wp _ _ _ _ _
  refine wp_seq ?_
  refine wp_region_seq [.eq (.int .u64 ((x : Nat) : Int)), .eq (.int .u64 ((x / 2 : Nat) : Int)), .eq (.int .u64 ((x / 2 &&& 6148914691236517205 : Nat) : Int)), .eq (.int .u64 ((x : Nat) : Int)), .eq (.int .u64 ((x &&& 6148914691236517205 : Nat) : Int)), .eq (.int .u64 ((q1 : Nat) : Int))] (by kernel_rfl) (by kernel_rfl) (by rw [sz]; kernel_rfl) (by kernel_rfl) ⟨fun hw ac u K => ?_, fun hw ac u K => ?_, fun hw ac u K => ?_, fun hw ac u K => ?_, fun hw ac u K => ?_, fun hw ac u K => ?_, trivial⟩ ?_
  · exact st_move (.tmp 0) rfl ((K.old 0 rfl).trans x0)
  · exact st_shru 80 72 (.tmp 3) (.const (.int .u64 1)) rfl (x) 1 (K.dep 0 3 rfl) rfl (x / 2) rfl (by decide)
  · exact st_andu (.tmp 4) (.const (.int .u64 6148914691236517205)) rfl (x / 2) 6148914691236517205 (by omega) (by decide) (K.dep 1 4 rfl) rfl
  · exact st_move (.tmp 0) rfl ((K.old 0 rfl).trans x0)
  · exact st_andu (.tmp 6) (.const (.int .u64 6148914691236517205)) rfl (x) 6148914691236517205 (by omega) (by decide) (K.dep 3 6 rfl) rfl
  · exact st_addu (.tmp 5) (.tmp 7) rfl (x / 2 &&& 6148914691236517205) (x &&& 6148914691236517205) (q1) (K.dep 2 5 rfl) (K.dep 4 7 rfl) (by omega) (by omega) (by omega)
  intro f2 w2 A hb
  replace bl0 := bl
  replace x0 := (A.old 0 rfl).trans x0
  replace x2 := (A.old 2 rfl).trans x2
  have x8 : f2.eval (.tmp 8) = .int .u64 ((q1 : Nat) : Int) := A.has 5 8 rfl
  replace bl := (bl.trans (Below.mono hb bl.size))
  replace sz := A.size.trans sz
  replace df := A.defs.trans df
  clear A hb
  refine wl_one (.eq (.int .u64 ((q1 : Nat) : Int))) rfl 0 rfl (by rw [sz]; decide) (st_assign (.tmp 8) rfl x8) ?_
  intro f3 w3 df2 sz2 old2 new2 hb
  replace bl0 := bl
  clear x0
  replace x2 := (old2 2 rfl).trans x2
  replace x8 := (old2 8 rfl).trans x8
  have x0 : f3.eval (.tmp 0) = .int .u64 ((q1 : Nat) : Int) := new2
  replace bl := (bl.trans (Below.mono hb bl.size))
  replace sz := sz2.trans sz
  replace df := df2.trans df
  clear df2 sz2 old2 new2 hb
  refine wpList_nil ?_
  clear x8
  show Code.wp _ _ _ _ _
  refine wp_seq ?_
  refine wp_region_seq [.eq (.int .u64 ((q1 : Nat) : Int)), .eq (.int .u64 ((q1 / 4 : Nat) : Int)), .eq (.int .u64 ((q1 / 4 &&& 3689348814741910323 : Nat) : Int)), .eq (.int .u64 ((q1 : Nat) : Int)), .eq (.int .u64 ((q1 &&& 3689348814741910323 : Nat) : Int)), .eq (.int .u64 ((q2 : Nat) : Int))] (by kernel_rfl) (by kernel_rfl) (by rw [sz]; kernel_rfl) (by kernel_rfl) ⟨fun hw ac u K => ?_, fun hw ac u K => ?_, fun hw ac u K => ?_, fun hw ac u K => ?_, fun hw ac u K => ?_, fun hw ac u K => ?_, trivial⟩ ?_
  · exact st_move (.tmp 0) rfl ((K.old 0 rfl).trans x0)
  · exact st_shru 80 72 (.tmp 9) (.const (.int .u64 2)) rfl (q1) 2 (K.dep 0 9 rfl) rfl (q1 / 4) rfl (by decide)
  · exact st_andu (.tmp 10) (.const (.int .u64 3689348814741910323)) rfl (q1 / 4) 3689348814741910323 (by omega) (by decide) (K.dep 1 10 rfl) rfl
  · exact st_move (.tmp 0) rfl ((K.old 0 rfl).trans x0)
  · exact st_andu (.tmp 12) (.const (.int .u64 3689348814741910323)) rfl (q1) 3689348814741910323 (by omega) (by decide) (K.dep 3 12 rfl) rfl
  · exact st_addu (.tmp 11) (.tmp 13) rfl (q1 / 4 &&& 3689348814741910323) (q1 &&& 3689348814741910323) (q2) (K.dep 2 11 rfl) (K.dep 4 13 rfl) (by omega) (by omega) (by omega)
  intro f4 w4 A hb
  replace bl0 := bl
  replace x2 := (A.old 2 rfl).trans x2
  replace x0 := (A.old 0 rfl).trans x0
  have x14 : f4.eval (.tmp 14) = .int .u64 ((q2 : Nat) : Int) := A.has 5 14 rfl
  replace bl := (bl.trans (Below.mono hb bl.size))
  replace sz := A.size.trans sz
  replace df := A.defs.trans df
  clear A hb
  refine wl_one (.eq (.int .u64 ((q2 : Nat) : Int))) rfl 0 rfl (by rw [sz]; decide) (st_assign (.tmp 14) rfl x14) ?_
  intro f5 w5 df2 sz2 old2 new2 hb
  replace bl0 := bl
  replace x2 := (old2 2 rfl).trans x2
  clear x0
  replace x14 := (old2 14 rfl).trans x14
  have x0 : f5.eval (.tmp 0) = .int .u64 ((q2 : Nat) : Int) := new2
  replace bl := (bl.trans (Below.mono hb bl.size))
  replace sz := sz2.trans sz
  replace df := df2.trans df
  clear df2 sz2 old2 new2 hb
  refine wpList_nil ?_
  clear x14
  show Code.wp _ _ _ _ _
  refine wp_seq ?_
  refine wp_region_seq [.eq (.int .u64 ((q2 : Nat) : Int)), .eq (.int .u64 ((q2 / 16 : Nat) : Int)), .eq (.int .u64 ((q2 : Nat) : Int)), .eq (.int .u64 ((q2 / 16 + q2 : Nat) : Int)), .eq (.int .u64 ((q3 : Nat) : Int))] (by kernel_rfl) (by kernel_rfl) (by rw [sz]; kernel_rfl) (by kernel_rfl) ⟨fun hw ac u K => ?_, fun hw ac u K => ?_, fun hw ac u K => ?_, fun hw ac u K => ?_, fun hw ac u K => ?_, trivial⟩ ?_
  · exact st_move (.tmp 0) rfl ((K.old 0 rfl).trans x0)
  · exact st_shru 80 72 (.tmp 15) (.const (.int .u64 4)) rfl (q2) 4 (K.dep 0 15 rfl) rfl (q2 / 16) rfl (by decide)
  · exact st_move (.tmp 0) rfl ((K.old 0 rfl).trans x0)
  · exact st_addu (.tmp 16) (.tmp 17) rfl (q2 / 16) (q2) (q2 / 16 + q2) (K.dep 1 16 rfl) (K.dep 2 17 rfl) (by omega) (by omega) (by omega)
  · exact by rw [e3]; exact st_andu (.tmp 18) (.const (.int .u64 1085102592571150095)) rfl (q2 / 16 + q2) 1085102592571150095 (by omega) (by decide) (K.dep 3 18 rfl) rfl
  intro f6 w6 A hb
  replace bl0 := bl
  replace x2 := (A.old 2 rfl).trans x2
  replace x0 := (A.old 0 rfl).trans x0
  have x19 : f6.eval (.tmp 19) = .int .u64 ((q3 : Nat) : Int) := A.has 4 19 rfl
  replace bl := (bl.trans (Below.mono hb bl.size))
  replace sz := A.size.trans sz
  replace df := A.defs.trans df
  clear A hb
  refine wl_one (.eq (.int .u64 ((q3 : Nat) : Int))) rfl 0 rfl (by rw [sz]; decide) (st_assign (.tmp 19) rfl x19) ?_
  intro f7 w7 df2 sz2 old2 new2 hb
  replace bl0 := bl
  replace x2 := (old2 2 rfl).trans x2
  clear x0
  replace x19 := (old2 19 rfl).trans x19
  have x0 : f7.eval (.tmp 0) = .int .u64 ((q3 : Nat) : Int) := new2
  replace bl := (bl.trans (Below.mono hb bl.size))
  replace sz := sz2.trans sz
  replace df := df2.trans df
  clear df2 sz2 old2 new2 hb
  refine wpList_nil ?_
  clear x19
  show Code.wp _ _ _ _ _
  refine wp_seq ?_
  refine wp_region_seq [.eq (.int .u64 ((q3 : Nat) : Int)), .eq (.int .u64 ((q3 : Nat) : Int)), .eq (.int .u64 ((q3 / 256 : Nat) : Int)), .eq (.int .u64 ((q4 : Nat) : Int))] (by kernel_rfl) (by kernel_rfl) (by rw [sz]; kernel_rfl) (by kernel_rfl) ⟨fun hw ac u K => ?_, fun hw ac u K => ?_, fun hw ac u K => ?_, fun hw ac u K => ?_, trivial⟩ ?_
  · exact st_move (.tmp 0) rfl ((K.old 0 rfl).trans x0)
  · exact st_move (.tmp 0) rfl ((K.old 0 rfl).trans x0)
  · exact st_shru 80 72 (.tmp 21) (.const (.int .u64 8)) rfl (q3) 8 (K.dep 1 21 rfl) rfl (q3 / 256) rfl (by decide)
  · exact st_addu (.tmp 20) (.tmp 22) rfl (q3) (q3 / 256) (q4) (K.dep 0 20 rfl) (K.dep 2 22 rfl) (by omega) (by omega) (by omega)
  intro f8 w8 A hb
  replace bl0 := bl
  replace x2 := (A.old 2 rfl).trans x2
  replace x0 := (A.old 0 rfl).trans x0
  have x23 : f8.eval (.tmp 23) = .int .u64 ((q4 : Nat) : Int) := A.has 3 23 rfl
  replace bl := (bl.trans (Below.mono hb bl.size))
  replace sz := A.size.trans sz
  replace df := A.defs.trans df
  clear A hb
  refine wl_one (.eq (.int .u64 ((q4 : Nat) : Int))) rfl 0 rfl (by rw [sz]; decide) (st_assign (.tmp 23) rfl x23) ?_
  intro f9 w9 df2 sz2 old2 new2 hb
  replace bl0 := bl
  replace x2 := (old2 2 rfl).trans x2
  clear x0
  replace x23 := (old2 23 rfl).trans x23
  have x0 : f9.eval (.tmp 0) = .int .u64 ((q4 : Nat) : Int) := new2
  replace bl := (bl.trans (Below.mono hb bl.size))
  replace sz := sz2.trans sz
  replace df := df2.trans df
  clear df2 sz2 old2 new2 hb
  refine wpList_nil ?_
  clear x23
  show Code.wp _ _ _ _ _
  refine wp_seq ?_
  refine wp_region_seq [.eq (.int .u64 ((q4 : Nat) : Int)), .eq (.int .u64 ((q4 : Nat) : Int)), .eq (.int .u64 ((q4 / 65536 : Nat) : Int)), .eq (.int .u64 ((q5 : Nat) : Int))] (by kernel_rfl) (by kernel_rfl) (by rw [sz]; kernel_rfl) (by kernel_rfl) ⟨fun hw ac u K => ?_, fun hw ac u K => ?_, fun hw ac u K => ?_, fun hw ac u K => ?_, trivial⟩ ?_
  · exact st_move (.tmp 0) rfl ((K.old 0 rfl).trans x0)
  · exact st_move (.tmp 0) rfl ((K.old 0 rfl).trans x0)
  · exact st_shru 80 72 (.tmp 25) (.const (.int .u64 16)) rfl (q4) 16 (K.dep 1 25 rfl) rfl (q4 / 65536) rfl (by decide)
  · exact st_addu (.tmp 24) (.tmp 26) rfl (q4) (q4 / 65536) (q5) (K.dep 0 24 rfl) (K.dep 2 26 rfl) (by omega) (by omega) (by omega)
  intro f10 w10 A hb
  replace bl0 := bl
  replace x2 := (A.old 2 rfl).trans x2
  replace x0 := (A.old 0 rfl).trans x0
  have x27 : f10.eval (.tmp 27) = .int .u64 ((q5 : Nat) : Int) := A.has 3 27 rfl
  replace bl := (bl.trans (Below.mono hb bl.size))
  replace sz := A.size.trans sz
  replace df := A.defs.trans df
  clear A hb
  refine wl_one (.eq (.int .u64 ((q5 : Nat) : Int))) rfl 0 rfl (by rw [sz]; decide) (st_assign (.tmp 27) rfl x27) ?_
  intro f11 w11 df2 sz2 old2 new2 hb
  replace bl0 := bl
  replace x2 := (old2 2 rfl).trans x2
  clear x0
  replace x27 := (old2 27 rfl).trans x27
  have x0 : f11.eval (.tmp 0) = .int .u64 ((q5 : Nat) : Int) := new2
  replace bl := (bl.trans (Below.mono hb bl.size))
  replace sz := sz2.trans sz
  replace df := df2.trans df
  clear df2 sz2 old2 new2 hb
  refine wpList_nil ?_
  clear x27
  show Code.wp _ _ _ _ _
  refine wp_seq ?_
  refine wp_region_seq [.eq (.int .u64 ((q5 : Nat) : Int)), .eq (.int .u64 ((q5 : Nat) : Int)), .eq (.int .u64 ((q5 / 4294967296 : Nat) : Int)), .eq (.int .u64 ((q6 : Nat) : Int))] (by kernel_rfl) (by kernel_rfl) (by rw [sz]; kernel_rfl) (by kernel_rfl) ⟨fun hw ac u K => ?_, fun hw ac u K => ?_, fun hw ac u K => ?_, fun hw ac u K => ?_, trivial⟩ ?_
  · exact st_move (.tmp 0) rfl ((K.old 0 rfl).trans x0)
  · exact st_move (.tmp 0) rfl ((K.old 0 rfl).trans x0)
  · exact st_shru 80 72 (.tmp 29) (.const (.int .u64 32)) rfl (q5) 32 (K.dep 1 29 rfl) rfl (q5 / 4294967296) rfl (by decide)
  · exact st_addu (.tmp 28) (.tmp 30) rfl (q5) (q5 / 4294967296) (q6) (K.dep 0 28 rfl) (K.dep 2 30 rfl) (by omega) (by omega) (by omega)
  intro f12 w12 A hb
  replace bl0 := bl
  replace x2 := (A.old 2 rfl).trans x2
  replace x0 := (A.old 0 rfl).trans x0
  have x31 : f12.eval (.tmp 31) = .int .u64 ((q6 : Nat) : Int) := A.has 3 31 rfl
  replace bl := (bl.trans (Below.mono hb bl.size))
  replace sz := A.size.trans sz
  replace df := A.defs.trans df
  clear A hb
  refine wl_one (.eq (.int .u64 ((q6 : Nat) : Int))) rfl 0 rfl (by rw [sz]; decide) (st_assign (.tmp 31) rfl x31) ?_
  intro f13 w13 df2 sz2 old2 new2 hb
  replace bl0 := bl
  replace x2 := (old2 2 rfl).trans x2
  clear x0
  replace x31 := (old2 31 rfl).trans x31
  have x0 : f13.eval (.tmp 0) = .int .u64 ((q6 : Nat) : Int) := new2
  replace bl := (bl.trans (Below.mono hb bl.size))
  replace sz := sz2.trans sz
  replace df := df2.trans df
  clear df2 sz2 old2 new2 hb
  refine wpList_nil ?_
  clear x31
  show Code.wp _ _ _ _ _
  refine wp_seq ?_
  refine wp_all_seq [.eq (.int .u64 ((q6 : Nat) : Int)), .eq (.int .i64 ((q6 : Nat) : Int)), .eq (.int .i64 ((p : Nat) : Int)), .eq (.int .i64 ((p : Nat) : Int))] (by kernel_rfl) (by kernel_rfl) (by rw [sz]; kernel_rfl) (by kernel_rfl) ⟨fun hw ac u K => ?_, fun hw ac u K => ?_, fun hw ac u K => ?_, fun hw ac u K => ?_, trivial⟩ ?_
  · exact st_move (.tmp 0) rfl ((K.old 0 rfl).trans x0)
  · exact st_conv 80 3 (.tmp 32) rfl .u64 .i64 _ _ (K.dep 0 32 rfl) Tryd.under80 Tryd.under3 (by rw [IntKind.wrap_i64]; omega)
  · exact st_and7 (.tmp 33) (.const (.int .i64 127)) rfl (q6) (by omega) (K.dep 1 33 rfl) rfl _ he
  · exact st_assign (.tmp 34) rfl (K.dep 2 34 rfl)
  intro f14 w14 A hb
  replace bl0 := bl
  clear x2
  replace x0 := (A.old 0 rfl).trans x0
  have x2 : f14.eval (.tmp 2) = .int .i64 ((p : Nat) : Int) := A.has 3 2 rfl
  replace bl := (bl.trans (Below.mono hb bl.size))
  replace sz := A.size.trans sz
  replace df := A.defs.trans df
  clear A hb
  show Code.wp _ _ _ _ _
  refine wp_ret ?_
  repeat (first | with_reducible refine then_ret ?_ | with_reducible refine block_ret ?_)
  exact bodyPost_ret (v := .int .i64 ((p : Nat) : Int)) (ret_slot rfl f14 _ x2 _ _) df ⟨rfl, bl⟩
theorem ones_any (x : Nat) (hx : x < 2097152) {p : Nat} (hp : pcn x = p) (w : World) :
    Calls Tryd.prog 53 #[.int .u64 ((x : Nat) : Int)] w fun e w' => e = .returned (.int .i64 ((p : Nat) : Int)) ∧ Below w.heap.size w w' := by
  go_enter Tryd.func53, Tryd.ntmps53
  refine code_both (fun f w1 => f.tmps.size = 8 ∧ f.defers = [] ∧ f.eval (.tmp 0) = .int .u64 ((x : Nat) : Int) ∧ Below w.heap.size w (w1)) ⟨rfl, rfl, rfl, Below.refl _ _⟩ ?_
  rintro f0 w0 ⟨sz, df, x0, bl⟩
  have bl0 := bl
  refine wp_seq ?_
  refine wp_all_seq [.eq (.int .i64 0)] (by kernel_rfl) (by kernel_rfl) (by rw [sz]; kernel_rfl) (by kernel_rfl) ⟨fun hw ac u K => ?_, trivial⟩ ?_
  · exact st_assign (.const (.int .i64 0)) rfl rfl
  intro f1 w1 A hb
  replace bl0 := bl
  replace x0 := (A.old 0 rfl).trans x0
  have x2 : f1.eval (.tmp 2) = .int .i64 0 := A.has 0 2 rfl
  replace bl := (bl.trans (Below.mono hb bl.size))
  replace sz := A.size.trans sz
  replace df := A.defs.trans df
  clear A hb
  show Code.wp _ _ _ _ _
  refine wp_seq ?_
  refine wp_cond_false rfl ?_
  refine wp_skip ?_
  show Code.wp _ _ _ _ _
  refine wp_seq ?_
  refine wp_all_seq [.eq (.int .u64 ((x : Nat) : Int)), .eq (.int .i64 ((p : Nat) : Int)), .eq (.int .i64 ((p : Nat) : Int))] (by kernel_rfl) (by kernel_rfl) (by rw [sz]; kernel_rfl) (by kernel_rfl) ⟨fun hw ac u K => ?_, fun hw ac u K => ?_, fun hw ac u K => ?_, trivial⟩ ?_
  · exact st_move (.tmp 0) rfl ((K.old 0 rfl).trans x0)
  · exact st_call 66 (.func 66) _ _ #[.int .u64 ((x : Nat) : Int)] rfl rfl (one_arg (K.dep 0 6 rfl)) Tryd.enter66 (fk_of (ones64_any x hx hp _))
  · exact st_assign (.tmp 7) rfl (K.dep 1 7 rfl)
  intro f2 w2 A hb
  replace bl0 := bl
  replace x0 := (A.old 0 rfl).trans x0
  clear x2
  have x2 : f2.eval (.tmp 2) = .int .i64 ((p : Nat) : Int) := A.has 2 2 rfl
  replace bl := (bl.trans (Below.mono hb bl.size))
  replace sz := A.size.trans sz
  replace df := A.defs.trans df
  clear A hb
  show Code.wp _ _ _ _ _
  refine wp_ret ?_
  repeat (first | with_reducible refine then_ret ?_ | with_reducible refine block_ret ?_)
  exact bodyPost_ret (v := .int .i64 ((p : Nat) : Int)) (ret_slot rfl f2 _ x2 _ _) df ⟨rfl, bl⟩
theorem peaksOf_any (x : Nat) (hx : x < 2097152) {p : Nat} (hp : pcn x = p) (w : World) :
    Calls Tryd.prog 36 #[.int .i64 ((x : Nat) : Int)] w fun e w' => e = .returned (.int .i64 ((p : Nat) : Int)) ∧ Below w.heap.size w w' := by
  go_enter Tryd.func36, Tryd.ntmps36
  refine code_both (fun f w1 => f.tmps.size = 6 ∧ f.defers = [] ∧ f.eval (.tmp 0) = .int .i64 ((x : Nat) : Int) ∧ Below w.heap.size w (w1)) ⟨rfl, rfl, rfl, Below.refl _ _⟩ ?_
  rintro f0 w0 ⟨sz, df, x0, bl⟩
  have bl0 := bl
  refine wp_seq ?_
  refine wp_all_seq [.eq (.int .i64 0)] (by kernel_rfl) (by kernel_rfl) (by rw [sz]; kernel_rfl) (by kernel_rfl) ⟨fun hw ac u K => ?_, trivial⟩ ?_
  · exact st_assign (.const (.int .i64 0)) rfl rfl
  intro f1 w1 A hb
  replace bl0 := bl
  replace x0 := (A.old 0 rfl).trans x0
  have x2 : f1.eval (.tmp 2) = .int .i64 0 := A.has 0 2 rfl
  replace bl := (bl.trans (Below.mono hb bl.size))
  replace sz := A.size.trans sz
  replace df := A.defs.trans df
  clear A hb
  show Code.wp _ _ _ _ _
  refine wp_seq ?_
  refine wp_all_seq [.eq (.int .i64 ((x : Nat) : Int)), .eq (.int .u64 ((x : Nat) : Int)), .eq (.int .i64 ((p : Nat) : Int)), .eq (.int .i64 ((p : Nat) : Int))] (by kernel_rfl) (by kernel_rfl) (by rw [sz]; kernel_rfl) (by kernel_rfl) ⟨fun hw ac u K => ?_, fun hw ac u K => ?_, fun hw ac u K => ?_, fun hw ac u K => ?_, trivial⟩ ?_
  · exact st_move (.tmp 0) rfl ((K.old 0 rfl).trans x0)
  · exact st_conv 3 72 (.tmp 3) rfl .i64 .u64 _ _ (K.dep 0 3 rfl) Tryd.under3 Tryd.under72 (by rw [IntKind.wrap_u64]; omega)
  · exact st_call 53 (.func 53) _ _ #[.int .u64 ((x : Nat) : Int)] rfl rfl (one_arg (K.dep 1 4 rfl)) Tryd.enter53 (fk_of (ones_any x hx hp _))
  · exact st_assign (.tmp 5) rfl (K.dep 2 5 rfl)
  intro f2 w2 A hb
  replace bl0 := bl
  replace x0 := (A.old 0 rfl).trans x0
  clear x2
  have x2 : f2.eval (.tmp 2) = .int .i64 ((p : Nat) : Int) := A.has 3 2 rfl
  replace bl := (bl.trans (Below.mono hb bl.size))
  replace sz := A.size.trans sz
  replace df := A.defs.trans df
  clear A hb
  clear x0
  show Code.wp _ _ _ _ _
  refine wp_ret ?_
  repeat (first | with_reducible refine then_ret ?_ | with_reducible refine block_ret ?_)
  exact bodyPost_ret (v := .int .i64 ((p : Nat) : Int)) (ret_slot rfl f2 _ x2 _ _) df ⟨rfl, bl⟩
end Go.Proofs.YtnppjlpnfijobaaDoor
namespace Go.Proofs.YtnppjlpnfijobaaDoor
set_option maxRecDepth 100000
open Go.RowKit
theorem parse_any9 {bs : List (BitVec 8)} {v : Value} (h30 : bs.length ≤ 3000) (w : World) (hv : (Fk.sl bs).f v w) {n c : Nat} (eN : Box (cV 0 1048576 bs = ((n : Nat) : Int))) (hcc : pcn n = c) {P : List (List (BitVec 8))} (eP : Box (chk (hsN (d1 bs) (c : Nat)) (hsD (d1 bs) (c : Nat)) = P)) (hnM : n ≤ 1048576) (_hpn : c ≤ 21) (_hP1 : P.length ≤ 1000) :
    Calls Tryd.prog 18 #[v] w fun e w' => (((s2 bs c = false ∧ d2 bs c = []) ∧ P.length = c ∧ ∃ g, e = .returned (.tuple #[.pointer (some ⟨g, 0, none⟩), .int .i64 0]) ∧ w.heap.size ≤ g ∧ ∃ L, w.heap.size ≤ L ∧ Ob w' g 51 [.int .i64 ((n : Nat) : Int), .slice (some ⟨L, 0, none⟩) P.length P.length] ∧ Hl w' (some ⟨L, 0, none⟩) L 0 P ∧ RowAt w' L P.length) ∨ (¬ ((s2 bs c = false ∧ d2 bs c = []) ∧ P.length = c) ∧ e = .returned (.tuple #[.pointer none, .int .i64 10]))) ∧ Below w.heap.size w w' := by
  go_enter Tryd.func18, Tryd.ntmps18
  refine code_both (fun f w1 => f.tmps.size = 30 ∧ f.defers = [] ∧ f.eval (.tmp 0) = v ∧ Below w.heap.size w (w1)) ⟨rfl, rfl, rfl, Below.refl _ _⟩ ?_
  rintro f0 w0 ⟨sz, df, x0, bl⟩
  have bl0 := bl
  refine wp_seq ?_
  refine wp_all_seq [.eq (.pointer none), .eq (.int .i64 0)] (by kernel_rfl) (by kernel_rfl) (by rw [sz]; kernel_rfl) (by kernel_rfl) ⟨fun hw ac u K => ?_, fun hw ac u K => ?_, trivial⟩ ?_
  · exact st_assign (.const (.pointer none)) rfl rfl
  · exact st_assign (.const (.int .i64 0)) rfl rfl
  intro f1 w1 A hb
  replace bl0 := bl
  replace x0 := (A.old 0 rfl).trans x0
  have x2 : f1.eval (.tmp 2) = .pointer none := A.has 0 2 rfl
  have x3 : f1.eval (.tmp 3) = .int .i64 0 := A.has 1 3 rfl
  replace bl := (bl.trans (Below.mono hb bl.size))
  replace sz := A.size.trans sz
  replace df := A.defs.trans df
  clear A hb
  show Code.wp _ _ _ _ _
  refine wp_seq ?_
  refine wp_region_seq [.eq (v)] (by kernel_rfl) (by kernel_rfl) (by rw [sz]; kernel_rfl) (by kernel_rfl) ⟨fun hw ac u K => ?_, trivial⟩ ?_
  · exact st_move (.tmp 0) rfl ((K.old 0 rfl).trans x0)
  intro f2 w2 A hb
  replace bl0 := bl
  replace x0 := (A.old 0 rfl).trans x0
  replace x2 := (A.old 2 rfl).trans x2
  replace x3 := (A.old 3 rfl).trans x3
  have x8 : f2.eval (.tmp 8) = v := A.has 0 8 rfl
  replace bl := (bl.trans (Below.mono hb bl.size))
  replace sz := A.size.trans sz
  replace df := A.defs.trans df
  clear A hb
  clear x0
  refine wl_call 34 (.func 34) _ _ #[v] rfl 9 rfl (by rw [sz]; decide) rfl rfl (one_arg x8) Tryd.enter34 (fun u W => ∃ ib, u = .pointer (some ⟨ib, 0, none⟩) ∧ w2.heap.size ≤ ib ∧ HasI W ib bs false ∧ Below w2.heap.size w2 W) (in_new (Fk.mono _ _ _ _ hv bl) (by omega)) ?_
  rintro f3 w3 df2 sz2 old2 ⟨ib, new2, hgI, hIn, hb⟩
  have hwI : w.heap.size ≤ ib := Nat.le_trans bl.size hgI
  replace bl0 := bl
  replace x2 := (old2 2 rfl).trans x2
  replace x3 := (old2 3 rfl).trans x3
  replace x8 := (old2 8 rfl).trans x8
  have x9 : f3.eval (.tmp 9) = .pointer (some ⟨ib, 0, none⟩) := new2
  replace bl := (bl.trans (Below.mono hb bl.size))
  replace sz := sz2.trans sz
  replace df := df2.trans df
  clear df2 sz2 old2 new2 hb
  clear x8
  refine wl_one (.eq (.pointer (some ⟨ib, 0, none⟩))) rfl 4 rfl (by rw [sz]; decide) (st_assign (.tmp 9) rfl x9) ?_
  intro f4 w4 df2 sz2 old2 new2 hb
  replace bl0 := bl
  replace x2 := (old2 2 rfl).trans x2
  replace x3 := (old2 3 rfl).trans x3
  replace x9 := (old2 9 rfl).trans x9
  have x4 : f4.eval (.tmp 4) = .pointer (some ⟨ib, 0, none⟩) := new2
  replace hIn := HasI.below hIn hb
  replace bl := (bl.trans (Below.mono hb bl.size))
  replace sz := sz2.trans sz
  replace df := df2.trans df
  clear df2 sz2 old2 new2 hb
  refine wpList_nil ?_
  clear x9
  show Code.wp _ _ _ _ _
  refine wp_seq ?_
  refine wp_region_seq [.eq (.pointer (some ⟨ib, 0, none⟩))] (by kernel_rfl) (by kernel_rfl) (by rw [sz]; kernel_rfl) (by kernel_rfl) ⟨fun hw ac u K => ?_, trivial⟩ ?_
  · exact st_move (.tmp 4) rfl ((K.old 4 rfl).trans x4)
  intro f5 w5 A hb
  replace bl0 := bl
  replace x2 := (A.old 2 rfl).trans x2
  replace x3 := (A.old 3 rfl).trans x3
  replace x4 := (A.old 4 rfl).trans x4
  have x10 : f5.eval (.tmp 10) = .pointer (some ⟨ib, 0, none⟩) := A.has 0 10 rfl
  replace hIn := HasI.below hIn hb
  replace bl := (bl.trans (Below.mono hb bl.size))
  replace sz := A.size.trans sz
  replace df := A.defs.trans df
  clear A hb
  refine wl_call 35 (.func 35) _ _ #[.pointer (some ⟨ib, 0, none⟩), .int .i64 0, .int .i64 1048576] rfl 11 rfl (by rw [sz]; decide) rfl rfl (arg3 x10 rfl rfl) Tryd.enter35 (fun u W => u = .int .i64 (cV 0 1048576 bs) ∧ HasI W ib (d1 bs) (s1 bs) ∧ Only ib w5 W) (in_count 0 1048576 _ hIn (by omega)) ?_
  rintro f6 w6 df2 sz2 old2 ⟨new2, hI2, O⟩
  rw [eN.out] at new2
  replace x2 := (old2 2 rfl).trans x2
  replace x3 := (old2 3 rfl).trans x3
  replace x4 := (old2 4 rfl).trans x4
  replace x10 := (old2 10 rfl).trans x10
  replace bl := bl.trans (Only.below O _ hwI bl.size)
  replace bl0 := bl
  replace sz := sz2.trans sz
  replace df := df2.trans df
  have x11 := new2
  clear df2 sz2 old2 O new2
  replace hIn := hI2
  clear hI2
  clear x10
  refine wl_one (.eq (.int .i64 ((n : Nat) : Int))) rfl 5 rfl (by rw [sz]; decide) (st_assign (.tmp 11) rfl x11) ?_
  intro f7 w7 df2 sz2 old2 new2 hb
  replace bl0 := bl
  replace x2 := (old2 2 rfl).trans x2
  replace x3 := (old2 3 rfl).trans x3
  replace x4 := (old2 4 rfl).trans x4
  replace x11 := (old2 11 rfl).trans x11
  have x5 : f7.eval (.tmp 5) = .int .i64 ((n : Nat) : Int) := new2
  replace hIn := HasI.below hIn hb
  replace bl := (bl.trans (Below.mono hb bl.size))
  replace sz := sz2.trans sz
  replace df := df2.trans df
  clear df2 sz2 old2 new2 hb
  refine wpList_nil ?_
  clear x11
  show Code.wp _ _ _ _ _
  refine wp_seq ?_
  refine wp_all_seq [.eq (.int .i64 ((n : Nat) : Int)), .eq (.int .i64 ((c : Nat) : Int)), .eq (.int .i64 ((c : Nat) : Int))] (by kernel_rfl) (by kernel_rfl) (by rw [sz]; kernel_rfl) (by kernel_rfl) ⟨fun hw ac u K => ?_, fun hw ac u K => ?_, fun hw ac u K => ?_, trivial⟩ ?_
  · exact st_move (.tmp 5) rfl ((K.old 5 rfl).trans x5)
  · exact st_call 36 (.func 36) _ _ #[.int .i64 ((n : Nat) : Int)] rfl rfl (one_arg (K.dep 0 12 rfl)) Tryd.enter36 (fk_of (peaksOf_any n (by omega) hcc _))
  · exact st_assign (.tmp 13) rfl (K.dep 1 13 rfl)
  intro f8 w8 A hb
  replace bl0 := bl
  replace x2 := (A.old 2 rfl).trans x2
  replace x3 := (A.old 3 rfl).trans x3
  replace x4 := (A.old 4 rfl).trans x4
  replace x5 := (A.old 5 rfl).trans x5
  have x6 : f8.eval (.tmp 6) = .int .i64 ((c : Nat) : Int) := A.has 2 6 rfl
  replace hIn := HasI.below hIn hb
  replace bl := (bl.trans (Below.mono hb bl.size))
  replace sz := A.size.trans sz
  replace df := A.defs.trans df
  clear A hb
  show Code.wp _ _ _ _ _
  refine wp_seq ?_
  refine wp_region_seq [.eq (.pointer (some ⟨ib, 0, none⟩)), .eq (.int .i64 ((c : Nat) : Int))] (by kernel_rfl) (by kernel_rfl) (by rw [sz]; kernel_rfl) (by kernel_rfl) ⟨fun hw ac u K => ?_, fun hw ac u K => ?_, trivial⟩ ?_
  · exact st_move (.tmp 4) rfl ((K.old 4 rfl).trans x4)
  · exact st_move (.tmp 6) rfl ((K.old 6 rfl).trans x6)
  intro f9 w9 A hb
  replace bl0 := bl
  replace x2 := (A.old 2 rfl).trans x2
  replace x3 := (A.old 3 rfl).trans x3
  replace x4 := (A.old 4 rfl).trans x4
  replace x5 := (A.old 5 rfl).trans x5
  replace x6 := (A.old 6 rfl).trans x6
  have x14 : f9.eval (.tmp 14) = .pointer (some ⟨ib, 0, none⟩) := A.has 0 14 rfl
  have x15 : f9.eval (.tmp 15) = .int .i64 ((c : Nat) : Int) := A.has 1 15 rfl
  replace hIn := HasI.below hIn hb
  replace bl := (bl.trans (Below.mono hb bl.size))
  replace sz := A.size.trans sz
  replace df := A.defs.trans df
  clear A hb
  refine wl_call 37 (.func 37) _ _ #[.pointer (some ⟨ib, 0, none⟩), .int .i64 ((c : Nat) : Int)] rfl 16 rfl (by rw [sz]; decide) rfl rfl (arg2 x14 x15) Tryd.enter37 (fun u W => ∃ L, u = .slice (some ⟨L, 0, none⟩) (P).length (P).length ∧ w9.heap.size ≤ L ∧ (Hl W (some ⟨L, 0, none⟩) L 0 P ∧ RowAt W L P.length) ∧ HasI W ib (d2 bs c) (s2 bs c) ∧ Only ib w9 W) (in_hashes9 c _ hIn (by have := d1_len bs; omega) eP) ?_
  have hltI := hIn.lt
  rintro f10 w10 df2 sz2 old2 ⟨L, new2, hL, ⟨qL, rL⟩, hI2, O⟩
  have nIqL : L ≠ ib := Nat.ne_of_gt (Nat.lt_of_lt_of_le hltI hL)
  have hwL : w.heap.size ≤ L := Nat.le_trans bl.size hL
  replace x2 := (old2 2 rfl).trans x2
  replace x3 := (old2 3 rfl).trans x3
  replace x4 := (old2 4 rfl).trans x4
  replace x5 := (old2 5 rfl).trans x5
  replace x6 := (old2 6 rfl).trans x6
  replace x14 := (old2 14 rfl).trans x14
  replace x15 := (old2 15 rfl).trans x15
  replace bl := bl.trans (Only.below O _ hwI bl.size)
  replace bl0 := bl
  replace sz := sz2.trans sz
  replace df := df2.trans df
  have x16 := new2
  clear df2 sz2 old2 O new2
  replace hIn := hI2
  clear hI2 hltI
  have ltL : L < w10.heap.size := by obtain ⟨cs, h1, _⟩ := rL; exact Ob.lt h1
  have hcL : Fk.f (.hc (P)) (.slice (some ⟨L, 0, none⟩) (P).length (P).length) w10 := ⟨_, _, _, _, rfl, Nat.le_refl _, qL⟩
  clear x14
  clear x15
  refine wl_one (.eq (.slice (some ⟨L, 0, none⟩) (P).length (P).length)) rfl 7 rfl (by rw [sz]; decide) (st_assign (.tmp 16) rfl x16) ?_
  intro f11 w11 df2 sz2 old2 new2 hb
  replace bl0 := bl
  replace x2 := (old2 2 rfl).trans x2
  replace x3 := (old2 3 rfl).trans x3
  replace x4 := (old2 4 rfl).trans x4
  replace x5 := (old2 5 rfl).trans x5
  replace x6 := (old2 6 rfl).trans x6
  replace x16 := (old2 16 rfl).trans x16
  have x7 : f11.eval (.tmp 7) = .slice (some ⟨L, 0, none⟩) (P).length (P).length := new2
  replace hcL := Fk.mono _ _ _ _ hcL hb
  replace hIn := HasI.below hIn hb
  replace qL := Hl.below qL hb
  replace rL := RowAt.below rL hb
  replace ltL := Nat.lt_of_lt_of_le ltL hb.size
  replace bl := (bl.trans (Below.mono hb bl.size))
  replace sz := sz2.trans sz
  replace df := df2.trans df
  clear df2 sz2 old2 new2 hb
  refine wpList_nil ?_
  clear x16
  show Code.wp _ _ _ _ _
  refine wp_seq ?_
  refine wp_seq ?_
  by_cases hd : s2 bs c = false ∧ d2 bs c = []
  rotate_left
  · skip
    have hdb : (!s2 bs c && decide (d2 bs c = [])) = false := by
      cases h : s2 bs c with
      | true => rfl
      | false => simpa using fun e => hd ⟨h, e⟩
    refine wp_all_seq [.eq (.pointer (some ⟨ib, 0, none⟩)), .eq (.bool false), .eq (.bool true), .eq (.bool true), .any, .any, .any, .any, .eq (.bool true)] (by kernel_rfl) (by kernel_rfl) (by rw [sz]; kernel_rfl) (by kernel_rfl) ⟨fun hw ac u K => ?_, fun hw ac u K => ?_, fun hw ac u K => ?_, fun hw ac u K => ?_, fun hw ac u K => ?_, fun hw ac u K => ?_, fun hw ac u K => ?_, fun hw ac u K => ?_, fun hw ac u K => ?_, trivial⟩ ?_
    · exact st_move (.tmp 4) rfl ((K.old 4 rfl).trans x4)
    · exact st_call 38 (.func 38) _ _ #[.pointer (some ⟨ib, 0, none⟩)] rfl rfl (one_arg (K.dep 0 17 rfl)) Tryd.enter38 (by have h := fk_of (in_done _ (HasI.below hIn K.grow)); rw [hdb] at h; exact h)
    · exact st_not (.tmp 18) rfl false (K.dep 1 18 rfl)
    · exact st_move (.tmp 19) rfl (K.dep 2 19 rfl)
    · exact (Bool.false_ne_true hw).elim
    · exact (Bool.false_ne_true hw).elim
    · exact (Bool.false_ne_true hw).elim
    · exact (Bool.false_ne_true hw).elim
    · exact st_pick_t (.tmp 20) (.const (.bool true)) (.tmp 24) rfl (K.dep 3 20 rfl) rfl
    intro f12 w12 A hb
    replace bl0 := bl
    replace x2 := (A.old 2 rfl).trans x2
    replace x3 := (A.old 3 rfl).trans x3
    replace x4 := (A.old 4 rfl).trans x4
    replace x5 := (A.old 5 rfl).trans x5
    replace x6 := (A.old 6 rfl).trans x6
    replace x7 := (A.old 7 rfl).trans x7
    have x25 : f12.eval (.tmp 25) = .bool true := A.has 8 25 rfl
    replace hcL := Fk.mono _ _ _ _ hcL hb
    replace hIn := HasI.below hIn hb
    replace qL := Hl.below qL hb
    replace rL := RowAt.below rL hb
    replace ltL := Nat.lt_of_lt_of_le ltL hb.size
    replace bl := (bl.trans (Below.mono hb bl.size))
    replace sz := A.size.trans sz
    replace df := A.defs.trans df
    clear A hb
    show Code.wp _ _ _ _ _
    refine wp_cond_true x25 ?_
    refine wp_seq ?_
    refine wp_all_seq [.eq (.pointer none), .eq (.int .i64 10)] (by kernel_rfl) (by kernel_rfl) (by rw [sz]; kernel_rfl) (by kernel_rfl) ⟨fun hw ac u K => ?_, fun hw ac u K => ?_, trivial⟩ ?_
    · exact st_assign (.const (.pointer none)) rfl rfl
    · exact st_assign (.const (.int .i64 10)) rfl rfl
    intro f13 w13 A hb
    replace bl0 := bl
    clear x2
    clear x3
    replace x4 := (A.old 4 rfl).trans x4
    replace x5 := (A.old 5 rfl).trans x5
    replace x6 := (A.old 6 rfl).trans x6
    replace x7 := (A.old 7 rfl).trans x7
    replace x25 := (A.old 25 rfl).trans x25
    have x2 : f13.eval (.tmp 2) = .pointer none := A.has 0 2 rfl
    have x3 : f13.eval (.tmp 3) = .int .i64 10 := A.has 1 3 rfl
    replace hcL := Fk.mono _ _ _ _ hcL hb
    replace hIn := HasI.below hIn hb
    replace qL := Hl.below qL hb
    replace rL := RowAt.below rL hb
    replace ltL := Nat.lt_of_lt_of_le ltL hb.size
    replace bl := (bl.trans (Below.mono hb bl.size))
    replace sz := A.size.trans sz
    replace df := A.defs.trans df
    clear A hb
    show Code.wp _ _ _ _ _
    refine wp_ret ?_
    repeat (first | with_reducible refine then_ret ?_ | with_reducible refine block_ret ?_)
    exact bodyPost_ret (v := .tuple #[.pointer none, .int .i64 10]) (ret_two rfl f13 _ _ x2 x3 _ _) df ⟨.inr ⟨fun h => by first | exact hd h.1 | exact hpl h.2, rfl⟩, bl⟩
  have hdb : (!s2 bs c && decide (d2 bs c = [])) = true := by rw [hd.1, hd.2]; rfl
  by_cases hpl : P.length = c
  rotate_left
  · skip
    refine wp_all_seq [.eq (.pointer (some ⟨ib, 0, none⟩)), .eq (.bool true), .eq (.bool false), .eq (.bool false), .eq (.slice (some ⟨L, 0, none⟩) (P).length (P).length), .eq (.int .i64 (((P).length : Nat) : Int)), .eq (.int .i64 ((c : Nat) : Int)), .eq (.bool true), .eq (.bool true)] (by kernel_rfl) (by kernel_rfl) (by rw [sz]; kernel_rfl) (by kernel_rfl) ⟨fun hw ac u K => ?_, fun hw ac u K => ?_, fun hw ac u K => ?_, fun hw ac u K => ?_, fun hw ac u K => ?_, fun hw ac u K => ?_, fun hw ac u K => ?_, fun hw ac u K => ?_, fun hw ac u K => ?_, trivial⟩ ?_
    · exact st_move (.tmp 4) rfl ((K.old 4 rfl).trans x4)
    · exact st_call 38 (.func 38) _ _ #[.pointer (some ⟨ib, 0, none⟩)] rfl rfl (one_arg (K.dep 0 17 rfl)) Tryd.enter38 (by have h := fk_of (in_done _ (HasI.below hIn K.grow)); rw [hdb] at h; exact h)
    · exact st_not (.tmp 18) rfl true (K.dep 1 18 rfl)
    · exact st_move (.tmp 19) rfl (K.dep 2 19 rfl)
    · exact st_move (.tmp 7) rfl ((K.old 7 rfl).trans x7)
    · exact st_lenc (.tmp 21) rfl ((P).length) rfl (fk_val (K.dep 4 21 rfl) (Fk.mono _ _ _ _ hcL K.grow))
    · exact st_move (.tmp 6) rfl ((K.old 6 rfl).trans x6)
    · exact st_neqi 3 (.tmp 22) (.tmp 23) rfl .i64 ((((P).length : Nat) : Int)) (((c : Nat) : Int)) (K.dep 5 22 rfl) (K.dep 6 23 rfl) _ (by rw [eq_comm, decide_eq_true_iff]; omega)
    · exact st_pick_f' (.tmp 20) (.const (.bool true)) (.tmp 24) rfl (K.dep 3 20 rfl) (K.dep 7 24 rfl)
    intro f12 w12 A hb
    replace bl0 := bl
    replace x2 := (A.old 2 rfl).trans x2
    replace x3 := (A.old 3 rfl).trans x3
    replace x4 := (A.old 4 rfl).trans x4
    replace x5 := (A.old 5 rfl).trans x5
    replace x6 := (A.old 6 rfl).trans x6
    replace x7 := (A.old 7 rfl).trans x7
    have x25 : f12.eval (.tmp 25) = .bool true := A.has 8 25 rfl
    replace hcL := Fk.mono _ _ _ _ hcL hb
    replace hIn := HasI.below hIn hb
    replace qL := Hl.below qL hb
    replace rL := RowAt.below rL hb
    replace ltL := Nat.lt_of_lt_of_le ltL hb.size
    replace bl := (bl.trans (Below.mono hb bl.size))
    replace sz := A.size.trans sz
    replace df := A.defs.trans df
    clear A hb
    show Code.wp _ _ _ _ _
    refine wp_cond_true x25 ?_
    refine wp_seq ?_
    refine wp_all_seq [.eq (.pointer none), .eq (.int .i64 10)] (by kernel_rfl) (by kernel_rfl) (by rw [sz]; kernel_rfl) (by kernel_rfl) ⟨fun hw ac u K => ?_, fun hw ac u K => ?_, trivial⟩ ?_
    · exact st_assign (.const (.pointer none)) rfl rfl
    · exact st_assign (.const (.int .i64 10)) rfl rfl
    intro f13 w13 A hb
    replace bl0 := bl
    clear x2
    clear x3
    replace x4 := (A.old 4 rfl).trans x4
    replace x5 := (A.old 5 rfl).trans x5
    replace x6 := (A.old 6 rfl).trans x6
    replace x7 := (A.old 7 rfl).trans x7
    replace x25 := (A.old 25 rfl).trans x25
    have x2 : f13.eval (.tmp 2) = .pointer none := A.has 0 2 rfl
    have x3 : f13.eval (.tmp 3) = .int .i64 10 := A.has 1 3 rfl
    replace hcL := Fk.mono _ _ _ _ hcL hb
    replace hIn := HasI.below hIn hb
    replace qL := Hl.below qL hb
    replace rL := RowAt.below rL hb
    replace ltL := Nat.lt_of_lt_of_le ltL hb.size
    replace bl := (bl.trans (Below.mono hb bl.size))
    replace sz := A.size.trans sz
    replace df := A.defs.trans df
    clear A hb
    show Code.wp _ _ _ _ _
    refine wp_ret ?_
    repeat (first | with_reducible refine then_ret ?_ | with_reducible refine block_ret ?_)
    exact bodyPost_ret (v := .tuple #[.pointer none, .int .i64 10]) (ret_two rfl f13 _ _ x2 x3 _ _) df ⟨.inr ⟨fun h => by first | exact hd h.1 | exact hpl h.2, rfl⟩, bl⟩
  refine wp_all_seq [.eq (.pointer (some ⟨ib, 0, none⟩)), .eq (.bool true), .eq (.bool false), .eq (.bool false), .eq (.slice (some ⟨L, 0, none⟩) (P).length (P).length), .eq (.int .i64 (((P).length : Nat) : Int)), .eq (.int .i64 ((c : Nat) : Int)), .eq (.bool false), .eq (.bool false)] (by kernel_rfl) (by kernel_rfl) (by rw [sz]; kernel_rfl) (by kernel_rfl) ⟨fun hw ac u K => ?_, fun hw ac u K => ?_, fun hw ac u K => ?_, fun hw ac u K => ?_, fun hw ac u K => ?_, fun hw ac u K => ?_, fun hw ac u K => ?_, fun hw ac u K => ?_, fun hw ac u K => ?_, trivial⟩ ?_
  · exact st_move (.tmp 4) rfl ((K.old 4 rfl).trans x4)
  · exact st_call 38 (.func 38) _ _ #[.pointer (some ⟨ib, 0, none⟩)] rfl rfl (one_arg (K.dep 0 17 rfl)) Tryd.enter38 (by have h := fk_of (in_done _ (HasI.below hIn K.grow)); rw [hdb] at h; exact h)
  · exact st_not (.tmp 18) rfl true (K.dep 1 18 rfl)
  · exact st_move (.tmp 19) rfl (K.dep 2 19 rfl)
  · exact st_move (.tmp 7) rfl ((K.old 7 rfl).trans x7)
  · exact st_lenc (.tmp 21) rfl ((P).length) rfl (fk_val (K.dep 4 21 rfl) (Fk.mono _ _ _ _ hcL K.grow))
  · exact st_move (.tmp 6) rfl ((K.old 6 rfl).trans x6)
  · exact st_neqi 3 (.tmp 22) (.tmp 23) rfl .i64 ((((P).length : Nat) : Int)) (((c : Nat) : Int)) (K.dep 5 22 rfl) (K.dep 6 23 rfl) _ (by rw [eq_comm, decide_eq_false_iff_not]; omega)
  · exact st_pick_f' (.tmp 20) (.const (.bool true)) (.tmp 24) rfl (K.dep 3 20 rfl) (K.dep 7 24 rfl)
  intro f12 w12 A hb
  replace bl0 := bl
  replace x2 := (A.old 2 rfl).trans x2
  replace x3 := (A.old 3 rfl).trans x3
  replace x4 := (A.old 4 rfl).trans x4
  replace x5 := (A.old 5 rfl).trans x5
  replace x6 := (A.old 6 rfl).trans x6
  replace x7 := (A.old 7 rfl).trans x7
  have x25 : f12.eval (.tmp 25) = .bool false := A.has 8 25 rfl
  replace hcL := Fk.mono _ _ _ _ hcL hb
  replace hIn := HasI.below hIn hb
  replace qL := Hl.below qL hb
  replace rL := RowAt.below rL hb
  replace ltL := Nat.lt_of_lt_of_le ltL hb.size
  replace bl := (bl.trans (Below.mono hb bl.size))
  replace sz := A.size.trans sz
  replace df := A.defs.trans df
  clear A hb
  show Code.wp _ _ _ _ _
  refine wp_cond_false x25 ?_
  refine wp_skip ?_
  show Code.wp _ _ _ _ _
  refine wp_seq ?_
  refine wp_all_seq [.eq (.int .i64 ((n : Nat) : Int)), .eq (.slice (some ⟨L, 0, none⟩) (P).length (P).length), .eq (.agg ([.int .i64 ((n : Nat) : Int), .slice (some ⟨L, 0, none⟩) (P).length (P).length] : List Value).toArray), .nw w12.heap.size 51 ([.int .i64 ((n : Nat) : Int), .slice (some ⟨L, 0, none⟩) (P).length (P).length] : List Value), .nw w12.heap.size 51 ([.int .i64 ((n : Nat) : Int), .slice (some ⟨L, 0, none⟩) (P).length (P).length] : List Value), .eq (.int .i64 0)] (by kernel_rfl) (by kernel_rfl) (by rw [sz]; kernel_rfl) (by kernel_rfl) ⟨fun hw ac u K => ?_, fun hw ac u K => ?_, fun hw ac u K => ?_, fun hw ac u K => ?_, fun hw ac u K => ?_, fun hw ac u K => ?_, trivial⟩ ?_
  · exact st_move (.tmp 5) rfl ((K.old 5 rfl).trans x5)
  · exact st_move (.tmp 7) rfl ((K.old 7 rfl).trans x7)
  · exact st_build 51 _ rfl (by simp only [List.map_toArray, List.map_cons, List.map_nil, show ac.eval (.tmp 26) = _ from (K.dep 0 26 rfl), show ac.eval (.tmp 27) = _ from (K.dep 1 27 rfl)]; kernel_rfl)
  · exact st_box 51 (.tmp 28) rfl _ _ (by rw [show _ = _ from (K.dep 2 28 rfl)]; kernel_rfl) K.grow.size
  · exact st_assign (.tmp 29) rfl (K.dep 3 29 rfl)
  · exact st_assign (.const (.int .i64 0)) rfl rfl
  intro f13 w13 A hb
  replace bl0 := bl
  clear x2
  clear x3
  replace x4 := (A.old 4 rfl).trans x4
  replace x5 := (A.old 5 rfl).trans x5
  replace x6 := (A.old 6 rfl).trans x6
  replace x7 := (A.old 7 rfl).trans x7
  replace x25 := (A.old 25 rfl).trans x25
  have x2 : Fk.f (.nw w12.heap.size 51 ([.int .i64 ((n : Nat) : Int), .slice (some ⟨L, 0, none⟩) (P).length (P).length] : List Value)) (f13.eval (.tmp 2)) w13 := A.has 4 2 rfl
  have x3 : f13.eval (.tmp 3) = .int .i64 0 := A.has 5 3 rfl
  replace hcL := Fk.mono _ _ _ _ hcL hb
  replace hIn := HasI.below hIn hb
  replace qL := Hl.below qL hb
  replace rL := RowAt.below rL hb
  replace ltL := Nat.lt_of_lt_of_le ltL hb.size
  replace bl := (bl.trans (Below.mono hb bl.size))
  replace sz := A.size.trans sz
  replace df := A.defs.trans df
  clear A hb
  obtain ⟨g2, hg2, e2, m2⟩ := x2
  have x2 := e2
  clear e2
  have hw2 : w.heap.size ≤ g2 := Nat.le_trans bl0.size hg2
  show Code.wp _ _ _ _ _
  refine wp_ret ?_
  repeat (first | with_reducible refine then_ret ?_ | with_reducible refine block_ret ?_)
  exact bodyPost_ret (v := _) (ret_two rfl f13 _ _ x2 x3 _ _) df ⟨.inl ⟨hd, hpl, _, rfl, hw2, _, hwL, m2, qL, rL⟩, bl⟩
theorem fk_parse_ok {bs : List (BitVec 8)} {v : Value} {w : World} (hv : (Fk.sl bs).f v w) (hl : bs.length ≤ 3000) {n : Nat} {P : List (List (BitVec 8))} (hb : be8 n ++ hsb P = bs) (hn : n ≤ 1048576) (hP : P.length = pcn n) (h32 : ∀ x ∈ P, x.length = 32) :
    Calls Tryd.prog 18 #[v] w fun e w' => ∃ u, e = .returned u ∧ (Fk.t2 (.rn w.heap.size n P) (.int .i64 0)).f u w' ∧ Below w.heap.size w w' := by
  obtain ⟨n9, eN⟩ : ∃ k, Box (cV 0 1048576 bs = ((k : Nat) : Int)) := ⟨_, ⟨(cV_nat bs).1⟩⟩
  have hn9 : n9 = rN bs := by unfold rN; rw [eN.out]; rfl
  obtain ⟨P9, eP⟩ : ∃ k, Box (chk (hsN (d1 bs) ((pcn n9) : Nat)) (hsD (d1 bs) ((pcn n9) : Nat)) = k) := ⟨_, ⟨rfl⟩⟩
  have hP9 : P9 = rP bs (pcn n9) := eP.out.symm
  have hnM : n9 ≤ 1048576 := by rw [hn9]; exact (cV_nat bs).2
  have hpn : pcn n9 ≤ 21 := pcn_log 21 n9 (by omega)
  have hP1 : P9.length ≤ 1000 := by
    have h1 := hs_le (d1 bs) ((pcn n9) : Nat)
    have h2 := hsD_len (d1 bs) ((pcn n9) : Nat)
    have h3 := d1_len bs
    rw [← eP.out, chk_len]
    omega
  have hpn' : P.length ≤ 21 := by have := pcn_log 21 n (by omega); omega
  have e1 : n9 = n := hn9.trans (done_range (m := 21) (by omega) hb hn hpn' h32).2.2.1
  subst e1
  obtain ⟨r1, r2, r3, r4⟩ := done_range (m := pcn n9) (by omega) hb hn (by omega) h32
  have e2 : P9 = P := hP9.trans r4
  refine (parse_any9 hl w hv eN rfl eP hnM hpn hP1).mono ?_
  rw [e2]
  rintro e w' ⟨⟨_, _, g, rfl, hg, L, hL, m, q, r⟩ | ⟨hno, _⟩, hb2⟩
  · obtain ⟨k, hR, hk⟩ := hr_make (g0 := w.heap.size) hn hP m (ow_le hL (row_ow r q (by unfold maxLen; omega)))
    exact ⟨_, rfl, ⟨_, rfl, ⟨g, k, rfl, hg, by rcases hk with rfl | hk <;> omega, hR⟩⟩, hb2⟩
  · exact absurd ⟨⟨r1, r2⟩, hP⟩ hno
end Go.Proofs.YtnppjlpnfijobaaDoor
namespace Go.Proofs.YtnppjlpnfijobaaDoor
set_option maxRecDepth 100000
open Go.RowKit
section
variable {S : World → Prop} {o : Oper} {a : Act} {Q : Exit → Act → World → Prop} {ops : Array Oper}
theorem run_ldh {x : Operand} (ho : o.op = .load 33 x) {lb lo : Nat} {st : List (BitVec 8)} (hl : st.length = 32) (hx : a.eval x = .pointer (some ⟨lb, lo, none⟩)) (hr : ∀ w, S w → w.rangeAt lb lo (st.map V)) : ∀ w, S w → (execOp a.eval o).run Tryd.prog w = .ok (.value (.agg (st.map V).toArray)) w := by
  intro w hS
  have := run_loadVar_mid (P := Tryd.prog) w lb lo 33 (st.map V) _ (hr w hS) Tryd.under33 rfl (by rw [List.length_map, hl]; exact Tryd.size33)
  unfold execOp
  rw [ho]
  simp [hx, Instr.loadAt, Instr.sureAddr, this]
end
end Go.Proofs.YtnppjlpnfijobaaDoor
namespace Go.Proofs.YtnppjlpnfijobaaDoor
set_option maxRecDepth 100000
open Go.RowKit
section
variable {Q : Exit → Act → World → Prop} {o : Oper} {a : Act} {w : World} {ops : Array Oper} {rest : List Oper}
theorem run_appK (ty : TypeId) {P : List (List (BitVec 8))} {y : List (BitVec 8)} {v u : Value} {w : World} (hs1 : (Fk.ow 0 P).f v w) (hx : (Fk.hs [y]).f u w) (hN : P.length ≤ 1000) :
    ∃ v' w', (Builtin.append_ #[22, 22] ty #[v, u]).run Tryd.prog w = .ok v' w' ∧ (Fk.ow 0 (P ++ [y])).f v' w' ∧ w.grownBy w' v.ownBlock ∧ (v'.ownBlock = v.ownBlock ∨ v'.ownBlock = some w.heap.size) := by
  obtain ⟨i0, hi, hz0, hz1, hz2⟩ := info_parts Tryd.info33
  obtain ⟨A, C, lb, lo, rfl, hl⟩ := hx
  obtain ⟨hown, h32⟩ := hs1
  obtain ⟨hhl, hB⟩ := hl.all 0 y rfl
  have hp := hl.ptr (by simp)
  subst hp
  have hnews : ∀ (j : Nat) (u : Value), (y.map V)[j]? = some u → w.cell? ((⟨lb, lo, none⟩ : Addr).add j) = some u := by
    intro j u hj
    have := hB.src y.length j u
    rw [List.take_of_length_le (Nat.le_refl _), Nat.zero_mul, Nat.add_zero] at this
    exact this hj
  obtain ⟨v', w', hr, h2, h3, _⟩ := run_append_own (P := Tryd.prog) w 0 22 ty 33 i0 _ 32 32 Tryd.under22' hi hz0 hz1 hz2 (by simp [Value.cells, hz_len]) (by decide) v P.length (P.flatten.map V) hown ⟨lb, lo, none⟩ 1 C (y.map V) (by simp [hhl]) hnews (V_one y) (by unfold maxLen; omega) (by omega) (by omega)
  have h4 := append_where (P := Tryd.prog) w 0 22 ty 33 i0 _ 32 32 Tryd.under22' hi hz0 hz1 hz2 v P.length (P.flatten.map V) hown ⟨lb, lo, none⟩ 1 C (y.map V) (by simp [hhl]) hnews (V_one y) (by unfold maxLen; omega) (by omega) v' w' hr
  refine ⟨v', w', hr, ⟨?_, fun i z hi => ?_⟩, h3, h4⟩
  · rw [List.length_append, List.flatten_append, List.map_append]
    simpa using h2
  · by_cases hil : i < P.length
    · exact h32 i z (by rw [List.getElem?_append_left hil] at hi; exact hi)
    · rw [List.getElem?_append_right (by omega)] at hi
      cases hq : i - P.length with
      | zero =>
        rw [hq] at hi
        obtain rfl : y = z := by simpa using hi
        exact hhl
      | succ n => rw [hq] at hi; simp at hi
theorem wl_appK (hgd : o.guard = none) (s x : Operand) (ho : o.op = .call { callee := .builtin .append, args := #[s, x], argTypes := #[22, 22] }) (d : Nat) (hd : o.dst = some d) (hsz : d < a.tmps.size)
    {P : List (List (BitVec 8))} {y : List (BitVec 8)} {v : Value} (e : a.eval s = v) (hs1 : (Fk.ow 0 P).f v w) (hx : (Fk.hs [y]).f (a.eval x) w) (hN : P.length ≤ 1000)
    (h : ∀ a2 w2 v2, a2.defers = a.defers → a2.tmps.size = a.tmps.size → (∀ t, (t == d) = false → a2.eval (.tmp t) = a.eval (.tmp t)) → a2.eval (.tmp d) = v2 → (Fk.ow 0 (P ++ [y])).f v2 w2 → w.grownBy w2 v.ownBlock → (v2.ownBlock = v.ownBlock ∨ v2.ownBlock = some w.heap.size) → wpList Tryd.prog ops Q rest a2 w2) : wpList Tryd.prog ops Q (o :: rest) a w := by
  obtain ⟨v', w', hr, h2, h3, h4⟩ := run_appK o.type hs1 hx hN
  unfold wpList
  rw [if_pos (by unfold Region.wanted; rw [hgd])]
  refine .inl ?_
  unfold Oper.wp execOp
  simp only [ho, resolve, invoke, builtin, Sem.run_bind, Sem.run_pure, Result.andThen_ok, List.map_toArray, List.map_cons, List.map_nil, e, hr]
  refine h _ _ v' (put_def _ _ _) (put_size _ _ _) (fun t ht => ?_) ?_ h2 h3 h4
  · rw [hd]
    exact put_eval_other _ _ _ _ (fun e => by subst e; simp at ht)
  · rw [hd, put_eval_same _ _ _ hsz]
end
section
variable {Q : Exit → Act → World → Prop} {S : World → Prop} {o : Oper} {a : Act} {ops : Array Oper}
end
end Go.Proofs.YtnppjlpnfijobaaDoor
namespace Go.Proofs.YtnppjlpnfijobaaDoor
set_option maxRecDepth 100000
open Go.RowKit
section
variable {P : Program} {ops : Array Oper} {Q : Exit → Act → World → Prop}
/-- Each from number k on waits, in the end, for all ahead of number k, but for number m. -/
def coverEarly (ops : List Oper) (k m : Nat) : Bool := (List.range ops.length).all fun j => decide (j < k) || (List.range k).all fun i => i == m || (clo ops 8 (tgts ops j)).contains i
theorem wp_mids_early {qs : List Fk} {a0 : Act} {w0 : World} (m0 : Nat) (js : List Nat) (hk : qs.length ≤ ops.size) (hE : backOk ops.toList = true) (hC : coverEarly ops.toList qs.length m0 = true) (hJ : chainOk ops (firstK qs.length ops.size) js = true)
    (hD : dstsOk a0.tmps.size (ops.toList.take qs.length) = true) (hG : guardsOk ops.toList qs.length qs ops.toList qs = true)
    (hS : Steps P Q ops.toList qs.length qs a0 w0 ops.toList qs)
    (hF : ∀ af w', Final ops.toList qs a0 af w' → Below w0.heap.size w0 w' → wpList P ops Q (js.filterMap (ops[·]?)) af w') :
    ∀ (fuel : Nat) (listed : Array Bool) (a : Act) (w : World), unl listed ≤ fuel → Closed ops listed → listed.getD m0 false = true → Mids ops qs.length (fkAt qs) a0 w0 listed a w → wpAny P .any ops Q fuel listed a w := by
  have hend : ∀ (fuel : Nat) (listed : Array Bool) (a : Act) (w : World), unl listed ≤ fuel → Mids ops qs.length (fkAt qs) a0 w0 listed a w → (∀ i, i < qs.length → listed.getD i false = true) → wpAny P .any ops Q fuel listed a w := by
    intro fuel listed a w hu hm hall
    have he : listed = firstK qs.length ops.size := by
      apply Array.ext (by simp [firstK, hm.lsize])
      intro i h1 h2
      simp only [firstK, Array.getElem_ofFn]
      by_cases hi : i < qs.length
      · have := hall i hi
        simp [h1] at this
        simp [this, hi]
      · have h3 : i < ops.size := by rw [hm.lsize] at h1; exact h1
        have := hm.last i (by omega) h3
        simp [h1] at this
        simp [this, hi]
    have hJ' : chainOk ops listed js = true := by rw [he]; exact hJ
    have hlen := chain_len js listed hJ'
    refine any_list js fuel listed a w hJ' (by omega) ?_
    refine hF a w ⟨hm.defs, hm.size, fun t ht => eval_of_get (hm.old t ht), fun i d h => ?_⟩ hm.grow
    simp only [Bool.and_eq_true, decide_eq_true_eq, beq_iff_eq] at h
    obtain ⟨hi, hd⟩ := h
    cases ho : ops.toList[i]? with
    | none => rw [ho] at hd; simp at hd
    | some o =>
      rw [ho] at hd
      exact hm.has i o d hi (by rw [← Array.getElem?_toList]; exact ho) (by simpa using hd) (hall i hi)
  intro fuel
  induction fuel with
  | zero =>
    intro listed a w hu hcl hl0 hm
    have hall := unl_zero (listed := listed) (by omega)
    refine hend 0 listed a w hu hm (fun i hi => ?_)
    have hil : i < listed.size := by rw [hm.lsize]; omega
    rw [← getD_tf hil]; exact hall i hil
  | succ fuel ih =>
    intro listed a w hu hcl hl0 hm
    by_cases hall : ∀ i, i < qs.length → listed.getD i false = true
    · exact hend (fuel + 1) listed a w hu hm hall
    · have hex : ∃ i0, i0 < qs.length ∧ listed.getD i0 false = false := by
        apply Classical.byContradiction
        intro hno
        apply hall
        intro i hi
        cases hq : listed.getD i false with
        | true => rfl
        | false => exact absurd ⟨i, hi, hq⟩ hno
      obtain ⟨i0, hi0, hi0u⟩ := hex
      refine ⟨fun hr => ?_, fun i hi => ?_⟩
      · exfalso
        have hu0 := ready_back hE hm.lsize hr
        have hil : i0 < listed.size := by rw [hm.lsize]; omega
        have := unl_zero hu0 i0 hil
        rw [getD_tf hil, hi0u] at this
        cases this
      · obtain ⟨hun, o, ho, hdep⟩ := mem_ready.1 hi
        have hio : i < ops.size := (Array.getElem?_eq_some_iff.1 ho).1
        have hu' := unl_set hun
        have hil : i < listed.size := by rw [hm.lsize]; exact hio
        have htg : ∀ j ∈ tgt o, listed.getD j false = true := fun j hj => by
          obtain ⟨e, he, hb, rfl⟩ := mem_tgt.1 hj
          exact hdep e he hb
        have hik : i < qs.length := by
          rcases Nat.lt_or_ge i qs.length with h | h
          · exact h
          · exfalso
            unfold coverEarly at hC
            have h1 := List.all_eq_true.1 hC i (by simpa using hio)
            simp only [Bool.or_eq_true, decide_eq_true_eq] at h1
            rcases h1 with h1 | h1
            · omega
            · have h2 := List.all_eq_true.1 h1 i0 (by simpa using hi0)
              have h3 : i0 ∈ clo ops.toList 8 (tgts ops.toList i) := by
                rcases Bool.or_eq_true _ _ ▸ h2 with h2 | h2
                · rw [beq_iff_eq] at h2
                  rw [← h2, hi0u] at hl0
                  cases hl0
                · simpa using h2
              have h4 := clo_listed hcl 8 (tgts ops.toList i) (fun j hj => by
                unfold tgts at hj
                rw [Array.getElem?_toList, ho] at hj
                exact htg j (by simpa using hj)) i0 h3
              rw [hi0u] at h4
              cases h4
        have hK : Known ops.toList qs.length (fkAt qs) a0 w0 o a w := by
          refine ⟨fun t ht => eval_of_get (hm.old t ht), fun j d hj => ?_, hm.grow⟩
          unfold depOk at hj
          simp only [Bool.and_eq_true, decide_eq_true_eq, beq_iff_eq, Array.getElem?_toList] at hj
          obtain ⟨⟨hjk, hany⟩, hd⟩ := hj
          obtain ⟨e, he, hb⟩ := List.any_eq_true.1 hany
          simp only [Bool.and_eq_true, beq_iff_eq] at hb
          have hl := hdep e (by simpa using he) hb.2
          rw [hb.1] at hl
          cases hoj : ops[j]? with
          | none => rw [hoj] at hd; simp at hd
          | some oj =>
            rw [hoj] at hd
            exact hm.has j oj d hjk hoj (by simpa using hd) hl
        have hto : (ops.toList.take qs.length)[i]? = some o := by rw [List.getElem?_take, if_pos hik, Array.getElem?_toList]; exact ho
        obtain ⟨d, hd, hlt, hallD⟩ := dstsOk_spec hD i o hto
        have hcl' : Closed ops (listed.setIfInBounds i true) := by
          intro m om hom hml j hj
          by_cases e : m = i
          · subst e
            obtain rfl : om = o := Option.some.inj (hom.symm.trans ho)
            have h1 := htg j hj
            by_cases e2 : j = m
            · subst e2; exact getD_set_same hil
            · have hne : m ≠ j := fun h => e2 h.symm
              simpa [Array.getElem?_setIfInBounds, hne] using h1
          · have hne : i ≠ m := fun h => e h.symm
            have hml' : listed.getD m false = true := by simpa [Array.getElem?_setIfInBounds, hne] using hml
            have h1 := hcl m om hom hml' j hj
            by_cases e2 : j = i
            · subst e2; exact getD_set_same hil
            · have hne2 : i ≠ j := fun h => e2 h.symm
              simpa [Array.getElem?_setIfInBounds, hne2] using h1
        have hl1 : (listed.setIfInBounds i true).getD m0 false = true := by
          by_cases e : m0 = i
          · subst e; exact getD_set_same hil
          · have hne : i ≠ m0 := fun h => e h.symm
            simpa [Array.getElem?_setIfInBounds, hne] using hl0
        have hnext : ∀ v w', Below w.heap.size w w' → fkAt qs i v w' → wpAny P .any ops Q fuel (listed.setIfInBounds i true) (a.put o.dst v) w' := by
          intro v w' hb hf
          refine ih _ _ _ (by omega) hcl' hl1 ⟨by rw [put_size]; exact hm.size, by rw [put_def]; exact hm.defs, by simp; exact hm.lsize, fun t ht => ?_, fun j oj dj hj hoj hdj hlj => ?_, fun j hj1 hj2 => ?_, hm.grow.trans (hb.mono hm.grow.size)⟩
          · rw [put_other _ _ _ _ (freeOf_spec ht hto)]; exact hm.old t ht
          · by_cases e : j = i
            · subst e
              obtain rfl : oj = o := Option.some.inj (hoj.symm.trans ho)
              obtain rfl : dj = d := Option.some.inj (hdj.symm.trans hd)
              have hev : (a.put oj.dst v).eval (.tmp dj) = v := by
                have := put_same a dj v (by rw [hm.size]; exact hlt)
                rw [← hd] at this
                simp [Act.eval, this]
              rw [hev]; exact hf
            · have htj : (ops.toList.take qs.length)[j]? = some oj := by rw [List.getElem?_take, if_pos hj, Array.getElem?_toList]; exact hoj
              have hne : o.dst ≠ some dj := fun h => by
                have : d = dj := Option.some.inj (hd.symm.trans h)
                exact hallD j oj htj e (by rw [this]; exact hdj)
              rw [eval_of_get (put_other a o.dst v dj hne)]
              refine Fk.mono _ _ w w' (hm.has j oj dj hj hoj hdj ?_) hb
              have hne2 : i ≠ j := fun h => e h.symm
              simpa [Array.getElem?_setIfInBounds, hne2] using hlj
          · have hne : i ≠ j := by omega
            have := hm.last j hj1 hj2
            simpa [Array.getElem?_setIfInBounds, hne] using this
        have hyield : ∀ (j : Nat) (b c : Bool), o.guard = some (j, b) → (∃ d, depOk ops.toList qs.length o j d = true) → (∀ v w, fkAt qs j v w → v = .bool c) → yielded ops a.tmps j = some c := by
          rintro j b c hg ⟨d, hd⟩ hbool
          have hv := hbool _ _ (hK.dep j d hd)
          have hd2 : (ops[j]?).bind (·.dst) = some d := by
            unfold depOk at hd
            simp only [Bool.and_eq_true, decide_eq_true_eq, beq_iff_eq, Array.getElem?_toList] at hd
            exact hd.2
          have hget : a.tmps[d]? = some (.bool c) := by
            simp only [Act.eval, Array.getD_eq_getD_getElem?] at hv
            cases hq : a.tmps[d]? with
            | none => rw [hq] at hv; simp [undef] at hv
            | some u => rw [hq] at hv; simp at hv; rw [hv]
          unfold yielded
          rw [hd2]
          simp only [Option.bind_some, hget]
        unfold wpOp
        rw [ho]
        show if Region.wanted o (yielded ops a.tmps) = true then _ else _
        have hyes : Region.wanted o (yielded ops a.tmps) = true → wantedBy qs o = true → (if Region.wanted o (yielded ops a.tmps) = true then o.wp P a w (wpAny P .any ops Q fuel (listed.setIfInBounds i true)) Q ∨ (o.asks P a w ∧ LetsOut Q) else wpAny P .any ops Q fuel (listed.setIfInBounds i true) (a.put o.dst undef) w) := by
          intro hwant hwb
          rw [if_pos hwant]
          refine .inl (Oper.wp_mono ?_ (hS.get i o hik (by rw [Array.getElem?_toList]; exact ho) hwb a w hK))
          rintro a' w' ⟨v, rfl, hb, hf⟩
          exact hnext v w' hb hf
        cases hg : o.guard with
        | none => exact hyes (by unfold Region.wanted; rw [hg]) (by unfold wantedBy; rw [hg])
        | some jb =>
          obtain ⟨j, b⟩ := jb
          obtain ⟨hdp, h2⟩ := guardsOk_spec hG i o j b hik (by rw [Array.getElem?_toList]; exact ho) hg
          rcases h2 with h2 | h2
          · refine hyes ?_ (by unfold wantedBy; rw [hg]; exact h2)
            unfold Region.wanted
            rw [hg]
            show (yielded ops a.tmps j == some b) = true
            rw [hyield j b b hg hdp (Fk.isBool_spec h2)]; simp
          · have hno : Region.wanted o (yielded ops a.tmps) = false := by
              unfold Region.wanted
              rw [hg]
              show (yielded ops a.tmps j == some b) = false
              rw [hyield j b (!b) hg hdp (Fk.isBool_spec h2.1)]; cases b <;> rfl
            rw [if_neg (by rw [hno]; simp)]
            exact hnext undef w (Below.refl _ _) (Fk.isAny_spec h2.2 _ _)
theorem anyH_true : ∀ (fuel : Nat) (listed : Array Bool) (a : Act) (w : World), wpAny P .any ops Q fuel listed a w → wpAnyH P .any ops Q (fun _ => True) fuel listed a w
  | 0, _, _, _, h => h
  | fuel + 1, _, _, _, h => ⟨h.1, fun i hi => wpOp_mono (fun a' w' h' => ⟨trivial, anyH_true fuel _ a' w' h'⟩) (h.2 i hi)⟩
/-- A drawn region: number m, which only looks, is taken first. -/
theorem wp_region_early {id : Nat} {a0 : Act} {w : World} (qs : List Fk) (m dm : Nat) (om : Oper) (js : List Nat) (hm : P.follows .mixedOrders = true) (hk : decide (qs.length ≤ ops.size) = true) (hE : backOk ops.toList = true) (hC : coverEarly ops.toList qs.length m = true) (hJ : chainOk ops (firstK qs.length ops.size) js = true)
    (hom : ops[m]? = some om) (hmd : om.dst = some dm) (hmk : decide (m < qs.length) = true) (hmg : om.guard = none) (hma : tgt om = []) (hns : Region.noSelect ops = true) (hfr : Region.free .any ops (Array.replicate ops.size false) m = true) (hrd : (Region.ready .any ops (Array.replicate ops.size false)).contains m = true)
    {v : Value} (hQ : ∀ c a w, Q (.panic c) (a.put om.dst v) w → Q (.panic c) a w) (hy : ∀ w, (execOp a0.eval om).run P w = .ok (.value v) w) (hv : ∀ w, fkAt qs m v w)
    (hD : dstsOk a0.tmps.size (ops.toList.take qs.length) = true) (hG : guardsOk ops.toList qs.length qs ops.toList qs = true)
    (hS : Steps P Q ops.toList qs.length qs a0 w ops.toList qs)
    (hF : ∀ af w', Final ops.toList qs a0 af w' → Below w.heap.size w w' → wpList P ops Q (js.filterMap (ops[·]?)) af w') :
    (Code.region id ops true).wp P Q a0 w := by
  have hmk' := of_decide_eq_true hmk
  have hk' := of_decide_eq_true hk
  have hms : m < ops.size := (Array.getElem?_eq_some_iff.1 hom).1
  refine wp_region_held (S := fun _ => True) hm ?_
  obtain ⟨fuel, hf⟩ : ∃ f, ops.size = f + 1 := ⟨ops.size - 1, by omega⟩
  have key : wpAnyH P .any ops Q (fun _ => True) (fuel + 1) (Array.replicate ops.size false) a0 { w with drawn := w.drawn + 1 } := by
    refine wpAnyH_take hom hns hfr hrd hQ (.inl ⟨by unfold Region.wanted; rw [hmg], fun w _ => hy w⟩) trivial (anyH_true _ _ _ _ ?_)
    have hto : (ops.toList.take qs.length)[m]? = some om := by rw [List.getElem?_take, if_pos hmk', Array.getElem?_toList]; exact hom
    obtain ⟨d, hd, hlt, hallD⟩ := dstsOk_spec hD m om hto
    obtain rfl : dm = d := Option.some.inj (hmd.symm.trans hd)
    refine wp_mids_early m js hk' hE hC hJ hD hG hS hF fuel _ _ _ ?_ ?_ ?_ ?_
    · have h1 := unl_set (listed := Array.replicate ops.size false) (i := m) (by simp [hms])
      have h2 : unl (Array.replicate ops.size false) ≤ ops.size := by
        unfold unl
        exact Nat.le_trans (Array.countP_le_size) (by simp)
      omega
    · intro i o ho hl j hj
      by_cases e : i = m
      · subst e
        obtain rfl : o = om := Option.some.inj (ho.symm.trans hom)
        rw [hma] at hj
        cases hj
      · have hne : m ≠ i := fun h => e h.symm
        have : i < ops.size := (Array.getElem?_eq_some_iff.1 ho).1
        simp [hne, this] at hl
    · exact getD_set_same (by simp [hms])
    · refine ⟨by rw [put_size], by rw [put_def], by simp, fun t ht => put_other _ _ _ _ (freeOf_spec ht hto), fun j oj dj hj hoj hdj hlj => ?_, fun i h1 h2 => ?_, (Below.refl _ _).drew⟩
      · by_cases e : j = m
        · subst e
          obtain rfl : oj = om := Option.some.inj (hoj.symm.trans hom)
          obtain rfl : dj = dm := Option.some.inj (hdj.symm.trans hmd)
          have hev : (a0.put oj.dst v).eval (.tmp dj) = v := by
            have := put_same a0 dj v hlt
            rw [← hmd] at this
            simp [Act.eval, this]
          rw [hev]
          exact hv _
        · have hne : m ≠ j := fun h => e h.symm
          have : j < ops.size := (Array.getElem?_eq_some_iff.1 hoj).1
          simp [hne, this] at hlj
      · have hne : m ≠ i := by omega
        simp [hne, h2]
  rw [hf] at key ⊢
  exact key
end
end Go.Proofs.YtnppjlpnfijobaaDoor
