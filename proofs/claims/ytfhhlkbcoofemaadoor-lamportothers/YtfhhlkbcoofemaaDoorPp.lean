/- Plain: two arrays of bytes are told equal just if they are. -/
import Derived.Test.YtfhhlkbcoofemaaDoorWh
namespace Go.Proofs.YtfhhlkbcoofemaaDoor
open Go.RowKit
/-- From place a on, n bytes: are they the same? -/
def sameFrom (xs ys : List (BitVec 8)) : Nat → Nat → Bool
  | _, 0 => true
  | a, n + 1 => (bv (xs.getD a 0) == bv (ys.getD a 0)) && sameFrom xs ys (a + 1) n
theorem part5 (w : World) (xs : List (BitVec 8)) (a : Nat) (h : a < xs.length) : (part 5 (xs.map V).toArray (a * 1)).run Tryd.prog w = .ok (.int .u8 (bv (xs.getD a 0))) w := by
  rw [Nat.mul_one]
  have hv : (xs.map V).toArray[a]? = some (.int .u8 (bv (xs.getD a 0))) := by simp [V, h]
  simp [part, Sem.run_bind, hv, Result.andThen]
theorem run_equal23' (m : Nat) (hm : ∀ (a b : Int) (w : World), (Op.equalIn m 5 (.int .u8 a) (.int .u8 b)).run Tryd.prog w = .ok (a == b) w) (w : World) (xs ys : List (BitVec 8)) (h1 : xs.length = 32) (h2 : ys.length = 32) : (Op.equalIn (m + 1) 23 (.agg (xs.map V).toArray) (.agg (ys.map V).toArray)).run Tryd.prog w = .ok (sameFrom xs ys 0 32) w := by
  simp only [Op.equalIn, Sem.run_bind, run_underlying Tryd.under23, Result.andThen_ok, Tryd.sizeOf5, Std.Legacy.Range.forIn_eq_forIn_range', Std.Legacy.Range.size]
  rw [show (32 - 0 + 1 - 1) / 1 = 32 from rfl]
  have hx : 0 + 32 ≤ xs.length := by omega
  have hy : 0 + 32 ≤ ys.length := by omega
  clear h1 h2
  revert hx hy
  generalize (0 : Nat) = a
  generalize (32 : Nat) = n
  induction n generalizing a with
  | zero => intro _ _; simp [sameFrom]
  | succ n ih =>
    intro hx hy
    have e1 := part5 w xs a (by omega)
    have e2 := part5 w ys a (by omega)
    simp only [List.range'_succ, List.forIn_cons, Sem.run_bind, e1, e2, hm, Result.andThen_ok, sameFrom]
    cases hq : (bv (xs.getD a 0) == bv (ys.getD a 0)) with
    | false => simp
    | true =>
      simp only [Bool.not_true, Bool.false_eq_true, if_false, Sem.run_pure, Result.andThen_ok, Bool.true_and]
      exact ih (a + 1) (by omega) (by omega)
theorem bv_inj {x y : BitVec 8} (h : bv x = bv y) : x = y := by
  unfold bv at h
  exact BitVec.eq_of_toNat_eq (by omega)
theorem sameFrom_iff (xs ys : List (BitVec 8)) : ∀ (n a : Nat), a + n = xs.length → a + n = ys.length → (sameFrom xs ys a n = true ↔ xs.drop a = ys.drop a)
  | 0, a, h1, h2 => by
    rw [List.drop_eq_nil_of_le (by omega), List.drop_eq_nil_of_le (by omega)]
    simp [sameFrom]
  | n + 1, a, h1, h2 => by
    have ih := sameFrom_iff xs ys n (a + 1) (by omega) (by omega)
    rw [sameFrom, Bool.and_eq_true, ih, beq_iff_eq, List.drop_eq_getElem_cons (show a < xs.length by omega), List.drop_eq_getElem_cons (show a < ys.length by omega), List.cons.injEq]
    have e1 : xs.getD a 0 = xs[a]'(by omega) := by simp [show a < xs.length by omega]
    have e2 : ys.getD a 0 = ys[a]'(by omega) := by simp [show a < ys.length by omega]
    rw [e1, e2]
    exact ⟨fun h => ⟨bv_inj h.1, h.2⟩, fun h => ⟨by rw [h.1], h.2⟩⟩
theorem run_equal23 (w : World) (xs ys : List (BitVec 8)) (h1 : xs.length = 32) (h2 : ys.length = 32) : (Op.equalIn 10000 23 (.agg (xs.map V).toArray) (.agg (ys.map V).toArray)).run Tryd.prog w = .ok (decide (xs = ys)) w := by
  have h := run_equal23' 9999 (fun a b w => run_equalIn_int w 9998 5 .u8 .u8 a b Tryd.under5) w xs ys h1 h2
  have e : sameFrom xs ys 0 32 = decide (xs = ys) := by
    rw [Bool.eq_iff_iff, sameFrom_iff xs ys 32 0 (by omega) (by omega)]
    simp
  rw [← e]
  exact h
theorem run_equal25_same (w : World) (xs : List (BitVec 8)) (h1 : xs.length = 32) : (Op.equalIn 10000 23 (.agg (xs.map V).toArray) (.agg (xs.map V).toArray)).run Tryd.prog w = .ok true w := by
  rw [run_equal23 w xs xs h1 h1]; simp
end Go.Proofs.YtfhhlkbcoofemaaDoor
