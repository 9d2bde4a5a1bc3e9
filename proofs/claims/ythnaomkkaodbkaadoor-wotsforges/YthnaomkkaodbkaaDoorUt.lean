/- Of two hashes that differ each has a digit that is less. -/
import Derived.Test.YthnaomkkaodbkaaDoorUp
namespace Go.Proofs.YthnaomkkaodbkaaDoor
open Go.RowKit
/-- Has the first one a digit that is less, of the first k? -/
def lessB (a b : List (BitVec 8)) : Nat → Bool
  | 0 => false
  | k + 1 => lessB a b k || decide (dg a k < dg b k)
theorem lessB_spec (a b : List (BitVec 8)) : ∀ k, lessB a b k = false ↔ ∀ i, i < k → dg b i ≤ dg a i
  | 0 => by simp [lessB]
  | k + 1 => by
    have ih := lessB_spec a b k
    simp only [lessB, Bool.or_eq_false_iff, ih, decide_eq_false_iff_not]
    constructor
    · rintro ⟨h1, h2⟩ i hi
      by_cases e : i = k
      · subst e; omega
      · exact h1 i (by omega)
    · intro h
      exact ⟨fun i hi => h i (by omega), by have := h k (by omega); omega⟩
theorem dg_half (a : List (BitVec 8)) (i : Nat) (h : i < 64) : dg a i = half a i := by
  unfold dg dig
  rw [List.getD_eq_getElem?_getD, List.getElem?_append_left (by rw [hds_len]; exact h)]
  simp [hds, h]
theorem dg_64 (a : List (BitVec 8)) : dg a 64 = lef a 64 / 256 := by
  unfold dg dig
  rw [List.getD_eq_getElem?_getD, List.getElem?_append_right (by rw [hds_len]; omega), hds_len]; rfl
theorem dg_65 (a : List (BitVec 8)) : dg a 65 = lef a 64 / 16 % 16 := by
  unfold dg dig
  rw [List.getD_eq_getElem?_getD, List.getElem?_append_right (by rw [hds_len]; omega), hds_len]; rfl
theorem dg_66 (a : List (BitVec 8)) : dg a 66 = lef a 64 % 16 := by
  unfold dg dig
  rw [List.getD_eq_getElem?_getD, List.getElem?_append_right (by rw [hds_len]; omega), hds_len]; rfl
theorem lef_mono (a b : List (BitVec 8)) : ∀ n, (∀ i, i < n → half b i ≤ half a i) → lef a n ≤ lef b n ∧ (lef a n = lef b n → ∀ i, i < n → half a i = half b i)
  | 0, _ => ⟨Nat.le_refl _, fun _ i hi => by omega⟩
  | n + 1, h => by
    obtain ⟨h1, h2⟩ := lef_mono a b n (fun i hi => h i (by omega))
    have h3 := h n (by omega)
    have ha := half_le a n
    have hb := half_le b n
    simp only [lef]
    refine ⟨by omega, fun e i hi => ?_⟩
    by_cases e2 : i = n
    · subst e2; omega
    · exact h2 (by omega) i (by omega)
theorem halves_eq (a b : List (BitVec 8)) (ha : a.length = 32) (hb : b.length = 32) (h : ∀ i, i < 64 → half a i = half b i) : a = b := by
  apply List.ext_getElem (by omega)
  intro i h1 h2
  have e1 := h (2 * i) (by omega)
  have e2 := h (2 * i + 1) (by omega)
  rw [half_even, half_even] at e1
  rw [half_odd, half_odd] at e2
  have x1 : a.getD i 0 = a[i] := by simp [h1]
  have x2 : b.getD i 0 = b[i] := by simp [h2]
  rw [x1, x2] at e1 e2
  apply BitVec.eq_of_toNat_eq
  omega
theorem less_ne (a b : List (BitVec 8)) (ha : a.length = 32) (hb : b.length = 32) (h : a ≠ b) : lessB a b 67 = true := by
  cases e : lessB a b 67 with
  | true => rfl
  | false =>
    exfalso
    rw [lessB_spec] at e
    have h64 : ∀ i, i < 64 → half b i ≤ half a i := fun i hi => by
      have := e i (by omega)
      rw [dg_half a i hi, dg_half b i hi] at this
      exact this
    obtain ⟨h1, h2⟩ := lef_mono a b 64 h64
    have e0 := e 64 (by omega)
    have e1 := e 65 (by omega)
    have e2 := e 66 (by omega)
    rw [dg_64, dg_64] at e0
    rw [dg_65, dg_65] at e1
    rw [dg_66, dg_66] at e2
    exact h (halves_eq a b ha hb (h2 (by omega)))
theorem less_self (a : List (BitVec 8)) (k : Nat) : lessB a a k = false := by
  rw [lessB_spec]
  intro i _
  exact Nat.le_refl _
theorem less_t {a b : List (BitVec 8)} {k : Nat} (h : lessB a b k = true) : lessB a b (k + 1) = true := by simp [lessB, h]
theorem less_f {a b : List (BitVec 8)} {k d e : Nat} (h : lessB a b k = false) (hd : dg a k = d) (he : dg b k = e) : lessB a b (k + 1) = decide (d < e) := by simp [lessB, h, hd, he]
end Go.Proofs.YthnaomkkaodbkaaDoor
