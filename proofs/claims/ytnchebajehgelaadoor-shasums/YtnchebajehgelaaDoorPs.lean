/- Plain: what the limbs come to as numbers: products, comparisons, roots. No program is spoken of. -/
import Derived.Test.YtnchebajehgelaaDoorPr
namespace Go.Proofs.YtnchebajehgelaaDoor
open Go.RowKit
/-- The number that limbs come to. -/
def val : List (BitVec 64) → Nat
  | [] => 0
  | x :: r => x.toNat + 65536 * val r
def Norm (l : List (BitVec 64)) : Prop := ∀ i, (l.getD i 0).toNat < 65536
theorem val_set : ∀ (l : List (BitVec 64)) (i : Nat) (y : BitVec 64), i < l.length → val (l.set i y) + (l.getD i 0).toNat * 65536 ^ i = val l + y.toNat * 65536 ^ i
  | [], i, _, h => by simp at h
  | x :: r, 0, y, _ => by simp [val]; omega
  | x :: r, i + 1, y, h => by
    have ih := val_set r i y (by simpa using h)
    simp only [List.set_cons_succ, val, List.getD_cons_succ]
    rw [Nat.pow_succ, ← Nat.mul_assoc, ← Nat.mul_assoc]
    generalize (r.getD i 0).toNat * 65536 ^ i = u at ih ⊢
    generalize y.toNat * 65536 ^ i = v at ih ⊢
    omega
theorem val_take : ∀ (l : List (BitVec 64)) (k : Nat), k < l.length → val (l.take (k + 1)) = val (l.take k) + (l.getD k 0).toNat * 65536 ^ k
  | [], k, h => by simp at h
  | x :: r, 0, _ => by simp [val]
  | x :: r, k + 1, h => by
    have ih := val_take r k (by simpa using h)
    rw [List.take_succ_cons, val, ih, List.take_succ_cons, val, List.getD_cons_succ, Nat.pow_succ, ← Nat.mul_assoc]
    generalize (r.getD k 0).toNat * 65536 ^ k = u
    omega
theorem val_split : ∀ (l : List (BitVec 64)) (k : Nat), val l = val (l.take k) + 65536 ^ k * val (l.drop k)
  | l, 0 => by simp [val]
  | [], k + 1 => by simp [val]
  | x :: r, k + 1 => by
    have ih := val_split r k
    rw [List.take_succ_cons, List.drop_succ_cons, val, val, ih, Nat.pow_succ, Nat.mul_add, Nat.mul_comm (65536 ^ k) 65536, Nat.mul_assoc]
    omega
theorem val_lt (l : List (BitVec 64)) (h : Norm l) : ∀ k, k ≤ l.length → val (l.take k) < 65536 ^ k
  | 0, _ => by simp [val]
  | k + 1, hk => by
    have ih := val_lt l h k (by omega)
    rw [val_take l k (by omega), Nat.pow_succ]
    have := h k
    have : (l.getD k 0).toNat * 65536 ^ k ≤ 65535 * 65536 ^ k := Nat.mul_le_mul_right _ (by omega)
    generalize 65536 ^ k = q at *
    omega
theorem getD_set (l : List (BitVec 64)) (i j : Nat) (y : BitVec 64) (h : i < l.length) : (l.set i y).getD j 0 = if i = j then y else l.getD j 0 := by
  rw [List.getD_eq_getElem?_getD, List.getElem?_set]
  by_cases e : i = j
  · subst e; simp [h]
  · simp [e]
theorem mulS_at (L a b : List (BitVec 64)) (i : Nat) (hL : L.length = 16) (nL : Norm L) (na : Norm a) (nb : Norm b) (hi : i ≤ 16) : ∀ k, k ≤ 16 - i → ∀ j, ((mulS L a b i k).getD j 0).toNat = (L.getD j 0).toNat + if i ≤ j ∧ j < i + k then (a.getD i 0).toNat * (b.getD (j - i) 0).toNat else 0
  | 0, _, j => by rw [if_neg (by omega)]; rfl
  | k + 1, hk, j => by
    have ih := mulS_at L a b i hL nL na nb hi k (by omega)
    have hl := mulS_len L a b i k
    rw [mulS, getD_set _ _ _ _ (by omega)]
    by_cases e : i + k = j
    · rw [if_pos e, ← e, if_pos (by omega), show i + k - i = k by omega, BitVec.toNat_add, BitVec.toNat_mul, ih (i + k), if_neg (by omega), Nat.add_zero]
      have h1 := nL (i + k)
      have h2 := na i
      have h3 := nb k
      have h4 : (a.getD i 0).toNat * (b.getD k 0).toNat ≤ 65535 * 65535 := Nat.mul_le_mul (by omega) (by omega)
      rw [Nat.mod_eq_of_lt (a := (a.getD i 0).toNat * (b.getD k 0).toNat) (by omega), Nat.mod_eq_of_lt (by omega)]
    · rw [if_neg e, ih j]
      by_cases h : i ≤ j ∧ j < i + k
      · rw [if_pos h, if_pos (by omega)]
      · rw [if_neg h, if_neg (by omega)]
theorem mulS_val (L a b : List (BitVec 64)) (i : Nat) (hL : L.length = 16) (hb : b.length = 16) (nL : Norm L) (na : Norm a) (nb : Norm b) (hi : i ≤ 16) : ∀ k, k ≤ 16 - i → val (mulS L a b i k) = val L + (a.getD i 0).toNat * 65536 ^ i * val (b.take k)
  | 0, _ => by simp [mulS, val]
  | k + 1, hk => by
    have ih := mulS_val L a b i hL hb nL na nb hi k (by omega)
    have hl := mulS_len L a b i k
    have hs := val_set (mulS L a b i k) (i + k) ((mulS L a b i k).getD (i + k) 0 + a.getD i 0 * b.getD k 0) (by omega)
    have h1 := mulS_at L a b i hL nL na nb hi k (by omega) (i + k)
    have h2 := mulS_at L a b i hL nL na nb hi (k + 1) hk (i + k)
    rw [mulS, getD_set _ _ _ _ (by omega), if_pos rfl, if_pos (by omega), show i + k - i = k by omega] at h2
    rw [if_neg (by omega), Nat.add_zero] at h1
    rw [h1, h2, ih] at hs
    rw [mulS, val_take b k (by omega), Nat.mul_add]
    have e : (a.getD i 0).toNat * 65536 ^ i * ((b.getD k 0).toNat * 65536 ^ k) = (a.getD i 0).toNat * (b.getD k 0).toNat * 65536 ^ (i + k) := by
      rw [Nat.pow_add, Nat.mul_assoc, Nat.mul_assoc, Nat.mul_left_comm (65536 ^ i)]
    rw [e]
    rw [Nat.add_mul] at hs
    omega
theorem q16_n (x : BitVec 64) : (q16 x).toNat = x.toNat / 65536 := by
  unfold q16; rw [BitVec.toNat_ushiftRight, Nat.shiftRight_eq_div_pow]
theorem r16_n (x : BitVec 64) : (r16 x).toNat = x.toNat % 65536 := by
  unfold r16; rw [BitVec.toNat_ofNat]; omega
/-- What holds behind k carries. -/
structure Carried (l : List (BitVec 64)) (V k : Nat) : Prop where
  len : l.length = 16
  low : ∀ j, j < k → (l.getD j 0).toNat < 65536
  here : (l.getD k 0).toNat < 17179869184
  high : ∀ j, k < j → (l.getD j 0).toNat < 8589934592
  val : val l = V
theorem carried_step {l : List (BitVec 64)} {V k : Nat} (h : Carried l V k) (hk : k < 15) : Carried (cst l k) V (k + 1) := by
  have hl := h.len
  have hh := h.here
  have hn := h.high (k + 1) (by omega)
  have hadd : (l.getD (k + 1) 0 + q16 (l.getD k 0)).toNat = (l.getD (k + 1) 0).toNat + (l.getD k 0).toNat / 65536 := by
    rw [BitVec.toNat_add, q16_n]
    exact Nat.mod_eq_of_lt (by omega)
  have hat : ∀ j, (cst l k).getD j 0 = if k = j then r16 (l.getD k 0) else if k + 1 = j then l.getD (k + 1) 0 + q16 (l.getD k 0) else l.getD j 0 := fun j => by
    rw [cst_eq, getD_set _ _ _ _ (by simp; omega), getD_set _ _ _ _ (by omega)]
  refine ⟨by rw [cst_len]; exact hl, fun j hj => ?_, ?_, fun j hj => ?_, ?_⟩
  · rw [hat]
    by_cases e : k = j
    · rw [if_pos e, r16_n]; omega
    · rw [if_neg e, if_neg (by omega)]; exact h.low j (by omega)
  · rw [hat, if_neg (by omega), if_pos rfl, hadd]; omega
  · rw [hat, if_neg (by omega), if_neg (by omega)]; exact h.high j (by omega)
  · have s1 := val_set l (k + 1) (l.getD (k + 1) 0 + q16 (l.getD k 0)) (by omega)
    have s2 := val_set (l.set (k + 1) (l.getD (k + 1) 0 + q16 (l.getD k 0))) k (r16 (l.getD k 0)) (by simp; omega)
    rw [getD_set _ _ _ _ (by omega), if_neg (by omega)] at s2
    rw [← cst_eq] at s2
    rw [hadd] at s1
    rw [r16_n] at s2
    rw [← h.val]
    rw [Nat.add_mul, Nat.pow_succ, ← Nat.mul_assoc, ← Nat.mul_assoc] at s1
    have e : (l.getD k 0).toNat * 65536 ^ k = (l.getD k 0).toNat / 65536 * 65536 ^ k * 65536 + (l.getD k 0).toNat % 65536 * 65536 ^ k := by
      rw [Nat.mul_assoc, Nat.mul_comm (65536 ^ k) 65536, ← Nat.mul_assoc, ← Nat.add_mul]
      congr 1
      omega
    rw [Nat.mul_assoc ((l.getD k 0).toNat / 65536) (65536 ^ k) 65536] at s1
    rw [e, Nat.mul_assoc ((l.getD k 0).toNat / 65536) (65536 ^ k) 65536] at s2
    omega
theorem carried_all {l : List (BitVec 64)} {V : Nat} (h : Carried l V 0) : ∀ k, k ≤ 15 → Carried (car l k) V k
  | 0, _ => h
  | k + 1, hk => carried_step (carried_all h k (by omega)) (by omega)
theorem norm_of {l : List (BitVec 64)} {V : Nat} (h : Carried l V 15) (hV : V < 65536 ^ 16) : Norm l := by
  intro j
  by_cases h1 : j < 15
  · exact h.low j h1
  · by_cases h2 : j = 15
    · subst h2
      have hl := h.len
      have e1 := val_take l 15 (by omega)
      rw [List.take_of_length_le (by omega), h.val] at e1
      have e2 : (65536 : Nat) ^ 16 = 65536 * 65536 ^ 15 := by rw [Nat.pow_succ, Nat.mul_comm]
      rw [e2] at hV
      have h3 : (l.getD 15 0).toNat * 65536 ^ 15 < 65536 * 65536 ^ 15 := by omega
      exact Nat.lt_of_mul_lt_mul_right h3
    · have hl := h.len
      rw [List.getD_eq_getElem?_getD, List.getElem?_eq_none (by omega)]
      decide
theorem Z16_norm : Norm Z16 := fun j => by
  rw [List.getD_eq_getElem?_getD]
  by_cases h : j < 16
  · have : Z16[j]? = some 0 := by unfold Z16; rw [List.getElem?_replicate, if_pos h]
    rw [this]; decide
  · rw [List.getElem?_eq_none (by have : Z16.length = 16 := rfl
                                  omega)]
    decide
theorem Z16_val : val Z16 = 0 := by decide
theorem times_val (a b : List (BitVec 64)) (ha : a.length = 16) (hb : b.length = 16) (na : Norm a) (nb : Norm b) (hAB : val a * val b < 65536 ^ 16) : ∀ i, i ≤ 16 → Norm (mulL a b i) ∧ val (mulL a b i) = val (a.take i) * val b
  | 0, _ => ⟨Z16_norm, by simp [mulL, Z16_val, val]⟩
  | i + 1, hi => by
    obtain ⟨nL, vL⟩ := times_val a b ha hb na nb hAB i (by omega)
    have hL := mulL_len a b i
    have hv := mulS_val (mulL a b i) a b i hL hb nL na nb (by omega) (16 - i) (Nat.le_refl _)
    have hT : (a.getD i 0).toNat * val (b.take (16 - i)) = (a.getD i 0).toNat * val b := by
      by_cases h0 : (a.getD i 0).toNat = 0
      · rw [h0, Nat.zero_mul, Nat.zero_mul]
      · have hA : 65536 ^ i ≤ val a := by
          have e1 := val_take a i (by omega)
          have e2 := val_split a (i + 1)
          have e3 : 1 * 65536 ^ i ≤ (a.getD i 0).toNat * 65536 ^ i := Nat.mul_le_mul_right _ (by omega)
          omega
        have hB : val b < 65536 ^ (16 - i) := by
          rcases Nat.lt_or_ge (val b) (65536 ^ (16 - i)) with h | h
          · exact h
          · have := Nat.mul_le_mul hA h
            rw [← Nat.pow_add, show i + (16 - i) = 16 by omega] at this
            omega
        have e4 := val_split b (16 - i)
        have e5 : val (b.drop (16 - i)) = 0 := by
          rcases Nat.eq_zero_or_pos (val (b.drop (16 - i))) with h | h
          · exact h
          · have : 65536 ^ (16 - i) * 1 ≤ 65536 ^ (16 - i) * val (b.drop (16 - i)) := Nat.mul_le_mul_left _ h
            omega
        rw [e5, Nat.mul_zero, Nat.add_zero] at e4
        rw [← e4]
    have hV : val (mulS (mulL a b i) a b i (16 - i)) = val (a.take (i + 1)) * val b := by
      rw [hv, vL, val_take a i (by omega), Nat.add_mul, Nat.mul_right_comm _ (65536 ^ i), Nat.mul_right_comm _ (65536 ^ i), hT]
    have hlt : val (a.take (i + 1)) * val b < 65536 ^ 16 := by
      have e2 := val_split a (i + 1)
      have : val (a.take (i + 1)) * val b ≤ val a * val b := Nat.mul_le_mul_right _ (by omega)
      omega
    have hC : Carried (mulS (mulL a b i) a b i (16 - i)) (val (a.take (i + 1)) * val b) 0 := by
      have hbd : ∀ j, ((mulS (mulL a b i) a b i (16 - i)).getD j 0).toNat < 8589934592 := fun j => by
        rw [mulS_at (mulL a b i) a b i hL nL na nb (by omega) (16 - i) (Nat.le_refl _) j]
        have h1 := nL j
        have h4 : (a.getD i 0).toNat * (b.getD (j - i) 0).toNat ≤ 65535 * 65535 := Nat.mul_le_mul (by have := na i; omega) (by have := nb (j - i); omega)
        split <;> omega
      exact ⟨by rw [mulS_len]; exact hL, fun j hj => by omega, by have := hbd 0; omega, fun j _ => hbd j, hV⟩
    have hE := carried_all hC 15 (Nat.le_refl _)
    exact ⟨norm_of hE hlt, hE.val⟩
/-- The limbs l come to the number v. -/
structure Num (l : List (BitVec 64)) (v : Nat) : Prop where
  len : l.length = 16
  norm : Norm l
  val : val l = v
theorem num_times {a b : List (BitVec 64)} {x y : Nat} (ha : Num a x) (hb : Num b y) (h : x * y < 65536 ^ 16) : Num (mulL a b 16) (x * y) := by
  have ht := times_val a b ha.len hb.len ha.norm hb.norm (by rw [ha.val, hb.val]; exact h) 16 (Nat.le_refl _)
  refine ⟨mulL_len _ _ _, ht.1, ?_⟩
  rw [ht.2, List.take_of_length_le (by rw [ha.len]; exact Nat.le_refl _), ha.val, hb.val]
theorem abv_val (a b : List (BitVec 64)) (ha : a.length = 16) (hb : b.length = 16) (na : Norm a) (nb : Norm b) : ∀ k, k ≤ 16 → abv a b k = decide (val (b.take k) < val (a.take k))
  | 0, _ => by simp [abv, val]
  | k + 1, hk => by
    have ih := abv_val a b ha hb na nb k (by omega)
    have la := val_lt a na k (by omega)
    have lb := val_lt b nb k (by omega)
    rw [abv, val_take a k (by omega), val_take b k (by omega)]
    unfold wl
    generalize (a.getD k 0).toNat = x
    generalize (b.getD k 0).toNat = y
    by_cases e : x = y
    · subst e
      rw [if_pos rfl, ih]
      congr 1
      apply propext
      constructor <;> intro h <;> omega
    · rw [if_neg (by omega)]
      rcases Nat.lt_or_gt_of_ne e with h | h
      · have : (x + 1) * 65536 ^ k ≤ y * 65536 ^ k := Nat.mul_le_mul_right _ h
        rw [Nat.add_mul, Nat.one_mul] at this
        rw [decide_eq_false (by omega), decide_eq_false (by omega)]
      · have : (y + 1) * 65536 ^ k ≤ x * 65536 ^ k := Nat.mul_le_mul_right _ h
        rw [Nat.add_mul, Nat.one_mul] at this
        rw [decide_eq_true (by omega), decide_eq_true (by omega)]
theorem num_above {a b : List (BitVec 64)} {x y : Nat} (ha : Num a x) (hb : Num b y) : abv a b 16 = decide (y < x) := by
  rw [abv_val a b ha.len hb.len ha.norm hb.norm 16 (Nat.le_refl _), List.take_of_length_le (by rw [hb.len]; exact Nat.le_refl _), List.take_of_length_le (by rw [ha.len]; exact Nat.le_refl _), ha.val, hb.val]
theorem ofR_n (x : BitVec 64) : ∀ k, (ofR x k).toNat = x.toNat / 65536 ^ k
  | 0 => by simp [ofR]
  | k + 1 => by rw [ofR, q16_n, ofR_n x k, Nat.div_div_eq_div_mul, Nat.pow_succ]
theorem ofL_at (x : BitVec 64) : ∀ k, k ≤ 16 → ∀ j, ((ofL x k).getD j 0).toNat = if j < k then (ofR x j).toNat % 65536 else 0
  | 0, _, j => by
    rw [if_neg (by omega)]
    show (Z16.getD j 0).toNat = 0
    rw [List.getD_eq_getElem?_getD]
    by_cases h : j < 16
    · have : Z16[j]? = some 0 := by unfold Z16; rw [List.getElem?_replicate, if_pos h]
      rw [this]; rfl
    · rw [List.getElem?_eq_none (by have : Z16.length = 16 := rfl
                                    omega)]
      rfl
  | k + 1, hk, j => by
    have ih := ofL_at x k (by omega) j
    have hl := ofL_len x k
    rw [ofL, getD_set _ _ _ _ (by omega)]
    by_cases e : k = j
    · subst e; rw [if_pos rfl, if_pos (by omega), r16_n]
    · rw [if_neg e, ih]
      by_cases h : j < k
      · rw [if_pos h, if_pos (by omega)]
      · rw [if_neg h, if_neg (by omega)]
theorem ofL_val (x : BitVec 64) : ∀ k, k ≤ 16 → val (ofL x k) + 65536 ^ k * (ofR x k).toNat = x.toNat
  | 0, _ => by simp [ofL, ofR, Z16_val]
  | k + 1, hk => by
    have ih := ofL_val x k (by omega)
    have hl := ofL_len x k
    have hs := val_set (ofL x k) k (r16 (ofR x k)) (by omega)
    rw [ofL_at x k (by omega) k, if_neg (by omega), Nat.zero_mul, Nat.add_zero, r16_n] at hs
    rw [ofL, hs, ofR, q16_n, Nat.pow_succ, Nat.mul_assoc]
    have e : (ofR x k).toNat = 65536 * ((ofR x k).toNat / 65536) + (ofR x k).toNat % 65536 := by omega
    generalize (ofR x k).toNat / 65536 = u at e ⊢
    generalize (ofR x k).toNat % 65536 = v at e ⊢
    rw [e, Nat.mul_add, Nat.mul_comm (65536 ^ k) v] at ih
    omega
theorem num_of (x : BitVec 64) : Num (ofL x 4) x.toNat := by
  refine ⟨ofL_len _ _, fun j => ?_, ?_⟩
  · rw [ofL_at x 4 (by omega) j]
    split <;> omega
  · have h := ofL_val x 4 (by omega)
    have h0 : (ofR x 4).toNat = 0 := by rw [ofR_n]; have := x.isLt; omega
    rw [h0, Nat.mul_zero, Nat.add_zero] at h
    exact h
theorem num_goal (p : BitVec 64) : ∀ i, i ≤ 3 → Num (goalL p i) (p.toNat * 4294967296 ^ i)
  | 0, _ => by
    rw [Nat.pow_zero, Nat.mul_one]; exact num_of p
  | i + 1, hi => by
    have ih := num_goal p i (by omega)
    have h32 := num_of 4294967296
    have e : (4294967296 : BitVec 64).toNat = 4294967296 := rfl
    rw [e] at h32
    rw [Nat.pow_succ, ← Nat.mul_assoc]
    refine num_times ih h32 ?_
    have h1 : (4294967296 : Nat) ^ i ≤ 4294967296 ^ 2 := Nat.pow_le_pow_right (by omega) (by omega)
    have h2 : p.toNat * 4294967296 ^ i ≤ 18446744073709551616 * 4294967296 ^ 2 := Nat.mul_le_mul (by have := p.isLt; omega) h1
    have h3 := Nat.mul_le_mul_right 4294967296 h2
    exact Nat.lt_of_le_of_lt h3 (by decide)
theorem num_pow (x : BitVec 64) : ∀ i, i ≤ 3 → Num (powL x i) (x.toNat ^ i)
  | 0, _ => num_of 1
  | i + 1, hi => by
    have ih := num_pow x i (by omega)
    rw [Nat.pow_succ]
    refine num_times ih (num_of x) ?_
    have hx : x.toNat ≤ 18446744073709551616 := by have := x.isLt; omega
    have h1 : x.toNat ^ i ≤ 18446744073709551616 ^ 2 := Nat.le_trans (Nat.pow_le_pow_left hx i) (Nat.pow_le_pow_right (by omega) (by omega))
    have h2 := Nat.mul_le_mul h1 hx
    exact Nat.lt_of_le_of_lt h2 (by decide)
/-- The root on plain numbers. -/
def rootN (p n : Nat) : Nat → Nat
  | 0 => 0
  | j + 1 => if p * 4294967296 ^ n < (rootN p n j + 2 ^ (40 - j)) ^ n then rootN p n j else rootN p n j + 2 ^ (40 - j)
theorem bit_all : ∀ j : Fin 41, (bitL j.val).toNat = 2 ^ (40 - j.val) := by decide +kernel
theorem rt_n (p : BitVec 64) (n : Nat) (hn : n ≤ 3) : ∀ j, j ≤ 41 → (rtL p n j).toNat = rootN p.toNat n j ∧ rootN p.toNat n j ≤ 2199023255552 - 2 ^ (41 - j)
  | 0, _ => by simp [rtL, rootN]
  | j + 1, hj => by
    obtain ⟨h1, h2⟩ := rt_n p n hn j (by omega)
    have hb := bit_all ⟨j, by omega⟩
    simp only at hb
    have hp : 2 ^ (41 - j) = 2 * 2 ^ (40 - j) := by rw [show 41 - j = (40 - j) + 1 by omega, Nat.pow_succ, Nat.mul_comm]
    have hle : 2 ^ (40 - j) ≤ 2 ^ 40 := Nat.pow_le_pow_right (by omega) (by omega)
    have hs : (rtL p n j + bitL j).toNat = rootN p.toNat n j + 2 ^ (40 - j) := by
      rw [BitVec.toNat_add, h1, hb]
      exact Nat.mod_eq_of_lt (by omega)
    have ha := num_above (num_pow (rtL p n j + bitL j) n hn) (num_goal p n hn)
    rw [hs] at ha
    rw [rtL, rootN, ha, show 41 - (j + 1) = 40 - j by omega]
    by_cases hc : p.toNat * 4294967296 ^ n < (rootN p.toNat n j + 2 ^ (40 - j)) ^ n
    · rw [if_pos (by simpa using hc), if_pos hc]
      exact ⟨h1, by omega⟩
    · rw [if_neg (by simpa using hc), if_neg hc]
      exact ⟨hs, by omega⟩
def rtW (p n : Nat) : BitVec 32 := BitVec.ofNat 32 (rootN p n 41 % 4294967296)
theorem rt_w (p : BitVec 64) (n : Nat) (hn : n ≤ 3) : low32 (rtL p n 41) = rtW p.toNat n := by
  unfold low32 rtW
  rw [(rt_n p n hn 41 (Nat.le_refl _)).1]
def prims : List Nat := [2, 3, 5, 7, 11, 13, 17, 19, 23, 29, 31, 37, 41, 43, 47, 53, 59, 61, 67, 71, 73, 79, 83, 89, 97, 101, 103, 107, 109, 113, 127, 131, 137, 139, 149, 151, 157, 163, 167, 173, 179, 181, 191, 193, 197, 199, 211, 223, 227, 229, 233, 239, 241, 251, 257, 263, 269, 271, 277, 281, 283, 293, 307, 311]
theorem roots3 : prims.map (rtW · 3) = KN := by decide +kernel
theorem roots2 : (prims.take 8).map (rtW · 2) = St.first.list := by decide +kernel
end Go.Proofs.YtnchebajehgelaaDoor
