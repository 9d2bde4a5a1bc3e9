/- Plain: the sum of bytes by way of all blocks at once; what is put behind them, one by one; the sum's bytes one by one. -/
import Derived.Test.YtnchebajehgelaaDoorPq
import Derived.Test.YtnchebajehgelaaDoorPr
namespace Go.Proofs.YtnchebajehgelaaDoor
open Go.RowKit
theorem sha_plain (m : List (BitVec 8)) : shaOf m = hsh (mixs St.first (m ++ padOf m.length) ((m ++ padOf m.length).length / 64)) 8 := by
  have h0 := rep_write rep_new m
  rw [List.nil_append] at h0
  have h2 := rep_write h0 (padOf (Dg.new.write m).len)
  unfold shaOf Dg.sum
  rw [h2.st, h0.len]
def cbs (n : Nat) : Nat → List (BitVec 8)
  | 0 => []
  | k + 1 => cbs n k ++ [cb n k]
theorem cbs_len (n k : Nat) : (cbs n k).length = k := by
  induction k with
  | zero => rfl
  | succ k ih => simp [cbs, ih]
theorem set_take (L : List (BitVec 8)) (j : Nat) (y : BitVec 8) (h : j < L.length) : (L.set j y).take (j + 1) = L.take j ++ [y] := by
  rw [List.take_add_one, List.getElem?_set_self h, List.take_set_of_le (Nat.le_refl _)]; rfl
theorem padOf_parts (n : Nat) : padOf n = [128] ++ List.replicate ((119 - n % 64) % 64) 0 ++ cbs n 8 := by
  have key : ∀ k, k ≤ 8 → (padArr n k).take (padEnd n + k) = [128] ++ List.replicate ((119 - n % 64) % 64) 0 ++ cbs n k := by
    intro k
    induction k with
    | zero =>
      intro _
      have e : (List.replicate 72 (0 : BitVec 8)).set 0 128 = 128 :: List.replicate 71 0 := rfl
      rw [padArr, e, padEnd, Nat.add_zero, Nat.add_comm, List.take_succ_cons, List.take_replicate, cbs, List.append_nil, show min ((119 - n % 64) % 64) 71 = (119 - n % 64) % 64 by omega]; rfl
    | succ k ih =>
      intro hk
      rw [padArr, show padEnd n + (k + 1) = padEnd n + k + 1 by omega, set_take _ _ _ (by rw [padArr_len]; unfold padEnd; omega), ih (by omega), cbs]; simp
  exact key 8 (Nat.le_refl _)
theorem padOf_len (n : Nat) : (padOf n).length = 1 + (119 - n % 64) % 64 + 8 := by
  rw [padOf_parts]; simp [cbs_len]; omega
/-- The sum's bytes, i of them. -/
def oth (s : St) : Nat → List (BitVec 8)
  | 0 => List.replicate 32 0
  | i + 1 => (oth s i).set i (byt (s.list.getD (i / 4) 0) (i % 4))
theorem oth_len (s : St) (i : Nat) : (oth s i).length = 32 := by
  induction i with
  | zero => simp [oth]
  | succ k ih => simp [oth, ih]
theorem oth_four (s : St) : ∀ k, oth s (4 * k) = hsh s k
  | 0 => rfl
  | k + 1 => by
    have e : oth s (4 * k + 4) = ((((oth s (4 * k)).set (4 * k) (byt (s.list.getD (4 * k / 4) 0) (4 * k % 4))).set (4 * k + 1) (byt (s.list.getD ((4 * k + 1) / 4) 0) ((4 * k + 1) % 4))).set (4 * k + 2) (byt (s.list.getD ((4 * k + 2) / 4) 0) ((4 * k + 2) % 4))).set (4 * k + 3) (byt (s.list.getD ((4 * k + 3) / 4) 0) ((4 * k + 3) % 4)) := rfl
    rw [show 4 * (k + 1) = 4 * k + 4 by omega, e, oth_four s k, hsh, show 4 * k / 4 = k by omega, show (4 * k + 1) / 4 = k by omega, show (4 * k + 2) / 4 = k by omega, show (4 * k + 3) / 4 = k by omega,
      show 4 * k % 4 = 0 by omega, show (4 * k + 1) % 4 = 1 by omega, show (4 * k + 2) % 4 = 2 by omega, show (4 * k + 3) % 4 = 3 by omega]
/-- The count of bits, turned left by i bytes; its first byte. -/
def cw (n i : Nat) : BitVec 64 := BitVec.ofNat 64 (n * 8 * 256 ^ i)
def topb (x : BitVec 64) : BitVec 8 := BitVec.ofNat 8 (x.toNat / 72057594037927936)
theorem cw_next (n i : Nat) : cw n (i + 1) = cw n i * 256 := by
  unfold cw
  apply BitVec.eq_of_toNat_eq
  rw [BitVec.toNat_mul, BitVec.toNat_ofNat, BitVec.toNat_ofNat, Nat.pow_succ, ← Nat.mul_assoc]
  simp [Nat.mul_mod]
theorem cw_top (n : Nat) (h : n < 1000000) (i : Nat) (hi : i < 8) : topb (cw n i) = cb n i := by
  unfold topb cw cb
  apply BitVec.eq_of_toNat_eq
  rw [BitVec.toNat_ofNat, BitVec.toNat_ofNat, BitVec.toNat_ofNat]
  match i, hi with
  | 0, _ => simp only [Nat.reducePow, Nat.reduceMul, Nat.reduceSub]; omega
  | 1, _ => simp only [Nat.reducePow, Nat.reduceMul, Nat.reduceSub]; omega
  | 2, _ => simp only [Nat.reducePow, Nat.reduceMul, Nat.reduceSub]; omega
  | 3, _ => simp only [Nat.reducePow, Nat.reduceMul, Nat.reduceSub]; omega
  | 4, _ => simp only [Nat.reducePow, Nat.reduceMul, Nat.reduceSub]; omega
  | 5, _ => simp only [Nat.reducePow, Nat.reduceMul, Nat.reduceSub]; omega
  | 6, _ => simp only [Nat.reducePow, Nat.reduceMul, Nat.reduceSub]; omega
  | 7, _ => simp only [Nat.reducePow, Nat.reduceMul, Nat.reduceSub]; omega
theorem wl_top (x : BitVec 64) : wl x / (72057594037927936 : Int) = bv (topb x) := by
  unfold wl topb; rw [bv_lit]; have := x.isLt; omega
theorem wl_256 (x : BitVec 64) : (wl x * (256 : Int)) % (18446744073709551616 : Int) = wl (x * 256) := by
  unfold wl; rw [BitVec.toNat_mul]; simp
theorem cw_zero (n : Nat) (h : n < 1000000) : wl (cw n 0) = (n : Int) * 8 := by
  unfold wl cw; rw [BitVec.toNat_ofNat, Nat.pow_zero]; omega
end Go.Proofs.YtnchebajehgelaaDoor
