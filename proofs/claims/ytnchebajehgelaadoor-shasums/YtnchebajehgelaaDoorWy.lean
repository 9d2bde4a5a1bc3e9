/- What the reference's turn hands back: a word turned right. -/
import Derived.Test.YtnchebajehgelaaDoorPs
import Derived.Test.YtnchebajehgelaaDoorWx
namespace Go.Proofs.YtnchebajehgelaaDoor
open Go.RowKit
theorem rot_bit (x : BitVec 32) (n i : Nat) (hn : n ≤ 32) (hi : i < 32) : (rot x n).getLsbD i = if i < 32 - n then x.getLsbD (i + n) else x.getLsbD (i - (32 - n)) := by
  unfold rot
  rw [BitVec.getLsbD_or, BitVec.getLsbD_shiftLeft, BitVec.getLsbD_ushiftRight]
  by_cases h : i < 32 - n
  · simp [h, hi, Nat.add_comm]
  · have : x.getLsbD (n + i) = false := BitVec.getLsbD_of_ge _ _ (by omega)
    simp [h, hi, this]
theorem rot_succ (x : BitVec 32) (k : Nat) (hk : k + 1 ≤ 32) : rot (rot x k) 1 = rot x (k + 1) := by
  apply BitVec.eq_of_getLsbD_eq
  intro i hi
  rw [rot_bit _ 1 i (by omega) hi, rot_bit _ (k + 1) i hk hi]
  by_cases h : i < 31
  · rw [if_pos (by omega), rot_bit _ k _ (by omega) (by omega)]
    by_cases h2 : i < 32 - (k + 1)
    · rw [if_pos (by omega), if_pos h2]; congr 1; omega
    · rw [if_neg (by omega), if_neg h2]; congr 1; omega
  · rw [if_neg (by omega), rot_bit _ k _ (by omega) (by omega), if_pos (by omega), if_neg (by omega)]; congr 1; omega
theorem rot_zero (x : BitVec 32) : rot x 0 = x := by
  apply BitVec.eq_of_getLsbD_eq
  intro i hi
  rw [rot_bit _ 0 i (by omega) hi]; simp [hi]
theorem rot_one (y : BitVec 32) : (y >>> 1) + ((y &&& 1#32) <<< 31) = rot y 1 := by
  rw [BitVec.add_eq_or_of_and_eq_zero]
  · apply BitVec.eq_of_getLsbD_eq
    intro i hi
    rw [rot_bit _ 1 i (by omega) hi, BitVec.getLsbD_or, BitVec.getLsbD_shiftLeft, BitVec.getLsbD_ushiftRight, BitVec.getLsbD_and]
    by_cases h : i < 31
    · simp [h, hi, Nat.add_comm]
    · obtain rfl : i = 31 := by omega
      simp
  · apply BitVec.eq_of_getLsbD_eq
    intro i hi
    rw [BitVec.getLsbD_and, BitVec.getLsbD_shiftLeft, BitVec.getLsbD_ushiftRight]
    by_cases h : i < 31
    · simp [h]
    · obtain rfl : i = 31 := by omega
      simp
theorem vl_half (x : BitVec 32) : vl x / (2 : Int) = vl (x >>> 1) := by
  unfold vl; rw [BitVec.toNat_ushiftRight, Nat.shiftRight_eq_div_pow]; omega
theorem vl_halft (x : BitVec 32) : (vl x).tdiv (2 : Int) = vl (x >>> 1) := by
  rw [Int.tdiv_eq_ediv_of_nonneg (vl_range x).1, vl_half]
theorem vl_odd (x : BitVec 32) : vl x % (2 : Int) = vl (x &&& 1#32) := by
  unfold vl; rw [BitVec.toNat_and, show (1#32).toNat = 1 from rfl, Nat.and_one_is_mod]; omega
theorem vl_oddt (x : BitVec 32) : (vl x).tmod (2 : Int) = vl (x &&& 1#32) := by
  rw [Int.tmod_eq_emod_of_nonneg (vl_range x).1, vl_odd]
theorem vl_top (x : BitVec 32) : (vl x * (2147483648 : Int)) % (4294967296 : Int) = vl (x <<< 31) := by
  rw [← vl_shl]; rfl
theorem vl_topw (x : BitVec 32) : IntKind.u32.wrap (vl x * (2147483648 : Int)) = vl (x <<< 31) := by
  rw [IntKind.wrap_u32']; exact vl_top x
attribute [local go_sem] vl_half vl_halft vl_odd vl_oddt vl_top vl_topw vl_add vl_addw vl_id
theorem turn_any (x : BitVec 32) (n : Nat) (hn : n ≤ 32) (w : World) :
    Calls Tryd.prog 31 #[.int .u32 (vl x), .int .i64 n] w fun e w' => e = .returned (.int .u32 (vl (rot x n))) ∧ w' = w := by
  go_enter Tryd.func31, Tryd.ntmps31
  go_wp2
  go_loopw [0, 5] (fun y i wr => ∃ k : Nat, k ≤ n ∧ y = .int .u32 (vl (rot x k)) ∧ i = .int .i64 k ∧ wr = w) (fun _ i _ => n - (intOf i).toNat)
  case atStart => exact ⟨0, by omega, by rw [rot_zero], rfl, rfl⟩
  case round =>
    obtain ⟨k, hk, rfl, rfl, rfl⟩ := hrel
    by_cases hlt : k < n
    · have hs : Box (rot x (k + 1) = (rot x k >>> 1) + ((rot x k &&& 1#32) <<< 31)) := ⟨by rw [rot_one, rot_succ _ _ (by omega)]⟩
      generalize rot x k = y at hs ⊢
      go_wp2
      go_roundw
      case rel => exact ⟨k + 1, by omega, by rw [hs.out], by go_num, trivial⟩
      case measure => simp [intOf]; omega
    · have hkn : Box (k = n) := ⟨by omega⟩
      have hy : Box (rot x k = rot x n) := ⟨by rw [hkn.out]⟩
      obtain ⟨res, hres⟩ : ∃ r, Box (rot x n = r) := ⟨_, ⟨rfl⟩⟩
      rw [hy.out, hres.out]
      go_wp2
      go_ret
      exact ⟨by rw [hres.out]; rfl, rfl⟩
end Go.Proofs.YtnchebajehgelaaDoor
