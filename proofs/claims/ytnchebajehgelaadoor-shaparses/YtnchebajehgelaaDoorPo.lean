/- Plain: a hash's text is read back as that hash; what is read has just this text. No program is spoken of. -/
import Derived.Test.YtnchebajehgelaaDoorWn
namespace Go.Proofs.YtnchebajehgelaaDoor
open Go.RowKit
theorem dgt_all : ∀ n : Fin 16, dok (bv (dgt n.val)) = true ∧ dvl (bv (dgt n.val)) = (n.val : Int) := by decide +kernel
theorem dok_all : ∀ n : Fin 256, dok (n.val : Int) = true → bv (dgt (dvl (n.val : Int)).toNat) = (n.val : Int) := by decide +kernel
theorem rtx_get (hs : List (BitVec 8)) (k i : Nat) (h : i < k) : (rtx hs k).getD (2 * i) 0 = dgt ((hs.getD i 0).toNat / 16) ∧ (rtx hs k).getD (2 * i + 1) 0 = dgt ((hs.getD i 0).toNat % 16) := by
  induction k with
  | zero => omega
  | succ k ih =>
    have hl := rtx_len hs k
    by_cases hi : i < k
    · have := ih hi
      rw [rtx, List.getD_eq_getElem?_getD, List.getD_eq_getElem?_getD (i := 2 * i + 1), List.getElem?_append_left (by omega), List.getElem?_append_left (by omega)]
      rw [List.getD_eq_getElem?_getD, List.getD_eq_getElem?_getD (i := 2 * i + 1)] at this
      exact this
    · obtain rfl : i = k := by omega
      rw [rtx, List.getD_eq_getElem?_getD, List.getD_eq_getElem?_getD (i := 2 * i + 1), List.getElem?_append_right (by omega), List.getElem?_append_right (by omega), hl, show 2 * i - 2 * i = 0 by omega, show 2 * i + 1 - 2 * i = 1 by omega]
      exact ⟨rfl, rfl⟩
theorem sb_str (ts : List (BitVec 8)) (i : Nat) (h : i < ts.length) : sb (strOfNums (ts.map bv)) i = bv (ts.getD i 0) := by
  unfold sb
  rw [strOfNums_data]
  simp only [List.map_map]
  simp [h, bv]
theorem prl_get (s : ByteArray) (k i : Nat) (h : i < k) (hk : k ≤ 32) : (prl s k).getD i 0 = BitVec.ofInt 8 (16 * dvl (sb s (2 * i)) + dvl (sb s (2 * i + 1))) := by
  induction k with
  | zero => omega
  | succ k ih =>
    have hl := prl_len s k
    rw [prl, List.getD_eq_getElem?_getD, List.getElem?_set]
    by_cases hi : k = i
    · subst hi
      simp [hl, show k < 32 by omega]
    · rw [if_neg hi, ← List.getD_eq_getElem?_getD]
      exact ih (by omega) (by omega)
theorem back_ok (hs : List (BitVec 8)) : okTo (strOfNums ((rtx hs 32).map bv)) 64 := by
  intro i hi
  have hl := rtx_len hs 32
  rw [sb_str _ _ (by omega)]
  by_cases he : i % 2 = 0
  · obtain ⟨j, rfl⟩ : ∃ j, i = 2 * j := ⟨i / 2, by omega⟩
    have hh := (hs.getD j 0).isLt
    rw [(rtx_get hs 32 j (by omega)).1]
    exact (dgt_all ⟨_, by omega⟩).1
  · obtain ⟨j, rfl⟩ : ∃ j, i = 2 * j + 1 := ⟨i / 2, by omega⟩
    rw [(rtx_get hs 32 j (by omega)).2]
    exact (dgt_all ⟨_, by omega⟩).1
theorem back_eq (hs : List (BitVec 8)) (h : hs.length = 32) : prl (strOfNums ((rtx hs 32).map bv)) 32 = hs := by
  have hl := rtx_len hs 32
  apply List.ext_getElem?
  intro i
  by_cases hi : i < 32
  · have h1 : i < (prl (strOfNums ((rtx hs 32).map bv)) 32).length := by rw [prl_len]; exact hi
    have h2 : i < hs.length := by omega
    have e := prl_get (strOfNums ((rtx hs 32).map bv)) 32 i hi (Nat.le_refl _)
    rw [List.getElem?_eq_getElem h1, List.getElem?_eq_getElem h2]
    rw [List.getD_eq_getElem?_getD, List.getElem?_eq_getElem h1, Option.getD_some] at e
    rw [e]
    have hg := rtx_get hs 32 i hi
    rw [sb_str _ _ (by omega), sb_str _ _ (by omega), hg.1, hg.2]
    have hx : hs.getD i 0 = hs[i] := by simp [h2]
    rw [hx]
    have hb := (hs[i]).isLt
    rw [(dgt_all ⟨_, show (hs[i]).toNat / 16 < 16 by omega⟩).2, (dgt_all ⟨_, show (hs[i]).toNat % 16 < 16 by omega⟩).2]
    refine congrArg some ?_
    apply BitVec.eq_of_toNat_eq
    rw [BitVec.toNat_ofInt]
    simp only
    omega
  · rw [List.getElem?_eq_none (by rw [prl_len]; omega), List.getElem?_eq_none (by omega)]
theorem dgt_of (s : ByteArray) (i : Nat) (h : dok (sb s i) = true) : dgt (dvl (sb s i)).toNat = BitVec.ofInt 8 (sb s i) := by
  have hr := sb_range s i
  have := dok_all ⟨(sb s i).toNat, by omega⟩ (by show dok (((sb s i).toNat : Nat) : Int) = true; rw [Int.toNat_of_nonneg hr.1]; exact h)
  simp only [Int.toNat_of_nonneg hr.1] at this
  unfold bv at this
  apply BitVec.eq_of_toNat_eq
  rw [BitVec.toNat_ofInt]
  omega
theorem again_pair (s : ByteArray) (hok : okTo s 64) (j : Nat) (hj : j < 32) : (rtx (prl s 32) 32).getD (2 * j) 0 = BitVec.ofInt 8 (sb s (2 * j)) ∧ (rtx (prl s 32) 32).getD (2 * j + 1) 0 = BitVec.ofInt 8 (sb s (2 * j + 1)) := by
  have d1 := dvl_range (sb s (2 * j))
  have d2 := dvl_range (sb s (2 * j + 1))
  have hg := rtx_get (prl s 32) 32 j hj
  rw [prl_get s 32 j hj (Nat.le_refl _), BitVec.toNat_ofInt] at hg
  rw [hg.1, hg.2, ← dgt_of s _ (hok (2 * j) (by omega)), ← dgt_of s _ (hok (2 * j + 1) (by omega))]
  exact ⟨congrArg dgt (by omega), congrArg dgt (by omega)⟩
theorem again_at (s : ByteArray) (hok : okTo s 64) (i : Nat) (hi : i < 64) : (rtx (prl s 32) 32).getD i 0 = BitVec.ofInt 8 (sb s i) := by
  by_cases he : i % 2 = 0
  · obtain ⟨j, rfl⟩ : ∃ j, i = 2 * j := ⟨i / 2, by omega⟩
    exact (again_pair s hok j (by omega)).1
  · obtain ⟨j, rfl⟩ : ∃ j, i = 2 * j + 1 := ⟨i / 2, by omega⟩
    exact (again_pair s hok j (by omega)).2
theorem again_eq (s : ByteArray) (h64 : s.size = 64) (hok : okTo s 64) : strOfNums ((rtx (prl s 32) 32).map bv) = s := by
  have hl := rtx_len (prl s 32) 32
  have hsl : s.data.toList.length = 64 := by simpa using h64
  apply ByteArray.ext
  apply Array.toList_inj.1
  rw [strOfNums_data]
  apply List.ext_getElem?
  intro i
  by_cases hi : i < 64
  · have key : (rtx (prl s 32) 32).getD i 0 = BitVec.ofInt 8 (sb s i) := again_at s hok i hi
    have hr := sb_range s i
    have h1 : i < (rtx (prl s 32) 32).length := by omega
    have h2 : i < s.data.toList.length := by omega
    rw [List.getD_eq_getElem?_getD, List.getElem?_eq_getElem h1, Option.getD_some] at key
    rw [List.getElem?_map, List.getElem?_map, List.getElem?_eq_getElem h1, List.getElem?_eq_getElem h2, key]
    simp only [Option.map_some]
    refine congrArg some ?_
    unfold bv
    rw [BitVec.toNat_ofInt]
    have e2 : sb s i = ((s.data.toList[i]).toNat : Int) := by
      unfold sb
      rw [List.getD_eq_getElem?_getD, List.getElem?_eq_getElem h2, Option.getD_some]
    rw [e2]
    apply UInt8.toNat_inj.1
    have hlt := (s.data.toList[i]).toNat_lt
    rw [UInt8.toNat_ofNat']
    omega
  · rw [List.getElem?_eq_none (by simp; omega), List.getElem?_eq_none (by omega)]
theorem str_size (hs : List (BitVec 8)) : (strOfNums ((rtx hs 32).map bv)).size = 64 := by
  rw [strOfNums_size, List.length_map, rtx_len]
end Go.Proofs.YtnchebajehgelaaDoor
