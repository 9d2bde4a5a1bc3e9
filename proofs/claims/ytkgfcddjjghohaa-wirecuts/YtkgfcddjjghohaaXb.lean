/- What told does with a thing whose bytes are there, with one whose bytes are cut off, and with a bad In. -/
import Derived.Test.YtkgfcddjjghohaaWu
import Derived.Test.YtkgfcddjjghohaaWx
namespace Go.Proofs.Ytkgfcddjjghohaa
open Go.RowKit
theorem str_strB (s : ByteArray) : str (strB s) = s := by
  unfold str strB strOfNums
  apply ByteArray.ext
  apply Array.toList_inj.1
  simp only [List.map_map]
  have : ∀ l : List UInt8, List.map ((fun n : Int => UInt8.ofNat n.toNat) ∘ bv ∘ fun b : UInt8 => BitVec.ofNat 8 b.toNat) l = l := by
    intro l
    induction l with
    | nil => rfl
    | cons b l ih =>
      rw [List.map_cons, ih]
      congr 1
      simp only [Function.comp, bv]
      have := b.toNat_lt
      rw [BitVec.toNat_ofNat, Nat.mod_eq_of_lt (by omega)]
      simp
  exact this _
theorem lt256 (n : Nat) (h : n ≤ 100000) : num (beN n 4) = n := by rw [num_beN]; omega
theorem cnt_whole (X r : List (BitVec 8)) (h : X.length ≤ 1000) : cntO (beN X.length 4 ++ X ++ r) 1000 = X ∧ cntR (beN X.length 4 ++ X ++ r) 1000 = r ∧ cntX (beN X.length 4 ++ X ++ r) false 1000 = false := by
  rw [List.append_assoc]
  have e1 := takeB_app (beN X.length 4) (X ++ r) 4 (beN_len _ _)
  have e2 := dropB_app (beN X.length 4) (X ++ r) 4 (beN_len _ _)
  have e3 := badB_app (beN X.length 4) (X ++ r) 4 (beN_len _ _) false
  have e4 := lt256 X.length (by omega)
  have hk : lenB (beN X.length 4 ++ (X ++ r)) 1000 1 = true := by
    rw [lenB_iff, lenOk_one, e1, e2, e4]; simp; omega
  unfold cntO cntR cntX
  rw [if_pos hk, if_pos hk, if_pos hk, e1, e2, e3, e4]
  exact ⟨List.take_left' rfl, List.drop_left' rfl, rfl⟩
theorem hs_whole (n : Nat) (D r : List (BitVec 8)) (hD : D.length = 32 * n) (h : n ≤ 1000) : hsN (beN n 4 ++ D ++ r) 1000 = n ∧ hsD (beN n 4 ++ D ++ r) 1000 = D ++ r ∧ hsX (beN n 4 ++ D ++ r) false 1000 = false := by
  rw [List.append_assoc]
  have e1 := takeB_app (beN n 4) (D ++ r) 4 (beN_len _ _)
  have e2 := dropB_app (beN n 4) (D ++ r) 4 (beN_len _ _)
  have e3 := badB_app (beN n 4) (D ++ r) 4 (beN_len _ _) false
  have e4 := lt256 n (by omega)
  have hk : lenB (beN n 4 ++ (D ++ r)) 1000 32 = true := by
    rw [lenB_iff]; unfold lenOk; rw [e1, e2, e4, List.length_append]; omega
  unfold hsN hsD hsX
  rw [if_pos hk, if_pos hk, if_pos hk, e1, e2, e3, e4]
  exact ⟨rfl, rfl, rfl⟩
theorem bit_num (b : Bool) : (bit b).toNat = if b then 1 else 0 := by cases b <;> rfl
theorem told_whole (w0 w : World) (ib : Nat) (t : Th) (r : List (BitVec 8)) (s : Sin w0 w ib (t.enc ++ r) false) (hok : t.ok w0) (hN : t.N ≤ 1000) (hs : t.text.size ≤ 1000) :
    Calls Try.prog 14 #[.pointer (some ⟨ib, 0, none⟩), .agg t.cells.toArray] w fun e w' => e = .returned (.bool true) ∧ Box (Sin w0 w' ib r false) := by
  unfold Th.enc at s
  by_cases h0 : t.kind = 0
  · rw [if_pos h0] at s
    refine (told_int w0 w ib t _ false s h0).mono ?_
    rw [rdI_be8 t.n r hok.n1 hok.n2, dropB_app _ _ 8 (be8_len _), badB_app _ _ 8 (be8_len _)]
    rintro e w' ⟨b, rfl, h1, h2⟩
    exact ⟨by rw [h1 rfl], h2⟩
  by_cases h1 : t.kind = 1
  · rw [if_neg h0, if_pos h1] at s
    obtain ⟨e1, e2, e3⟩ := cnt_whole (strB t.text) r (by rw [strB_len]; omega)
    rw [strB_len] at e1 e2 e3
    refine (told_text w0 w ib t _ false s h1).mono ?_
    rw [e1, e2, e3, str_strB]
    rintro e w' ⟨b, rfl, h1, h2⟩
    exact ⟨by rw [h1 rfl], h2⟩
  by_cases h2 : t.kind = 2
  · rw [if_neg h0, if_neg h1, if_pos h2] at s
    have e1 : hOf (t.hash ++ r) = t.hash := by unfold hOf; rw [if_pos (by simp [hok.hl]), List.take_left' hok.hl]
    refine (told_hash w0 w ib t _ r t.hash false false s hok.hl h2 ⟨e1, dropB_app _ _ 32 hok.hl, badB_app _ _ 32 hok.hl false⟩).mono ?_
    rintro e w' ⟨rfl, h3⟩
    exact ⟨by simp, h3⟩
  by_cases h3 : t.kind = 3
  · rw [if_neg h0, if_neg h1, if_neg h2, if_pos h3] at s
    obtain ⟨e1, e2, e3⟩ := hs_whole t.N t.D r hok.fl.len hN
    refine (told_hs_eq w0 w ib t _ false s hok.hl h3 hok.fl e1 (by rw [e2]; exact List.take_left' hok.fl.len) hN).mono ?_
    rw [e2, e3, List.drop_left' hok.fl.len]
    exact fun e w' h => h
  by_cases h4 : t.kind = 4
  · rw [if_neg h0, if_neg h1, if_neg h2, if_neg h3, if_pos h4] at s
    have e1 : num (takeB ([bit t.flag] ++ r) 1) = if t.flag then 1 else 0 := by
      rw [takeB_app _ _ 1 rfl, num_cons, num_nil, bit_num]; simp
    have e2 : boR ([bit t.flag] ++ r) = r := by
      unfold boR; rw [e1, if_pos (by split <;> omega), dropB_app _ _ 1 rfl]
    have e3 : boX ([bit t.flag] ++ r) false = false := by
      unfold boX; rw [e1, if_pos (by split <;> omega), badB_app _ _ 1 rfl]
    refine (told_bool w0 w ib t _ false s hok.hl h4).mono ?_
    rw [e1, e2, e3]
    rintro e w' ⟨b, rfl, h1, h2⟩
    exact ⟨by rw [h1 (by cases t.flag <;> rfl)], h2⟩
  · rw [if_neg h0, if_neg h1, if_neg h2, if_neg h3, if_neg h4, List.nil_append] at s
    exact told_none w0 w ib t r false s h0 h1 h2 h3 h4
end Go.Proofs.Ytkgfcddjjghohaa
