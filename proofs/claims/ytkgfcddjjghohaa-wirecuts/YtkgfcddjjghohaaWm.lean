/- What is written is read back; and the walk of the law on counts. -/
import Derived.Test.YtkgfcddjjghohaaWl
namespace Go.Proofs.Ytkgfcddjjghohaa
open Go.RowKit
theorem beN_succ (N s : Nat) : beN N (s + 1) = BitVec.ofNat 8 (N / 2 ^ (8 * s)) :: beN N s := by
  unfold beN
  rw [List.range_succ_eq_map, List.map_cons, List.map_map]
  congr 1
  apply List.map_congr_left
  intro k hk
  have hk2 : k < s := by simpa using hk
  simp only [Function.comp]
  rw [show s + 1 - 1 - (k + 1) = s - 1 - k by omega]
theorem num_cons (x : BitVec 8) (r : List (BitVec 8)) : num (x :: r) = x.toNat * 256 ^ r.length + num r := by
  have := num_append [x] r
  rw [List.singleton_append] at this
  rw [this]; simp [num]
theorem num_beN (N s : Nat) : num (beN N s) = N % 256 ^ s := by
  induction s with
  | zero => rw [show (beN N 0) = [] from rfl, num_nil, Nat.pow_zero, Nat.mod_one]
  | succ s ih =>
    rw [beN_succ, num_cons, ih, beN_len, BitVec.toNat_ofNat, show (2 : Nat) ^ (8 * s) = 256 ^ s by rw [Nat.pow_mul], show N % 256 ^ (s + 1) = _ from Nat.mod_pow_succ]
    rw [Nat.mul_comm (256 ^ s) (N / 256 ^ s % 256), Nat.add_comm]
theorem takeB_app (xs ys : List (BitVec 8)) (n : Nat) (h : xs.length = n) : takeB (xs ++ ys) n = xs := by
  unfold takeB; rw [if_pos (by simp; omega), List.take_left' h]
theorem dropB_app (xs ys : List (BitVec 8)) (n : Nat) (h : xs.length = n) : dropB (xs ++ ys) n = ys := by
  unfold dropB; rw [if_pos (by simp; omega), List.drop_left' h]
theorem badB_app (xs ys : List (BitVec 8)) (n : Nat) (h : xs.length = n) (bad : Bool) : badB (xs ++ ys) bad n = bad := by
  unfold badB; rw [if_pos (by simp; omega)]
theorem rdI_be8 (n : Int) (r : List (BitVec 8)) (h1 : -9223372036854775808 ≤ n) (h2 : n ≤ 9223372036854775807) : rdI (be8 n ++ r) = n := by
  unfold rdI
  rw [takeB_app _ _ 8 (be8_len n)]
  unfold be8
  rw [num_beN, IntKind.wrap_i64]
  omega
theorem rdI_nil : rdI [] = 0 := by decide +kernel
set_option maxHeartbeats 1000000 in
theorem counts_law (n least most : Int) (w : World) (h1 : -9223372036854775808 ≤ n) (h2 : n ≤ 9223372036854775807) :
    Calls Try.prog 6 #[.int .i64 n, .int .i64 least, .int .i64 most] w fun e w' => e = .returned (.bool true) ∧ Below w.heap.size w w' := by
  have hz := out_new w
  have hA : Box (Calls Try.prog 25 #[.pointer (some ⟨w.heap.size, 0, none⟩), .int .i64 n] (w.alloc (.cells #[.slice none 0 0] 27)) fun e w1 => e = .returned (.pointer (some ⟨w.heap.size, 0, none⟩)) ∧ Box (Below w.heap.size w w1) ∧ Box (∃ v, HasOut w1 w.heap.size v (be8 n))) := ⟨by
    refine (oint_any w.heap.size n _ [] _ hz (by simp)).mono ?_
    rintro e w1 ⟨rfl, v, h1, h2⟩
    exact ⟨rfl, ⟨((Below.refl _ _).alloc (Nat.le_refl _) _).trans (h2.below hz _ (Nat.le_refl _))⟩, ⟨v, h1⟩⟩⟩
  have hB : ∀ w1, Box (Below w.heap.size w w1) → Box (∃ v, HasOut w1 w.heap.size v (be8 n)) → Box (Calls Try.prog 25 #[.pointer (some ⟨w.heap.size, 0, none⟩), .int .i64 7] w1 fun e w2 => e = .returned (.pointer (some ⟨w.heap.size, 0, none⟩)) ∧ Box (Below w.heap.size w w2) ∧ Box (∃ v, HasOut w2 w.heap.size v (be8 n ++ be8 7))) := fun w1 b1 ⟨v, h1⟩ => ⟨by
    refine (oint_any w.heap.size 7 _ (be8 n) _ h1 (by rw [be8_len]; omega)).mono ?_
    rintro e w2 ⟨rfl, v, h2, h3⟩
    exact ⟨rfl, ⟨b1.out.trans (h3.below h1 _ (Nat.le_refl _))⟩, ⟨v, h2⟩⟩⟩
  have hl16 : (be8 n ++ be8 7).length = 16 := by rw [List.length_append, be8_len, be8_len]
  have hC : ∀ w1, Box (Below w.heap.size w w1) → Box (∃ v, HasOut w1 w.heap.size v (be8 n ++ be8 7)) → Box (Calls Try.prog 12 #[.pointer (some ⟨w.heap.size, 0, none⟩)] w1 fun e w2 => ∃ v, e = .returned v ∧ Box (Calls Try.prog 13 #[v] w2 fun e w3 => ∃ ib, e = .returned (.pointer (some ⟨ib, 0, none⟩)) ∧ Box (Sin w w3 ib (be8 n ++ be8 7) false))) := fun w1 b1 ⟨v, h1⟩ => ⟨by
    refine (oall_any w.heap.size v _ w1 h1 (by omega)).mono ?_
    rintro e w2 ⟨v', rfl, h2, h3⟩
    obtain ⟨g, a, c, rfl, _, _, hr⟩ := own_apart h2 h3.size
    refine ⟨_, rfl, ⟨(s_new w w2 _ g _ hr (by omega) (b1.out.trans ⟨h3.os, h3.tape, h3.output, h3.size, fun k hk => h3.block k (Nat.lt_of_lt_of_le hk b1.out.size)⟩)).mono ?_⟩⟩
    rintro e w3 ⟨ib, rfl, h4, _⟩
    exact ⟨ib, rfl, h4⟩⟩
  clear hz hl16
  by_cases hok : least ≤ n ∧ n ≤ most
  · have q1 : decide (least ≤ n) = true := by simpa using hok.1
    have q2 : decide (n ≤ most) = true := by simpa using hok.2
    have hD : ∀ w1 ib, Box (Sin w w1 ib (be8 n ++ be8 7) false) → Box (Calls Try.prog 19 #[.pointer (some ⟨ib, 0, none⟩), .int .i64 least, .int .i64 most] w1 fun e w2 => e = .returned (.int .i64 n) ∧ Box (Sin w w2 ib (be8 7) false)) := fun w1 ib s => ⟨by
      refine (s_count s.out least most).mono ?_
      rw [rdI_be8 n _ h1 h2, dropB_app _ _ 8 (be8_len n), badB_app _ _ 8 (be8_len n)]
      rintro e w' (h | h)
      · exact h.2
      · exact absurd hok h.1⟩
    have hE : ∀ w1 ib, Box (Sin w w1 ib (be8 7) false) → Box (Calls Try.prog 15 #[.pointer (some ⟨ib, 0, none⟩)] w1 fun e w2 => e = .returned (.bool false) ∧ w2 = w1) := fun w1 ib s => ⟨s_bad s.out⟩
    have hF : ∀ w1 ib, Box (Sin w w1 ib (be8 7) false) → Box (Calls Try.prog 16 #[.pointer (some ⟨ib, 0, none⟩)] w1 fun e w2 => e = .returned (.bool false) ∧ w2 = w1) := fun w1 ib s => ⟨s_done s.out⟩
    have hG : ∀ w1 ib, Box (Sin w w1 ib (be8 7) false) → Box (Calls Try.prog 18 #[.pointer (some ⟨ib, 0, none⟩)] w1 fun e w2 => e = .returned (.int .i64 7) ∧ Box (Sin w w2 ib [] false)) := fun w1 ib s => ⟨by
      refine (s_int s.out).mono ?_
      have e7 : be8 7 = be8 7 ++ [] := (List.append_nil _).symm
      rw [e7, rdI_be8 7 _ (by omega) (by omega), dropB_app _ _ 8 (be8_len 7), badB_app _ _ 8 (be8_len 7)]
      exact fun e w' h => h⟩
    have hH : ∀ w1 ib, Box (Sin w w1 ib [] false) → Box (Calls Try.prog 16 #[.pointer (some ⟨ib, 0, none⟩)] w1 fun e w2 => e = .returned (.bool true) ∧ w2 = w1) := fun w1 ib s => ⟨s_done s.out⟩
    go_enter Try.func6, Try.ntmps6
    go_wp2_with (first | (go_at_call 25; refine hA.out.mono ?_; rintro e w1 ⟨rfl, b1, o1⟩) | (go_at_call 25; refine (hB _ b1 o1).out.mono ?_; rintro e w2 ⟨rfl, b2, o2⟩) | (go_at_call 12; refine (hC _ b2 o2).out.mono ?_; rintro e w3 ⟨v, rfl, hN⟩) | (go_at_call 13; refine hN.out.mono ?_; rintro e w4 ⟨ib, rfl, s4⟩) | (go_at_call 19; refine (hD _ _ s4).out.mono ?_; rintro e w5 ⟨rfl, s5⟩) | (go_at_call 15; refine (hE _ _ s5).out.mono ?_; rintro e w6 ⟨rfl, rfl⟩) | (go_at_call 16; refine (hF _ _ s5).out.mono ?_; rintro e w6 ⟨rfl, rfl⟩) | (go_at_call 18; refine (hG _ _ s5).out.mono ?_; rintro e w7 ⟨rfl, s7⟩) | (go_at_call 16; refine (hH _ _ s7).out.mono ?_; rintro e w8 ⟨rfl, rfl⟩) | (go_at_call 9; refine (s_awake s7.out).mono ?_; rintro e w9 ⟨rfl, s9⟩))
    go_ret
    exact ⟨rfl, s9.out.low⟩
  · have hD : ∀ w1 ib, Box (Sin w w1 ib (be8 n ++ be8 7) false) → Box (Calls Try.prog 19 #[.pointer (some ⟨ib, 0, none⟩), .int .i64 least, .int .i64 most] w1 fun e w2 => e = .returned (.int .i64 0) ∧ Box (Sin w w2 ib [] true)) := fun w1 ib s => ⟨by
      refine (s_count s.out least most).mono ?_
      rw [rdI_be8 n _ h1 h2]
      rintro e w' (h | h)
      · exact absurd h.1 hok
      · exact h.2⟩
    have hE : ∀ w1 ib, Box (Sin w w1 ib [] true) → Box (Calls Try.prog 15 #[.pointer (some ⟨ib, 0, none⟩)] w1 fun e w2 => e = .returned (.bool true) ∧ w2 = w1) := fun w1 ib s => ⟨s_bad s.out⟩
    have hG : ∀ w1 ib, Box (Sin w w1 ib [] true) → Box (Calls Try.prog 18 #[.pointer (some ⟨ib, 0, none⟩)] w1 fun e w2 => e = .returned (.int .i64 0) ∧ Box (Sin w w2 ib [] true)) := fun w1 ib s => ⟨by
      refine (s_int s.out).mono ?_
      rw [rdI_nil]
      exact fun e w' h => h⟩
    have hH : ∀ w1 ib, Box (Sin w w1 ib [] true) → Box (Calls Try.prog 16 #[.pointer (some ⟨ib, 0, none⟩)] w1 fun e w2 => e = .returned (.bool false) ∧ w2 = w1) := fun w1 ib s => ⟨s_done s.out⟩
    by_cases q : least ≤ n
    · have q1 : decide (least ≤ n) = true := by simpa using q
      have q2 : decide (n ≤ most) = false := by simp; omega
      go_enter Try.func6, Try.ntmps6
      go_wp2_with (first | (go_at_call 25; refine hA.out.mono ?_; rintro e w1 ⟨rfl, b1, o1⟩) | (go_at_call 25; refine (hB _ b1 o1).out.mono ?_; rintro e w2 ⟨rfl, b2, o2⟩) | (go_at_call 12; refine (hC _ b2 o2).out.mono ?_; rintro e w3 ⟨v, rfl, hN⟩) | (go_at_call 13; refine hN.out.mono ?_; rintro e w4 ⟨ib, rfl, s4⟩) | (go_at_call 19; refine (hD _ _ s4).out.mono ?_; rintro e w5 ⟨rfl, s5⟩) | (go_at_call 15; refine (hE _ _ s5).out.mono ?_; rintro e w6 ⟨rfl, rfl⟩) | (go_at_call 18; refine (hG _ _ s5).out.mono ?_; rintro e w7 ⟨rfl, s7⟩) | (go_at_call 16; refine (hH _ _ s7).out.mono ?_; rintro e w8 ⟨rfl, rfl⟩) | (go_at_call 9; refine (s_awake s7.out).mono ?_; rintro e w9 ⟨rfl, s9⟩))
      go_ret
      exact ⟨rfl, s9.out.low⟩
    · have q1 : decide (least ≤ n) = false := by simp; omega
      go_enter Try.func6, Try.ntmps6
      go_wp2_with (first | (go_at_call 25; refine hA.out.mono ?_; rintro e w1 ⟨rfl, b1, o1⟩) | (go_at_call 25; refine (hB _ b1 o1).out.mono ?_; rintro e w2 ⟨rfl, b2, o2⟩) | (go_at_call 12; refine (hC _ b2 o2).out.mono ?_; rintro e w3 ⟨v, rfl, hN⟩) | (go_at_call 13; refine hN.out.mono ?_; rintro e w4 ⟨ib, rfl, s4⟩) | (go_at_call 19; refine (hD _ _ s4).out.mono ?_; rintro e w5 ⟨rfl, s5⟩) | (go_at_call 15; refine (hE _ _ s5).out.mono ?_; rintro e w6 ⟨rfl, rfl⟩) | (go_at_call 18; refine (hG _ _ s5).out.mono ?_; rintro e w7 ⟨rfl, s7⟩) | (go_at_call 16; refine (hH _ _ s7).out.mono ?_; rintro e w8 ⟨rfl, rfl⟩) | (go_at_call 9; refine (s_awake s7.out).mono ?_; rintro e w9 ⟨rfl, s9⟩))
      go_ret
      exact ⟨rfl, s9.out.low⟩
end Go.Proofs.Ytkgfcddjjghohaa
