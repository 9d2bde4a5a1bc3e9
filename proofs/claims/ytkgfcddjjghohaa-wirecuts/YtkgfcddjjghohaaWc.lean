/- What Int, Count, Bool, length and counted do with an In. -/
import Derived.Test.YtkgfcddjjghohaaWb
namespace Go.Proofs.Ytkgfcddjjghohaa
open Go.RowKit
theorem w64 (z : Int) : wrap64 z = IntKind.i64.wrap z := by simp only [wrap64, IntKind.wrap_i64]
/-- The number that the next eight bytes are. -/
def rdI (bs : List (BitVec 8)) : Int := IntKind.i64.wrap (num (takeB bs 8) : Int)
theorem rdI_range (bs : List (BitVec 8)) : -9223372036854775808 ≤ rdI bs ∧ rdI bs ≤ 9223372036854775807 := by
  unfold rdI; rw [IntKind.wrap_i64]; omega
set_option maxHeartbeats 400000 in
theorem int_any (ib gb : Nat) (bs : List (BitVec 8)) (bad : Bool) (w : World) (h : HasIn w ib bs bad gb) (hbs : bs.length ≤ 1000000) :
    Calls Try.prog 18 #[.pointer (some ⟨ib, 0, none⟩)] w fun e w' => e = .returned (.int .i64 (rdI bs)) ∧ HasIn w' ib (dropB bs 8) (badB bs bad 8) gb ∧ Only ib w w' := by
  have hT := Box.mk (number_any ib gb 8 bs bad w h (by omega) hbs)
  have hr : Box (IntKind.i64.wrap (num (takeB bs 8) : Int) = rdI bs) := ⟨rfl⟩
  generalize num (takeB bs 8) = N at hT hr
  clear h
  go_enter Try.func18, Try.ntmps18
  go_wp2_with (refine hT.out.mono ?_; rintro e w' ⟨rfl, h1, h2⟩; have h1' := Box.mk h1; clear h1)
  go_ret
  refine ⟨?_, h1'.out, h2⟩
  rw [← hr.out, ← w64]
  rfl
set_option maxHeartbeats 400000 in
theorem count_any (ib gb : Nat) (bs : List (BitVec 8)) (bad : Bool) (least most : Int) (w : World) (h : HasIn w ib bs bad gb) (hbs : bs.length ≤ 1000000) :
    Calls Try.prog 19 #[.pointer (some ⟨ib, 0, none⟩), .int .i64 least, .int .i64 most] w fun e w' => ((least ≤ rdI bs ∧ rdI bs ≤ most) ∧ e = .returned (.int .i64 (rdI bs)) ∧ HasIn w' ib (dropB bs 8) (badB bs bad 8) gb ∨ ¬ (least ≤ rdI bs ∧ rdI bs ≤ most) ∧ e = .returned (.int .i64 0) ∧ HasIn w' ib [] true gb) ∧ Only ib w w' := by
  have hT := Box.mk (int_any ib gb bs bad w h hbs)
  generalize rdI bs = N at hT
  clear h
  by_cases q1 : N < least
  · have d1 : decide (N < least) = true := by simpa using q1
    go_enter Try.func19, Try.ntmps19
    go_wp2_with (first | (refine hT.out.mono ?_; rintro e w' ⟨rfl, h1, h2⟩; have h1' := Box.mk h1; clear h1) | (refine (spoil_any ib gb _ _ _ h1'.out).mono ?_; rintro e w2 ⟨rfl, h3, h4⟩; have h3' := Box.mk h3; clear h3))
    go_ret
    exact ⟨.inr ⟨by omega, rfl, h3'.out⟩, h2.trans h4⟩
  · by_cases q2 : most < N
    · have d1 : decide (N < least) = false := by simpa using q1
      have d2 : decide (most < N) = true := by simpa using q2
      go_enter Try.func19, Try.ntmps19
      go_wp2_with (first | (refine hT.out.mono ?_; rintro e w' ⟨rfl, h1, h2⟩; have h1' := Box.mk h1; clear h1) | (refine (spoil_any ib gb _ _ _ h1'.out).mono ?_; rintro e w2 ⟨rfl, h3, h4⟩; have h3' := Box.mk h3; clear h3))
      go_ret
      exact ⟨.inr ⟨by omega, rfl, h3'.out⟩, h2.trans h4⟩
    · have d1 : decide (N < least) = false := by simpa using q1
      have d2 : decide (most < N) = false := by simpa using q2
      go_enter Try.func19, Try.ntmps19
      go_wp2_with (first | (refine hT.out.mono ?_; rintro e w' ⟨rfl, h1, h2⟩; have h1' := Box.mk h1; clear h1) | (refine (spoil_any ib gb _ _ _ h1'.out).mono ?_; rintro e w2 ⟨rfl, h3, h4⟩; have h3' := Box.mk h3; clear h3))
      go_ret
      exact ⟨.inl ⟨by omega, rfl, h1'.out⟩, h2⟩
/-- The bool that the next byte is; is it one? -/
def boolOk (bs : List (BitVec 8)) : Prop := num (takeB bs 1) ≤ 1
set_option maxHeartbeats 400000 in
theorem bool_any (ib gb : Nat) (bs : List (BitVec 8)) (bad : Bool) (w : World) (h : HasIn w ib bs bad gb) (hbs : bs.length ≤ 1000000) :
    Calls Try.prog 23 #[.pointer (some ⟨ib, 0, none⟩)] w fun e w' => e = .returned (.bool (decide (num (takeB bs 1) = 1))) ∧ (num (takeB bs 1) ≤ 1 ∧ HasIn w' ib (dropB bs 1) (badB bs bad 1) gb ∨ ¬ num (takeB bs 1) ≤ 1 ∧ HasIn w' ib [] true gb) ∧ Only ib w w' := by
  have hT := Box.mk (number_any ib gb 1 bs bad w h (by omega) hbs)
  have hN : num (takeB bs 1) < 256 := Nat.lt_of_lt_of_le (num_lt _) (Nat.le_trans (Nat.pow_le_pow_right (by omega) (takeB_len bs 1)) (by omega))
  generalize num (takeB bs 1) = N at hT hN ⊢
  clear h
  have e1 : Box (((N : Int) == 1) = decide (N = 1)) := ⟨by by_cases hh : N = 1 <;> simp [hh]; omega⟩
  by_cases q1 : 1 < N
  · have d1 : decide ((1 : Int) < (N : Int)) = true := by simp; omega
    go_enter Try.func23, Try.ntmps23
    go_wp2_with (first | (refine hT.out.mono ?_; rintro e w' ⟨rfl, h1, h2⟩; have h1' := Box.mk h1; clear h1) | (refine (spoil_any ib gb _ _ _ h1'.out).mono ?_; rintro e w2 ⟨rfl, h3, h4⟩; have h3' := Box.mk h3; clear h3))
    go_ret
    refine ⟨?_, .inr ⟨by omega, h3'.out⟩, h2.trans h4⟩
    rw [← e1.out]; first | rfl | (simp; done)
  · have d1 : decide ((1 : Int) < (N : Int)) = false := by simp; omega
    go_enter Try.func23, Try.ntmps23
    go_wp2_with (first | (refine hT.out.mono ?_; rintro e w' ⟨rfl, h1, h2⟩; have h1' := Box.mk h1; clear h1) | (refine (spoil_any ib gb _ _ _ h1'.out).mono ?_; rintro e w2 ⟨rfl, h3, h4⟩; have h3' := Box.mk h3; clear h3))
    go_ret
    refine ⟨?_, .inl ⟨by omega, h1'.out⟩, h2⟩
    rw [← e1.out]; first | rfl | (simp; done)
end Go.Proofs.Ytkgfcddjjghohaa
