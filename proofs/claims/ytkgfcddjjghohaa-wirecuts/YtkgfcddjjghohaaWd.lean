/- What length and counted do with an In. -/
import Derived.Test.YtkgfcddjjghohaaWc
namespace Go.Proofs.Ytkgfcddjjghohaa
open Go.RowKit
/-- How many come next: are they no more than most, and are they there? -/
def lenOk (bs : List (BitVec 8)) (most : Int) (size : Nat) : Prop := (num (takeB bs 4) : Int) ≤ most ∧ num (takeB bs 4) ≤ (dropB bs 4).length / size
set_option maxHeartbeats 400000 in
theorem length_any (ib gb size : Nat) (bs : List (BitVec 8)) (bad : Bool) (most : Int) (w : World) (h : HasIn w ib bs bad gb) (hbs : bs.length ≤ 1000000) (hsz : size = 1 ∨ size = 32) :
    Calls Try.prog 37 #[.pointer (some ⟨ib, 0, none⟩), .int .i64 most, .int .i64 (size : Int)] w fun e w' => (lenOk bs most size ∧ e = .returned (.int .i64 (num (takeB bs 4) : Int)) ∧ HasIn w' ib (dropB bs 4) (badB bs bad 4) gb ∨ ¬ lenOk bs most size ∧ e = .returned (.int .i64 0) ∧ HasIn w' ib [] true gb) ∧ Only ib w w' := by
  have hT := Box.mk (number_any ib gb 4 bs bad w h (by omega) hbs)
  have hN : num (takeB bs 4) < 4294967296 := Nat.lt_of_lt_of_le (num_lt _) (Nat.le_trans (Nat.pow_le_pow_right (by omega) (takeB_len bs 4)) (by omega))
  have hD : (dropB bs 4).length ≤ 1000000 := by unfold dropB; split <;> simp; omega
  unfold lenOk
  generalize num (takeB bs 4) = N at hT hN ⊢
  generalize dropB bs 4 = D at hT hD ⊢
  have hT2 : Box (Calls Try.prog 33 #[.pointer (some ⟨ib, 0, none⟩), .int .i64 4] w fun e w' => e = .returned (.int .u64 (N : Int)) ∧ (∃ a c, w'.cell? ⟨ib, 0, none⟩ = some (.slice a D.length c) ∧ Box (HasIn w' ib D (badB bs bad 4) gb)) ∧ Only ib w w') := ⟨by
    refine hT.out.mono ?_
    rintro e w' ⟨rfl, h1, h2⟩
    refine ⟨rfl, ?_, h2⟩
    have h1' := Box.mk h1
    obtain ⟨v, hv, hr, _⟩ := h1
    obtain ⟨a, c, rfl, _⟩ := hr.shape
    exact ⟨a, c, (cell2 hv).1, h1'⟩⟩
  clear h hT
  by_cases q1 : most < (N : Int)
  · have d1 : decide (most < (N : Int)) = true := by simpa using q1
    go_enter Try.func37, Try.ntmps37
    go_wp2_with (first | (refine hT2.out.mono ?_; rintro e w' ⟨rfl, ⟨a, c, c0, h1'⟩, h2⟩) | (refine (spoil_any ib gb _ _ _ h1'.out).mono ?_; rintro e w2 ⟨rfl, h3, h4⟩; have h3' := Box.mk h3; clear h3))
    go_ret
    exact ⟨.inr ⟨by omega, rfl, h3'.out⟩, h2.trans h4⟩
  · have d1 : decide (most < (N : Int)) = false := by simpa using q1
    rcases hsz with rfl | rfl
    · by_cases q2 : (D.length : Int) < (N : Int)
      · have d2 : decide ((D.length : Int) < (N : Int)) = true := by simpa using q2
        go_enter Try.func37, Try.ntmps37
        go_wp2_with (first | (refine hT2.out.mono ?_; rintro e w' ⟨rfl, ⟨a, c, c0, h1'⟩, h2⟩) | (refine (spoil_any ib gb _ _ _ h1'.out).mono ?_; rintro e w2 ⟨rfl, h3, h4⟩; have h3' := Box.mk h3; clear h3))
        go_ret
        exact ⟨.inr ⟨by omega, rfl, h3'.out⟩, h2.trans h4⟩
      · have d2 : decide ((D.length : Int) < (N : Int)) = false := by simpa using q2
        go_enter Try.func37, Try.ntmps37
        go_wp2_with (first | (refine hT2.out.mono ?_; rintro e w' ⟨rfl, ⟨a, c, c0, h1'⟩, h2⟩) | (refine (spoil_any ib gb _ _ _ h1'.out).mono ?_; rintro e w2 ⟨rfl, h3, h4⟩; have h3' := Box.mk h3; clear h3))
        go_ret
        exact ⟨.inl ⟨by omega, rfl, h1'.out⟩, h2⟩
    · by_cases q2 : (D.length : Int) / 32 < (N : Int)
      · have d2 : decide ((D.length : Int) / 32 < (N : Int)) = true := by simpa using q2
        go_enter Try.func37, Try.ntmps37
        go_wp2_with (first | (refine hT2.out.mono ?_; rintro e w' ⟨rfl, ⟨a, c, c0, h1'⟩, h2⟩) | (refine (spoil_any ib gb _ _ _ h1'.out).mono ?_; rintro e w2 ⟨rfl, h3, h4⟩; have h3' := Box.mk h3; clear h3))
        go_ret
        exact ⟨.inr ⟨by omega, rfl, h3'.out⟩, h2.trans h4⟩
      · have d2 : decide ((D.length : Int) / 32 < (N : Int)) = false := by simpa using q2
        go_enter Try.func37, Try.ntmps37
        go_wp2_with (first | (refine hT2.out.mono ?_; rintro e w' ⟨rfl, ⟨a, c, c0, h1'⟩, h2⟩) | (refine (spoil_any ib gb _ _ _ h1'.out).mono ?_; rintro e w2 ⟨rfl, h3, h4⟩; have h3' := Box.mk h3; clear h3))
        go_ret
        exact ⟨.inl ⟨by omega, rfl, h1'.out⟩, h2⟩
theorem lenOk_one (bs : List (BitVec 8)) (most : Int) : lenOk bs most 1 ↔ (num (takeB bs 4) : Int) ≤ most ∧ num (takeB bs 4) ≤ (dropB bs 4).length := by unfold lenOk; rw [Nat.div_one]
set_option maxHeartbeats 400000 in
theorem counted_any (ib gb : Nat) (bs : List (BitVec 8)) (bad : Bool) (most : Int) (w : World) (h : HasIn w ib bs bad gb) (hbs : bs.length ≤ 1000000) :
    Calls Try.prog 35 #[.pointer (some ⟨ib, 0, none⟩), .int .i64 most] w fun e w' => ∃ v, e = .returned v ∧ (lenOk bs most 1 ∧ Rv w' v ((dropB bs 4).take (num (takeB bs 4))) gb ∧ HasIn w' ib ((dropB bs 4).drop (num (takeB bs 4))) (badB bs bad 4) gb ∨ ¬ lenOk bs most 1 ∧ Rv w' v [] gb ∧ HasIn w' ib [] true gb) ∧ Only ib w w' := by
  have hT := Box.mk (length_any ib gb 1 bs bad most w h hbs (.inl rfl))
  have hN : num (takeB bs 4) < 4294967296 := Nat.lt_of_lt_of_le (num_lt _) (Nat.le_trans (Nat.pow_le_pow_right (by omega) (takeB_len bs 4)) (by omega))
  have hD : (dropB bs 4).length ≤ 1000000 := by unfold dropB; split <;> simp; omega
  have hk := lenOk_one bs most
  by_cases hok : lenOk bs most 1
  · have hle := (hk.1 hok).2
    have hT2 : Box (Calls Try.prog 37 #[.pointer (some ⟨ib, 0, none⟩), .int .i64 most, .int .i64 1] w fun e w' => e = .returned (.int .i64 (num (takeB bs 4) : Int)) ∧ HasIn w' ib (dropB bs 4) (badB bs bad 4) gb ∧ Only ib w w') := ⟨by
      refine hT.out.mono ?_
      rintro e w' ⟨h1 | h1, h2⟩
      · exact ⟨h1.2.1, h1.2.2, h2⟩
      · exact absurd hok h1.1⟩
    have hok' := Box.mk hok
    clear h hT hk hok
    generalize num (takeB bs 4) = N at *
    generalize dropB bs 4 = D at *
    go_enter Try.func35, Try.ntmps35
    go_wp2_with (first | (refine hT2.out.mono ?_; rintro e w' ⟨rfl, h1, h2⟩; have h1' := Box.mk h1; clear h1) | (refine (take_any ib gb N D _ _ h1'.out (by omega) (by omega)).mono ?_; rintro e w2 ⟨v, rfl, h3, h4, h5⟩; have h3' := Box.mk h3; clear h3; have h4' := Box.mk h4; clear h4))
    go_ret
    obtain ⟨e1, e2, e3⟩ := take_yes D (badB bs bad 4) N hle
    have a1 := h3'.out
    have a2 := h4'.out
    rw [e1] at a1
    rw [e2, e3] at a2
    exact ⟨_, rfl, .inl ⟨hok'.out, a1, a2⟩, h2.trans h5⟩
  · have hT2 : Box (Calls Try.prog 37 #[.pointer (some ⟨ib, 0, none⟩), .int .i64 most, .int .i64 1] w fun e w' => e = .returned (.int .i64 ((0 : Nat) : Int)) ∧ HasIn w' ib [] true gb ∧ Only ib w w') := ⟨by
      refine hT.out.mono ?_
      rintro e w' ⟨h1 | h1, h2⟩
      · exact absurd h1.1 hok
      · exact ⟨h1.2.1, h1.2.2, h2⟩⟩
    have hok' := Box.mk hok
    clear h hT hk hok
    go_enter Try.func35, Try.ntmps35
    go_wp2_with (first | (refine hT2.out.mono ?_; rintro e w' ⟨rfl, h1, h2⟩; have h1' := Box.mk h1; clear h1) | (refine (take_any ib gb 0 [] _ _ h1'.out (by omega) (by simp)).mono ?_; rintro e w2 ⟨v, rfl, h3, h4, h5⟩; have h3' := Box.mk h3; clear h3; have h4' := Box.mk h4; clear h4))
    go_ret
    exact ⟨_, rfl, .inr ⟨hok'.out, h3'.out, h4'.out⟩, h2.trans h5⟩
end Go.Proofs.Ytkgfcddjjghohaa
