/- What each call of an In tells, by the place at which it stands. -/
import Derived.Test.YtkgfcddjjghohaaWn
namespace Go.Proofs.Ytkgfcddjjghohaa
open Go.RowKit
theorem td_ok (bs : List (BitVec 8)) (p n : Nat) (bad : Bool) (h : p + n ≤ bs.length) : takeB (bs.drop p) n = (bs.drop p).take n ∧ dropB (bs.drop p) n = bs.drop (p + n) ∧ badB (bs.drop p) bad n = bad := by
  have hl : (bs.drop p).length = bs.length - p := List.length_drop
  obtain ⟨e1, e2, e3⟩ := take_yes (bs.drop p) bad n (by omega)
  rw [List.drop_drop] at e2
  exact ⟨e1, e2, e3⟩
theorem td_no (bs : List (BitVec 8)) (p n : Nat) (bad : Bool) (h : ¬ p + n ≤ bs.length) (hp : p ≤ bs.length) : takeB (bs.drop p) n = [] ∧ dropB (bs.drop p) n = [] ∧ badB (bs.drop p) bad n = true := by
  have hl : (bs.drop p).length = bs.length - p := List.length_drop
  exact take_no (bs.drop p) bad n (by omega)
theorem td_nil (n : Nat) : takeB [] n = [] ∧ dropB [] n = [] ∧ badB [] true n = true := by
  unfold takeB dropB badB
  refine ⟨?_, ?_, ?_⟩ <;> split <;> simp
section
variable {w0 w : World} {ib : Nat} {bs : List (BitVec 8)} {p : Nat}
theorem r_int_ok (s : Box (Sin w0 w ib (bs.drop p) false)) (h : p + 8 ≤ bs.length) :
    Calls Try.prog 18 #[.pointer (some ⟨ib, 0, none⟩)] w fun e w' => e = .returned (.int .i64 (rdAt bs p 8)) ∧ Box (Sin w0 w' ib (bs.drop (p + 8)) false) := by
  have := s_int s.out
  obtain ⟨e1, e2, e3⟩ := td_ok bs p 8 false h
  unfold rdI at this
  rw [e1, e2, e3] at this
  exact this
theorem r_int_no (s : Box (Sin w0 w ib (bs.drop p) false)) (h : ¬ p + 8 ≤ bs.length) (hp : p ≤ bs.length) :
    Calls Try.prog 18 #[.pointer (some ⟨ib, 0, none⟩)] w fun e w' => e = .returned (.int .i64 0) ∧ Box (Sin w0 w' ib [] true) := by
  have := s_int s.out
  obtain ⟨e1, e2, e3⟩ := td_no bs p 8 false h hp
  unfold rdI at this
  rw [e1, e2, e3] at this
  exact this
theorem r_int_bad (s : Box (Sin w0 w ib [] true)) :
    Calls Try.prog 18 #[.pointer (some ⟨ib, 0, none⟩)] w fun e w' => e = .returned (.int .i64 0) ∧ Box (Sin w0 w' ib [] true) := by
  have := s_int s.out
  obtain ⟨e1, e2, e3⟩ := td_nil 8
  rw [rdI_nil, e2, e3] at this
  exact this
theorem r_count_ok (s : Box (Sin w0 w ib (bs.drop p) false)) (h : p + 8 ≤ bs.length) (least most : Int) (h1 : least ≤ rdAt bs p 8) (h2 : rdAt bs p 8 ≤ most) :
    Calls Try.prog 19 #[.pointer (some ⟨ib, 0, none⟩), .int .i64 least, .int .i64 most] w fun e w' => e = .returned (.int .i64 (rdAt bs p 8)) ∧ Box (Sin w0 w' ib (bs.drop (p + 8)) false) := by
  have := s_count s.out least most
  obtain ⟨e1, e2, e3⟩ := td_ok bs p 8 false h
  unfold rdI at this
  rw [e1, e2, e3] at this
  refine this.mono ?_
  rintro e w' (h | h)
  · exact h.2
  · exact absurd ⟨h1, h2⟩ h.1
theorem r_count_out (s : Box (Sin w0 w ib (bs.drop p) false)) (h : p + 8 ≤ bs.length) (least most : Int) (h1 : ¬ (least ≤ rdAt bs p 8 ∧ rdAt bs p 8 ≤ most)) :
    Calls Try.prog 19 #[.pointer (some ⟨ib, 0, none⟩), .int .i64 least, .int .i64 most] w fun e w' => e = .returned (.int .i64 0) ∧ Box (Sin w0 w' ib [] true) := by
  have := s_count s.out least most
  obtain ⟨e1, e2, e3⟩ := td_ok bs p 8 false h
  unfold rdI at this
  rw [e1, e2, e3] at this
  refine this.mono ?_
  rintro e w' (h | h)
  · exact absurd h.1 h1
  · exact h.2
theorem r_count_no (s : Box (Sin w0 w ib (bs.drop p) false)) (h : ¬ p + 8 ≤ bs.length) (hp : p ≤ bs.length) (least most : Int) :
    Calls Try.prog 19 #[.pointer (some ⟨ib, 0, none⟩), .int .i64 least, .int .i64 most] w fun e w' => e = .returned (.int .i64 0) ∧ Box (Sin w0 w' ib [] true) := by
  have := s_count s.out least most
  obtain ⟨e1, e2, e3⟩ := td_no bs p 8 false h hp
  unfold rdI at this
  rw [e1, e2, e3] at this
  refine this.mono ?_
  rintro e w' (h | h)
  · exact ⟨h.2.1, h.2.2⟩
  · exact h.2
theorem r_count_bad (s : Box (Sin w0 w ib [] true)) (least most : Int) :
    Calls Try.prog 19 #[.pointer (some ⟨ib, 0, none⟩), .int .i64 least, .int .i64 most] w fun e w' => e = .returned (.int .i64 0) ∧ Box (Sin w0 w' ib [] true) := by
  have := s_count s.out least most
  obtain ⟨e1, e2, e3⟩ := td_nil 8
  rw [rdI_nil, e2, e3] at this
  refine this.mono ?_
  rintro e w' (h | h)
  · exact h.2
  · exact h.2
/-- The number that the next four bytes are. -/
def n4 (bs : List (BitVec 8)) (p : Nat) : Nat := num ((bs.drop p).take 4)
theorem n4_lt (bs : List (BitVec 8)) (p : Nat) : n4 bs p < 4294967296 := num_take_lt _ 4 4 (by omega)
theorem rd_n4 (bs : List (BitVec 8)) (p : Nat) : rdAt bs p 4 = (n4 bs p : Int) := by
  have := n4_lt bs p
  unfold rdAt n4 at *
  rw [IntKind.wrap_i64]
  omega
theorem cnt_ok (h : p + 4 ≤ bs.length) (most : Int) (h1 : (n4 bs p : Int) ≤ most) (h2 : p + 4 + n4 bs p ≤ bs.length) : cntO (bs.drop p) most = (bs.drop (p + 4)).take (n4 bs p) ∧ cntR (bs.drop p) most = bs.drop (p + 4 + n4 bs p) ∧ cntX (bs.drop p) false most = false := by
  obtain ⟨e1, e2, e3⟩ := td_ok bs p 4 false h
  have hk : lenB (bs.drop p) most 1 = true := by
    rw [lenB_iff, lenOk_one, e1, e2, List.length_drop]
    unfold n4 at *
    omega
  unfold cntO cntR cntX
  rw [if_pos hk, if_pos hk, if_pos hk, e1, e2, e3, List.drop_drop]
  exact ⟨rfl, rfl, rfl⟩
theorem cnt_out (h : p + 4 ≤ bs.length) (most : Int) (h1 : ¬ ((n4 bs p : Int) ≤ most ∧ p + 4 + n4 bs p ≤ bs.length)) : cntO (bs.drop p) most = [] ∧ cntR (bs.drop p) most = [] ∧ cntX (bs.drop p) false most = true := by
  obtain ⟨e1, e2, e3⟩ := td_ok bs p 4 false h
  have hk : ¬ lenB (bs.drop p) most 1 = true := by
    rw [lenB_iff, lenOk_one, e1, e2, List.length_drop]
    unfold n4 at *
    omega
  unfold cntO cntR cntX
  rw [if_neg hk, if_neg hk, if_neg hk]
  exact ⟨rfl, rfl, rfl⟩
theorem cnt_no (h : ¬ p + 4 ≤ bs.length) (hp : p ≤ bs.length) (most : Int) : cntO (bs.drop p) most = [] ∧ cntR (bs.drop p) most = [] ∧ cntX (bs.drop p) false most = true := by
  obtain ⟨e1, e2, e3⟩ := td_no bs p 4 false h hp
  unfold cntO cntR cntX
  rw [e1, e2, e3, num_nil]
  refine ⟨?_, ?_, ?_⟩ <;> split <;> rfl
theorem cnt_bad (most : Int) : cntO [] most = [] ∧ cntR [] most = [] ∧ cntX [] true most = true := by
  obtain ⟨e1, e2, e3⟩ := td_nil 4
  unfold cntO cntR cntX
  rw [e1, e2, e3, num_nil]
  refine ⟨?_, ?_, ?_⟩ <;> split <;> rfl
theorem str_nil : str [] = ⟨#[]⟩ := rfl
theorem r_text {rest O R : List (BitVec 8)} {bad X : Bool} (s : Box (Sin w0 w ib rest bad)) (most : Int) (h : cntO rest most = O ∧ cntR rest most = R ∧ cntX rest bad most = X) :
    Calls Try.prog 21 #[.pointer (some ⟨ib, 0, none⟩), .int .i64 most] w fun e w' => e = .returned (.string (str O)) ∧ Box (Sin w0 w' ib R X) := by
  have := s_text s.out most
  rw [h.1, h.2.1, h.2.2] at this
  exact this
theorem r_bytes {rest O R : List (BitVec 8)} {bad X : Bool} (s : Box (Sin w0 w ib rest bad)) (most : Int) (h : cntO rest most = O ∧ cntR rest most = R ∧ cntX rest bad most = X) :
    Calls Try.prog 20 #[.pointer (some ⟨ib, 0, none⟩), .int .i64 most] w fun e w' => ∃ v, e = .returned v ∧ (convert 25 9 v).run Try.prog w' = .ok (.string (str O)) w' ∧ Box (Sin w0 w' ib R X) := by
  have := s_bytes s.out most
  rw [h.1, h.2.1, h.2.2] at this
  exact this
theorem r_hash {rest O R : List (BitVec 8)} {bad X : Bool} (s : Box (Sin w0 w ib rest bad)) (h : hOf rest = O ∧ dropB rest 32 = R ∧ badB rest bad 32 = X) :
    Calls Try.prog 22 #[.pointer (some ⟨ib, 0, none⟩)] w fun e w' => e = .returned (.agg (O.map V).toArray) ∧ Box (Sin w0 w' ib R X) ∧ Box (Only ib w w') := by
  have := s_hash s.out
  rw [h.1, h.2.1, h.2.2] at this
  exact this
theorem hsh_ok (h : p + 32 ≤ bs.length) : hOf (bs.drop p) = (bs.drop p).take 32 ∧ dropB (bs.drop p) 32 = bs.drop (p + 32) ∧ badB (bs.drop p) false 32 = false := by
  obtain ⟨e1, e2, e3⟩ := td_ok bs p 32 false h
  refine ⟨?_, e2, e3⟩
  unfold hOf
  rw [if_pos (by rw [List.length_drop]; omega)]
theorem hsh_no (h : ¬ p + 32 ≤ bs.length) (hp : p ≤ bs.length) : hOf (bs.drop p) = z32 ∧ dropB (bs.drop p) 32 = [] ∧ badB (bs.drop p) false 32 = true := by
  obtain ⟨e1, e2, e3⟩ := td_no bs p 32 false h hp
  refine ⟨?_, e2, e3⟩
  unfold hOf
  rw [if_neg (by rw [List.length_drop]; omega)]
theorem hsh_bad : hOf [] = z32 ∧ dropB [] 32 = [] ∧ badB [] true 32 = true := by
  obtain ⟨e1, e2, e3⟩ := td_nil 32
  exact ⟨rfl, e2, e3⟩
/-- A bool that is there. -/
theorem r_bool_ok (s : Box (Sin w0 w ib (bs.drop p) false)) (h : p < bs.length) (h1 : (bs.getD p 0).toNat ≤ 1) :
    Calls Try.prog 23 #[.pointer (some ⟨ib, 0, none⟩)] w fun e w' => e = .returned (.bool (decide ((bs.getD p 0).toNat = 1))) ∧ Box (Sin w0 w' ib (bs.drop (p + 1)) false) := by
  have := s_bool s.out
  obtain ⟨e1, e2, e3⟩ := td_ok bs p 1 false (by omega)
  have e4 : num ((bs.drop p).take 1) = (bs.getD p 0).toNat := by
    rw [List.drop_eq_getElem_cons h, List.take_succ_cons, List.take_zero, num_cons, num_nil]
    simp [h]
  rw [e1, e2, e3, e4] at this
  refine this.mono ?_
  rintro e w' ⟨rfl, h | h⟩
  · exact ⟨rfl, h.2⟩
  · exact absurd h1 h.1
theorem r_bool_out (s : Box (Sin w0 w ib (bs.drop p) false)) (h : p < bs.length) (h1 : ¬ (bs.getD p 0).toNat ≤ 1) :
    Calls Try.prog 23 #[.pointer (some ⟨ib, 0, none⟩)] w fun e w' => e = .returned (.bool false) ∧ Box (Sin w0 w' ib [] true) := by
  have := s_bool s.out
  obtain ⟨e1, e2, e3⟩ := td_ok bs p 1 false (by omega)
  have e4 : num ((bs.drop p).take 1) = (bs.getD p 0).toNat := by
    rw [List.drop_eq_getElem_cons h, List.take_succ_cons, List.take_zero, num_cons, num_nil]
    simp [h]
  rw [e1, e2, e3, e4] at this
  refine this.mono ?_
  rintro e w' ⟨rfl, h | h⟩
  · exact absurd h.1 h1
  · exact ⟨by rw [decide_eq_false (by omega)], h.2⟩
theorem r_bool_no (s : Box (Sin w0 w ib (bs.drop p) false)) (h : ¬ p < bs.length) (hp : p ≤ bs.length) :
    Calls Try.prog 23 #[.pointer (some ⟨ib, 0, none⟩)] w fun e w' => e = .returned (.bool false) ∧ Box (Sin w0 w' ib [] true) := by
  have := s_bool s.out
  obtain ⟨e1, e2, e3⟩ := td_no bs p 1 false (by omega) hp
  rw [e1, e2, e3, num_nil] at this
  refine this.mono ?_
  rintro e w' ⟨rfl, h | h⟩
  · exact ⟨rfl, h.2⟩
  · exact absurd (by omega) h.1
theorem r_bool_bad (s : Box (Sin w0 w ib [] true)) :
    Calls Try.prog 23 #[.pointer (some ⟨ib, 0, none⟩)] w fun e w' => e = .returned (.bool false) ∧ Box (Sin w0 w' ib [] true) := by
  have := s_bool s.out
  obtain ⟨e1, e2, e3⟩ := td_nil 1
  rw [e1, e2, e3, num_nil] at this
  refine this.mono ?_
  rintro e w' ⟨rfl, h | h⟩
  · exact ⟨rfl, h.2⟩
  · exact absurd (by omega) h.1
end
/-- The In stands at place p of the bytes bs, or is bad. -/
def Rd (w0 w : World) (ib : Nat) (bs : List (BitVec 8)) (p : Nat) (bad : Bool) : Prop :=
  (bad = true ∧ Box (Sin w0 w ib [] true)) ∨ (bad = false ∧ p ≤ bs.length ∧ Box (Sin w0 w ib (bs.drop p) false))
end Go.Proofs.Ytkgfcddjjghohaa
