/- What the calls of an In do, as a law meets them: the In lies apart from all that was ahead of the call. -/
import Derived.Test.YtkgfcddjjghohaaWk
namespace Go.Proofs.Ytkgfcddjjghohaa
open Go.RowKit
/-- In block ib lies an In that has the bytes bs left; what lay in w0 is as it was. -/
structure Sin (w0 w : World) (ib : Nat) (bs : List (BitVec 8)) (bad : Bool) : Prop where
  has : HasI w ib bs bad
  low : Below w0.heap.size w0 w
  far : w0.heap.size ≤ ib
  len : bs.length ≤ 800000
theorem Sin.next {w0 w w' : World} {ib : Nat} {bs bs' : List (BitVec 8)} {bad bad' : Bool} (h : Sin w0 w ib bs bad) (hi : HasI w' ib bs' bad') (ho : Only ib w w') (hl : bs'.length ≤ bs.length) : Sin w0 w' ib bs' bad' :=
  ⟨hi, h.low.trans (ho.below _ h.far h.low.size), h.far, Nat.le_trans hl h.len⟩
theorem Sin.grow {w0 w w' : World} {ib : Nat} {bs : List (BitVec 8)} {bad : Bool} (h : Sin w0 w ib bs bad) (hb : Below w.heap.size w w') : Sin w0 w' ib bs bad :=
  ⟨h.has.below hb, h.low.trans ⟨hb.os, hb.tape, hb.output, hb.size, fun k hk => hb.block k (Nat.lt_of_lt_of_le hk h.low.size)⟩, h.far, h.len⟩
theorem dropB_len (bs : List (BitVec 8)) (n : Nat) : (dropB bs n).length ≤ bs.length := by unfold dropB; split <;> simp
theorem s_int {w0 w : World} {ib : Nat} {bs : List (BitVec 8)} {bad : Bool} (h : Sin w0 w ib bs bad) :
    Calls Try.prog 18 #[.pointer (some ⟨ib, 0, none⟩)] w fun e w' => e = .returned (.int .i64 (rdI bs)) ∧ Box (Sin w0 w' ib (dropB bs 8) (badB bs bad 8)) := by
  have hlen := h.len
  obtain ⟨gb, hg⟩ := h.has
  refine (int_any ib gb bs bad w hg (by omega)).mono ?_
  rintro e w' ⟨rfl, h1, h2⟩
  exact ⟨rfl, ⟨h.next ⟨gb, h1⟩ h2 (dropB_len _ _)⟩⟩
theorem s_count {w0 w : World} {ib : Nat} {bs : List (BitVec 8)} {bad : Bool} (h : Sin w0 w ib bs bad) (least most : Int) :
    Calls Try.prog 19 #[.pointer (some ⟨ib, 0, none⟩), .int .i64 least, .int .i64 most] w fun e w' => (least ≤ rdI bs ∧ rdI bs ≤ most) ∧ e = .returned (.int .i64 (rdI bs)) ∧ Box (Sin w0 w' ib (dropB bs 8) (badB bs bad 8)) ∨ ¬ (least ≤ rdI bs ∧ rdI bs ≤ most) ∧ e = .returned (.int .i64 0) ∧ Box (Sin w0 w' ib [] true) := by
  have hlen := h.len
  obtain ⟨gb, hg⟩ := h.has
  refine (count_any ib gb bs bad least most w hg (by omega)).mono ?_
  rintro e w' ⟨h1 | h1, h2⟩
  · exact .inl ⟨h1.1, h1.2.1, ⟨h.next ⟨gb, h1.2.2⟩ h2 (dropB_len _ _)⟩⟩
  · exact .inr ⟨h1.1, h1.2.1, ⟨h.next ⟨gb, h1.2.2⟩ h2 (by simp)⟩⟩
theorem s_bad {w0 w : World} {ib : Nat} {bs : List (BitVec 8)} {bad : Bool} (h : Sin w0 w ib bs bad) :
    Calls Try.prog 15 #[.pointer (some ⟨ib, 0, none⟩)] w fun e w' => e = .returned (.bool bad) ∧ w' = w := by
  obtain ⟨gb, hg⟩ := h.has
  exact bad_any ib gb bs bad w hg
theorem s_done {w0 w : World} {ib : Nat} {bs : List (BitVec 8)} {bad : Bool} (h : Sin w0 w ib bs bad) :
    Calls Try.prog 16 #[.pointer (some ⟨ib, 0, none⟩)] w fun e w' => e = .returned (.bool (!bad && decide (bs = []))) ∧ w' = w := by
  obtain ⟨gb, hg⟩ := h.has
  exact done_any ib gb bs bad w hg
theorem s_bool {w0 w : World} {ib : Nat} {bs : List (BitVec 8)} {bad : Bool} (h : Sin w0 w ib bs bad) :
    Calls Try.prog 23 #[.pointer (some ⟨ib, 0, none⟩)] w fun e w' => e = .returned (.bool (decide (num (takeB bs 1) = 1))) ∧ (num (takeB bs 1) ≤ 1 ∧ Box (Sin w0 w' ib (dropB bs 1) (badB bs bad 1)) ∨ ¬ num (takeB bs 1) ≤ 1 ∧ Box (Sin w0 w' ib [] true)) := by
  have hlen := h.len
  obtain ⟨gb, hg⟩ := h.has
  refine (bool_any ib gb bs bad w hg (by omega)).mono ?_
  rintro e w' ⟨rfl, h1 | h1, h2⟩
  · exact ⟨rfl, .inl ⟨h1.1, ⟨h.next ⟨gb, h1.2⟩ h2 (dropB_len _ _)⟩⟩⟩
  · exact ⟨rfl, .inr ⟨h1.1, ⟨h.next ⟨gb, h1.2⟩ h2 (by simp)⟩⟩⟩
theorem cntR_len (bs : List (BitVec 8)) (most : Int) : (cntR bs most).length ≤ bs.length := by
  unfold cntR
  split
  · rw [List.length_drop]; have := dropB_len bs 4; omega
  · simp
theorem s_text {w0 w : World} {ib : Nat} {bs : List (BitVec 8)} {bad : Bool} (h : Sin w0 w ib bs bad) (most : Int) :
    Calls Try.prog 21 #[.pointer (some ⟨ib, 0, none⟩), .int .i64 most] w fun e w' => e = .returned (.string (str (cntO bs most))) ∧ Box (Sin w0 w' ib (cntR bs most) (cntX bs bad most)) := by
  have hlen := h.len
  obtain ⟨gb, hg⟩ := h.has
  refine (inText_any ib gb bs bad most w hg (by omega)).mono ?_
  rintro e w' ⟨rfl, h1, h2⟩
  exact ⟨rfl, ⟨h.next ⟨gb, h1⟩ h2 (cntR_len _ _)⟩⟩
theorem s_bytes {w0 w : World} {ib : Nat} {bs : List (BitVec 8)} {bad : Bool} (h : Sin w0 w ib bs bad) (most : Int) :
    Calls Try.prog 20 #[.pointer (some ⟨ib, 0, none⟩), .int .i64 most] w fun e w' => ∃ v, e = .returned v ∧ (convert 25 9 v).run Try.prog w' = .ok (.string (str (cntO bs most))) w' ∧ Box (Sin w0 w' ib (cntR bs most) (cntX bs bad most)) := by
  have hlen := h.len
  obtain ⟨gb, hg⟩ := h.has
  refine (inBytes_any ib gb bs bad most w hg (by omega)).mono ?_
  rintro e w' ⟨v, g, rfl, h0, h1, h2⟩
  exact ⟨v, rfl, run_str w' v _ g h0, ⟨h.next ⟨gb, h1⟩ h2 (cntR_len _ _)⟩⟩
theorem s_hash {w0 w : World} {ib : Nat} {bs : List (BitVec 8)} {bad : Bool} (h : Sin w0 w ib bs bad) :
    Calls Try.prog 22 #[.pointer (some ⟨ib, 0, none⟩)] w fun e w' => e = .returned (.agg ((hOf bs).map V).toArray) ∧ Box (Sin w0 w' ib (dropB bs 32) (badB bs bad 32)) ∧ Box (Only ib w w') := by
  have hlen := h.len
  refine (hash_any ib bs bad w h.has (by omega)).mono ?_
  rintro e w' ⟨rfl, h1, h2⟩
  exact ⟨rfl, ⟨h.next h1 h2 (dropB_len _ _)⟩, ⟨h2⟩⟩
theorem s_hashes {w0 w : World} {ib : Nat} {bs : List (BitVec 8)} {bad : Bool} (h : Sin w0 w ib bs bad) (most : Int) :
    Calls Try.prog 24 #[.pointer (some ⟨ib, 0, none⟩), .int .i64 most] w fun e w' => ∃ L, e = .returned (.slice (some ⟨L, 0, none⟩) (hsN bs most) (hsN bs most)) ∧ w.heap.size ≤ L ∧ Box (Fl w' (some ⟨L, 0, none⟩) L 0 (hsN bs most) ((hsD bs most).take (32 * hsN bs most))) ∧ Box (Sin w0 w' ib ((hsD bs most).drop (32 * hsN bs most)) (hsX bs bad most)) ∧ Box (Only ib w w') := by
  have hlen := h.len
  refine (inHashes_any ib bs bad most w h.has (by omega)).mono ?_
  rintro e w' ⟨L, rfl, h1, h2, h3, h4, h5⟩
  have hle := hs_le bs most
  have hl2 := hsD_len bs most
  exact ⟨L, rfl, h1, ⟨⟨by simp; omega, fun _ => ⟨rfl, h2, h3⟩⟩⟩, ⟨h.next h4 h5 (by rw [List.length_drop]; omega)⟩, ⟨h5⟩⟩
theorem s_awake {w0 w : World} {ib : Nat} {bs : List (BitVec 8)} {bad : Bool} (h : Sin w0 w ib bs bad) :
    Calls Try.prog 9 #[] w fun e w' => e = .returned (.bool true) ∧ Box (Sin w0 w' ib bs bad) := by
  refine (awake_any w).mono ?_
  rintro e w' ⟨rfl, h1⟩
  exact ⟨rfl, ⟨h.grow h1⟩⟩
theorem s_new (w0 w : World) (v : Value) (gb : Nat) (bs : List (BitVec 8)) (hr : Rv w v bs gb) (hl : bs.length ≤ 800000) (hb : Below w0.heap.size w0 w) :
    Calls Try.prog 13 #[v] w fun e w' => ∃ ib, e = .returned (.pointer (some ⟨ib, 0, none⟩)) ∧ Box (Sin w0 w' ib bs false) ∧ Box (Below w.heap.size w w') ∧ w.heap.size ≤ ib := by
  refine (newIn_any v gb bs w hr (by omega)).mono ?_
  rintro e w' ⟨ib, g, rfl, h1, h2, h3, h4⟩
  have := hb.size
  exact ⟨ib, rfl, ⟨⟨g, h3⟩, hb.trans ⟨h4.os, h4.tape, h4.output, h4.size, fun k hk => h4.block k (by omega)⟩, by omega, hl⟩, ⟨h4⟩, h1⟩
end Go.Proofs.Ytkgfcddjjghohaa
