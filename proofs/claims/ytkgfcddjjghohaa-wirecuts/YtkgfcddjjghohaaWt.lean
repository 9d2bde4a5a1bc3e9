/- What told does, by the thing's kind. -/
import Derived.Test.YtkgfcddjjghohaaWs
namespace Go.Proofs.Ytkgfcddjjghohaa
open Go.RowKit
theorem Try.under4 : Try.prog.underlying 4 = some .bool := by kernel_rfl
theorem str_beq (s t : ByteArray) : (s.toList == t.toList) = decide (s = t) := by
  rw [ByteArray.toList_eq, ByteArray.toList_eq]
  by_cases h : s = t
  · subst h; simp
  · have : s.data ≠ t.data := fun e => h (ByteArray.ext e)
    simp [h, this]
theorem o_int {w0 w : World} {ib : Nat} {bs : List (BitVec 8)} {bad : Bool} (h : Sin w0 w ib bs bad) :
    Calls Try.prog 18 #[.pointer (some ⟨ib, 0, none⟩)] w fun e w' => e = .returned (.int .i64 (rdI bs)) ∧ Box (Sin w0 w' ib (dropB bs 8) (badB bs bad 8)) ∧ Only ib w w' := by
  have hlen := h.len
  obtain ⟨gb, hg⟩ := h.has
  refine (int_any ib gb bs bad w hg (by omega)).mono ?_
  rintro e w' ⟨rfl, h1, h2⟩
  exact ⟨rfl, ⟨h.next ⟨gb, h1⟩ h2 (dropB_len _ _)⟩, h2⟩
theorem o_text {w0 w : World} {ib : Nat} {bs : List (BitVec 8)} {bad : Bool} (h : Sin w0 w ib bs bad) (most : Int) :
    Calls Try.prog 21 #[.pointer (some ⟨ib, 0, none⟩), .int .i64 most] w fun e w' => e = .returned (.string (str (cntO bs most))) ∧ Box (Sin w0 w' ib (cntR bs most) (cntX bs bad most)) ∧ Only ib w w' := by
  have hlen := h.len
  obtain ⟨gb, hg⟩ := h.has
  refine (inText_any ib gb bs bad most w hg (by omega)).mono ?_
  rintro e w' ⟨rfl, h1, h2⟩
  exact ⟨rfl, ⟨h.next ⟨gb, h1⟩ h2 (cntR_len _ _)⟩, h2⟩
def boR (bs : List (BitVec 8)) : List (BitVec 8) := if num (takeB bs 1) ≤ 1 then dropB bs 1 else []
def boX (bs : List (BitVec 8)) (bad : Bool) : Bool := if num (takeB bs 1) ≤ 1 then badB bs bad 1 else true
theorem o_bool {w0 w : World} {ib : Nat} {bs : List (BitVec 8)} {bad : Bool} (h : Sin w0 w ib bs bad) :
    Calls Try.prog 23 #[.pointer (some ⟨ib, 0, none⟩)] w fun e w' => e = .returned (.bool (decide (num (takeB bs 1) = 1))) ∧ Box (Sin w0 w' ib (boR bs) (boX bs bad)) ∧ Only ib w w' := by
  have hlen := h.len
  obtain ⟨gb, hg⟩ := h.has
  unfold boR boX
  refine (bool_any ib gb bs bad w hg (by omega)).mono ?_
  rintro e w' ⟨rfl, h1 | h1, h2⟩
  · rw [if_pos h1.1, if_pos h1.1]
    exact ⟨rfl, ⟨h.next ⟨gb, h1.2⟩ h2 (dropB_len _ _)⟩, h2⟩
  · rw [if_neg h1.1, if_neg h1.1]
    exact ⟨rfl, ⟨h.next ⟨gb, h1.2⟩ h2 (by simp)⟩, h2⟩
set_option maxHeartbeats 1000000 in
theorem told_int (w0 w : World) (ib : Nat) (t : Th) (rest : List (BitVec 8)) (bad : Bool) (s : Sin w0 w ib rest bad) (hk : t.kind = 0) :
    Calls Try.prog 14 #[.pointer (some ⟨ib, 0, none⟩), .agg t.cells.toArray] w fun e w' => ∃ b, e = .returned (.bool b) ∧ (rdI rest = t.n → b = true) ∧ Box (Sin w0 w' ib (dropB rest 8) (badB rest bad 8)) := by
  have hib := s.has.lt
  have s' := Box.mk s
  clear s
  obtain ⟨cs, hcs⟩ : ∃ cs, Box (t.cells = cs) := ⟨_, ⟨rfl⟩⟩
  rw [hcs.out]
  go_enter Try.func14, Try.ntmps14
  go_upto_region 1 with fail
  refine code_any (fun w1 => HasT w1 w.heap.size t ∧ Below w.heap.size w w1) ?_ ?_
  · exact ⟨by unfold HasT; rw [hcs.out]; exact heap_alloc_new _ _, (Below.refl _ _).alloc (Nat.le_refl _) _⟩
  rintro w1 ⟨ht, hb1⟩
  have c0 := ht.c0
  rw [hk] at c0
  have hS1 := ht.c1
  have ht' := Box.mk ht
  have hi : ∀ w7, w7.heap = w1.heap → Below w.heap.size w w7 → Box (Calls Try.prog 18 #[.pointer (some ⟨ib, 0, none⟩)] w7 fun e w' => e = .returned (.int .i64 (rdI rest)) ∧ Box (Sin w0 w' ib (dropB rest 8) (badB rest bad 8)) ∧ w'.cell? ⟨w.heap.size, 1, none⟩ = some (.int .i64 t.n)) := fun w7 e7 b7 => ⟨by
    refine (o_int (s'.out.grow b7)).mono ?_
    rintro e w' ⟨rfl, h1, h2⟩
    refine ⟨rfl, h1, ?_⟩
    rw [World.cell?_of_block (w := w7) (h2.block w.heap.size (by rw [e7]; exact ht'.out.lt) (by simp; omega)), World.cell?_of_block (w := w1) (by rw [e7])]
    exact ht'.out.c1⟩
  clear ht hcs hk
  go_wp2
  go_region_held3 (fun W => W.cell? ⟨w.heap.size, 1, none⟩ = some (.int .i64 t.n)) (first | exact hS1 | exact hS2) (first | (go_at_call 18; refine (hi _ (by rfl) (by first | exact hb1.drew | exact hb1)).out.mono ?_; rintro e w2 ⟨rfl, s2, hS2⟩))
  all_goals
    clear hi hS1 hS2
    go_wp2
    go_ret
    exact ⟨_, rfl, fun e => by rw [e]; simp, s2⟩
set_option maxHeartbeats 1000000 in
theorem told_text (w0 w : World) (ib : Nat) (t : Th) (rest : List (BitVec 8)) (bad : Bool) (s : Sin w0 w ib rest bad) (hk : t.kind = 1) :
    Calls Try.prog 14 #[.pointer (some ⟨ib, 0, none⟩), .agg t.cells.toArray] w fun e w' => ∃ b, e = .returned (.bool b) ∧ (str (cntO rest 1000) = t.text → b = true) ∧ Box (Sin w0 w' ib (cntR rest 1000) (cntX rest bad 1000)) := by
  have hib := s.has.lt
  have s' := Box.mk s
  clear s
  obtain ⟨cs, hcs⟩ : ∃ cs, Box (t.cells = cs) := ⟨_, ⟨rfl⟩⟩
  rw [hcs.out]
  go_enter Try.func14, Try.ntmps14
  go_upto_region 1 with fail
  refine code_any (fun w1 => HasT w1 w.heap.size t ∧ Below w.heap.size w w1) ?_ ?_
  · exact ⟨by unfold HasT; rw [hcs.out]; exact heap_alloc_new _ _, (Below.refl _ _).alloc (Nat.le_refl _) _⟩
  rintro w1 ⟨ht, hb1⟩
  have c0 := ht.c0
  rw [hk] at c0
  have hS1 := ht.c2
  have ht' := Box.mk ht
  have hi : ∀ w7, w7.heap = w1.heap → Below w.heap.size w w7 → Box (Calls Try.prog 21 #[.pointer (some ⟨ib, 0, none⟩), .int .i64 1000] w7 fun e w' => e = .returned (.string (str (cntO rest 1000))) ∧ Box (Sin w0 w' ib (cntR rest 1000) (cntX rest bad 1000)) ∧ w'.cell? ⟨w.heap.size, 2, none⟩ = some (.string t.text)) := fun w7 e7 b7 => ⟨by
    refine (o_text (s'.out.grow b7) 1000).mono ?_
    rintro e w' ⟨rfl, h1, h2⟩
    refine ⟨rfl, h1, ?_⟩
    rw [World.cell?_of_block (w := w7) (h2.block w.heap.size (by rw [e7]; exact ht'.out.lt) (by simp; omega)), World.cell?_of_block (w := w1) (by rw [e7])]
    exact ht'.out.c2⟩
  clear ht hcs hk
  go_wp2
  go_region_held3 (fun W => W.cell? ⟨w.heap.size, 2, none⟩ = some (.string t.text)) (first | exact hS1 | exact hS2) (first | (go_at_call 21; refine (hi _ (by rfl) (by first | exact hb1.drew | exact hb1)).out.mono ?_; rintro e w2 ⟨rfl, s2, hS2⟩))
  all_goals
    clear hi hS1 hS2
    go_wp2
    go_ret
    exact ⟨_, rfl, fun e => by rw [e]; simp, s2⟩
set_option maxHeartbeats 1000000 in
theorem told_bool (w0 w : World) (ib : Nat) (t : Th) (rest : List (BitVec 8)) (bad : Bool) (s : Sin w0 w ib rest bad) (hok : t.hash.length = 32) (hk : t.kind = 4) :
    Calls Try.prog 14 #[.pointer (some ⟨ib, 0, none⟩), .agg t.cells.toArray] w fun e w' => ∃ b, e = .returned (.bool b) ∧ (decide (num (takeB rest 1) = 1) = t.flag → b = true) ∧ Box (Sin w0 w' ib (boR rest) (boX rest bad)) := by
  have hib := s.has.lt
  have s' := Box.mk s
  clear s
  obtain ⟨cs, hcs⟩ : ∃ cs, Box (t.cells = cs) := ⟨_, ⟨rfl⟩⟩
  rw [hcs.out]
  go_enter Try.func14, Try.ntmps14
  go_upto_region 1 with fail
  refine code_any (fun w1 => HasT w1 w.heap.size t ∧ Below w.heap.size w w1) ?_ ?_
  · exact ⟨by unfold HasT; rw [hcs.out]; exact heap_alloc_new _ _, (Below.refl _ _).alloc (Nat.le_refl _) _⟩
  rintro w1 ⟨ht, hb1⟩
  have c0 := ht.c0
  rw [hk] at c0
  have hS1 := ht.c36 hok
  have ht' := Box.mk ht
  have hi : ∀ w7, w7.heap = w1.heap → Below w.heap.size w w7 → Box (Calls Try.prog 23 #[.pointer (some ⟨ib, 0, none⟩)] w7 fun e w' => e = .returned (.bool (decide (num (takeB rest 1) = 1))) ∧ Box (Sin w0 w' ib (boR rest) (boX rest bad)) ∧ w'.cell? ⟨w.heap.size, 36, none⟩ = some (.bool t.flag)) := fun w7 e7 b7 => ⟨by
    refine (o_bool (s'.out.grow b7)).mono ?_
    rintro e w' ⟨rfl, h1, h2⟩
    refine ⟨rfl, h1, ?_⟩
    rw [World.cell?_of_block (w := w7) (h2.block w.heap.size (by rw [e7]; exact ht'.out.lt) (by simp; omega)), World.cell?_of_block (w := w1) (by rw [e7])]
    exact ht'.out.c36 hok⟩
  clear ht hcs hk
  go_wp2
  go_region_held3 (fun W => W.cell? ⟨w.heap.size, 36, none⟩ = some (.bool t.flag)) (first | exact hS1 | exact hS2) (first | (go_at_call 23; refine (hi _ (by rfl) (by first | exact hb1.drew | exact hb1)).out.mono ?_; rintro e w2 ⟨rfl, s2, hS2⟩))
  all_goals
    clear hi hS1 hS2
    go_wp2
    go_ret
    exact ⟨_, rfl, fun e => by rw [e]; simp, s2⟩
set_option maxHeartbeats 1000000 in
theorem told_none (w0 w : World) (ib : Nat) (t : Th) (rest : List (BitVec 8)) (bad : Bool) (s : Sin w0 w ib rest bad) (h0 : t.kind ≠ 0) (h1 : t.kind ≠ 1) (h2 : t.kind ≠ 2) (h3 : t.kind ≠ 3) (h4 : t.kind ≠ 4) :
    Calls Try.prog 14 #[.pointer (some ⟨ib, 0, none⟩), .agg t.cells.toArray] w fun e w' => e = .returned (.bool true) ∧ Box (Sin w0 w' ib rest bad) := by
  have s' := Box.mk s
  clear s
  obtain ⟨cs, hcs⟩ : ∃ cs, Box (t.cells = cs) := ⟨_, ⟨rfl⟩⟩
  rw [hcs.out]
  go_enter Try.func14, Try.ntmps14
  go_upto_region 1 with fail
  refine code_any (fun w1 => HasT w1 w.heap.size t ∧ Below w.heap.size w w1) ?_ ?_
  · exact ⟨by unfold HasT; rw [hcs.out]; exact heap_alloc_new _ _, (Below.refl _ _).alloc (Nat.le_refl _) _⟩
  rintro w1 ⟨ht, hb1⟩
  have c0 := ht.c0
  have q0 : (t.kind == 0) = false := by simpa using h0
  have q1 : (t.kind == 1) = false := by simpa using h1
  have q2 : (t.kind == 2) = false := by simpa using h2
  have q3 : (t.kind == 3) = false := by simpa using h3
  have q4 : (t.kind == 4) = false := by simpa using h4
  clear ht hcs
  go_wp2
  go_ret
  exact ⟨rfl, ⟨s'.out.grow hb1⟩⟩
end Go.Proofs.Ytkgfcddjjghohaa
