/- What small, put and bytes do. -/
import Derived.Test.YtkgfcddjjghohaaWw
import Derived.Test.YtkgfcddjjghohaaWs
namespace Go.Proofs.Ytkgfcddjjghohaa
open Go.RowKit
theorem Try.build28x (x0 x1 x2 x3 x4 x5 x6 x7 x8 x9 x10 x11 x12 x13 x14 x15 x16 x17 x18 x19 x20 x21 x22 x23 x24 x25 x26 x27 x28 x29 x30 x31 : BitVec 8) (w : World) : (Instr.buildSlice 59 1 #[(0, .agg ([x0, x1, x2, x3, x4, x5, x6, x7, x8, x9, x10, x11, x12, x13, x14, x15, x16, x17, x18, x19, x20, x21, x22, x23, x24, x25, x26, x27, x28, x29, x30, x31].map V).toArray)]).run Try.prog w = .ok (.slice (some ⟨w.heap.size, 0, none⟩) 1 1) (w.alloc (.cells ([x0, x1, x2, x3, x4, x5, x6, x7, x8, x9, x10, x11, x12, x13, x14, x15, x16, x17, x18, x19, x20, x21, x22, x23, x24, x25, x26, x27, x28, x29, x30, x31].map V).toArray 28)) := by kernel_rfl
theorem Try.build28 (hh : List (BitVec 8)) (h : hh.length = 32) (w : World) : (Instr.buildSlice 59 1 #[(0, .agg (hh.map V).toArray)]).run Try.prog w = .ok (.slice (some ⟨w.heap.size, 0, none⟩) 1 1) (w.alloc (.cells (hh.map V).toArray 28)) := by
  match hh, h with
  | [x0, x1, x2, x3, x4, x5, x6, x7, x8, x9, x10, x11, x12, x13, x14, x15, x16, x17, x18, x19, x20, x21, x22, x23, x24, x25, x26, x27, x28, x29, x30, x31], _ => exact Try.build28x x0 x1 x2 x3 x4 x5 x6 x7 x8 x9 x10 x11 x12 x13 x14 x15 x16 x17 x18 x19 x20 x21 x22 x23 x24 x25 x26 x27 x28 x29 x30 x31 w
/-- A bool's byte. -/
def bit (b : Bool) : BitVec 8 := if b then 1 else 0
/-- The bytes of a thing. -/
def Th.enc (t : Th) : List (BitVec 8) :=
  if t.kind = 0 then be8 t.n else if t.kind = 1 then beN t.text.size 4 ++ strB t.text else if t.kind = 2 then t.hash else if t.kind = 3 then beN t.N 4 ++ t.D else if t.kind = 4 then [bit t.flag] else []
set_option maxHeartbeats 1000000 in
theorem put_int (ob : Nat) (v0 : Value) (xs : List (BitVec 8)) (t : Th) (w : World) (h : HasOut w ob v0 xs) (hx : xs.length ≤ 500000) (hk : t.kind = 0) :
    Calls Try.prog 10 #[.pointer (some ⟨ob, 0, none⟩), .agg t.cells.toArray] w fun e w' => e = .returned (.tuple #[]) ∧ ∃ v', HasOut w' ob v' (xs ++ be8 t.n) ∧ Put ob v0 v' w w' := by
  have hlt := h.lt
  have h' := Box.mk h
  clear h
  obtain ⟨cs, hcs⟩ : ∃ cs, Box (t.cells = cs) := ⟨_, ⟨rfl⟩⟩
  rw [hcs.out]
  go_enter Try.func10, Try.ntmps10
  go_upto_region 1 with fail
  refine code_any (fun w1 => HasT w1 w.heap.size t ∧ Below w.heap.size w w1) ?_ ?_
  · exact ⟨by unfold HasT; rw [hcs.out]; exact heap_alloc_new _ _, (Below.refl _ _).alloc (Nat.le_refl _) _⟩
  rintro w1 ⟨ht, hb1⟩
  have c0 := ht.c0
  rw [hk] at c0
  have c1 := ht.c1
  have hP : Put ob v0 v0 w w1 := ⟨hb1.os, hb1.tape, hb1.output, hb1.size, fun k hk _ _ => hb1.block k hk, .inl rfl⟩
  have hi : Box (Calls Try.prog 25 #[.pointer (some ⟨ob, 0, none⟩), .int .i64 t.n] w1 fun e w' => e = .returned (.pointer (some ⟨ob, 0, none⟩)) ∧ Box (∃ v', HasOut w' ob v' (xs ++ be8 t.n) ∧ Put ob v0 v' w w')) := ⟨by
    refine (oint_any ob t.n v0 xs w1 (h'.out.below hb1) (by omega)).mono ?_
    rintro e w' ⟨rfl, v', h1, h2⟩
    skip
    exact ⟨rfl, ⟨v', h1, hP.trans h2⟩⟩⟩
  clear ht hcs hk hP
  go_wp2_with (first | (go_at_call 25; refine hi.out.mono ?_; rintro e w2 ⟨rfl, h2⟩))
  first | go_end0 | refine bodyPost_ret (results_none rfl _ _ _) rfl ?_
  exact ⟨rfl, h2.out⟩
set_option maxHeartbeats 1000000 in
theorem put_text (ob : Nat) (v0 : Value) (xs : List (BitVec 8)) (t : Th) (w : World) (h : HasOut w ob v0 xs) (hx : xs.length ≤ 500000) (hs : t.text.size ≤ 1000) (hk : t.kind = 1) :
    Calls Try.prog 10 #[.pointer (some ⟨ob, 0, none⟩), .agg t.cells.toArray] w fun e w' => e = .returned (.tuple #[]) ∧ ∃ v', HasOut w' ob v' (xs ++ (beN t.text.size 4 ++ strB t.text)) ∧ Put ob v0 v' w w' := by
  have hlt := h.lt
  have h' := Box.mk h
  clear h
  obtain ⟨cs, hcs⟩ : ∃ cs, Box (t.cells = cs) := ⟨_, ⟨rfl⟩⟩
  rw [hcs.out]
  go_enter Try.func10, Try.ntmps10
  go_upto_region 1 with fail
  refine code_any (fun w1 => HasT w1 w.heap.size t ∧ Below w.heap.size w w1) ?_ ?_
  · exact ⟨by unfold HasT; rw [hcs.out]; exact heap_alloc_new _ _, (Below.refl _ _).alloc (Nat.le_refl _) _⟩
  rintro w1 ⟨ht, hb1⟩
  have c0 := ht.c0
  rw [hk] at c0
  have c1 := ht.c2
  have hP : Put ob v0 v0 w w1 := ⟨hb1.os, hb1.tape, hb1.output, hb1.size, fun k hk _ _ => hb1.block k hk, .inl rfl⟩
  have hi : Box (Calls Try.prog 26 #[.pointer (some ⟨ob, 0, none⟩), .string t.text] w1 fun e w' => e = .returned (.pointer (some ⟨ob, 0, none⟩)) ∧ Box (∃ v', HasOut w' ob v' (xs ++ (beN t.text.size 4 ++ strB t.text)) ∧ Put ob v0 v' w w')) := ⟨by
    refine (otext_any ob t.text v0 xs w1 (h'.out.below hb1) (by omega)).mono ?_
    rintro e w' ⟨rfl, v', h1, h2⟩
    rw [List.append_assoc] at h1
    exact ⟨rfl, ⟨v', h1, hP.trans h2⟩⟩⟩
  clear ht hcs hk hP
  go_wp2_with (first | (go_at_call 26; refine hi.out.mono ?_; rintro e w2 ⟨rfl, h2⟩))
  first | go_end0 | refine bodyPost_ret (results_none rfl _ _ _) rfl ?_
  exact ⟨rfl, h2.out⟩
set_option maxHeartbeats 1000000 in
theorem put_hash (ob : Nat) (v0 : Value) (xs : List (BitVec 8)) (t : Th) (w : World) (h : HasOut w ob v0 xs) (hx : xs.length ≤ 500000) (hok : t.hash.length = 32) (hk : t.kind = 2) :
    Calls Try.prog 10 #[.pointer (some ⟨ob, 0, none⟩), .agg t.cells.toArray] w fun e w' => e = .returned (.tuple #[]) ∧ ∃ v', HasOut w' ob v' (xs ++ t.hash) ∧ Put ob v0 v' w w' := by
  have hlt := h.lt
  have h' := Box.mk h
  clear h
  obtain ⟨cs, hcs⟩ : ∃ cs, Box (t.cells = cs) := ⟨_, ⟨rfl⟩⟩
  rw [hcs.out]
  go_enter Try.func10, Try.ntmps10
  go_upto_region 1 with fail
  refine code_any (fun w1 => HasT w1 w.heap.size t ∧ Below w.heap.size w w1) ?_ ?_
  · exact ⟨by unfold HasT; rw [hcs.out]; exact heap_alloc_new _ _, (Below.refl _ _).alloc (Nat.le_refl _) _⟩
  rintro w1 ⟨ht, hb1⟩
  have c0 := ht.c0
  rw [hk] at c0
  have c1 := Box.mk (range_of (ht.hash hok))
  have hP : Put ob v0 v0 w w1 := ⟨hb1.os, hb1.tape, hb1.output, hb1.size, fun k hk _ _ => hb1.block k hk, .inl rfl⟩
  have hi : Box (Calls Try.prog 27 #[.pointer (some ⟨ob, 0, none⟩), .agg (t.hash.map V).toArray] w1 fun e w' => e = .returned (.pointer (some ⟨ob, 0, none⟩)) ∧ Box (∃ v', HasOut w' ob v' (xs ++ t.hash) ∧ Put ob v0 v' w w')) := ⟨by
    refine (ohash_any ob t.hash v0 xs w1 (h'.out.below hb1) hok (by omega)).mono ?_
    rintro e w' ⟨rfl, v', h1, h2⟩
    skip
    exact ⟨rfl, ⟨v', h1, hP.trans h2⟩⟩⟩
  clear ht hcs hk hP
  go_wp2_with (first | (go_at_call 27; refine hi.out.mono ?_; rintro e w2 ⟨rfl, h2⟩) | (refine wpList_load_mid rfl 29 (.tmp 21) rfl w.heap.size 3 rfl (t.hash.map V) _ c1.out Try.under29 rfl (by rw [List.length_map, hok]; exact Try.size29) ?_))
  first | go_end0 | refine bodyPost_ret (results_none rfl _ _ _) rfl ?_
  exact ⟨rfl, h2.out⟩
set_option maxHeartbeats 1000000 in
theorem put_hashes (ob : Nat) (v0 : Value) (xs : List (BitVec 8)) (t : Th) (w : World) (h : HasOut w ob v0 xs) (hx : xs.length ≤ 500000) (hok : t.hash.length = 32) (hfl : Fl w t.A t.lb t.lo t.N t.D) (hlb : 0 < t.N → t.lb < ob) (hN : t.N ≤ 1000) (hk : t.kind = 3) :
    Calls Try.prog 10 #[.pointer (some ⟨ob, 0, none⟩), .agg t.cells.toArray] w fun e w' => e = .returned (.tuple #[]) ∧ ∃ v', HasOut w' ob v' (xs ++ (beN t.N 4 ++ t.D)) ∧ Put ob v0 v' w w' := by
  have hlt := h.lt
  have h' := Box.mk h
  clear h
  obtain ⟨cs, hcs⟩ : ∃ cs, Box (t.cells = cs) := ⟨_, ⟨rfl⟩⟩
  rw [hcs.out]
  go_enter Try.func10, Try.ntmps10
  go_upto_region 1 with fail
  refine code_any (fun w1 => HasT w1 w.heap.size t ∧ Below w.heap.size w w1) ?_ ?_
  · exact ⟨by unfold HasT; rw [hcs.out]; exact heap_alloc_new _ _, (Below.refl _ _).alloc (Nat.le_refl _) _⟩
  rintro w1 ⟨ht, hb1⟩
  have c0 := ht.c0
  rw [hk] at c0
  have c1 := ht.c35 hok
  have hP : Put ob v0 v0 w w1 := ⟨hb1.os, hb1.tape, hb1.output, hb1.size, fun k hk _ _ => hb1.block k hk, .inl rfl⟩
  have hi : Box (Calls Try.prog 28 #[.pointer (some ⟨ob, 0, none⟩), .slice t.A t.N t.C] w1 fun e w' => e = .returned (.pointer (some ⟨ob, 0, none⟩)) ∧ Box (∃ v', HasOut w' ob v' (xs ++ (beN t.N 4 ++ t.D)) ∧ Put ob v0 v' w w')) := ⟨by
    refine (ohashes_any ob t.lb t.lo t.N t.C t.A t.D v0 xs w1 (h'.out.below hb1) (hfl.below hb1 (fun hn => (hfl.src hn).2.1)) hlb hN (by omega)).mono ?_
    rintro e w' ⟨rfl, v', h1, h2⟩
    rw [List.append_assoc] at h1
    exact ⟨rfl, ⟨v', h1, hP.trans h2⟩⟩⟩
  clear ht hcs hk hP
  go_wp2_with (first | (go_at_call 28; refine hi.out.mono ?_; rintro e w2 ⟨rfl, h2⟩))
  first | go_end0 | refine bodyPost_ret (results_none rfl _ _ _) rfl ?_
  exact ⟨rfl, h2.out⟩
set_option maxHeartbeats 1000000 in
theorem put_bool (ob : Nat) (v0 : Value) (xs : List (BitVec 8)) (t : Th) (w : World) (h : HasOut w ob v0 xs) (hx : xs.length ≤ 500000) (hok : t.hash.length = 32) (hk : t.kind = 4) :
    Calls Try.prog 10 #[.pointer (some ⟨ob, 0, none⟩), .agg t.cells.toArray] w fun e w' => e = .returned (.tuple #[]) ∧ ∃ v', HasOut w' ob v' (xs ++ [bit t.flag]) ∧ Put ob v0 v' w w' := by
  have hlt := h.lt
  have h' := Box.mk h
  clear h
  obtain ⟨cs, hcs⟩ : ∃ cs, Box (t.cells = cs) := ⟨_, ⟨rfl⟩⟩
  rw [hcs.out]
  go_enter Try.func10, Try.ntmps10
  go_upto_region 1 with fail
  refine code_any (fun w1 => HasT w1 w.heap.size t ∧ Below w.heap.size w w1) ?_ ?_
  · exact ⟨by unfold HasT; rw [hcs.out]; exact heap_alloc_new _ _, (Below.refl _ _).alloc (Nat.le_refl _) _⟩
  rintro w1 ⟨ht, hb1⟩
  have c0 := ht.c0
  rw [hk] at c0
  have c1 := ht.c36 hok
  have hP : Put ob v0 v0 w w1 := ⟨hb1.os, hb1.tape, hb1.output, hb1.size, fun k hk _ _ => hb1.block k hk, .inl rfl⟩
  have hi : Box (Calls Try.prog 29 #[.pointer (some ⟨ob, 0, none⟩), .bool t.flag] w1 fun e w' => e = .returned (.pointer (some ⟨ob, 0, none⟩)) ∧ Box (∃ v', HasOut w' ob v' (xs ++ [bit t.flag]) ∧ Put ob v0 v' w w')) := ⟨by
    refine (obool_any ob t.flag v0 xs w1 (h'.out.below hb1) (by omega)).mono ?_
    rintro e w' ⟨rfl, v', h1, h2⟩
    skip
    exact ⟨rfl, ⟨v', h1, hP.trans h2⟩⟩⟩
  clear ht hcs hk hP
  go_wp2_with (first | (go_at_call 29; refine hi.out.mono ?_; rintro e w2 ⟨rfl, h2⟩))
  first | go_end0 | refine bodyPost_ret (results_none rfl _ _ _) rfl ?_
  exact ⟨rfl, h2.out⟩
set_option maxHeartbeats 1000000 in
theorem put_none (ob : Nat) (v0 : Value) (xs : List (BitVec 8)) (t : Th) (w : World) (h : HasOut w ob v0 xs) (h0 : t.kind ≠ 0) (h1 : t.kind ≠ 1) (h2 : t.kind ≠ 2) (h3 : t.kind ≠ 3) (h4 : t.kind ≠ 4) :
    Calls Try.prog 10 #[.pointer (some ⟨ob, 0, none⟩), .agg t.cells.toArray] w fun e w' => e = .returned (.tuple #[]) ∧ ∃ v', HasOut w' ob v' (xs ++ []) ∧ Put ob v0 v' w w' := by
  have h' := Box.mk h
  clear h
  obtain ⟨cs, hcs⟩ : ∃ cs, Box (t.cells = cs) := ⟨_, ⟨rfl⟩⟩
  rw [hcs.out]
  go_enter Try.func10, Try.ntmps10
  go_upto_region 1 with fail
  refine code_any (fun w1 => HasT w1 w.heap.size t ∧ Below w.heap.size w w1) ?_ ?_
  · exact ⟨by unfold HasT; rw [hcs.out]; exact heap_alloc_new _ _, (Below.refl _ _).alloc (Nat.le_refl _) _⟩
  rintro w1 ⟨ht, hb1⟩
  have c0 := ht.c0
  have q0 : (t.kind == 0) = false := by simpa using h0
  have q1 : (t.kind == 1) = false := by simpa using h1
  have q2 : (t.kind == 2) = false := by simpa using h2
  have q3 : (t.kind == 3) = false := by simpa using h3
  have q4 : (t.kind == 4) = false := by simpa using h4
  clear ht hcs
  go_wp2
  first | go_end0 | refine bodyPost_ret (results_none rfl _ _ _) rfl ?_
  exact ⟨rfl, v0, by rw [List.append_nil]; exact h'.out.below hb1, ⟨hb1.os, hb1.tape, hb1.output, hb1.size, fun k hk _ _ => hb1.block k hk, .inl rfl⟩⟩
/-- put, whatever the kind. -/
theorem put_any (ob : Nat) (v0 : Value) (xs : List (BitVec 8)) (t : Th) (w : World) (h : HasOut w ob v0 xs) (hx : xs.length ≤ 500000) (hok : t.hash.length = 32) (hfl : Fl w t.A t.lb t.lo t.N t.D) (hlb : 0 < t.N → t.lb < ob) (hN : t.N ≤ 1000) (hs : t.text.size ≤ 1000) :
    Calls Try.prog 10 #[.pointer (some ⟨ob, 0, none⟩), .agg t.cells.toArray] w fun e w' => e = .returned (.tuple #[]) ∧ ∃ v', HasOut w' ob v' (xs ++ t.enc) ∧ Put ob v0 v' w w' := by
  unfold Th.enc
  by_cases h0 : t.kind = 0
  · rw [if_pos h0]; exact put_int ob v0 xs t w h hx h0
  by_cases h1 : t.kind = 1
  · rw [if_neg h0, if_pos h1]; exact put_text ob v0 xs t w h hx hs h1
  by_cases h2 : t.kind = 2
  · rw [if_neg h0, if_neg h1, if_pos h2]; exact put_hash ob v0 xs t w h hx hok h2
  by_cases h3 : t.kind = 3
  · rw [if_neg h0, if_neg h1, if_neg h2, if_pos h3]; exact put_hashes ob v0 xs t w h hx hok hfl hlb hN h3
  by_cases h4 : t.kind = 4
  · rw [if_neg h0, if_neg h1, if_neg h2, if_neg h3, if_pos h4]; exact put_bool ob v0 xs t w h hx hok h4
  · rw [if_neg h0, if_neg h1, if_neg h2, if_neg h3, if_neg h4]; exact put_none ob v0 xs t w h h0 h1 h2 h3 h4
end Go.Proofs.Ytkgfcddjjghohaa
