/- What the reference's Number, Int, Count hand back. -/
import Derived.Test.YtkgfcddjjghohaaWn
namespace Go.Proofs.Ytkgfcddjjghohaa
open Go.RowKit
/-- A number's lowest byte. -/
def kb (k : Int) : BitVec 8 := BitVec.ofInt 8 k
theorem kb_v (k : Int) : k % (256 : Int) = bv (kb k) := by unfold kb bv; rw [BitVec.toNat_ofInt]; omega
/-- So many bytes 0. -/
def zs (c : Nat) : List (BitVec 8) := List.replicate c 0
theorem zs_len (c : Nat) : (zs c).length = c := List.length_replicate
theorem made_eq (c : Nat) : madeCells (Value.int .u8 0).cells c = ((zs c).map V).toArray := by
  unfold zs
  apply Array.ext
  · simp [size_madeCells]
  · intro i h1 h2
    simp [madeCells, V, bv, Value.cells, Nat.mod_one]
/-- The bytes from place r on are set. -/
def nlist (s : Nat) (n : Int) (r : Nat) : List (BitVec 8) := (List.range s).map fun p => if r ≤ p then kb (n / 256 ^ (s - 1 - p)) else 0
theorem nlist_len (s : Nat) (n : Int) (r : Nat) : (nlist s n r).length = s := by simp [nlist]
theorem nlist_start (s : Nat) (n : Int) : nlist s n s = zs s := by
  apply List.ext_getElem
  · simp [nlist, zs]
  · intro i h1 h2
    have : i < s := by simpa [nlist] using h1
    simp [nlist, zs]; omega
theorem nlist_step (s : Nat) (n : Int) (r : Nat) (h : r < s) : (nlist s n (r + 1)).set r (kb (n / 256 ^ (s - (r + 1)))) = nlist s n r := by
  apply List.ext_getElem
  · simp [nlist]
  · intro i h1 h2
    have : i < s := by simpa [nlist] using h2
    rw [List.getElem_set]
    by_cases e : r = i
    · subst e
      simp [nlist, show s - (r + 1) = s - 1 - r by omega]
    · rw [if_neg e]
      simp only [nlist, List.getElem_map, List.getElem_range]
      by_cases h3 : r + 1 ≤ i
      · rw [if_pos h3, if_pos (by omega)]
      · rw [if_neg h3, if_neg (by omega)]
theorem kb_nat (n : Int) (j : Nat) (h : j ≤ 7) : kb (n / 256 ^ j) = BitVec.ofNat 8 ((n % 18446744073709551616).toNat / 2 ^ (8 * j)) := by
  apply BitVec.eq_of_toNat_eq
  unfold kb
  rw [BitVec.toNat_ofInt, BitVec.toNat_ofNat]
  have : j = 0 ∨ j = 1 ∨ j = 2 ∨ j = 3 ∨ j = 4 ∨ j = 5 ∨ j = 6 ∨ j = 7 := by omega
  rcases this with rfl | rfl | rfl | rfl | rfl | rfl | rfl | rfl <;> simp <;> omega
theorem nlist_beN (s : Nat) (n : Int) (h : s ≤ 8) : nlist s n 0 = beN (n % 18446744073709551616).toNat s := by
  unfold nlist beN
  apply List.map_congr_left
  intro p hp
  have : p < s := by simpa using hp
  rw [if_pos (Nat.zero_le _), kb_nat _ _ (by omega)]
theorem Try.makes (c : Nat) (hc : c ≤ 1000000) (w : World) : (Instr.makeSlice 25 (.int .i64 (c : Int)) (.int .i64 (c : Int))).run Try.prog w = .ok (.slice (some ⟨w.heap.size, 0, none⟩) c c) (w.alloc (.cells ((zs c).map V).toArray 5)) := by
  obtain ⟨i0, hi, hz0, hz1, hz2⟩ := info_parts Try.info5
  have := run_make (P := Try.prog) w 25 5 i0 (.int .u8 0) Try.under25 hi hz0 .i64 .i64 (c : Int) (c : Int) (by omega) (by omega) (by rw [hz2]; omega) (by omega)
  rw [hz1, Int.toNat_natCast, Nat.mul_one, made_eq] at this
  exact this
theorem div_step (n : Int) (k : Nat) : n / 256 ^ k / 256 = n / 256 ^ (k + 1) := by
  rw [Int.ediv_ediv_of_nonneg (Int.pow_nonneg (by omega)), Int.pow_succ]
attribute [local go_sem] kb_v
set_option maxHeartbeats 400000 in
theorem number_raw (n : Int) (s : Nat) (hs : s ≤ 100) (w : World) :
    Calls Try.prog 39 #[.int .i64 n, .int .i64 (s : Int)] w fun e w' => e = .returned (.slice (some ⟨w.heap.size, 0, none⟩) s s) ∧ HasV w' w.heap.size 5 (nlist s n 0) ∧ Below w.heap.size w w' := by
  have hmk := Try.makes s (by omega)
  go_enter Try.func39, Try.ntmps39
  go_upto_region 2 with fail
  clear hmk
  refine code_any (fun w1 => HasV w1 w.heap.size 5 (nlist s n s) ∧ Below w.heap.size w w1) ?_ ?_
  · exact ⟨by rw [nlist_start]; exact heap_alloc_new _ _, (Below.refl _ _).alloc (Nat.le_refl _) _⟩
  rintro w1 ⟨hv1, hb1⟩
  go_wp2
  go_loopw [0, 6] (fun m i wr => ∃ r : Nat, r ≤ s ∧ i = .int .i64 ((r : Int) - 1) ∧ (∃ z : Int, m = .int .i64 z ∧ Box (z = n / 256 ^ (s - r))) ∧ HasV wr w.heap.size 5 (nlist s n r) ∧ Below w.heap.size w wr) (fun _ i _ => (intOf i + 1).toNat)
  case atStart => exact ⟨s, Nat.le_refl _, by go_num, ⟨n, rfl, ⟨by simp⟩⟩, hv1, hb1⟩
  case round =>
    clear hv1 hb1
    obtain ⟨r, hr, rfl, ⟨z, rfl, hz⟩, hv, hb⟩ := hrel
    cases r with
    | zero =>
      go_wp2
      go_ret
      exact ⟨rfl, hv, hb⟩
    | succ r =>
      have e1 : ((r + 1 : Nat) : Int) - 1 = (r : Int) := by omega
      rw [e1]
      have HR : Box (HasV (wr.setCell ⟨w.heap.size, r, none⟩ (.int .u8 (bv (kb z)))) w.heap.size 5 (nlist s n r)) := ⟨by
        have := hv.set r (kb (n / 256 ^ (s - (r + 1))))
        rw [nlist_step s n r (by omega), ← hz.out] at this
        exact this⟩
      have hz2 : Box (z / 256 = n / 256 ^ (s - r)) := ⟨by rw [hz.out, div_step, show s - (r + 1) + 1 = s - r by omega]⟩
      have c0 := hv.cell r (by rw [nlist_len]; omega)
      have f0 := hv.frozen r
      generalize (nlist s n (r + 1)).getD r 0 = y0 at c0
      clear hv hz
      go_wp2
      go_roundw
      case rel => exact ⟨r, by omega, by go_num, ⟨_, rfl, hz2⟩, HR.out, hb.setCell (by simp) _⟩
      case measure => first | (simp [intOf]; done) | (simp [intOf]; omega)
set_option maxHeartbeats 400000 in
theorem refInt_any (n : Int) (w : World) :
    Calls Try.prog 30 #[.int .i64 n] w fun e w' => e = .returned (.slice (some ⟨w.heap.size, 0, none⟩) 8 8) ∧ HasV w' w.heap.size 5 (be8 n) ∧ Below w.heap.size w w' := by
  have hT := Box.mk (number_raw n 8 (by omega) w)
  rw [nlist_beN 8 n (by omega)] at hT
  go_enter Try.func30, Try.ntmps30
  go_wp2_with (refine hT.out.mono ?_; rintro e w' ⟨rfl, h1, h2⟩; have h1' := Box.mk h1; clear h1)
  go_ret
  exact ⟨rfl, h1'.out, h2⟩
set_option maxHeartbeats 400000 in
theorem refCount_any (n : Nat) (hn : n ≤ 1000000) (w : World) :
    Calls Try.prog 41 #[.int .i64 (n : Int)] w fun e w' => e = .returned (.slice (some ⟨w.heap.size, 0, none⟩) 4 4) ∧ HasV w' w.heap.size 5 (beN n 4) ∧ Below w.heap.size w w' := by
  have hT := Box.mk (number_raw n 4 (by omega) w)
  rw [nlist_beN 4 n (by omega), show ((n : Int) % 18446744073709551616).toNat = n by omega] at hT
  go_enter Try.func41, Try.ntmps41
  go_wp2_with (refine hT.out.mono ?_; rintro e w' ⟨rfl, h1, h2⟩; have h1' := Box.mk h1; clear h1)
  go_ret
  exact ⟨rfl, h1'.out, h2⟩
theorem own_of_HasV {w : World} {g base : Nat} {xs : List (BitVec 8)} (h : HasV w g 5 xs) (hm : xs.length ≤ maxLen) (hb : base ≤ g) : w.ownsRow base 5 1 (.slice (some ⟨g, 0, none⟩) xs.length xs.length) xs.length (xs.map V) :=
  ⟨by simp, .inr ⟨g, xs.length, (xs.map V).toArray, rfl, hb, h, Nat.le_refl _, hm, by simp, by rw [Nat.mul_one]; exact List.take_of_length_le (by simp)⟩⟩
set_option maxHeartbeats 400000 in
theorem refBytes_any (v : Value) (gb : Nat) (bs : List (BitVec 8)) (w : World) (hr : Rv w v bs gb) (hl : bs.length ≤ 800000) :
    Calls Try.prog 40 #[v] w fun e w' => ∃ v', e = .returned v' ∧ w'.ownsRow w.heap.size 5 1 v' (4 + bs.length) ((beN bs.length 4 ++ bs).map V) ∧ Below w.heap.size w w' := by
  have hr' := Box.mk hr
  obtain ⟨a, c, rfl, _⟩ := hr.shape
  have hT := Box.mk (refCount_any bs.length (by omega) w)
  have hl4 := beN_len bs.length 4
  generalize beN bs.length 4 = X at hT hl4 ⊢
  clear hr
  go_enter Try.func40, Try.ntmps40
  go_wp2_with (first | (go_at_call 41; refine hT.out.mono ?_; rintro e w1 ⟨rfl, h1, h2⟩; have h1' : Box (w1.ownsRow w.heap.size 5 1 (.slice (some ⟨w.heap.size, 0, none⟩) 4 4) 4 (X.map V)) := ⟨by (have := own_of_HasV (base := w.heap.size) h1 (by rw [hl4]; unfold maxLen; omega) (Nat.le_refl _); rw [hl4] at this; exact this)⟩; have hr2 := Box.mk (hr'.out.below h2); clear h1) | (at_builtin; refine append25 rfl _ _ rfl w.heap.size _ 4 X rfl h1'.out _ bs gb rfl hr2.out (by omega) h2.size ?_; intro v2 w2 own2 gr2 _; have gr2' := Box.mk gr2; have own2' := Box.mk own2; clear own2 gr2))
  go_ret
  exact ⟨_, rfl, own2'.out, h2.grown gr2'.out h2.size (fun k e => (h1'.out.lt k e).1)⟩
end Go.Proofs.Ytkgfcddjjghohaa
