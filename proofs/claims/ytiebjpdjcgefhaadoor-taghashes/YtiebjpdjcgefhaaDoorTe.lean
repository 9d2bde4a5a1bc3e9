/- What the reference's Number hands back: a number's last bytes, the highest first; Bytes once more. -/
import Derived.Test.YtiebjpdjcgefhaaDoorTd
namespace Go.Proofs.YtiebjpdjcgefhaaDoor
open Go.RowKit
theorem bytes_any (x0 : BitVec 8) (A : Option Addr) (n C lb lo : Nat) (ps : List Pt) (w : World) (hn : n = ps.length) (hA : 0 < n → A = some ⟨lb, lo, none⟩) (hL : Ls w lb lo ps) (hT : (cat ps).length ≤ 900000) (hN : n ≤ 1000) :
    Calls Tryd.prog 10 #[.int .u8 (bv x0), .slice A n C] w fun e w' => ∃ sp c g, e = .returned (.slice sp (1 + (cat ps).length) c) ∧ Sl w' sp (1 + (cat ps).length) c (x0 :: cat ps) g 0 ∧ w.heap.size ≤ g ∧ Below w.heap.size w w' := by
  subst hn
  refine (bytes_own x0 A C lb lo ps w hA hL hT hN).mono ?_
  rintro e w' ⟨v, rfl, ho, hb⟩
  obtain ⟨g, sp, c, rfl, hs, hg⟩ := own_slice ho
  exact ⟨sp, c, g, rfl, hs, hg (by omega), hb⟩
/-- The bytes from place r on are set. -/
def nlist (s : Nat) (n : Int) (r : Nat) : List (BitVec 8) := (List.range s).map fun p => if r ≤ p then kb (n / 256 ^ (s - 1 - p)) else 0
theorem nlist_len (s : Nat) (n : Int) (r : Nat) : (nlist s n r).length = s := by simp [nlist]
theorem nlist_start (s : Nat) (n : Int) : nlist s n s = zs s := by
  apply List.ext_getElem
  · simp [nlist, zs]
  · intro i h1 h2
    have : i < s := by simpa [nlist] using h1
    simp [nlist, zs]; omega
theorem nlist_step (s : Nat) (n : Int) (r : Nat) (h : r < s) : (nlist s n (r + 1)).set r (kb (n / 256 ^ (s - (r + 1)))) = nlist s n r := by
  apply List.ext_getElem
  · simp [nlist]
  · intro i h1 h2
    have : i < s := by simpa [nlist] using h2
    rw [List.getElem_set]
    by_cases e : r = i
    · subst e
      simp [nlist, show s - (r + 1) = s - 1 - r by omega]
    · rw [if_neg e]
      simp only [nlist, List.getElem_map, List.getElem_range]
      by_cases h3 : r + 1 ≤ i
      · rw [if_pos h3, if_pos (by omega)]
      · rw [if_neg h3, if_neg (by omega)]
theorem nlist_two (n : Int) : nlist 2 n 0 = two n := by simp [nlist, two, List.range_succ]
theorem nlist_four (n : Int) : nlist 4 n 0 = four n := by simp [nlist, four, List.range_succ]
theorem Tryd.makes (c : Nat) (hc : c ≤ 1000000) (w : World) : (Instr.makeSlice 22 (.int .i64 (c : Int)) (.int .i64 (c : Int))).run Tryd.prog w = .ok (.slice (some ⟨w.heap.size, 0, none⟩) c c) (w.alloc (.cells ((zs c).map V).toArray 5)) := by
  obtain ⟨i0, hi, hz0, hz1, hz2⟩ := info_parts Tryd.info5
  have := run_make (P := Tryd.prog) w 22 5 i0 (.int .u8 0) Tryd.under22 hi hz0 .i64 .i64 (c : Int) (c : Int) (by omega) (by omega) (by rw [hz2]; omega) (by omega)
  rw [hz1, Int.toNat_natCast, Nat.mul_one, made_eq] at this
  exact this
theorem div_step (n : Int) (k : Nat) : n / 256 ^ k / 256 = n / 256 ^ (k + 1) := by
  rw [Int.ediv_ediv_of_nonneg (Int.pow_nonneg (by omega)), Int.pow_succ]
attribute [local go_sem] kb_v
set_option maxHeartbeats 400000 in
theorem number_raw (n : Int) (s : Nat) (hs : s ≤ 100) (w : World) :
    Calls Tryd.prog 15 #[.int .i64 n, .int .i64 (s : Int)] w fun e w' => e = .returned (.slice (some ⟨w.heap.size, 0, none⟩) s s) ∧ HasV w' w.heap.size 5 (nlist s n 0) ∧ Below w.heap.size w w' := by
  have hmk := Tryd.makes s (by omega)
  go_enter Tryd.func15, Tryd.ntmps15
  go_upto_region 2 with fail
  clear hmk
  refine code_any (fun w1 => HasV w1 w.heap.size 5 (nlist s n s) ∧ Below w.heap.size w w1) ?_ ?_
  · exact ⟨by rw [nlist_start]; exact heap_alloc_new _ _, (Below.refl _ _).alloc (Nat.le_refl _) _⟩
  rintro w1 ⟨hv1, hb1⟩
  go_wp2
  go_loopw [0, 6] (fun m i wr => ∃ r : Nat, r ≤ s ∧ i = .int .i64 ((r : Int) - 1) ∧ (∃ z : Int, m = .int .i64 z ∧ Box (z = n / 256 ^ (s - r))) ∧ HasV wr w.heap.size 5 (nlist s n r) ∧ Below w.heap.size w wr) (fun _ i _ => (intOf i + 1).toNat)
  case atStart => exact ⟨s, Nat.le_refl _, by go_num, ⟨n, rfl, ⟨by simp⟩⟩, hv1, hb1⟩
  case round =>
    clear hv1 hb1
    obtain ⟨r, hr, rfl, ⟨z, rfl, hz⟩, hv, hb⟩ := hrel
    cases r with
    | zero =>
      go_wp2
      go_ret
      exact ⟨rfl, hv, hb⟩
    | succ r =>
      have e1 : ((r + 1 : Nat) : Int) - 1 = (r : Int) := by omega
      rw [e1]
      have HR : Box (HasV (wr.setCell ⟨w.heap.size, r, none⟩ (.int .u8 (bv (kb z)))) w.heap.size 5 (nlist s n r)) := ⟨by
        have := hv.set r (kb (n / 256 ^ (s - (r + 1))))
        rw [nlist_step s n r (by omega), ← hz.out] at this
        exact this⟩
      have hz2 : Box (z / 256 = n / 256 ^ (s - r)) := ⟨by rw [hz.out, div_step, show s - (r + 1) + 1 = s - r by omega]⟩
      have c0 := hv.cell r (by rw [nlist_len]; omega)
      have f0 := hv.frozen r
      generalize (nlist s n (r + 1)).getD r 0 = y0 at c0
      clear hv hz
      go_wp2
      go_roundw
      case rel => exact ⟨r, by omega, by go_num, ⟨_, rfl, hz2⟩, HR.out, hb.setCell (by simp) _⟩
      case measure => first | (simp [intOf]; done) | (simp [intOf]; omega)
theorem sl_of_HasV {w : World} {g n : Nat} {xs : List (BitVec 8)} (h : HasV w g 5 xs) (hn : n = xs.length) : Sl w (some ⟨g, 0, none⟩) n n xs g 0 :=
  ⟨hn, Nat.le_refl _, fun h => by (cases h), fun _ => ⟨rfl, h.lt, h.bytes⟩⟩
theorem number2 (n : Int) (w : World) :
    Calls Tryd.prog 15 #[.int .i64 n, .int .i64 2] w fun e w' => e = .returned (.slice (some ⟨w.heap.size, 0, none⟩) 2 2) ∧ Sl w' (some ⟨w.heap.size, 0, none⟩) 2 2 (two n) w.heap.size 0 ∧ Below w.heap.size w w' := by
  refine (number_raw n 2 (by omega) w).mono ?_
  rintro e w' ⟨h1, h2, h3⟩
  exact ⟨h1, sl_of_HasV (by rw [← nlist_two]; exact h2) rfl, h3⟩
theorem number4 (n : Int) (w : World) :
    Calls Tryd.prog 15 #[.int .i64 n, .int .i64 4] w fun e w' => e = .returned (.slice (some ⟨w.heap.size, 0, none⟩) 4 4) ∧ Sl w' (some ⟨w.heap.size, 0, none⟩) 4 4 (four n) w.heap.size 0 ∧ Below w.heap.size w w' := by
  refine (number_raw n 4 (by omega) w).mono ?_
  rintro e w' ⟨h1, h2, h3⟩
  exact ⟨h1, sl_of_HasV (by rw [← nlist_four]; exact h2) rfl, h3⟩
end Go.Proofs.YtiebjpdjcgefhaaDoor
