/- Slices of bytes that came in; and the walk of the law on hashes. -/
import Derived.Test.YtkgfcddjjghohaaWm
namespace Go.Proofs.Ytkgfcddjjghohaa
open Go.RowKit
/-- v is a slice of bytes that came in. -/
def Av (w : World) (v : Value) (bs : List (BitVec 8)) (gb : Nat) : Prop := (∃ sp c, v = .slice sp 0 c ∧ bs = []) ∨ ∃ go c, v = .slice (some ⟨gb, go, none⟩) bs.length c ∧ bs.length ≤ c ∧ gb < w.heap.size ∧ HasB w gb go bs
theorem Av.shape {w : World} {v : Value} {bs : List (BitVec 8)} {gb : Nat} (h : Av w v bs gb) : ∃ a c, v = .slice a bs.length c := by
  rcases h with ⟨sp, c, rfl, rfl⟩ | ⟨go, c, rfl, _⟩
  · exact ⟨sp, c, rfl⟩
  · exact ⟨_, c, rfl⟩
theorem Av.rv {w : World} {v : Value} {bs : List (BitVec 8)} {gb : Nat} (h : Av w v bs gb) (hn : 0 < bs.length) : Rv w v bs gb := by
  rcases h with ⟨sp, c, rfl, rfl⟩ | h
  · simp at hn
  · exact .inr h
theorem Av.below {w w' : World} {v : Value} {bs : List (BitVec 8)} {gb B : Nat} (h : Av w v bs gb) (hb : Below B w w') (hB : B = w.heap.size) : Av w' v bs gb := by
  subst hB
  rcases h with h | ⟨go, c, e, hc, hl, hB⟩
  · exact .inl h
  · exact .inr ⟨go, c, e, hc, Nat.lt_of_lt_of_le hl hb.size, fun i hi => by rw [hb.cell (by exact hl)]; exact hB i hi⟩
theorem run_app_empty (w : World) (sp : Option Addr) (c : Nat) (ty : TypeId) : (Builtin.append_ #[25, 25] ty #[.slice none 0 0, .slice sp 0 c]).run Try.prog w = .ok (.slice none 0 0) w := by
  obtain ⟨i0, hi, hz0, hz1, hz2⟩ := info_parts Try.info5
  cases sp <;> simp [Builtin.append_, run_underlying Try.under25, sizeOf, typeInfo, hi, Builtin.lenOf, Builtin.firstCells, loadCells, loadCellsFrom]
set_option maxHeartbeats 400000 in
theorem newIn_e (sp : Option Addr) (c : Nat) (w : World) :
    Calls Try.prog 13 #[.slice sp 0 c] w fun e w' => ∃ ib g, e = .returned (.pointer (some ⟨ib, 0, none⟩)) ∧ w.heap.size ≤ ib ∧ w.heap.size ≤ g ∧ HasIn w' ib [] false g ∧ Below w.heap.size w w' := by
  have hr := Box.mk (run_app_empty w sp c 25)
  go_enter Try.func13, Try.ntmps13
  go_wp2_with (at_builtin; refine wpList_app rfl _ _ 25 25 rfl (.slice none 0 0) (.slice sp 0 c) (.slice none 0 0) rfl rfl hr.out ?_)
  go_ret
  exact ⟨w.heap.size, w.heap.size + 1, rfl, Nat.le_refl _, by omega, ⟨_, heap_alloc_new _ _, .inl ⟨rfl, rfl⟩, by omega⟩, (Below.refl _ _).alloc (Nat.le_refl _) _⟩
theorem a_new (w0 w : World) (v : Value) (gb : Nat) (bs : List (BitVec 8)) (hr : Av w v bs gb) (hl : bs.length ≤ 800000) (hb : Below w0.heap.size w0 w) :
    Calls Try.prog 13 #[v] w fun e w' => ∃ ib, e = .returned (.pointer (some ⟨ib, 0, none⟩)) ∧ Box (Sin w0 w' ib bs false) ∧ Box (Below w.heap.size w w') ∧ w.heap.size ≤ ib := by
  rcases hr with ⟨sp, c, rfl, rfl⟩ | hr
  · refine (newIn_e sp c w).mono ?_
    rintro e w' ⟨ib, g, rfl, h1, h2, h3, h4⟩
    have := hb.size
    exact ⟨ib, rfl, ⟨⟨g, h3⟩, hb.trans ⟨h4.os, h4.tape, h4.output, h4.size, fun k hk => h4.block k (by omega)⟩, by omega, hl⟩, ⟨h4⟩, h1⟩
  · exact s_new w0 w v gb bs (.inr hr) hl hb
/-- Read of so many bytes, at any place. -/
def rdOk (bs : List (BitVec 8)) (at_ size : Nat) : Bool := decide (at_ + size ≤ bs.length)
def rdN (bs : List (BitVec 8)) (at_ size : Nat) : Int := if at_ + size ≤ bs.length then rdAt bs at_ size else 0
theorem a_read (v : Value) (gb at_ size : Nat) (bs : List (BitVec 8)) (w : World) (hr : Av w v bs gb) (hl : bs.length ≤ 1000000) (ha : at_ ≤ 1000000) (hs : size ≤ 8) (h0 : 0 < size) :
    Calls Try.prog 17 #[v, .int .i64 (at_ : Int), .int .i64 (size : Int)] w fun e w' => e = .returned (.tuple #[.int .i64 (rdN bs at_ size), .bool (rdOk bs at_ size)]) ∧ w' = w := by
  by_cases hle : at_ + size ≤ bs.length
  · unfold rdN rdOk
    rw [if_pos hle, decide_eq_true hle]
    exact read_yes v gb at_ size bs w (hr.rv (by omega)) hl hs hle
  · unfold rdN rdOk
    rw [if_neg hle, decide_eq_false hle]
    obtain ⟨a, c, rfl⟩ := hr.shape
    exact read_no a c at_ size bs w hl ha hs hle
theorem rd_four (bs : List (BitVec 8)) (h : 4 ≤ bs.length) : rdN bs 0 4 = (num (takeB bs 4) : Int) ∧ num (takeB bs 4) < 4294967296 := by
  have hN : num (takeB bs 4) < 4294967296 := Nat.lt_of_lt_of_le (num_lt _) (Nat.le_trans (Nat.pow_le_pow_right (by omega) (takeB_len bs 4)) (by omega))
  refine ⟨?_, hN⟩
  unfold rdN rdAt
  rw [if_pos (by omega), List.drop_zero, show bs.take 4 = takeB bs 4 by unfold takeB; rw [if_pos h], IntKind.wrap_i64]
  omega
set_option maxHeartbeats 400000 in
theorem hashes_long (a : Option Addr) (N c : Nat) (most : Int) (w : World) (h : 2000 < N) :
    Calls Try.prog 5 #[.slice a N c, .int .i64 most] w fun e w' => e = .returned (.bool true) ∧ Below w.heap.size w w' := by
  have d1 : decide ((2000 : Int) < (N : Int)) = true := by simp; omega
  have hA := Box.mk (awake_any w)
  go_enter Try.func5, Try.ntmps5
  go_wp2_with (refine hA.out.mono ?_; rintro e w1 ⟨rfl, b1⟩)
  go_ret
  exact ⟨rfl, b1⟩
/-- Are the bytes no such list of hashes? -/
def noHs (bs : List (BitVec 8)) (most : Int) : Prop := ¬ 4 ≤ bs.length ∨ most < (num (takeB bs 4) : Int) ∨ bs.length < 4 + 32 * num (takeB bs 4)
theorem hs_bad (bs : List (BitVec 8)) (most : Int) (h : noHs bs most) : hsN bs most = 0 ∧ (hsD bs most).drop (32 * hsN bs most) = [] ∧ hsX bs false most = true := by
  unfold hsN hsD hsX
  by_cases h4 : 4 ≤ bs.length
  · have : ¬ lenB bs most 32 = true := by
      rw [lenB_iff]
      unfold lenOk
      have hd : (dropB bs 4).length = bs.length - 4 := by unfold dropB; rw [if_pos h4]; simp
      rw [hd]
      unfold noHs at h
      omega
    rw [if_neg this, if_neg this, if_neg this]
    exact ⟨rfl, rfl, rfl⟩
  · have e1 : takeB bs 4 = [] := by unfold takeB; rw [if_neg h4]
    have e2 : dropB bs 4 = [] := by unfold dropB; rw [if_neg h4]
    have e3 : badB bs false 4 = true := by unfold badB; rw [if_neg h4]
    rw [e1, e2, e3, num_nil]
    split <;> exact ⟨rfl, rfl, rfl⟩
theorem hs_good (bs : List (BitVec 8)) (most : Int) (h : ¬ noHs bs most) : hsN bs most = num (takeB bs 4) ∧ hsD bs most = bs.drop 4 ∧ hsX bs false most = false ∧ 4 ≤ bs.length ∧ (num (takeB bs 4) : Int) ≤ most ∧ 4 + 32 * num (takeB bs 4) ≤ bs.length := by
  unfold noHs at h
  have h4 : 4 ≤ bs.length := by omega
  have e2 : dropB bs 4 = bs.drop 4 := by unfold dropB; rw [if_pos h4]
  have e3 : badB bs false 4 = false := by unfold badB; rw [if_pos h4]
  have : lenB bs most 32 = true := by
    rw [lenB_iff]
    unfold lenOk
    rw [e2, List.length_drop]
    omega
  unfold hsN hsD hsX
  rw [if_pos this, if_pos this, if_pos this, e2, e3]
  exact ⟨rfl, rfl, rfl, h4, by omega, by omega⟩
set_option maxHeartbeats 1000000 in
theorem hashes_bad (v : Value) (gb : Nat) (bs : List (BitVec 8)) (most : Int) (w : World) (hv : Av w v bs gb) (hl : bs.length ≤ 2000) (hno : noHs bs most) :
    Calls Try.prog 5 #[v, .int .i64 most] w fun e w' => e = .returned (.bool true) ∧ Below w.heap.size w w' := by
  obtain ⟨a, c, hve⟩ := hv.shape
  have hv' := Box.mk hv
  subst hve
  have d1 : decide ((2000 : Int) < (bs.length : Int)) = false := by simp; omega
  have hA : Box (Calls Try.prog 13 #[.slice a bs.length c] w fun e w' => ∃ ib, e = .returned (.pointer (some ⟨ib, 0, none⟩)) ∧ Box (Sin w w' ib bs false)) := ⟨by
    refine (a_new w w _ gb bs hv (by omega) (Below.refl _ _)).mono ?_
    rintro e w' ⟨ib, rfl, h1, _⟩
    exact ⟨ib, rfl, h1⟩⟩
  have hB : ∀ w1 ib, Box (Sin w w1 ib bs false) → Box (Calls Try.prog 24 #[.pointer (some ⟨ib, 0, none⟩), .int .i64 most] w1 fun e w2 => ∃ L, e = .returned (.slice (some ⟨L, 0, none⟩) 0 0) ∧ Box (Sin w w2 ib [] true)) := fun w1 ib s => ⟨by
    obtain ⟨e1, e2, e3⟩ := hs_bad bs most hno
    refine (s_hashes s.out most).mono ?_
    rw [e2, e3, e1]
    rintro e w' ⟨L, rfl, _, _, h, _⟩
    exact ⟨L, rfl, h⟩⟩
  have hC : ∀ w1 ib, Box (Sin w w1 ib [] true) → Box (Calls Try.prog 17 #[.slice a bs.length c, .int .i64 0, .int .i64 4] w1 fun e w2 => e = .returned (.tuple #[.int .i64 (rdN bs 0 4), .bool (rdOk bs 0 4)]) ∧ w2 = w1) := fun w1 ib s => ⟨a_read _ gb 0 4 bs w1 (hv'.out.below s.out.low rfl) (by omega) (by omega) (by omega) (by omega)⟩
  have hE : ∀ w1 ib, Box (Sin w w1 ib [] true) → Box (Calls Try.prog 15 #[.pointer (some ⟨ib, 0, none⟩)] w1 fun e w2 => e = .returned (.bool true) ∧ w2 = w1) := fun w1 ib s => ⟨s_bad s.out⟩
  have hG : ∀ w1 ib, Box (Sin w w1 ib [] true) → Box (Calls Try.prog 18 #[.pointer (some ⟨ib, 0, none⟩)] w1 fun e w2 => e = .returned (.int .i64 0) ∧ Box (Sin w w2 ib [] true)) := fun w1 ib s => ⟨by
    refine (s_int s.out).mono ?_
    rw [rdI_nil]
    exact fun e w' h => h⟩
  have hH : ∀ w1 ib, Box (Sin w w1 ib [] true) → Box (Calls Try.prog 16 #[.pointer (some ⟨ib, 0, none⟩)] w1 fun e w2 => e = .returned (.bool false) ∧ w2 = w1) := fun w1 ib s => ⟨s_done s.out⟩
  have hok : ∃ (o : Bool) (r : Int), rdOk bs 0 4 = o ∧ rdN bs 0 4 = r ∧ (o = true → (0 ≤ r ∧ r < 4294967296) ∧ (decide (most < r) = false → decide ((bs.length : Int) < 4 + 32 * r) = true)) := by
    refine ⟨_, _, rfl, rfl, fun ho => ?_⟩
    have h4 : 4 ≤ bs.length := by simpa [rdOk] using ho
    obtain ⟨e1, e2⟩ := rd_four bs h4
    rw [e1]
    unfold noHs at hno
    refine ⟨by omega, fun hd => ?_⟩
    simp at hd ⊢
    omega
  obtain ⟨o, r, ho, hr, hcond⟩ := hok
  rw [ho, hr] at hC
  clear hv ho hr hno hv'
  cases o with
  | false =>
    go_enter Try.func5, Try.ntmps5
    go_wp2_with (first | (go_at_call 13; refine hA.out.mono ?_; rintro e w1 ⟨ib, rfl, s1⟩) | (go_at_call 24; refine (hB _ _ s1).out.mono ?_; rintro e w2 ⟨L, rfl, s2⟩) | (go_at_call 17; refine (hC _ _ s2).out.mono ?_; rintro e w3 ⟨rfl, rfl⟩) | (go_at_call 15; refine (hE _ _ s2).out.mono ?_; rintro e w4 ⟨rfl, rfl⟩) | (go_at_call 16; refine (hH _ _ s2).out.mono ?_; rintro e w4 ⟨rfl, rfl⟩) | (go_at_call 18; refine (hG _ _ s2).out.mono ?_; rintro e w7 ⟨rfl, s7⟩) | (go_at_call 9; refine (s_awake s7.out).mono ?_; rintro e w9 ⟨rfl, s9⟩))
    go_ret
    exact ⟨rfl, s9.out.low⟩
  | true =>
    obtain ⟨hrr, hcond⟩ := hcond rfl
    cases hm : decide (most < r) with
    | true =>
      go_enter Try.func5, Try.ntmps5
      go_wp2_with (first | (go_at_call 13; refine hA.out.mono ?_; rintro e w1 ⟨ib, rfl, s1⟩) | (go_at_call 24; refine (hB _ _ s1).out.mono ?_; rintro e w2 ⟨L, rfl, s2⟩) | (go_at_call 17; refine (hC _ _ s2).out.mono ?_; rintro e w3 ⟨rfl, rfl⟩) | (go_at_call 15; refine (hE _ _ s2).out.mono ?_; rintro e w4 ⟨rfl, rfl⟩) | (go_at_call 16; refine (hH _ _ s2).out.mono ?_; rintro e w4 ⟨rfl, rfl⟩) | (go_at_call 18; refine (hG _ _ s2).out.mono ?_; rintro e w7 ⟨rfl, s7⟩) | (go_at_call 9; refine (s_awake s7.out).mono ?_; rintro e w9 ⟨rfl, s9⟩))
      go_ret
      exact ⟨rfl, s9.out.low⟩
    | false =>
      have hcond := hcond hm
      go_enter Try.func5, Try.ntmps5
      go_wp2_with (first | (go_at_call 13; refine hA.out.mono ?_; rintro e w1 ⟨ib, rfl, s1⟩) | (go_at_call 24; refine (hB _ _ s1).out.mono ?_; rintro e w2 ⟨L, rfl, s2⟩) | (go_at_call 17; refine (hC _ _ s2).out.mono ?_; rintro e w3 ⟨rfl, rfl⟩) | (go_at_call 15; refine (hE _ _ s2).out.mono ?_; rintro e w4 ⟨rfl, rfl⟩) | (go_at_call 16; refine (hH _ _ s2).out.mono ?_; rintro e w4 ⟨rfl, rfl⟩) | (go_at_call 18; refine (hG _ _ s2).out.mono ?_; rintro e w7 ⟨rfl, s7⟩) | (go_at_call 9; refine (s_awake s7.out).mono ?_; rintro e w9 ⟨rfl, s9⟩))
      go_ret
      exact ⟨rfl, s9.out.low⟩
end Go.Proofs.Ytkgfcddjjghohaa
