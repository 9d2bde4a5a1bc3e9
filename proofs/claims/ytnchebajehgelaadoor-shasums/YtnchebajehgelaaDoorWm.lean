/- What digitOf and Parse hand back. -/
import Derived.Test.YtnchebajehgelaaDoorWi
namespace Go.Proofs.YtnchebajehgelaaDoor
open Go.RowKit
/-- Is the number a digit's? -/
def dok (n : Int) : Bool := (decide (48 ≤ n) && decide (n ≤ 57)) || (decide (97 ≤ n) && decide (n ≤ 102))
/-- A digit's number. -/
def dvl (n : Int) : Int := if 48 ≤ n ∧ n ≤ 57 then n - 48 else if 97 ≤ n ∧ n ≤ 102 then n - 87 else 0
theorem ret_pair {k : IntKind} {a b : Int} {x y : Bool} (h : a = b) (h2 : x = y) : Ending.returned (.tuple #[.int k a, .bool x]) = .returned (.tuple #[.int k b, .bool y]) := by rw [h, h2]
set_option maxHeartbeats 400000 in
theorem digit_any (n : Int) (h0 : 0 ≤ n) (h1 : n < 256) (w : World) :
    Calls Tryd.prog 27 #[.int .u8 n] w fun e w' => e = .returned (.tuple #[.int .u8 (dvl n), .bool (dok n)]) ∧ w' = w := by
  by_cases c1 : 48 ≤ n
  · by_cases c2 : n ≤ 57
    · have e1 : Box (dvl n = n - 48) := ⟨by unfold dvl; rw [if_pos ⟨c1, c2⟩]⟩
      have e2 : Box (dok n = true) := ⟨by unfold dok; simp [c1, c2]⟩
      go_enter Tryd.func27, Tryd.ntmps27
      go_wp2
      go_ret2
      exact ⟨ret_pair (by rw [e1.out]) (by rw [e2.out]), rfl⟩
    · by_cases c3 : 97 ≤ n
      · by_cases c4 : n ≤ 102
        · have e1 : Box (dvl n = n - 87) := ⟨by unfold dvl; rw [if_neg (by omega), if_pos ⟨c3, c4⟩]⟩
          have e2 : Box (dok n = true) := ⟨by unfold dok; simp [c3, c4]⟩
          go_enter Tryd.func27, Tryd.ntmps27
          go_wp2
          go_ret2
          exact ⟨ret_pair (by rw [e1.out]; omega) (by rw [e2.out]), rfl⟩
        · have e1 : Box (dvl n = 0) := ⟨by unfold dvl; rw [if_neg (by omega), if_neg (by omega)]⟩
          have e2 : Box (dok n = false) := ⟨by unfold dok; simp [c2, c4]⟩
          go_enter Tryd.func27, Tryd.ntmps27
          go_wp2
          go_ret2
          exact ⟨ret_pair (by rw [e1.out]) (by rw [e2.out]), rfl⟩
      · have e1 : Box (dvl n = 0) := ⟨by unfold dvl; rw [if_neg (by omega), if_neg (by omega)]⟩
        have e2 : Box (dok n = false) := ⟨by unfold dok; simp [c2, c3]⟩
        go_enter Tryd.func27, Tryd.ntmps27
        go_wp2
        go_ret2
        exact ⟨ret_pair (by rw [e1.out]) (by rw [e2.out]), rfl⟩
  · have c3 : ¬ 97 ≤ n := by omega
    have e1 : Box (dvl n = 0) := ⟨by unfold dvl; rw [if_neg (by omega), if_neg (by omega)]⟩
    have e2 : Box (dok n = false) := ⟨by unfold dok; simp [c1, c3]⟩
    go_enter Tryd.func27, Tryd.ntmps27
    go_wp2
    go_ret2
    exact ⟨ret_pair (by rw [e1.out]) (by rw [e2.out]), rfl⟩
/-- Byte i of a text. -/
def sb (s : ByteArray) (i : Nat) : Int := ((s.data.toList.getD i 0).toNat : Int)
def prl (s : ByteArray) : Nat → List (BitVec 8)
  | 0 => List.replicate 32 0
  | k + 1 => (prl s k).set k (BitVec.ofInt 8 (16 * dvl (sb s (2 * k)) + dvl (sb s (2 * k + 1))))
theorem prl_len (s : ByteArray) (k : Nat) : (prl s k).length = 32 := by
  induction k with
  | zero => simp [prl]
  | succ k ih => simp [prl, ih]
theorem sb_at (s : ByteArray) (i : Nat) (h : i < s.size) : ((s[i]'h).toNat : Int) = sb s i := by
  unfold sb
  have h' : i < s.data.toList.length := by simpa using h
  rw [List.getD_eq_getElem?_getD, List.getElem?_eq_getElem h']
  rfl
theorem sb_range (s : ByteArray) (i : Nat) : 0 ≤ sb s i ∧ sb s i < 256 := by
  unfold sb
  have := (s.data.toList.getD i 0).toNat_lt
  omega
theorem dvl_range (n : Int) : 0 ≤ dvl n ∧ dvl n ≤ 15 := by
  unfold dvl
  split
  · omega
  · split <;> omega
theorem or_all : ∀ a b : Fin 16, bits .or .u8 ((a.val : Int) * 16) (b.val : Int) = ((16 * a.val + b.val : Nat) : Int) := by decide +kernel
theorem or_raw (a b : Int) (h1 : 0 ≤ a ∧ a ≤ 15) (h2 : 0 ≤ b ∧ b ≤ 15) : bits .or .u8 (a * 16) b = bv (BitVec.ofInt 8 (16 * a + b)) := by
  obtain ⟨x, rfl⟩ := Int.eq_ofNat_of_zero_le h1.1
  obtain ⟨y, rfl⟩ := Int.eq_ofNat_of_zero_le h2.1
  have := or_all ⟨x, by omega⟩ ⟨y, by omega⟩
  simp only at this
  rw [this]
  unfold bv
  rw [BitVec.toNat_ofInt]
  omega
/-- Are the first n signs digits? -/
def okTo (s : ByteArray) (n : Nat) : Prop := ∀ i, i < n → dok (sb s i) = true
theorem okTo_no (s : ByteArray) (n i : Nat) (h : dok (sb s i) = false) (hi : i < n) : ¬ okTo s n := fun hh => by
  rw [hh i hi] at h
  cases h
theorem results25 (tmps : Array Value) (w : World) (hf : Tryd.f18.results = #[.cell 2 25, .tmp 3]) (g : Nat) (hp : tmps.getD 2 undef = .pointer (some ⟨g, 0, none⟩)) (u : Value) (hu : tmps.getD 3 undef = u) (cs : Array Value) (hg : w.heap[g]? = some (.cells cs 25 (0, 0))) (hl : cs.size = 32) :
    (results Tryd.f18 tmps).run Tryd.prog w = .ok (.tuple #[.agg cs, u]) w := by
  rw [results_cell_tmp hf, hp, hu]
  have := run_loadVar_row (P := Tryd.prog) w g 25 25 cs (0, 0) _ hg Tryd.under25 rfl (by rw [hl]; exact Tryd.size25)
  simp [asAddr, this, Result.andThen]
set_option maxHeartbeats 400000 in
theorem parse_any (s : ByteArray) (w : World) (hs : s.size = 64) :
    Calls Tryd.prog 18 #[.string s] w fun e w' => ∃ (hs : List (BitVec 8)) (er : Int), e = .returned (.tuple #[.agg (hs.map V).toArray, .int .i64 er]) ∧ ((er = 0 ∧ okTo s 64 ∧ hs = prl s 32) ∨ (er = 10 ∧ ¬ okTo s 64 ∧ hs = List.replicate 32 0)) ∧ Below w.heap.size w w' := by
  go_enter Tryd.func18, Tryd.ntmps18
  go_upto_region 2 with fail
  refine code_any (fun w1 => HasV w1 w.heap.size 25 (prl s 0) ∧ HasV w1 (w.heap.size + 1) 25 (prl s 0) ∧ Below w.heap.size w w1) ?_ ?_
  · exact ⟨heap_alloc2_old _ _ _, heap_alloc2_new _ _ _, ((Below.refl _ _).alloc (Nat.le_refl _) _).alloc (by simp) _⟩
  rintro w1 ⟨hv1, hv2, hb1⟩
  go_wp2
  go_loopw [14] (fun i wr => ∃ k : Nat, k ≤ 32 ∧ i = .int .i64 k ∧ okTo s (2 * k) ∧ HasV wr w.heap.size 25 (prl s 0) ∧ HasV wr (w.heap.size + 1) 25 (prl s k) ∧ Below w.heap.size w wr) (fun i _ => 32 - (intOf i).toNat)
  case atStart => exact ⟨0, by omega, rfl, fun i hi => by omega, hv1, hv2, hb1⟩
  case round =>
    clear hv1 hv2 hb1
    obtain ⟨k, hk, rfl, hok, hv1, hv2, hb⟩ := hrel
    by_cases hlt : k < 32
    · have hok' : Box (okTo s (2 * k)) := ⟨hok⟩
      clear hok
      go_wp2_with fail
      rw [sb_at s (2 * k) _]
      have r1 := sb_range s (2 * k)
      have r2 := sb_range s (2 * k + 1)
      refine (digit_any _ r1.1 r1.2 _).mono ?_
      rintro e w' ⟨rfl, rfl⟩
      go_wp2_with fail
      rw [sb_at s (2 * k + 1) _]
      refine (digit_any _ r2.1 r2.2 _).mono ?_
      rintro e w'' ⟨rfl, rfl⟩
      have D1 := dvl_range (sb s (2 * k))
      have D2 := dvl_range (sb s (2 * k + 1))
      have hv1' : w''.heap[w.heap.size]? = some (.cells ((prl s 0).map V).toArray 25 (0, 0)) := hv1
      have hl0 : Box (((prl s 0).map V).toArray.size = 32) := ⟨rfl⟩
      cases hd1 : dok (sb s (2 * k)) with
      | false =>
        have hd1' : Box (dok (sb s (2 * k)) = false) := ⟨hd1⟩
        go_wp2_with (refine wpList_store_row rfl 25 (.tmp 2) (.tmp 40) rfl w.heap.size ((prl s 0).map V).toArray rfl rfl 25 _ hv1' (by rw [hl0.out]; exact Tryd.size25) rfl (V_all _) ?_)
        try go_frame
        refine bodyPost_ret (v := .tuple #[.agg ((prl s 0).map V).toArray, .int .i64 10]) ?_ rfl ⟨_, _, rfl, .inr ⟨rfl, okTo_no s 64 (2 * k) hd1'.out (by omega), rfl⟩, hb.trans (below_setRow _ _ _ _ (Nat.le_refl _))⟩
        exact results25 _ _ rfl w.heap.size rfl (.int .i64 10) rfl _ (setRow_heap _ _ _ _ 25 (0, 0) hv1') hl0.out
      | true =>
        cases hd2 : dok (sb s (2 * k + 1)) with
        | false =>
          have hd1' : Box (dok (sb s (2 * k + 1)) = false) := ⟨hd2⟩
          go_wp2_with (refine wpList_store_row rfl 25 (.tmp 2) (.tmp 40) rfl w.heap.size ((prl s 0).map V).toArray rfl rfl 25 _ hv1' (by rw [hl0.out]; exact Tryd.size25) rfl (V_all _) ?_)
          try go_frame
          refine bodyPost_ret (v := .tuple #[.agg ((prl s 0).map V).toArray, .int .i64 10]) ?_ rfl ⟨_, _, rfl, .inr ⟨rfl, okTo_no s 64 (2 * k + 1) hd1'.out (by omega), rfl⟩, hb.trans (below_setRow _ _ _ _ (Nat.le_refl _))⟩
          exact results25 _ _ rfl w.heap.size rfl (.int .i64 10) rfl _ (setRow_heap _ _ _ _ 25 (0, 0) hv1') hl0.out
        | true =>
          have hok2 : Box (okTo s (2 * (k + 1))) := ⟨fun i hi => by
            by_cases h1 : i < 2 * k
            · exact hok'.out i h1
            · obtain rfl | rfl : i = 2 * k ∨ i = 2 * k + 1 := by omega
              · exact hd1
              · exact hd2⟩
          have HR : Box (HasV _ _ 25 (prl s (k + 1))) := ⟨hv2.set k (BitVec.ofInt 8 (16 * dvl (sb s (2 * k)) + dvl (sb s (2 * k + 1))))⟩
          have er : Box (bits .or .u8 (dvl (sb s (2 * k)) * 16) (dvl (sb s (2 * k + 1))) = bv (BitVec.ofInt 8 (16 * dvl (sb s (2 * k)) + dvl (sb s (2 * k + 1))))) := ⟨or_raw _ _ D1 D2⟩
          have c0 := hv2.cell k (by rw [prl_len]; omega)
          have f0 := hv2.frozen k
          clear hv1' hv2
          go_wp2
          go_roundw
          case rel =>
            rw [er.out]
            exact ⟨k + 1, by omega, by go_num, hok2.out, hv1.other _ _ (by simp), HR.out, hb.setCell (by simp) _⟩
          case measure => simp [intOf]; omega
    · have hk32 : Box (k = 32) := ⟨by omega⟩
      have hok' : Box (okTo s (2 * k)) := ⟨hok⟩
      have hv1' : wr.heap[w.heap.size]? = some (.cells ((prl s 0).map V).toArray 25 (0, 0)) := hv1
      have hv2' : wr.heap[w.heap.size + 1]? = some (.cells ((prl s k).map V).toArray 25 (0, 0)) := hv2
      have hlk : Box (((prl s k).map V).toArray.size = 32) := ⟨by simp [prl_len]⟩
      have hl0 : Box (((prl s 0).map V).toArray.size = 32) := ⟨rfl⟩
      clear hok hv1 hv2
      go_wp2_with (first | (refine wpList_load_row rfl 25 (.tmp 4) rfl (w.heap.size + 1) rfl 25 _ (0, 0) _ hv2' Tryd.under25 rfl (by rw [hlk.out]; exact Tryd.size25) ?_) | (refine wpList_store_row rfl 25 (.tmp 2) (.tmp 48) rfl w.heap.size ((prl s k).map V).toArray rfl rfl 25 _ hv1' (by rw [hlk.out]; exact Tryd.size25) (by rw [hl0.out, hlk.out]) (V_all _) ?_))
      try go_frame
      have e := hk32.out
      subst e
      refine bodyPost_ret (v := .tuple #[.agg ((prl s 32).map V).toArray, .int .i64 0]) ?_ rfl ⟨_, _, rfl, .inl ⟨rfl, hok'.out, rfl⟩, hb.trans (below_setRow _ _ _ _ (Nat.le_refl _))⟩
      exact results25 _ _ rfl w.heap.size rfl (.int .i64 0) rfl _ (setRow_heap _ _ _ _ 25 (0, 0) hv1') hlk.out
set_option maxHeartbeats 400000 in
theorem parse_short (s : ByteArray) (w : World) (hs : s.size ≠ 64) :
    Calls Tryd.prog 18 #[.string s] w fun e w' => e = .returned (.tuple #[.agg ((List.replicate 32 (0 : BitVec 8)).map V).toArray, .int .i64 10]) ∧ Below w.heap.size w w' := by
  have hne : ((s.size : Int) != 64) = true := by rw [bne_iff_ne]; omega
  go_enter Tryd.func18, Tryd.ntmps18
  go_upto_region 2 with fail
  refine code_any (fun w1 => HasV w1 w.heap.size 25 (prl s 0) ∧ Below w.heap.size w w1) ?_ ?_
  · exact ⟨heap_alloc2_old _ _ _, ((Below.refl _ _).alloc (Nat.le_refl _) _).alloc (by simp) _⟩
  rintro w1 ⟨hv1, hb1⟩
  have hv1' : w1.heap[w.heap.size]? = some (.cells ((prl s 0).map V).toArray 25 (0, 0)) := hv1
  have hl0 : Box (((prl s 0).map V).toArray.size = 32) := ⟨rfl⟩
  clear hv1
  go_wp2_with (refine wpList_store_row rfl 25 (.tmp 2) (.tmp 13) rfl w.heap.size ((prl s 0).map V).toArray rfl rfl 25 _ hv1' (by rw [hl0.out]; exact Tryd.size25) rfl (V_all _) ?_)
  try go_frame
  refine bodyPost_ret (v := .tuple #[.agg ((prl s 0).map V).toArray, .int .i64 10]) ?_ rfl ⟨rfl, hb1.trans (below_setRow _ _ _ _ (Nat.le_refl _))⟩
  exact results25 _ _ rfl w.heap.size rfl (.int .i64 10) rfl _ (setRow_heap _ _ _ _ 25 (0, 0) hv1') hl0.out
end Go.Proofs.YtnchebajehgelaaDoor
