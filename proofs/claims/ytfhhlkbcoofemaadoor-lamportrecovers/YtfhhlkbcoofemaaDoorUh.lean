/- Secrets and ends; isKey. -/
import Derived.Test.YtfhhlkbcoofemaaDoorUg
import Derived.Laws.ResultCell
namespace Go.Proofs.YtfhhlkbcoofemaaDoor
open Go.RowKit
theorem sec_any (xs : List (BitVec 8)) (m n : Int) (w : World) (hx : xs.length = 32) (hK : Tab w) :
    Calls Tryd.prog 12 #[.agg (xs.map V).toArray, .int .i64 m, .int .i64 n] w fun e w' => e = .returned (.agg ((sec xs m n).map V).toArray) ∧ Below w.heap.size w w' := secret_any xs m n w hx hK
theorem pub_any (g : Nat) (hs : List (List (BitVec 8))) (w : World) (hn : hs.length = 512) (hL : Rw w g hs) (hK : Tab w) :
    Calls Tryd.prog 10 #[.slice (some ⟨g, 0, none⟩) 512 512] w fun e w' => e = .returned (.agg ((pub hs).map V).toArray) ∧ Below w.heap.size w w' := public_any _ 512 512 g 0 hs w hn.symm hL.hl (by omega) hK
theorem results_row_tmp {P : Program} {fn : Func} {p u : Tmp} {ty : TypeId} (h : fn.results = #[.cell p ty, .tmp u]) (tmps : Array Value) (w : World) (g : Nat) (t : TypeId) (cs : Array Value) (fr : Nat × Nat) (d : TypeDesc) (v : Value)
    (hp : tmps.getD p undef = .pointer (some ⟨g, 0, none⟩)) (hg : w.heap[g]? = some (.cells cs t fr))
    (hu : P.underlying ty = some d) (hd : (match d with | .struct _ | .array _ _ => true | _ => false) = true) (hi : (P.info? ty).map (·.size) = some cs.size) (hv : tmps.getD u undef = v) :
    (results fn tmps).run P w = .ok (.tuple #[.agg cs, v]) w := by
  rw [results_cell_tmp h, hp, hv]
  simp [asAddr, run_loadVar_row w g t ty cs fr d hg hu hd hi]
theorem iskey_yes (n : Nat) (h : n ≤ 2147483647) (w : World) : Calls Tryd.prog 15 #[.int .i64 (n : Int)] w fun e w' => e = .returned (.bool true) ∧ w' = w := by
  have h1 : (0 : Int) ≤ (n : Int) := by omega
  have h2 : (n : Int) ≤ (2147483647 : Int) := by omega
  go_enter Tryd.func15, Tryd.ntmps15
  go_wp2
  go_ret
  exact ⟨rfl, rfl⟩
theorem iskey_no (z : Int) (h : z < 0 ∨ 2147483647 < z) (w : World) : Calls Tryd.prog 15 #[.int .i64 z] w fun e w' => e = .returned (.bool false) ∧ w' = w := by
  rcases h with h | h
  · have h1 : ¬ ((0 : Int) ≤ z) := by omega
    clear h
    go_enter Tryd.func15, Tryd.ntmps15
    go_wp2
    go_ret
    exact ⟨rfl, rfl⟩
  · have h1 : (0 : Int) ≤ z := by omega
    have h2 : ¬ (z ≤ (2147483647 : Int)) := by omega
    clear h
    go_enter Tryd.func15, Tryd.ntmps15
    go_wp2
    go_ret
    exact ⟨rfl, rfl⟩
/-- The secret of bit p for b. -/
def sc (seed : List (BitVec 8)) (key : Int) (p b : Nat) : List (BitVec 8) := sec seed key ((67 + 2 * p + b : Nat) : Int)
/-- The end of what stands for bit p, for b. -/
def en (x : List (BitVec 8)) (p b : Nat) : List (BitVec 8) := chn ((67 + p : Nat) : Int) (b : Int) x
theorem sc_len (seed : List (BitVec 8)) (key : Int) (p b : Nat) : (sc seed key p b).length = 32 := sec_len _ _ _
theorem en_len (x : List (BitVec 8)) (p b : Nat) : (en x p b).length = 32 := chn_len _ _ _
set_option maxHeartbeats 400000 in
theorem sc_any (seed : List (BitVec 8)) (key : Int) (p b : Nat) (w : World) (hx : seed.length = 32) (hp : p ≤ 255) (hb : b ≤ 1) (hK : Tab w) :
    Calls Tryd.prog 17 #[.agg (seed.map V).toArray, .int .i64 key, .int .i64 (p : Int), .int .i64 (b : Int)] w fun e w' => e = .returned (.agg ((sc seed key p b).map V).toArray) ∧ Below w.heap.size w w' := by
  go_enter Tryd.func17, Tryd.ntmps17
  go_upto_region 1 with fail
  refine code_any (fun w1 => HasV w1 w.heap.size 23 seed ∧ HasV w1 (w.heap.size + 1) 23 hz ∧ Below w.heap.size w w1) ?_ ?_
  · exact ⟨heap_alloc2_old _ _ _, by exact heap_alloc2_new _ _ _, ((Below.refl _ _).alloc (Nat.le_refl _) _).alloc (by simp) _⟩
  rintro w1 ⟨hv1, hv2, hb1⟩
  have hs := Box.mk (sec_any seed key (67 + 2 * (p : Int) + (b : Int)) w1 hx (hK.below hb1))
  have hv1' : Box (w1.heap[w.heap.size]? = some (.cells (seed.map V).toArray 23 (0, 0))) := ⟨hv1⟩
  have hv2B := Box.mk hv2
  have hsz : Box ((seed.map V).toArray.size = 32) := ⟨by simp [hx]⟩
  obtain ⟨y, hy⟩ : ∃ y, Box (sec seed key (67 + 2 * (p : Int) + (b : Int)) = y) := ⟨_, ⟨rfl⟩⟩
  have hyl : Box ((y.map V).toArray.size = 32) := ⟨by rw [← hy.out]; simp [sec_len]⟩
  rw [hy.out] at hs
  clear hv1 hv2
  go_wp2_with (first | (refine wpList_load_row rfl 23 (.tmp 4) rfl w.heap.size rfl 23 _ (0, 0) _ hv1'.out Tryd.under23 rfl (by rw [hsz.out]; exact Tryd.size23) ?_) | (go_at_call 12; refine hs.out.mono ?_; rintro e w2 ⟨rfl, hb2⟩; have hk2 : Box (w2.heap[w.heap.size + 1]? = some (.cells (hz.map V).toArray 23 (0, 0))) := ⟨hv2B.out.below hb2 hv2B.out.lt⟩; have hb5 := Box.mk (hb1.trans (hb2.mono hb1.size)); clear hb2) | (refine wpList_store_row rfl 23 (.tmp 8) (.tmp 16) rfl (w.heap.size + 1) (y.map V).toArray rfl rfl 23 _ hk2.out (by rw [hyl.out]; exact Tryd.size23) (by rw [hyl.out]; rfl) (V_all _) ?_))
  refine bodyPost_ret (v := .agg (y.map V).toArray) ?_ rfl ⟨by rw [← hy.out]; unfold sc; rw [show ((67 + 2 * p + b : Nat) : Int) = 67 + 2 * (p : Int) + (b : Int) by omega], ?_⟩
  · exact results_cell_row (P := Tryd.prog) (fn := Tryd.f17) (p := 8) (ty := 23) rfl _ _ (w.heap.size + 1) 23 _ (0, 0) _ rfl (setRow_heap _ _ _ _ 23 (0, 0) hk2.out) Tryd.under23 rfl (by rw [hyl.out]; exact Tryd.size23)
  · exact hb5.out.trans (below_setRow _ _ _ _ (by omega))
set_option maxHeartbeats 400000 in
theorem en_any (x : List (BitVec 8)) (p b : Nat) (w : World) (hx : x.length = 32) (hp : p ≤ 255) (hK : Tab w) :
    Calls Tryd.prog 16 #[.agg (x.map V).toArray, .int .i64 (p : Int), .int .i64 (b : Int)] w fun e w' => e = .returned (.agg ((en x p b).map V).toArray) ∧ Below w.heap.size w w' := by
  go_enter Tryd.func16, Tryd.ntmps16
  go_upto_region 1 with fail
  refine code_any (fun w1 => HasV w1 w.heap.size 23 x ∧ HasV w1 (w.heap.size + 1) 23 hz ∧ Below w.heap.size w w1) ?_ ?_
  · exact ⟨heap_alloc2_old _ _ _, by exact heap_alloc2_new _ _ _, ((Below.refl _ _).alloc (Nat.le_refl _) _).alloc (by simp) _⟩
  rintro w1 ⟨hv1, hv2, hb1⟩
  have hs := Box.mk (chn_any x (67 + (p : Int)) (b : Int) w1 hx (hK.below hb1))
  have hv1' : Box (w1.heap[w.heap.size]? = some (.cells (x.map V).toArray 23 (0, 0))) := ⟨hv1⟩
  have hv2B := Box.mk hv2
  have hsz : Box ((x.map V).toArray.size = 32) := ⟨by simp [hx]⟩
  obtain ⟨y, hy⟩ : ∃ y, Box (chn (67 + (p : Int)) (b : Int) x = y) := ⟨_, ⟨rfl⟩⟩
  have hyl : Box ((y.map V).toArray.size = 32) := ⟨by rw [← hy.out]; simp [chn_len]⟩
  rw [hy.out] at hs
  clear hv1 hv2
  go_wp2_with (first | (refine wpList_load_row rfl 23 (.tmp 3) rfl w.heap.size rfl 23 _ (0, 0) _ hv1'.out Tryd.under23 rfl (by rw [hsz.out]; exact Tryd.size23) ?_) | (go_at_call 14; refine hs.out.mono ?_; rintro e w2 ⟨rfl, hb2⟩; have hk2 : Box (w2.heap[w.heap.size + 1]? = some (.cells (hz.map V).toArray 23 (0, 0))) := ⟨hv2B.out.below hb2 hv2B.out.lt⟩; have hb5 := Box.mk (hb1.trans (hb2.mono hb1.size)); clear hb2) | (refine wpList_store_row rfl 23 (.tmp 6) (.tmp 11) rfl (w.heap.size + 1) (y.map V).toArray rfl rfl 23 _ hk2.out (by rw [hyl.out]; exact Tryd.size23) (by rw [hyl.out]; rfl) (V_all _) ?_))
  refine bodyPost_ret (v := .agg (y.map V).toArray) ?_ rfl ⟨by rw [← hy.out]; unfold en; rw [show ((67 + p : Nat) : Int) = 67 + (p : Int) by omega], ?_⟩
  · exact results_cell_row (P := Tryd.prog) (fn := Tryd.f16) (p := 6) (ty := 23) rfl _ _ (w.heap.size + 1) 23 _ (0, 0) _ rfl (setRow_heap _ _ _ _ 23 (0, 0) hk2.out) Tryd.under23 rfl (by rw [hyl.out]; exact Tryd.size23)
  · exact hb5.out.trans (below_setRow _ _ _ _ (by omega))
end Go.Proofs.YtfhhlkbcoofemaaDoor
