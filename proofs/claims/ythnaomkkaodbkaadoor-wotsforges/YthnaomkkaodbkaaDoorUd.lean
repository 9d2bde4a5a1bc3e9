/- Steps of chains: what the laws' walked and wots.Walk hand back. -/
import Derived.Test.YthnaomkkaodbkaaDoorTj
import Derived.Test.YthnaomkkaodbkaaDoorUc
namespace Go.Proofs.YthnaomkkaodbkaaDoor
open Go.RowKit
/-- One step of chain c, from step s. -/
def chn (c s : Int) (x : List (BitVec 8)) : List (BitVec 8) := shaOf (kb 2 :: (x ++ (two c ++ two s)))
theorem chn_len (c s : Int) (x : List (BitVec 8)) : (chn c s x).length = 32 := shaOf_len _
/-- n steps of chain c, from step f on. -/
def wk (c : Int) (f : Nat) (x : List (BitVec 8)) : Nat → List (BitVec 8)
  | 0 => x
  | n + 1 => chn c ((f + n : Nat) : Int) (wk c f x n)
theorem wk_len (c : Int) (f : Nat) (x : List (BitVec 8)) (n : Nat) (h : x.length = 32) : (wk c f x n).length = 32 := by
  cases n with
  | zero => exact h
  | succ n => exact chn_len _ _ _
theorem wk_add (c : Int) (f : Nat) (x : List (BitVec 8)) (m n : Nat) : wk c f x (m + n) = wk c (f + m) (wk c f x m) n := by
  induction n with
  | zero => rfl
  | succ n ih => rw [← Nat.add_assoc, wk, ih, wk, Nat.add_assoc]
/-- The secret of chain c. -/
def sec (seed : List (BitVec 8)) (key c : Int) : List (BitVec 8) := shaOf (kb 3 :: (seed ++ (four key ++ four c)))
theorem sec_len (seed : List (BitVec 8)) (key c : Int) : (sec seed key c).length = 32 := shaOf_len _
/-- A public key. -/
def pub (hs : List (List (BitVec 8))) : List (BitVec 8) := shaOf (kb 4 :: hs.flatten)
theorem pub_len (hs : List (List (BitVec 8))) : (pub hs).length = 32 := shaOf_len _
theorem chn_any (xs : List (BitVec 8)) (m n : Int) (w : World) (hx : xs.length = 32) (hK : Tab w) :
    Calls Tryd.prog 19 #[.agg (xs.map V).toArray, .int .i64 m, .int .i64 n] w fun e w' => e = .returned (.agg ((chn m n xs).map V).toArray) ∧ Below w.heap.size w w' := chain_any xs m n w hx hK
theorem HasV.setRow {w : World} {g : Nat} {T : TypeId} {xs ys : List (BitVec 8)} (h : HasV w g T xs) : HasV (w.setRow g (ys.map V).toArray) g T ys := setRow_heap _ _ _ _ T (0, 0) h
theorem HasV.setRow_other {w : World} {g b : Nat} {T : TypeId} {xs : List (BitVec 8)} {cs : Array Value} (h : HasV w b T xs) (hne : b ≠ g) : HasV (w.setRow g cs) b T xs := by
  have := Go.setRow_other w g b cs hne
  unfold HasV at *
  rw [this]; exact h
set_option maxHeartbeats 400000 in
theorem walked_any (xs : List (BitVec 8)) (c : Int) (f t : Nat) (w : World) (hx : xs.length = 32) (ht : t ≤ 1000) (hK : Tab w) :
    Calls Tryd.prog 13 #[.agg (xs.map V).toArray, .int .i64 c, .int .i64 f, .int .i64 t] w fun e w' => e = .returned (.agg ((wk c f xs (t - f)).map V).toArray) ∧ Below w.heap.size w w' := by
  go_enter Tryd.func13, Tryd.ntmps13
  go_upto_region 1 with fail
  refine code_any (fun w1 => HasV w1 w.heap.size 23 xs ∧ HasV w1 (w.heap.size + 1) 23 (hsh St.first 0) ∧ Below w.heap.size w w1) ?_ ?_
  · exact ⟨heap_alloc2_old _ _ _, heap_alloc2_new _ _ _, ((Below.refl _ _).alloc (Nat.le_refl _) _).alloc (by simp) _⟩
  rintro w1 ⟨hv1, hv2, hb1⟩
  go_wp2
  go_loopw [9] (fun i wr => ∃ k : Nat, k ≤ t - f ∧ i = .int .i64 ((f + k : Nat) : Int) ∧ HasV wr w.heap.size 23 (wk c f xs k) ∧ HasV wr (w.heap.size + 1) 23 (hsh St.first 0) ∧ Below w.heap.size w wr) (fun i _ => t - (intOf i).toNat)
  case atStart => exact ⟨0, by omega, rfl, hv1, hv2, hb1⟩
  case round =>
    clear hv1 hv2 hb1
    obtain ⟨k, hk, rfl, hv1, hv2, hb⟩ := hrel
    have hv1' : Box (wr.heap[w.heap.size]? = some (.cells ((wk c f xs k).map V).toArray 23 (0, 0))) := ⟨hv1⟩
    have hlen := wk_len c f xs k hx
    have hsz : Box (((wk c f xs k).map V).toArray.size = 32) := ⟨by simp [hlen]⟩
    by_cases hlt : f + k < t
    · have hc := Box.mk (chn_any (wk c f xs k) c ((f + k : Nat) : Int) wr hlen (hK.below hb))
      have hN : Box (chn c ((f + k : Nat) : Int) (wk c f xs k) = wk c f xs (k + 1)) := ⟨rfl⟩
      have hlen2 := wk_len c f xs (k + 1) hx
      have hsz2 : Box (((wk c f xs (k + 1)).map V).toArray.size = 32) := ⟨by simp [hlen2]⟩
      rw [hN.out] at hc
      have hvB := Box.mk hv1
      have hvB2 := Box.mk hv2
      obtain ⟨z, hZ⟩ : ∃ z, Box (wk c f xs (k + 1) = z) := ⟨_, ⟨rfl⟩⟩
      rw [hZ.out] at hc hlen2 hsz2
      generalize wk c f xs k = y at *
      obtain ⟨s, hs⟩ : ∃ s : Nat, Box (s = f + k) := ⟨_, ⟨rfl⟩⟩
      rw [← hs.out] at hc ⊢
      have hst : s < t := by rw [hs.out]; exact hlt
      clear hv1 hv2 hN
      go_wp2_with (first | (refine wpList_load_row rfl 23 (.tmp 4) rfl w.heap.size rfl 23 _ (0, 0) _ hv1'.out Tryd.under23 rfl (by rw [hsz.out]; exact Tryd.size23) ?_) | (go_at_call 19; refine hc.out.mono ?_; rintro e w2 ⟨rfl, hb2⟩; have hvC := Box.mk (hvB.out.below hb2 hvB.out.lt); have hvD := Box.mk (hvB2.out.below hb2 hvB2.out.lt); have hb3 := hb.trans (hb2.mono hb.size)) | (refine wpList_store_row rfl 23 (.tmp 4) (.tmp 19) rfl w.heap.size (z.map V).toArray rfl rfl 23 _ hvC.out (by rw [hsz2.out]; exact Tryd.size23) (by rw [hsz2.out]; simp [hlen]) (V_all _) ?_))
      refine ⟨⟨k + 1, by omega, by rw [hs.out]; go_num, ?_, hvD.out.setRow_other (by omega), hb3.trans (below_setRow _ _ _ _ (Nat.le_refl _))⟩, by simp [intOf]; omega⟩
      rw [hZ.out]
      exact hvC.out.setRow
    · obtain rfl : k = t - f := by omega
      have hvB2 := Box.mk hv2
      have hk2 : Box (wr.heap[w.heap.size + 1]? = some (.cells ((hsh St.first 0).map V).toArray 23 (0, 0))) := ⟨hv2⟩
      obtain ⟨y, hy⟩ : ∃ y, Box (wk c f xs (t - f) = y) := ⟨_, ⟨rfl⟩⟩
      rw [hy.out] at hv1' hsz hlen
      have hge : ¬ (((f + (t - f) : Nat) : Int) < (t : Int)) := by omega
      generalize ((f + (t - f) : Nat) : Int) = s at hge ⊢
      have hsf : decide (s < (t : Int)) = false := by simpa using hge
      clear hv1 hv2 hge
      go_wp2_with (first | (refine wpList_load_row rfl 23 (.tmp 4) rfl w.heap.size rfl 23 _ (0, 0) _ hv1'.out Tryd.under23 rfl (by rw [hsz.out]; exact Tryd.size23) ?_) | (refine wpList_store_row rfl 23 (.tmp 8) (.tmp 20) rfl (w.heap.size + 1) (y.map V).toArray rfl rfl 23 _ hk2.out (by rw [hsz.out]; exact Tryd.size23) (by rw [hsz.out]; rfl) (V_all _) ?_))
      refine bodyPost_ret (v := .agg (y.map V).toArray) ?_ rfl ⟨by rw [hy.out], ?_⟩
      · exact results_cell_row (P := Tryd.prog) (fn := Tryd.f13) (p := 8) (ty := 23) rfl _ _ (w.heap.size + 1) 23 _ (0, 0) _ rfl (setRow_heap _ _ _ _ 23 (0, 0) hk2.out) Tryd.under23 rfl (by rw [hsz.out]; exact Tryd.size23)
      · exact hb.trans (below_setRow _ _ _ _ (by omega))
/-- What wots.Walk has behind k looks. -/
def lk (c f t : Int) (x : List (BitVec 8)) : Nat → List (BitVec 8)
  | 0 => x
  | k + 1 => if f ≤ (k : Int) ∧ (k : Int) < t then chn c k (lk c f t x k) else lk c f t x k
theorem lk_len (c f t : Int) (x : List (BitVec 8)) (k : Nat) (h : x.length = 32) : (lk c f t x k).length = 32 := by
  induction k with
  | zero => exact h
  | succ k ih =>
    simp only [lk]
    split
    · exact chn_len _ _ _
    · exact ih
theorem lk_wk (c : Int) (f t : Nat) (x : List (BitVec 8)) (k : Nat) : lk c f t x k = wk c f x (min k t - f) := by
  induction k with
  | zero => simp [lk, wk]
  | succ k ih =>
    simp only [lk]
    split
    · rename_i h
      have e : min (k + 1) t - f = (min k t - f) + 1 := by omega
      rw [ih, e, wk, show f + (min k t - f) = k by omega]
    · rename_i h
      rw [ih]
      congr 1
      omega
set_option maxHeartbeats 400000 in
theorem wlk_any (xs : List (BitVec 8)) (c f t : Int) (w : World) (hx : xs.length = 32) (hK : Tab w) :
    Calls Tryd.prog 17 #[.agg (xs.map V).toArray, .int .i64 c, .int .i64 f, .int .i64 t] w fun e w' => e = .returned (.agg ((lk c f t xs 15).map V).toArray) ∧ Below w.heap.size w w' := by
  go_enter Tryd.func17, Tryd.ntmps17
  go_upto_region 1 with fail
  refine code_any (fun w1 => HasV w1 w.heap.size 23 xs ∧ HasV w1 (w.heap.size + 1) 23 (hsh St.first 0) ∧ Below w.heap.size w w1) ?_ ?_
  · exact ⟨heap_alloc2_old _ _ _, heap_alloc2_new _ _ _, ((Below.refl _ _).alloc (Nat.le_refl _) _).alloc (by simp) _⟩
  rintro w1 ⟨hv1, hv2, hb1⟩
  go_wp2
  go_loopw [10] (fun i wr => ∃ k : Nat, k ≤ 15 ∧ i = .int .i64 (k : Int) ∧ HasV wr w.heap.size 23 (lk c f t xs k) ∧ HasV wr (w.heap.size + 1) 23 (hsh St.first 0) ∧ Below w.heap.size w wr) (fun i _ => 15 - (intOf i).toNat)
  case atStart => exact ⟨0, by omega, rfl, hv1, hv2, hb1⟩
  case round =>
    clear hv1 hv2 hb1
    obtain ⟨k, hk, rfl, hv1, hv2, hb⟩ := hrel
    have hv1' : Box (wr.heap[w.heap.size]? = some (.cells ((lk c f t xs k).map V).toArray 23 (0, 0))) := ⟨hv1⟩
    have hlen := lk_len c f t xs k hx
    have hsz : Box (((lk c f t xs k).map V).toArray.size = 32) := ⟨by simp [hlen]⟩
    by_cases hlt : k < 15
    · have hvB := Box.mk hv1
      have hvB2 := Box.mk hv2
      by_cases hin : f ≤ (k : Int) ∧ (k : Int) < t
      · have hc := Box.mk (chn_any (lk c f t xs k) c (k : Int) wr hlen (hK.below hb))
        have hZ : Box (lk c f t xs (k + 1) = chn c (k : Int) (lk c f t xs k)) := ⟨by simp only [lk]; rw [if_pos hin]⟩
        have hlen2 := chn_len c (k : Int) (lk c f t xs k)
        have hsz2 : Box (((chn c (k : Int) (lk c f t xs k)).map V).toArray.size = 32) := ⟨by simp [hlen2]⟩
        generalize chn c (k : Int) (lk c f t xs k) = z at *
        generalize lk c f t xs k = y at *
        obtain ⟨h1, h2⟩ := hin
        clear hv1 hv2
        go_wp2_with (first | (refine wpList_load_row rfl 23 (.tmp 4) rfl w.heap.size rfl 23 _ (0, 0) _ hv1'.out Tryd.under23 rfl (by rw [hsz.out]; exact Tryd.size23) ?_) | (go_at_call 19; refine hc.out.mono ?_; rintro e w2 ⟨rfl, hb2⟩; have hvC := Box.mk (hvB.out.below hb2 hvB.out.lt); have hvD := Box.mk (hvB2.out.below hb2 hvB2.out.lt); have hb3 := hb.trans (hb2.mono hb.size)) | (refine wpList_store_row rfl 23 (.tmp 4) (.tmp 24) rfl w.heap.size (z.map V).toArray rfl rfl 23 _ hvC.out (by rw [hsz2.out]; exact Tryd.size23) (by rw [hsz2.out]; simp [hlen]) (V_all _) ?_))
        refine ⟨⟨k + 1, by omega, by go_num, ?_, hvD.out.setRow_other (by omega), hb3.trans (below_setRow _ _ _ _ (Nat.le_refl _))⟩, by simp [intOf]; omega⟩
        rw [hZ.out]
        exact hvC.out.setRow
      · have hZ : Box (lk c f t xs (k + 1) = lk c f t xs k) := ⟨by simp only [lk]; rw [if_neg hin]⟩
        generalize lk c f t xs k = y at *
        clear hv1 hv2
        by_cases h1 : f ≤ (k : Int)
        · have h2 : ¬ ((k : Int) < t) := fun h => hin ⟨h1, h⟩
          clear hin
          go_wp2
          exact ⟨⟨k + 1, by omega, by go_num, by rw [hZ.out]; exact hvB.out, hvB2.out, hb⟩, by simp [intOf]; omega⟩
        · clear hin
          go_wp2
          exact ⟨⟨k + 1, by omega, by go_num, by rw [hZ.out]; exact hvB.out, hvB2.out, hb⟩, by simp [intOf]; omega⟩
    · obtain rfl : k = 15 := by omega
      have hk2 : Box (wr.heap[w.heap.size + 1]? = some (.cells ((hsh St.first 0).map V).toArray 23 (0, 0))) := ⟨hv2⟩
      obtain ⟨y, hy⟩ : ∃ y, Box (lk c f t xs 15 = y) := ⟨_, ⟨rfl⟩⟩
      rw [hy.out] at hv1' hsz hlen
      clear hv1 hv2
      go_wp2_with (first | (refine wpList_load_row rfl 23 (.tmp 4) rfl w.heap.size rfl 23 _ (0, 0) _ hv1'.out Tryd.under23 rfl (by rw [hsz.out]; exact Tryd.size23) ?_) | (refine wpList_store_row rfl 23 (.tmp 8) (.tmp 26) rfl (w.heap.size + 1) (y.map V).toArray rfl rfl 23 _ hk2.out (by rw [hsz.out]; exact Tryd.size23) (by rw [hsz.out]; rfl) (V_all _) ?_))
      refine bodyPost_ret (v := .agg (y.map V).toArray) ?_ rfl ⟨by rw [hy.out], ?_⟩
      · exact results_cell_row (P := Tryd.prog) (fn := Tryd.f17) (p := 8) (ty := 23) rfl _ _ (w.heap.size + 1) 23 _ (0, 0) _ rfl (setRow_heap _ _ _ _ 23 (0, 0) hk2.out) Tryd.under23 rfl (by rw [hsz.out]; exact Tryd.size23)
      · exact hb.trans (below_setRow _ _ _ _ (by omega))
/-- wots.Walk between steps that there are. -/
theorem walk_any (xs : List (BitVec 8)) (c : Int) (f t : Nat) (w : World) (hx : xs.length = 32) (ht : t ≤ 15) (hK : Tab w) :
    Calls Tryd.prog 17 #[.agg (xs.map V).toArray, .int .i64 c, .int .i64 f, .int .i64 t] w fun e w' => e = .returned (.agg ((wk c f xs (t - f)).map V).toArray) ∧ Below w.heap.size w w' := by
  have := wlk_any xs c f t w hx hK
  rw [lk_wk, Nat.min_eq_right ht] at this
  exact this
end Go.Proofs.YthnaomkkaodbkaaDoor
