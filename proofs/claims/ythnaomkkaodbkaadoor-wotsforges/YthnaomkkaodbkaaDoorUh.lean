/- What wots.Public, Sign and Recover hand back. -/
import Derived.Test.YthnaomkkaodbkaaDoorUg
import Derived.Laws.ResultCell
namespace Go.Proofs.YthnaomkkaodbkaaDoor
open Go.RowKit
/-- The end of chain i. -/
def endOf (seed : List (BitVec 8)) (key : Nat) (i : Nat) : List (BitVec 8) := wk (i : Int) 0 (sec seed key i) 15
theorem endOf_len (seed : List (BitVec 8)) (key i : Nat) : (endOf seed key i).length = 32 := wk_len _ _ _ _ (sec_len _ _ _)
theorem sec_any (xs : List (BitVec 8)) (m n : Int) (w : World) (hx : xs.length = 32) (hK : Tab w) :
    Calls Tryd.prog 14 #[.agg (xs.map V).toArray, .int .i64 m, .int .i64 n] w fun e w' => e = .returned (.agg ((sec xs m n).map V).toArray) ∧ Below w.heap.size w w' := secret_any xs m n w hx hK
theorem pub_any (g : Nat) (hs : List (List (BitVec 8))) (w : World) (hn : hs.length = 67) (hL : Rw w g hs) (hK : Tab w) :
    Calls Tryd.prog 16 #[.slice (some ⟨g, 0, none⟩) 67 67] w fun e w' => e = .returned (.agg ((pub hs).map V).toArray) ∧ Below w.heap.size w w' := public_any _ 67 67 g 0 hs w hn.symm hL.hl (by omega) hK
theorem results_row_tmp {P : Program} {fn : Func} {p u : Tmp} {ty : TypeId} (h : fn.results = #[.cell p ty, .tmp u]) (tmps : Array Value) (w : World) (g : Nat) (t : TypeId) (cs : Array Value) (fr : Nat × Nat) (d : TypeDesc) (v : Value)
    (hp : tmps.getD p undef = .pointer (some ⟨g, 0, none⟩)) (hg : w.heap[g]? = some (.cells cs t fr))
    (hu : P.underlying ty = some d) (hd : (match d with | .struct _ | .array _ _ => true | _ => false) = true) (hi : (P.info? ty).map (·.size) = some cs.size) (hv : tmps.getD u undef = v) :
    (results fn tmps).run P w = .ok (.tuple #[.agg cs, v]) w := by
  rw [results_cell_tmp h, hp, hv]
  simp [asAddr, run_loadVar_row w g t ty cs fr d hg hu hd hi]
set_option maxHeartbeats 400000 in
theorem public_ok (seed : List (BitVec 8)) (key : Nat) (w : World) (hx : seed.length = 32) (hk : key ≤ 2147483647) (hK : Tab w) :
    Calls Tryd.prog 11 #[.agg (seed.map V).toArray, .int .i64 (key : Int)] w fun e w' => e = .returned (.tuple #[.agg ((pub (all67 (endOf seed key))).map V).toArray, .int .i64 0]) ∧ Below w.heap.size w w' := by
  have hmk := Tryd.make32
  have hky := Box.mk (fun w => iskey_yes key hk w)
  go_enter Tryd.func11, Tryd.ntmps11
  go_upto_region 4 with (go_at_call 20; refine (hky.out _).mono ?_; rintro e w2 ⟨rfl, rfl⟩)
  clear hmk hky
  refine code_any (fun w1 => HasV w1 w.heap.size 23 seed ∧ HasV w1 (w.heap.size + 1) 23 hz ∧ Rw w1 (w.heap.size + 1 + 1) (part67 (endOf seed key) 0) ∧ Below w.heap.size w w1) ?_ ?_
  · refine ⟨HasV.alloc (heap_alloc2_old _ _ _) _, HasV.alloc (T := 23) (xs := hz) (by exact heap_alloc2_new _ _ _) _, ?_, (((Below.refl _ _).alloc (Nat.le_refl _) _).alloc (by simp) _).alloc (by simp; omega) _⟩
    rw [part_zero]
    have := rw_new ((w.alloc (Obj.cells (List.map V seed).toArray 23)).alloc (Obj.cells (hz.map V).toArray 23))
    rw [show ((w.alloc (Obj.cells (List.map V seed).toArray 23)).alloc (Obj.cells (hz.map V).toArray 23)).heap.size = w.heap.size + 1 + 1 by simp] at this
    exact this
  rintro w1 ⟨hv1, hv2, hr, hb1⟩
  go_wp2
  go_loopw [13] (fun i wr => ∃ k : Nat, k ≤ 67 ∧ i = .int .i64 (k : Int) ∧ HasV wr w.heap.size 23 seed ∧ HasV wr (w.heap.size + 1) 23 hz ∧ Box (Rw wr (w.heap.size + 1 + 1) (part67 (endOf seed key) k)) ∧ Below w.heap.size w wr) (fun i _ => 67 - (intOf i).toNat)
  case atStart => exact ⟨0, by omega, rfl, hv1, hv2, ⟨hr⟩, hb1⟩
  case round =>
    clear hv1 hv2 hr hb1
    obtain ⟨k, hk67, rfl, hv1, hv2, hr, hb⟩ := hrel
    have hv1' : Box (wr.heap[w.heap.size]? = some (.cells (seed.map V).toArray 23 (0, 0))) := ⟨hv1⟩
    have hsz : Box ((seed.map V).toArray.size = 32) := ⟨by simp [hx]⟩
    by_cases hlt : k < 67
    · have hE : Box (wk (k : Int) 0 (sec seed key k) (15 - 0) = endOf seed key k) := ⟨rfl⟩
      have hS := Box.mk (sec_any seed key k wr hx (hK.below hb))
      have hW : Box (∀ w2, Tab w2 → Calls Tryd.prog 17 #[.agg ((sec seed key k).map V).toArray, .int .i64 (k : Int), .int .i64 0, .int .i64 15] w2 fun e w' => e = .returned (.agg ((endOf seed key k).map V).toArray) ∧ Below w2.heap.size w2 w') := ⟨fun w2 h2 => by
        have := walk_any (sec seed key k) k 0 15 w2 (sec_len _ _ _) (by omega) h2
        rw [hE.out] at this
        exact this⟩
      have hel := endOf_len seed key k
      have hP := Box.mk (part_set (endOf seed key) k)
      obtain ⟨y, hy⟩ : ∃ y, Box (endOf seed key k = y) := ⟨_, ⟨rfl⟩⟩
      rw [hy.out] at hW hel hP
      have hv1B := Box.mk hv1
      have hv2B := Box.mk hv2
      have hsy : Box ((y.map V).toArray.size = 32) := ⟨by simp [hel]⟩
      have hpl := part_len (endOf seed key) k
      generalize sec seed key k = z at hS hW
      clear hE hy hv1 hv2
      have hT := hK.below hb
      go_wp2_with (first | (refine wpList_load_row rfl 23 (.tmp 2) rfl w.heap.size rfl 23 _ (0, 0) _ hv1'.out Tryd.under23 rfl (by rw [hsz.out]; exact Tryd.size23) ?_) | (go_at_call 14; refine hS.out.mono ?_; rintro e w2 ⟨rfl, hb2⟩; have hT2 := hT.below hb2) | (go_at_call 17; refine (hW.out w2 hT2).mono ?_; rintro e w3 ⟨rfl, hb3⟩; have hb4 : Below wr.heap.size wr w3 := hb2.trans (hb3.mono hb2.size); have hr3 := Box.mk (hr.out.below hb4); have hvA := Box.mk (hv1B.out.below hb4 hv1B.out.lt); have hvC := Box.mk (hv2B.out.below hb4 hv2B.out.lt); have hb5 := Box.mk (hb.trans (hb4.mono hb.size)); clear hb4 hb3 hb2 hr hv1B hv2B hv1') | (refine wpList_store_mid rfl 23 (.tmp 24) (.tmp 23) rfl (w.heap.size + 1 + 1) (k * 32) (y.map V).toArray rfl rfl (by rw [hsy.out]; exact hr3.out.there k (by rw [hpl]; exact hlt)) (by rw [hsy.out]; exact Tryd.size23) (V_all _) ?_))
      refine ⟨⟨k + 1, by omega, by go_num, hvA.out.cells_other (by omega), hvC.out.cells_other (by omega), ⟨?_⟩, below_setCells (by omega) _ _ _ hb5.out⟩, by simp [intOf]; omega⟩
      rw [← hP.out]
      exact hr3.out.store k y (by rw [hpl]; exact hlt) hel
    · obtain rfl : k = 67 := by omega
      rw [part_all] at hr
      have hpb := Box.mk (pub_any (w.heap.size + 1 + 1) _ wr (all_len _) hr.out (hK.below hb))
      obtain ⟨y, hy⟩ : ∃ y, Box (pub (all67 (endOf seed key)) = y) := ⟨_, ⟨rfl⟩⟩
      have hyl : Box ((y.map V).toArray.size = 32) := ⟨by rw [← hy.out]; simp [pub_len]⟩
      rw [hy.out] at hpb
      have hv2B := Box.mk hv2
      clear hv1 hv2 hr hv1'
      go_wp2_with (first | (go_at_call 16; refine hpb.out.mono ?_; rintro e w2 ⟨rfl, hb2⟩; have hk2 : Box (w2.heap[w.heap.size + 1]? = some (.cells (hz.map V).toArray 23 (0, 0))) := ⟨hv2B.out.below hb2 hv2B.out.lt⟩; have hb5 := Box.mk (hb.trans (hb2.mono hb.size)); clear hb2) | (refine wpList_store_row rfl 23 (.tmp 4) (.tmp 27) rfl (w.heap.size + 1) (y.map V).toArray rfl rfl 23 _ hk2.out (by rw [hyl.out]; exact Tryd.size23) (by rw [hyl.out]; rfl) (V_all _) ?_))
      refine bodyPost_ret (v := .tuple #[.agg (y.map V).toArray, .int .i64 0]) ?_ rfl ⟨by rw [hy.out], ?_⟩
      · exact results_row_tmp (P := Tryd.prog) (fn := Tryd.f11) (p := 4) (u := 5) (ty := 23) rfl _ _ (w.heap.size + 1) 23 _ (0, 0) _ _ rfl (setRow_heap _ _ _ _ 23 (0, 0) hk2.out) Tryd.under23 rfl (by rw [hyl.out]; exact Tryd.size23) rfl
      · exact hb5.out.trans (below_setRow _ _ _ _ (by omega))
set_option maxHeartbeats 400000 in
theorem public_no (seed : List (BitVec 8)) (key : Int) (w : World) (hk : key < 0 ∨ 2147483647 < key) :
    Calls Tryd.prog 11 #[.agg (seed.map V).toArray, .int .i64 key] w fun e w' => e = .returned (.tuple #[.agg (hz.map V).toArray, .int .i64 11]) ∧ Below w.heap.size w w' := by
  have hky := Box.mk (fun w => iskey_no key hk w)
  have hzz := Tryd.zero23
  rw [show hsh St.first 0 = hz from rfl] at hzz
  go_enter Tryd.func11, Tryd.ntmps11
  go_upto_region 1 with fail
  refine code_any (fun w1 => HasV w1 (w.heap.size + 1) 23 hz ∧ Below w.heap.size w w1) ?_ ?_
  · exact ⟨by exact heap_alloc2_new _ _ _, ((Below.refl _ _).alloc (Nat.le_refl _) _).alloc (by simp) _⟩
  rintro w1 ⟨hv2, hb1⟩
  have hk2 : Box (w1.heap[w.heap.size + 1]? = some (.cells (hz.map V).toArray 23 (0, 0))) := ⟨hv2⟩
  have hsz : Box ((hz.map V).toArray.size = 32) := ⟨by simp [hz_len]⟩
  clear hv2 hk
  go_wp2_with (first | (go_at_call 20; refine (hky.out _).mono ?_; rintro e w2 ⟨rfl, rfl⟩) | (refine wpList_store_row rfl 23 (.tmp 4) (.tmp 11) rfl (w.heap.size + 1) (hz.map V).toArray rfl rfl 23 _ hk2.out (by rw [hsz.out]; exact Tryd.size23) (by rw [hsz.out]) (V_all _) ?_))
  refine bodyPost_ret (v := .tuple #[.agg (hz.map V).toArray, .int .i64 11]) ?_ rfl ⟨rfl, ?_⟩
  · exact results_row_tmp (P := Tryd.prog) (fn := Tryd.f11) (p := 4) (u := 5) (ty := 23) rfl _ _ (w.heap.size + 1) 23 _ (0, 0) _ _ rfl (setRow_heap _ _ _ _ 23 (0, 0) hk2.out) Tryd.under23 rfl (by rw [hsz.out]; exact Tryd.size23) rfl
  · exact hb1.trans (below_setRow _ _ _ _ (by omega))
end Go.Proofs.YthnaomkkaodbkaaDoor
