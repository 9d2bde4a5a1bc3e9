/- What lamport.Public hands back. -/
import Derived.Test.YtfhhlkbcoofemaaDoorRe
namespace Go.Proofs.YtfhhlkbcoofemaaDoor
open Go.RowKit
set_option maxRecDepth 100000 in
set_option maxHeartbeats 1000000 in
theorem public_ok (seed : List (BitVec 8)) (key : Nat) (w : World) (hx : seed.length = 32) (hk : key ≤ 2147483647) (hK : Tab w) :
    Calls Tryd.prog 6 #[.agg (seed.map V).toArray, .int .i64 (key : Int)] w fun e w' => e = .returned (.tuple #[.agg ((pub (all512 (edOf seed key))).map V).toArray, .int .i64 0]) ∧ Below w.heap.size w w' := by
  have hmk := Tryd.make27
  have hky := Box.mk (fun w => iskey_yes key hk w)
  go_enter Tryd.func6, Tryd.ntmps6
  go_upto_region 4 with (go_at_call 15; refine (hky.out _).mono ?_; rintro e w2 ⟨rfl, rfl⟩)
  clear hmk hky
  refine code_any (fun w1 => HasV w1 w.heap.size 23 seed ∧ HasV w1 (w.heap.size + 1) 23 hz ∧ Rw w1 (w.heap.size + 1 + 1) (part512 (edOf seed key) 0) ∧ Below w.heap.size w w1) ?_ ?_
  · refine ⟨HasV.alloc (heap_alloc2_old _ _ _) _, HasV.alloc (T := 23) (xs := hz) (by exact heap_alloc2_new _ _ _) _, ?_, (((Below.refl _ _).alloc (Nat.le_refl _) _).alloc (by simp) _).alloc (by simp; omega) _⟩
    rw [part_zero]
    have := rw_new ((w.alloc (Obj.cells (List.map V seed).toArray 23)).alloc (Obj.cells (hz.map V).toArray 23))
    rw [show ((w.alloc (Obj.cells (List.map V seed).toArray 23)).alloc (Obj.cells (hz.map V).toArray 23)).heap.size = w.heap.size + 1 + 1 by simp] at this
    exact this
  rintro w1 ⟨hv1, hv2, hr, hb1⟩
  go_wp2
  go_loopw [14] (fun i wr => ∃ k : Nat, k ≤ 256 ∧ i = .int .i64 (k : Int) ∧ HasV wr w.heap.size 23 seed ∧ HasV wr (w.heap.size + 1) 23 hz ∧ Box (Rw wr (w.heap.size + 1 + 1) (part512 (edOf seed key) (2 * k))) ∧ Below w.heap.size w wr) (fun i _ => 256 - (intOf i).toNat)
  case atStart => exact ⟨0, by omega, rfl, hv1, hv2, ⟨hr⟩, hb1⟩
  case round =>
    clear hv1 hv2 hr hb1
    obtain ⟨k, hk256, rfl, hv1, hv2, hr, hb⟩ := hrel
    by_cases hlt : k < 256
    · have hd : decide ((k : Int) < 256) = true := by simp; omega
      go_wp2
      go_loopw [17] (fun i wr => ∃ b : Nat, b ≤ 2 ∧ i = .int .i64 (b : Int) ∧ HasV wr w.heap.size 23 seed ∧ HasV wr (w.heap.size + 1) 23 hz ∧ Box (Rw wr (w.heap.size + 1 + 1) (part512 (edOf seed key) (2 * k + b))) ∧ Below w.heap.size w wr) (fun i _ => 2 - (intOf i).toNat)
      case atStart => exact ⟨0, by omega, rfl, hv1, hv2, hr, hb⟩
      case round =>
        clear hv1 hv2 hr hb
        obtain ⟨b, hb2, rfl, hv1, hv2, hr, hb⟩ := hrel
        by_cases hbl : b < 2
        · have hv1' : Box (wr.heap[w.heap.size]? = some (.cells (seed.map V).toArray 23 (0, 0))) := ⟨hv1⟩
          have hsz : Box ((seed.map V).toArray.size = 32) := ⟨by simp [hx]⟩
          have hT := hK.below hb
          have hS := Box.mk (sc_any seed key k b wr hx (by omega) (by omega) hT)
          have hE : Box (∀ w2, Tab w2 → Calls Tryd.prog 16 #[.agg ((sc seed key k b).map V).toArray, .int .i64 (k : Int), .int .i64 (b : Int)] w2 fun e w' => e = .returned (.agg ((en (sc seed key k b) k b).map V).toArray) ∧ Below w2.heap.size w2 w') := ⟨fun w2 h2 => en_any (sc seed key k b) k b w2 (sc_len _ _ _ _) (by omega) h2⟩
          have hP := Box.mk (part_set (edOf seed key) (2 * k + b))
          rw [edOf_at seed key k b (by omega)] at hP
          obtain ⟨y, hy⟩ : ∃ y, Box (en (sc seed key k b) k b = y) := ⟨_, ⟨rfl⟩⟩
          have hel : y.length = 32 := by rw [← hy.out]; exact en_len _ _ _
          rw [hy.out] at hE hP
          have hv1B := Box.mk hv1
          have hv2B := Box.mk hv2
          have hsy : Box ((y.map V).toArray.size = 32) := ⟨by simp [hel]⟩
          have hpl := part_len (edOf seed key) (2 * k + b)
          generalize sc seed key k b = z at hS hE
          have i1 : (0 : Int) ≤ 2 * (k : Int) + (b : Int) := by omega
          have i2 : 2 * (k : Int) + (b : Int) < 512 := by omega
          clear hy hv1 hv2
          go_wp2_with (first | (refine wpList_load_row rfl 23 (.tmp 2) rfl w.heap.size rfl 23 _ (0, 0) _ hv1'.out Tryd.under23 rfl (by rw [hsz.out]; exact Tryd.size23) ?_) | (go_at_call 17; refine hS.out.mono ?_; rintro e w2 ⟨rfl, hb2⟩; have hT2 := hT.below hb2) | (go_at_call 16; refine (hE.out w2 hT2).mono ?_; rintro e w3 ⟨rfl, hb3⟩; have hb4 : Below wr.heap.size wr w3 := hb2.trans (hb3.mono hb2.size); have hr3 := Box.mk (hr.out.below hb4); have hvA := Box.mk (hv1B.out.below hb4 hv1B.out.lt); have hvC := Box.mk (hv2B.out.below hb4 hv2B.out.lt); have hb5 := Box.mk (hb.trans (hb4.mono hb.size)); clear hb4 hb3 hb2 hr hv1B hv2B hv1') | (refine wpList_store_mid rfl 23 (.tmp 33) (.tmp 32) rfl (w.heap.size + 1 + 1) ((2 * k + b) * 32) (y.map V).toArray rfl rfl (by rw [hsy.out]; exact hr3.out.there (2 * k + b) (by rw [hpl]; omega)) (by rw [hsy.out]; exact Tryd.size23) (V_all _) ?_))
          refine ⟨⟨b + 1, by omega, by go_num, hvA.out.cells_other (by omega), hvC.out.cells_other (by omega), ⟨?_⟩, below_setCells (by omega) _ _ _ hb5.out⟩, by simp [intOf]; omega⟩
          rw [← Nat.add_assoc, ← hP.out]
          exact hr3.out.store (2 * k + b) y (by rw [hpl]; omega) hel
        · obtain rfl : b = 2 := by omega
          go_wp2
          refine ⟨⟨k + 1, by omega, by go_num, hv1, hv2, ?_, hb⟩, by simp [intOf]; omega⟩
          rw [show 2 * (k + 1) = 2 * k + 2 by omega]
          exact hr
    · obtain rfl : k = 256 := by omega
      rw [show 2 * 256 = 512 by rfl, part_all] at hr
      have hpb := Box.mk (pub_any (w.heap.size + 1 + 1) _ wr (all_len _) hr.out (hK.below hb))
      obtain ⟨y, hy⟩ : ∃ y, Box (pub (all512 (edOf seed key)) = y) := ⟨_, ⟨rfl⟩⟩
      have hyl : Box ((y.map V).toArray.size = 32) := ⟨by rw [← hy.out]; simp [pub_len]⟩
      rw [hy.out] at hpb
      have hv2B := Box.mk hv2
      clear hv1 hv2 hr
      go_wp2_with (first | (go_at_call 10; refine hpb.out.mono ?_; rintro e w2 ⟨rfl, hb2⟩; have hk2 : Box (w2.heap[w.heap.size + 1]? = some (.cells (hz.map V).toArray 23 (0, 0))) := ⟨hv2B.out.below hb2 hv2B.out.lt⟩; have hb5 := Box.mk (hb.trans (hb2.mono hb.size)); clear hb2) | (refine wpList_store_row rfl 23 (.tmp 4) (.tmp 37) rfl (w.heap.size + 1) (y.map V).toArray rfl rfl 23 _ hk2.out (by rw [hyl.out]; exact Tryd.size23) (by rw [hyl.out]; rfl) (V_all _) ?_))
      refine bodyPost_ret (v := .tuple #[.agg (y.map V).toArray, .int .i64 0]) ?_ rfl ⟨by rw [hy.out], ?_⟩
      · exact results_row_tmp (P := Tryd.prog) (fn := Tryd.f6) (p := 4) (u := 5) (ty := 23) rfl _ _ (w.heap.size + 1) 23 _ (0, 0) _ _ rfl (setRow_heap _ _ _ _ 23 (0, 0) hk2.out) Tryd.under23 rfl (by rw [hyl.out]; exact Tryd.size23) rfl
      · exact hb5.out.trans (below_setRow _ _ _ _ (by omega))
set_option maxHeartbeats 400000 in
theorem public_no (seed : List (BitVec 8)) (key : Int) (w : World) (hk : key < 0 ∨ 2147483647 < key) :
    Calls Tryd.prog 6 #[.agg (seed.map V).toArray, .int .i64 key] w fun e w' => e = .returned (.tuple #[.agg (hz.map V).toArray, .int .i64 11]) ∧ Below w.heap.size w w' := by
  have hky := Box.mk (fun w => iskey_no key hk w)
  have hzz := Tryd.zero23
  rw [show hsh St.first 0 = hz from rfl] at hzz
  go_enter Tryd.func6, Tryd.ntmps6
  go_upto_region 1 with fail
  refine code_any (fun w1 => HasV w1 (w.heap.size + 1) 23 hz ∧ Below w.heap.size w w1) ?_ ?_
  · exact ⟨by exact heap_alloc2_new _ _ _, ((Below.refl _ _).alloc (Nat.le_refl _) _).alloc (by simp) _⟩
  rintro w1 ⟨hv2, hb1⟩
  have hk2 : Box (w1.heap[w.heap.size + 1]? = some (.cells (hz.map V).toArray 23 (0, 0))) := ⟨hv2⟩
  have hsz : Box ((hz.map V).toArray.size = 32) := ⟨by simp [hz_len]⟩
  clear hv2 hk
  go_wp2_with (first | (go_at_call 15; refine (hky.out _).mono ?_; rintro e w2 ⟨rfl, rfl⟩) | (refine wpList_store_row rfl 23 (.tmp 4) (.tmp 12) rfl (w.heap.size + 1) (hz.map V).toArray rfl rfl 23 _ hk2.out (by rw [hsz.out]; exact Tryd.size23) (by rw [hsz.out]) (V_all _) ?_))
  refine bodyPost_ret (v := .tuple #[.agg (hz.map V).toArray, .int .i64 11]) ?_ rfl ⟨rfl, ?_⟩
  · exact results_row_tmp (P := Tryd.prog) (fn := Tryd.f6) (p := 4) (u := 5) (ty := 23) rfl _ _ (w.heap.size + 1) 23 _ (0, 0) _ _ rfl (setRow_heap _ _ _ _ 23 (0, 0) hk2.out) Tryd.under23 rfl (by rw [hsz.out]; exact Tryd.size23) rfl
  · exact hb1.trans (below_setRow _ _ _ _ (by omega))
end Go.Proofs.YtfhhlkbcoofemaaDoor
