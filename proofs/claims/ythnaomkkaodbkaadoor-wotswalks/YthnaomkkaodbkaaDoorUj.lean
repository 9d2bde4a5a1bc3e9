/- What wots.Recover hands back. -/
import Derived.Test.YthnaomkkaodbkaaDoorUi
namespace Go.Proofs.YthnaomkkaodbkaaDoor
open Go.RowKit
/-- The end that chain i of a signature leads to. -/
def recOf (h : List (BitVec 8)) (hs : List (List (BitVec 8))) (i : Nat) : List (BitVec 8) := wk (i : Int) (dg h i) (hs.getD i []) (15 - dg h i)
theorem Hl.range {w : World} {A : Option Addr} {lb lo : Nat} {hs : List (List (BitVec 8))} (h : Hl w A lb lo hs) (k : Nat) (x : List (BitVec 8)) (hk : hs[k]? = some x) : w.rangeAt lb (lo + k * 32) (x.map V) := by
  intro j v hj
  obtain ⟨_, hB⟩ := h.all k x hk
  have := hB.src x.length j v
  rw [List.take_of_length_le (Nat.le_refl _)] at this
  have h2 := this hj
  rw [Addr.add_mid] at h2
  exact h2
set_option maxHeartbeats 400000 in
theorem recover_ok (h : List (BitVec 8)) (A : Option Addr) (C lb lo : Nat) (hs : List (List (BitVec 8))) (w : World) (hh : h.length = 32) (hL : Hl w A lb lo hs) (h67 : hs.length = 67) (hK : Tab w) :
    Calls Tryd.prog 15 #[.agg (h.map V).toArray, .slice A 67 C] w fun e w' => e = .returned (.tuple #[.agg ((pub (all67 (recOf h hs))).map V).toArray, .int .i64 0]) ∧ Below w.heap.size w w' := by
  obtain rfl := hL.ptr (by omega)
  have hL0 := Box.mk hL
  clear hL
  have hmk := Tryd.make32
  go_enter Tryd.func15, Tryd.ntmps15
  go_upto_region 4 with fail
  clear hmk
  refine code_any (fun w1 => HasV w1 w.heap.size 23 h ∧ HasV w1 (w.heap.size + 1) 23 hz ∧ Rw w1 (w.heap.size + 1 + 1) (part67 (recOf h hs) 0) ∧ Below w.heap.size w w1) ?_ ?_
  · refine ⟨HasV.alloc (heap_alloc2_old _ _ _) _, HasV.alloc (T := 23) (xs := hz) (by exact heap_alloc2_new _ _ _) _, ?_, (((Below.refl _ _).alloc (Nat.le_refl _) _).alloc (by simp) _).alloc (by simp; omega) _⟩
    rw [part_zero]
    have := rw_new ((w.alloc (Obj.cells (List.map V h).toArray 23)).alloc (Obj.cells (hz.map V).toArray 23))
    rw [show ((w.alloc (Obj.cells (List.map V h).toArray 23)).alloc (Obj.cells (hz.map V).toArray 23)).heap.size = w.heap.size + 1 + 1 by simp] at this
    exact this
  rintro w1 ⟨hv1, hv2, hr, hb1⟩
  have hd := Box.mk (digits_at h w1 hh)
  have hv1' : Box (w1.heap[w.heap.size]? = some (.cells (h.map V).toArray 23 (0, 0))) := ⟨hv1⟩
  have hszh : Box ((h.map V).toArray.size = 32) := ⟨by simp [hh]⟩
  have hv1B := Box.mk hv2
  have hr1 := Box.mk hr
  have hgl := hr.lt
  clear hv1 hv2 hr
  go_wp2_with (first | (refine wpList_load_row rfl 23 (.tmp 2) rfl w.heap.size rfl 23 _ (0, 0) _ hv1'.out Tryd.under23 rfl (by rw [hszh.out]; exact Tryd.size23) ?_) | (go_at_call 8; refine hd.out.mono ?_; rintro e w2 ⟨c, b, rfl, hI, hgb, hb2⟩; have hI1 := Box.mk hI; have hr2 := Box.mk (hr1.out.below hb2); have hv2B := Box.mk (hv1B.out.below hb2 hv1B.out.lt); have hb3 := hb1.trans (hb2.mono hb1.size); clear hb2 hI))
  have hbne : b ≠ w.heap.size + 1 + 1 := by omega
  clear hd hv1' hr1 hgl hgb hb1
  go_loopw [17] (fun i wr => ∃ k : Nat, k ≤ 67 ∧ i = .int .i64 (k : Int) ∧ HasV wr (w.heap.size + 1) 23 hz ∧ Box (Is wr (some ⟨b, 0, none⟩) b 0 (dig h)) ∧ Box (Rw wr (w.heap.size + 1 + 1) (part67 (recOf h hs) k)) ∧ Below w.heap.size w wr) (fun i _ => 67 - (intOf i).toNat)
  case atStart => exact ⟨0, by omega, rfl, hv2B.out, hI1, hr2, hb3⟩
  case round =>
    clear hv2B hI1 hr2 hb3 hv1B
    obtain ⟨k, hk67, rfl, hv2, hI, hr, hb⟩ := hrel
    by_cases hlt : k < 67
    · have c0 := hI.out.cell k _ (dg_at h k hlt)
      rw [Nat.zero_add] at c0
      have hdl := dg_le h k
      have hat : hs[k]? = some (hs.getD k []) := by simp [show k < hs.length by omega]
      have hLr := hL0.out.below hb
      obtain ⟨hzl, _⟩ := hLr.all k _ hat
      have hrg := Box.mk (hLr.range k _ hat)
      have hW : Box (∀ w2, Tab w2 → Calls Tryd.prog 17 #[.agg ((hs.getD k []).map V).toArray, .int .i64 (k : Int), .int .i64 (dg h k : Int), .int .i64 15] w2 fun e w' => e = .returned (.agg ((recOf h hs k).map V).toArray) ∧ Below w2.heap.size w2 w') := ⟨fun w2 h2 => walk_any (hs.getD k []) k (dg h k) 15 w2 hzl (by omega) h2⟩
      have hel : (recOf h hs k).length = 32 := wk_len _ _ _ _ hzl
      have hP := Box.mk (part_set (recOf h hs) k)
      obtain ⟨y, hy⟩ : ∃ y, Box (recOf h hs k = y) := ⟨_, ⟨rfl⟩⟩
      rw [hy.out] at hW hel hP
      have hv2B := Box.mk hv2
      have hsy : Box ((y.map V).toArray.size = 32) := ⟨by simp [hel]⟩
      have hsz : Box (((hs.getD k []).map V).length = 32) := ⟨by rw [List.length_map]; exact hzl⟩
      have hpl := part_len (recOf h hs) k
      generalize hs.getD k [] = z at hW hrg hsz hzl hat
      generalize dg h k = d at c0 hdl hW
      clear hy hv2 hat hLr
      have hT := hK.below hb
      go_wp2_with (first | (refine wpList_load_mid rfl 23 (.tmp 26) rfl lb (lo + k * 32) rfl (z.map V) _ hrg.out Tryd.under23 rfl (by rw [hsz.out]; exact Tryd.size23) ?_) | (go_at_call 17; refine (hW.out wr hT).mono ?_; rintro e w3 ⟨rfl, hb4⟩; have hr3 := Box.mk (hr.out.below hb4); have hI3 := Box.mk (hI.out.below hb4); have hvA := Box.mk (hv2B.out.below hb4 hv2B.out.lt); have hb5 := Box.mk (hb.trans (hb4.mono hb.size)); clear hb4 hr hv2B hI hrg) | (refine wpList_store_mid rfl 23 (.tmp 31) (.tmp 30) rfl (w.heap.size + 1 + 1) (k * 32) (y.map V).toArray rfl rfl (by rw [hsy.out]; exact hr3.out.there k (by rw [hpl]; exact hlt)) (by rw [hsy.out]; exact Tryd.size23) (V_all _) ?_))
      refine ⟨⟨k + 1, by omega, by go_num, hvA.out.cells_other (by omega), ⟨hI3.out.cells_other hbne⟩, ⟨?_⟩, below_setCells (by omega) _ _ _ hb5.out⟩, by simp [intOf]; omega⟩
      rw [← hP.out]
      exact hr3.out.store k y (by rw [hpl]; exact hlt) hel
    · obtain rfl : k = 67 := by omega
      rw [part_all] at hr
      have hpb := Box.mk (pub_any (w.heap.size + 1 + 1) _ wr (all_len _) hr.out (hK.below hb))
      obtain ⟨y, hy⟩ : ∃ y, Box (pub (all67 (recOf h hs)) = y) := ⟨_, ⟨rfl⟩⟩
      have hyl : Box ((y.map V).toArray.size = 32) := ⟨by rw [← hy.out]; simp [pub_len]⟩
      rw [hy.out] at hpb
      have hv2B := Box.mk hv2
      clear hv2 hr hI
      go_wp2_with (first | (go_at_call 16; refine hpb.out.mono ?_; rintro e w2 ⟨rfl, hb2⟩; have hk2 : Box (w2.heap[w.heap.size + 1]? = some (.cells (hz.map V).toArray 23 (0, 0))) := ⟨hv2B.out.below hb2 hv2B.out.lt⟩; have hb5 := Box.mk (hb.trans (hb2.mono hb.size)); clear hb2) | (refine wpList_store_row rfl 23 (.tmp 4) (.tmp 34) rfl (w.heap.size + 1) (y.map V).toArray rfl rfl 23 _ hk2.out (by rw [hyl.out]; exact Tryd.size23) (by rw [hyl.out]; rfl) (V_all _) ?_))
      refine bodyPost_ret (v := .tuple #[.agg (y.map V).toArray, .int .i64 0]) ?_ rfl ⟨by rw [hy.out], ?_⟩
      · exact results_row_tmp (P := Tryd.prog) (fn := Tryd.f15) (p := 4) (u := 5) (ty := 23) rfl _ _ (w.heap.size + 1) 23 _ (0, 0) _ _ rfl (setRow_heap _ _ _ _ 23 (0, 0) hk2.out) Tryd.under23 rfl (by rw [hyl.out]; exact Tryd.size23) rfl
      · exact hb5.out.trans (below_setRow _ _ _ _ (by omega))
set_option maxHeartbeats 400000 in
theorem recover_no (h : List (BitVec 8)) (A : Option Addr) (n C : Nat) (w : World) (hn : n ≠ 67) :
    Calls Tryd.prog 15 #[.agg (h.map V).toArray, .slice A n C] w fun e w' => e = .returned (.tuple #[.agg (hz.map V).toArray, .int .i64 10]) ∧ Below w.heap.size w w' := by
  have hne : ((n : Int) != 67) = true := by simp; omega
  go_enter Tryd.func15, Tryd.ntmps15
  go_upto_region 1 with fail
  refine code_any (fun w1 => HasV w1 (w.heap.size + 1) 23 hz ∧ Below w.heap.size w w1) ?_ ?_
  · exact ⟨by exact heap_alloc2_new _ _ _, ((Below.refl _ _).alloc (Nat.le_refl _) _).alloc (by simp) _⟩
  rintro w1 ⟨hv2, hb1⟩
  have hk2 : Box (w1.heap[w.heap.size + 1]? = some (.cells (hz.map V).toArray 23 (0, 0))) := ⟨hv2⟩
  have hsz : Box ((hz.map V).toArray.size = 32) := ⟨by simp [hz_len]⟩
  clear hv2
  go_wp2_with (refine wpList_store_row rfl 23 (.tmp 4) (.tmp 12) rfl (w.heap.size + 1) (hz.map V).toArray rfl rfl 23 _ hk2.out (by rw [hsz.out]; exact Tryd.size23) (by rw [hsz.out]) (V_all _) ?_)
  refine bodyPost_ret (v := .tuple #[.agg (hz.map V).toArray, .int .i64 10]) ?_ rfl ⟨rfl, ?_⟩
  · exact results_row_tmp (P := Tryd.prog) (fn := Tryd.f15) (p := 4) (u := 5) (ty := 23) rfl _ _ (w.heap.size + 1) 23 _ (0, 0) _ _ rfl (setRow_heap _ _ _ _ 23 (0, 0) hk2.out) Tryd.under23 rfl (by rw [hsz.out]; exact Tryd.size23) rfl
  · exact hb1.trans (below_setRow _ _ _ _ (by omega))
end Go.Proofs.YthnaomkkaodbkaaDoor
