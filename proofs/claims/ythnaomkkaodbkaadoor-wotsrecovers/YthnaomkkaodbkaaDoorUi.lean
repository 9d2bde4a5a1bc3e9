/- What wots.Sign hands back. -/
import Derived.Test.YthnaomkkaodbkaaDoorUh
namespace Go.Proofs.YthnaomkkaodbkaaDoor
open Go.RowKit
/-- Digit i. -/
def dg (h : List (BitVec 8)) (i : Nat) : Nat := (dig h).getD i 0
theorem dg_at (h : List (BitVec 8)) (i : Nat) (hi : i < 67) : (dig h)[i]? = some (dg h i) := by
  have : i < (dig h).length := by rw [dig_len]; exact hi
  simp [dg, this]
theorem dg_le (h : List (BitVec 8)) (i : Nat) : dg h i ≤ 15 := by
  unfold dg
  cases e : (dig h)[i]? with
  | none => simp [e]
  | some d => simp [e]; exact dig_le h i d e
theorem Is.cells_other {w : World} {sp : Option Addr} {b o g off : Nat} {ds : List Nat} {vs : List Value} (h : Is w sp b o ds) (hne : b ≠ g) : Is (w.setCells g off vs) sp b o ds :=
  ⟨h.ptr, fun i d hi => by rw [World.cell?_setCells_out _ _ _ _ _ (fun e _ => absurd e hne)]; exact h.cell i d hi⟩
/-- What a signature has for chain i. -/
def sigOf (seed : List (BitVec 8)) (key : Nat) (h : List (BitVec 8)) (i : Nat) : List (BitVec 8) := wk (i : Int) 0 (sec seed key i) (dg h i)
theorem sigOf_len (seed : List (BitVec 8)) (key : Nat) (h : List (BitVec 8)) (i : Nat) : (sigOf seed key h i).length = 32 := wk_len _ _ _ _ (sec_len _ _ _)
set_option maxHeartbeats 400000 in
theorem sign_ok (seed : List (BitVec 8)) (key : Nat) (h : List (BitVec 8)) (w : World) (hx : seed.length = 32) (hh : h.length = 32) (hk : key ≤ 2147483647) (hK : Tab w) :
    Calls Tryd.prog 12 #[.agg (seed.map V).toArray, .int .i64 (key : Int), .agg (h.map V).toArray] w fun e w' => ∃ g, e = .returned (.tuple #[.slice (some ⟨g, 0, none⟩) 67 67, .int .i64 0]) ∧ Hl w' (some ⟨g, 0, none⟩) g 0 (all67 (sigOf seed key h)) ∧ w.heap.size ≤ g ∧ Below w.heap.size w w' := by
  have hmk := Tryd.make32
  have hky := Box.mk (fun w => iskey_yes key hk w)
  go_enter Tryd.func12, Tryd.ntmps12
  go_upto_region 4 with (go_at_call 20; refine (hky.out _).mono ?_; rintro e w2 ⟨rfl, rfl⟩)
  clear hmk hky
  refine code_any (fun w1 => HasV w1 w.heap.size 23 seed ∧ HasV w1 (w.heap.size + 1) 23 h ∧ Rw w1 (w.heap.size + 1 + 1) (part67 (sigOf seed key h) 0) ∧ Below w.heap.size w w1) ?_ ?_
  · refine ⟨HasV.alloc (heap_alloc2_old _ _ _) _, HasV.alloc (heap_alloc2_new _ _ _) _, ?_, (((Below.refl _ _).alloc (Nat.le_refl _) _).alloc (by simp) _).alloc (by simp; omega) _⟩
    rw [part_zero]
    have := rw_new ((w.alloc (Obj.cells (List.map V seed).toArray 23)).alloc (Obj.cells (h.map V).toArray 23))
    rw [show ((w.alloc (Obj.cells (List.map V seed).toArray 23)).alloc (Obj.cells (h.map V).toArray 23)).heap.size = w.heap.size + 1 + 1 by simp] at this
    exact this
  rintro w1 ⟨hv1, hv2, hr, hb1⟩
  have hd := Box.mk (digits_at h w1 hh)
  have hv2' : Box (w1.heap[w.heap.size + 1]? = some (.cells (h.map V).toArray 23 (0, 0))) := ⟨hv2⟩
  have hszh : Box ((h.map V).toArray.size = 32) := ⟨by simp [hh]⟩
  have hv1B := Box.mk hv1
  have hr1 := Box.mk hr
  have hgl := hr.lt
  clear hv1 hv2 hr
  go_wp2_with (first | (refine wpList_load_row rfl 23 (.tmp 5) rfl (w.heap.size + 1) rfl 23 _ (0, 0) _ hv2'.out Tryd.under23 rfl (by rw [hszh.out]; exact Tryd.size23) ?_) | (go_at_call 8; refine hd.out.mono ?_; rintro e w2 ⟨c, b, rfl, hI, hgb, hb2⟩; have hI1 := Box.mk hI; have hr2 := Box.mk (hr1.out.below hb2); have hv2B := Box.mk (hv1B.out.below hb2 hv1B.out.lt); have hb3 := hb1.trans (hb2.mono hb1.size); clear hb2 hI))
  have hbne : b ≠ w.heap.size + 1 + 1 := by omega
  clear hd hv2' hr1 hgl hgb hb1
  go_loopw [18] (fun i wr => ∃ k : Nat, k ≤ 67 ∧ i = .int .i64 (k : Int) ∧ HasV wr w.heap.size 23 seed ∧ Box (Is wr (some ⟨b, 0, none⟩) b 0 (dig h)) ∧ Box (Rw wr (w.heap.size + 1 + 1) (part67 (sigOf seed key h) k)) ∧ Below w.heap.size w wr) (fun i _ => 67 - (intOf i).toNat)
  case atStart => exact ⟨0, by omega, rfl, hv2B.out, hI1, hr2, hb3⟩
  case round =>
    clear hv2B hI1 hr2 hb3 hv1B
    obtain ⟨k, hk67, rfl, hv1, hI, hr, hb⟩ := hrel
    have hv1' : Box (wr.heap[w.heap.size]? = some (.cells (seed.map V).toArray 23 (0, 0))) := ⟨hv1⟩
    have hsz : Box ((seed.map V).toArray.size = 32) := ⟨by simp [hx]⟩
    by_cases hlt : k < 67
    · have c0 := hI.out.cell k _ (dg_at h k hlt)
      rw [Nat.zero_add] at c0
      have hdl := dg_le h k
      have hS := Box.mk (sec_any seed key k wr hx (hK.below hb))
      have hW : Box (∀ w2, Tab w2 → Calls Tryd.prog 17 #[.agg ((sec seed key k).map V).toArray, .int .i64 (k : Int), .int .i64 0, .int .i64 (dg h k : Int)] w2 fun e w' => e = .returned (.agg ((sigOf seed key h k).map V).toArray) ∧ Below w2.heap.size w2 w') := ⟨fun w2 h2 => walk_any (sec seed key k) k 0 (dg h k) w2 (sec_len _ _ _) hdl h2⟩
      have hel := sigOf_len seed key h k
      have hP := Box.mk (part_set (sigOf seed key h) k)
      obtain ⟨y, hy⟩ : ∃ y, Box (sigOf seed key h k = y) := ⟨_, ⟨rfl⟩⟩
      rw [hy.out] at hW hel hP
      have hv1B := Box.mk hv1
      have hsy : Box ((y.map V).toArray.size = 32) := ⟨by simp [hel]⟩
      have hpl := part_len (sigOf seed key h) k
      generalize sec seed key k = z at hS hW
      generalize dg h k = d at c0 hdl hW
      clear hy hv1
      have hT := hK.below hb
      go_wp2_with (first | (refine wpList_load_row rfl 23 (.tmp 3) rfl w.heap.size rfl 23 _ (0, 0) _ hv1'.out Tryd.under23 rfl (by rw [hsz.out]; exact Tryd.size23) ?_) | (go_at_call 14; refine hS.out.mono ?_; rintro e w2 ⟨rfl, hb2⟩; have hT2 := hT.below hb2) | (go_at_call 17; refine (hW.out w2 hT2).mono ?_; rintro e w3 ⟨rfl, hb3⟩; have hb4 : Below wr.heap.size wr w3 := hb2.trans (hb3.mono hb2.size); have hr3 := Box.mk (hr.out.below hb4); have hI3 := Box.mk (hI.out.below hb4); have hvA := Box.mk (hv1B.out.below hb4 hv1B.out.lt); have hb5 := Box.mk (hb.trans (hb4.mono hb.size)); clear hb4 hb3 hb2 hr hv1B hv1' hI) | (refine wpList_store_mid rfl 23 (.tmp 32) (.tmp 31) rfl (w.heap.size + 1 + 1) (k * 32) (y.map V).toArray rfl rfl (by rw [hsy.out]; exact hr3.out.there k (by rw [hpl]; exact hlt)) (by rw [hsy.out]; exact Tryd.size23) (V_all _) ?_))
      refine ⟨⟨k + 1, by omega, by go_num, hvA.out.cells_other (by omega), ⟨hI3.out.cells_other hbne⟩, ⟨?_⟩, below_setCells (by omega) _ _ _ hb5.out⟩, by simp [intOf]; omega⟩
      rw [← hP.out]
      exact hr3.out.store k y (by rw [hpl]; exact hlt) hel
    · obtain rfl : k = 67 := by omega
      rw [part_all] at hr
      clear hv1 hI hv1'
      go_wp2
      refine bodyPost_ret (v := .tuple #[.slice (some ⟨w.heap.size + 1 + 1, 0, none⟩) 67 67, .int .i64 0]) (by rw [results_tmp2 rfl]; rfl) rfl ⟨_, rfl, hr.out.hl, by omega, hb⟩
set_option maxHeartbeats 400000 in
theorem sign_no (seed : List (BitVec 8)) (key : Int) (h : List (BitVec 8)) (w : World) (hk : key < 0 ∨ 2147483647 < key) :
    Calls Tryd.prog 12 #[.agg (seed.map V).toArray, .int .i64 key, .agg (h.map V).toArray] w fun e w' => e = .returned (.tuple #[.slice none 0 0, .int .i64 11]) ∧ Below w.heap.size w w' := by
  have hky := Box.mk (fun w => iskey_no key hk w)
  clear hk
  go_enter Tryd.func12, Tryd.ntmps12
  go_wp2_with (go_at_call 20; refine (hky.out _).mono ?_; rintro e w2 ⟨rfl, hw2⟩; have hw2' := Box.mk hw2; clear hw2)
  refine bodyPost_ret (v := .tuple #[.slice none 0 0, .int .i64 11]) (by rw [results_tmp2 rfl]; rfl) rfl ⟨rfl, ?_⟩
  rw [hw2'.out]
  exact ((Below.refl _ _).alloc (Nat.le_refl _) _).alloc (by simp) _
end Go.Proofs.YthnaomkkaodbkaaDoor
