/- What wots.Sign hands back. What wots.Recover hands back. Walks over frames that are letters: the start, regions that are steps as a whole, stores and assignments behind steps. Slices of hashes of the call's own that grow by one: what is told of them, and append. Plain: a drawn region whose first operations come in any order, and whose last ones, in a chain, wait for them all. As in Pz; and variables that are made among the first operations are apart, whatever order is picked. A row of hashes that is written hash by hash. Secrets and ends; isKey. The bits of a hash: the function that is ranged over, at every body that keeps what lay below. -/
import Derived.Test.YtnanipeapjpkfaaDoorM3
import Derived.Laws.ResultCell
import Derived.RangeFuncNested
import Derived.RangeFuncBound
import Derived.RangeFuncCalls
import Derived.RangeFuncLeaves
import Derived.Shelf.Abstract
import Derived.Shelf.RegionOpen
import Derived.WalkKit
import Derived.OwnWalkIn
import Derived.TacticsInMore
import Derived.LoopNIn
import Derived.LoopIn
import Derived.Test.YtnanipeapjpkfaaDoorProg
namespace Go.Proofs.YtnanipeapjpkfaaDoor
set_option maxRecDepth 100000
open Go.RowKit
/-- Digit i. -/
def dg (h : List (BitVec 8)) (i : Nat) : Nat := (dig h).getD i 0
theorem dg_at (h : List (BitVec 8)) (i : Nat) (hi : i < 67) : (dig h)[i]? = some (dg h i) := by
  have : i < (dig h).length := by rw [dig_len]; exact hi
  simp [dg, this]
theorem dg_le (h : List (BitVec 8)) (i : Nat) : dg h i ≤ 15 := by
  unfold dg
  cases e : (dig h)[i]? with
  | none => simp [e]
  | some d => simp [e]; exact dig_le h i d e
theorem Is.cells_other {w : World} {sp : Option Addr} {b o g off : Nat} {ds : List Nat} {vs : List Value} (h : Is w sp b o ds) (hne : b ≠ g) : Is (w.setCells g off vs) sp b o ds :=
  ⟨h.ptr, fun i d hi => by rw [World.cell?_setCells_out _ _ _ _ _ (fun e _ => absurd e hne)]; exact h.cell i d hi⟩
/-- What a signature has for chain i. -/
def sigOf (seed : List (BitVec 8)) (key : Nat) (h : List (BitVec 8)) (i : Nat) : List (BitVec 8) := wk (i : Int) 0 (sec seed key i) (dg h i)
theorem sigOf_len (seed : List (BitVec 8)) (key : Nat) (h : List (BitVec 8)) (i : Nat) : (sigOf seed key h i).length = 32 := wk_len _ _ _ _ (sec_len _ _ _)
set_option maxHeartbeats 400000 in
theorem sign_ok (seed : List (BitVec 8)) (key : Nat) (h : List (BitVec 8)) (w : World) (hx : seed.length = 32) (hh : h.length = 32) (hk : key ≤ 2147483647) (hK : Tab w) :
    Calls Tryd.prog 16 #[.agg (seed.map V).toArray, .int .i64 (key : Int), .agg (h.map V).toArray] w fun e w' => ∃ g, e = .returned (.tuple #[.slice (some ⟨g, 0, none⟩) 67 67, .int .i64 0]) ∧ Hl w' (some ⟨g, 0, none⟩) g 0 (all67 (sigOf seed key h)) ∧ w.heap.size ≤ g ∧ Below w.heap.size w w' := by
  have hmk := Tryd.make32
  have hky := Box.mk (fun w => iskey_yes key hk w)
  go_enter Tryd.func16, Tryd.ntmps16
  go_upto_region 4 with (go_at_call 41; refine (hky.out _).mono ?_; rintro e w2 ⟨rfl, rfl⟩)
  clear hmk hky
  refine code_any (fun w1 => HasV w1 w.heap.size 23 seed ∧ HasV w1 (w.heap.size + 1) 23 h ∧ Rw w1 (w.heap.size + 1 + 1) (part67 (sigOf seed key h) 0) ∧ Below w.heap.size w w1) ?_ ?_
  · refine ⟨HasV.alloc (heap_alloc2_old _ _ _) _, HasV.alloc (heap_alloc2_new _ _ _) _, ?_, (((Below.refl _ _).alloc (Nat.le_refl _) _).alloc (by simp) _).alloc (by simp; omega) _⟩
    rw [part_zero]
    have := rw_new ((w.alloc (Obj.cells (List.map V seed).toArray 23)).alloc (Obj.cells (h.map V).toArray 23))
    rw [show ((w.alloc (Obj.cells (List.map V seed).toArray 23)).alloc (Obj.cells (h.map V).toArray 23)).heap.size = w.heap.size + 1 + 1 by simp] at this
    exact this
  rintro w1 ⟨hv1, hv2, hr, hb1⟩
  have hd := Box.mk (digits_at h w1 hh)
  have hv2' : Box (w1.heap[w.heap.size + 1]? = some (.cells (h.map V).toArray 23 (0, 0))) := ⟨hv2⟩
  have hszh : Box ((h.map V).toArray.size = 32) := ⟨by simp [hh]⟩
  have hv1B := Box.mk hv1
  have hr1 := Box.mk hr
  have hgl := hr.lt
  clear hv1 hv2 hr
  go_wp2_with (first | (refine wpList_load_row rfl 23 (.tmp 5) rfl (w.heap.size + 1) rfl 23 _ (0, 0) _ hv2'.out Tryd.under23 rfl (by rw [hszh.out]; exact Tryd.size23) ?_) | (go_at_call 42; refine hd.out.mono ?_; rintro e w2 ⟨c, b, rfl, hI, hgb, hb2⟩; have hI1 := Box.mk hI; have hr2 := Box.mk (hr1.out.below hb2); have hv2B := Box.mk (hv1B.out.below hb2 hv1B.out.lt); have hb3 := hb1.trans (hb2.mono hb1.size); clear hb2 hI))
  have hbne : b ≠ w.heap.size + 1 + 1 := by omega
  clear hd hv2' hr1 hgl hgb hb1
  go_loopw [18] (fun i wr => ∃ k : Nat, k ≤ 67 ∧ i = .int .i64 (k : Int) ∧ HasV wr w.heap.size 23 seed ∧ Box (Is wr (some ⟨b, 0, none⟩) b 0 (dig h)) ∧ Box (Rw wr (w.heap.size + 1 + 1) (part67 (sigOf seed key h) k)) ∧ Below w.heap.size w wr) (fun i _ => 67 - (intOf i).toNat)
  case atStart => exact ⟨0, by omega, rfl, hv2B.out, hI1, hr2, hb3⟩
  case round =>
    clear hv2B hI1 hr2 hb3 hv1B
    obtain ⟨k, hk67, rfl, hv1, hI, hr, hb⟩ := hrel
    have hv1' : Box (wr.heap[w.heap.size]? = some (.cells (seed.map V).toArray 23 (0, 0))) := ⟨hv1⟩
    have hsz : Box ((seed.map V).toArray.size = 32) := ⟨by simp [hx]⟩
    by_cases hlt : k < 67
    · have c0 := hI.out.cell k _ (dg_at h k hlt)
      rw [Nat.zero_add] at c0
      have hdl := dg_le h k
      have hS := Box.mk (sec_any seed key k wr hx (hK.below hb))
      have hW : Box (∀ w2, Tab w2 → Calls Tryd.prog 43 #[.agg ((sec seed key k).map V).toArray, .int .i64 (k : Int), .int .i64 0, .int .i64 (dg h k : Int)] w2 fun e w' => e = .returned (.agg ((sigOf seed key h k).map V).toArray) ∧ Below w2.heap.size w2 w') := ⟨fun w2 h2 => walk_any (sec seed key k) k 0 (dg h k) w2 (sec_len _ _ _) hdl h2⟩
      have hel := sigOf_len seed key h k
      have hP := Box.mk (part_set (sigOf seed key h) k)
      obtain ⟨y, hy⟩ : ∃ y, Box (sigOf seed key h k = y) := ⟨_, ⟨rfl⟩⟩
      rw [hy.out] at hW hel hP
      have hv1B := Box.mk hv1
      have hsy : Box ((y.map V).toArray.size = 32) := ⟨by simp [hel]⟩
      have hpl := part_len (sigOf seed key h) k
      generalize sec seed key k = z at hS hW
      generalize dg h k = d at c0 hdl hW
      clear hy hv1
      have hT := hK.below hb
      go_wp2_with (first | (refine wpList_load_row rfl 23 (.tmp 3) rfl w.heap.size rfl 23 _ (0, 0) _ hv1'.out Tryd.under23 rfl (by rw [hsz.out]; exact Tryd.size23) ?_) | (go_at_call 44; refine hS.out.mono ?_; rintro e w2 ⟨rfl, hb2⟩; have hT2 := hT.below hb2) | (go_at_call 43; refine (hW.out w2 hT2).mono ?_; rintro e w3 ⟨rfl, hb3⟩; have hb4 : Below wr.heap.size wr w3 := hb2.trans (hb3.mono hb2.size); have hr3 := Box.mk (hr.out.below hb4); have hI3 := Box.mk (hI.out.below hb4); have hvA := Box.mk (hv1B.out.below hb4 hv1B.out.lt); have hb5 := Box.mk (hb.trans (hb4.mono hb.size)); clear hb4 hb3 hb2 hr hv1B hv1' hI) | (refine wpList_store_mid rfl 23 (.tmp 32) (.tmp 31) rfl (w.heap.size + 1 + 1) (k * 32) (y.map V).toArray rfl rfl (by rw [hsy.out]; exact hr3.out.there k (by rw [hpl]; exact hlt)) (by rw [hsy.out]; exact Tryd.size23) (V_all _) ?_))
      refine ⟨⟨k + 1, by omega, by go_num, hvA.out.cells_other (by omega), ⟨hI3.out.cells_other hbne⟩, ⟨?_⟩, below_setCells (by omega) _ _ _ hb5.out⟩, by simp [intOf]; omega⟩
      rw [← hP.out]
      exact hr3.out.store k y (by rw [hpl]; exact hlt) hel
    · obtain rfl : k = 67 := by omega
      rw [part_all] at hr
      clear hv1 hI hv1'
      go_wp2
      refine bodyPost_ret (v := .tuple #[.slice (some ⟨w.heap.size + 1 + 1, 0, none⟩) 67 67, .int .i64 0]) (by rw [results_tmp2 rfl]; rfl) rfl ⟨_, rfl, hr.out.hl, by omega, hb⟩
set_option maxHeartbeats 400000 in
theorem sign_no (seed : List (BitVec 8)) (key : Int) (h : List (BitVec 8)) (w : World) (hk : key < 0 ∨ 2147483647 < key) :
    Calls Tryd.prog 16 #[.agg (seed.map V).toArray, .int .i64 key, .agg (h.map V).toArray] w fun e w' => e = .returned (.tuple #[.slice none 0 0, .int .i64 11]) ∧ Below w.heap.size w w' := by
  have hky := Box.mk (fun w => iskey_no key hk w)
  clear hk
  go_enter Tryd.func16, Tryd.ntmps16
  go_wp2_with (go_at_call 41; refine (hky.out _).mono ?_; rintro e w2 ⟨rfl, hw2⟩; have hw2' := Box.mk hw2; clear hw2)
  refine bodyPost_ret (v := .tuple #[.slice none 0 0, .int .i64 11]) (by rw [results_tmp2 rfl]; rfl) rfl ⟨rfl, ?_⟩
  rw [hw2'.out]
  exact ((Below.refl _ _).alloc (Nat.le_refl _) _).alloc (by simp) _
end Go.Proofs.YtnanipeapjpkfaaDoor
namespace Go.Proofs.YtnanipeapjpkfaaDoor
set_option maxRecDepth 100000
open Go.RowKit
/-- The end that chain i of a signature leads to. -/
def recOf (h : List (BitVec 8)) (hs : List (List (BitVec 8))) (i : Nat) : List (BitVec 8) := wk (i : Int) (dg h i) (hs.getD i []) (15 - dg h i)
theorem Hl.range {w : World} {A : Option Addr} {lb lo : Nat} {hs : List (List (BitVec 8))} (h : Hl w A lb lo hs) (k : Nat) (x : List (BitVec 8)) (hk : hs[k]? = some x) : w.rangeAt lb (lo + k * 32) (x.map V) := by
  intro j v hj
  obtain ⟨_, hB⟩ := h.all k x hk
  have := hB.src x.length j v
  rw [List.take_of_length_le (Nat.le_refl _)] at this
  have h2 := this hj
  rw [Addr.add_mid] at h2
  exact h2
set_option maxHeartbeats 400000 in
theorem recover_ok (h : List (BitVec 8)) (A : Option Addr) (C lb lo : Nat) (hs : List (List (BitVec 8))) (w : World) (hh : h.length = 32) (hL : Hl w A lb lo hs) (h67 : hs.length = 67) (hK : Tab w) :
    Calls Tryd.prog 22 #[.agg (h.map V).toArray, .slice A 67 C] w fun e w' => e = .returned (.tuple #[.agg ((pub (all67 (recOf h hs))).map V).toArray, .int .i64 0]) ∧ Below w.heap.size w w' := by
  obtain rfl := hL.ptr (by omega)
  have hL0 := Box.mk hL
  clear hL
  have hmk := Tryd.make32
  go_enter Tryd.func22, Tryd.ntmps22
  go_upto_region 4 with fail
  clear hmk
  refine code_any (fun w1 => HasV w1 w.heap.size 23 h ∧ HasV w1 (w.heap.size + 1) 23 hz ∧ Rw w1 (w.heap.size + 1 + 1) (part67 (recOf h hs) 0) ∧ Below w.heap.size w w1) ?_ ?_
  · refine ⟨HasV.alloc (heap_alloc2_old _ _ _) _, HasV.alloc (T := 23) (xs := hz) (by exact heap_alloc2_new _ _ _) _, ?_, (((Below.refl _ _).alloc (Nat.le_refl _) _).alloc (by simp) _).alloc (by simp; omega) _⟩
    rw [part_zero]
    have := rw_new ((w.alloc (Obj.cells (List.map V h).toArray 23)).alloc (Obj.cells (hz.map V).toArray 23))
    rw [show ((w.alloc (Obj.cells (List.map V h).toArray 23)).alloc (Obj.cells (hz.map V).toArray 23)).heap.size = w.heap.size + 1 + 1 by simp] at this
    exact this
  rintro w1 ⟨hv1, hv2, hr, hb1⟩
  have hd := Box.mk (digits_at h w1 hh)
  have hv1' : Box (w1.heap[w.heap.size]? = some (.cells (h.map V).toArray 23 (0, 0))) := ⟨hv1⟩
  have hszh : Box ((h.map V).toArray.size = 32) := ⟨by simp [hh]⟩
  have hv1B := Box.mk hv2
  have hr1 := Box.mk hr
  have hgl := hr.lt
  clear hv1 hv2 hr
  go_wp2_with (first | (refine wpList_load_row rfl 23 (.tmp 2) rfl w.heap.size rfl 23 _ (0, 0) _ hv1'.out Tryd.under23 rfl (by rw [hszh.out]; exact Tryd.size23) ?_) | (go_at_call 42; refine hd.out.mono ?_; rintro e w2 ⟨c, b, rfl, hI, hgb, hb2⟩; have hI1 := Box.mk hI; have hr2 := Box.mk (hr1.out.below hb2); have hv2B := Box.mk (hv1B.out.below hb2 hv1B.out.lt); have hb3 := hb1.trans (hb2.mono hb1.size); clear hb2 hI))
  have hbne : b ≠ w.heap.size + 1 + 1 := by omega
  clear hd hv1' hr1 hgl hgb hb1
  go_loopw [17] (fun i wr => ∃ k : Nat, k ≤ 67 ∧ i = .int .i64 (k : Int) ∧ HasV wr (w.heap.size + 1) 23 hz ∧ Box (Is wr (some ⟨b, 0, none⟩) b 0 (dig h)) ∧ Box (Rw wr (w.heap.size + 1 + 1) (part67 (recOf h hs) k)) ∧ Below w.heap.size w wr) (fun i _ => 67 - (intOf i).toNat)
  case atStart => exact ⟨0, by omega, rfl, hv2B.out, hI1, hr2, hb3⟩
  case round =>
    clear hv2B hI1 hr2 hb3 hv1B
    obtain ⟨k, hk67, rfl, hv2, hI, hr, hb⟩ := hrel
    by_cases hlt : k < 67
    · have c0 := hI.out.cell k _ (dg_at h k hlt)
      rw [Nat.zero_add] at c0
      have hdl := dg_le h k
      have hat : hs[k]? = some (hs.getD k []) := by simp [show k < hs.length by omega]
      have hLr := hL0.out.below hb
      obtain ⟨hzl, _⟩ := hLr.all k _ hat
      have hrg := Box.mk (hLr.range k _ hat)
      have hW : Box (∀ w2, Tab w2 → Calls Tryd.prog 43 #[.agg ((hs.getD k []).map V).toArray, .int .i64 (k : Int), .int .i64 (dg h k : Int), .int .i64 15] w2 fun e w' => e = .returned (.agg ((recOf h hs k).map V).toArray) ∧ Below w2.heap.size w2 w') := ⟨fun w2 h2 => walk_any (hs.getD k []) k (dg h k) 15 w2 hzl (by omega) h2⟩
      have hel : (recOf h hs k).length = 32 := wk_len _ _ _ _ hzl
      have hP := Box.mk (part_set (recOf h hs) k)
      obtain ⟨y, hy⟩ : ∃ y, Box (recOf h hs k = y) := ⟨_, ⟨rfl⟩⟩
      rw [hy.out] at hW hel hP
      have hv2B := Box.mk hv2
      have hsy : Box ((y.map V).toArray.size = 32) := ⟨by simp [hel]⟩
      have hsz : Box (((hs.getD k []).map V).length = 32) := ⟨by rw [List.length_map]; exact hzl⟩
      have hpl := part_len (recOf h hs) k
      generalize hs.getD k [] = z at hW hrg hsz hzl hat
      generalize dg h k = d at c0 hdl hW
      clear hy hv2 hat hLr
      have hT := hK.below hb
      go_wp2_with (first | (refine wpList_load_mid rfl 23 (.tmp 26) rfl lb (lo + k * 32) rfl (z.map V) _ hrg.out Tryd.under23 rfl (by rw [hsz.out]; exact Tryd.size23) ?_) | (go_at_call 43; refine (hW.out wr hT).mono ?_; rintro e w3 ⟨rfl, hb4⟩; have hr3 := Box.mk (hr.out.below hb4); have hI3 := Box.mk (hI.out.below hb4); have hvA := Box.mk (hv2B.out.below hb4 hv2B.out.lt); have hb5 := Box.mk (hb.trans (hb4.mono hb.size)); clear hb4 hr hv2B hI hrg) | (refine wpList_store_mid rfl 23 (.tmp 31) (.tmp 30) rfl (w.heap.size + 1 + 1) (k * 32) (y.map V).toArray rfl rfl (by rw [hsy.out]; exact hr3.out.there k (by rw [hpl]; exact hlt)) (by rw [hsy.out]; exact Tryd.size23) (V_all _) ?_))
      refine ⟨⟨k + 1, by omega, by go_num, hvA.out.cells_other (by omega), ⟨hI3.out.cells_other hbne⟩, ⟨?_⟩, below_setCells (by omega) _ _ _ hb5.out⟩, by simp [intOf]; omega⟩
      rw [← hP.out]
      exact hr3.out.store k y (by rw [hpl]; exact hlt) hel
    · obtain rfl : k = 67 := by omega
      rw [part_all] at hr
      have hpb := Box.mk (pub_any (w.heap.size + 1 + 1) _ wr (all_len _) hr.out (hK.below hb))
      obtain ⟨y, hy⟩ : ∃ y, Box (pub (all67 (recOf h hs)) = y) := ⟨_, ⟨rfl⟩⟩
      have hyl : Box ((y.map V).toArray.size = 32) := ⟨by rw [← hy.out]; simp [pub_len]⟩
      rw [hy.out] at hpb
      have hv2B := Box.mk hv2
      clear hv2 hr hI
      go_wp2_with (first | (go_at_call 52; refine hpb.out.mono ?_; rintro e w2 ⟨rfl, hb2⟩; have hk2 : Box (w2.heap[w.heap.size + 1]? = some (.cells (hz.map V).toArray 23 (0, 0))) := ⟨hv2B.out.below hb2 hv2B.out.lt⟩; have hb5 := Box.mk (hb.trans (hb2.mono hb.size)); clear hb2) | (refine wpList_store_row rfl 23 (.tmp 4) (.tmp 34) rfl (w.heap.size + 1) (y.map V).toArray rfl rfl 23 _ hk2.out (by rw [hyl.out]; exact Tryd.size23) (by rw [hyl.out]; rfl) (V_all _) ?_))
      refine bodyPost_ret (v := .tuple #[.agg (y.map V).toArray, .int .i64 0]) ?_ rfl ⟨by rw [hy.out], ?_⟩
      · exact results_row_tmp (P := Tryd.prog) (fn := Tryd.f22) (p := 4) (u := 5) (ty := 23) rfl _ _ (w.heap.size + 1) 23 _ (0, 0) _ _ rfl (setRow_heap _ _ _ _ 23 (0, 0) hk2.out) Tryd.under23 rfl (by rw [hyl.out]; exact Tryd.size23) rfl
      · exact hb5.out.trans (below_setRow _ _ _ _ (by omega))
set_option maxHeartbeats 400000 in
theorem recover_no (h : List (BitVec 8)) (A : Option Addr) (n C : Nat) (w : World) (hn : n ≠ 67) :
    Calls Tryd.prog 22 #[.agg (h.map V).toArray, .slice A n C] w fun e w' => e = .returned (.tuple #[.agg (hz.map V).toArray, .int .i64 10]) ∧ Below w.heap.size w w' := by
  have hne : ((n : Int) != 67) = true := by simp; omega
  go_enter Tryd.func22, Tryd.ntmps22
  go_upto_region 1 with fail
  refine code_any (fun w1 => HasV w1 (w.heap.size + 1) 23 hz ∧ Below w.heap.size w w1) ?_ ?_
  · exact ⟨by exact heap_alloc2_new _ _ _, ((Below.refl _ _).alloc (Nat.le_refl _) _).alloc (by simp) _⟩
  rintro w1 ⟨hv2, hb1⟩
  have hk2 : Box (w1.heap[w.heap.size + 1]? = some (.cells (hz.map V).toArray 23 (0, 0))) := ⟨hv2⟩
  have hsz : Box ((hz.map V).toArray.size = 32) := ⟨by simp [hz_len]⟩
  clear hv2
  go_wp2_with (refine wpList_store_row rfl 23 (.tmp 4) (.tmp 12) rfl (w.heap.size + 1) (hz.map V).toArray rfl rfl 23 _ hk2.out (by rw [hsz.out]; exact Tryd.size23) (by rw [hsz.out]) (V_all _) ?_)
  refine bodyPost_ret (v := .tuple #[.agg (hz.map V).toArray, .int .i64 10]) ?_ rfl ⟨rfl, ?_⟩
  · exact results_row_tmp (P := Tryd.prog) (fn := Tryd.f22) (p := 4) (u := 5) (ty := 23) rfl _ _ (w.heap.size + 1) 23 _ (0, 0) _ _ rfl (setRow_heap _ _ _ _ 23 (0, 0) hk2.out) Tryd.under23 rfl (by rw [hsz.out]; exact Tryd.size23) rfl
  · exact hb1.trans (below_setRow _ _ _ _ (by omega))
end Go.Proofs.YtnanipeapjpkfaaDoor
namespace Go.Proofs.YtnanipeapjpkfaaDoor
set_option maxRecDepth 100000
open Go.RowKit
theorem walk_to (xs : List (BitVec 8)) (c : Int) (f t : Nat) (w : World) (hx : xs.length = 32) (ht : t ≤ 15) (hK : Tab w) {y : List (BitVec 8)} (hy : Box (wk c f xs (t - f) = y)) :
    Calls Tryd.prog 43 #[.agg (xs.map V).toArray, .int .i64 c, .int .i64 f, .int .i64 t] w fun e w' => e = .returned (.agg (y.map V).toArray) ∧ Below w.heap.size w w' := by
  rw [← hy.out]; exact walk_any xs c f t w hx ht hK
theorem chn_to (xs : List (BitVec 8)) (m n : Int) (w : World) (hx : xs.length = 32) (hK : Tab w) {y : List (BitVec 8)} (hy : Box (chn m n xs = y)) :
    Calls Tryd.prog 64 #[.agg (xs.map V).toArray, .int .i64 m, .int .i64 n] w fun e w' => e = .returned (.agg (y.map V).toArray) ∧ Below w.heap.size w w' := by
  rw [← hy.out]; exact chn_any xs m n w hx hK
theorem sec_to (xs : List (BitVec 8)) (m n : Int) (w : World) (hx : xs.length = 32) (hK : Tab w) {y : List (BitVec 8)} (hy : Box (sec xs m n = y)) :
    Calls Tryd.prog 44 #[.agg (xs.map V).toArray, .int .i64 m, .int .i64 n] w fun e w' => e = .returned (.agg (y.map V).toArray) ∧ Below w.heap.size w w' := by
  rw [← hy.out]; exact sec_any xs m n w hx hK
theorem then_ret {K : Act → World → Prop} {Q : Exit → Act → World → Prop} {a : Act} {w : World} (h : Q .ret a w) : Exit.then K Q .ret a w := h
theorem block_ret {id : Nat} {Q : Exit → Act → World → Prop} {a : Act} {w : World} (h : Q .ret a w) : Exit.inBlock id Q .ret a w := h
theorem code_both {P : Program} {c : Code} {Q : Exit → Act → World → Prop} {a : Act} {w : World} (F : Act → World → Prop) (h0 : F a w) (h : ∀ f w, F f w → Code.wp P c Q f w) : Code.wp P c Q a w := h a w h0
theorem f_at {q : Fk} {a b : Act} {x y : Operand} {w : World} (h : a.eval x = b.eval y) (hq : q.f (b.eval y) w) : q.f (a.eval x) w := by rw [h]; exact hq
theorem wp_all {P : Program} {Q : Exit → Act → World → Prop} {ops : Array Oper} {id : Nat} {a0 : Act} {w : World} (qs : List Fk) (hm : P.follows .mixedOrders = true) (hn : decide (qs.length = ops.size) = true) (hE : edgesOk ops.toList qs.length = true)
    (hD : dstsOk a0.tmps.size (ops.toList.take qs.length) = true) (hG : guardsOk ops.toList qs.length qs ops.toList qs = true)
    (hS : Steps P Q ops.toList qs.length qs a0 w ops.toList qs)
    (hF : ∀ af w', Final ops.toList qs a0 af w' → Below w.heap.size w w' → Q .normal af w') :
    (Code.region id ops true).wp P Q a0 w := by
  have hn' : qs.length = ops.size := of_decide_eq_true hn
  refine wp_region_end qs hm (decide_eq_true (by omega)) hE hD hG hS ?_
  intro af w' fin hb
  rw [List.drop_of_length_le (by simp; omega)]
  exact hF af w' fin hb
theorem wp_all_seq {P : Program} {Q : Exit → Act → World → Prop} {ops : Array Oper} {id : Nat} {a0 : Act} {w : World} (qs : List Fk) (hn : decide (qs.length = ops.size) = true) (hE : backOk ops.toList = true)
    (hD : dstsOk a0.tmps.size (ops.toList.take qs.length) = true) (hG : guardsOk ops.toList qs.length qs ops.toList qs = true)
    (hS : Steps P Q ops.toList qs.length qs a0 w ops.toList qs)
    (hF : ∀ af w', Final ops.toList qs a0 af w' → Below w.heap.size w w' → Q .normal af w') :
    (Code.region id ops false).wp P Q a0 w := by
  have hn' : qs.length = ops.size := of_decide_eq_true hn
  refine wp_region_seq qs (decide_eq_true (by omega)) hE hD hG hS ?_
  intro af w' fin hb
  rw [List.drop_of_length_le (by simp; omega)]
  exact hF af w' fin hb
/-- A pointer to a hash variable that is new. -/
def Fk.pn (g0 : Nat) (xs : List (BitVec 8)) : Fk := .inr (.inl ⟨fun v w => ∃ g, g0 ≤ g ∧ v = .pointer (some ⟨g, 0, none⟩) ∧ HasV w g 23 xs, by
  rintro v w w' ⟨g, h, e, hv⟩ hb
  exact ⟨g, h, e, hv.below hb hv.lt⟩⟩)
section
variable {Q : Exit → Act → World → Prop} {o : Oper} {a : Act} {w : World} {q : Fk} {ops : Array Oper} {rest : List Oper}
theorem Tryd.alloc23 (ρ : Operand → Value) (d : Option Tmp) (ty : TypeId) (pos : String) (aft : Array Edge) (gd : Option (Nat × Bool)) (w : World) : (execOp ρ ⟨d, .alloc 23, ty, pos, aft, gd⟩).run Tryd.prog w = .ok (.value (.pointer (some ⟨w.heap.size, 0, none⟩))) (w.alloc (.cells (hz.map V).toArray 23)) := by kernel_rfl
theorem st_alloc23 (ho : o.op = .alloc 23) (g0 : Nat) (hg : g0 ≤ w.heap.size) : o.wp Tryd.prog a w (Ends a o.dst w (Fk.pn g0 hz).f) Q := by
  refine st_run (v := .pointer (some ⟨w.heap.size, 0, none⟩)) (w' := w.alloc (.cells (hz.map V).toArray 23)) ?_ ((Below.refl _ _).alloc (Nat.le_refl _) _) ⟨w.heap.size, hg, rfl, heap_alloc_new _ _⟩
  obtain ⟨d, op, ty, pos, aft, gd⟩ := o
  subst ho
  exact Tryd.alloc23 _ _ _ _ _ _ _
theorem wl_store (hgd : o.guard = none) (x y : Operand) (ho : o.op = .store 23 x y) (hd : o.dst = none) (g : Nat) (zs ys : List (BitVec 8)) (hx : a.eval x = .pointer (some ⟨g, 0, none⟩)) (hy : a.eval y = .agg (zs.map V).toArray) (hv : HasV w g 23 ys) (hl : ys.length = 32) (hz : zs.length = 32)
    (h : wpList Tryd.prog ops Q rest a (w.setRow g (zs.map V).toArray)) : wpList Tryd.prog ops Q (o :: rest) a w := by
  refine wpList_store_row hgd 23 x y ho g (zs.map V).toArray hx hy 23 _ hv (by rw [List.size_toArray, List.length_map, hz]; exact Tryd.size23) (by simp [hl, hz]) (V_all _) ?_
  rw [hd]
  exact h
theorem wl_assign {P : Program} (hgd : o.guard = none) (x : Operand) (ho : o.op = .assign x) (d : Nat) (hd : o.dst = some d) (hsz : d < a.tmps.size)
    (h : ∀ a2, a2.defers = a.defers → a2.tmps.size = a.tmps.size → (∀ t, (t == d) = false → a2.eval (.tmp t) = a.eval (.tmp t)) → a2.eval (.tmp d) = a.eval x → wpList P ops Q rest a2 w) : wpList P ops Q (o :: rest) a w := by
  unfold wpList
  rw [if_pos (by unfold Region.wanted; rw [hgd])]
  refine .inl ?_
  unfold Oper.wp execOp
  rw [ho]
  refine h _ (put_def _ _ _) (put_size _ _ _) (fun t ht => ?_) ?_
  · rw [hd]
    exact put_eval_other _ _ _ _ (fun e => by subst e; simp at ht)
  · rw [hd]
    exact put_eval_same _ _ _ hsz
end
end Go.Proofs.YtnanipeapjpkfaaDoor
namespace Go.Proofs.YtnanipeapjpkfaaDoor
set_option maxRecDepth 100000
open Go.RowKit
theorem Tryd.build32x (x0 x1 x2 x3 x4 x5 x6 x7 x8 x9 x10 x11 x12 x13 x14 x15 x16 x17 x18 x19 x20 x21 x22 x23 x24 x25 x26 x27 x28 x29 x30 x31 : BitVec 8) (w : World) : (Instr.buildSlice 32 1 #[(0, .agg ([x0, x1, x2, x3, x4, x5, x6, x7, x8, x9, x10, x11, x12, x13, x14, x15, x16, x17, x18, x19, x20, x21, x22, x23, x24, x25, x26, x27, x28, x29, x30, x31].map V).toArray)]).run Tryd.prog w = .ok (.slice (some ⟨w.heap.size, 0, none⟩) 1 1) (w.alloc (.cells ([x0, x1, x2, x3, x4, x5, x6, x7, x8, x9, x10, x11, x12, x13, x14, x15, x16, x17, x18, x19, x20, x21, x22, x23, x24, x25, x26, x27, x28, x29, x30, x31].map V).toArray 23)) := by kernel_rfl
theorem Tryd.build32 (hh : List (BitVec 8)) (h : hh.length = 32) (w : World) : (Instr.buildSlice 32 1 #[(0, .agg (hh.map V).toArray)]).run Tryd.prog w = .ok (.slice (some ⟨w.heap.size, 0, none⟩) 1 1) (w.alloc (.cells (hh.map V).toArray 23)) := by
  match hh, h with
  | [x0, x1, x2, x3, x4, x5, x6, x7, x8, x9, x10, x11, x12, x13, x14, x15, x16, x17, x18, x19, x20, x21, x22, x23, x24, x25, x26, x27, x28, x29, x30, x31], _ => exact Tryd.build32x x0 x1 x2 x3 x4 x5 x6 x7 x8 x9 x10 x11 x12 x13 x14 x15 x16 x17 x18 x19 x20 x21 x22 x23 x24 x25 x26 x27 x28 x29 x30 x31 w
theorem hl_one {w : World} {g : Nat} {hh : List (BitVec 8)} (hv : HasV w g 23 hh) (h : hh.length = 32) : Hl w (some ⟨g, 0, none⟩) g 0 [hh] :=
  ⟨fun _ => rfl, fun _ => hv.lt, fun i x hi => by
    cases i with
    | zero =>
      obtain rfl : hh = x := by simpa using hi
      exact ⟨h, hv.bytes⟩
    | succ i => simp at hi⟩
/-- A slice of the call's own that has the hashes hs; its row lies at base or behind it. -/
def Fk.ow (base : Nat) (hs : List (List (BitVec 8))) : Fk := .inr (.inl ⟨fun v w => w.ownsRow base 23 32 v hs.length (hs.flatten.map V) ∧ ∀ (i : Nat) (x : List (BitVec 8)), hs[i]? = some x → x.length = 32, by
  rintro v w w' ⟨⟨h1, h2⟩, h3⟩ hb
  refine ⟨⟨h1, ?_⟩, h3⟩
  rcases h2 with h2 | ⟨g, cap, cur, e, hbg, hg, r⟩
  · exact .inl h2
  · exact .inr ⟨g, cap, cur, e, hbg, by rw [hb.block g (Array.getElem?_eq_some_iff.1 hg).1]; exact hg, r⟩⟩)
theorem flat_at : ∀ (hs : List (List (BitVec 8))), (∀ (i : Nat) (x : List (BitVec 8)), hs[i]? = some x → x.length = 32) → ∀ (i : Nat) (x : List (BitVec 8)), hs[i]? = some x → ∀ j, j < 32 → hs.flatten[i * 32 + j]? = x[j]?
  | [], _, i, x, hi, _, _ => by simp at hi
  | y :: r, hl, i, x, hi, j, hj => by
    have hy := hl 0 y rfl
    rw [List.flatten_cons]
    cases i with
    | zero =>
      obtain rfl : y = x := by simpa using hi
      rw [List.getElem?_append_left (by omega), Nat.zero_mul, Nat.zero_add]
    | succ i =>
      rw [List.getElem?_append_right (by omega), hy, show (i + 1) * 32 + j - 32 = i * 32 + j by omega]
      exact flat_at r (fun i x h => hl (i + 1) x (by simpa using h)) i x (by simpa using hi) j hj
theorem ow_hs {base : Nat} {hs : List (List (BitVec 8))} {v : Value} {w : World} (h : (Fk.ow base hs).f v w) : (Fk.hs hs).f v w := by
  obtain ⟨⟨h1, h2⟩, h3⟩ := h
  rcases h2 with ⟨rfl, hn⟩ | ⟨g, cap, cur, rfl, hbg, hg, hnc, _, hcs, ht⟩
  · have : hs = [] := List.eq_nil_of_length_eq_zero hn
    subst this
    exact ⟨none, 0, 0, 0, rfl, fun h => by simp at h, fun h => by simp at h, fun i x hi => by simp at hi⟩
  · refine ⟨_, cap, g, 0, rfl, fun _ => rfl, fun _ => (Array.getElem?_eq_some_iff.1 hg).1, fun i x hi => ⟨h3 i x hi, fun j hj => ?_⟩⟩
    have hil : i < hs.length := (List.getElem?_eq_some_iff.1 hi).1
    rw [h3 i x hi] at hj
    rw [cell_of_row _ _ _ _ _ _ hg, Nat.zero_add]
    have e := congrArg (·[i * 32 + j]?) ht
    simp only [List.getElem?_take, List.getElem?_map, flat_at hs h3 i x hi j hj] at e
    rw [if_pos (by omega), Array.getElem?_toList] at e
    rw [e]
    have : j < x.length := by rw [h3 i x hi]; exact hj
    simp [this, V]
theorem ow_nil (base : Nat) (w : World) : (Fk.ow base []).f (.slice none 0 0) w := ⟨World.ownsRow_nil _ _ _ _, fun i x hi => by simp at hi⟩
section
variable {Q : Exit → Act → World → Prop} {o : Oper} {a : Act} {w : World} {q : Fk} {ops : Array Oper} {rest : List Oper}
theorem st_bh1 (x : Operand) (ho : o.op = .buildSlice 32 1 #[(0, x)]) {hh : List (BitVec 8)} (hl : hh.length = 32) (hx : a.eval x = .agg (hh.map V).toArray) : o.wp Tryd.prog a w (Ends a o.dst w (Fk.hs [hh]).f) Q := by
  refine st_run (v := .slice (some ⟨w.heap.size, 0, none⟩) 1 1) (w' := w.alloc (.cells (hh.map V).toArray 23)) ?_ ((Below.refl _ _).alloc (Nat.le_refl _) _) ⟨_, 1, w.heap.size, 0, rfl, hl_one (heap_alloc_new _ _) hl⟩
  have := Tryd.build32 hh hl w
  unfold execOp
  rw [ho]
  simp [hx, this]
theorem wl_append (hgd : o.guard = none) (s x : Operand) (ho : o.op = .call { callee := .builtin .append, args := #[s, x], argTypes := #[32, 32] }) (d : Nat) (hd : o.dst = some d) (hsz : d < a.tmps.size)
    {wL : World} {hs : List (List (BitVec 8))} {hh : List (BitVec 8)} (hs1 : (Fk.ow wL.heap.size hs).f (a.eval s) w) (hx : (Fk.hs [hh]).f (a.eval x) w) (hL : Below wL.heap.size wL w) (hN : hs.length ≤ 1000)
    (h : ∀ a2 w2, a2.defers = a.defers → a2.tmps.size = a.tmps.size → (∀ t, (t == d) = false → a2.eval (.tmp t) = a.eval (.tmp t)) → (Fk.ow wL.heap.size (hs ++ [hh])).f (a2.eval (.tmp d)) w2 → Below wL.heap.size wL w2 → wpList Tryd.prog ops Q rest a2 w2) : wpList Tryd.prog ops Q (o :: rest) a w := by
  obtain ⟨i0, hi, hz0, hz1, hz2⟩ := info_parts Tryd.info23
  obtain ⟨A, C, lb, lo, e, hl⟩ := hx
  obtain ⟨hown, h32⟩ := hs1
  obtain ⟨hhl, hB⟩ := hl.all 0 hh rfl
  have hp := hl.ptr (by simp)
  subst hp
  refine wpList_append_own w hgd s x 32 ho wL.heap.size 23 i0 _ 32 32 Tryd.under32' hi hz0 hz1 hz2 (by simp [Value.cells, hz_len]) (by decide) _ hs.length _ rfl hown ⟨lb, lo, none⟩ 1 C (hh.map V) (by simpa using e) (by simp [hhl]) ?_ (V_one hh) (by unfold maxLen; omega) (by omega) hL.size ?_
  · intro j u hj
    have := hB.src hh.length j u
    rw [List.take_of_length_le (Nat.le_refl _), Nat.zero_mul, Nat.add_zero] at this
    exact this hj
  · intro v' w' h1 h2 _
    refine h _ _ (put_def _ _ _) (put_size _ _ _) (fun t ht => ?_) ?_ (hL.grown h2 hL.size (fun k e => (World.ownsRow.lt hown k e).1))
    · rw [hd]
      exact put_eval_other _ _ _ _ (fun e => by subst e; simp at ht)
    · rw [hd, put_eval_same _ _ _ hsz]
      refine ⟨?_, fun i y hi => ?_⟩
      · rw [List.length_append, List.flatten_append, List.map_append]
        simpa using h1
      · by_cases hil : i < hs.length
        · exact h32 i y (by rw [List.getElem?_append_left hil] at hi; exact hi)
        · rw [List.getElem?_append_right (by omega)] at hi
          cases hq : i - hs.length with
          | zero =>
            rw [hq] at hi
            obtain rfl : hh = y := by simpa using hi
            exact hhl
          | succ n => rw [hq] at hi; simp at hi
end
section
variable {Q : Exit → Act → World → Prop} {o : Oper} {a : Act} {w : World} {ops : Array Oper} {rest : List Oper}
theorem wl_move {P : Program} (hgd : o.guard = none) (x : Operand) (ho : o.op = .move x) (d : Nat) (hd : o.dst = some d) (hsz : d < a.tmps.size)
    (h : ∀ a2, a2.defers = a.defers → a2.tmps.size = a.tmps.size → (∀ t, (t == d) = false → a2.eval (.tmp t) = a.eval (.tmp t)) → a2.eval (.tmp d) = a.eval x → wpList P ops Q rest a2 w) : wpList P ops Q (o :: rest) a w := by
  unfold wpList
  rw [if_pos (by unfold Region.wanted; rw [hgd])]
  refine .inl ?_
  unfold Oper.wp execOp
  rw [ho]
  refine h _ (put_def _ _ _) (put_size _ _ _) (fun t ht => ?_) ?_
  · rw [hd]
    exact put_eval_other _ _ _ _ (fun e => by subst e; simp at ht)
  · rw [hd]
    exact put_eval_same _ _ _ hsz
theorem st_add1 (x : Operand) (ho : o.op = .binOp .add 3 x (.const (.int .i64 1)) 3) (k : Nat) (hk : k ≤ 1000000) (hx : a.eval x = .int .i64 (k : Int)) : o.wp Tryd.prog a w (Ends a o.dst w (Fk.eq (.int .i64 ((k + 1 : Nat) : Int))).f) Q := by
  refine st_pure (v := .int .i64 ((k + 1 : Nat) : Int)) ?_ rfl
  have he : a.eval (.const (.int .i64 1)) = .int .i64 1 := rfl
  unfold execOp
  rw [ho]
  have hw : IntKind.i64.wrap ((k : Int) + 1) = ((k + 1 : Nat) : Int) := by rw [IntKind.wrap_i64]; omega
  simp [hx, he, eqGuard, binOp, Op.intArith, hw]
end
theorem fk_recover_ok {h : List (BitVec 8)} {hs : List (List (BitVec 8))} {v : Value} {w : World} (hh : h.length = 32) (h67 : hs.length = 67) (hK : Tab w) (hv : (Fk.hs hs).f v w) {y : List (BitVec 8)} (hy : Box (pub (all67 (recOf h hs)) = y)) :
    Calls Tryd.prog 22 #[.agg (h.map V).toArray, v] w fun e w' => ∃ u, e = .returned u ∧ (Fk.eq (.tuple #[.agg (y.map V).toArray, .int .i64 0])).f u w' ∧ Below w.heap.size w w' := by
  obtain ⟨A, C, lb, lo, rfl, hl⟩ := hv
  rw [h67, ← hy.out]
  exact fk_of (recover_ok h A C lb lo hs w hh hl h67 hK)
theorem fk_recover_no {h : List (BitVec 8)} {hs : List (List (BitVec 8))} {v : Value} {w : World} (h67 : hs.length ≠ 67) (hv : (Fk.hs hs).f v w) :
    Calls Tryd.prog 22 #[.agg (h.map V).toArray, v] w fun e w' => ∃ u, e = .returned u ∧ (Fk.eq (.tuple #[.agg (hz.map V).toArray, .int .i64 10])).f u w' ∧ Below w.heap.size w w' := by
  obtain ⟨A, C, lb, lo, rfl, hl⟩ := hv
  exact fk_of (recover_no h A hs.length C w h67)
theorem fk_public_ow {base : Nat} {hs : List (List (BitVec 8))} {v : Value} {w : World} (hN : hs.length ≤ 1000) (hK : Tab w) (h : (Fk.ow base hs).f v w) {y : List (BitVec 8)} (hy : Box (pub hs = y)) : Calls Tryd.prog 52 #[v] w fun e w' => ∃ u, e = .returned u ∧ (Fk.eq (.agg (y.map V).toArray)).f u w' ∧ Below w.heap.size w w' := by
  rw [← hy.out]; exact fk_public hN hK (ow_hs h)
/-- The first k. -/
def firsts (F : Nat → List (BitVec 8)) (k : Nat) : List (List (BitVec 8)) := (List.range k).map F
theorem firsts_succ (F : Nat → List (BitVec 8)) (k : Nat) : firsts F (k + 1) = firsts F k ++ [F k] := by simp [firsts, List.range_succ]
theorem firsts_len (F : Nat → List (BitVec 8)) (k : Nat) : (firsts F k).length = k := by simp [firsts]
theorem firsts_all (F : Nat → List (BitVec 8)) : firsts F 67 = all67 F := rfl
end Go.Proofs.YtnanipeapjpkfaaDoor
namespace Go.Proofs.YtnanipeapjpkfaaDoor
set_option maxRecDepth 100000
open Go.RowKit
section
variable {P : Program} {ops : Array Oper} {Q : Exit → Act → World → Prop}
/-- From here on just these come up, one behind the other. -/
def chainOk (ops : Array Oper) : Array Bool → List Nat → Bool
  | listed, [] => (Region.ready .any ops listed).isEmpty
  | listed, j :: r => (Region.ready .any ops listed == [j]) && chainOk ops (listed.setIfInBounds j true) r
theorem any_list : ∀ (js : List Nat) (fuel : Nat) (listed : Array Bool) (a : Act) (w : World), chainOk ops listed js = true → js.length ≤ fuel → wpList P ops Q (js.filterMap (ops[·]?)) a w → wpAny P .any ops Q fuel listed a w
  | [], fuel, listed, a, w, hc, _, h => by
    have hr : Region.ready .any ops listed = [] := by simpa [chainOk] using hc
    exact wpAny_nil hr h
  | j :: r, 0, _, _, _, _, hl, _ => by simp at hl
  | j :: r, fuel + 1, listed, a, w, hc, hl, h => by
    simp only [chainOk, Bool.and_eq_true, beq_iff_eq] at hc
    obtain ⟨hr, hc⟩ := hc
    have ih := any_list r fuel (listed.setIfInBounds j true)
    refine ⟨fun h0 => (by rw [hr] at h0; cases h0), fun i hi => ?_⟩
    rw [hr] at hi
    obtain rfl : i = j := by simpa using hi
    have hm : i ∈ Region.ready .any ops listed := by rw [hr]; exact List.mem_cons_self
    obtain ⟨_, o, ho, _⟩ := mem_ready.1 hm
    rw [List.filterMap_cons, ho] at h
    unfold wpOp
    rw [ho]
    show if Region.wanted o (yielded ops a.tmps) = true then _ else _
    simp only [wpList] at h
    by_cases hw : Region.wanted o (yielded ops a.tmps) = true
    · rw [if_pos hw] at h ⊢
      rcases h with h | h
      · exact .inl (Oper.wp_mono (fun a' w' h' => ih a' w' hc (by simpa using hl) h') h)
      · exact .inr h
    · rw [if_neg hw] at h ⊢
      exact ih _ _ hc (by simpa using hl) h
/-- What an operation waits for. -/
def tgt (o : Oper) : List Nat := (o.after.toList.filter fun e => Region.binds .any e).map (·.on)
def tgts (ops : List Oper) (i : Nat) : List Nat := ((ops[i]?).map tgt).getD []
/-- And what these wait for, n times over. -/
def clo (ops : List Oper) : Nat → List Nat → List Nat
  | 0, L => L
  | n + 1, L => clo ops n (L ++ L.flatMap (tgts ops)).eraseDups
/-- Each from number k on waits, in the end, for all ahead of number k. -/
def coverOk (ops : List Oper) (k : Nat) : Bool := (List.range ops.length).all fun j => decide (j < k) || (List.range k).all fun i => (clo ops 8 (tgts ops j)).contains i
theorem mem_tgt {o : Oper} {i : Nat} : i ∈ tgt o ↔ ∃ e ∈ o.after, Region.binds .any e = true ∧ e.on = i := by
  unfold tgt
  simp only [List.mem_map, List.mem_filter, Array.mem_toList_iff]
  constructor
  · rintro ⟨e, ⟨h1, h2⟩, h3⟩; exact ⟨e, h1, h2, h3⟩
  · rintro ⟨e, h1, h2, h3⟩; exact ⟨e, ⟨h1, h2⟩, h3⟩
/-- What is listed is closed. -/
def Closed (ops : Array Oper) (listed : Array Bool) : Prop := ∀ (i : Nat) (o : Oper), ops[i]? = some o → listed.getD i false = true → ∀ j ∈ tgt o, listed.getD j false = true
theorem clo_listed {listed : Array Bool} (hc : Closed ops listed) : ∀ (n : Nat) (L : List Nat), (∀ i ∈ L, listed.getD i false = true) → ∀ i ∈ clo ops.toList n L, listed.getD i false = true
  | 0, L, h, i, hi => h i hi
  | n + 1, L, h, i, hi => by
    refine clo_listed hc n _ (fun j hj => ?_) i hi
    rw [List.mem_eraseDups] at hj
    rcases List.mem_append.1 hj with hj | hj
    · exact h j hj
    · obtain ⟨m, hm, hj⟩ := List.mem_flatMap.1 hj
      unfold tgts at hj
      rw [Array.getElem?_toList] at hj
      cases ho : ops[m]? with
      | none => rw [ho] at hj; simp at hj
      | some o =>
        rw [ho] at hj
        exact hc m o ho (h m hm) j (by simpa using hj)
theorem ready_back (hE : backOk ops.toList = true) {listed : Array Bool} (hs : listed.size = ops.size) (h : Region.ready .any ops listed = []) : unl listed = 0 := by
  unfold backOk at hE
  have hback := List.all_eq_true.1 hE
  have key : ∀ n i, i < n → i < listed.size → listed.getD i true = true := by
    intro n
    induction n with
    | zero => intro i h; omega
    | succ n ih =>
      intro i hi hl
      cases hc : listed.getD i true with
      | true => rfl
      | false =>
        exfalso
        have hio : i < ops.size := by omega
        have hm : i ∈ Region.ready .any ops listed := by
          refine mem_ready.2 ⟨hc, ops[i], Array.getElem?_eq_getElem hio, fun e he hbd => ?_⟩
          have hb := hback i (by simp; exact hio)
          simp only [Array.getElem?_toList, Array.getElem?_eq_getElem hio, Option.map_some, Option.getD_some] at hb
          have hb2 : e.on < i := by
            have := List.all_eq_true.1 hb e (by simpa using he)
            simpa [hbd] using this
          have := ih e.on (by omega) (by omega)
          rw [← getD_tf (by omega)]; exact this
        rw [h] at hm
        cases hm
  unfold unl
  rw [Array.countP_eq_zero]
  intro b hb
  obtain ⟨i, hi, rfl⟩ := Array.mem_iff_getElem.1 hb
  have := key (i + 1) i (by omega) hi
  simpa [hi] using this
theorem chain_len : ∀ (js : List Nat) (listed : Array Bool), chainOk ops listed js = true → js.length ≤ unl listed
  | [], _, _ => Nat.zero_le _
  | j :: r, listed, hc => by
    simp only [chainOk, Bool.and_eq_true, beq_iff_eq] at hc
    obtain ⟨hr, hc⟩ := hc
    have hm : j ∈ Region.ready .any ops listed := by rw [hr]; exact List.mem_cons_self
    obtain ⟨hun, _, _, _⟩ := mem_ready.1 hm
    have h1 := chain_len r _ hc
    have h2 := unl_set hun
    rw [List.length_cons]
    omega
/-- The first k are listed. -/
def firstK (k n : Nat) : Array Bool := Array.ofFn (n := n) fun i => decide (i.val < k)
theorem wp_mids_tail {qs : List Fk} {a0 : Act} {w0 : World} (js : List Nat) (hk : qs.length ≤ ops.size) (hE : backOk ops.toList = true) (hC : coverOk ops.toList qs.length = true) (hJ : chainOk ops (firstK qs.length ops.size) js = true)
    (hD : dstsOk a0.tmps.size (ops.toList.take qs.length) = true) (hG : guardsOk ops.toList qs.length qs ops.toList qs = true)
    (hS : Steps P Q ops.toList qs.length qs a0 w0 ops.toList qs)
    (hF : ∀ af w', Final ops.toList qs a0 af w' → Below w0.heap.size w0 w' → wpList P ops Q (js.filterMap (ops[·]?)) af w') :
    ∀ (fuel : Nat) (listed : Array Bool) (a : Act) (w : World), unl listed ≤ fuel → Closed ops listed → Mids ops qs.length (fkAt qs) a0 w0 listed a w → wpAny P .any ops Q fuel listed a w := by
  have hend : ∀ (fuel : Nat) (listed : Array Bool) (a : Act) (w : World), unl listed ≤ fuel → Mids ops qs.length (fkAt qs) a0 w0 listed a w → (∀ i, i < qs.length → listed.getD i false = true) → wpAny P .any ops Q fuel listed a w := by
    intro fuel listed a w hu hm hall
    have he : listed = firstK qs.length ops.size := by
      apply Array.ext (by simp [firstK, hm.lsize])
      intro i h1 h2
      simp only [firstK, Array.getElem_ofFn]
      by_cases hi : i < qs.length
      · have := hall i hi
        simp [h1] at this
        simp [this, hi]
      · have h3 : i < ops.size := by rw [hm.lsize] at h1; exact h1
        have := hm.last i (by omega) h3
        simp [h1] at this
        simp [this, hi]
    have hJ' : chainOk ops listed js = true := by rw [he]; exact hJ
    have hlen := chain_len js listed hJ'
    refine any_list js fuel listed a w hJ' (by omega) ?_
    refine hF a w ⟨hm.defs, hm.size, fun t ht => eval_of_get (hm.old t ht), fun i d h => ?_⟩ hm.grow
    simp only [Bool.and_eq_true, decide_eq_true_eq, beq_iff_eq] at h
    obtain ⟨hi, hd⟩ := h
    cases ho : ops.toList[i]? with
    | none => rw [ho] at hd; simp at hd
    | some o =>
      rw [ho] at hd
      exact hm.has i o d hi (by rw [← Array.getElem?_toList]; exact ho) (by simpa using hd) (hall i hi)
  intro fuel
  induction fuel with
  | zero =>
    intro listed a w hu hcl hm
    have hall := unl_zero (listed := listed) (by omega)
    refine hend 0 listed a w hu hm (fun i hi => ?_)
    have hil : i < listed.size := by rw [hm.lsize]; omega
    rw [← getD_tf hil]; exact hall i hil
  | succ fuel ih =>
    intro listed a w hu hcl hm
    by_cases hall : ∀ i, i < qs.length → listed.getD i false = true
    · exact hend (fuel + 1) listed a w hu hm hall
    · have hex : ∃ i0, i0 < qs.length ∧ listed.getD i0 false = false := by
        apply Classical.byContradiction
        intro hno
        apply hall
        intro i hi
        cases hq : listed.getD i false with
        | true => rfl
        | false => exact absurd ⟨i, hi, hq⟩ hno
      obtain ⟨i0, hi0, hi0u⟩ := hex
      refine ⟨fun hr => ?_, fun i hi => ?_⟩
      · exfalso
        have hu0 := ready_back hE hm.lsize hr
        have hil : i0 < listed.size := by rw [hm.lsize]; omega
        have := unl_zero hu0 i0 hil
        rw [getD_tf hil, hi0u] at this
        cases this
      · obtain ⟨hun, o, ho, hdep⟩ := mem_ready.1 hi
        have hio : i < ops.size := (Array.getElem?_eq_some_iff.1 ho).1
        have hu' := unl_set hun
        have hil : i < listed.size := by rw [hm.lsize]; exact hio
        have htg : ∀ j ∈ tgt o, listed.getD j false = true := fun j hj => by
          obtain ⟨e, he, hb, rfl⟩ := mem_tgt.1 hj
          exact hdep e he hb
        have hik : i < qs.length := by
          rcases Nat.lt_or_ge i qs.length with h | h
          · exact h
          · exfalso
            unfold coverOk at hC
            have h1 := List.all_eq_true.1 hC i (by simpa using hio)
            simp only [Bool.or_eq_true, decide_eq_true_eq] at h1
            rcases h1 with h1 | h1
            · omega
            · have h2 := List.all_eq_true.1 h1 i0 (by simpa using hi0)
              have h3 : i0 ∈ clo ops.toList 8 (tgts ops.toList i) := by simpa using h2
              have h4 := clo_listed hcl 8 (tgts ops.toList i) (fun j hj => by
                unfold tgts at hj
                rw [Array.getElem?_toList, ho] at hj
                exact htg j (by simpa using hj)) i0 h3
              rw [hi0u] at h4
              cases h4
        have hK : Known ops.toList qs.length (fkAt qs) a0 w0 o a w := by
          refine ⟨fun t ht => eval_of_get (hm.old t ht), fun j d hj => ?_, hm.grow⟩
          unfold depOk at hj
          simp only [Bool.and_eq_true, decide_eq_true_eq, beq_iff_eq, Array.getElem?_toList] at hj
          obtain ⟨⟨hjk, hany⟩, hd⟩ := hj
          obtain ⟨e, he, hb⟩ := List.any_eq_true.1 hany
          simp only [Bool.and_eq_true, beq_iff_eq] at hb
          have hl := hdep e (by simpa using he) hb.2
          rw [hb.1] at hl
          cases hoj : ops[j]? with
          | none => rw [hoj] at hd; simp at hd
          | some oj =>
            rw [hoj] at hd
            exact hm.has j oj d hjk hoj (by simpa using hd) hl
        have hto : (ops.toList.take qs.length)[i]? = some o := by rw [List.getElem?_take, if_pos hik, Array.getElem?_toList]; exact ho
        obtain ⟨d, hd, hlt, hallD⟩ := dstsOk_spec hD i o hto
        have hcl' : Closed ops (listed.setIfInBounds i true) := by
          intro m om hom hml j hj
          by_cases e : m = i
          · subst e
            obtain rfl : om = o := Option.some.inj (hom.symm.trans ho)
            have h1 := htg j hj
            by_cases e2 : j = m
            · subst e2; exact getD_set_same hil
            · have hne : m ≠ j := fun h => e2 h.symm
              simpa [Array.getElem?_setIfInBounds, hne] using h1
          · have hne : i ≠ m := fun h => e h.symm
            have hml' : listed.getD m false = true := by simpa [Array.getElem?_setIfInBounds, hne] using hml
            have h1 := hcl m om hom hml' j hj
            by_cases e2 : j = i
            · subst e2; exact getD_set_same hil
            · have hne2 : i ≠ j := fun h => e2 h.symm
              simpa [Array.getElem?_setIfInBounds, hne2] using h1
        have hnext : ∀ v w', Below w.heap.size w w' → fkAt qs i v w' → wpAny P .any ops Q fuel (listed.setIfInBounds i true) (a.put o.dst v) w' := by
          intro v w' hb hf
          refine ih _ _ _ (by omega) hcl' ⟨by rw [put_size]; exact hm.size, by rw [put_def]; exact hm.defs, by simp; exact hm.lsize, fun t ht => ?_, fun j oj dj hj hoj hdj hlj => ?_, fun j hj1 hj2 => ?_, hm.grow.trans (hb.mono hm.grow.size)⟩
          · rw [put_other _ _ _ _ (freeOf_spec ht hto)]; exact hm.old t ht
          · by_cases e : j = i
            · subst e
              obtain rfl : oj = o := Option.some.inj (hoj.symm.trans ho)
              obtain rfl : dj = d := Option.some.inj (hdj.symm.trans hd)
              have hev : (a.put oj.dst v).eval (.tmp dj) = v := by
                have := put_same a dj v (by rw [hm.size]; exact hlt)
                rw [← hd] at this
                simp [Act.eval, this]
              rw [hev]; exact hf
            · have htj : (ops.toList.take qs.length)[j]? = some oj := by rw [List.getElem?_take, if_pos hj, Array.getElem?_toList]; exact hoj
              have hne : o.dst ≠ some dj := fun h => by
                have : d = dj := Option.some.inj (hd.symm.trans h)
                exact hallD j oj htj e (by rw [this]; exact hdj)
              rw [eval_of_get (put_other a o.dst v dj hne)]
              refine Fk.mono _ _ w w' (hm.has j oj dj hj hoj hdj ?_) hb
              have hne2 : i ≠ j := fun h => e h.symm
              simpa [Array.getElem?_setIfInBounds, hne2] using hlj
          · have hne : i ≠ j := by omega
            have := hm.last j hj1 hj2
            simpa [Array.getElem?_setIfInBounds, hne] using this
        have hyield : ∀ (j : Nat) (b c : Bool), o.guard = some (j, b) → (∃ d, depOk ops.toList qs.length o j d = true) → (∀ v w, fkAt qs j v w → v = .bool c) → yielded ops a.tmps j = some c := by
          rintro j b c hg ⟨d, hd⟩ hbool
          have hv := hbool _ _ (hK.dep j d hd)
          have hd2 : (ops[j]?).bind (·.dst) = some d := by
            unfold depOk at hd
            simp only [Bool.and_eq_true, decide_eq_true_eq, beq_iff_eq, Array.getElem?_toList] at hd
            exact hd.2
          have hget : a.tmps[d]? = some (.bool c) := by
            simp only [Act.eval, Array.getD_eq_getD_getElem?] at hv
            cases hq : a.tmps[d]? with
            | none => rw [hq] at hv; simp [undef] at hv
            | some u => rw [hq] at hv; simp at hv; rw [hv]
          unfold yielded
          rw [hd2]
          simp only [Option.bind_some, hget]
        unfold wpOp
        rw [ho]
        show if Region.wanted o (yielded ops a.tmps) = true then _ else _
        have hyes : Region.wanted o (yielded ops a.tmps) = true → wantedBy qs o = true → (if Region.wanted o (yielded ops a.tmps) = true then o.wp P a w (wpAny P .any ops Q fuel (listed.setIfInBounds i true)) Q ∨ (o.asks P a w ∧ LetsOut Q) else wpAny P .any ops Q fuel (listed.setIfInBounds i true) (a.put o.dst undef) w) := by
          intro hwant hwb
          rw [if_pos hwant]
          refine .inl (Oper.wp_mono ?_ (hS.get i o hik (by rw [Array.getElem?_toList]; exact ho) hwb a w hK))
          rintro a' w' ⟨v, rfl, hb, hf⟩
          exact hnext v w' hb hf
        cases hg : o.guard with
        | none => exact hyes (by unfold Region.wanted; rw [hg]) (by unfold wantedBy; rw [hg])
        | some jb =>
          obtain ⟨j, b⟩ := jb
          obtain ⟨hdp, h2⟩ := guardsOk_spec hG i o j b hik (by rw [Array.getElem?_toList]; exact ho) hg
          rcases h2 with h2 | h2
          · refine hyes ?_ (by unfold wantedBy; rw [hg]; exact h2)
            unfold Region.wanted
            rw [hg]
            show (yielded ops a.tmps j == some b) = true
            rw [hyield j b b hg hdp (Fk.isBool_spec h2)]; simp
          · have hno : Region.wanted o (yielded ops a.tmps) = false := by
              unfold Region.wanted
              rw [hg]
              show (yielded ops a.tmps j == some b) = false
              rw [hyield j b (!b) hg hdp (Fk.isBool_spec h2.1)]; cases b <;> rfl
            rw [if_neg (by rw [hno]; simp)]
            exact hnext undef w (Below.refl _ _) (Fk.isAny_spec h2.2 _ _)
/-- A drawn region: its first operations by steps, whatever order is picked; the others, in the order js, behind them. -/
theorem wp_region_tail {id : Nat} {a0 : Act} {w : World} (qs : List Fk) (js : List Nat) (hm : P.follows .mixedOrders = true) (hk : decide (qs.length ≤ ops.size) = true) (hE : backOk ops.toList = true) (hC : coverOk ops.toList qs.length = true) (hJ : chainOk ops (firstK qs.length ops.size) js = true)
    (hD : dstsOk a0.tmps.size (ops.toList.take qs.length) = true) (hG : guardsOk ops.toList qs.length qs ops.toList qs = true)
    (hS : Steps P Q ops.toList qs.length qs a0 w ops.toList qs)
    (hF : ∀ af w', Final ops.toList qs a0 af w' → Below w.heap.size w w' → wpList P ops Q (js.filterMap (ops[·]?)) af w') :
    (Code.region id ops true).wp P Q a0 w := by
  refine wp_region_any hm ?_
  refine wp_mids_tail js (of_decide_eq_true hk) hE hC hJ hD hG hS hF ops.size _ a0 _ ?_ ?_ ?_
  · unfold unl
    exact Nat.le_trans (Array.countP_le_size) (by simp)
  · intro i o ho hl
    have : i < ops.size := (Array.getElem?_eq_some_iff.1 ho).1
    simp [this] at hl
  · refine ⟨rfl, rfl, by simp, fun _ _ => rfl, fun i o d _ ho _ hl => ?_, fun i _ hi => ?_, (Below.refl _ _).drew⟩
    · have : i < ops.size := (Array.getElem?_eq_some_iff.1 ho).1
      simp [this] at hl
    · simp [hi]
end
end Go.Proofs.YtnanipeapjpkfaaDoor
namespace Go.Proofs.YtnanipeapjpkfaaDoor
set_option maxRecDepth 100000
open Go.RowKit
section
variable {ops : Array Oper} {Q : Exit → Act → World → Prop}
theorem ptr_inj {x y : Nat} (h : Value.pointer (some ⟨x, 0, none⟩) = .pointer (some ⟨y, 0, none⟩)) : x = y := by
  injection h with h
  injection h with h
  injection h
def slotAt (ops : Array Oper) (i : Nat) : Option Tmp := (ops[i]?).bind (·.dst)
/-- Operation i makes a hash variable, in slot d. -/
def isNew (ops : Array Oper) (i d : Nat) : Bool := match ops[i]? with
  | some o => (o.dst == some d) && o.guard.isNone && (match o.op with | .alloc t => t == 23 | _ => false)
  | none => false
theorem isNew_spec {i d : Nat} (h : isNew ops i d = true) : ∃ o, ops[i]? = some o ∧ o.dst = some d ∧ o.op = .alloc 23 ∧ o.guard = none := by
  unfold isNew at h
  cases ho : ops[i]? with
  | none => rw [ho] at h; simp at h
  | some o =>
    rw [ho] at h
    simp only [Bool.and_eq_true, beq_iff_eq, Option.isNone_iff_eq_none] at h
    obtain ⟨⟨h1, h2⟩, h3⟩ := h
    refine ⟨o, rfl, h1, ?_, h2⟩
    cases hop : o.op with
    | alloc t => rw [hop] at h3; simp at h3; rw [h3]
    | _ => rw [hop] at h3; simp at h3
theorem isNew_slot {i d : Nat} (h : isNew ops i d = true) : slotAt ops i = some d := by
  obtain ⟨o, h1, h2, _⟩ := isNew_spec h
  unfold slotAt
  rw [h1]
  exact h2
/-- Those of fr that are listed have values of their own. -/
def NewApart (ops : Array Oper) (fr : List Nat) (listed : Array Bool) (a : Act) : Prop := ∀ i ∈ fr, ∀ j ∈ fr, i ≠ j → listed.getD i false = true → listed.getD j false = true → ∀ di dj, slotAt ops i = some di → slotAt ops j = some dj → a.eval (.tmp di) ≠ a.eval (.tmp dj)
theorem wp_mids_new {qs : List Fk} (fr : List Nat) {a0 : Act} {w0 : World} (js : List Nat) (hk : qs.length ≤ ops.size) (hE : backOk ops.toList = true) (hC : coverOk ops.toList qs.length = true) (hJ : chainOk ops (firstK qs.length ops.size) js = true)
    (hN : ∀ i ∈ fr, i < qs.length ∧ ∃ o d, ops[i]? = some o ∧ o.dst = some d ∧ o.op = .alloc 23 ∧ o.guard = none ∧ fkAt qs i = (Fk.pn w0.heap.size hz).f)
    (hD : dstsOk a0.tmps.size (ops.toList.take qs.length) = true) (hG : guardsOk ops.toList qs.length qs ops.toList qs = true)
    (hS : Steps Tryd.prog Q ops.toList qs.length qs a0 w0 ops.toList qs)
    (hF : ∀ af w', Final ops.toList qs a0 af w' → (∀ i ∈ fr, ∀ j ∈ fr, i ≠ j → ∀ di dj, slotAt ops i = some di → slotAt ops j = some dj → af.eval (.tmp di) ≠ af.eval (.tmp dj)) → Below w0.heap.size w0 w' → wpList Tryd.prog ops Q (js.filterMap (ops[·]?)) af w') :
    ∀ (fuel : Nat) (listed : Array Bool) (a : Act) (w : World), unl listed ≤ fuel → Closed ops listed → NewApart ops fr listed a → Mids ops qs.length (fkAt qs) a0 w0 listed a w → wpAny Tryd.prog .any ops Q fuel listed a w := by
  have hend : ∀ (fuel : Nat) (listed : Array Bool) (a : Act) (w : World), unl listed ≤ fuel → NewApart ops fr listed a → Mids ops qs.length (fkAt qs) a0 w0 listed a w → (∀ i, i < qs.length → listed.getD i false = true) → wpAny Tryd.prog .any ops Q fuel listed a w := by
    intro fuel listed a w hu hap hm hall
    have he : listed = firstK qs.length ops.size := by
      apply Array.ext (by simp [firstK, hm.lsize])
      intro i h1 h2
      simp only [firstK, Array.getElem_ofFn]
      by_cases hi : i < qs.length
      · have := hall i hi
        simp [h1] at this
        simp [this, hi]
      · have h3 : i < ops.size := by rw [hm.lsize] at h1; exact h1
        have := hm.last i (by omega) h3
        simp [h1] at this
        simp [this, hi]
    have hJ' : chainOk ops listed js = true := by rw [he]; exact hJ
    have hlen := chain_len js listed hJ'
    refine any_list js fuel listed a w hJ' (by omega) ?_
    refine hF a w ⟨hm.defs, hm.size, fun t ht => eval_of_get (hm.old t ht), fun i d h => ?_⟩ (fun i hi j hj hne di dj e1 e2 => hap i hi j hj hne (hall i (hN i hi).1) (hall j (hN j hj).1) di dj e1 e2) hm.grow
    simp only [Bool.and_eq_true, decide_eq_true_eq, beq_iff_eq] at h
    obtain ⟨hi, hd⟩ := h
    cases ho : ops.toList[i]? with
    | none => rw [ho] at hd; simp at hd
    | some o =>
      rw [ho] at hd
      exact hm.has i o d hi (by rw [← Array.getElem?_toList]; exact ho) (by simpa using hd) (hall i hi)
  intro fuel
  induction fuel with
  | zero =>
    intro listed a w hu hcl hap hm
    have hall := unl_zero (listed := listed) (by omega)
    refine hend 0 listed a w hu hap hm (fun i hi => ?_)
    have hil : i < listed.size := by rw [hm.lsize]; omega
    rw [← getD_tf hil]; exact hall i hil
  | succ fuel ih =>
    intro listed a w hu hcl hap hm
    by_cases hall : ∀ i, i < qs.length → listed.getD i false = true
    · exact hend (fuel + 1) listed a w hu hap hm hall
    · have hex : ∃ i0, i0 < qs.length ∧ listed.getD i0 false = false := by
        apply Classical.byContradiction
        intro hno
        apply hall
        intro i hi
        cases hq : listed.getD i false with
        | true => rfl
        | false => exact absurd ⟨i, hi, hq⟩ hno
      obtain ⟨i0, hi0, hi0u⟩ := hex
      refine ⟨fun hr => ?_, fun i hi => ?_⟩
      · exfalso
        have hu0 := ready_back hE hm.lsize hr
        have hil : i0 < listed.size := by rw [hm.lsize]; omega
        have := unl_zero hu0 i0 hil
        rw [getD_tf hil, hi0u] at this
        cases this
      · obtain ⟨hun, o, ho, hdep⟩ := mem_ready.1 hi
        have hio : i < ops.size := (Array.getElem?_eq_some_iff.1 ho).1
        have hu' := unl_set hun
        have hil : i < listed.size := by rw [hm.lsize]; exact hio
        have htg : ∀ j ∈ tgt o, listed.getD j false = true := fun j hj => by
          obtain ⟨e, he, hb, rfl⟩ := mem_tgt.1 hj
          exact hdep e he hb
        have hik : i < qs.length := by
          rcases Nat.lt_or_ge i qs.length with h | h
          · exact h
          · exfalso
            unfold coverOk at hC
            have h1 := List.all_eq_true.1 hC i (by simpa using hio)
            simp only [Bool.or_eq_true, decide_eq_true_eq] at h1
            rcases h1 with h1 | h1
            · omega
            · have h2 := List.all_eq_true.1 h1 i0 (by simpa using hi0)
              have h3 : i0 ∈ clo ops.toList 8 (tgts ops.toList i) := by simpa using h2
              have h4 := clo_listed hcl 8 (tgts ops.toList i) (fun j hj => by
                unfold tgts at hj
                rw [Array.getElem?_toList, ho] at hj
                exact htg j (by simpa using hj)) i0 h3
              rw [hi0u] at h4
              cases h4
        have hK : Known ops.toList qs.length (fkAt qs) a0 w0 o a w := by
          refine ⟨fun t ht => eval_of_get (hm.old t ht), fun j d hj => ?_, hm.grow⟩
          unfold depOk at hj
          simp only [Bool.and_eq_true, decide_eq_true_eq, beq_iff_eq, Array.getElem?_toList] at hj
          obtain ⟨⟨hjk, hany⟩, hd⟩ := hj
          obtain ⟨e, he, hb⟩ := List.any_eq_true.1 hany
          simp only [Bool.and_eq_true, beq_iff_eq] at hb
          have hl := hdep e (by simpa using he) hb.2
          rw [hb.1] at hl
          cases hoj : ops[j]? with
          | none => rw [hoj] at hd; simp at hd
          | some oj =>
            rw [hoj] at hd
            exact hm.has j oj d hjk hoj (by simpa using hd) hl
        have hto : (ops.toList.take qs.length)[i]? = some o := by rw [List.getElem?_take, if_pos hik, Array.getElem?_toList]; exact ho
        obtain ⟨d, hd, hlt, hallD⟩ := dstsOk_spec hD i o hto
        have hcl' : Closed ops (listed.setIfInBounds i true) := by
          intro m om hom hml j hj
          by_cases e : m = i
          · subst e
            obtain rfl : om = o := Option.some.inj (hom.symm.trans ho)
            have h1 := htg j hj
            by_cases e2 : j = m
            · subst e2; exact getD_set_same hil
            · have hne : m ≠ j := fun h => e2 h.symm
              simpa [Array.getElem?_setIfInBounds, hne] using h1
          · have hne : i ≠ m := fun h => e h.symm
            have hml' : listed.getD m false = true := by simpa [Array.getElem?_setIfInBounds, hne] using hml
            have h1 := hcl m om hom hml' j hj
            by_cases e2 : j = i
            · subst e2; exact getD_set_same hil
            · have hne2 : i ≠ j := fun h => e2 h.symm
              simpa [Array.getElem?_setIfInBounds, hne2] using h1
        have hnext : ∀ v w', Below w.heap.size w w' → NewApart ops fr (listed.setIfInBounds i true) (a.put o.dst v) → fkAt qs i v w' → wpAny Tryd.prog .any ops Q fuel (listed.setIfInBounds i true) (a.put o.dst v) w' := by
          intro v w' hb hap' hf
          refine ih _ _ _ (by omega) hcl' hap' ⟨by rw [put_size]; exact hm.size, by rw [put_def]; exact hm.defs, by simp; exact hm.lsize, fun t ht => ?_, fun j oj dj hj hoj hdj hlj => ?_, fun j hj1 hj2 => ?_, hm.grow.trans (hb.mono hm.grow.size)⟩
          · rw [put_other _ _ _ _ (freeOf_spec ht hto)]; exact hm.old t ht
          · by_cases e : j = i
            · subst e
              obtain rfl : oj = o := Option.some.inj (hoj.symm.trans ho)
              obtain rfl : dj = d := Option.some.inj (hdj.symm.trans hd)
              have hev : (a.put oj.dst v).eval (.tmp dj) = v := by
                have := put_same a dj v (by rw [hm.size]; exact hlt)
                rw [← hd] at this
                simp [Act.eval, this]
              rw [hev]; exact hf
            · have htj : (ops.toList.take qs.length)[j]? = some oj := by rw [List.getElem?_take, if_pos hj, Array.getElem?_toList]; exact hoj
              have hne : o.dst ≠ some dj := fun h => by
                have : d = dj := Option.some.inj (hd.symm.trans h)
                exact hallD j oj htj e (by rw [this]; exact hdj)
              rw [eval_of_get (put_other a o.dst v dj hne)]
              refine Fk.mono _ _ w w' (hm.has j oj dj hj hoj hdj ?_) hb
              have hne2 : i ≠ j := fun h => e h.symm
              simpa [Array.getElem?_setIfInBounds, hne2] using hlj
          · have hne : i ≠ j := by omega
            have := hm.last j hj1 hj2
            simpa [Array.getElem?_setIfInBounds, hne] using this
        have hkeep : i ∉ fr → ∀ v, NewApart ops fr (listed.setIfInBounds i true) (a.put o.dst v) := by
          intro hni v p hp q hq hpq hlp hlq dp dq ep eq
          have hip : i ≠ p := fun h => hni (h ▸ hp)
          have hiq : i ≠ q := fun h => hni (h ▸ hq)
          have hlp' : listed.getD p false = true := by simpa [Array.getElem?_setIfInBounds, hip] using hlp
          have hlq' : listed.getD q false = true := by simpa [Array.getElem?_setIfInBounds, hiq] using hlq
          obtain ⟨hpk, op, dp', hop, hdp, _⟩ := hN p hp
          obtain ⟨hqk, oq, dq', hoq, hdq, _⟩ := hN q hq
          obtain rfl : dp = dp' := by rw [slotAt, hop] at ep; exact Option.some.inj (ep.symm.trans hdp)
          obtain rfl : dq = dq' := by rw [slotAt, hoq] at eq; exact Option.some.inj (eq.symm.trans hdq)
          have n1 : o.dst ≠ some dp := fun h => hallD p op (by rw [List.getElem?_take, if_pos hpk, Array.getElem?_toList]; exact hop) (fun e => hip e.symm) (by rw [hdp, ← h]; exact hd)
          have n2 : o.dst ≠ some dq := fun h => hallD q oq (by rw [List.getElem?_take, if_pos hqk, Array.getElem?_toList]; exact hoq) (fun e => hiq e.symm) (by rw [hdq, ← h]; exact hd)
          rw [eval_of_get (put_other a o.dst v dp n1), eval_of_get (put_other a o.dst v dq n2)]
          exact hap p hp q hq hpq hlp' hlq' dp dq ep eq
        by_cases hin : i ∈ fr
        · obtain ⟨_, o', d', ho', hd', hop', hg', hfk'⟩ := hN i hin
          obtain rfl : o' = o := Option.some.inj (ho'.symm.trans ho)
          obtain rfl : d' = d := Option.some.inj (hd'.symm.trans hd)
          have hrun : (execOp a.eval o').run Tryd.prog w = .ok (.value (.pointer (some ⟨w.heap.size, 0, none⟩))) (w.alloc (.cells (hz.map V).toArray 23)) := by
            obtain ⟨d1, op1, ty1, pos1, aft1, gd1⟩ := o'
            simp only at hop'
            subst hop'
            exact Tryd.alloc23 _ _ _ _ _ _ _
          unfold wpOp
          rw [ho]
          show if Region.wanted o' (yielded ops a.tmps) = true then _ else _
          rw [if_pos (by unfold Region.wanted; rw [hg'])]
          refine .inl ?_
          unfold Oper.wp
          rw [hrun]
          refine hnext _ _ ((Below.refl _ _).alloc (Nat.le_refl _) _) ?_ ?_
          · intro p hp q hq hpq hlp hlq dp dq ep eq
            obtain ⟨hpk, op, dp', hop, hdp, _, _, hfp⟩ := hN p hp
            obtain ⟨hqk, oq, dq', hoq, hdq, _, _, hfq⟩ := hN q hq
            obtain rfl : dp = dp' := by rw [slotAt, hop] at ep; exact Option.some.inj (ep.symm.trans hdp)
            obtain rfl : dq = dq' := by rw [slotAt, hoq] at eq; exact Option.some.inj (eq.symm.trans hdq)
            have hnew : (a.put o'.dst (.pointer (some ⟨w.heap.size, 0, none⟩))).eval (.tmp d') = .pointer (some ⟨w.heap.size, 0, none⟩) := by
              rw [hd]; exact put_eval_same _ _ _ (by rw [hm.size]; exact hlt)
            have hold : ∀ r, r ∈ fr → r ≠ i → (listed.setIfInBounds i true).getD r false = true → ∀ dr, slotAt ops r = some dr → (a.put o'.dst (.pointer (some ⟨w.heap.size, 0, none⟩))).eval (.tmp dr) = a.eval (.tmp dr) ∧ ∃ g, g < w.heap.size ∧ a.eval (.tmp dr) = .pointer (some ⟨g, 0, none⟩) := by
              intro r hr hri hlr dr er
              obtain ⟨hrk, or', dr', hor, hdr, _, _, hfr⟩ := hN r hr
              obtain rfl : dr = dr' := by rw [slotAt, hor] at er; exact Option.some.inj (er.symm.trans hdr)
              have n1 : o'.dst ≠ some dr := fun h => hallD r or' (by rw [List.getElem?_take, if_pos hrk, Array.getElem?_toList]; exact hor) hri (by rw [hdr, ← h]; exact hd)
              have hir : i ≠ r := fun h => hri h.symm
              have hlr' : listed.getD r false = true := by simpa [Array.getElem?_setIfInBounds, hir] using hlr
              have hf := hm.has r or' dr hrk hor hdr hlr'
              rw [hfr] at hf
              obtain ⟨g, _, e, hv⟩ := hf
              exact ⟨eval_of_get (put_other a o'.dst _ dr n1), g, hv.lt, e⟩
            by_cases e1 : p = i
            · have hqi : q ≠ i := fun h => hpq (e1.trans h.symm)
              obtain ⟨k1, g, hg, k2⟩ := hold q hq hqi hlq dq eq
              have : dp = d' := by
                subst e1
                rw [slotAt, ho] at ep
                exact Option.some.inj (ep.symm.trans hd)
              rw [this, hnew, k1, k2]
              intro h
              have h2 : w.heap.size = g := ptr_inj h
              omega
            · obtain ⟨k1, g, hg, k2⟩ := hold p hp e1 hlp dp ep
              by_cases e2 : q = i
              · have : dq = d' := by
                  subst e2
                  rw [slotAt, ho] at eq
                  exact Option.some.inj (eq.symm.trans hd)
                rw [this, hnew, k1, k2]
                intro h
                have h2 : g = w.heap.size := ptr_inj h
                omega
              · obtain ⟨l1, g2, hg2, l2⟩ := hold q hq e2 hlq dq eq
                have hip : i ≠ p := fun h => e1 h.symm
                have hiq : i ≠ q := fun h => e2 h.symm
                rw [k1, l1]
                exact hap p hp q hq hpq (by simpa [Array.getElem?_setIfInBounds, hip] using hlp) (by simpa [Array.getElem?_setIfInBounds, hiq] using hlq) dp dq ep eq
          · rw [hfk']
            exact ⟨w.heap.size, hm.grow.size, rfl, heap_alloc_new _ _⟩
        have hyield : ∀ (j : Nat) (b c : Bool), o.guard = some (j, b) → (∃ d, depOk ops.toList qs.length o j d = true) → (∀ v w, fkAt qs j v w → v = .bool c) → yielded ops a.tmps j = some c := by
          rintro j b c hg ⟨d, hd⟩ hbool
          have hv := hbool _ _ (hK.dep j d hd)
          have hd2 : (ops[j]?).bind (·.dst) = some d := by
            unfold depOk at hd
            simp only [Bool.and_eq_true, decide_eq_true_eq, beq_iff_eq, Array.getElem?_toList] at hd
            exact hd.2
          have hget : a.tmps[d]? = some (.bool c) := by
            simp only [Act.eval, Array.getD_eq_getD_getElem?] at hv
            cases hq : a.tmps[d]? with
            | none => rw [hq] at hv; simp [undef] at hv
            | some u => rw [hq] at hv; simp at hv; rw [hv]
          unfold yielded
          rw [hd2]
          simp only [Option.bind_some, hget]
        unfold wpOp
        rw [ho]
        show if Region.wanted o (yielded ops a.tmps) = true then _ else _
        have hyes : Region.wanted o (yielded ops a.tmps) = true → wantedBy qs o = true → (if Region.wanted o (yielded ops a.tmps) = true then o.wp Tryd.prog a w (wpAny Tryd.prog .any ops Q fuel (listed.setIfInBounds i true)) Q ∨ (o.asks Tryd.prog a w ∧ LetsOut Q) else wpAny Tryd.prog .any ops Q fuel (listed.setIfInBounds i true) (a.put o.dst undef) w) := by
          intro hwant hwb
          rw [if_pos hwant]
          refine .inl (Oper.wp_mono ?_ (hS.get i o hik (by rw [Array.getElem?_toList]; exact ho) hwb a w hK))
          rintro a' w' ⟨v, rfl, hb, hf⟩
          exact hnext v w' hb (hkeep hin v) hf
        cases hg : o.guard with
        | none => exact hyes (by unfold Region.wanted; rw [hg]) (by unfold wantedBy; rw [hg])
        | some jb =>
          obtain ⟨j, b⟩ := jb
          obtain ⟨hdp, h2⟩ := guardsOk_spec hG i o j b hik (by rw [Array.getElem?_toList]; exact ho) hg
          rcases h2 with h2 | h2
          · refine hyes ?_ (by unfold wantedBy; rw [hg]; exact h2)
            unfold Region.wanted
            rw [hg]
            show (yielded ops a.tmps j == some b) = true
            rw [hyield j b b hg hdp (Fk.isBool_spec h2)]; simp
          · have hno : Region.wanted o (yielded ops a.tmps) = false := by
              unfold Region.wanted
              rw [hg]
              show (yielded ops a.tmps j == some b) = false
              rw [hyield j b (!b) hg hdp (Fk.isBool_spec h2.1)]; cases b <;> rfl
            rw [if_neg (by rw [hno]; simp)]
            exact hnext undef w (Below.refl _ _) (hkeep hin undef) (Fk.isAny_spec h2.2 _ _)
/-- Two variables are made among the steps, numbers p and q. -/
theorem wp_region_two {id : Nat} {a0 : Act} {w : World} (qs : List Fk) (js : List Nat) (p q dp dq : Nat) (hp : isNew ops p dp = true) (hq : isNew ops q dq = true) (hpq : (p == q) = false) (hpk : decide (p < qs.length) = true) (hqk : decide (q < qs.length) = true) (hfp : qs.getD p .any = Fk.pn w.heap.size hz) (hfq : qs.getD q .any = Fk.pn w.heap.size hz)
    (hk : decide (qs.length ≤ ops.size) = true) (hE : backOk ops.toList = true) (hC : coverOk ops.toList qs.length = true) (hJ : chainOk ops (firstK qs.length ops.size) js = true)
    (hD : dstsOk a0.tmps.size (ops.toList.take qs.length) = true) (hG : guardsOk ops.toList qs.length qs ops.toList qs = true)
    (hS : Steps Tryd.prog Q ops.toList qs.length qs a0 w ops.toList qs)
    (hF : ∀ af w', Final ops.toList qs a0 af w' → af.eval (.tmp dp) ≠ af.eval (.tmp dq) → Below w.heap.size w w' → wpList Tryd.prog ops Q (js.filterMap (ops[·]?)) af w') :
    (Code.region id ops true).wp Tryd.prog Q a0 w := by
  have hne : p ≠ q := by simpa using hpq
  refine wp_region_any Tryd.mixed ?_
  refine wp_mids_new [p, q] js (of_decide_eq_true hk) hE hC hJ ?_ hD hG hS (fun af w' fin hap hb => hF af w' fin (hap p (by simp) q (by simp) hne dp dq (isNew_slot hp) (isNew_slot hq)) hb) ops.size _ a0 _ ?_ ?_ ?_ ?_
  · intro i hi
    simp only [List.mem_cons, List.not_mem_nil, or_false] at hi
    rcases hi with rfl | rfl
    · obtain ⟨o, h1, h2, h3, h4⟩ := isNew_spec hp
      exact ⟨of_decide_eq_true hpk, o, _, h1, h2, h3, h4, by unfold fkAt; rw [hfp]⟩
    · obtain ⟨o, h1, h2, h3, h4⟩ := isNew_spec hq
      exact ⟨of_decide_eq_true hqk, o, _, h1, h2, h3, h4, by unfold fkAt; rw [hfq]⟩
  · unfold unl
    exact Nat.le_trans (Array.countP_le_size) (by simp)
  · intro i o ho hl
    have : i < ops.size := (Array.getElem?_eq_some_iff.1 ho).1
    simp [this] at hl
  · intro i _ j _ _ hl
    exfalso
    rcases Nat.lt_or_ge i ops.size with h | h
    · simp [h] at hl
    · rw [Array.getD_eq_getD_getElem?, Array.getElem?_eq_none (by simpa using h)] at hl
      simp at hl
  · refine ⟨rfl, rfl, by simp, fun _ _ => rfl, fun i o d _ ho _ hl => ?_, fun i _ hi => ?_, (Below.refl _ _).drew⟩
    · have : i < ops.size := (Array.getElem?_eq_some_iff.1 ho).1
      simp [this] at hl
    · simp [hi]
end
end Go.Proofs.YtnanipeapjpkfaaDoor
namespace Go.Proofs.YtnanipeapjpkfaaDoor
set_option maxRecDepth 100000
open Go.RowKit
/-- 512 hashes of noughts, in cells. -/
def mk512 : Array Value := madeCells ((hz.map V).toArray) (512 * 32)
theorem mk512_at (j : Nat) (h : j < 512 * 32) : mk512[j]? = some (.int .u8 (bv (hz.getD (j % 32) 0))) := by
  have h2 : j % 32 < hz.length := by rw [hz_len]; omega
  have h3 : mk512.size = 512 * 32 := by unfold mk512; simp [size_madeCells]
  rw [Array.getElem?_eq_getElem (by rw [h3]; exact h)]
  unfold mk512
  simp only [madeCells, Array.getElem_map, Array.getElem_range, List.size_toArray, List.length_map, hz_len]
  have : (hz.map V).toArray[j % 32]? = some (V (hz.getD (j % 32) 0)) := by
    rw [List.getElem?_toArray, List.getElem?_map, List.getElem?_eq_getElem h2, Option.map_some, List.getD_eq_getElem?_getD, List.getElem?_eq_getElem h2]
    rfl
  rw [getElem!_def, this]
  rfl
theorem Tryd.make32L (w : World) : (Instr.makeSlice 32 (.int .i64 512) (.int .i64 512)).run Tryd.prog w = .ok (.slice (some ⟨w.heap.size, 0, none⟩) 512 512) (w.alloc (.cells mk512 23)) := by
  obtain ⟨i0, hi, hz0, hz1, hz2⟩ := info_parts Tryd.info23
  have := run_make (P := Tryd.prog) w 32 23 i0 _ Tryd.under32' hi hz0 .i64 .i64 512 512 (by omega) (by omega) (by rw [hz2]; omega) (by omega)
  rw [hz1] at this
  exact this
/-- 512 hashes of noughts. -/
def z512 : List (List (BitVec 8)) := List.replicate 512 hz
theorem rw_newL (w : World) : Rw (w.alloc (.cells mk512 23)) w.heap.size z512 := by
  unfold z512
  refine ⟨⟨fun _ => rfl, fun _ => by simp, fun i x hi => ?_⟩, by simp, fun j => ?_⟩
  · obtain ⟨h1, h2⟩ := List.getElem?_eq_some_iff.1 hi
    simp only [List.length_replicate] at h1
    obtain rfl : hz = x := by rw [← h2, List.getElem_replicate]
    refine ⟨hz_len, fun j hj => ?_⟩
    rw [hz_len] at hj
    rw [World.cell?_alloc_mark, mk512_at _ (by omega), show (0 + i * 32 + j) % 32 = j by omega]
  · have := heap_alloc_new w (.cells mk512 23)
    exact frozen_of_row _ _ j _ 23 this
/-- The first k of 512 are told, the others are noughts. -/
def part512 (F : Nat → List (BitVec 8)) (k : Nat) : List (List (BitVec 8)) := (List.range 512).map fun i => if i < k then F i else hz
theorem part_lenL (F : Nat → List (BitVec 8)) (k : Nat) : (part512 F k).length = 512 := by simp [part512]
theorem part_zeroL (F : Nat → List (BitVec 8)) : part512 F 0 = z512 := by
  unfold z512
  apply List.ext_getElem (by rw [part_lenL, List.length_replicate])
  intro i h1 h2
  rw [List.getElem_replicate]
  simp [part512]
theorem part_setL (F : Nat → List (BitVec 8)) (k : Nat) : (part512 F k).set k (F k) = part512 F (k + 1) := by
  apply List.ext_getElem (by simp [part512])
  intro i h1 h2
  rw [List.getElem_set]
  simp only [part512, List.getElem_map, List.getElem_range]
  by_cases e : k = i
  · subst e; simp
  · rw [if_neg e]
    by_cases h : i < k
    · rw [if_pos h, if_pos (by omega)]
    · rw [if_neg h, if_neg (by omega)]
/-- All 512. -/
def all512 (F : Nat → List (BitVec 8)) : List (List (BitVec 8)) := (List.range 512).map F
theorem part_allL (F : Nat → List (BitVec 8)) : part512 F 512 = all512 F := by
  apply List.ext_getElem (by simp [part512, all512])
  intro i h1 h2
  simp only [part512, List.length_map, List.length_range] at h1
  simp [part512, all512, h1]
theorem all_lenL (F : Nat → List (BitVec 8)) : (all512 F).length = 512 := by simp [all512]
theorem all_atL (F : Nat → List (BitVec 8)) (i : Nat) (h : i < 512) : (all512 F)[i]? = some (F i) := by simp [all512, h]
end Go.Proofs.YtnanipeapjpkfaaDoor
namespace Go.Proofs.YtnanipeapjpkfaaDoor
set_option maxRecDepth 100000
open Go.RowKit
theorem pub_anyL (g : Nat) (hs : List (List (BitVec 8))) (w : World) (hn : hs.length = 512) (hL : Rw w g hs) (hK : Tab w) :
    Calls Tryd.prog 52 #[.slice (some ⟨g, 0, none⟩) 512 512] w fun e w' => e = .returned (.agg ((pub hs).map V).toArray) ∧ Below w.heap.size w w' := public_any _ 512 512 g 0 hs w hn.symm hL.hl (by omega) hK
theorem iskey_yesL (n : Nat) (h : n ≤ 2147483647) (w : World) : Calls Tryd.prog 46 #[.int .i64 (n : Int)] w fun e w' => e = .returned (.bool true) ∧ w' = w := by
  have h1 : (0 : Int) ≤ (n : Int) := by omega
  have h2 : (n : Int) ≤ (2147483647 : Int) := by omega
  go_enter Tryd.func46, Tryd.ntmps46
  go_wp2
  go_ret
  exact ⟨rfl, rfl⟩
theorem iskey_noL (z : Int) (h : z < 0 ∨ 2147483647 < z) (w : World) : Calls Tryd.prog 46 #[.int .i64 z] w fun e w' => e = .returned (.bool false) ∧ w' = w := by
  rcases h with h | h
  · have h1 : ¬ ((0 : Int) ≤ z) := by omega
    clear h
    go_enter Tryd.func46, Tryd.ntmps46
    go_wp2
    go_ret
    exact ⟨rfl, rfl⟩
  · have h1 : (0 : Int) ≤ z := by omega
    have h2 : ¬ (z ≤ (2147483647 : Int)) := by omega
    clear h
    go_enter Tryd.func46, Tryd.ntmps46
    go_wp2
    go_ret
    exact ⟨rfl, rfl⟩
/-- The secret of bit p for b. -/
def sc (seed : List (BitVec 8)) (key : Int) (p b : Nat) : List (BitVec 8) := sec seed key ((67 + 2 * p + b : Nat) : Int)
/-- The end of what stands for bit p, for b. -/
def en (x : List (BitVec 8)) (p b : Nat) : List (BitVec 8) := chn ((67 + p : Nat) : Int) (b : Int) x
theorem sc_len (seed : List (BitVec 8)) (key : Int) (p b : Nat) : (sc seed key p b).length = 32 := sec_len _ _ _
theorem en_len (x : List (BitVec 8)) (p b : Nat) : (en x p b).length = 32 := chn_len _ _ _
set_option maxHeartbeats 400000 in
theorem sc_any (seed : List (BitVec 8)) (key : Int) (p b : Nat) (w : World) (hx : seed.length = 32) (hp : p ≤ 255) (hb : b ≤ 1) (hK : Tab w) :
    Calls Tryd.prog 48 #[.agg (seed.map V).toArray, .int .i64 key, .int .i64 (p : Int), .int .i64 (b : Int)] w fun e w' => e = .returned (.agg ((sc seed key p b).map V).toArray) ∧ Below w.heap.size w w' := by
  go_enter Tryd.func48, Tryd.ntmps48
  go_upto_region 1 with fail
  refine code_any (fun w1 => HasV w1 w.heap.size 23 seed ∧ HasV w1 (w.heap.size + 1) 23 hz ∧ Below w.heap.size w w1) ?_ ?_
  · exact ⟨heap_alloc2_old _ _ _, by exact heap_alloc2_new _ _ _, ((Below.refl _ _).alloc (Nat.le_refl _) _).alloc (by simp) _⟩
  rintro w1 ⟨hv1, hv2, hb1⟩
  have hs := Box.mk (sec_any seed key (67 + 2 * (p : Int) + (b : Int)) w1 hx (hK.below hb1))
  have hv1' : Box (w1.heap[w.heap.size]? = some (.cells (seed.map V).toArray 23 (0, 0))) := ⟨hv1⟩
  have hv2B := Box.mk hv2
  have hsz : Box ((seed.map V).toArray.size = 32) := ⟨by simp [hx]⟩
  obtain ⟨y, hy⟩ : ∃ y, Box (sec seed key (67 + 2 * (p : Int) + (b : Int)) = y) := ⟨_, ⟨rfl⟩⟩
  have hyl : Box ((y.map V).toArray.size = 32) := ⟨by rw [← hy.out]; simp [sec_len]⟩
  rw [hy.out] at hs
  clear hv1 hv2
  go_wp2_with (first | (refine wpList_load_row rfl 23 (.tmp 4) rfl w.heap.size rfl 23 _ (0, 0) _ hv1'.out Tryd.under23 rfl (by rw [hsz.out]; exact Tryd.size23) ?_) | (go_at_call 44; refine hs.out.mono ?_; rintro e w2 ⟨rfl, hb2⟩; have hk2 : Box (w2.heap[w.heap.size + 1]? = some (.cells (hz.map V).toArray 23 (0, 0))) := ⟨hv2B.out.below hb2 hv2B.out.lt⟩; have hb5 := Box.mk (hb1.trans (hb2.mono hb1.size)); clear hb2) | (refine wpList_store_row rfl 23 (.tmp 8) (.tmp 16) rfl (w.heap.size + 1) (y.map V).toArray rfl rfl 23 _ hk2.out (by rw [hyl.out]; exact Tryd.size23) (by rw [hyl.out]; rfl) (V_all _) ?_))
  refine bodyPost_ret (v := .agg (y.map V).toArray) ?_ rfl ⟨by rw [← hy.out]; unfold sc; rw [show ((67 + 2 * p + b : Nat) : Int) = 67 + 2 * (p : Int) + (b : Int) by omega], ?_⟩
  · exact results_cell_row (P := Tryd.prog) (fn := Tryd.f48) (p := 8) (ty := 23) rfl _ _ (w.heap.size + 1) 23 _ (0, 0) _ rfl (setRow_heap _ _ _ _ 23 (0, 0) hk2.out) Tryd.under23 rfl (by rw [hyl.out]; exact Tryd.size23)
  · exact hb5.out.trans (below_setRow _ _ _ _ (by omega))
set_option maxHeartbeats 400000 in
theorem en_any (x : List (BitVec 8)) (p b : Nat) (w : World) (hx : x.length = 32) (hp : p ≤ 255) (hK : Tab w) :
    Calls Tryd.prog 49 #[.agg (x.map V).toArray, .int .i64 (p : Int), .int .i64 (b : Int)] w fun e w' => e = .returned (.agg ((en x p b).map V).toArray) ∧ Below w.heap.size w w' := by
  go_enter Tryd.func49, Tryd.ntmps49
  go_upto_region 1 with fail
  refine code_any (fun w1 => HasV w1 w.heap.size 23 x ∧ HasV w1 (w.heap.size + 1) 23 hz ∧ Below w.heap.size w w1) ?_ ?_
  · exact ⟨heap_alloc2_old _ _ _, by exact heap_alloc2_new _ _ _, ((Below.refl _ _).alloc (Nat.le_refl _) _).alloc (by simp) _⟩
  rintro w1 ⟨hv1, hv2, hb1⟩
  have hs := Box.mk (chn_any x (67 + (p : Int)) (b : Int) w1 hx (hK.below hb1))
  have hv1' : Box (w1.heap[w.heap.size]? = some (.cells (x.map V).toArray 23 (0, 0))) := ⟨hv1⟩
  have hv2B := Box.mk hv2
  have hsz : Box ((x.map V).toArray.size = 32) := ⟨by simp [hx]⟩
  obtain ⟨y, hy⟩ : ∃ y, Box (chn (67 + (p : Int)) (b : Int) x = y) := ⟨_, ⟨rfl⟩⟩
  have hyl : Box ((y.map V).toArray.size = 32) := ⟨by rw [← hy.out]; simp [chn_len]⟩
  rw [hy.out] at hs
  clear hv1 hv2
  go_wp2_with (first | (refine wpList_load_row rfl 23 (.tmp 3) rfl w.heap.size rfl 23 _ (0, 0) _ hv1'.out Tryd.under23 rfl (by rw [hsz.out]; exact Tryd.size23) ?_) | (go_at_call 64; refine hs.out.mono ?_; rintro e w2 ⟨rfl, hb2⟩; have hk2 : Box (w2.heap[w.heap.size + 1]? = some (.cells (hz.map V).toArray 23 (0, 0))) := ⟨hv2B.out.below hb2 hv2B.out.lt⟩; have hb5 := Box.mk (hb1.trans (hb2.mono hb1.size)); clear hb2) | (refine wpList_store_row rfl 23 (.tmp 6) (.tmp 11) rfl (w.heap.size + 1) (y.map V).toArray rfl rfl 23 _ hk2.out (by rw [hyl.out]; exact Tryd.size23) (by rw [hyl.out]; rfl) (V_all _) ?_))
  refine bodyPost_ret (v := .agg (y.map V).toArray) ?_ rfl ⟨by rw [← hy.out]; unfold en; rw [show ((67 + p : Nat) : Int) = 67 + (p : Int) by omega], ?_⟩
  · exact results_cell_row (P := Tryd.prog) (fn := Tryd.f49) (p := 6) (ty := 23) rfl _ _ (w.heap.size + 1) 23 _ (0, 0) _ rfl (setRow_heap _ _ _ _ 23 (0, 0) hk2.out) Tryd.under23 rfl (by rw [hyl.out]; exact Tryd.size23)
  · exact hb5.out.trans (below_setRow _ _ _ _ (by omega))
end Go.Proofs.YtnanipeapjpkfaaDoor
namespace Go.Proofs.YtnanipeapjpkfaaDoor
set_option maxRecDepth 100000
open Go.RowKit Go.Shelf
attribute [local go_sem] Oper.semAt_some
/-- Bit k of a hash. -/
def bt (h : List (BitVec 8)) (k : Nat) : Nat := (h.getD (k / 8) 0).toNat / 2 ^ (7 - k % 8) % 2
theorem bt_le (h : List (BitVec 8)) (k : Nat) : bt h k ≤ 1 := by unfold bt; omega
/-- What has come when k rounds are over. -/
def ups (k : Nat) : List (Fin 256) := (List.range k).map (Fin.ofNat 256)
theorem ups_succ (k : Nat) (h : k < 256) : ups (k + 1) = ups k ++ [⟨k, h⟩] := by
  simp only [ups, List.range_succ, List.map_append, List.map_cons, List.map_nil]
  congr 2
  exact Fin.ext (Nat.mod_eq_of_lt h)
theorem ups_len (k : Nat) : (ups k).length = k := by simp [ups]
theorem ups_all (p : Fin 256) : p ∈ ups 256 := by
  simp only [ups, List.mem_map, List.mem_range]
  exact ⟨p.val, p.isLt, Fin.ext (Nat.mod_eq_of_lt p.isLt)⟩
/-- What a round is handed. -/
def enc (h : List (BitVec 8)) (p : Fin 256) : Array Value := #[.int .i64 (p.val : Int), .int .i64 (bt h p.val : Int)]
theorem shr_bit (x : BitVec 8) (n : Nat) : bits .and .u8 (bv x / 2 ^ n) 1 = ((x.toNat / 2 ^ n % 2 : Nat) : Int) := by
  unfold bv
  rw [show ((x.toNat : Int) / 2 ^ n) = ((x.toNat / 2 ^ n : Nat) : Int) by simp]
  have h1 := x.isLt
  have h2 : x.toNat / 2 ^ n < 256 := Nat.lt_of_le_of_lt (Nat.div_le_self _ _) h1
  generalize x.toNat / 2 ^ n = m at h2
  rw [u8_and _ _ (by omega) (by omega) (by omega) (by omega)]
  simp
/-- Block g lies as it lay. -/
def Kg (g : Nat) (W W' : World) : Prop := W'.heap[g]? = W.heap[g]?
theorem kg_t {g : Nat} {A B C : World} (h : Kg g A B) (k : Kg g B C) : Kg g A C := Eq.trans k h
theorem kg_b {g : Nat} {w : World} (hg : g < w.heap.size) (W : World) (l : Nat) (o o' : Obj) (hl : w.heap.size ≤ l) (_ : W.heap[l]? = some o) (_ : o.isCells = false) (_ : o.isWalk = false) : Kg g W (W.putObj l o') :=
  World.putObj_heap_other (by omega)
set_option maxRecDepth 100000 in
set_option maxHeartbeats 2000000 in
theorem it_in (F : Fence) (n : Nat) (h8 : F.fn 68) (hro : F.round = none) (hn : 1 ≤ n) (l g : Nat) (h : List (BitVec 8)) (hh : h.length = 32) (J Jx : List (Fin 256) → World → Prop)
    (hY : ∀ pre x W, J pre W → pre.length < 256 → YieldAt F (n - 1) Tryd.prog l (enc h x) W fun e W' =>
      (e = .returned (.bool true) ∧ J (pre ++ [x]) W' ∧ Kg g W W') ∨ (e = .returned (.bool false) ∧ Jx (pre ++ [x]) W'))
    (W : World) (hv : HasV W g 23 h) (h0 : J [] W) :
    CallsIn F n Tryd.prog 68 #[.func (.yield l) #[] #[], .pointer (some ⟨g, 0, none⟩)] W fun e W' => (∃ v, e = .returned v) ∧
      ((∃ ys, ys = ups 256 ∧ J ys W') ∨ (∃ pre, True ∧ Jx pre W')) := by
  refine callsIn_of_wp Tryd.func68 rfl h8 ?_ hro
  simp only [Tryd.ntmps68, List.size_toArray, List.length_cons, List.length_nil, Nat.reduceAdd, Nat.reduceSub, Array.replicate_succ, Array.replicate_zero, List.push_toArray, List.append_toArray, List.nil_append, List.cons_append]
  gi_wp2
  gi_loopw [5] (fun i wr => ∃ k : Nat, k ≤ 256 ∧ i = .int .i64 k ∧ J (ups k) wr ∧ Kg g W wr) (fun i _ => 256 - (intOf i).toNat)
  case atStart => exact ⟨0, Nat.zero_le _, rfl, h0, rfl⟩
  case round =>
    obtain ⟨k, hk, rfl, hJs, hnx⟩ := hrel
    by_cases hlt : k < 256
    · obtain ⟨fn, tmps, assign, body, hy, hR⟩ := hY _ ⟨k, hlt⟩ wr hJs (by rw [ups_len]; exact hlt)
      have hc : wr.cell? ⟨g, k / 8, none⟩ = some (.int .u8 (bv (h.getD (k / 8) 0))) := (World.cell?_of_block (a := ⟨g, k / 8, none⟩) hnx).trans (hv.cell _ (by omega))
      have hbl := bt_le h k
      have hb := shr_bit (h.getD (k / 8) 0) (7 - k % 8)
      dsimp only [enc] at hy
      rw [show (h.getD (k / 8) 0).toNat / 2 ^ (7 - k % 8) % 2 = bt h k from rfl] at hb
      generalize bt h k = b at hb hy hbl
      generalize h.getD (k / 8) 0 = x at hb hc
      gi_wp2
      refine hR.mono ?_
      rintro e W3 (⟨rfl, hJ3, hk3⟩ | ⟨rfl, hJx3⟩)
      · gi_wp2
        go_roundw
        case rel => exact ⟨k + 1, by omega, by simp, by rw [ups_succ k hlt]; exact hJ3, kg_t hnx hk3⟩
        case measure => simp [intOf]; omega
      · gi_wp2
        refine bodyPost_ret (results_none rfl _ _ _) rfl ?_
        exact ⟨⟨_, rfl⟩, .inr ⟨_, trivial, hJx3⟩⟩
    · obtain rfl : k = 256 := by omega
      gi_wp2
      go_end0
      exact ⟨⟨_, rfl⟩, .inl ⟨_, rfl, hJs⟩⟩
theorem it_stops (F : Fence) (n : Nat) (h8 : F.fn 68) (hro : F.round = none) (hn : 1 ≤ n) (g : Nat) (h : List (BitVec 8)) (hh : h.length = 32) (w : World) (hv : HasV w g 23 h) :
    SeqStopsK F n Tryd.prog 68 #[.pointer (some ⟨g, 0, none⟩)] (enc h) (Kg g) (fun ys => ys = ups 256) (fun _ => True) 256 w := fun l J Jx W hW _ _ hY h0 =>
  it_in F n h8 hro hn l g h hh J Jx hY W (hv.below hW hv.lt) h0
set_option maxHeartbeats 400000 in
theorem of_any (h : List (BitVec 8)) (w : World) :
    Calls Tryd.prog 47 #[.agg (h.map V).toArray] w fun e w' => e = .returned (.func (.func 68) #[] #[.pointer (some ⟨w.heap.size, 0, none⟩)]) ∧ w' = w.alloc (.cells (h.map V).toArray 23) := by
  go_enter Tryd.func47, Tryd.ntmps47
  go_wp2
  go_ret
  exact ⟨rfl, rfl⟩
/-- Cells lie on where what is turned is no cells. -/
theorem own_block {A B : World} {row : Option Nat} {k bd : Nat} {o : Obj} (h : A.heap[k]? = some o) (ho : o.isCells = true) (hg : A.grownBy B row) (hr : ∀ r, row = some r → bd ≤ r ∧ ∃ o : Obj, A.heap[r]? = some o ∧ o.isCells = false) : B.heap[k]? = some o := by
  refine (hg.block k (Array.getElem?_eq_some_iff.1 h).1 (fun e => ?_)).trans h
  obtain ⟨_, o', h1, h2⟩ := hr k e.symm
  rw [h] at h1
  obtain rfl := Option.some.inj h1
  rw [ho] at h2; cases h2
/-- The same where the block for deferred calls is turned. -/
theorem own_put {W : World} {k D : Nat} {o o' p : Obj} (h : W.heap[k]? = some o) (ho : o.isCells = true) (hD : W.heap[D]? = some p) (hp : p.isCells = false) : (W.putObj D o').heap[k]? = some o :=
  own_block (bd := 0) h ho (grownBy_putObj' W D o') (fun r e => by cases e; exact ⟨Nat.zero_le _, p, hD, hp⟩)
end Go.Proofs.YtnanipeapjpkfaaDoor
