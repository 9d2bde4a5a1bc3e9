/- What pad makes of a digest, what a digest's Sum and sha.Sum hand back. -/
import Derived.Test.YtfhhlkbcoofemaaDoorWe
import Derived.Test.YtfhhlkbcoofemaaDoorWf
namespace Go.Proofs.YtfhhlkbcoofemaaDoor
open Go.RowKit
def PZ : List (BitVec 8) := List.replicate 72 0
theorem Tryd.zero69 (w : World) : (zeroValue 69).run Tryd.prog w = .ok (.agg (PZ.map V).toArray) w := by kernel_rfl
theorem Tryd.under69 : Tryd.prog.underlying 69 = some (.array 72 5) := by kernel_rfl
theorem Tryd.len69 : Tryd.prog.arrayLen 69 = 72 := by kernel_rfl
theorem Tryd.elem69 : Tryd.prog.elem 69 = 5 := by kernel_rfl
theorem Tryd.slice69 (b pe : Nat) (h : pe ≤ 64) (w : World) : (Instr.sliceAt 69 (.pointer (some ⟨b, 0, none⟩)) none (some (.int .i64 ((pe : Int) + 8))) none).run Tryd.prog w = .ok (.slice (some ⟨b, 0, none⟩) (pe + 8) 72) w := by
  rw [run_sliceAt_array_h w 69 ⟨b, 0, none⟩ (by rw [Tryd.len69, Tryd.elem69]; exact Tryd.under69) .i64 _ (by omega) (by rw [Tryd.len69]; omega), Tryd.elem69, Tryd.sizeOf5, Tryd.len69]
  have e : ((pe : Int) + 8).toNat = pe + 8 := by omega
  simp only [Result.andThen, slicedAt, e]
  rfl
set_option maxHeartbeats 400000 in
theorem pad_any (db : Nat) (d : Dg) (w : World) (hd : HasD w db 63 d) (hlen : d.len ≤ 576460752303423488) (hK : HasK w 0) (h0 : 0 < w.heap.size) (hdb : db ≠ 0) :
    Calls Tryd.prog 31 #[.pointer (some ⟨db, 0, none⟩)] w fun e w' => e = .returned (.tuple #[]) ∧ HasD w' db 63 (d.write (padOf d.len)) ∧ Only db w w' := by
  have hnum := hd.num
  have hlt := hd.lt
  obtain ⟨st, blk, len⟩ := d
  simp only at hnum hlen
  go_enter Tryd.func31, Tryd.ntmps31
  have hz := Tryd.zero69
  go_upto_region 1 with fail
  clear hz
  refine code_any (fun w1 => HasV w1 w.heap.size 69 PZ ∧ HasD w1 db 63 ⟨st, blk, len⟩ ∧ Below w.heap.size w w1) ?_ ?_
  · have hb : Below w.heap.size w (w.alloc (.cells (PZ.map V).toArray 69)) := (Below.refl _ _).alloc (Nat.le_refl _) _
    exact ⟨heap_alloc_new _ _, hd.below hb, hb⟩
  rintro w1 ⟨hv, hd1, hb1⟩
  have hnum1 := hd1.num
  have z0 := hv.cell 0 (by decide)
  have zf := hv.frozen 0
  clear hnum hd
  have hv1 : Box (HasV (w1.setCell ⟨w.heap.size, 0, none⟩ (.int .u8 128)) w.heap.size 69 (padArr len 0)) := ⟨hv.set 0 128⟩
  have hd2 : Box (HasD (w1.setCell ⟨w.heap.size, 0, none⟩ (.int .u8 128)) db 63 ⟨st, blk, len⟩) := ⟨hd1.only ((Only.refl w.heap.size w1).setCell _ _) (by omega)⟩
  have hb2 : Below w.heap.size w (w1.setCell ⟨w.heap.size, 0, none⟩ (.int .u8 128)) := hb1.setCell (by simp) _
  clear hv hd1 hb1
  have e1 : (1 + (119 - (len : Int)) % 64 : Int) = ((padEnd len : Nat) : Int) := by unfold padEnd; omega
  have hpe : padEnd len ≤ 64 ∧ 1 ≤ padEnd len := by unfold padEnd; omega
  have e1' : Box ((1 + (119 - (len : Int)) % 64 : Int) = ((padEnd len : Nat) : Int)) := ⟨e1⟩
  clear e1
  go_wp2
  rw [e1'.out]
  clear e1' hnum1 z0 zf
  go_loopw [21] (fun i wr => ∃ k : Nat, k ≤ 8 ∧ i = .int .i64 k ∧ HasV wr w.heap.size 69 (padArr len k) ∧ HasD wr db 63 ⟨st, blk, len⟩ ∧ Below w.heap.size w wr) (fun i _ => 8 - (intOf i).toNat)
  case atStart => exact ⟨0, by omega, rfl, hv1.out, hd2.out, hb2⟩
  case round =>
    clear hv1 hd2 hb2
    obtain ⟨k, hk, rfl, hv, hd, hb⟩ := hrel
    by_cases hlt8 : k < 8
    · have c0 := hv.cell (padEnd len + k) (by rw [padArr_len]; omega)
      have f0 := hv.frozen (padEnd len + k)
      generalize (padArr len k).getD (padEnd len + k) 0 = y0 at c0
      have hv' : Box (HasV wr w.heap.size 69 (padArr len k)) := ⟨hv⟩
      have HR : Box (HasV _ w.heap.size 69 (padArr len (k + 1))) := ⟨hv.set (padEnd len + k) (cb len k)⟩
      generalize padEnd len = pe at *
      clear hv
      go_wp2
      go_roundw
      case rel =>
        have ec : ((len : Int) * 8 / 2 ^ (8 * (7 - k)) % 256 : Int) = bv (cb len k) := by unfold cb; rw [bv_lit]; simp
        rw [ec]
        refine ⟨k + 1, by omega, by go_num, HR.out, ?_, ?_⟩
        · exact hd.only ((Only.refl w.heap.size wr).setCell _ _) (by omega)
        · exact hb.setCell (by simp) _
      case measure => simp [intOf]; omega
    · have hk8 : Box (k = 8) := ⟨by omega⟩
      have hsz : w.heap.size < wr.heap.size := hv.lt
      have hv' : Box (HasV wr w.heap.size 69 (padArr len k)) := ⟨hv⟩
      have hd' : Box (HasD wr db 63 ⟨st, blk, len⟩) := ⟨hd⟩
      have hsl := Tryd.slice69 w.heap.size (padEnd len) hpe.1
      clear hv hd
      go_wp2_with fail
      have hpl : (padOf len).length = padEnd len + 8 := by unfold padOf; rw [List.length_take, padArr_len]; omega
      refine (write_any db w.heap.size 0 _ _ _ (padOf len) ⟨st, blk, len⟩ wr hd'.out ⟨hpl.symm, by omega, fun _ => ⟨rfl, hsz, by omega, ?_⟩⟩ (by simp only; omega) (hK.below hb h0) (by have := hb.size; omega) hdb).mono ?_
      · have e := hk8.out
        subst e
        exact hv'.out.bytes.take _
      rintro e w6 ⟨rfl, hD, hO⟩
      go_wp2
      go_end0
      exact ⟨rfl, hD, (Only.of_below hb).trans hO⟩
theorem Tryd.agg63 : (Tryd.prog.underlying 63).map aggB = some true := by kernel_rfl
theorem Tryd.size63 : (Tryd.prog.info? 63).map (·.size) = some 73 := by kernel_rfl
theorem Dg.cells_one (d : Dg) : (d.cells.toArray).all (·.oneCell') = true := by
  simp [Dg.cells, U, V, Value.oneCell']
set_option maxHeartbeats 400000 in
theorem dsum_any (db : Nat) (d : Dg) (w : World) (hd : HasD w db 63 d) (hlen : d.len ≤ 576460752303423488) (hK : HasK w 0) (h0 : 0 < w.heap.size) :
    Calls Tryd.prog 28 #[.pointer (some ⟨db, 0, none⟩)] w fun e w' => e = .returned (.agg (d.sum.map V).toArray) ∧ Below w.heap.size w w' := by
  have hz := Tryd.zero63
  have hlt := hd.lt
  have hs73 : Box (d.cells.toArray.size = 73) := ⟨by simpa using Dg.size d hd.1⟩
  go_enter Tryd.func28, Tryd.ntmps28
  go_upto_region 1 with fail
  refine code_any (fun w1 => HasV w1 w.heap.size 23 (hsh d.st 0) ∧ HasD w1 db 63 d ∧ Below w.heap.size w w1) ?_ ?_
  · have hb : Below w.heap.size w (w.alloc (.cells ((hsh d.st 0).map V).toArray 23)) := (Below.refl _ _).alloc (Nat.le_refl _) _
    exact ⟨heap_alloc_new _ _, hd.below hb, hb⟩
  rintro w1 ⟨hv1, hd1, hb1⟩
  have hd1' : Box (HasD w1 db 63 d) := ⟨hd1⟩
  have hcur : Box (w1.heap[db]? = _) := ⟨hd1.2⟩
  clear hd hd1
  go_wp2_with (first | (refine wpList_load_agg rfl 63 (.tmp 5) rfl db rfl 63 _ (0, 0) hcur.out Tryd.agg63 (by rw [hs73.out]; exact Tryd.size63) ?_) | (refine wpList_store_row rfl 63 (.tmp 3) (.tmp 6) rfl w1.heap.size d.cells.toArray rfl rfl 63 _ (heap_alloc_new _ _) (by rw [hs73.out]; exact Tryd.size63) (by rw [hs73.out]; rfl) (Dg.cells_one d) ?_))
  have hb2 : Below w1.heap.size w1 ((w1.alloc (Obj.cells Dg.zero.cells.toArray 63)).setRow w1.heap.size d.cells.toArray) := ((Below.refl _ _).alloc (Nat.le_refl _) _).trans (below_setRow _ _ _ _ (Nat.le_refl _))
  have hd2 : HasD ((w1.alloc (Obj.cells Dg.zero.cells.toArray 63)).setRow w1.heap.size d.cells.toArray) w1.heap.size 63 d := ⟨hd1'.out.1, setRow_heap _ _ _ _ 63 (0, 0) (heap_alloc_new _ _)⟩
  generalize (w1.alloc (Obj.cells Dg.zero.cells.toArray 63)).setRow w1.heap.size d.cells.toArray = w2 at hb2 hd2 ⊢
  refine (pad_any w1.heap.size d w2 hd2 hlen ((hK.below hb1 h0).below hb2 (by have := hb1.size; omega)) (by have := hb1.size; have := hb2.size; omega) (by have := hb1.size; omega)).mono ?_
  rintro e w3 ⟨rfl, hD3, hO3⟩
  have hb3 : Below w1.heap.size w1 w3 := hb2.trans (hO3.below _ (Nat.le_refl _) hb2.size)
  have hv3 : HasV w3 w.heap.size 23 (hsh d.st 0) := hv1.below hb3 hv1.lt
  have hb4 : Below w.heap.size w w3 := hb1.trans (hb3.mono hb1.size)
  have hS : Box (d.sum = hsh (d.write (padOf d.len)).st 8) := ⟨rfl⟩
  clear hb2 hd2 hO3 hb3 hv1 hd1' hcur hb1 hz
  generalize d.write (padOf d.len) = d' at hD3 hS
  have g0 := hD3.s0
  have g1 := hD3.s1
  have g2 := hD3.s2
  have g3 := hD3.s3
  have g4 := hD3.s4
  have g5 := hD3.s5
  have g6 := hD3.s6
  have g7 := hD3.s7
  clear hD3
  go_wp2_with fail
  refine (hashOf_any d'.st _).mono ?_
  rintro e w4 ⟨rfl, hb5⟩
  have hv5 : w4.heap[w.heap.size]? = some (.cells ((hsh d.st 0).map V).toArray 23 (0, 0)) := hv3.below hb5 hv3.lt
  have hb6 : Below w.heap.size w w4 := hb4.trans (hb5.mono hb4.size)
  clear g0 g1 g2 g3 g4 g5 g6 g7 hv3 hb4 hb5
  have hl : Box (((hsh d'.st 8).map V).toArray.size = 32) := ⟨by simp [hsh_len]⟩
  generalize hsh d'.st 8 = hh at hS hl
  go_wp2_with (refine wpList_store_row rfl 23 (.tmp 2) (.tmp 10) rfl w.heap.size (hh.map V).toArray rfl rfl 23 _ hv5 (by rw [hl.out]; exact Tryd.size23) (by rw [hl.out]; rfl) (V_all _) ?_)
  rw [hS.out]
  refine bodyPost_ret (v := .agg (hh.map V).toArray) ?_ rfl ⟨rfl, ?_⟩
  · exact results_cell_row (P := Tryd.prog) (fn := Tryd.f28) (p := 2) (ty := 23) rfl _ _ w.heap.size 23 _ (0, 0) _ rfl (setRow_heap _ _ _ _ 23 (0, 0) hv5) Tryd.under23 rfl (by rw [hl.out]; exact Tryd.size23)
  · exact hb6.trans (below_setRow _ _ _ _ (Nat.le_refl _))
/-- The sum of bytes. -/
def shaOf (bs : List (BitVec 8)) : List (BitVec 8) := (Dg.new.write bs).sum
theorem hsh32 (s : St) (k : Nat) : ((hsh s k).map V).toArray.size = 32 := by simp [hsh_len]
theorem Dg.write_len (d : Dg) (b : List (BitVec 8)) : (d.write b).len = d.len + b.length := by
  unfold Dg.write Dg.rest
  split
  · rfl
  · split <;> rfl
set_option maxHeartbeats 400000 in
theorem sum_any (ab ao : Nat) (a : Option Addr) (n c : Nat) (bs : List (BitVec 8)) (w : World) (hn : n = bs.length) (hnc : n ≤ c) (hs : 0 < n → a = some ⟨ab, ao, none⟩ ∧ ab < w.heap.size ∧ HasB w ab ao bs) (hlen : n ≤ 576460752303423488) (hK : HasK w 0) (h0 : 0 < w.heap.size) :
    Calls Tryd.prog 24 #[.slice a n c] w fun e w' => e = .returned (.agg ((shaOf bs).map V).toArray) ∧ Below w.heap.size w w' := by
  have hn' : Box (n = bs.length) := ⟨hn⟩
  clear hn
  go_enter Tryd.func24, Tryd.ntmps24
  go_upto_region 1 with fail
  refine code_any (fun w1 => HasV w1 w.heap.size 23 (hsh St.first 0) ∧ Below w.heap.size w w1) ?_ ?_
  · exact ⟨heap_alloc_new _ _, (Below.refl _ _).alloc (Nat.le_refl _) _⟩
  rintro w1 ⟨hv1, hb1⟩
  go_wp2_with fail
  refine (new_any w1).mono ?_
  rintro e w2 ⟨db, rfl, hdb, hD2, hb2⟩
  have hv1l := hv1.lt
  have hK2 : HasK w2 0 := (hK.below hb1 h0).below hb2 (by omega)
  have hz1 := hb1.size
  have hz2 := hb2.size
  have hv2 := hv1.below hb2 hv1l
  have hs2 : Src w2 db ab ao a n c bs := ⟨hn'.out, hnc, fun h => by
    obtain ⟨e, hab, hB⟩ := hs h
    exact ⟨e, by omega, by omega, (hB.below hb1 hab).below hb2 (by omega)⟩⟩
  have hb12 : Below w.heap.size w w2 := hb1.trans (hb2.mono hz1)
  clear hK hs hv1 hb1 hb2
  go_wp2_with fail
  refine (write_any db ab ao a n c bs Dg.new w2 hD2 hs2 (by show 0 + n ≤ _; omega) hK2 (by omega) (by omega)).mono ?_
  rintro e w3 ⟨rfl, hD3, hO3⟩
  have hz3 := hO3.size
  have hK3 : HasK w3 0 := hK2.only hO3 (by omega) (by omega)
  have hb23 : Below db w2 w3 := hO3.below _ (Nat.le_refl _) (by have := hD2.lt; omega)
  have hv3 : HasV w3 w.heap.size 23 (hsh St.first 0) := hv2.below hb23 (by omega)
  have hb3 : Below w.heap.size w w3 := hb12.trans (hb23.mono (by omega))
  clear hb12 hO3 hb23 hv2 hK2 hD2 hs2
  have hl3 : (Dg.new.write bs).len ≤ 576460752303423488 := by rw [Dg.write_len, ← hn'.out]; show 0 + n ≤ _; omega
  have hS : Box (shaOf bs = (Dg.new.write bs).sum) := ⟨rfl⟩
  generalize Dg.new.write bs = d' at hD3 hl3 hS
  go_wp2_with fail
  refine (dsum_any db d' w3 hD3 hl3 hK3 (by omega)).mono ?_
  rintro e w4 ⟨rfl, hb4⟩
  have hv5 : w4.heap[w.heap.size]? = some (.cells ((hsh St.first 0).map V).toArray 23 (0, 0)) := hv3.below hb4 hv3.lt
  have hb6 : Below w.heap.size w w4 := hb3.trans (hb4.mono hb3.size)
  clear hv3 hb3 hb4
  have hl : Box ((d'.sum.map V).toArray.size = 32) := ⟨hsh32 _ _⟩
  generalize d'.sum = hh at hS hl
  go_wp2_with (refine wpList_store_row rfl 23 (.tmp 2) (.tmp 9) rfl w.heap.size (hh.map V).toArray rfl rfl 23 _ hv5 (by rw [hl.out]; exact Tryd.size23) (by rw [hl.out]; rfl) (V_all _) ?_)
  rw [hS.out]
  refine bodyPost_ret (v := .agg (hh.map V).toArray) ?_ rfl ⟨rfl, ?_⟩
  · exact results_cell_row (P := Tryd.prog) (fn := Tryd.f24) (p := 2) (ty := 23) rfl _ _ w.heap.size 23 _ (0, 0) _ rfl (setRow_heap _ _ _ _ 23 (0, 0) hv5) Tryd.under23 rfl (by rw [hl.out]; exact Tryd.size23)
  · exact hb6.trans (below_setRow _ _ _ _ (Nat.le_refl _))
end Go.Proofs.YtfhhlkbcoofemaaDoor
