/- What hashOf hands back: the bytes of the eight numbers, the highest of each first. What pad makes of a digest, what a digest's Sum and sha.Sum hand back. Plain: a digest that was written to part by part has the sum of all its bytes. No program is spoken of but through the functions on digests. What Show hands back: the text of a hash; and the text of the sum of 'abc'. Digests by the bytes that they have: what New, Write, Sum, Len and Copy do; and the bytes that append makes. Lists of slices of bytes in memory, and what Input hands back: the kind's byte, and the bytes of the parts one behind the other, in new memory. What tag's sum, Leaf, Message, File and Record hand back: the sums of just their bytes. What awake answers; Record; the bytes of numbers. Plain: two arrays of bytes are told equal just if they are. Steps of a drawn region: what an operation needs, and what is told of its slot behind it. What Node, Chain, Secret and Record hand back: the sums of just their bytes. Steps of a drawn region over texts, bytes and bools. Regions that end in an assignment; steps over numbers. Lists of hashes in memory, and what Public hands back. Numbers in memory, append of numbers, and the digits of a hash, plain. What wots.Digits hands back: the 67 digits, in new memory. Steps of chains: what the laws' walked and wots.Walk hand back. -/
import Derived.Test.YtfmeeimhfdnjpaaDoorM1
import Derived.Laws.AppendOwnNone
import Derived.Laws.MakeOwn
import Derived.Laws.Concat
import Derived.Laws.Small
import Derived.Laws.OwnMore
import Derived.Deep.MidRow
namespace Go.Proofs.YtfmeeimhfdnjpaaDoor
set_option maxRecDepth 100000
open Go.RowKit
theorem Tryd.under33 : Tryd.prog.underlying 33 = some (.array 32 5) := by kernel_rfl
theorem Tryd.size33 : (Tryd.prog.info? 33).map (·.size) = some 32 := by kernel_rfl
theorem heap_alloc3 (w : World) (A B C : Obj) : (((w.alloc A).alloc B).alloc C).heap[w.heap.size + 1 + 1]? = some C ∧ (((w.alloc A).alloc B).alloc C).heap[w.heap.size + 1]? = some B := by
  have e : (w.alloc A).heap.size = w.heap.size + 1 := by simp
  have h1 := heap_alloc2_new (w.alloc A) B C
  have h2 := heap_alloc2_old (w.alloc A) B C
  rw [e] at h1 h2
  exact ⟨h1, h2⟩
theorem Tryd.idx91_0 (s : St) (w : World) : (Instr.index 91 (.agg #[.int .u32 (vl s.a), .int .u32 (vl s.b), .int .u32 (vl s.c), .int .u32 (vl s.d), .int .u32 (vl s.e), .int .u32 (vl s.f), .int .u32 (vl s.g), .int .u32 (vl s.h)]) (.int .i64 ((0 : Nat) : Int))).run Tryd.prog w = .ok (.int .u32 (vl s.a)) w := by kernel_rfl
theorem Tryd.idx91_1 (s : St) (w : World) : (Instr.index 91 (.agg #[.int .u32 (vl s.a), .int .u32 (vl s.b), .int .u32 (vl s.c), .int .u32 (vl s.d), .int .u32 (vl s.e), .int .u32 (vl s.f), .int .u32 (vl s.g), .int .u32 (vl s.h)]) (.int .i64 ((1 : Nat) : Int))).run Tryd.prog w = .ok (.int .u32 (vl s.b)) w := by kernel_rfl
theorem Tryd.idx91_2 (s : St) (w : World) : (Instr.index 91 (.agg #[.int .u32 (vl s.a), .int .u32 (vl s.b), .int .u32 (vl s.c), .int .u32 (vl s.d), .int .u32 (vl s.e), .int .u32 (vl s.f), .int .u32 (vl s.g), .int .u32 (vl s.h)]) (.int .i64 ((2 : Nat) : Int))).run Tryd.prog w = .ok (.int .u32 (vl s.c)) w := by kernel_rfl
theorem Tryd.idx91_3 (s : St) (w : World) : (Instr.index 91 (.agg #[.int .u32 (vl s.a), .int .u32 (vl s.b), .int .u32 (vl s.c), .int .u32 (vl s.d), .int .u32 (vl s.e), .int .u32 (vl s.f), .int .u32 (vl s.g), .int .u32 (vl s.h)]) (.int .i64 ((3 : Nat) : Int))).run Tryd.prog w = .ok (.int .u32 (vl s.d)) w := by kernel_rfl
theorem Tryd.idx91_4 (s : St) (w : World) : (Instr.index 91 (.agg #[.int .u32 (vl s.a), .int .u32 (vl s.b), .int .u32 (vl s.c), .int .u32 (vl s.d), .int .u32 (vl s.e), .int .u32 (vl s.f), .int .u32 (vl s.g), .int .u32 (vl s.h)]) (.int .i64 ((4 : Nat) : Int))).run Tryd.prog w = .ok (.int .u32 (vl s.e)) w := by kernel_rfl
theorem Tryd.idx91_5 (s : St) (w : World) : (Instr.index 91 (.agg #[.int .u32 (vl s.a), .int .u32 (vl s.b), .int .u32 (vl s.c), .int .u32 (vl s.d), .int .u32 (vl s.e), .int .u32 (vl s.f), .int .u32 (vl s.g), .int .u32 (vl s.h)]) (.int .i64 ((5 : Nat) : Int))).run Tryd.prog w = .ok (.int .u32 (vl s.f)) w := by kernel_rfl
theorem Tryd.idx91_6 (s : St) (w : World) : (Instr.index 91 (.agg #[.int .u32 (vl s.a), .int .u32 (vl s.b), .int .u32 (vl s.c), .int .u32 (vl s.d), .int .u32 (vl s.e), .int .u32 (vl s.f), .int .u32 (vl s.g), .int .u32 (vl s.h)]) (.int .i64 ((6 : Nat) : Int))).run Tryd.prog w = .ok (.int .u32 (vl s.g)) w := by kernel_rfl
theorem Tryd.idx91_7 (s : St) (w : World) : (Instr.index 91 (.agg #[.int .u32 (vl s.a), .int .u32 (vl s.b), .int .u32 (vl s.c), .int .u32 (vl s.d), .int .u32 (vl s.e), .int .u32 (vl s.f), .int .u32 (vl s.g), .int .u32 (vl s.h)]) (.int .i64 ((7 : Nat) : Int))).run Tryd.prog w = .ok (.int .u32 (vl s.h)) w := by kernel_rfl
theorem Tryd.idx91 (s : St) (k : Nat) (h : k < 8) (w : World) : (Instr.index 91 (.agg #[.int .u32 (vl s.a), .int .u32 (vl s.b), .int .u32 (vl s.c), .int .u32 (vl s.d), .int .u32 (vl s.e), .int .u32 (vl s.f), .int .u32 (vl s.g), .int .u32 (vl s.h)]) (.int .i64 (k : Int))).run Tryd.prog w = .ok (.int .u32 (vl (s.list.getD k 0))) w := by
  have hc : k = 0 ∨ k = 1 ∨ k = 2 ∨ k = 3 ∨ k = 4 ∨ k = 5 ∨ k = 6 ∨ k = 7 := by omega
  rcases hc with rfl | rfl | rfl | rfl | rfl | rfl | rfl | rfl
  · exact Tryd.idx91_0 s w
  · exact Tryd.idx91_1 s w
  · exact Tryd.idx91_2 s w
  · exact Tryd.idx91_3 s w
  · exact Tryd.idx91_4 s w
  · exact Tryd.idx91_5 s w
  · exact Tryd.idx91_6 s w
  · exact Tryd.idx91_7 s w
attribute [local go_sem] byt0 byt1 byt2 byt3
set_option maxHeartbeats 400000 in
theorem hashOf_any (s : St) (w : World) :
    Calls Tryd.prog 59 #[.agg #[.int .u32 (vl s.a), .int .u32 (vl s.b), .int .u32 (vl s.c), .int .u32 (vl s.d), .int .u32 (vl s.e), .int .u32 (vl s.f), .int .u32 (vl s.g), .int .u32 (vl s.h)]] w fun e w' => e = .returned (.agg ((hsh s 8).map V).toArray) ∧ Below w.heap.size w w' := by
  go_enter Tryd.func59, Tryd.ntmps59
  go_wp2
  go_loopw [7] (fun i wr => ∃ k : Nat, k ≤ 8 ∧ i = .int .i64 k ∧ Below w.heap.size w wr ∧ HasV wr (w.heap.size + 1 + 1) 33 (hsh s k) ∧ HasV wr (w.heap.size + 1) 33 (hsh s 0)) (fun i _ => 8 - (intOf i).toNat)
  case atStart =>
    refine ⟨0, by omega, rfl, ?_, ?_, ?_⟩
    · exact (((Below.refl _ _).alloc (Nat.le_refl _) _).alloc (by simp) _).alloc (by simp; omega) _
    · exact (heap_alloc3 _ _ _ _).1
    · exact (heap_alloc3 _ _ _ _).2
  case round =>
    obtain ⟨k, hk, rfl, hb, hw, hr⟩ := hrel
    by_cases hlt : k < 8
    · have hidx := Tryd.idx91 s k hlt
      have HR : Box (HasV _ _ 33 (hsh s (k + 1))) := ⟨(((hw.set (4 * k) (byt (s.list.getD k 0) 0)).set (4 * k + 1) (byt (s.list.getD k 0) 1)).set (4 * k + 2) (byt (s.list.getD k 0) 2)).set (4 * k + 3) (byt (s.list.getD k 0) 3)⟩
      generalize s.list.getD k 0 = x at hidx HR
      have c0 := hw.cell (4 * k) (by rw [hsh_len]; omega)
      have c1 := hw.cell (4 * k + 1) (by rw [hsh_len]; omega)
      have c2 := hw.cell (4 * k + 2) (by rw [hsh_len]; omega)
      have c3 := hw.cell (4 * k + 3) (by rw [hsh_len]; omega)
      have f0 := hw.frozen (4 * k)
      have f1 := hw.frozen (4 * k + 1)
      have f2 := hw.frozen (4 * k + 2)
      have f3 := hw.frozen (4 * k + 3)
      clear hw
      generalize (hsh s k).getD (4 * k) 0 = y0 at c0
      generalize (hsh s k).getD (4 * k + 1) 0 = y1 at c1
      generalize (hsh s k).getD (4 * k + 2) 0 = y2 at c2
      generalize (hsh s k).getD (4 * k + 3) 0 = y3 at c3
      go_wp2
      go_roundw
      case rel =>
        refine ⟨k + 1, by omega, by go_num, ?_, HR.out, ?_⟩
        · exact (((hb.setCell (by simp; omega) _).setCell (by simp; omega) _).setCell (by simp; omega) _).setCell (by simp; omega) _
        · exact (((hr.other _ _ (by simp)).other _ _ (by simp)).other _ _ (by simp)).other _ _ (by simp)
      case measure => simp [intOf]; omega
    · have hk8 : Box (k = 8) := ⟨by omega⟩
      have hw' : wr.heap[w.heap.size + 1 + 1]? = some (.cells ((hsh s k).map V).toArray 33 (0, 0)) := hw
      have hr' : wr.heap[w.heap.size + 1]? = some (.cells ((hsh s 0).map V).toArray 33 (0, 0)) := hr
      have hl : Box (((hsh s k).map V).toArray.size = 32) := ⟨by simp [hsh_len]⟩
      clear hw hr
      go_wp2_with (first | (refine wpList_load_row rfl 33 (.tmp 3) rfl (w.heap.size + 1 + 1) rfl 33 _ (0, 0) _ hw' Tryd.under33 rfl (by rw [hl.out]; exact Tryd.size33) ?_) | (refine wpList_store_row rfl 33 (.tmp 2) (.tmp 38) rfl (w.heap.size + 1) ((hsh s k).map V).toArray rfl rfl 33 _ hr' (by rw [hl.out]; exact Tryd.size33) (by simp [hsh_len]) (V_all _) ?_))
      have e := hk8.out
      subst e
      refine bodyPost_ret (v := .agg ((hsh s 8).map V).toArray) ?_ rfl ⟨rfl, ?_⟩
      · exact results_cell_row (P := Tryd.prog) (fn := Tryd.f59) (p := 2) (ty := 33) rfl _ _ (w.heap.size + 1) 33 _ (0, 0) _ rfl (setRow_heap _ _ _ _ 33 (0, 0) hr') Tryd.under33 rfl (by rw [hl.out]; exact Tryd.size33)
      · exact hb.trans (below_setRow _ _ _ _ (by omega))
end Go.Proofs.YtfmeeimhfdnjpaaDoor
namespace Go.Proofs.YtfmeeimhfdnjpaaDoor
set_option maxRecDepth 100000
open Go.RowKit
def PZ : List (BitVec 8) := List.replicate 72 0
theorem Tryd.zero110 (w : World) : (zeroValue 110).run Tryd.prog w = .ok (.agg (PZ.map V).toArray) w := by kernel_rfl
theorem Tryd.under110 : Tryd.prog.underlying 110 = some (.array 72 5) := by kernel_rfl
theorem Tryd.len110 : Tryd.prog.arrayLen 110 = 72 := by kernel_rfl
theorem Tryd.elem110 : Tryd.prog.elem 110 = 5 := by kernel_rfl
theorem Tryd.slice110 (b pe : Nat) (h : pe ≤ 64) (w : World) : (Instr.sliceAt 110 (.pointer (some ⟨b, 0, none⟩)) none (some (.int .i64 ((pe : Int) + 8))) none).run Tryd.prog w = .ok (.slice (some ⟨b, 0, none⟩) (pe + 8) 72) w := by
  rw [run_sliceAt_array_h w 110 ⟨b, 0, none⟩ (by rw [Tryd.len110, Tryd.elem110]; exact Tryd.under110) .i64 _ (by omega) (by rw [Tryd.len110]; omega), Tryd.elem110, Tryd.sizeOf5, Tryd.len110]
  have e : ((pe : Int) + 8).toNat = pe + 8 := by omega
  simp only [Result.andThen, slicedAt, e]
  rfl
set_option maxHeartbeats 400000 in
theorem pad_any (db : Nat) (d : Dg) (w : World) (hd : HasD w db 95 d) (hlen : d.len ≤ 576460752303423488) (hK : HasK w 0) (h0 : 0 < w.heap.size) (hdb : db ≠ 0) :
    Calls Tryd.prog 58 #[.pointer (some ⟨db, 0, none⟩)] w fun e w' => e = .returned (.tuple #[]) ∧ HasD w' db 95 (d.write (padOf d.len)) ∧ Only db w w' := by
  have hnum := hd.num
  have hlt := hd.lt
  obtain ⟨st, blk, len⟩ := d
  simp only at hnum hlen
  go_enter Tryd.func58, Tryd.ntmps58
  have hz := Tryd.zero110
  go_upto_region 1 with fail
  clear hz
  refine code_any (fun w1 => HasV w1 w.heap.size 110 PZ ∧ HasD w1 db 95 ⟨st, blk, len⟩ ∧ Below w.heap.size w w1) ?_ ?_
  · have hb : Below w.heap.size w (w.alloc (.cells (PZ.map V).toArray 110)) := (Below.refl _ _).alloc (Nat.le_refl _) _
    exact ⟨heap_alloc_new _ _, hd.below hb, hb⟩
  rintro w1 ⟨hv, hd1, hb1⟩
  have hnum1 := hd1.num
  have z0 := hv.cell 0 (by decide)
  have zf := hv.frozen 0
  clear hnum hd
  have hv1 : Box (HasV (w1.setCell ⟨w.heap.size, 0, none⟩ (.int .u8 128)) w.heap.size 110 (padArr len 0)) := ⟨hv.set 0 128⟩
  have hd2 : Box (HasD (w1.setCell ⟨w.heap.size, 0, none⟩ (.int .u8 128)) db 95 ⟨st, blk, len⟩) := ⟨hd1.only ((Only.refl w.heap.size w1).setCell _ _) (by omega)⟩
  have hb2 : Below w.heap.size w (w1.setCell ⟨w.heap.size, 0, none⟩ (.int .u8 128)) := hb1.setCell (by simp) _
  clear hv hd1 hb1
  have e1 : (1 + (119 - (len : Int)) % 64 : Int) = ((padEnd len : Nat) : Int) := by unfold padEnd; omega
  have hpe : padEnd len ≤ 64 ∧ 1 ≤ padEnd len := by unfold padEnd; omega
  have e1' : Box ((1 + (119 - (len : Int)) % 64 : Int) = ((padEnd len : Nat) : Int)) := ⟨e1⟩
  clear e1
  go_wp2
  rw [e1'.out]
  clear e1' hnum1 z0 zf
  go_loopw [21] (fun i wr => ∃ k : Nat, k ≤ 8 ∧ i = .int .i64 k ∧ HasV wr w.heap.size 110 (padArr len k) ∧ HasD wr db 95 ⟨st, blk, len⟩ ∧ Below w.heap.size w wr) (fun i _ => 8 - (intOf i).toNat)
  case atStart => exact ⟨0, by omega, rfl, hv1.out, hd2.out, hb2⟩
  case round =>
    clear hv1 hd2 hb2
    obtain ⟨k, hk, rfl, hv, hd, hb⟩ := hrel
    by_cases hlt8 : k < 8
    · have c0 := hv.cell (padEnd len + k) (by rw [padArr_len]; omega)
      have f0 := hv.frozen (padEnd len + k)
      generalize (padArr len k).getD (padEnd len + k) 0 = y0 at c0
      have hv' : Box (HasV wr w.heap.size 110 (padArr len k)) := ⟨hv⟩
      have HR : Box (HasV _ w.heap.size 110 (padArr len (k + 1))) := ⟨hv.set (padEnd len + k) (cb len k)⟩
      generalize padEnd len = pe at *
      clear hv
      go_wp2
      go_roundw
      case rel =>
        have ec : ((len : Int) * 8 / 2 ^ (8 * (7 - k)) % 256 : Int) = bv (cb len k) := by unfold cb; rw [bv_lit]; simp
        rw [ec]
        refine ⟨k + 1, by omega, by go_num, HR.out, ?_, ?_⟩
        · exact hd.only ((Only.refl w.heap.size wr).setCell _ _) (by omega)
        · exact hb.setCell (by simp) _
      case measure => simp [intOf]; omega
    · have hk8 : Box (k = 8) := ⟨by omega⟩
      have hsz : w.heap.size < wr.heap.size := hv.lt
      have hv' : Box (HasV wr w.heap.size 110 (padArr len k)) := ⟨hv⟩
      have hd' : Box (HasD wr db 95 ⟨st, blk, len⟩) := ⟨hd⟩
      have hsl := Tryd.slice110 w.heap.size (padEnd len) hpe.1
      clear hv hd
      go_wp2_with fail
      have hpl : (padOf len).length = padEnd len + 8 := by unfold padOf; rw [List.length_take, padArr_len]; omega
      refine (write_any db w.heap.size 0 _ _ _ (padOf len) ⟨st, blk, len⟩ wr hd'.out ⟨hpl.symm, by omega, fun _ => ⟨rfl, hsz, by omega, ?_⟩⟩ (by simp only; omega) (hK.below hb h0) (by have := hb.size; omega) hdb).mono ?_
      · have e := hk8.out
        subst e
        exact hv'.out.bytes.take _
      rintro e w6 ⟨rfl, hD, hO⟩
      go_wp2
      go_end0
      exact ⟨rfl, hD, (Only.of_below hb).trans hO⟩
theorem Tryd.agg95 : (Tryd.prog.underlying 95).map aggB = some true := by kernel_rfl
theorem Tryd.size95 : (Tryd.prog.info? 95).map (·.size) = some 73 := by kernel_rfl
theorem Dg.cells_one (d : Dg) : (d.cells.toArray).all (·.oneCell') = true := by
  simp [Dg.cells, U, V, Value.oneCell']
set_option maxHeartbeats 400000 in
theorem dsum_any (db : Nat) (d : Dg) (w : World) (hd : HasD w db 95 d) (hlen : d.len ≤ 576460752303423488) (hK : HasK w 0) (h0 : 0 < w.heap.size) :
    Calls Tryd.prog 43 #[.pointer (some ⟨db, 0, none⟩)] w fun e w' => e = .returned (.agg (d.sum.map V).toArray) ∧ Below w.heap.size w w' := by
  have hz := Tryd.zero95
  have hlt := hd.lt
  have hs73 : Box (d.cells.toArray.size = 73) := ⟨by simpa using Dg.size d hd.1⟩
  go_enter Tryd.func43, Tryd.ntmps43
  go_upto_region 1 with fail
  refine code_any (fun w1 => HasV w1 w.heap.size 33 (hsh d.st 0) ∧ HasD w1 db 95 d ∧ Below w.heap.size w w1) ?_ ?_
  · have hb : Below w.heap.size w (w.alloc (.cells ((hsh d.st 0).map V).toArray 33)) := (Below.refl _ _).alloc (Nat.le_refl _) _
    exact ⟨heap_alloc_new _ _, hd.below hb, hb⟩
  rintro w1 ⟨hv1, hd1, hb1⟩
  have hd1' : Box (HasD w1 db 95 d) := ⟨hd1⟩
  have hcur : Box (w1.heap[db]? = _) := ⟨hd1.2⟩
  clear hd hd1
  go_wp2_with (first | (refine wpList_load_agg rfl 95 (.tmp 5) rfl db rfl 95 _ (0, 0) hcur.out Tryd.agg95 (by rw [hs73.out]; exact Tryd.size95) ?_) | (refine wpList_store_row rfl 95 (.tmp 3) (.tmp 6) rfl w1.heap.size d.cells.toArray rfl rfl 95 _ (heap_alloc_new _ _) (by rw [hs73.out]; exact Tryd.size95) (by rw [hs73.out]; rfl) (Dg.cells_one d) ?_))
  have hb2 : Below w1.heap.size w1 ((w1.alloc (Obj.cells Dg.zero.cells.toArray 95)).setRow w1.heap.size d.cells.toArray) := ((Below.refl _ _).alloc (Nat.le_refl _) _).trans (below_setRow _ _ _ _ (Nat.le_refl _))
  have hd2 : HasD ((w1.alloc (Obj.cells Dg.zero.cells.toArray 95)).setRow w1.heap.size d.cells.toArray) w1.heap.size 95 d := ⟨hd1'.out.1, setRow_heap _ _ _ _ 95 (0, 0) (heap_alloc_new _ _)⟩
  generalize (w1.alloc (Obj.cells Dg.zero.cells.toArray 95)).setRow w1.heap.size d.cells.toArray = w2 at hb2 hd2 ⊢
  refine (pad_any w1.heap.size d w2 hd2 hlen ((hK.below hb1 h0).below hb2 (by have := hb1.size; omega)) (by have := hb1.size; have := hb2.size; omega) (by have := hb1.size; omega)).mono ?_
  rintro e w3 ⟨rfl, hD3, hO3⟩
  have hb3 : Below w1.heap.size w1 w3 := hb2.trans (hO3.below _ (Nat.le_refl _) hb2.size)
  have hv3 : HasV w3 w.heap.size 33 (hsh d.st 0) := hv1.below hb3 hv1.lt
  have hb4 : Below w.heap.size w w3 := hb1.trans (hb3.mono hb1.size)
  have hS : Box (d.sum = hsh (d.write (padOf d.len)).st 8) := ⟨rfl⟩
  clear hb2 hd2 hO3 hb3 hv1 hd1' hcur hb1 hz
  generalize d.write (padOf d.len) = d' at hD3 hS
  have g0 := hD3.s0
  have g1 := hD3.s1
  have g2 := hD3.s2
  have g3 := hD3.s3
  have g4 := hD3.s4
  have g5 := hD3.s5
  have g6 := hD3.s6
  have g7 := hD3.s7
  clear hD3
  go_wp2_with fail
  refine (hashOf_any d'.st _).mono ?_
  rintro e w4 ⟨rfl, hb5⟩
  have hv5 : w4.heap[w.heap.size]? = some (.cells ((hsh d.st 0).map V).toArray 33 (0, 0)) := hv3.below hb5 hv3.lt
  have hb6 : Below w.heap.size w w4 := hb4.trans (hb5.mono hb4.size)
  clear g0 g1 g2 g3 g4 g5 g6 g7 hv3 hb4 hb5
  have hl : Box (((hsh d'.st 8).map V).toArray.size = 32) := ⟨by simp [hsh_len]⟩
  generalize hsh d'.st 8 = hh at hS hl
  go_wp2_with (refine wpList_store_row rfl 33 (.tmp 2) (.tmp 10) rfl w.heap.size (hh.map V).toArray rfl rfl 33 _ hv5 (by rw [hl.out]; exact Tryd.size33) (by rw [hl.out]; rfl) (V_all _) ?_)
  rw [hS.out]
  refine bodyPost_ret (v := .agg (hh.map V).toArray) ?_ rfl ⟨rfl, ?_⟩
  · exact results_cell_row (P := Tryd.prog) (fn := Tryd.f43) (p := 2) (ty := 33) rfl _ _ w.heap.size 33 _ (0, 0) _ rfl (setRow_heap _ _ _ _ 33 (0, 0) hv5) Tryd.under33 rfl (by rw [hl.out]; exact Tryd.size33)
  · exact hb6.trans (below_setRow _ _ _ _ (Nat.le_refl _))
/-- The sum of bytes. -/
def shaOf (bs : List (BitVec 8)) : List (BitVec 8) := (Dg.new.write bs).sum
theorem hsh32 (s : St) (k : Nat) : ((hsh s k).map V).toArray.size = 32 := by simp [hsh_len]
theorem Dg.write_len (d : Dg) (b : List (BitVec 8)) : (d.write b).len = d.len + b.length := by
  unfold Dg.write Dg.rest
  split
  · rfl
  · split <;> rfl
set_option maxHeartbeats 400000 in
theorem sum_any (ab ao : Nat) (a : Option Addr) (n c : Nat) (bs : List (BitVec 8)) (w : World) (hn : n = bs.length) (hnc : n ≤ c) (hs : 0 < n → a = some ⟨ab, ao, none⟩ ∧ ab < w.heap.size ∧ HasB w ab ao bs) (hlen : n ≤ 576460752303423488) (hK : HasK w 0) (h0 : 0 < w.heap.size) :
    Calls Tryd.prog 26 #[.slice a n c] w fun e w' => e = .returned (.agg ((shaOf bs).map V).toArray) ∧ Below w.heap.size w w' := by
  have hn' : Box (n = bs.length) := ⟨hn⟩
  clear hn
  go_enter Tryd.func26, Tryd.ntmps26
  go_upto_region 1 with fail
  refine code_any (fun w1 => HasV w1 w.heap.size 33 (hsh St.first 0) ∧ Below w.heap.size w w1) ?_ ?_
  · exact ⟨heap_alloc_new _ _, (Below.refl _ _).alloc (Nat.le_refl _) _⟩
  rintro w1 ⟨hv1, hb1⟩
  go_wp2_with fail
  refine (new_any w1).mono ?_
  rintro e w2 ⟨db, rfl, hdb, hD2, hb2⟩
  have hv1l := hv1.lt
  have hK2 : HasK w2 0 := (hK.below hb1 h0).below hb2 (by omega)
  have hz1 := hb1.size
  have hz2 := hb2.size
  have hv2 := hv1.below hb2 hv1l
  have hs2 : Src w2 db ab ao a n c bs := ⟨hn'.out, hnc, fun h => by
    obtain ⟨e, hab, hB⟩ := hs h
    exact ⟨e, by omega, by omega, (hB.below hb1 hab).below hb2 (by omega)⟩⟩
  have hb12 : Below w.heap.size w w2 := hb1.trans (hb2.mono hz1)
  clear hK hs hv1 hb1 hb2
  go_wp2_with fail
  refine (write_any db ab ao a n c bs Dg.new w2 hD2 hs2 (by show 0 + n ≤ _; omega) hK2 (by omega) (by omega)).mono ?_
  rintro e w3 ⟨rfl, hD3, hO3⟩
  have hz3 := hO3.size
  have hK3 : HasK w3 0 := hK2.only hO3 (by omega) (by omega)
  have hb23 : Below db w2 w3 := hO3.below _ (Nat.le_refl _) (by have := hD2.lt; omega)
  have hv3 : HasV w3 w.heap.size 33 (hsh St.first 0) := hv2.below hb23 (by omega)
  have hb3 : Below w.heap.size w w3 := hb12.trans (hb23.mono (by omega))
  clear hb12 hO3 hb23 hv2 hK2 hD2 hs2
  have hl3 : (Dg.new.write bs).len ≤ 576460752303423488 := by rw [Dg.write_len, ← hn'.out]; show 0 + n ≤ _; omega
  have hS : Box (shaOf bs = (Dg.new.write bs).sum) := ⟨rfl⟩
  generalize Dg.new.write bs = d' at hD3 hl3 hS
  go_wp2_with fail
  refine (dsum_any db d' w3 hD3 hl3 hK3 (by omega)).mono ?_
  rintro e w4 ⟨rfl, hb4⟩
  have hv5 : w4.heap[w.heap.size]? = some (.cells ((hsh St.first 0).map V).toArray 33 (0, 0)) := hv3.below hb4 hv3.lt
  have hb6 : Below w.heap.size w w4 := hb3.trans (hb4.mono hb3.size)
  clear hv3 hb3 hb4
  have hl : Box ((d'.sum.map V).toArray.size = 32) := ⟨hsh32 _ _⟩
  generalize d'.sum = hh at hS hl
  go_wp2_with (refine wpList_store_row rfl 33 (.tmp 2) (.tmp 9) rfl w.heap.size (hh.map V).toArray rfl rfl 33 _ hv5 (by rw [hl.out]; exact Tryd.size33) (by rw [hl.out]; rfl) (V_all _) ?_)
  rw [hS.out]
  refine bodyPost_ret (v := .agg (hh.map V).toArray) ?_ rfl ⟨rfl, ?_⟩
  · exact results_cell_row (P := Tryd.prog) (fn := Tryd.f26) (p := 2) (ty := 33) rfl _ _ w.heap.size 33 _ (0, 0) _ rfl (setRow_heap _ _ _ _ 33 (0, 0) hv5) Tryd.under33 rfl (by rw [hl.out]; exact Tryd.size33)
  · exact hb6.trans (below_setRow _ _ _ _ (Nat.le_refl _))
end Go.Proofs.YtfmeeimhfdnjpaaDoor
namespace Go.Proofs.YtfmeeimhfdnjpaaDoor
set_option maxRecDepth 100000
open Go.RowKit
/-- The digest d has the bytes m. -/
structure Rep (d : Dg) (m : List (BitVec 8)) : Prop where
  len : d.len = m.length
  blk : d.blk.length = 64
  st : d.st = mixs St.first m (m.length / 64)
  tail : d.blk.take (m.length % 64) = m.drop (64 * (m.length / 64))
end Go.Proofs.YtfmeeimhfdnjpaaDoor
namespace Go.Proofs.YtfmeeimhfdnjpaaDoor
set_option maxRecDepth 100000
open Go.RowKit
theorem Tryd.under5 : Tryd.prog.underlying 5 = some (.int .u8) := by kernel_rfl
theorem Tryd.under9 : Tryd.prog.underlying 9 = some .string := by kernel_rfl
theorem and15_all : ∀ x : Fin 256, bits .and .u8 ((x.val : Nat) : Int) 15 = ((x.val % 16 : Nat) : Int) := by decide +kernel
theorem and15 (x : BitVec 8) : bits .and .u8 (bv x) (15 : Int) = bv x % (16 : Int) := by
  have := and15_all ⟨x.toNat, x.isLt⟩
  unfold bv
  simpa using this
attribute [local go_sem] and15
end Go.Proofs.YtfmeeimhfdnjpaaDoor
namespace Go.Proofs.YtfmeeimhfdnjpaaDoor
set_option maxRecDepth 100000
open Go.RowKit
theorem Tryd.info5 : (Tryd.prog.info? 5).map (fun i => (i.zero, i.size, i.bytes)) = some (some (.int .u8 0), 1, 1) := by kernel_rfl
/-- In block b lies a digest that has the bytes m. -/
def HasM (w : World) (b : Nat) (m : List (BitVec 8)) : Prop := ∃ d, HasD w b 95 d ∧ Rep d m
theorem HasM.lt {w : World} {b : Nat} {m : List (BitVec 8)} (h : HasM w b m) : b < w.heap.size := by obtain ⟨d, hd, _⟩ := h; exact hd.lt
theorem HasM.only {w w' : World} {g b : Nat} {m : List (BitVec 8)} (h : HasM w b m) (hb : Only g w w') (hg : b ≠ g) : HasM w' b m := by obtain ⟨d, hd, hr⟩ := h; exact ⟨d, hd.only hb hg, hr⟩
theorem HasM.below {w w' : World} {b : Nat} {m : List (BitVec 8)} (h : HasM w b m) (hb : Below w.heap.size w w') : HasM w' b m := by obtain ⟨d, hd, hr⟩ := h; exact ⟨d, hd.below hb, hr⟩
/-- A slice value of bytes that came in. -/
structure Sl (w : World) (sp : Option Addr) (m c : Nat) (bs : List (BitVec 8)) (b o : Nat) : Prop where
  len : m = bs.length
  cap : m ≤ c
  nil : sp = none → m = 0 ∧ c = 0
  src : 0 < m → sp = some ⟨b, o, none⟩ ∧ b < w.heap.size ∧ HasB w b o bs
theorem Sl.only {w w' : World} {g : Nat} {sp : Option Addr} {m c : Nat} {bs : List (BitVec 8)} {b o : Nat} (h : Sl w sp m c bs b o) (ho : Only g w w') (hg : 0 < m → b ≠ g) : Sl w' sp m c bs b o :=
  ⟨h.len, h.cap, h.nil, fun hm => by
    obtain ⟨e, hl, hB⟩ := h.src hm
    exact ⟨e, Nat.lt_of_lt_of_le hl ho.size, hB.only ho hl (hg hm)⟩⟩
theorem Sl.below {w w' : World} {B : Nat} {sp : Option Addr} {m c : Nat} {bs : List (BitVec 8)} {b o : Nat} (h : Sl w sp m c bs b o) (ho : Below B w w') (hg : 0 < m → b < B) : Sl w' sp m c bs b o :=
  ⟨h.len, h.cap, h.nil, fun hm => by
    obtain ⟨e, hl, hB⟩ := h.src hm
    exact ⟨e, Nat.lt_of_lt_of_le hl ho.size, hB.below ho (hg hm)⟩⟩
theorem own_slice {w : World} {base n : Nat} {v : Value} {xs : List (BitVec 8)} (h : w.ownsRow base 5 1 v n (xs.map V)) : ∃ g sp c, v = .slice sp n c ∧ Sl w sp n c xs g 0 ∧ (0 < n → base ≤ g) := by
  obtain ⟨hl, h⟩ := h
  have hn : n = xs.length := by simpa using hl.symm
  rcases h with ⟨rfl, rfl⟩ | ⟨g, cap, cur, rfl, hbg, hg, hnc, _, hcs, ht⟩
  · exact ⟨0, none, 0, rfl, ⟨hn, Nat.le_refl _, fun _ => ⟨rfl, rfl⟩, fun h => absurd h (by omega)⟩, fun h => absurd h (by omega)⟩
  · refine ⟨g, some ⟨g, 0, none⟩, cap, rfl, ⟨hn, hnc, fun h => by (cases h), fun _ => ⟨rfl, (Array.getElem?_eq_some_iff.1 hg).1, ?_⟩⟩, fun _ => hbg⟩
    intro i hi
    rw [Nat.zero_add, cell_of_row _ _ _ _ _ _ hg]
    have e2 := congrArg (·[i]?) ht
    simp [show i < n by omega, hi] at e2
    simp [e2, hi, V]
/-- append of bytes onto a slice of the call's own. -/
theorem append22 {ops : Array Oper} {rest : List Oper} {o : Oper} {a : Act} {w : World} {Q : Exit → Act → World → Prop} (hgd : o.guard = none) (s x : Operand)
    (ho : o.op = .call { callee := .builtin .append, args := #[s, x], argTypes := #[22, 22] })
    (base : Nat) (v : Value) (n : Nat) (xs : List (BitVec 8)) (hs : a.eval s = v) (hown : w.ownsRow base 5 1 v n (xs.map V))
    (sp : Option Addr) (m c : Nat) (bs : List (BitVec 8)) (sb so : Nat) (hx : a.eval x = .slice sp m c) (hsl : Sl w sp m c bs sb so) (hb : n + m ≤ 140737488355328) (hbase : base ≤ w.heap.size)
    (h : ∀ v' w', w'.ownsRow base 5 1 v' (n + m) ((xs ++ bs).map V) → w.grownBy w' v.ownBlock → wpList Tryd.prog ops Q rest (a.put o.dst v') w') : wpList Tryd.prog ops Q (o :: rest) a w := by
  obtain ⟨i0, hi, hz0, hz1, hz2⟩ := info_parts Tryd.info5
  cases sp with
  | none =>
    obtain ⟨rfl, rfl⟩ := hsl.nil rfl
    have hbs : bs = [] := List.eq_nil_of_length_eq_zero hsl.len.symm
    subst hbs
    refine wpList_append_own_none hgd s x 22 ho base 5 i0 1 Tryd.under22 hi v n _ hs hown hx (h v w ?_ ⟨rfl, rfl, rfl, Nat.le_refl _, fun _ _ _ => rfl⟩)
    rw [List.append_nil]; exact hown
  | some ad =>
    refine wpList_append_own w hgd s x 22 ho base 5 i0 (.int .u8 0) 1 1 Tryd.under22 hi hz0 hz1 hz2 rfl (by decide) v n (xs.map V) hs hown ad m c (bs.map V) hx (by rw [List.length_map, Nat.mul_one]; exact hsl.len.symm) ?_ (V_one bs) (by unfold maxLen; omega) (by omega) hbase ?_
    · intro j u hj
      have hjl : j < bs.length := by have := (List.getElem?_eq_some_iff.1 hj).1; simpa using this
      have hl := hsl.len
      obtain ⟨e, _, hB⟩ := hsl.src (by omega)
      obtain rfl := Option.some.inj e
      have := hB.src bs.length j u
      rw [List.take_of_length_le (Nat.le_refl _)] at this
      exact this hj
    · intro v' w' h1 h2 _
      rw [← List.map_append] at h1
      exact h v' w' h1 h2
end Go.Proofs.YtfmeeimhfdnjpaaDoor
namespace Go.Proofs.YtfmeeimhfdnjpaaDoor
set_option maxRecDepth 100000
open Go.RowKit
/-- A slice value, and the bytes that it has. -/
structure Pt where
  sp : Option Addr
  m : Nat
  c : Nat
  bs : List (BitVec 8)
  b : Nat
  o : Nat
def Pt.ok (w : World) (p : Pt) : Prop := Sl w p.sp p.m p.c p.bs p.b p.o
/-- In block lb, from place lo on, lie the slices ps. -/
structure Ls (w : World) (lb lo : Nat) (ps : List Pt) : Prop where
  cell : ∀ (i : Nat) (p : Pt), ps[i]? = some p → w.cell? ⟨lb, lo + i, none⟩ = some (.slice p.sp p.m p.c)
  ok : ∀ (i : Nat) (p : Pt), ps[i]? = some p → p.ok w
/-- The bytes of all. -/
def cat : List Pt → List (BitVec 8)
  | [] => []
  | p :: r => p.bs ++ cat r
theorem cat_append (a b : List Pt) : cat (a ++ b) = cat a ++ cat b := by
  induction a with
  | nil => rfl
  | cons p r ih => simp [cat, ih]
theorem cat_take (ps : List Pt) (k : Nat) (p : Pt) (h : ps[k]? = some p) : cat (ps.take (k + 1)) = cat (ps.take k) ++ p.bs := by
  rw [List.take_add_one, h, cat_append]; simp [cat]
theorem cat_le (ps : List Pt) (k : Nat) : (cat (ps.take k)).length ≤ (cat ps).length := by
  have := congrArg (fun l => (cat l).length) (List.take_append_drop k ps)
  simp only [cat_append, List.length_append] at this
  omega
theorem Pt.ok_below {w w' : World} {p : Pt} (h : p.ok w) (hb : Below w.heap.size w w') : p.ok w' := Sl.below (B := w.heap.size) h hb (fun hm => (Sl.src h hm).2.1)
theorem Ls.lt {w : World} {lb lo : Nat} {ps : List Pt} (h : Ls w lb lo ps) {i : Nat} {p : Pt} (hi : ps[i]? = some p) : lb < w.heap.size := block_lt_of_cell (h.cell i p hi)
theorem Ls.below {w w' : World} {lb lo : Nat} {ps : List Pt} (h : Ls w lb lo ps) (hb : Below w.heap.size w w') : Ls w' lb lo ps :=
  ⟨fun i p hi => by rw [hb.cell (h.lt hi)]; exact h.cell i p hi, fun i p hi => Pt.ok_below (h.ok i p hi) hb⟩
/-- The kind's byte. -/
def kb (k : Int) : BitVec 8 := BitVec.ofInt 8 k
theorem kb_v (k : Int) : k % (256 : Int) = bv (kb k) := by unfold kb bv; rw [BitVec.toNat_ofInt]; omega
/-- So many bytes 0. -/
def zs (c : Nat) : List (BitVec 8) := List.replicate c 0
theorem zs_len (c : Nat) : (zs c).length = c := List.length_replicate
/-- v is a slice of the call's own that has the bytes xs. -/
def Own8 (w : World) (base : Nat) (v : Value) (n : Nat) (xs : List (BitVec 8)) : Prop := w.ownsRow base 5 1 v n (xs.map V)
theorem made_eq (c : Nat) : madeCells (Value.int .u8 0).cells c = ((zs c).map V).toArray := by
  unfold zs
  apply Array.ext
  · simp [size_madeCells]
  · intro i h1 h2
    simp [madeCells, V, bv, Value.cells, Nat.mod_one]
theorem own_of_HasV {w : World} {g base n : Nat} {xs : List (BitVec 8)} (h : HasV w g 5 xs) (hn : n ≤ xs.length) (hm : xs.length ≤ maxLen) (hb : base ≤ g) : w.ownsRow base 5 1 (.slice (some ⟨g, 0, none⟩) n xs.length) n ((xs.take n).map V) :=
  ⟨by simp; omega, .inr ⟨g, xs.length, (xs.map V).toArray, rfl, hb, h, hn, hm, by simp, by simp [List.map_take]⟩⟩
theorem Tryd.make1 (c : Nat) (h1 : 1 ≤ c) (hc : c ≤ 140737488355328) (w : World) : (Instr.makeSlice 22 (.int .i64 1) (.int .i64 (c : Int))).run Tryd.prog w = .ok (.slice (some ⟨w.heap.size, 0, none⟩) 1 c) (w.alloc (.cells ((zs c).map V).toArray 5)) := by
  obtain ⟨i0, hi, hz0, hz1, hz2⟩ := info_parts Tryd.info5
  have := run_make (P := Tryd.prog) w 22 5 i0 (.int .u8 0) Tryd.under22 hi hz0 .i64 .i64 1 (c : Int) (by omega) (by omega) (by rw [hz2]; omega) (by omega)
  rw [hz1, Int.toNat_natCast, Nat.mul_one, made_eq] at this
  exact this
theorem Tryd.under28 : Tryd.prog.underlying 28 = some (.slice 22) := by kernel_rfl
set_option maxHeartbeats 400000 in
theorem input_own (kind : Int) (A : Option Addr) (C lb lo : Nat) (ps : List Pt) (w : World) (hA : 0 < ps.length → A = some ⟨lb, lo, none⟩) (hL : Ls w lb lo ps) (hT : (cat ps).length ≤ 140737488351232) (hN : ps.length ≤ 1000) :
    Calls Tryd.prog 48 #[.int .i64 kind, .slice A ps.length C] w fun e w' => ∃ v, e = .returned v ∧ w'.ownsRow w.heap.size 5 1 v (1 + (cat ps).length) ((kb kind :: cat ps).map V) ∧ Below w.heap.size w w' := by
  have hL' : Box (Ls w lb lo ps) := ⟨hL⟩
  have hA' : Box (0 < ps.length → A = some ⟨lb, lo, none⟩) := ⟨hA⟩
  obtain ⟨n, hn⟩ : ∃ n, Box (n = ps.length) := ⟨_, ⟨rfl⟩⟩
  rw [← hn.out] at hN ⊢
  clear hL hA
  go_enter Tryd.func48, Tryd.ntmps48
  go_wp2
  go_loopw [5, 13] (fun L i wr => ∃ k : Nat, k ≤ n ∧ i = .int .i64 k ∧ L = .int .i64 ((1 + (cat (ps.take k)).length : Nat) : Int) ∧ w = wr) (fun _ i _ => n - (intOf i).toNat)
  case atStart => exact ⟨0, by omega, rfl, rfl, rfl⟩
  case round =>
    obtain ⟨k, hk, rfl, rfl, rfl⟩ := hrel
    by_cases hlt : k < n
    · obtain ⟨p, hp⟩ : ∃ p, ps[k]? = some p := ⟨_, List.getElem?_eq_getElem (by rw [← hn.out]; exact hlt)⟩
      obtain rfl : A = some ⟨lb, lo, none⟩ := hA'.out (by rw [← hn.out]; omega)
      have hc := hL'.out.cell k p hp
      have hl : Box (1 + (cat (ps.take (k + 1))).length = 1 + (cat (ps.take k)).length + p.m) := ⟨by rw [cat_take ps k p hp, List.length_append, ← Sl.len (hL'.out.ok k p hp)]; omega⟩
      have hle := cat_le ps (k + 1)
      have hsum : 1 + (cat (ps.take k)).length + p.m ≤ 140737488351233 := by rw [← hl.out]; omega
      clear hle
      generalize 1 + (cat (ps.take k)).length = L at hl hsum ⊢
      go_wp2
      go_roundw
      case rel => exact ⟨k + 1, by omega, by go_num, by rw [hl.out]; go_num, by first | rfl | trivial⟩
      case measure => simp [intOf]; omega
    · have hkn : Box (k = n) := ⟨by omega⟩
      have hT1 : Box (1 + (cat (ps.take k)).length = 1 + (cat ps).length) := ⟨by rw [hkn.out, hn.out, List.take_of_length_le (Nat.le_refl _)]⟩
      rw [hT1.out]
      obtain ⟨T, hTT⟩ : ∃ T, Box (T = 1 + (cat ps).length) := ⟨_, ⟨rfl⟩⟩
      rw [← hTT.out]
      have hT2 : T ≤ 140737488351233 := by rw [hTT.out]; omega
      have hT3 : 1 ≤ T := by rw [hTT.out]; omega
      have hmk := Tryd.make1 T hT3 (by omega)
      go_upto_region 8 with fail
      clear hmk
      refine code_any (fun w1 => HasV w1 w.heap.size 5 (zs T) ∧ Below w.heap.size w w1) ?_ ?_
      · exact ⟨heap_alloc_new _ _, (Below.refl _ _).alloc (Nat.le_refl _) _⟩
      rintro w0 ⟨hv0, hb0⟩
      have HR : Box (HasV _ w.heap.size 5 _) := ⟨hv0.set 0 (kb kind)⟩
      have c0 := hv0.cell 0 (by rw [zs_len]; omega)
      have f0 := hv0.frozen 0
      have hk0 := kb_v kind
      clear hv0
      generalize (zs T).getD 0 0 = y0 at c0
      go_upto_region 9 with fail
      refine code_any (fun w1 => Own8 w1 w.heap.size (.slice (some ⟨w.heap.size, 0, none⟩) 1 T) 1 [kb kind] ∧ Below w.heap.size w w1) ?_ ?_
      · refine ⟨?_, hb0.setCell (by simp) _⟩
        have := own_of_HasV (base := w.heap.size) (n := 1) HR.out (by simp [zs_len]; omega) (by simp [zs_len]; unfold maxLen; omega) (Nat.le_refl _)
        rw [List.length_set, zs_len, show ((zs T).set 0 (kb kind)).take 1 = [kb kind] by cases T with | zero => omega | succ t => simp [zs, List.replicate_succ]] at this
        exact this
      rintro w1 ⟨hown, hb⟩
      have hown' : Box (Own8 w1 w.heap.size (.slice (some ⟨w.heap.size, 0, none⟩) 1 T) 1 [kb kind]) := ⟨hown⟩
      clear hown
      go_wp2
      go_loopw [8, 30] (fun v i wr => ∃ k : Nat, k ≤ n ∧ i = .int .i64 k ∧ Box (Own8 wr w.heap.size v (1 + (cat (ps.take k)).length) (kb kind :: cat (ps.take k))) ∧ Below w.heap.size w wr) (fun _ i _ => n - (intOf i).toNat)
      case atStart => exact ⟨0, by omega, rfl, hown', hb⟩
      case round =>
        clear hb hown' hT1 hkn hlt hk
        obtain ⟨k, hk, rfl, hown, hb⟩ := hrel
        by_cases hlt : k < n
        · obtain ⟨p, hp⟩ : ∃ p, ps[k]? = some p := ⟨_, List.getElem?_eq_getElem (by rw [← hn.out]; exact hlt)⟩
          obtain rfl : A = some ⟨lb, lo, none⟩ := hA'.out (by rw [← hn.out]; omega)
          have hc : wr.cell? ⟨lb, lo + k, none⟩ = some (.slice p.sp p.m p.c) := by rw [hb.cell (hL'.out.lt hp)]; exact hL'.out.cell k p hp
          have hok : Box (p.ok wr) := ⟨Pt.ok_below (hL'.out.ok k p hp) hb⟩
          have hl : Box (1 + (cat (ps.take k)).length + p.m = 1 + (cat (ps.take (k + 1))).length) := ⟨by rw [cat_take ps k p hp, List.length_append, ← Sl.len (hL'.out.ok k p hp)]; omega⟩
          have hx : Box (kb kind :: cat (ps.take k) ++ p.bs = kb kind :: cat (ps.take (k + 1))) := ⟨by rw [cat_take ps k p hp]; rfl⟩
          have hle := cat_le ps (k + 1)
          have hsum : 1 + (cat (ps.take k)).length + p.m ≤ 140737488351233 := by rw [hl.out]; omega
          have hz := hb.size
          clear hle
          go_wp2_with (at_builtin; refine append22 rfl (.tmp 34) (.tmp 35) rfl w.heap.size _ _ _ rfl hown.out p.sp p.m p.c p.bs p.b p.o rfl hok.out (by omega) hz ?_; intro v2 w2 own2 gr2)
          have hb2 : Below w.heap.size w w2 := hb.grown gr2 hz (fun k e => (World.ownsRow.lt hown.out k e).1)
          rw [hl.out, hx.out] at own2
          have own2' : Box (Own8 w2 w.heap.size v2 (1 + (cat (ps.take (k + 1))).length) (kb kind :: cat (ps.take (k + 1)))) := ⟨own2⟩
          clear own2 gr2 hown hb hsum
          go_wp2
          go_roundw
          case rel => exact ⟨_, _, _, ⟨k + 1, by omega, by go_num, own2', hb2⟩, rfl, rfl, rfl⟩
          case measure => simp [intOf]; omega
        · have hkn : Box (ps.take k = ps) := ⟨by rw [List.take_of_length_le (by rw [← hn.out]; omega)]⟩
          rw [hkn.out] at hown
          go_wp2
          go_ret
          exact ⟨_, rfl, hown.out, hb⟩
end Go.Proofs.YtfmeeimhfdnjpaaDoor
namespace Go.Proofs.YtfmeeimhfdnjpaaDoor
set_option maxRecDepth 100000
open Go.RowKit
theorem shaOf_len (bs : List (BitVec 8)) : (shaOf bs).length = 32 := hsh_len _ _
theorem input_any (kind : Int) (A : Option Addr) (C lb lo : Nat) (ps : List Pt) (w : World) (hA : 0 < ps.length → A = some ⟨lb, lo, none⟩) (hL : Ls w lb lo ps) (hT : (cat ps).length ≤ 140737488351232) (hN : ps.length ≤ 1000) :
    Calls Tryd.prog 48 #[.int .i64 kind, .slice A ps.length C] w fun e w' => ∃ sp c g, e = .returned (.slice sp (1 + (cat ps).length) c) ∧ Sl w' sp (1 + (cat ps).length) c (kb kind :: cat ps) g 0 ∧ w.heap.size ≤ g ∧ Below w.heap.size w w' := by
  refine (input_own kind A C lb lo ps w hA hL hT hN).mono ?_
  rintro e w' ⟨v, rfl, ho, hb⟩
  obtain ⟨g, sp, c, rfl, hs, hg⟩ := own_slice ho
  exact ⟨sp, c, g, rfl, hs, hg (by omega), hb⟩
set_option maxHeartbeats 400000 in
theorem tsum_any (kind : Int) (A : Option Addr) (n C lb lo : Nat) (ps : List Pt) (w : World) (hn : n = ps.length) (hA : 0 < n → A = some ⟨lb, lo, none⟩) (hL : Ls w lb lo ps) (hT : (cat ps).length ≤ 140737488351232) (hN : n ≤ 1000) (hK : HasK w 0) (h0 : 0 < w.heap.size) :
    Calls Tryd.prog 34 #[.int .i64 kind, .slice A n C] w fun e w' => e = .returned (.agg ((shaOf (kb kind :: cat ps)).map V).toArray) ∧ Below w.heap.size w w' := by
  subst hn
  have hI : Box (∀ w1, Below w.heap.size w w1 → Calls Tryd.prog 48 #[.int .i64 kind, .slice A ps.length C] w1 fun e w' => ∃ sp c g, e = .returned (.slice sp (1 + (cat ps).length) c) ∧ Sl w' sp (1 + (cat ps).length) c (kb kind :: cat ps) g 0 ∧ w1.heap.size ≤ g ∧ Below w1.heap.size w1 w') :=
    ⟨fun w1 hb => input_any kind A C lb lo ps w1 hA (hL.below hb) hT hN⟩
  clear hA hL
  generalize ps.length = n at hI hN ⊢
  generalize hT1 : 1 + (cat ps).length = T at hI
  have hT2 : T ≤ 140737488351233 := by omega
  clear hT1 hT
  generalize kb kind :: cat ps = ms at hI ⊢
  have hl : Box (((shaOf ms).map V).toArray.size = 32) := ⟨by simp [shaOf_len]⟩
  obtain ⟨hh, hS⟩ : ∃ hh, Box (shaOf ms = hh) := ⟨_, ⟨rfl⟩⟩
  rw [hS.out] at hl ⊢
  go_enter Tryd.func34, Tryd.ntmps34
  go_upto_region 1 with fail
  refine code_any (fun w1 => HasV w1 w.heap.size 33 (hsh St.first 0) ∧ Below w.heap.size w w1) ?_ ?_
  · exact ⟨heap_alloc_new _ _, (Below.refl _ _).alloc (Nat.le_refl _) _⟩
  rintro w1 ⟨hv1, hb1⟩
  go_wp2_with fail
  refine (hI.out w1 hb1).mono ?_
  rintro e w2 ⟨sp, c, g, rfl, hs, hg, hb2⟩
  have hv2 := hv1.below hb2 hv1.lt
  have hb3 := hb1.trans (hb2.mono hb1.size)
  have hs' : Box (Sl w2 sp T c ms g 0) := ⟨hs⟩
  have hz := hb3.size
  clear hs hv1 hb1 hb2 hI hg
  go_wp2_with fail
  refine (sum_any g 0 sp T c ms w2 hs'.out.len hs'.out.cap hs'.out.src (by omega) (hK.below hb3 h0) (by omega)).mono ?_
  rintro e w4 ⟨rfl, hb4⟩
  have hv5 : w4.heap[w.heap.size]? = some (.cells ((hsh St.first 0).map V).toArray 33 (0, 0)) := hv2.below hb4 hv2.lt
  have hb6 : Below w.heap.size w w4 := hb3.trans (hb4.mono hb3.size)
  clear hv2 hb3 hb4 hs'
  rw [hS.out]
  go_wp2_with (refine wpList_store_row rfl 33 (.tmp 4) (.tmp 8) rfl w.heap.size (hh.map V).toArray rfl rfl 33 _ hv5 (by rw [hl.out]; exact Tryd.size33) (by rw [hl.out]; rfl) (V_all _) ?_)
  refine bodyPost_ret (v := .agg (hh.map V).toArray) ?_ rfl ⟨rfl, ?_⟩
  · exact results_cell_row (P := Tryd.prog) (fn := Tryd.f34) (p := 4) (ty := 33) rfl _ _ w.heap.size 33 _ (0, 0) _ rfl (setRow_heap _ _ _ _ 33 (0, 0) hv5) Tryd.under33 rfl (by rw [hl.out]; exact Tryd.size33)
  · exact hb6.trans (below_setRow _ _ _ _ (Nat.le_refl _))
def Pt.val (p : Pt) : Value := .slice p.sp p.m p.c
/-- All of them lie in memory. -/
def Oks (w : World) (ps : List Pt) : Prop := ∀ (i : Nat) (p : Pt), ps[i]? = some p → p.ok w
theorem Oks.nil {w : World} : Oks w [] := fun i p h => by simp at h
theorem Oks.cons {w : World} {q : Pt} {ps : List Pt} (h : q.ok w) (hs : Oks w ps) : Oks w (q :: ps) := fun i p hi => by
  cases i with
  | zero => obtain rfl : q = p := by simpa using hi
            exact h
  | succ i => exact hs i p (by simpa using hi)
theorem Oks.below {w w' : World} {ps : List Pt} (h : Oks w ps) (hb : Below w.heap.size w w') : Oks w' ps := fun i p hi => Pt.ok_below (h i p hi) hb
theorem ls_new (w : World) (T : TypeId) (ps : List Pt) (h : Oks w ps) : Ls (w.alloc (.cells (ps.map Pt.val).toArray T)) w.heap.size 0 ps :=
  ⟨fun i p hi => by
    rw [World.cell?_alloc_mark, Nat.zero_add]
    simp [hi, Pt.val], h.below ((Below.refl _ _).alloc (Nat.le_refl _) _)⟩
theorem cat_one (a : Option Addr) (n c : Nat) (bs : List (BitVec 8)) (b o : Nat) : cat [⟨a, n, c, bs, b, o⟩] = bs := by simp [cat]
end Go.Proofs.YtfmeeimhfdnjpaaDoor
namespace Go.Proofs.YtfmeeimhfdnjpaaDoor
set_option maxRecDepth 100000
open Go.RowKit
/-- A number's last two bytes, the higher first. -/
def two (n : Int) : List (BitVec 8) := [kb (n / 256), kb n]
/-- A number's last four bytes, the highest first. -/
def four (n : Int) : List (BitVec 8) := [kb (n / 16777216), kb (n / 65536), kb (n / 256), kb n]
attribute [local go_sem] kb_v
end Go.Proofs.YtfmeeimhfdnjpaaDoor
namespace Go.Proofs.YtfmeeimhfdnjpaaDoor
set_option maxRecDepth 100000
open Go.RowKit
/-- From place a on, n bytes: are they the same? -/
def sameFrom (xs ys : List (BitVec 8)) : Nat → Nat → Bool
  | _, 0 => true
  | a, n + 1 => (bv (xs.getD a 0) == bv (ys.getD a 0)) && sameFrom xs ys (a + 1) n
theorem part5 (w : World) (xs : List (BitVec 8)) (a : Nat) (h : a < xs.length) : (part 5 (xs.map V).toArray (a * 1)).run Tryd.prog w = .ok (.int .u8 (bv (xs.getD a 0))) w := by
  rw [Nat.mul_one]
  have hv : (xs.map V).toArray[a]? = some (.int .u8 (bv (xs.getD a 0))) := by simp [V, h]
  simp [part, Sem.run_bind, hv, Result.andThen]
theorem run_equal33' (m : Nat) (hm : ∀ (a b : Int) (w : World), (Op.equalIn m 5 (.int .u8 a) (.int .u8 b)).run Tryd.prog w = .ok (a == b) w) (w : World) (xs ys : List (BitVec 8)) (h1 : xs.length = 32) (h2 : ys.length = 32) : (Op.equalIn (m + 1) 33 (.agg (xs.map V).toArray) (.agg (ys.map V).toArray)).run Tryd.prog w = .ok (sameFrom xs ys 0 32) w := by
  simp only [Op.equalIn, Sem.run_bind, run_underlying Tryd.under33, Result.andThen_ok, Tryd.sizeOf5, Std.Legacy.Range.forIn_eq_forIn_range', Std.Legacy.Range.size]
  rw [show (32 - 0 + 1 - 1) / 1 = 32 from rfl]
  have hx : 0 + 32 ≤ xs.length := by omega
  have hy : 0 + 32 ≤ ys.length := by omega
  clear h1 h2
  revert hx hy
  generalize (0 : Nat) = a
  generalize (32 : Nat) = n
  induction n generalizing a with
  | zero => intro _ _; simp [sameFrom]
  | succ n ih =>
    intro hx hy
    have e1 := part5 w xs a (by omega)
    have e2 := part5 w ys a (by omega)
    simp only [List.range'_succ, List.forIn_cons, Sem.run_bind, e1, e2, hm, Result.andThen_ok, sameFrom]
    cases hq : (bv (xs.getD a 0) == bv (ys.getD a 0)) with
    | false => simp
    | true =>
      simp only [Bool.not_true, Bool.false_eq_true, if_false, Sem.run_pure, Result.andThen_ok, Bool.true_and]
      exact ih (a + 1) (by omega) (by omega)
theorem bv_inj {x y : BitVec 8} (h : bv x = bv y) : x = y := by
  unfold bv at h
  exact BitVec.eq_of_toNat_eq (by omega)
theorem sameFrom_iff (xs ys : List (BitVec 8)) : ∀ (n a : Nat), a + n = xs.length → a + n = ys.length → (sameFrom xs ys a n = true ↔ xs.drop a = ys.drop a)
  | 0, a, h1, h2 => by
    rw [List.drop_eq_nil_of_le (by omega), List.drop_eq_nil_of_le (by omega)]
    simp [sameFrom]
  | n + 1, a, h1, h2 => by
    have ih := sameFrom_iff xs ys n (a + 1) (by omega) (by omega)
    rw [sameFrom, Bool.and_eq_true, ih, beq_iff_eq, List.drop_eq_getElem_cons (show a < xs.length by omega), List.drop_eq_getElem_cons (show a < ys.length by omega), List.cons.injEq]
    have e1 : xs.getD a 0 = xs[a]'(by omega) := by simp [show a < xs.length by omega]
    have e2 : ys.getD a 0 = ys[a]'(by omega) := by simp [show a < ys.length by omega]
    rw [e1, e2]
    exact ⟨fun h => ⟨bv_inj h.1, h.2⟩, fun h => ⟨by rw [h.1], h.2⟩⟩
theorem run_equal33 (w : World) (xs ys : List (BitVec 8)) (h1 : xs.length = 32) (h2 : ys.length = 32) : (Op.equalIn 10000 33 (.agg (xs.map V).toArray) (.agg (ys.map V).toArray)).run Tryd.prog w = .ok (decide (xs = ys)) w := by
  have h := run_equal33' 9999 (fun a b w => run_equalIn_int w 9998 5 .u8 .u8 a b Tryd.under5) w xs ys h1 h2
  have e : sameFrom xs ys 0 32 = decide (xs = ys) := by
    rw [Bool.eq_iff_iff, sameFrom_iff xs ys 32 0 (by omega) (by omega)]
    simp
  rw [← e]
  exact h
end Go.Proofs.YtfmeeimhfdnjpaaDoor
namespace Go.Proofs.YtfmeeimhfdnjpaaDoor
set_option maxRecDepth 100000
open Go.RowKit
/-- What is told of a slot: its value; something that stays true while the memory grows; or nothing. -/
abbrev Fk : Type := Value ⊕ ({ p : Value → World → Prop // ∀ v w w', p v w → Below w.heap.size w w' → p v w' } ⊕ Unit)
def Fk.eq (x : Value) : Fk := .inl x
def Fk.sl (bs : List (BitVec 8)) : Fk := .inr (.inl ⟨fun v w => ∃ sp m c b o, v = .slice sp m c ∧ Sl w sp m c bs b o, fun _ _ _ ⟨sp, m, c, b, o, e, h⟩ hb => ⟨sp, m, c, b, o, e, h.below hb (fun hm => (h.src hm).2.1)⟩⟩)
def Fk.ls (n : Nat) (bs : List (BitVec 8)) : Fk := .inr (.inl ⟨fun v w => ∃ A C lb lo ps, v = .slice A n C ∧ (0 < n → A = some ⟨lb, lo, none⟩) ∧ n = ps.length ∧ Ls w lb lo ps ∧ cat ps = bs, by
  rintro v w w' ⟨A, C, lb, lo, ps, e, h1, h2, h3, h4⟩ hb
  exact ⟨A, C, lb, lo, ps, e, h1, h2, h3.below hb, h4⟩⟩)
def Fk.any : Fk := .inr (.inr ())
def Fk.f : Fk → Value → World → Prop
  | .inl x, v, _ => v = x
  | .inr (.inl p), v, w => p.1 v w
  | .inr (.inr _), _, _ => True
theorem Fk.mono : ∀ (q : Fk) (v : Value) (w w' : World), Fk.f q v w → Below w.heap.size w w' → Fk.f q v w'
  | .inl _, _, _, _, h, _ => h
  | .inr (.inl p), v, w, w', h, hb => p.2 v w w' h hb
  | .inr (.inr _), _, _, _, _, _ => trivial
def Fk.isBool (b : Bool) : Fk → Bool
  | .inl (.bool c) => b == c
  | _ => false
theorem Fk.isBool_eq {b : Bool} {q : Fk} (h : Fk.isBool b q = true) : q = Fk.eq (.bool b) := by
  unfold Fk.isBool at h
  split at h
  · have := eq_of_beq h
    rw [this]; rfl
  · cases h
theorem Fk.isBool_spec {b : Bool} {q : Fk} (h : Fk.isBool b q = true) : ∀ v w, Fk.f q v w → v = .bool b := by
  have e := Fk.isBool_eq h
  subst e
  exact fun v w hf => hf
theorem Fk.isBool_self {b : Bool} {q : Fk} (h : Fk.isBool b q = true) (w : World) : Fk.f q (.bool b) w := by
  have e := Fk.isBool_eq h
  subst e
  exact rfl
def Fk.isAny : Fk → Bool
  | .inr (.inr _) => true
  | _ => false
theorem Fk.isAny_spec : ∀ {q : Fk}, Fk.isAny q = true → ∀ v w, Fk.f q v w
  | .inl _, h, _, _ => by simp [Fk.isAny] at h
  | .inr (.inl _), h, _, _ => by simp [Fk.isAny] at h
  | .inr (.inr _), _, _, _ => trivial
/-- Is the operation wanted, by what is told of its guard? -/
def wantedBy (qs : List Fk) (o : Oper) : Bool := match o.guard with
  | none => true
  | some (j, b) => (qs.getD j .any).isBool b
/-- Number j's. -/
def fkAt (qs : List Fk) (j : Nat) : Value → World → Prop := (qs.getD j .any).f
/-- Each operation that is guarded is wanted, by what is told of its guard. -/
def guardsOk (ops : List Oper) (k : Nat) (qs : List Fk) : List Oper → List Fk → Bool
  | o :: os, q :: r => (match o.guard with
    | none => true
    | some (j, b) => depOk ops k o j ((((ops[j]?).bind (·.dst))).getD 0) && ((qs.getD j .any).isBool b || ((qs.getD j .any).isBool (!b) && q.isAny))) && guardsOk ops k qs os r
  | _, _ => true
/-- Each operation by itself. -/
def Steps (P : Program) (Q : Exit → Act → World → Prop) (ops : List Oper) (k : Nat) (all : List Fk) (a0 : Act) (w0 : World) : List Oper → List Fk → Prop
  | o :: os, q :: qs => (wantedBy all o = true → ∀ a w, Known ops k (fkAt all) a0 w0 o a w → o.wp P a w (Ends a o.dst w q.f) Q) ∧ Steps P Q ops k all a0 w0 os qs
  | _, _ => True
theorem Steps.get {P : Program} {Q : Exit → Act → World → Prop} {ops : List Oper} {k : Nat} {all : List Fk} {a0 : Act} {w0 : World} : ∀ {l : List Oper} {qs : List Fk}, Steps P Q ops k all a0 w0 l qs → ∀ (i : Nat) (o : Oper), i < qs.length → l[i]? = some o → wantedBy all o = true →
    ∀ a w, Known ops k (fkAt all) a0 w0 o a w → o.wp P a w (Ends a o.dst w (fkAt qs i)) Q
  | [], _, _, i, o, _, h => by simp at h
  | _ :: _, [], _, i, o, h, _ => by simp at h
  | q :: l, f :: qs, h, 0, o, _, hi => by
    obtain rfl : q = o := by simpa using hi
    exact h.1
  | q :: l, f :: qs, h, i + 1, o, hl, hi => by
    have := Steps.get h.2 i o (by simpa using hl) (by simpa using hi)
    simpa [fkAt] using this
theorem guardsOk_spec {ops : List Oper} {k : Nat} {qs : List Fk} : ∀ {l : List Oper} {r : List Fk}, guardsOk ops k qs l r = true → ∀ (i : Nat) (o : Oper) (j : Nat) (b : Bool), i < r.length → l[i]? = some o → o.guard = some (j, b) → (∃ d, depOk ops k o j d = true) ∧ ((qs.getD j .any).isBool b = true ∨ ((qs.getD j .any).isBool (!b) = true ∧ (r.getD i .any).isAny = true))
  | [], _, _, i, o, _, _, _, h, _ => by simp at h
  | _ :: _, [], _, i, o, _, _, h, _, _ => by simp at h
  | q :: l, f :: r, h, 0, o, j, b, _, hi, hg => by
    obtain rfl : q = o := by simpa using hi
    unfold guardsOk at h
    rw [Bool.and_eq_true, hg] at h
    have h1 := h.1
    simp only [Bool.and_eq_true, Bool.or_eq_true] at h1
    exact ⟨⟨_, h1.1⟩, h1.2⟩
  | q :: l, f :: r, h, i + 1, o, j, b, hl, hi, hg => by
    unfold guardsOk at h
    rw [Bool.and_eq_true] at h
    have := guardsOk_spec h.2 i o j b (by simpa using hl) (by simpa using hi) hg
    simpa using this
/-- The moves of a region, whatever order is picked. -/
theorem wp_any_steps {P : Program} {Q : Exit → Act → World → Prop} {ops : Array Oper} {a0 : Act} {w w1 : World} (qs : List Fk) (hw : Below w.heap.size w w1) (hk : decide (qs.length ≤ ops.size) = true) (hE : edgesOk ops.toList qs.length = true)
    (hD : dstsOk a0.tmps.size (ops.toList.take qs.length) = true) (hG : guardsOk ops.toList qs.length qs ops.toList qs = true)
    (hS : Steps P Q ops.toList qs.length qs a0 w ops.toList qs)
    (hF : ∀ vs w', (∀ i, i < qs.length → fkAt qs i (vs i) w') → Below w.heap.size w w' → wpList P ops Q (ops.toList.drop qs.length) (putAll vs 0 (ops.toList.take qs.length) a0) w') :
    wpAny P .any ops Q ops.size (Array.replicate ops.size false) a0 w1 := by
  have hk' : qs.length ≤ ops.size := of_decide_eq_true hk
  refine wp_mids (φ := fkAt qs) (k := qs.length) (a0 := a0) (w0 := w) hk' hE hD ?_ (fun i => Fk.mono _) ?_ hF ops.size _ a0 _ ?_ ?_
  · intro i o j b hi ho hg
    obtain ⟨h1, h2⟩ := guardsOk_spec hG i o j b hi (by rw [Array.getElem?_toList]; exact ho) hg
    refine ⟨h1, h2.imp (fun h => Fk.isBool_spec h) (fun h => ⟨Fk.isBool_spec h.1, fun v w => Fk.isAny_spec h.2 v w⟩)⟩
  · intro i o hi ho hb
    refine hS.get i o hi (by rw [Array.getElem?_toList]; exact ho) ?_
    unfold wantedBy
    cases hg : o.guard with
    | none => rfl
    | some jb =>
      obtain ⟨j, b⟩ := jb
      obtain ⟨_, h2⟩ := guardsOk_spec hG i o j b hi (by rw [Array.getElem?_toList]; exact ho) hg
      rcases h2 with h2 | h2
      · exact h2
      · exfalso
        have h3 := hb j b hg
        have hv := h3 _ _ (Fk.isBool_self h2.1 w)
        cases b <;> simp at hv
  · unfold unl
    exact Nat.le_trans (Array.countP_le_size) (by simp)
  · refine ⟨rfl, rfl, by simp, fun _ _ => rfl, fun i o d _ ho _ hl => ?_, fun i _ hi => ?_, hw⟩
    · have : i < ops.size := (Array.getElem?_eq_some_iff.1 ho).1
      simp [this] at hl
    · simp [hi]
/-- What is told of the frame behind a drawn region. -/
structure Final (ops : List Oper) (qs : List Fk) (a0 af : Act) (w : World) : Prop where
  defs : af.defers = a0.defers
  size : af.tmps.size = a0.tmps.size
  old : ∀ t, freeOf (ops.take qs.length) t = true → af.eval (.tmp t) = a0.eval (.tmp t)
  has : ∀ i d, (decide (i < qs.length) && (((ops[i]?).bind (·.dst)) == some d)) = true → fkAt qs i (af.eval (.tmp d)) w
theorem Final.t {ops : List Oper} {qs : List Fk} {a0 af : Act} {w : World} (A : Final ops qs a0 af w) {t : Nat} {v : Value} (x : a0.eval (.tmp t) = v) (h : freeOf (ops.take qs.length) t = true) : af.eval (.tmp t) = v := (A.old t h).trans x
theorem Known.t {ops : List Oper} {k : Nat} {φ : Nat → Value → World → Prop} {a0 : Act} {w0 : World} {o : Oper} {a : Act} {w : World} (K : Known ops k φ a0 w0 o a w) {t : Nat} {v : Value} (x : a0.eval (.tmp t) = v) (h : freeOf (ops.take k) t = true) : a.eval (.tmp t) = v := (K.old t h).trans x
theorem Final.e {ops : List Oper} {qs : List Fk} {a0 af : Act} {w : World} (A : Final ops qs a0 af w) (i d : Nat) {v : Value} (h : (decide (i < qs.length) && (((ops[i]?).bind (·.dst)) == some d)) = true) (hq : qs.getD i .any = Fk.eq v) : af.eval (.tmp d) = v := by
  have := A.has i d h
  unfold fkAt at this
  rw [hq] at this
  exact this
theorem Fk.e {v u : Value} {w : World} (h : (Fk.eq v).f u w) : u = v := h
theorem Final.sd {ops : List Oper} {qs : List Fk} {a0 af : Act} {w : World} (A : Final ops qs a0 af w) {n : Nat} {l : List (Deferred)} (h : a0.tmps.size = n ∧ a0.defers = l) : af.tmps.size = n ∧ af.defers = l := ⟨A.size.trans h.1, A.defs.trans h.2⟩
theorem sd2 {a a2 : Act} (h1 : a2.tmps.size = a.tmps.size) (h2 : a2.defers = a.defers) {n : Nat} {l : List (Deferred)} (h : a.tmps.size = n ∧ a.defers = l) : a2.tmps.size = n ∧ a2.defers = l := ⟨h1.trans h.1, h2.trans h.2⟩
theorem tr {a a2 : Act} {d : Nat} (o : ∀ t, (t == d) = false → a2.eval (.tmp t) = a.eval (.tmp t)) {t : Nat} {v : Value} (x : a.eval (.tmp t) = v) (h : (t == d) = false) : a2.eval (.tmp t) = v := (o t h).trans x
theorem bgo {w w1 w2 : World} (bl : Below w.heap.size w w1) (hb : Below w1.heap.size w1 w2) : Below w.heap.size w w2 := bl.trans (Below.mono hb bl.size)
theorem wp_any_end {P : Program} {Q : Exit → Act → World → Prop} {ops : Array Oper} {a0 : Act} {w w1 : World} (qs : List Fk) (hw : Below w.heap.size w w1) (hk : decide (qs.length ≤ ops.size) = true) (hE : edgesOk ops.toList qs.length = true)
    (hD : dstsOk a0.tmps.size (ops.toList.take qs.length) = true) (hG : guardsOk ops.toList qs.length qs ops.toList qs = true)
    (hS : Steps P Q ops.toList qs.length qs a0 w ops.toList qs)
    (hF : ∀ af w', Final ops.toList qs a0 af w' → Below w.heap.size w w' → wpList P ops Q (ops.toList.drop qs.length) af w') :
    wpAny P .any ops Q ops.size (Array.replicate ops.size false) a0 w1 := by
  refine wp_any_steps qs hw hk hE hD hG hS ?_
  intro vs w' hφ hb
  refine hF _ _ ⟨putAll_def _ _ _ _, putAll_size _ _ _ _, fun t ht => eval_of_get (putAll_other vs t _ _ _ (fun j o hj => freeOf_spec ht hj)), fun i d h => ?_⟩ hb
  simp only [Bool.and_eq_true, decide_eq_true_eq, beq_iff_eq] at h
  obtain ⟨hi, hd⟩ := h
  cases ho : ops.toList[i]? with
  | none => rw [ho] at hd; simp at hd
  | some o =>
    rw [ho] at hd
    have hd' : o.dst = some d := by simpa using hd
    have ht : (ops.toList.take qs.length)[i]? = some o := by rw [List.getElem?_take, if_pos hi]; exact ho
    obtain ⟨d2, hd2, hlt, hall⟩ := dstsOk_spec hD i o ht
    obtain rfl : d = d2 := Option.some.inj (hd'.symm.trans hd2)
    have := putAll_at vs d _ 0 a0 i o ht hd' hlt hall
    rw [Nat.zero_add] at this
    have e : (putAll vs 0 (ops.toList.take qs.length) a0).eval (.tmp d) = vs i := by simp [Act.eval, this]
    rw [e]
    exact hφ i hi
/-- A drawn region, whatever order is picked; of the frame behind it what is known alone. -/
theorem wp_region_end {P : Program} {Q : Exit → Act → World → Prop} {ops : Array Oper} {id : Nat} {a0 : Act} {w : World} (qs : List Fk) (hm : P.follows .mixedOrders = true) (hk : decide (qs.length ≤ ops.size) = true) (hE : edgesOk ops.toList qs.length = true)
    (hD : dstsOk a0.tmps.size (ops.toList.take qs.length) = true) (hG : guardsOk ops.toList qs.length qs ops.toList qs = true)
    (hS : Steps P Q ops.toList qs.length qs a0 w ops.toList qs)
    (hF : ∀ af w', Final ops.toList qs a0 af w' → Below w.heap.size w w' → wpList P ops Q (ops.toList.drop qs.length) af w') :
    (Code.region id ops true).wp P Q a0 w :=
  wp_region_any hm (wp_any_end qs (Below.refl _ _).drew hk hE hD hG hS hF)
/-- Each waits for ones ahead of it alone. -/
def backOk (ops : List Oper) : Bool := (List.range ops.length).all (fun i => ((ops[i]?).map fun o => o.after.toList.all fun e => !Region.binds .any e || decide (e.on < i)).getD true)
/-- The state in a region in the text's order, i operations done. -/
structure Sq (ops : Array Oper) (qs : List Fk) (a0 : Act) (w0 : World) (i : Nat) (a : Act) (w : World) : Prop where
  size : a.tmps.size = a0.tmps.size
  defs : a.defers = a0.defers
  old : ∀ t, freeOf (ops.toList.take qs.length) t = true → a.tmps[t]? = a0.tmps[t]?
  has : ∀ (j : Nat) (o : Oper) (d : Nat), j < i → ops[j]? = some o → o.dst = some d → fkAt qs j (a.eval (.tmp d)) w
  grow : Below w0.heap.size w0 w
theorem wp_list_seq {P : Program} {Q : Exit → Act → World → Prop} {ops : Array Oper} {a0 : Act} {w0 : World} (qs : List Fk) (hk : qs.length ≤ ops.size) (hE : backOk ops.toList = true)
    (hD : dstsOk a0.tmps.size (ops.toList.take qs.length) = true) (hG : guardsOk ops.toList qs.length qs ops.toList qs = true)
    (hS : Steps P Q ops.toList qs.length qs a0 w0 ops.toList qs)
    (hF : ∀ af w', Final ops.toList qs a0 af w' → Below w0.heap.size w0 w' → wpList P ops Q (ops.toList.drop qs.length) af w') :
    ∀ (m i : Nat) (a : Act) (w : World), i + m = qs.length → Sq ops qs a0 w0 i a w → wpList P ops Q (ops.toList.drop i) a w := by
  intro m
  induction m with
  | zero =>
    intro i a w hi hm
    obtain rfl : i = qs.length := by omega
    refine hF a w ⟨hm.defs, hm.size, fun t ht => eval_of_get (hm.old t ht), fun j d h => ?_⟩ hm.grow
    simp only [Bool.and_eq_true, decide_eq_true_eq, beq_iff_eq] at h
    obtain ⟨hj, hd⟩ := h
    cases ho : ops.toList[j]? with
    | none => rw [ho] at hd; simp at hd
    | some o =>
      rw [ho] at hd
      exact hm.has j o d hj (by rw [← Array.getElem?_toList]; exact ho) (by simpa using hd)
  | succ m ih =>
    intro i a w hi hm
    have hik : i < qs.length := by omega
    have hio : i < ops.size := by omega
    have hdrop : ops.toList.drop i = ops[i] :: ops.toList.drop (i + 1) := by
      rw [List.drop_eq_getElem_cons (by simpa using hio)]
      simp
    have ho : ops[i]? = some ops[i] := Array.getElem?_eq_getElem hio
    generalize ops[i] = o at hdrop ho
    have hto : (ops.toList.take qs.length)[i]? = some o := by rw [List.getElem?_take, if_pos hik, Array.getElem?_toList]; exact ho
    obtain ⟨d, hd, hlt, hall⟩ := dstsOk_spec hD i o hto
    have hK : Known ops.toList qs.length (fkAt qs) a0 w0 o a w := by
      refine ⟨fun t ht => eval_of_get (hm.old t ht), fun j d hj => ?_, hm.grow⟩
      unfold depOk at hj
      simp only [Bool.and_eq_true, decide_eq_true_eq, beq_iff_eq, Array.getElem?_toList] at hj
      obtain ⟨⟨hjk, hany⟩, hd⟩ := hj
      obtain ⟨e, he, hb⟩ := List.any_eq_true.1 hany
      simp only [Bool.and_eq_true, beq_iff_eq] at hb
      have hji : j < i := by
        unfold backOk at hE
        have h1 := List.all_eq_true.1 hE i (by simpa using hio)
        simp only [Array.getElem?_toList, ho, Option.map_some, Option.getD_some] at h1
        have h2 := List.all_eq_true.1 h1 e he
        rw [hb.1, hb.2] at h2
        simpa using h2
      cases hoj : ops[j]? with
      | none => rw [hoj] at hd; simp at hd
      | some oj =>
        rw [hoj] at hd
        exact hm.has j oj d hji hoj (by simpa using hd)
    have hnext : ∀ v w', Below w.heap.size w w' → fkAt qs i v w' → wpList P ops Q (ops.toList.drop (i + 1)) (a.put o.dst v) w' := by
      intro v w' hb hf
      refine ih (i + 1) _ _ (by omega) ⟨by rw [put_size]; exact hm.size, by rw [put_def]; exact hm.defs, fun t ht => ?_, fun j oj dj hj hoj hdj => ?_, hm.grow.trans (hb.mono hm.grow.size)⟩
      · rw [put_other _ _ _ _ (freeOf_spec ht hto)]; exact hm.old t ht
      · by_cases e : j = i
        · subst e
          obtain rfl : oj = o := Option.some.inj (hoj.symm.trans ho)
          obtain rfl : dj = d := Option.some.inj (hdj.symm.trans hd)
          have hev : (a.put oj.dst v).eval (.tmp dj) = v := by
            have := put_same a dj v (by rw [hm.size]; exact hlt)
            rw [← hd] at this
            simp [Act.eval, this]
          rw [hev]; exact hf
        · have htj : (ops.toList.take qs.length)[j]? = some oj := by rw [List.getElem?_take, if_pos (by omega), Array.getElem?_toList]; exact hoj
          have hne : o.dst ≠ some dj := fun h => by
            have : d = dj := Option.some.inj (hd.symm.trans h)
            exact hall j oj htj e (by rw [this]; exact hdj)
          rw [eval_of_get (put_other a o.dst v dj hne)]
          exact Fk.mono _ _ w w' (hm.has j oj dj (by omega) hoj hdj) hb
    have hyield : ∀ (j : Nat) (b c : Bool), o.guard = some (j, b) → (∃ d, depOk ops.toList qs.length o j d = true) → (∀ v w, fkAt qs j v w → v = .bool c) → yielded ops a.tmps j = some c := by
      rintro j b c hg ⟨d, hd⟩ hbool
      have hv := hbool _ _ (hK.dep j d hd)
      have hd2 : (ops[j]?).bind (·.dst) = some d := by
        unfold depOk at hd
        simp only [Bool.and_eq_true, decide_eq_true_eq, beq_iff_eq, Array.getElem?_toList] at hd
        exact hd.2
      have hget : a.tmps[d]? = some (.bool c) := by
        simp only [Act.eval, Array.getD_eq_getD_getElem?] at hv
        cases hq : a.tmps[d]? with
        | none => rw [hq] at hv; simp [undef] at hv
        | some u => rw [hq] at hv; simp at hv; rw [hv]
      unfold yielded
      rw [hd2]
      simp only [Option.bind_some, hget]
    rw [hdrop]
    have hgo : wantedBy qs o = true → Region.wanted o (yielded ops a.tmps) = true → wpList P ops Q (o :: ops.toList.drop (i + 1)) a w := by
      intro hwb hwant
      unfold wpList
      rw [if_pos hwant]
      refine .inl (Oper.wp_mono ?_ (hS.get i o hik (by rw [Array.getElem?_toList]; exact ho) hwb a w hK))
      rintro a' w' ⟨v, rfl, hb, hf⟩
      exact hnext v w' hb hf
    cases hg : o.guard with
    | none => exact hgo (by unfold wantedBy; rw [hg]) (by unfold Region.wanted; rw [hg])
    | some jb =>
      obtain ⟨j, b⟩ := jb
      obtain ⟨hdp, h2⟩ := guardsOk_spec hG i o j b hik (by rw [Array.getElem?_toList]; exact ho) hg
      rcases h2 with h2 | h2
      · refine hgo (by unfold wantedBy; rw [hg]; exact h2) ?_
        unfold Region.wanted
        rw [hg]
        show (yielded ops a.tmps j == some b) = true
        rw [hyield j b b hg hdp (Fk.isBool_spec h2)]; simp
      · have hno : Region.wanted o (yielded ops a.tmps) = false := by
          unfold Region.wanted
          rw [hg]
          show (yielded ops a.tmps j == some b) = false
          rw [hyield j b (!b) hg hdp (Fk.isBool_spec h2.1)]; cases b <;> rfl
        unfold wpList
        rw [if_neg (by rw [hno]; simp)]
        exact hnext undef w (Below.refl _ _) (Fk.isAny_spec h2.2 _ _)
/-- A region in the text's order: its first operations by steps; the rest, whatever it is, behind them. -/
theorem wp_region_seq {P : Program} {Q : Exit → Act → World → Prop} {ops : Array Oper} {id : Nat} {a0 : Act} {w : World} (qs : List Fk) (hk : decide (qs.length ≤ ops.size) = true) (hE : backOk ops.toList = true)
    (hD : dstsOk a0.tmps.size (ops.toList.take qs.length) = true) (hG : guardsOk ops.toList qs.length qs ops.toList qs = true)
    (hS : Steps P Q ops.toList qs.length qs a0 w ops.toList qs)
    (hF : ∀ af w', Final ops.toList qs a0 af w' → Below w.heap.size w w' → wpList P ops Q (ops.toList.drop qs.length) af w') :
    (Code.region id ops false).wp P Q a0 w :=
  wp_region_list (wp_list_seq qs (of_decide_eq_true hk) hE hD hG hS hF qs.length 0 a0 w (by omega) ⟨rfl, rfl, fun _ _ => rfl, fun j _ _ hj => absurd hj (by omega), Below.refl _ _⟩)
section
variable {P : Program} {Q : Exit → Act → World → Prop} {o : Oper} {a : Act} {w : World} {q : Fk}
theorem st_run {v : Value} {w' : World} (hr : (execOp a.eval o).run P w = .ok (.value v) w') (hb : Below w.heap.size w w') (h : q.f v w') : o.wp P a w (Ends a o.dst w q.f) Q := by
  unfold Oper.wp; rw [hr]; exact ⟨v, rfl, hb, h⟩
theorem st_pure {v : Value} (hr : (execOp a.eval o).run P w = .ok (.value v) w) (h : q.f v w) : o.wp P a w (Ends a o.dst w q.f) Q := st_run hr (Below.refl _ _) h
theorem st_move (x : Operand) (ho : o.op = .move x) (h : q.f (a.eval x) w) : o.wp P a w (Ends a o.dst w q.f) Q :=
  st_pure (v := a.eval x) (by unfold execOp; rw [ho]; rfl) h
theorem st_assign (x : Operand) (ho : o.op = .assign x) (h : q.f (a.eval x) w) : o.wp P a w (Ends a o.dst w q.f) Q :=
  st_pure (v := a.eval x) (by unfold execOp; rw [ho]; rfl) h
theorem st_pick_t (c x y : Operand) (ho : o.op = .pick c x y) (hc : a.eval c = .bool true) (h : q.f (a.eval x) w) : o.wp P a w (Ends a o.dst w q.f) Q :=
  st_pure (v := a.eval x) (by unfold execOp; rw [ho]; simp [hc, asBool]) h
theorem st_call (f : FuncId) (x : Operand) (xs : Array Operand) (ts : Array TypeId) (vs : Array Value) (ho : o.op = .call { callee := .value x, args := xs, argTypes := ts }) (hx : a.eval x = .func (.func f) #[] #[]) (hv : (xs.toList.map a.eval).toArray = vs)
    (hf : ∀ args w, (callFunc f args).run P w = .ok (.enter f args) w) (hc : Calls P f vs w fun e w' => ∃ v, e = .returned v ∧ q.f v w' ∧ Below w.heap.size w w') : o.wp P a w (Ends a o.dst w q.f) Q := by
  have hr : (execOp a.eval o).run P w = .ok (.enter f vs) w := by
    have hv' : xs.map a.eval = vs := by rw [← hv]; apply Array.toList_inj.1; simp
    unfold execOp; rw [ho]
    simp [resolve, hx, Deferred.ofValue, invoke, hv', hf]
  unfold Oper.wp; rw [hr]
  refine Calls.mono hc ?_
  rintro e w' ⟨v, rfl, h1, h2⟩
  exact ⟨v, rfl, h2, h1⟩
end
section
variable {Q : Exit → Act → World → Prop} {o : Oper} {a : Act} {w : World} {q : Fk}
theorem Tryd.build1 (sp : Option Addr) (m c : Nat) (w : World) : (Instr.buildSlice 28 1 #[(0, .slice sp m c)]).run Tryd.prog w = .ok (.slice (some ⟨w.heap.size, 0, none⟩) 1 1) (w.alloc (.cells #[.slice sp m c] 22)) := by kernel_rfl
theorem Tryd.build2 (sp sp2 : Option Addr) (m c m2 c2 : Nat) (w : World) : (Instr.buildSlice 28 2 #[(0, .slice sp m c), (1, .slice sp2 m2 c2)]).run Tryd.prog w = .ok (.slice (some ⟨w.heap.size, 0, none⟩) 2 2) (w.alloc (.cells #[.slice sp m c, .slice sp2 m2 c2] 22)) := by kernel_rfl
theorem st_build1 (x : Operand) (ho : o.op = .buildSlice 28 1 #[(0, x)]) {bs : List (BitVec 8)} (h : (Fk.sl bs).f (a.eval x) w) : o.wp Tryd.prog a w (Ends a o.dst w (Fk.ls 1 bs).f) Q := by
  obtain ⟨sp, m, c, b, so, e, hs⟩ := h
  refine st_run (v := .slice (some ⟨w.heap.size, 0, none⟩) 1 1) (w' := w.alloc (.cells #[.slice sp m c] 22)) ?_ ((Below.refl _ _).alloc (Nat.le_refl _) _) ⟨_, _, w.heap.size, 0, [⟨sp, m, c, bs, b, so⟩], rfl, fun _ => rfl, rfl, ls_new w 22 [⟨sp, m, c, bs, b, so⟩] (.cons hs .nil), by simp [cat]⟩
  unfold execOp
  rw [ho]
  simp [e, Tryd.build1]
theorem st_build2 (x y : Operand) (ho : o.op = .buildSlice 28 2 #[(0, x), (1, y)]) {bs bs2 : List (BitVec 8)} (h : (Fk.sl bs).f (a.eval x) w) (h2 : (Fk.sl bs2).f (a.eval y) w) : o.wp Tryd.prog a w (Ends a o.dst w (Fk.ls 2 (bs ++ bs2)).f) Q := by
  obtain ⟨sp, m, c, b, so, e, hs⟩ := h
  obtain ⟨sp2, m2, c2, b2, so2, e2, hs2⟩ := h2
  refine st_run (v := .slice (some ⟨w.heap.size, 0, none⟩) 2 2) (w' := w.alloc (.cells #[.slice sp m c, .slice sp2 m2 c2] 22)) ?_ ((Below.refl _ _).alloc (Nat.le_refl _) _) ⟨_, _, w.heap.size, 0, [⟨sp, m, c, bs, b, so⟩, ⟨sp2, m2, c2, bs2, b2, so2⟩], rfl, fun _ => rfl, rfl, ls_new w 22 [⟨sp, m, c, bs, b, so⟩, ⟨sp2, m2, c2, bs2, b2, so2⟩] (.cons hs (.cons hs2 .nil)), by simp [cat]⟩
  unfold execOp
  rw [ho]
  simp [e, e2, Tryd.build2]
theorem Tryd.len33 : Tryd.prog.arrayLen 33 = 32 := by kernel_rfl
theorem Tryd.elem33 : Tryd.prog.elem 33 = 5 := by kernel_rfl
theorem Tryd.slice33 (b so : Nat) (w : World) : (Instr.sliceAt 33 (.pointer (some ⟨b, so, none⟩)) none none none).run Tryd.prog w = .ok (.slice (some ⟨b, so, none⟩) 32 32) w := by
  rw [run_sliceAt_array_all w 33 ⟨b, so, none⟩ (by rw [Tryd.len33, Tryd.elem33]; exact Tryd.under33), Tryd.len33, Tryd.elem33, Tryd.sizeOf5]
  have hadd : (⟨b, so, none⟩ : Addr).add (0 * 1) = ⟨b, so, none⟩ := by unfold Addr.add; split <;> simp_all
  simp only [Result.andThen, slicedAt]
  rw [if_neg (by omega), hadd]
theorem st_slice33 (x : Operand) (ho : o.op = .slice 33 x none none none) (b so : Nat) (bs : List (BitVec 8)) (hx : a.eval x = .pointer (some ⟨b, so, none⟩)) (hl : bs.length = 32) (hb : b < w.heap.size) (hB : HasB w b so bs) : o.wp Tryd.prog a w (Ends a o.dst w (Fk.sl bs).f) Q := by
  refine st_pure (v := .slice (some ⟨b, so, none⟩) 32 32) ?_ ⟨_, _, _, b, so, rfl, hl.symm, Nat.le_refl _, fun h => by (cases h), fun _ => ⟨rfl, hb, hB⟩⟩
  unfold execOp
  rw [ho]
  simp [hx, Tryd.slice33]
theorem st_load33 (x : Operand) (ho : o.op = .load 33 x) (g : Nat) (xs : List (BitVec 8)) (hx : a.eval x = .pointer (some ⟨g, 0, none⟩)) (hl : xs.length = 32) (hg : HasV w g 33 xs) : o.wp Tryd.prog a w (Ends a o.dst w (Fk.eq (.agg (xs.map V).toArray)).f) Q :=
  wp_load_row 33 x ho g hx 33 (xs.map V).toArray (0, 0) _ hg Tryd.under33 rfl (by rw [List.size_toArray, List.length_map, hl]; exact Tryd.size33) ⟨_, rfl, Below.refl _ _, rfl⟩
end
/-- The bounds and the table that the sums want. -/
structure Tab (w : World) : Prop where
  K : HasK w 0
  pos : 0 < w.heap.size
theorem Tab.below {w w' : World} (h : Tab w) (hb : Below w.heap.size w w') : Tab w' := ⟨h.K.below hb h.pos, Nat.lt_of_lt_of_le h.pos hb.size⟩
theorem fk_input (kind : Int) {n : Nat} {bs : List (BitVec 8)} {v : Value} {w : World} (hT : bs.length ≤ 140737488351232) (hN : n ≤ 1000) (h : (Fk.ls n bs).f v w) :
    Calls Tryd.prog 48 #[.int .i64 kind, v] w fun e w' => ∃ u, e = .returned u ∧ (Fk.sl (kb kind :: bs)).f u w' ∧ Below w.heap.size w w' := by
  obtain ⟨A, C, lb, lo, ps, rfl, hA, rfl, hL, rfl⟩ := h
  refine (input_any kind A C lb lo ps w hA hL hT hN).mono ?_
  rintro e w' ⟨sp, c, g, rfl, hs, _, hb⟩
  exact ⟨_, rfl, ⟨_, _, _, _, _, rfl, hs⟩, hb⟩
theorem fk_tsum (kind : Int) {n : Nat} {bs : List (BitVec 8)} {v : Value} {w : World} (hT : bs.length ≤ 140737488351232) (hN : n ≤ 1000) (hK : Tab w) (h : (Fk.ls n bs).f v w) :
    Calls Tryd.prog 34 #[.int .i64 kind, v] w fun e w' => ∃ u, e = .returned u ∧ (Fk.eq (.agg ((shaOf (kb kind :: bs)).map V).toArray)).f u w' ∧ Below w.heap.size w w' := by
  obtain ⟨A, C, lb, lo, ps, rfl, hA, hn, hL, rfl⟩ := h
  refine (tsum_any kind A n C lb lo ps w hn hA hL hT hN hK.K hK.pos).mono ?_
  rintro e w' ⟨rfl, hb⟩
  exact ⟨_, rfl, rfl, hb⟩
theorem fk_sum {bs : List (BitVec 8)} {v : Value} {w : World} (hT : bs.length ≤ 140737488355328) (hK : Tab w) (h : (Fk.sl bs).f v w) :
    Calls Tryd.prog 26 #[v] w fun e w' => ∃ u, e = .returned u ∧ (Fk.eq (.agg ((shaOf bs).map V).toArray)).f u w' ∧ Below w.heap.size w w' := by
  obtain ⟨sp, m, c, b, o, rfl, hs⟩ := h
  refine (sum_any b o sp m c bs w hs.len hs.cap hs.src (by have := hs.len; omega) hK.K hK.pos).mono ?_
  rintro e w' ⟨rfl, hb⟩
  exact ⟨_, rfl, rfl, hb⟩
end Go.Proofs.YtfmeeimhfdnjpaaDoor
namespace Go.Proofs.YtfmeeimhfdnjpaaDoor
set_option maxRecDepth 100000
open Go.RowKit
theorem Tryd.mixed : Tryd.prog.follows .mixedOrders = true := by kernel_rfl
theorem Tryd.enter34 (args : Array Value) (w : World) : (callFunc 34 args).run Tryd.prog w = .ok (.enter 34 args) w := by kernel_rfl
theorem heap_alloc3_new (w : World) (o1 o2 o3 : Obj) : (((w.alloc o1).alloc o2).alloc o3).heap[w.heap.size + 1 + 1]? = some o3 := by
  have := heap_alloc_new ((w.alloc o1).alloc o2) o3
  simpa using this
theorem one_arg {a : Act} {x : Operand} {v : Value} (h : a.eval x = v) : ((#[x].toList.map a.eval).toArray : Array Value) = #[v] := by rw [← h]; rfl
end Go.Proofs.YtfmeeimhfdnjpaaDoor
namespace Go.Proofs.YtfmeeimhfdnjpaaDoor
set_option maxRecDepth 100000
open Go.RowKit
/-- The text of bytes. -/
def str (xs : List (BitVec 8)) : ByteArray := strOfNums (xs.map bv)
theorem byte_inj {x y : BitVec 8} (h : UInt8.ofNat (bv x).toNat = UInt8.ofNat (bv y).toNat) : x = y := by
  have := congrArg UInt8.toNat h
  simp only [bv, Int.toNat_natCast, UInt8.toNat_ofNat'] at this
  have h1 := x.isLt
  have h2 := y.isLt
  apply BitVec.eq_of_toNat_eq
  omega
theorem str_inj {xs ys : List (BitVec 8)} (h : str xs = str ys) : xs = ys := by
  have h2 : (str xs).data.toList = (str ys).data.toList := by rw [h]
  unfold str at h2
  rw [strOfNums_data, strOfNums_data, List.map_map, List.map_map] at h2
  induction xs generalizing ys with
  | nil => cases ys with
    | nil => rfl
    | cons y ys => simp at h2
  | cons x xs ih => cases ys with
    | nil => simp at h2
    | cons y ys =>
      simp only [List.map_cons, List.cons.injEq, Function.comp] at h2
      have e := byte_inj h2.1
      have hr : xs = ys := by
        refine ih (ys := ys) ?_ h2.2
        unfold str
        have : (strOfNums (xs.map bv)).data = (strOfNums (ys.map bv)).data := Array.toList_inj.1 (by rw [strOfNums_data, strOfNums_data, List.map_map, List.map_map]; exact h2.2)
        exact ByteArray.ext this
      rw [e, hr]
theorem str_beq (s t : ByteArray) : (s.toList == t.toList) = decide (s = t) := by
  rw [ByteArray.toList_eq, ByteArray.toList_eq]
  by_cases h : s = t
  · subst h; simp
  · have : s.data ≠ t.data := fun e => h (ByteArray.ext e)
    simp [h, this]
section
variable {Q : Exit → Act → World → Prop} {o : Oper} {a : Act} {w : World} {q : Fk}
theorem st_str (x : Operand) (ho : o.op = .convert 22 9 x) {bs : List (BitVec 8)} (hne : 0 < bs.length) (h : (Fk.sl bs).f (a.eval x) w) : o.wp Tryd.prog a w (Ends a o.dst w (Fk.eq (.string (str bs))).f) Q := by
  obtain ⟨sp, m, c, b, so, e, hs⟩ := h
  refine st_pure (v := .string (str bs)) ?_ rfl
  have hl := hs.len
  obtain ⟨rfl, _, hB⟩ := hs.src (by omega)
  have := run_convert_bytes_arg (P := Tryd.prog) w 22 5 Tryd.under22 Tryd.under5 b so m c (bs.map bv) (by simp [hl]) (fun i hi => by
    rw [hB i (by omega)]
    have : i < bs.length := by omega
    simp [this]) 9 Tryd.under9
  unfold execOp
  rw [ho]
  simp [e, this, str]
theorem st_eqs (x y : Operand) (ho : o.op = .binOp .eql 9 x y 9) (s t : ByteArray) (hx : a.eval x = .string s) (hy : a.eval y = .string t) (b : Bool) (hb : b = decide (s = t)) : o.wp Tryd.prog a w (Ends a o.dst w (Fk.eq (.bool b)).f) Q := by
  refine st_pure (v := .bool b) ?_ rfl
  unfold execOp
  rw [ho]
  subst hb
  simp [hx, hy, eqGuard, binOp, Op.stringOp, str_beq]
end
end Go.Proofs.YtfmeeimhfdnjpaaDoor
namespace Go.Proofs.YtfmeeimhfdnjpaaDoor
set_option maxRecDepth 100000
open Go.RowKit
theorem put_eval_other (a : Act) (d : Nat) (v : Value) (t : Nat) (h : d ≠ t) : (a.put (some d) v).eval (.tmp t) = a.eval (.tmp t) := eval_of_get (put_other a (some d) v t (by simp [h]))
theorem put_eval_same (a : Act) (d : Nat) (v : Value) (h : d < a.tmps.size) : (a.put (some d) v).eval (.tmp d) = v := by
  have := put_same a d v h
  simp [Act.eval, this]
theorem ret_slot {fn : Func} {t : Tmp} (h : fn.results = #[.tmp t]) (a : Act) (v : Value) (ht : a.eval (.tmp t) = v) (P : Program) (w : World) : (results fn a.tmps).run P w = .ok v w := by
  rw [results_tmp h]
  have : a.tmps.getD t undef = v := ht
  rw [this]
theorem Tryd.under3 : Tryd.prog.underlying 3 = some (.int .i64) := by kernel_rfl
theorem Tryd.under90 : Tryd.prog.underlying 90 = some (.int .u32) := by kernel_rfl
theorem Tryd.isAgg3 (w : World) : (isAgg 3).run Tryd.prog w = .ok false w := by kernel_rfl
section
variable {Q : Exit → Act → World → Prop} {o : Oper} {a : Act} {w : World} {q : Fk}
theorem st_eqi (t : TypeId) (x y : Operand) (ho : o.op = .binOp .eql t x y t) (k : IntKind) (s u : Int) (hx : a.eval x = .int k s) (hy : a.eval y = .int k u) (b : Bool) (hb : b = decide (s = u)) : o.wp Tryd.prog a w (Ends a o.dst w (Fk.eq (.bool b)).f) Q := by
  refine st_pure (v := .bool b) ?_ rfl
  subst hb
  unfold execOp
  rw [ho]
  simp [hx, hy, eqGuard, binOp, Op.intCmp]
  by_cases h : s = u
  · simp [h]
  · simp [h]
theorem Tryd.noGuard33n (x y : Operand) (a b : Array Value) (w : World) : (eqGuard .neq 33 x y (.agg a) (.agg b)).run Tryd.prog w = .ok () w := by kernel_rfl
end
end Go.Proofs.YtfmeeimhfdnjpaaDoor
namespace Go.Proofs.YtfmeeimhfdnjpaaDoor
set_option maxRecDepth 100000
open Go.RowKit
/-- A slice value that has the hashes hs, one behind the other. -/
structure Hl (w : World) (A : Option Addr) (lb lo : Nat) (hs : List (List (BitVec 8))) : Prop where
  ptr : 0 < hs.length → A = some ⟨lb, lo, none⟩
  lt : 0 < hs.length → lb < w.heap.size
  all : ∀ (i : Nat) (h : List (BitVec 8)), hs[i]? = some h → h.length = 32 ∧ HasB w lb (lo + i * 32) h
theorem Hl.below {w w' : World} {A : Option Addr} {lb lo : Nat} {hs : List (List (BitVec 8))} (h : Hl w A lb lo hs) (hb : Below w.heap.size w w') : Hl w' A lb lo hs :=
  ⟨h.ptr, fun hp => Nat.lt_of_lt_of_le (h.lt hp) hb.size, fun i x hi => ⟨(h.all i x hi).1, (h.all i x hi).2.below hb (h.lt (by have := (List.getElem?_eq_some_iff.1 hi).1; omega))⟩⟩
/-- The slice of hash number i. -/
def hp (lb lo : Nat) (hs : List (List (BitVec 8))) (i : Nat) : Pt := ⟨some ⟨lb, lo + i * 32, none⟩, 32, 32, hs.getD i [], lb, lo + i * 32⟩
def hps (lb lo : Nat) (hs : List (List (BitVec 8))) (k : Nat) : List Pt := (List.range k).map (hp lb lo hs)
/-- Block g is a row of slices. -/
def HasP (w : World) (g : Nat) (xs : List Value) : Prop := w.heap[g]? = some (.cells xs.toArray 22 (0, 0))
theorem HasP.cell {w : World} {g : Nat} {xs : List Value} (h : HasP w g xs) (i : Nat) : w.cell? ⟨g, i, none⟩ = xs[i]? := by
  unfold HasP at h
  rw [cell_of_row w g i _ 22 _ h]; simp
theorem HasP.frozen {w : World} {g : Nat} {xs : List Value} (h : HasP w g xs) (i : Nat) : w.frozen? ⟨g, i, none⟩ = false := frozen_of_row w g i _ 22 h
theorem HasP.set {w : World} {g : Nat} {xs : List Value} (h : HasP w g xs) (i : Nat) (v : Value) : HasP (w.setCell ⟨g, i, none⟩ v) g (xs.set i v) := by
  unfold HasP at *
  simp [World.setCell, Array.getElem?_modify, h]
theorem HasP.lt {w : World} {g : Nat} {xs : List Value} (h : HasP w g xs) : g < w.heap.size := (Array.getElem?_eq_some_iff.1 h).1
theorem HasP.below {w w' : World} {B g : Nat} {xs : List Value} (h : HasP w g xs) (hb : Below B w w') (hB : g < B) : HasP w' g xs := by
  unfold HasP at *
  rw [hb.block g hB]; exact h
end Go.Proofs.YtfmeeimhfdnjpaaDoor
namespace Go.Proofs.YtfmeeimhfdnjpaaDoor
set_option maxRecDepth 100000
open Go.RowKit
/-- A number in a cell. -/
def Nv (n : Nat) : Value := .int .i64 (n : Int)
/-- A slice value that has the numbers ds. -/
structure Is (w : World) (sp : Option Addr) (b o : Nat) (ds : List Nat) : Prop where
  ptr : 0 < ds.length → sp = some ⟨b, o, none⟩
  cell : ∀ (i : Nat) (d : Nat), ds[i]? = some d → w.cell? ⟨b, o + i, none⟩ = some (.int .i64 (d : Int))
theorem Is.lt {w : World} {sp : Option Addr} {b o : Nat} {ds : List Nat} (h : Is w sp b o ds) {i d : Nat} (hi : ds[i]? = some d) : b < w.heap.size := block_lt_of_cell (h.cell i d hi)
theorem Is.below {w w' : World} {sp : Option Addr} {b o : Nat} {ds : List Nat} (h : Is w sp b o ds) (hb : Below w.heap.size w w') : Is w' sp b o ds :=
  ⟨h.ptr, fun i d hi => by rw [hb.cell (h.lt hi)]; exact h.cell i d hi⟩
/-- Digit i of the first 64. -/
def half (h : List (BitVec 8)) (i : Nat) : Nat := if i % 2 = 0 then (h.getD (i / 2) 0).toNat / 16 else (h.getD (i / 2) 0).toNat % 16
end Go.Proofs.YtfmeeimhfdnjpaaDoor
namespace Go.Proofs.YtfmeeimhfdnjpaaDoor
set_option maxRecDepth 100000
open Go.RowKit
/-- v is a slice of the call's own that has the numbers xs. -/
def OwnI (w : World) (base : Nat) (v : Value) (n : Nat) (xs : List Nat) : Prop := w.ownsRow base 3 1 v n (xs.map Nv)
theorem OwnI.alloc {w : World} {base n : Nat} {v : Value} {xs : List Nat} (h : OwnI w base v n xs) (o : Obj) : OwnI (w.alloc o) base v n xs := World.ownsRow.alloc h o
attribute [local go_sem] and15
end Go.Proofs.YtfmeeimhfdnjpaaDoor
namespace Go.Proofs.YtfmeeimhfdnjpaaDoor
set_option maxRecDepth 100000
open Go.RowKit
/-- One step of chain c, from step s. -/
def chn (c s : Int) (x : List (BitVec 8)) : List (BitVec 8) := shaOf (kb 2 :: (x ++ (two c ++ two s)))
/-- n steps of chain c, from step f on. -/
def wk (c : Int) (f : Nat) (x : List (BitVec 8)) : Nat → List (BitVec 8)
  | 0 => x
  | n + 1 => chn c ((f + n : Nat) : Int) (wk c f x n)
/-- The secret of chain c. -/
def sec (seed : List (BitVec 8)) (key c : Int) : List (BitVec 8) := shaOf (kb 3 :: (seed ++ (four key ++ four c)))
/-- A public key. -/
def pub (hs : List (List (BitVec 8))) : List (BitVec 8) := shaOf (kb 4 :: hs.flatten)
theorem HasV.setRow {w : World} {g : Nat} {T : TypeId} {xs ys : List (BitVec 8)} (h : HasV w g T xs) : HasV (w.setRow g (ys.map V).toArray) g T ys := setRow_heap _ _ _ _ T (0, 0) h
theorem HasV.setRow_other {w : World} {g b : Nat} {T : TypeId} {xs : List (BitVec 8)} {cs : Array Value} (h : HasV w b T xs) (hne : b ≠ g) : HasV (w.setRow g cs) b T xs := by
  have := Go.setRow_other w g b cs hne
  unfold HasV at *
  rw [this]; exact h
end Go.Proofs.YtfmeeimhfdnjpaaDoor
