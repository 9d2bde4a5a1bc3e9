/- What hashOf hands back: the bytes of the eight numbers, the highest of each first. -/
import Derived.Test.YtfhhlkbcoofemaaDoorWd
namespace Go.Proofs.YtfhhlkbcoofemaaDoor
open Go.RowKit
theorem Tryd.under23 : Tryd.prog.underlying 23 = some (.array 32 5) := by kernel_rfl
theorem Tryd.size23 : (Tryd.prog.info? 23).map (·.size) = some 32 := by kernel_rfl
theorem heap_alloc3 (w : World) (A B C : Obj) : (((w.alloc A).alloc B).alloc C).heap[w.heap.size + 1 + 1]? = some C ∧ (((w.alloc A).alloc B).alloc C).heap[w.heap.size + 1]? = some B := by
  have e : (w.alloc A).heap.size = w.heap.size + 1 := by simp
  have h1 := heap_alloc2_new (w.alloc A) B C
  have h2 := heap_alloc2_old (w.alloc A) B C
  rw [e] at h1 h2
  exact ⟨h1, h2⟩
theorem Tryd.idx59_0 (s : St) (w : World) : (Instr.index 59 (.agg #[.int .u32 (vl s.a), .int .u32 (vl s.b), .int .u32 (vl s.c), .int .u32 (vl s.d), .int .u32 (vl s.e), .int .u32 (vl s.f), .int .u32 (vl s.g), .int .u32 (vl s.h)]) (.int .i64 ((0 : Nat) : Int))).run Tryd.prog w = .ok (.int .u32 (vl s.a)) w := by kernel_rfl
theorem Tryd.idx59_1 (s : St) (w : World) : (Instr.index 59 (.agg #[.int .u32 (vl s.a), .int .u32 (vl s.b), .int .u32 (vl s.c), .int .u32 (vl s.d), .int .u32 (vl s.e), .int .u32 (vl s.f), .int .u32 (vl s.g), .int .u32 (vl s.h)]) (.int .i64 ((1 : Nat) : Int))).run Tryd.prog w = .ok (.int .u32 (vl s.b)) w := by kernel_rfl
theorem Tryd.idx59_2 (s : St) (w : World) : (Instr.index 59 (.agg #[.int .u32 (vl s.a), .int .u32 (vl s.b), .int .u32 (vl s.c), .int .u32 (vl s.d), .int .u32 (vl s.e), .int .u32 (vl s.f), .int .u32 (vl s.g), .int .u32 (vl s.h)]) (.int .i64 ((2 : Nat) : Int))).run Tryd.prog w = .ok (.int .u32 (vl s.c)) w := by kernel_rfl
theorem Tryd.idx59_3 (s : St) (w : World) : (Instr.index 59 (.agg #[.int .u32 (vl s.a), .int .u32 (vl s.b), .int .u32 (vl s.c), .int .u32 (vl s.d), .int .u32 (vl s.e), .int .u32 (vl s.f), .int .u32 (vl s.g), .int .u32 (vl s.h)]) (.int .i64 ((3 : Nat) : Int))).run Tryd.prog w = .ok (.int .u32 (vl s.d)) w := by kernel_rfl
theorem Tryd.idx59_4 (s : St) (w : World) : (Instr.index 59 (.agg #[.int .u32 (vl s.a), .int .u32 (vl s.b), .int .u32 (vl s.c), .int .u32 (vl s.d), .int .u32 (vl s.e), .int .u32 (vl s.f), .int .u32 (vl s.g), .int .u32 (vl s.h)]) (.int .i64 ((4 : Nat) : Int))).run Tryd.prog w = .ok (.int .u32 (vl s.e)) w := by kernel_rfl
theorem Tryd.idx59_5 (s : St) (w : World) : (Instr.index 59 (.agg #[.int .u32 (vl s.a), .int .u32 (vl s.b), .int .u32 (vl s.c), .int .u32 (vl s.d), .int .u32 (vl s.e), .int .u32 (vl s.f), .int .u32 (vl s.g), .int .u32 (vl s.h)]) (.int .i64 ((5 : Nat) : Int))).run Tryd.prog w = .ok (.int .u32 (vl s.f)) w := by kernel_rfl
theorem Tryd.idx59_6 (s : St) (w : World) : (Instr.index 59 (.agg #[.int .u32 (vl s.a), .int .u32 (vl s.b), .int .u32 (vl s.c), .int .u32 (vl s.d), .int .u32 (vl s.e), .int .u32 (vl s.f), .int .u32 (vl s.g), .int .u32 (vl s.h)]) (.int .i64 ((6 : Nat) : Int))).run Tryd.prog w = .ok (.int .u32 (vl s.g)) w := by kernel_rfl
theorem Tryd.idx59_7 (s : St) (w : World) : (Instr.index 59 (.agg #[.int .u32 (vl s.a), .int .u32 (vl s.b), .int .u32 (vl s.c), .int .u32 (vl s.d), .int .u32 (vl s.e), .int .u32 (vl s.f), .int .u32 (vl s.g), .int .u32 (vl s.h)]) (.int .i64 ((7 : Nat) : Int))).run Tryd.prog w = .ok (.int .u32 (vl s.h)) w := by kernel_rfl
theorem Tryd.idx59 (s : St) (k : Nat) (h : k < 8) (w : World) : (Instr.index 59 (.agg #[.int .u32 (vl s.a), .int .u32 (vl s.b), .int .u32 (vl s.c), .int .u32 (vl s.d), .int .u32 (vl s.e), .int .u32 (vl s.f), .int .u32 (vl s.g), .int .u32 (vl s.h)]) (.int .i64 (k : Int))).run Tryd.prog w = .ok (.int .u32 (vl (s.list.getD k 0))) w := by
  have hc : k = 0 ∨ k = 1 ∨ k = 2 ∨ k = 3 ∨ k = 4 ∨ k = 5 ∨ k = 6 ∨ k = 7 := by omega
  rcases hc with rfl | rfl | rfl | rfl | rfl | rfl | rfl | rfl
  · exact Tryd.idx59_0 s w
  · exact Tryd.idx59_1 s w
  · exact Tryd.idx59_2 s w
  · exact Tryd.idx59_3 s w
  · exact Tryd.idx59_4 s w
  · exact Tryd.idx59_5 s w
  · exact Tryd.idx59_6 s w
  · exact Tryd.idx59_7 s w
attribute [local go_sem] byt0 byt1 byt2 byt3
set_option maxHeartbeats 400000 in
theorem hashOf_any (s : St) (w : World) :
    Calls Tryd.prog 32 #[.agg #[.int .u32 (vl s.a), .int .u32 (vl s.b), .int .u32 (vl s.c), .int .u32 (vl s.d), .int .u32 (vl s.e), .int .u32 (vl s.f), .int .u32 (vl s.g), .int .u32 (vl s.h)]] w fun e w' => e = .returned (.agg ((hsh s 8).map V).toArray) ∧ Below w.heap.size w w' := by
  go_enter Tryd.func32, Tryd.ntmps32
  go_wp2
  go_loopw [7] (fun i wr => ∃ k : Nat, k ≤ 8 ∧ i = .int .i64 k ∧ Below w.heap.size w wr ∧ HasV wr (w.heap.size + 1 + 1) 23 (hsh s k) ∧ HasV wr (w.heap.size + 1) 23 (hsh s 0)) (fun i _ => 8 - (intOf i).toNat)
  case atStart =>
    refine ⟨0, by omega, rfl, ?_, ?_, ?_⟩
    · exact (((Below.refl _ _).alloc (Nat.le_refl _) _).alloc (by simp) _).alloc (by simp; omega) _
    · exact (heap_alloc3 _ _ _ _).1
    · exact (heap_alloc3 _ _ _ _).2
  case round =>
    obtain ⟨k, hk, rfl, hb, hw, hr⟩ := hrel
    by_cases hlt : k < 8
    · have hidx := Tryd.idx59 s k hlt
      have HR : Box (HasV _ _ 23 (hsh s (k + 1))) := ⟨(((hw.set (4 * k) (byt (s.list.getD k 0) 0)).set (4 * k + 1) (byt (s.list.getD k 0) 1)).set (4 * k + 2) (byt (s.list.getD k 0) 2)).set (4 * k + 3) (byt (s.list.getD k 0) 3)⟩
      generalize s.list.getD k 0 = x at hidx HR
      have c0 := hw.cell (4 * k) (by rw [hsh_len]; omega)
      have c1 := hw.cell (4 * k + 1) (by rw [hsh_len]; omega)
      have c2 := hw.cell (4 * k + 2) (by rw [hsh_len]; omega)
      have c3 := hw.cell (4 * k + 3) (by rw [hsh_len]; omega)
      have f0 := hw.frozen (4 * k)
      have f1 := hw.frozen (4 * k + 1)
      have f2 := hw.frozen (4 * k + 2)
      have f3 := hw.frozen (4 * k + 3)
      clear hw
      generalize (hsh s k).getD (4 * k) 0 = y0 at c0
      generalize (hsh s k).getD (4 * k + 1) 0 = y1 at c1
      generalize (hsh s k).getD (4 * k + 2) 0 = y2 at c2
      generalize (hsh s k).getD (4 * k + 3) 0 = y3 at c3
      go_wp2
      go_roundw
      case rel =>
        refine ⟨k + 1, by omega, by go_num, ?_, HR.out, ?_⟩
        · exact (((hb.setCell (by simp; omega) _).setCell (by simp; omega) _).setCell (by simp; omega) _).setCell (by simp; omega) _
        · exact (((hr.other _ _ (by simp)).other _ _ (by simp)).other _ _ (by simp)).other _ _ (by simp)
      case measure => simp [intOf]; omega
    · have hk8 : Box (k = 8) := ⟨by omega⟩
      have hw' : wr.heap[w.heap.size + 1 + 1]? = some (.cells ((hsh s k).map V).toArray 23 (0, 0)) := hw
      have hr' : wr.heap[w.heap.size + 1]? = some (.cells ((hsh s 0).map V).toArray 23 (0, 0)) := hr
      have hl : Box (((hsh s k).map V).toArray.size = 32) := ⟨by simp [hsh_len]⟩
      clear hw hr
      go_wp2_with (first | (refine wpList_load_row rfl 23 (.tmp 3) rfl (w.heap.size + 1 + 1) rfl 23 _ (0, 0) _ hw' Tryd.under23 rfl (by rw [hl.out]; exact Tryd.size23) ?_) | (refine wpList_store_row rfl 23 (.tmp 2) (.tmp 38) rfl (w.heap.size + 1) ((hsh s k).map V).toArray rfl rfl 23 _ hr' (by rw [hl.out]; exact Tryd.size23) (by simp [hsh_len]) (V_all _) ?_))
      have e := hk8.out
      subst e
      refine bodyPost_ret (v := .agg ((hsh s 8).map V).toArray) ?_ rfl ⟨rfl, ?_⟩
      · exact results_cell_row (P := Tryd.prog) (fn := Tryd.f32) (p := 2) (ty := 23) rfl _ _ (w.heap.size + 1) 23 _ (0, 0) _ rfl (setRow_heap _ _ _ _ 23 (0, 0) hr') Tryd.under23 rfl (by rw [hl.out]; exact Tryd.size23)
      · exact hb.trans (below_setRow _ _ _ _ (by omega))
end Go.Proofs.YtfhhlkbcoofemaaDoor
