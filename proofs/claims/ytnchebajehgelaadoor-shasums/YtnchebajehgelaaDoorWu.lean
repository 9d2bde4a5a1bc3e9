/- scratch -/
import Derived.Test.YtnchebajehgelaaDoorPr
import Derived.Test.YtnchebajehgelaaDoorWg
namespace Go.Proofs.YtnchebajehgelaaDoor
open Go.RowKit
theorem Tryd.under71 : Tryd.prog.underlying 71 = some (.array 16 49) := by kernel_rfl
theorem Tryd.size71 : (Tryd.prog.info? 71).map (·.size) = some 16 := by kernel_rfl
theorem Tryd.zero71 (w : World) : (zeroValue 71).run Tryd.prog w = .ok (.agg (Z16.map N64).toArray) w := by kernel_rfl
attribute [local go_sem] wl_addw wl_mulw wl_add wl_mul wl_q16 wl_r16 wl_q16t wl_r16t wl_id
set_option maxHeartbeats 400000 in
theorem of_any (x : BitVec 64) (w : World) :
    Calls Tryd.prog 35 #[.int .u64 (wl x)] w fun e w' => e = .returned (.agg ((ofL x 4).map N64).toArray) ∧ Below w.heap.size w w' := by
  go_enter Tryd.func35, Tryd.ntmps35
  go_upto_region 2 with fail
  refine code_any (fun w1 => HasN w1 w.heap.size 71 Z16 ∧ HasN w1 (w.heap.size + 1) 71 Z16 ∧ Below w.heap.size w w1) ?_ ?_
  · exact ⟨heap_alloc2_old _ _ _, heap_alloc2_new _ _ _, ((Below.refl _ _).alloc (Nat.le_refl _) _).alloc (by simp) _⟩
  rintro w1 ⟨hv1, hv2, hb1⟩
  go_wp2
  go_loopw [0, 4] (fun n i wr => ∃ k : Nat, k ≤ 4 ∧ i = .int .i64 k ∧ n = .int .u64 (wl (ofR x k)) ∧ HasN wr w.heap.size 71 Z16 ∧ HasN wr (w.heap.size + 1) 71 (ofL x k) ∧ Below w.heap.size w wr) (fun _ i _ => 4 - (intOf i).toNat)
  case atStart => exact ⟨0, by omega, rfl, rfl, hv1, hv2, hb1⟩
  case round =>
    clear hv1 hv2 hb1
    obtain ⟨k, hk, rfl, rfl, hv1, hv2, hb⟩ := hrel
    by_cases hlt : k < 4
    · have HR : Box (HasN _ _ 71 (ofL x (k + 1))) := ⟨hv2.set k (r16 (ofR x k))⟩
      have HQ : Box (ofR x (k + 1) = q16 (ofR x k)) := ⟨rfl⟩
      have c0 := hv2.cell k (by rw [ofL_len]; omega)
      have f0 := hv2.frozen k
      generalize ofR x k = r at HR HQ ⊢
      generalize (ofL x k).getD k 0 = y at c0
      have hr0 := wl_range r
      clear hv2
      go_wp2
      go_roundw
      case rel => exact ⟨k + 1, by omega, by go_num, by rw [HQ.out], hv1.other _ _ (by simp), HR.out, hb.setCell (by simp) _⟩
      case measure => simp [intOf]; omega
    · have hk4 : Box (k = 4) := ⟨by omega⟩
      have hv1' : wr.heap[w.heap.size]? = some (.cells (Z16.map N64).toArray 71 (0, 0)) := hv1
      have hv2' : wr.heap[w.heap.size + 1]? = some (.cells ((ofL x k).map N64).toArray 71 (0, 0)) := hv2
      have hl : Box (((ofL x k).map N64).toArray.size = 16) := ⟨by simp [ofL_len]⟩
      clear hv1 hv2
      go_wp2_with (first | (refine wpList_load_row rfl 71 (.tmp 3) rfl (w.heap.size + 1) rfl 71 _ (0, 0) _ hv2' Tryd.under71 rfl (by rw [hl.out]; exact Tryd.size71) ?_) | (refine wpList_store_row rfl 71 (.tmp 2) (.tmp 15) rfl w.heap.size ((ofL x k).map N64).toArray rfl rfl 71 _ hv1' (by rw [hl.out]; exact Tryd.size71) (by rw [hl.out]; rfl) (N64_all _) ?_))
      have e := hk4.out
      subst e
      refine bodyPost_ret (v := .agg ((ofL x 4).map N64).toArray) ?_ rfl ⟨rfl, hb.trans (below_setRow _ _ _ _ (Nat.le_refl _))⟩
      exact results_cell_row (P := Tryd.prog) (fn := Tryd.f35) (p := 2) (ty := 71) rfl _ _ w.heap.size 71 _ (0, 0) _ rfl (setRow_heap _ _ _ _ 71 (0, 0) hv1') Tryd.under71 rfl (by rw [hl.out]; exact Tryd.size71)
theorem four_new (w : World) (A B C D : Obj) : let w1 := (((w.alloc A).alloc B).alloc C).alloc D
    w1.heap[w.heap.size]? = some A ∧ w1.heap[w.heap.size + 1]? = some B ∧ w1.heap[w.heap.size + 1 + 1]? = some C ∧ w1.heap[w.heap.size + 1 + 1 + 1]? = some D ∧ Below w.heap.size w w1 := by
  intro w1
  have e : (w.alloc A).heap.size = w.heap.size + 1 := by simp
  have h3 := heap_alloc3 (w.alloc A) B C D
  rw [e] at h3
  have h2 := heap_alloc3 w A B C
  refine ⟨?_, ?_, h3.2, h3.1, ((((Below.refl _ _).alloc (Nat.le_refl _) _).alloc (by simp) _).alloc (by simp <;> omega) _).alloc (by simp <;> omega) _⟩
  · show ((((w.alloc A).alloc B).alloc C).alloc D).heap[w.heap.size]? = _
    rw [Below.heap_alloc _ _ _ (by simp <;> omega), Below.heap_alloc _ _ _ (by simp <;> omega), Below.heap_alloc _ _ _ (by simp)]
    exact heap_alloc_new _ _
  · show ((((w.alloc A).alloc B).alloc C).alloc D).heap[w.heap.size + 1]? = _
    rw [Below.heap_alloc _ _ _ (by simp <;> omega)]
    exact h2.2
set_option maxHeartbeats 400000 in
theorem times_any (a b : List (BitVec 64)) (w : World) (ha : a.length = 16) (hb : b.length = 16) :
    Calls Tryd.prog 36 #[.agg (a.map N64).toArray, .agg (b.map N64).toArray] w fun e w' => e = .returned (.agg ((mulL a b 16).map N64).toArray) ∧ Below w.heap.size w w' := by
  go_enter Tryd.func36, Tryd.ntmps36
  go_upto_region 2 with fail
  refine code_any (fun w1 => HasN w1 w.heap.size 71 a ∧ HasN w1 (w.heap.size + 1) 71 b ∧ HasN w1 (w.heap.size + 1 + 1) 71 Z16 ∧ HasN w1 (w.heap.size + 1 + 1 + 1) 71 Z16 ∧ Below w.heap.size w w1) ?_ ?_
  · exact four_new w _ _ _ _
  rintro w1 ⟨g1, g2, g3, g4, hb1⟩
  go_wp2
  go_loopw [6] (fun i wr => ∃ k : Nat, k ≤ 16 ∧ i = .int .i64 k ∧ HasN wr w.heap.size 71 a ∧ HasN wr (w.heap.size + 1) 71 b ∧ HasN wr (w.heap.size + 1 + 1) 71 Z16 ∧ HasN wr (w.heap.size + 1 + 1 + 1) 71 (mulL a b k) ∧ Below w.heap.size w wr) (fun i _ => 16 - (intOf i).toNat)
  case atStart => exact ⟨0, by omega, rfl, g1, g2, g3, g4, hb1⟩
  case round =>
    clear g1 g2 g3 g4 hb1
    obtain ⟨k, hk, rfl, g1, g2, g3, g4, hb1⟩ := hrel
    by_cases hlt : k < 16
    · have hdk : decide ((k : Int) < 16) = true := by simp; omega
      have HL : Box (mulL a b (k + 1) = car (mulS (mulL a b k) a b k (16 - k)) 15) := ⟨rfl⟩
      have hlen : Box ((mulL a b k).length = 16) := ⟨mulL_len a b k⟩
      generalize mulL a b k = L at g4 HL hlen
      go_wp2
      go_loopw [7] (fun j wi => ∃ q : Nat, q ≤ 16 - k ∧ j = .int .i64 q ∧ HasN wi w.heap.size 71 a ∧ HasN wi (w.heap.size + 1) 71 b ∧ HasN wi (w.heap.size + 1 + 1) 71 Z16 ∧ HasN wi (w.heap.size + 1 + 1 + 1) 71 (mulS L a b k q) ∧ Below w.heap.size w wi) (fun j _ => 16 - (intOf j).toNat)
      case atStart => exact ⟨0, by omega, rfl, g1, g2, g3, g4, hb1⟩
      case round =>
        clear g1 g2 g3 g4 hb1
        obtain ⟨q, hq, rfl, g1, g2, g3, g4, hb1⟩ := hrel
        by_cases hlt2 : q < 16 - k
        · have hml := mulS_len L a b k q
          rw [hlen.out] at hml
          have HR : Box (HasN _ _ 71 (mulS L a b k (q + 1))) := ⟨g4.set (k + q) ((mulS L a b k q).getD (k + q) 0 + a.getD k 0 * b.getD q 0)⟩
          have c1 := g1.cell k (by omega)
          have c2 := g2.cell q (by omega)
          have c4 := g4.cell (k + q) (by omega)
          have f4 := g4.frozen (k + q)
          generalize (mulS L a b k q).getD (k + q) 0 = x at c4 HR
          generalize a.getD k 0 = y at c1 HR
          generalize b.getD q 0 = z at c2 HR
          clear hml
          go_wp2
          go_region
          go_wp2
          go_roundw
          case rel => exact ⟨q + 1, by omega, by go_num, (g1.other _ _ (by simp <;> omega)).drew, (g2.other _ _ (by simp <;> omega)).drew, (g3.other _ _ (by simp <;> omega)).drew, HR.out.drew, (hb1.setCell (by simp <;> omega) _).drew⟩
          case measure => simp [intOf]; omega
        · have hqk : Box (q = 16 - k) := ⟨by omega⟩
          have g4' : HasN wr (w.heap.size + 1 + 1 + 1) 71 (mulS L a b k (16 - k)) := by rw [← hqk.out]; exact g4
          have hml : Box ((mulS L a b k (16 - k)).length = 16) := ⟨by rw [mulS_len, hlen.out]⟩
          clear g4
          generalize mulS L a b k (16 - k) = M at g4' hml HL
          go_wp2
          go_loopw [8] (fun j wi => ∃ q : Nat, q ≤ 15 ∧ j = .int .i64 q ∧ HasN wi w.heap.size 71 a ∧ HasN wi (w.heap.size + 1) 71 b ∧ HasN wi (w.heap.size + 1 + 1) 71 Z16 ∧ HasN wi (w.heap.size + 1 + 1 + 1) 71 (car M q) ∧ Below w.heap.size w wi) (fun j _ => 15 - (intOf j).toNat)
          case atStart => exact ⟨0, by omega, rfl, g1, g2, g3, g4', hb1⟩
          case round =>
            clear g1 g2 g3 g4' hb1 hqk hlt2 hq
            obtain ⟨j, hj, rfl, g1, g2, g3, g4, hb1⟩ := hrel
            by_cases hlt3 : j < 15
            · have hcl := car_len M j
              rw [hml.out] at hcl
              have HR : Box (HasN _ _ 71 (car M (j + 1))) := ⟨by
                have := (g4.set (j + 1) ((car M j).getD (j + 1) 0 + q16 ((car M j).getD j 0))).set j (r16 ((car M j).getD j 0))
                rw [← cst_eq] at this
                exact this⟩
              have c1 := g4.cell j (by omega)
              have c2 := g4.cell (j + 1) (by omega)
              have f1 := g4.frozen j
              have f2 := g4.frozen (j + 1)
              generalize (car M j).getD j 0 = x at c1 HR
              generalize (car M j).getD (j + 1) 0 = y at c2 HR
              have hx0 := wl_range x
              clear hcl g4
              go_wp2
              go_region
              go_wp2
              go_roundw
              case rel => exact ⟨j + 1, by omega, by go_num, ((g1.other _ _ (by simp <;> omega)).other _ _ (by simp <;> omega)).drew, ((g2.other _ _ (by simp <;> omega)).other _ _ (by simp <;> omega)).drew, ((g3.other _ _ (by simp <;> omega)).other _ _ (by simp <;> omega)).drew, HR.out.drew, ((hb1.setCell (by simp <;> omega) _).setCell (by simp <;> omega) _).drew⟩
              case measure => simp [intOf]; omega
            · have hj15 : Box (j = 15) := ⟨by omega⟩
              have g5 : HasN wr (w.heap.size + 1 + 1 + 1) 71 (mulL a b (k + 1)) := by rw [HL.out, ← hj15.out]; exact g4
              clear g4
              go_wp2
              go_roundw
              case rel => exact ⟨k + 1, by omega, by go_num, g1, g2, g3, g5, hb1⟩
              case measure => simp [intOf]; omega
    · have hk16 : Box (k = 16) := ⟨by omega⟩
      have hv1' : wr.heap[w.heap.size + 1 + 1]? = some (.cells (Z16.map N64).toArray 71 (0, 0)) := g3
      have hv2' : wr.heap[w.heap.size + 1 + 1 + 1]? = some (.cells ((mulL a b k).map N64).toArray 71 (0, 0)) := g4
      have hl : Box (((mulL a b k).map N64).toArray.size = 16) := ⟨by simp [mulL_len]⟩
      clear g1 g2 g3 g4
      go_wp2_with (first | (refine wpList_load_row rfl 71 (.tmp 5) rfl (w.heap.size + 1 + 1 + 1) rfl 71 _ (0, 0) _ hv2' Tryd.under71 rfl (by rw [hl.out]; exact Tryd.size71) ?_) | (refine wpList_store_row rfl 71 (.tmp 4) (.tmp 52) rfl (w.heap.size + 1 + 1) ((mulL a b k).map N64).toArray rfl rfl 71 _ hv1' (by rw [hl.out]; exact Tryd.size71) (by rw [hl.out]; rfl) (N64_all _) ?_))
      have e := hk16.out
      subst e
      refine bodyPost_ret (v := .agg ((mulL a b 16).map N64).toArray) ?_ rfl ⟨rfl, hb1.trans (below_setRow _ _ _ _ (by omega))⟩
      exact results_cell_row (P := Tryd.prog) (fn := Tryd.f36) (p := 4) (ty := 71) rfl _ _ (w.heap.size + 1 + 1) 71 _ (0, 0) _ rfl (setRow_heap _ _ _ _ 71 (0, 0) hv1') Tryd.under71 rfl (by rw [hl.out]; exact Tryd.size71)
end Go.Proofs.YtnchebajehgelaaDoor
