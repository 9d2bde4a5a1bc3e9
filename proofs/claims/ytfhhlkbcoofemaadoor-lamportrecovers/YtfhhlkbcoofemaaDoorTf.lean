/- What Node, Chain, Secret and Record hand back: the sums of just their bytes. -/
import Derived.Test.YtfhhlkbcoofemaaDoorPw
namespace Go.Proofs.YtfhhlkbcoofemaaDoor
open Go.RowKit
theorem Tryd.mixed : Tryd.prog.follows .mixedOrders = true := by kernel_rfl
theorem Tryd.enter20 (args : Array Value) (w : World) : (callFunc 20 args).run Tryd.prog w = .ok (.enter 20 args) w := by kernel_rfl
theorem Tryd.enter22 (args : Array Value) (w : World) : (callFunc 22 args).run Tryd.prog w = .ok (.enter 22 args) w := by kernel_rfl
theorem Tryd.enter21 (args : Array Value) (w : World) : (callFunc 21 args).run Tryd.prog w = .ok (.enter 21 args) w := by kernel_rfl
theorem heap_alloc3_new (w : World) (o1 o2 o3 : Obj) : (((w.alloc o1).alloc o2).alloc o3).heap[w.heap.size + 1 + 1]? = some o3 := by
  have := heap_alloc_new ((w.alloc o1).alloc o2) o3
  simpa using this
theorem one_arg {a : Act} {x : Operand} {v : Value} (h : a.eval x = v) : ((#[x].toList.map a.eval).toArray : Array Value) = #[v] := by rw [← h]; rfl
set_option maxHeartbeats 400000 in
theorem chain_any (xs : List (BitVec 8)) (m n : Int) (w : World) (hx : xs.length = 32) (hK : Tab w) :
    Calls Tryd.prog 14 #[.agg (xs.map V).toArray, .int .i64 m, .int .i64 n] w fun e w' => e = .returned (.agg ((shaOf (kb 2 :: (xs ++ (two m ++ two n)))).map V).toArray) ∧ Below w.heap.size w w' := by
  have hl : Box (((shaOf (kb 2 :: (xs ++ (two m ++ two n)))).map V).toArray.size = 32) := ⟨by simp [shaOf_len]⟩
  obtain ⟨hh, hS⟩ : ∃ hh, Box (shaOf (kb 2 :: (xs ++ (two m ++ two n))) = hh) := ⟨_, ⟨rfl⟩⟩
  rw [hS.out] at hl ⊢
  go_enter Tryd.func14, Tryd.ntmps14
  go_upto_region 1 with fail
  refine code_any (fun w1 => HasV w1 w.heap.size 23 xs ∧ HasV w1 (w.heap.size + 1) 23 (hsh St.first 0) ∧ Below w.heap.size w w1) ?_ ?_
  · exact ⟨heap_alloc2_old _ _ _, heap_alloc2_new _ _ _, ((Below.refl _ _).alloc (Nat.le_refl _) _).alloc (by simp) _⟩
  rintro w1 ⟨hv1, hv3, hb1⟩
  have hT1 : Tab w1 := hK.below hb1
  refine wp_region_end [.sl xs, .eq (.int .i64 m), .sl (two m), .eq (.int .i64 n), .sl (two n), .ls 3 (xs ++ (two m ++ two n)), .eq (.agg (hh.map V).toArray)] Tryd.mixed (by kernel_rfl) (by kernel_rfl) (by kernel_rfl) (by kernel_rfl) ⟨fun _ a w' K => ?_, fun _ a w' K => ?_, fun _ a w' K => ?_, fun _ a w' K => ?_, fun _ a w' K => ?_, fun _ a w' K => ?_, fun _ a w' K => ?_, trivial⟩ ?_
  · exact st_slice23 (.tmp 3) rfl _ _ xs (K.old 3 rfl) hx (hv1.below K.grow hv1.lt).lt (hv1.below K.grow hv1.lt).bytes
  · exact st_move (.tmp 1) rfl (K.old 1 rfl)
  · exact st_call 22 (.func 22) _ _ #[.int .i64 m] rfl rfl (one_arg (K.dep 1 8 rfl)) Tryd.enter22 (fk_two m w')
  · exact st_move (.tmp 2) rfl (K.old 2 rfl)
  · exact st_call 22 (.func 22) _ _ #[.int .i64 n] rfl rfl (one_arg (K.dep 3 10 rfl)) Tryd.enter22 (fk_two n w')
  · exact st_build3 (.tmp 7) (.tmp 9) (.tmp 11) rfl (K.dep 0 7 rfl) (K.dep 2 9 rfl) (K.dep 4 11 rfl)
  · rw [← hS.out]
    exact st_call 20 (.func 20) _ _ #[.int .i64 2, a.eval (.tmp 12)] rfl rfl rfl Tryd.enter20 (fk_tsum 2 (by simp [two]; omega) (by omega) (hT1.below K.grow) (K.dep 5 12 rfl))
  · intro af w4 fin hb4
    have e3 : af.eval (.tmp 13) = .agg (hh.map V).toArray := fin.has 6 13 rfl
    have hv5 : w4.heap[w.heap.size + 1]? = some (.cells ((hsh St.first 0).map V).toArray 23 (0, 0)) := hv3.below hb4 hv3.lt
    have hb6 : Below w.heap.size w w4 := hb1.trans (hb4.mono hb1.size)
    refine wpList_store_row rfl 23 (.tmp 6) (.tmp 13) rfl (w.heap.size + 1) (hh.map V).toArray (fin.old 6 rfl) e3 23 _ hv5 (by rw [hl.out]; exact Tryd.size23) (by rw [hl.out]; rfl) (V_all _) ?_
    go_wp2
    refine bodyPost_ret (v := .agg (hh.map V).toArray) ?_ fin.defs ⟨rfl, ?_⟩
    · exact results_cell_row (P := Tryd.prog) (fn := Tryd.f14) (p := 6) (ty := 23) rfl _ _ (w.heap.size + 1) 23 _ (0, 0) _ (fin.old 6 rfl) (setRow_heap _ _ _ _ 23 (0, 0) hv5) Tryd.under23 rfl (by rw [hl.out]; exact Tryd.size23)
    · exact hb6.trans (below_setRow _ _ _ _ (by omega))
set_option maxHeartbeats 400000 in
theorem secret_any (xs : List (BitVec 8)) (m n : Int) (w : World) (hx : xs.length = 32) (hK : Tab w) :
    Calls Tryd.prog 12 #[.agg (xs.map V).toArray, .int .i64 m, .int .i64 n] w fun e w' => e = .returned (.agg ((shaOf (kb 3 :: (xs ++ (four m ++ four n)))).map V).toArray) ∧ Below w.heap.size w w' := by
  have hl : Box (((shaOf (kb 3 :: (xs ++ (four m ++ four n)))).map V).toArray.size = 32) := ⟨by simp [shaOf_len]⟩
  obtain ⟨hh, hS⟩ : ∃ hh, Box (shaOf (kb 3 :: (xs ++ (four m ++ four n))) = hh) := ⟨_, ⟨rfl⟩⟩
  rw [hS.out] at hl ⊢
  go_enter Tryd.func12, Tryd.ntmps12
  go_upto_region 1 with fail
  refine code_any (fun w1 => HasV w1 w.heap.size 23 xs ∧ HasV w1 (w.heap.size + 1) 23 (hsh St.first 0) ∧ Below w.heap.size w w1) ?_ ?_
  · exact ⟨heap_alloc2_old _ _ _, heap_alloc2_new _ _ _, ((Below.refl _ _).alloc (Nat.le_refl _) _).alloc (by simp) _⟩
  rintro w1 ⟨hv1, hv3, hb1⟩
  have hT1 : Tab w1 := hK.below hb1
  refine wp_region_end [.sl xs, .eq (.int .i64 m), .sl (four m), .eq (.int .i64 n), .sl (four n), .ls 3 (xs ++ (four m ++ four n)), .eq (.agg (hh.map V).toArray)] Tryd.mixed (by kernel_rfl) (by kernel_rfl) (by kernel_rfl) (by kernel_rfl) ⟨fun _ a w' K => ?_, fun _ a w' K => ?_, fun _ a w' K => ?_, fun _ a w' K => ?_, fun _ a w' K => ?_, fun _ a w' K => ?_, fun _ a w' K => ?_, trivial⟩ ?_
  · exact st_slice23 (.tmp 3) rfl _ _ xs (K.old 3 rfl) hx (hv1.below K.grow hv1.lt).lt (hv1.below K.grow hv1.lt).bytes
  · exact st_move (.tmp 1) rfl (K.old 1 rfl)
  · exact st_call 21 (.func 21) _ _ #[.int .i64 m] rfl rfl (one_arg (K.dep 1 8 rfl)) Tryd.enter21 (fk_four m w')
  · exact st_move (.tmp 2) rfl (K.old 2 rfl)
  · exact st_call 21 (.func 21) _ _ #[.int .i64 n] rfl rfl (one_arg (K.dep 3 10 rfl)) Tryd.enter21 (fk_four n w')
  · exact st_build3 (.tmp 7) (.tmp 9) (.tmp 11) rfl (K.dep 0 7 rfl) (K.dep 2 9 rfl) (K.dep 4 11 rfl)
  · rw [← hS.out]
    exact st_call 20 (.func 20) _ _ #[.int .i64 3, a.eval (.tmp 12)] rfl rfl rfl Tryd.enter20 (fk_tsum 3 (by simp [four]; omega) (by omega) (hT1.below K.grow) (K.dep 5 12 rfl))
  · intro af w4 fin hb4
    have e3 : af.eval (.tmp 13) = .agg (hh.map V).toArray := fin.has 6 13 rfl
    have hv5 : w4.heap[w.heap.size + 1]? = some (.cells ((hsh St.first 0).map V).toArray 23 (0, 0)) := hv3.below hb4 hv3.lt
    have hb6 : Below w.heap.size w w4 := hb1.trans (hb4.mono hb1.size)
    refine wpList_store_row rfl 23 (.tmp 6) (.tmp 13) rfl (w.heap.size + 1) (hh.map V).toArray (fin.old 6 rfl) e3 23 _ hv5 (by rw [hl.out]; exact Tryd.size23) (by rw [hl.out]; rfl) (V_all _) ?_
    go_wp2
    refine bodyPost_ret (v := .agg (hh.map V).toArray) ?_ fin.defs ⟨rfl, ?_⟩
    · exact results_cell_row (P := Tryd.prog) (fn := Tryd.f12) (p := 6) (ty := 23) rfl _ _ (w.heap.size + 1) 23 _ (0, 0) _ (fin.old 6 rfl) (setRow_heap _ _ _ _ 23 (0, 0) hv5) Tryd.under23 rfl (by rw [hl.out]; exact Tryd.size23)
    · exact hb6.trans (below_setRow _ _ _ _ (by omega))
end Go.Proofs.YtfhhlkbcoofemaaDoor
