/- What the law on the order of two hashes answers at values in memory: true. -/
import Derived.Test.YtnchebajehgelaaDoorWj
namespace Go.Proofs.YtnchebajehgelaaDoor
open Go.RowKit
theorem wpList_load_row_w {P : Program} {ops : Array Oper} {rest : List Oper} {o : Oper} {a : Act} {w : World} {Q : Exit → Act → World → Prop} (hw : Region.wanted o (yielded ops a.tmps) = true) (ty : TypeId) (x : Operand) (ho : o.op = .load ty x)
    (g : Nat) (hx : a.eval x = .pointer (some ⟨g, 0, none⟩)) (t : TypeId) (cs : Array Value) (fr : Nat × Nat) (d : TypeDesc) (hg : w.heap[g]? = some (.cells cs t fr))
    (hu : P.underlying ty = some d) (hd : (match d with | .struct _ | .array _ _ => true | _ => false) = true) (hi : (P.info? ty).map (·.size) = some cs.size)
    (h : wpList P ops Q rest (a.put o.dst (.agg cs)) w) : wpList P ops Q (o :: rest) a w :=
  BigFrame.wpList_want hw fun _ hK => wp_load_row ty x ho g hx t cs fr d hg hu hd hi (hK _ _ h)
theorem cmp_drop (xs ys : List (BitVec 8)) (k : Nat) (h1 : k < xs.length) (h2 : k < ys.length) : cmpB (xs.drop k) (ys.drop k) = if bv (xs.getD k 0) < bv (ys.getD k 0) then -1 else if bv (ys.getD k 0) < bv (xs.getD k 0) then 1 else cmpB (xs.drop (k + 1)) (ys.drop (k + 1)) := by
  rw [List.drop_eq_getElem_cons h1, List.drop_eq_getElem_cons h2, cmpB]
  simp [h1, h2]
set_option maxHeartbeats 400000 in
theorem orders_any (xs ys : List (BitVec 8)) (w : World) (h1 : xs.length = 32) (h2 : ys.length = 32) (hK : HasK w 0) (h0 : 0 < w.heap.size) :
    Calls Tryd.prog 8 #[.agg (xs.map V).toArray, .agg (ys.map V).toArray] w fun e w' => e = .returned (.bool true) ∧ Below w.heap.size w w' := by
  go_enter Tryd.func8, Tryd.ntmps8
  go_upto_region 1 with fail
  refine code_any (fun w1 => HasV w1 w.heap.size 25 xs ∧ HasV w1 (w.heap.size + 1) 25 ys ∧ Below w.heap.size w w1) ?_ ?_
  · exact ⟨heap_alloc2_old _ _ _, heap_alloc2_new _ _ _, ((Below.refl _ _).alloc (Nat.le_refl _) _).alloc (by simp) _⟩
  rintro w1 ⟨hv1, hv2, hb1⟩
  go_wp2
  go_loopw [5, 6] (fun t i wr => ∃ k : Nat, k ≤ 32 ∧ i = .int .i64 ((k : Int) - 1) ∧ t = .int .i64 (cmpB (xs.drop k) (ys.drop k)) ∧ HasV wr w.heap.size 25 xs ∧ HasV wr (w.heap.size + 1) 25 ys ∧ Below w.heap.size w wr) (fun _ i _ => (intOf i + 1).toNat)
  case atStart =>
    refine ⟨32, by omega, rfl, ?_, hv1, hv2, hb1⟩
    rw [List.drop_eq_nil_of_le (by omega), List.drop_eq_nil_of_le (by omega)]
    rfl
  case round =>
    clear hv1 hv2 hb1
    obtain ⟨k, hk, rfl, rfl, hv1, hv2, hb⟩ := hrel
    by_cases hlt : 0 < k
    · have c1 := hv1.cell (k - 1) (by omega)
      have c2 := hv2.cell (k - 1) (by omega)
      have HC : Box (cmpB (xs.drop (k - 1)) (ys.drop (k - 1)) = if bv (xs.getD (k - 1) 0) < bv (ys.getD (k - 1) 0) then -1 else if bv (ys.getD (k - 1) 0) < bv (xs.getD (k - 1) 0) then 1 else cmpB (xs.drop k) (ys.drop k)) := ⟨by rw [cmp_drop xs ys (k - 1) (by omega) (by omega), show k - 1 + 1 = k by omega]⟩
      generalize xs.getD (k - 1) 0 = x at c1 HC
      generalize ys.getD (k - 1) 0 = y at c2 HC
      generalize cmpB (xs.drop k) (ys.drop k) = cc at HC ⊢
      by_cases hx : bv x < bv y
      · have hy : ¬ bv y < bv x := by omega
        have HC' : Box (cmpB (xs.drop (k - 1)) (ys.drop (k - 1)) = -1) := ⟨by rw [HC.out, if_pos hx]⟩
        go_wp2
        go_region
        go_wp2
        go_region
        go_wp2
        go_roundw
        case rel => exact ⟨k - 1, by omega, by rw [show ((k - 1 : Nat) : Int) = (k : Int) - 1 by omega], by rw [HC'.out], hv1.drew.drew, hv2.drew.drew, hb.drew.drew⟩
        case measure => simp [intOf]; omega
      · by_cases hy : bv y < bv x
        · have HC' : Box (cmpB (xs.drop (k - 1)) (ys.drop (k - 1)) = 1) := ⟨by rw [HC.out, if_neg hx, if_pos hy]⟩
          go_wp2
          go_region
          go_wp2
          go_region
          go_wp2
          go_roundw
          case rel => exact ⟨k - 1, by omega, by rw [show ((k - 1 : Nat) : Int) = (k : Int) - 1 by omega], by rw [HC'.out], hv1.drew.drew, hv2.drew.drew, hb.drew.drew⟩
          case measure => simp [intOf]; omega
        · have HC' : Box (cmpB (xs.drop (k - 1)) (ys.drop (k - 1)) = cc) := ⟨by rw [HC.out, if_neg hx, if_neg hy]⟩
          go_wp2
          go_region
          go_wp2
          go_region
          go_wp2
          go_roundw
          case rel => exact ⟨k - 1, by omega, by rw [show ((k - 1 : Nat) : Int) = (k : Int) - 1 by omega], by rw [HC'.out], hv1.drew.drew, hv2.drew.drew, hb.drew.drew⟩
          case measure => simp [intOf]; omega
    · have hk0 : k = 0 := by omega
      have hc : Box (cmpB (xs.drop k) (ys.drop k) = cmpB xs ys) := ⟨by rw [hk0]; rfl⟩
      rw [hc.out]
      have hr := cmp_range xs ys
      have hn : Box (cmpB ys xs = - cmpB xs ys) := ⟨cmp_neg xs ys⟩
      have hv1' : wr.heap[w.heap.size]? = some (.cells (xs.map V).toArray 25 (0, 0)) := hv1
      have hv2' : wr.heap[w.heap.size + 1]? = some (.cells (ys.map V).toArray 25 (0, 0)) := hv2
      have hl1 : Box ((xs.map V).toArray.size = 32) := ⟨by simp [h1]⟩
      have hl2 : Box ((ys.map V).toArray.size = 32) := ⟨by simp [h2]⟩
      clear hk0 hc hv1 hv2
      go_wp2_with (first | (refine wpList_load_row rfl 25 (.tmp 2) rfl w.heap.size rfl 25 _ (0, 0) _ hv1' Tryd.under25 rfl (by rw [hl1.out]; exact Tryd.size25) ?_) | (refine wpList_load_row rfl 25 (.tmp 3) rfl (w.heap.size + 1) rfl 25 _ (0, 0) _ hv2' Tryd.under25 rfl (by rw [hl2.out]; exact Tryd.size25) ?_))
      refine (cmp_any xs ys wr h1 h2).mono ?_
      rintro e w2 ⟨rfl, hb2⟩
      have hs0 : w.heap.size + 1 < wr.heap.size := (Array.getElem?_eq_some_iff.1 hv2').1
      have hv3 : w2.heap[w.heap.size]? = some (.cells (xs.map V).toArray 25 (0, 0)) := by rw [hb2.block _ (by omega)]; exact hv1'
      have hv4 : w2.heap[w.heap.size + 1]? = some (.cells (ys.map V).toArray 25 (0, 0)) := by rw [hb2.block _ hs0]; exact hv2'
      have hb3 : Below w.heap.size w w2 := hb.trans (hb2.mono hb.size)
      clear hv1' hv2' hb2 hb
      generalize cmpB xs ys = cc at hr hn
      go_wp2_with (first | (refine wpList_load_row_w rfl 25 (.tmp 2) rfl w.heap.size rfl 25 _ (0, 0) _ hv3 Tryd.under25 rfl (by rw [hl1.out]; exact Tryd.size25) ?_) | (refine wpList_load_row_w rfl 25 (.tmp 3) rfl (w.heap.size + 1) rfl 25 _ (0, 0) _ hv4 Tryd.under25 rfl (by rw [hl2.out]; exact Tryd.size25) ?_))
      refine (cmp_any ys xs w2 h2 h1).mono ?_
      rintro e w3 ⟨rfl, hb4⟩
      rw [hn.out]
      have hb5 : Below w.heap.size w w3 := hb3.trans (hb4.mono hb3.size)
      clear hv3 hv4 hb3 hb4
      go_wp2_with fail
      refine (awake_any w3 (hK.below hb5 h0) (by have := hb5.size; omega)).mono ?_
      rintro e w4 ⟨rfl, hb6⟩
      have hb7 : Below w.heap.size w w4 := hb5.trans (hb6.mono hb5.size)
      clear hb5 hb6
      go_wp2
      go_ret
      exact ⟨rfl, hb7⟩
end Go.Proofs.YtnchebajehgelaaDoor
