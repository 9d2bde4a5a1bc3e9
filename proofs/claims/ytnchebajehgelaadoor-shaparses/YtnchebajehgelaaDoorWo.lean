/- What the laws on the texts of hashes answer at values in memory: true. -/
import Derived.Test.YtnchebajehgelaaDoorPo
import Derived.Test.YtnchebajehgelaaDoorWk
import Derived.Test.YtnchebajehgelaaDoorPp
namespace Go.Proofs.YtnchebajehgelaaDoor
open Go.RowKit
set_option maxHeartbeats 400000 in
theorem texts_any (xs : List (BitVec 8)) (w : World) (h1 : xs.length = 32) (hK : HasK w 0) (h0 : 0 < w.heap.size) :
    Calls Tryd.prog 6 #[.agg (xs.map V).toArray] w fun e w' => e = .returned (.bool true) ∧ Below w.heap.size w w' := by
  have hl1 : Box ((xs.map V).toArray.size = 32) := ⟨by simp [h1]⟩
  go_enter Tryd.func6, Tryd.ntmps6
  go_upto_region 1 with fail
  refine code_any (fun w1 => HasV w1 w.heap.size 25 xs ∧ Below w.heap.size w w1) ?_ ?_
  · exact ⟨heap_alloc_new _ _, (Below.refl _ _).alloc (Nat.le_refl _) _⟩
  rintro w1 ⟨hv1, hb1⟩
  have hv1' : w1.heap[w.heap.size]? = some (.cells (xs.map V).toArray 25 (0, 0)) := hv1
  have hz1 := hv1.lt
  clear hv1
  go_wp2_with (refine wpList_load_row_w rfl 25 (.tmp 1) rfl w.heap.size rfl 25 _ (0, 0) _ hv1' Tryd.under25 rfl (by rw [hl1.out]; exact Tryd.size25) ?_)
  refine (show_any xs w1 h1).mono ?_
  rintro e w2 ⟨rfl, hb2⟩
  rw [txt_rtx]
  have hz2 := hb2.size
  have hv2 : w2.heap[w.heap.size]? = some (.cells (xs.map V).toArray 25 (0, 0)) := by rw [hb2.block _ hz1]; exact hv1'
  have hb2' : Below w.heap.size w w2 := hb1.trans (hb2.mono hb1.size)
  clear hv1' hb1 hb2
  have hsz := str_size xs
  have hbk : Box (okTo (strOfNums ((rtx xs 32).map bv)) 64 ∧ prl (strOfNums ((rtx xs 32).map bv)) 32 = xs) := ⟨back_ok xs, back_eq xs h1⟩
  obtain ⟨s, hs⟩ : ∃ s, Box (s = strOfNums ((rtx xs 32).map bv)) := ⟨_, ⟨rfl⟩⟩
  rw [← hs.out] at hsz hbk ⊢
  go_wp2_with fail
  refine (parse_any s w2 hsz).mono ?_
  rintro e w3 ⟨hh, er, rfl, hor, hb3⟩
  obtain ⟨rfl, rfl⟩ : er = 0 ∧ hh = xs := by
    rcases hor with ⟨h, _, h3⟩ | ⟨_, h, _⟩
    · exact ⟨h, h3.trans hbk.out.2⟩
    · exact absurd hbk.out.1 h
  have hz3 := hb3.size
  have hv3 : w3.heap[w.heap.size]? = some (.cells (hh.map V).toArray 25 (0, 0)) := by rw [hb3.block _ (by omega)]; exact hv2
  have hb4 : Below w.heap.size w w3 := hb2'.trans (hb3.mono hb2'.size)
  clear hv2 hb2' hb3 hor hbk
  go_upto_region 3 with (refine wpList_store_row rfl 25 (.tmp 4) (.tmp 11) rfl w3.heap.size (hh.map V).toArray rfl rfl 25 _ (heap_alloc_new _ _) (by rw [hl1.out]; exact Tryd.size25) (by rw [hl1.out]; rfl) (V_all _) ?_)
  try go_frame
  refine code_any (fun w4 => w4.heap[w.heap.size]? = some (.cells (hh.map V).toArray 25 (0, 0)) ∧ w4.heap[w3.heap.size]? = some (.cells (hh.map V).toArray 25 (0, 0)) ∧ Below w.heap.size w w4 ∧ w3.heap.size < w4.heap.size) ?_ ?_
  · have hb5 : Below w3.heap.size w3 ((w3.alloc (.cells ((prl s 0).map V).toArray 25)).setRow w3.heap.size (hh.map V).toArray) := ((Below.refl _ _).alloc (Nat.le_refl _) _).trans (below_setRow _ _ _ _ (Nat.le_refl _))
    refine ⟨(hb5.block _ (by omega)).trans hv3, setRow_heap _ _ _ _ 25 (0, 0) (heap_alloc_new _ _), hb4.trans (hb5.mono hb4.size), by simp⟩
  rintro w4 ⟨hv4, hv5, hb5, hz5⟩
  generalize w3.heap.size = pb at hv5 hz3 hz5 ⊢
  clear hv3 hb4
  go_wp2_with (first | (refine wpList_load_row_w rfl 25 (.tmp 1) rfl w.heap.size rfl 25 _ (0, 0) _ hv4 Tryd.under25 rfl (by rw [hl1.out]; exact Tryd.size25) ?_) | (refine wpList_load_row_w rfl 25 (.tmp 4) rfl pb rfl 25 _ (0, 0) _ hv5 Tryd.under25 rfl (by rw [hl1.out]; exact Tryd.size25) ?_))
  refine (rshow_any hh w4 h1).mono ?_
  rintro e w5 ⟨rfl, hb6⟩
  have hv6 : w5.heap[w.heap.size]? = some (.cells (hh.map V).toArray 25 (0, 0)) := by rw [hb6.block _ (by omega)]; exact hv4
  have hv7 : w5.heap[pb]? = some (.cells (hh.map V).toArray 25 (0, 0)) := by rw [hb6.block _ hz5]; exact hv5
  have hb7 : Below w.heap.size w w5 := hb5.trans (hb6.mono hb5.size)
  rw [← hs.out]
  clear hv4 hv5 hb5 hb6
  have heq := fun w => run_equal25_same w hh h1
  go_wp2_with (first | (refine wpList_load_row_w rfl 25 (.tmp 1) rfl w.heap.size rfl 25 _ (0, 0) _ hv6 Tryd.under25 rfl (by rw [hl1.out]; exact Tryd.size25) ?_) | (refine wpList_load_row_w rfl 25 (.tmp 4) rfl pb rfl 25 _ (0, 0) _ hv7 Tryd.under25 rfl (by rw [hl1.out]; exact Tryd.size25) ?_))
  refine (awake_any w5 (hK.below hb7 h0) (by have := hb7.size; omega)).mono ?_
  rintro e w6 ⟨rfl, hb8⟩
  have hb9 : Below w.heap.size w w6 := hb7.trans (hb8.mono hb7.size)
  clear hb7 hb8 hv6 hv7 heq
  go_wp2
  go_ret
  exact ⟨rfl, hb9⟩
def Z32 : List (BitVec 8) := List.replicate 32 0
theorem Tryd.zero25 (w : World) : (zeroValue 25).run Tryd.prog w = .ok (.agg (Z32.map V).toArray) w := by kernel_rfl
theorem Z32_cells : (Z32.map V).toArray = #[.int .u8 0, .int .u8 0, .int .u8 0, .int .u8 0, .int .u8 0, .int .u8 0, .int .u8 0, .int .u8 0, .int .u8 0, .int .u8 0, .int .u8 0, .int .u8 0, .int .u8 0, .int .u8 0, .int .u8 0, .int .u8 0, .int .u8 0, .int .u8 0, .int .u8 0, .int .u8 0, .int .u8 0, .int .u8 0, .int .u8 0, .int .u8 0, .int .u8 0, .int .u8 0, .int .u8 0, .int .u8 0, .int .u8 0, .int .u8 0, .int .u8 0, .int .u8 0] := by kernel_rfl
theorem Tryd.eqZ (w : World) : (Op.equalIn 10000 25 (.agg (Z32.map V).toArray) (.agg #[.int .u8 0, .int .u8 0, .int .u8 0, .int .u8 0, .int .u8 0, .int .u8 0, .int .u8 0, .int .u8 0, .int .u8 0, .int .u8 0, .int .u8 0, .int .u8 0, .int .u8 0, .int .u8 0, .int .u8 0, .int .u8 0, .int .u8 0, .int .u8 0, .int .u8 0, .int .u8 0, .int .u8 0, .int .u8 0, .int .u8 0, .int .u8 0, .int .u8 0, .int .u8 0, .int .u8 0, .int .u8 0, .int .u8 0, .int .u8 0, .int .u8 0, .int .u8 0])).run Tryd.prog w = .ok true w := by
  rw [← Z32_cells]
  exact run_equal25_same w Z32 rfl
theorem Z32_eq : Z32 = List.replicate 32 0 := rfl
theorem Z32_len : Z32.length = 32 := rfl
theorem parse_both (s : ByteArray) (w : World) : Calls Tryd.prog 18 #[.string s] w fun e w' => ∃ (hs : List (BitVec 8)) (er : Int), e = .returned (.tuple #[.agg (hs.map V).toArray, .int .i64 er]) ∧ hs.length = 32 ∧ ((er = 0 ∧ strOfNums ((rtx hs 32).map bv) = s) ∨ (er = 10 ∧ hs = Z32)) ∧ Below w.heap.size w w' := by
  by_cases h64 : s.size = 64
  · refine (parse_any s w h64).mono ?_
    rintro e w' ⟨hs, er, he, h | h, hb⟩
    · obtain ⟨h1, hok, h3⟩ := h
      refine ⟨hs, er, he, by rw [h3]; exact prl_len _ _, .inl ⟨h1, by rw [h3]; exact again_eq s h64 hok⟩, hb⟩
    · obtain ⟨h1, _, h3⟩ := h
      refine ⟨hs, er, he, by rw [h3, ← Z32_eq]; exact Z32_len, .inr ⟨h1, by rw [h3, Z32_eq]⟩, hb⟩
  · refine (parse_short s w h64).mono ?_
    rintro e w' ⟨he, hb⟩
    exact ⟨List.replicate 32 0, 10, he, by rw [← Z32_eq]; exact Z32_len, .inr ⟨rfl, by rw [Z32_eq]⟩, hb⟩
set_option maxHeartbeats 400000 in
theorem parses_any (s : ByteArray) (w : World) (hK : HasK w 0) (h0 : 0 < w.heap.size) (hm : s.size ≤ maxLen) :
    Calls Tryd.prog 7 #[.string s] w fun e w' => e = .returned (.bool true) ∧ Below w.heap.size w w' := by
  unfold maxLen at hm
  by_cases h200 : 200 < s.size
  · go_enter Tryd.func7, Tryd.ntmps7
    go_wp2_with fail
    refine (awake_any w hK h0).mono ?_
    rintro e w6 ⟨rfl, hb8⟩
    go_wp2
    go_ret
    exact ⟨rfl, hb8⟩
  · have hP := parse_both s w
    have hP' := hide hP
    clear hP
    go_enter Tryd.func7, Tryd.ntmps7
    go_wp2_with fail
    refine hP'.out.mono ?_
    rintro e w3 ⟨hh, er, rfl, hl, hor, hb3⟩
    have hl1 : Box ((hh.map V).toArray.size = 32) := ⟨by simp [hl]⟩
    have hor' := hide hor
    clear hor hP'
    go_upto_region 4 with (refine wpList_store_row rfl 25 (.tmp 3) (.tmp 12) rfl w3.heap.size (hh.map V).toArray rfl rfl 25 _ (heap_alloc_new _ _) (by rw [hl1.out]; exact Tryd.size25) (by rw [hl1.out]; rfl) (V_all _) ?_)
    try go_frame
    refine code_any (fun w4 => w4.heap[w3.heap.size]? = some (.cells (hh.map V).toArray 25 (0, 0)) ∧ Below w.heap.size w w4) ?_ ?_
    · have hb5 : Below w3.heap.size w3 ((w3.alloc (.cells (Z32.map V).toArray 25)).setRow w3.heap.size (hh.map V).toArray) := ((Below.refl _ _).alloc (Nat.le_refl _) _).trans (below_setRow _ _ _ _ (Nat.le_refl _))
      exact ⟨setRow_heap _ _ _ _ 25 (0, 0) (heap_alloc_new _ _), hb3.trans (hb5.mono hb3.size)⟩
    rintro w4 ⟨hv4, hb4⟩
    have hz4 : w3.heap.size < w4.heap.size := (Array.getElem?_eq_some_iff.1 hv4).1
    generalize w3.heap.size = pb at hv4 hz4 ⊢
    clear hb3
    rcases hor'.out with ⟨rfl, he⟩ | ⟨rfl, rfl⟩
    · have he' := hide he
      clear hor' he
      go_wp2_with (refine wpList_load_row_w rfl 25 (.tmp 3) rfl pb rfl 25 _ (0, 0) _ hv4 Tryd.under25 rfl (by rw [hl1.out]; exact Tryd.size25) ?_)
      refine (rshow_any hh w4 hl).mono ?_
      rintro e w5 ⟨rfl, hb6⟩
      rw [he'.out]
      have hb7 : Below w.heap.size w w5 := hb4.trans (hb6.mono hb4.size)
      clear hb4 hb6 hv4
      go_wp2_with fail
      refine (awake_any w5 (hK.below hb7 h0) (by have := hb7.size; omega)).mono ?_
      rintro e w6 ⟨rfl, hb8⟩
      have hb9 : Below w.heap.size w w6 := hb7.trans (hb8.mono hb7.size)
      clear hb7 hb8
      go_wp2
      go_ret
      exact ⟨rfl, hb9⟩
    · clear hor'
      have heq := Tryd.eqZ
      go_wp2_with (refine wpList_load_row_w rfl 25 (.tmp 3) rfl pb rfl 25 _ (0, 0) _ hv4 Tryd.under25 rfl (by rw [hl1.out]; exact Tryd.size25) ?_)
      refine (awake_any w4 (hK.below hb4 h0) (by omega)).mono ?_
      rintro e w6 ⟨rfl, hb8⟩
      have hb9 : Below w.heap.size w w6 := hb4.trans (hb8.mono hb4.size)
      clear hb4 hb8 heq hv4
      go_wp2
      go_ret
      exact ⟨rfl, hb9⟩
end Go.Proofs.YtnchebajehgelaaDoor
