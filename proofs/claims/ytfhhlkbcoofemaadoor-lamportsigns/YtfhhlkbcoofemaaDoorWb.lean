/- What wordsOf hands back: the words of a block of 64 bytes, whatever the memory. -/
import Derived.Test.YtfhhlkbcoofemaaDoorWa
import Derived.BigRegion
namespace Go.Proofs.YtfhhlkbcoofemaaDoor
open Go.RowKit
theorem Tryd.under66 : Tryd.prog.underlying 66 = some (.array 64 58) := by kernel_rfl
theorem Tryd.size66 : (Tryd.prog.info? 66).map (·.size) = some 64 := by kernel_rfl
theorem below_setRow (B : Nat) (w : World) (g : Nat) (cs : Array Value) (h : B ≤ g) : Below B w (w.setRow g cs) :=
  ⟨rfl, rfl, rfl, by simp, fun k hk => setRow_other w g k cs (by omega)⟩
attribute [local go_sem] vl_xor vl_and vl_or vl_not vl_add vl_addw shr3_raw shr10_raw bv_wrap bv_wrapw shl24_raw shl16_raw shl8_raw
set_option maxHeartbeats 400000 in
theorem words_any (ab ao c : Nat) (bs : List (BitVec 8)) (w : World) (hab : ab < w.heap.size) (hl64 : bs.length = 64) (hc0 : HasB w ab ao bs) :
    Calls Tryd.prog 33 #[.slice (some ⟨ab, ao, none⟩) 64 c] w fun e w' => e = .returned (.agg ((words bs).map U).toArray) ∧ Below w.heap.size w w' := by
  have hc : ∀ i, i < 64 → w.cell? ⟨ab, ao + i, none⟩ = some (.int .u8 (bv (bs.getD i 0))) := fun i hi => hc0 i (by omega)
  clear hc0
  go_enter Tryd.func33, Tryd.ntmps33
  go_wp2
  go_loopw [10] (fun i wr => ∃ k : Nat, k ≤ 16 ∧ i = .int .i64 k ∧ Below w.heap.size w wr ∧ wr.heap.size = w.heap.size + 2 ∧ HasW wr (w.heap.size + 1) 66 (w1 bs k) ∧ HasW wr w.heap.size 66 (w1 bs 0)) (fun i _ => 16 - (intOf i).toNat)
  case atStart =>
    refine ⟨0, by omega, rfl, ?_, by simp, ?_, ?_⟩
    · exact ((Below.refl _ _).alloc (Nat.le_refl _) _).alloc (by simp) _
    · exact heap_alloc2_new _ _ _
    · exact heap_alloc2_old _ _ _
  case round =>
    obtain ⟨k, hk, rfl, hb, hsz, hw, hr⟩ := hrel
    by_cases hlt : k < 16
    · have h1 : wr.cell? ⟨ab, ao + (4 * k), none⟩ = some (.int .u8 (bv (bs.getD (4 * k) 0))) := by rw [hb.cell (by exact hab)]; exact hc _ (by omega)
      have h2 : wr.cell? ⟨ab, ao + (4 * k + 1), none⟩ = some (.int .u8 (bv (bs.getD (4 * k + 1) 0))) := by rw [hb.cell (by exact hab)]; exact hc _ (by omega)
      have h3 : wr.cell? ⟨ab, ao + (4 * k + 2), none⟩ = some (.int .u8 (bv (bs.getD (4 * k + 2) 0))) := by rw [hb.cell (by exact hab)]; exact hc _ (by omega)
      have h4 : wr.cell? ⟨ab, ao + (4 * k + 3), none⟩ = some (.int .u8 (bv (bs.getD (4 * k + 3) 0))) := by rw [hb.cell (by exact hab)]; exact hc _ (by omega)
      have R1 := hw.set k (be (bs.getD (4 * k) 0) (bs.getD (4 * k + 1) 0) (bs.getD (4 * k + 2) 0) (bs.getD (4 * k + 3) 0))
      have HR1 : Hid (HasW _ _ _ (w1 bs (k + 1))) := R1
      clear R1
      generalize bs.getD (4 * k) 0 = b1 at h1 HR1
      generalize bs.getD (4 * k + 1) 0 = b2 at h2 HR1
      generalize bs.getD (4 * k + 2) 0 = b3 at h3 HR1
      generalize bs.getD (4 * k + 3) 0 = b4 at h4 HR1
      have h5 := hw.cell k (by rw [w1_len]; omega)
      have h6 := hw.frozen k
      have hw' := hide hw
      clear hw
      go_wp2
      go_region
      go_wp2
      go_roundw
      case rel =>
        refine ⟨k + 1, by omega, by go_num, ?_, ?_, ?_, ?_⟩
        · exact (hb.setCell (by simp) _).drew
        · simp [World.setCell, World.drew, hsz]
        · have := HR1.out.drew
          exact this
        · exact (hr.other _ _ (by simp)).drew
      case measure => simp [intOf]; omega
    · have hk16 : Hid (k = 16) := hide (by omega)
      go_wp2
      go_loopw [5] (fun i wr => ∃ t : Nat, 16 ≤ t ∧ t ≤ 64 ∧ i = .int .i64 t ∧ Below w.heap.size w wr ∧ wr.heap.size = w.heap.size + 2 ∧ HasW wr (w.heap.size + 1) 66 (w2 bs (t - 16)) ∧ HasW wr w.heap.size 66 (w1 bs 0)) (fun i _ => 64 - (intOf i).toNat)
      case atStart => exact ⟨16, by omega, by omega, rfl, hb, hsz, by have e := hk16.out; subst e; exact hw, hr⟩
      case round =>
        clear hb hsz hw hr
        obtain ⟨t, ht1, ht2, rfl, hb, hsz, hw, hr⟩ := hrel
        by_cases hlt : t < 64
        · have h1 := hw.cell (t - 2) (by rw [w2_len]; omega)
          have h2 := hw.cell (t - 7) (by rw [w2_len]; omega)
          have h3 := hw.cell (t - 15) (by rw [w2_len]; omega)
          have h4 := hw.cell (t - 16) (by rw [w2_len]; omega)
          have h5 := hw.cell t (by rw [w2_len]; omega)
          have h6 := hw.frozen t
          have HR : Hid (HasW _ _ 66 (w2 bs (t + 1 - 16))) := w2_step bs t ht1 hw
          unfold wnext at HR
          generalize (w2 bs (t - 16)).getD (t - 2) 0 = x2 at h1 HR
          generalize (w2 bs (t - 16)).getD (t - 7) 0 = x7 at h2 HR
          generalize (w2 bs (t - 16)).getD (t - 15) 0 = x15 at h3 HR
          generalize (w2 bs (t - 16)).getD (t - 16) 0 = x16 at h4 HR
          clear hw
          go_wp2
          go_region
          go_wp2_with (go_at_call 34; refine (rotr_any _ _ (by decide) (by decide) _).mono ?_; rintro e w' ⟨rfl, rfl⟩)
          go_region
          go_wp2
          go_roundw
          case rel =>
            refine ⟨t + 1, by omega, by omega, by go_num, ?_, ?_, ?_, ?_⟩
            · exact (hb.setCell (by simp) _).drew.drew
            · simp [World.setCell, World.drew, hsz]
            · exact HR.out.drew.drew
            · exact ((hr.other _ _ (by simp)).drew).drew
          case measure => simp [intOf]; omega
        · obtain rfl : t = 64 := by omega
          have hl : ((words bs).map U).toArray.size = 64 := by simp [words_len]
          have hw' : wr.heap[w.heap.size + 1]? = some (.cells ((words bs).map U).toArray 66 (0, 0)) := hw
          have hr' : wr.heap[w.heap.size]? = some (.cells ((w1 bs 0).map U).toArray 66 (0, 0)) := hr
          go_wp2_with (first | (refine wpList_load_row rfl 66 (.tmp 3) rfl (w.heap.size + 1) rfl 66 _ (0, 0) _ hw' Tryd.under66 rfl (by rw [hl]; exact Tryd.size66) ?_) | (refine wpList_store_row rfl 66 (.tmp 2) (.tmp 92) rfl w.heap.size _ rfl rfl 66 _ hr' (by rw [hl]; exact Tryd.size66) (by simp [words_len, w1_len]) (U_one _) ?_))
          have hres := results_cell_row (P := Tryd.prog) (fn := Tryd.f33) (p := 2) (ty := 66) rfl
          refine bodyPost_ret (v := .agg ((words bs).map U).toArray) ?_ rfl ⟨rfl, ?_⟩
          · refine hres _ _ w.heap.size 66 _ (0, 0) _ rfl (setRow_heap _ _ _ _ 66 (0, 0) hr') Tryd.under66 rfl (by rw [hl]; exact Tryd.size66)
          · exact hb.trans (below_setRow _ _ _ _ (by omega))
end Go.Proofs.YtfhhlkbcoofemaaDoor
