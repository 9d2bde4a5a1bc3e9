/- The walk of LamportBits. -/
import Derived.Test.YtfhhlkbcoofemaaBc
namespace Go.Proofs.Ytfhhlkbcoofemaa
open Go.RowKit
theorem HasN.below {w w' : World} {b : Nat} {ds : List Nat} (h : HasN w b ds) (hb : Below w.heap.size w w') : HasN w' b ds := by
  have := h.lt
  unfold HasN at *
  rw [hb.block b this]; exact h
set_option maxRecDepth 100000 in
set_option maxHeartbeats 1000000 in
theorem bits_law (h : List (BitVec 8)) (w : World) (hh : h.length = 32) :
    Calls Try.prog 3 #[.agg (h.map V).toArray] w fun e w' => e = .returned (.bool true) ∧ Below w.heap.size w w' := by
  have hsz : Box ((h.map V).toArray.size = 32) := ⟨by simp [hh]⟩
  have hb := Box.mk (fun w => bits_any h w hh)
  have haw := Box.mk awake_any
  go_enter Try.func3, Try.ntmps3
  have hv : Box (HasV (w.alloc (Obj.cells (List.map V h).toArray 23)) w.heap.size 23 h) := ⟨heap_alloc_new _ _⟩
  have hB : Box (Below w.heap.size w (w.alloc (Obj.cells (List.map V h).toArray 23))) := ⟨(Below.refl _ _).alloc (Nat.le_refl _) _⟩
  go_wp2_with (first | (refine wpList_load_row rfl 23 (.tmp 1) rfl w.heap.size rfl 23 _ (0, 0) _ hv.out Try.u23 rfl (by rw [hsz.out]; exact Try.s23) ?_) | (go_at_call 4; refine (hb.out _).mono ?_; rintro e w' ⟨g, rfl, hN, hg, hb2⟩; have hN1 := Box.mk hN; have hv1 := Box.mk (hv.out.below hb2 hv.out.lt); have hb3 := Box.mk (hB.out.trans (hb2.mono hB.out.size)); clear hN hb2 hg))
  clear hv hB hb
  go_loopw [13] (fun i wr => ∃ k : Nat, k ≤ 256 ∧ i = .int .i64 (k : Int) ∧ Box (HasN wr g (bts h)) ∧ Box (HasV wr w.heap.size 23 h) ∧ Box (Below w.heap.size w wr)) (fun i _ => 256 - (intOf i).toNat)
  case atStart => exact ⟨0, by omega, rfl, hN1, hv1, hb3⟩
  case round =>
    clear hN1 hv1 hb3
    obtain ⟨k, hk, rfl, hN, hv, hb⟩ := hrel
    by_cases hlt : k < 256
    · have c0 := hN.out.cell k _ (bts_at h k hlt)
      have hr := Box.mk (ref_any h k wr hh hlt)
      have hbl := bt_le h k
      generalize bt h k = b at c0 hr hbl
      go_wp2_with (first | (refine wpList_load_row rfl 23 (.tmp 1) rfl w.heap.size rfl 23 _ (0, 0) _ hv.out Try.u23 rfl (by rw [hsz.out]; exact Try.s23) ?_) | (go_at_call 5; refine hr.out.mono ?_; rintro e w2 ⟨rfl, hb2⟩; have hN2 := Box.mk (hN.out.below hb2); have hv2 := Box.mk (hv.out.below hb2 hv.out.lt); have hb3 := Box.mk (hb.out.trans (hb2.mono hb.out.size)); clear hb2))
      exact ⟨⟨k + 1, by omega, by go_num, hN2, hv2, hb3⟩, by simp [intOf]; omega⟩
    · obtain rfl : k = 256 := by omega
      go_wp2_with (go_at_call 6; refine (haw.out _).mono ?_; rintro e w2 ⟨rfl, hb2⟩; have hb3 := Box.mk (hb.out.trans (hb2.mono hb.out.size)); clear hb2)
      go_ret
      exact ⟨rfl, hb3.out⟩
end Go.Proofs.Ytfhhlkbcoofemaa
