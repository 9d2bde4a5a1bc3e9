/- A list of slices of bytes that came in, opened. -/
import Derived.Test.YtnchebajehgelaaDoorWr
import Derived.Test.YtnchebajehgelaaDoorWs
import Derived.Deep.Slices
namespace Go.Proofs.YtnchebajehgelaaDoor
open Go.ChangeShapes Go.WideShapes Go.ChangeAt Go.RowKit
theorem Tryd.under29 : Tryd.prog.underlying 29 = some (.slice 22) := by kernel_rfl
theorem cells22 : Tryd.prog.cellsOf 22 = 1 := by kernel_rfl
theorem add_plain {w : World} {x : Addr} {v : Value} (h : w.cell? x = some v) : ∀ i, x.add i = ⟨x.block, x.off + i, none⟩ := by
  have hspot : x.spot = none := by
    unfold World.cell? at h
    split at h
    · split at h
      · cases h
      · rename_i h2; simpa using h2
    · cases h
  intro i
  unfold Addr.add
  split
  · rename_i h2; subst h2; rw [Nat.add_zero, ← hspot]
  · rfl
theorem parts_of {H : Type} {enc : TypeId × Value → H} {W : World} {A : Option Addr} {N C : Nat} {d : DataW H} {p : List MemPlace}
    (h : DataW.Trod enc Tryd.prog W 0 (fun _ => true) true 29 (.slice A N C) d p) : ∃ lb lo, (0 < N → A = some ⟨lb, lo, none⟩ ∧ lb < W.heap.size) ∧ (∀ k, k < N → Elem W lb lo k) ∧ N ≤ maxLen := by
  obtain ⟨fuel, hf⟩ := h
  rcases Deep.open_slice1 Tryd.under29 cells22 hf with ⟨hcs, _⟩ | ⟨a, len, cap, m, n, V, D, Pl, hcs, _, hl, hm, hmm, _, hel⟩
  · simp [Value.cells] at hcs
    obtain ⟨rfl, rfl, rfl⟩ := hcs
    exact ⟨0, 0, fun h => absurd h (by omega), fun k hk => absurd hk (by omega), by unfold maxLen; omega⟩
  · simp [Value.cells] at hcs
    obtain ⟨rfl, rfl, rfl⟩ := hcs
    have hmc : m = C := by simpa using hmm
    subst hmc
    refine ⟨a.block, a.off, fun hp => ?_, fun k hk => ?_, by unfold maxLen at *; omega⟩
    · have h0 := (hel 0 (by omega)).1
      have e0 : a.add 0 = a := by simp [Addr.add]
      rw [e0] at h0
      have := add_plain h0 0
      rw [e0, Nat.add_zero] at this
      exact ⟨by rw [← this], block_lt_of_cell h0⟩
    · have h0 := (hel 0 (by omega)).1
      have e0 : a.add 0 = a := by simp [Addr.add]
      rw [e0] at h0
      obtain ⟨hc, ht⟩ := hel k (by omega)
      rw [add_plain h0 k] at hc
      obtain ⟨sp, l, c, hv⟩ : ∃ sp l c, V k = .slice sp l c := by
        rcases Deep.open_slice Tryd.under22 ht with ⟨hcs, _⟩ | ⟨a', len', cap', _, _, _, _, hcs, _⟩
        · exact ⟨_, _, _, by simpa using hcs⟩
        · exact ⟨_, _, _, by simpa using hcs⟩
      rw [hv] at hc ht
      obtain ⟨bs, b, o, hsl, hml⟩ := sl_of (enc := enc) (W := W) (a := sp) (len := l) (cap := c) (d := D k) (p := Pl k) ⟨n, by simpa [Value.cells] using ht⟩
      exact ⟨sp, l, c, bs, b, o, hc, hsl, hml⟩
end Go.Proofs.YtnchebajehgelaaDoor
