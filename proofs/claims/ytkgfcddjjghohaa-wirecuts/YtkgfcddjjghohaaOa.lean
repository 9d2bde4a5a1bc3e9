/- A slice of bytes that came in, opened. -/
import Derived.Test.YtkgfcddjjghohaaWn
import Derived.ProofKit
import Derived.OpenShut
namespace Go.Proofs.Ytkgfcddjjghohaa
open Go.ChangeShapes Go.WideShapes Go.ChangeAt Go.RowKit
theorem Try.own : ownKnob Try.prog.godebug = none := by kernel_rfl
theorem Try.laidOut : laidOutB Try.prog = true := by kernel_rfl
theorem Try.under3 : Try.prog.underlying 3 = some (.int .i64) := by kernel_rfl
theorem bv_ofInt (z : Int) (h0 : 0 ≤ z) (h1 : z < 256) : bv (BitVec.ofInt 8 z) = z := by
  unfold bv
  rw [BitVec.toNat_ofInt]
  omega
theorem add_plain {w : World} {x : Addr} {v : Value} (h : w.cell? x = some v) : ∀ i, x.add i = ⟨x.block, x.off + i, none⟩ := by
  have hspot : x.spot = none := by
    unfold World.cell? at h
    split at h
    · split at h
      · cases h
      · rename_i h2; simpa using h2
    · cases h
  intro i
  unfold Addr.add
  split
  · rename_i h2; subst h2; rw [Nat.add_zero, ← hspot]
  · rfl
theorem av_of {H : Type} {enc : TypeId × Value → H} {W : World} {a : Option Addr} {len cap : Nat} {d : DataW H} {p : List MemPlace}
    (h : DataW.Trod enc Try.prog W 0 (fun _ => true) true 25 (.slice a len cap) d p) : ∃ bs gb, Av W (.slice a len cap) bs gb ∧ bs.length = len := by
  obtain ⟨fuel, hf⟩ := h
  rcases open_ints Try.under25 Try.under5 (by kernel_rfl) hf with ⟨hcs, _⟩ | ⟨x, l, c, zs, hcs, _, hl, hm, hz, _, hcell, hwz⟩
  · simp [Value.cells] at hcs
    obtain ⟨rfl, rfl, rfl⟩ := hcs
    exact ⟨[], 0, .inl ⟨_, _, rfl, rfl⟩, rfl⟩
  · simp [Value.cells] at hcs
    obtain ⟨rfl, rfl, rfl⟩ := hcs
    have hlen : zs.length = cap := by simpa using hz
    by_cases hp : 0 < len
    · have hadd := add_plain (hcell 0 (by omega))
      have hx0 : x.add 0 = x := by simp [Addr.add]
      rw [hx0] at hadd
      have hx : x = ⟨x.block, x.off, none⟩ := by have := hadd 0; rw [hx0, Nat.add_zero] at this; exact this
      have hbl : ((zs.take len).map (BitVec.ofInt 8)).length = len := by rw [List.length_map, List.length_take]; omega
      refine ⟨(zs.take len).map (BitVec.ofInt 8), x.block, .inr ⟨x.off, cap, ?_, by omega, ?_, ?_⟩, hbl⟩
      · rw [hbl, ← hx]
      · have := block_lt_of_cell (hcell 0 (by omega))
        simpa [Addr.add] using this
      · intro i hi
        have hil : i < zs.length := by omega
        have hin : i < len := by omega
        rw [← hadd, hcell i hil]
        have hb := bounds_u8 (hwz (zs[i]) (List.getElem_mem hil))
        have e1 : zs.getD i 0 = zs[i] := by simp [hil]
        have e2 : ((zs.take len).map (BitVec.ofInt 8)).getD i 0 = BitVec.ofInt 8 zs[i] := by simp [hil, hin]
        rw [e1, e2, bv_ofInt _ (by omega) (by omega)]
    · obtain rfl : len = 0 := by omega
      exact ⟨[], 0, .inl ⟨_, _, rfl, rfl⟩, rfl⟩
end Go.Proofs.Ytkgfcddjjghohaa
