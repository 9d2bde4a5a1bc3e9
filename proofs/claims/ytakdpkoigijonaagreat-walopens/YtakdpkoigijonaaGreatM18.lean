/- WalOpens: arguments opened. -/
import Derived.Test.YtakdpkoigijonaaGreatM3
namespace Go.Proofs.YtakdpkoigijonaaGreat
set_option maxRecDepth 100000
open Go.RowKit
open Go.ChangeShapes Go.WideShapes Go.ChangeAt
variable {H : Type} {enc : TypeId × Value → H} {W : World}
theorem under_b12 : Tryz.prog.underlying 22 = some (.slice 5) := by kernel_rfl
theorem under_bb12 : Tryz.prog.underlying 23 = some (.slice 22) := by kernel_rfl
theorem open_bytes12 {r : Reach} {b0 : Nat} {v : Value} {d : DataW H} {p : List MemPlace} (hv : Value.okWide Tryz.prog W r b0 22 v) (h : DataW.Trod enc Tryz.prog W 0 (fun _ => true) true 22 v d p) : ∃ bs : List (BitVec 8), (Fk.sl bs).f v W := by
  obtain ⟨A, N, C, rfl⟩ := okWide_slice under_b12 hv
  obtain ⟨fuel, hf⟩ := h
  obtain ⟨v, bs, e, h1⟩ := sl_part hf
  have e2 : Value.slice A N C = v := by simpa [Value.cells] using e
  exact ⟨bs, by rw [e2]; exact h1⟩
theorem open_mg12 {r : Reach} {b0 : Nat} {v : Value} {d : DataW H} {p : List MemPlace} (hv : Value.okWide Tryz.prog W r b0 23 v) (h : DataW.Trod enc Tryz.prog W 0 (fun _ => true) true 23 v d p) : ∃ ps : List Pt, (Fk.mg ps).f v W := by
  obtain ⟨A, N, C, rfl⟩ := okWide_slice under_bb12 hv
  obtain ⟨fuel, hf⟩ := h
  obtain ⟨A', C', ps, e, h1⟩ := mg_part hf
  have e2 : Value.slice A N C = .slice A' ps.length C' := by simpa [Value.cells] using e
  exact ⟨ps, by rw [e2]; exact h1⟩
end Go.Proofs.YtakdpkoigijonaaGreat
