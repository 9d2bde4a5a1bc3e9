/- Arguments opened: a pair of numbers, a list of numbers. -/
import Derived.Test.YtjdpomilifnlaaaM3
namespace Go.Proofs.Ytjdpomilifnlaaa
set_option maxRecDepth 100000
open Go.RowKit
open Go.ChangeShapes Go.WideShapes Go.ChangeAt
variable {H : Type} {enc : TypeId × Value → H} {W : World}
theorem open_lost {r : Reach} {b0 : Nat} {v : Value} {d : DataW H} {p : List MemPlace} (hv : Value.okWide Try.prog W r b0 30 v) (h : DataW.Trod enc Try.prog W 0 (fun _ => true) true 30 v d p) : ∃ xs : List Int, (Fk.is xs).f v W ∧ (∃ A C, v = .slice A xs.length C) ∧ ∀ z ∈ xs, (Lit.int .i64 z).wf = true := by
  obtain ⟨A, N, C, rfl⟩ := okWide_slice Try.under30z hv
  obtain ⟨fuel, hf⟩ := h
  obtain ⟨xs, A', C', e, h1, h2⟩ := is_part hf
  have e2 : Value.slice A N C = .slice A' xs.length C' := by simpa [Value.cells] using e
  rw [e2]
  exact ⟨xs, h1, ⟨A', C', rfl⟩, h2⟩
end Go.Proofs.Ytjdpomilifnlaaa
