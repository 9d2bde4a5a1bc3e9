/- Arguments opened: a pair of numbers, a list of numbers. -/
import Derived.Test.YtakdpkoigijonaaM3
namespace Go.Proofs.Ytakdpkoigijonaa
set_option maxRecDepth 100000
open Go.RowKit
open Go.ChangeShapes Go.WideShapes Go.ChangeAt
variable {H : Type} {enc : TypeId × Value → H} {W : World}
theorem open_lost {r : Reach} {b0 : Nat} {v : Value} {d : DataW H} {p : List MemPlace} (hv : Value.okWide Try.prog W r b0 37 v) (h : DataW.Trod enc Try.prog W 0 (fun _ => true) true 37 v d p) : ∃ xs : List Int, (Fk.is xs).f v W ∧ (∃ A C, v = .slice A xs.length C) ∧ ∀ z ∈ xs, (Lit.int .i64 z).wf = true := by
  obtain ⟨A, N, C, rfl⟩ := okWide_slice Try.under37z hv
  obtain ⟨fuel, hf⟩ := h
  obtain ⟨xs, A', C', e, h1, h2⟩ := is_part hf
  have e2 : Value.slice A N C = .slice A' xs.length C' := by simpa [Value.cells] using e
  rw [e2]
  exact ⟨xs, h1, ⟨A', C', rfl⟩, h2⟩
theorem is_partc {n : Nat} {cs : List Value} {y : DataW H × List MemPlace} (hf : DataW.trod enc Try.prog W 0 (fun _ => true) true n 37 cs = some y) : ∃ (xs : List Int) (A : Option Addr) (C : Nat), cs = [.slice A xs.length C] ∧ (Fk.is xs).f (.slice A xs.length C) W ∧ xs.length ≤ C ∧ ∀ z ∈ xs, (Lit.int .i64 z).wf = true := by
  obtain ⟨xs, A, C, e, h1, h2⟩ := is_part hf
  refine ⟨xs, A, C, e, h1, ?_, h2⟩
  rcases open_ints Try.under37z Try.under3 (by kernel_rfl) hf with ⟨hcs, _⟩ | ⟨x, l, c, zs, hcs, _, hl, _⟩
  · rw [e] at hcs
    injection hcs with hc _
    injection hc with _ hb hc
    omega
  · rw [e] at hcs
    injection hcs with hc _
    injection hc with _ hb hc
    omega
theorem open_lostc {r : Reach} {b0 : Nat} {v : Value} {d : DataW H} {p : List MemPlace} (hv : Value.okWide Try.prog W r b0 37 v) (h : DataW.Trod enc Try.prog W 0 (fun _ => true) true 37 v d p) : ∃ (xs : List Int) (A : Option Addr) (C : Nat), v = .slice A xs.length C ∧ (Fk.is xs).f (.slice A xs.length C) W ∧ xs.length ≤ C ∧ ∀ z ∈ xs, (Lit.int .i64 z).wf = true := by
  obtain ⟨A, N, C, rfl⟩ := okWide_slice Try.under37z hv
  obtain ⟨fuel, hf⟩ := h
  obtain ⟨xs, A', C', e, h1, h2, h3⟩ := is_partc hf
  have e2 : Value.slice A N C = .slice A' xs.length C' := by simpa [Value.cells] using e
  exact ⟨xs, A', C', e2, h1, h2, h3⟩
end Go.Proofs.Ytakdpkoigijonaa
