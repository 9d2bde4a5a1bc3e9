/- Arguments opened: a pair of numbers, a list of numbers. -/
import Derived.Test.YtjdpomilifnlaaaM3
namespace Go.Proofs.Ytjdpomilifnlaaa
set_option maxRecDepth 100000
open Go.RowKit
open Go.ChangeShapes Go.WideShapes Go.ChangeAt
variable {H : Type} {enc : TypeId × Value → H} {W : World}
theorem under_pair : Try.prog.underlying 52 = some (.array 2 3) := by kernel_rfl
theorem cells_pair : Try.prog.cellsOf 52 = 2 := by kernel_rfl
theorem open_two {r : Reach} {b0 : Nat} {v : Value} {d : DataW H} {p : List MemPlace} (hv : Value.okWide Try.prog W r b0 52 v) (h : DataW.Trod enc Try.prog W 0 (fun _ => true) true 52 v d p) : ∃ n z : Int, v = .agg ([.int .i64 n, .int .i64 z] : List Value).toArray := by
  unfold Value.okWide at hv
  rw [under_pair] at hv
  obtain ⟨cs, rfl, hsz, _⟩ := hv
  obtain ⟨fuel, hf⟩ := h
  obtain ⟨ys, m, _, _, hl, hn, hel⟩ := DataW.trod_array under_pair hf
  have hcell : ∀ i, i < 2 → ∃ z : Int, cs.toList[i]? = some (.int .i64 z) := fun i hi => by
    have h1 := hel i hi
    rw [cells3, List.getElem?_eq_getElem (by omega)] at h1
    obtain ⟨z, hc, _, hw⟩ := DataW.trod_int Try.under3 h1
    refine ⟨z, ?_⟩
    have := congrArg (·[0]?) hc
    simpa [List.getElem?_take, List.getElem?_drop, Value.cells] using this
  obtain ⟨n, h0⟩ := hcell 0 (by omega)
  obtain ⟨z, h1⟩ := hcell 1 (by omega)
  have hlen : cs.toList.length = 2 := by
    have : cs.toList.length = Try.prog.cellsOf 52 := by simpa [Value.cells] using hl
    rw [this, cells_pair]
  refine ⟨n, z, ?_⟩
  congr 1
  apply Array.toList_inj.1
  apply List.ext_getElem?
  intro i
  match i, hlen with
  | 0, _ => rw [h0]; rfl
  | 1, _ => rw [h1]; rfl
  | i + 2, hlen => rw [List.getElem?_eq_none (by omega)]; rfl
end Go.Proofs.Ytjdpomilifnlaaa
