/- An array of two numbers, by value, opened. -/
import Derived.Test.YtiebjpdjcgefhaaDoorWr
import Derived.Test.YtiebjpdjcgefhaaDoorTi
namespace Go.Proofs.YtiebjpdjcgefhaaDoor
open Go.ChangeShapes Go.WideShapes Go.ChangeAt Go.RowKit
theorem Tryd.under39 : Tryd.prog.underlying 39 = some (.array 2 3) := by kernel_rfl
theorem cells3 : Tryd.prog.cellsOf 3 = 1 := by kernel_rfl
theorem open_arr2 {H : Type} {enc : TypeId × Value → H} {w : World} {r : Reach} {b0 base : Nat} {spare : Nat → Bool} {held : Bool} {v : Value} {d : DataW H} {p : List MemPlace}
    (hct : Tryd.prog.cellsOf 39 = 2)
    (hv : Value.okWide Tryd.prog w r b0 39 v) (h : DataW.Trod enc Tryd.prog w base spare held 39 v d p) : ∃ x y : Int, v = .agg #[.int .i64 x, .int .i64 y] := by
  unfold Value.okWide at hv
  rw [Tryd.under39] at hv
  obtain ⟨cs, rfl, hsz, _⟩ := hv
  obtain ⟨fuel, hf⟩ := h
  obtain ⟨ys, m, _, _, hl, hn, hel⟩ := DataW.trod_array Tryd.under39 hf
  have hcell : ∀ i, i < 2 → ∃ z : Int, cs.toList[i]? = some (.int .i64 z) := fun i hi => by
    have h1 := hel i hi
    rw [cells3, List.getElem?_eq_getElem (by omega)] at h1
    obtain ⟨z, hc, _, hw⟩ := DataW.trod_int Tryd.under3 h1
    refine ⟨z, ?_⟩
    have := congrArg (·[0]?) hc
    simpa [List.getElem?_take, List.getElem?_drop, Value.cells] using this
  obtain ⟨x, hx⟩ := hcell 0 (by omega)
  obtain ⟨y, hy⟩ := hcell 1 (by omega)
  refine ⟨x, y, ?_⟩
  congr 1
  apply Array.toList_inj.1
  apply List.ext_getElem?
  intro i
  have hlen : cs.toList.length = 2 := by rw [Array.length_toList]; omega
  match i with
  | 0 => rw [hx]; rfl
  | 1 => rw [hy]; rfl
  | i + 2 => rw [List.getElem?_eq_none (by omega), List.getElem?_eq_none (by simp)]
theorem cells39 : Tryd.prog.cellsOf 39 = 2 := by kernel_rfl
end Go.Proofs.YtiebjpdjcgefhaaDoor
