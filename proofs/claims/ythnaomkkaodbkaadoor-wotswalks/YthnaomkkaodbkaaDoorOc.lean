/- A struct of three numbers, by value, opened. -/
import Derived.Test.YthnaomkkaodbkaaDoorWr
import Derived.Test.YthnaomkkaodbkaaDoorUe
import Derived.Deep.Strs
namespace Go.Proofs.YthnaomkkaodbkaaDoor
open Go.ChangeShapes Go.WideShapes Go.ChangeAt Go.RowKit
/-- The types and places of a struct's fields. -/
def fld3 (P : Program) (t : TypeId) : Option (List (TypeId × Nat)) := match P.underlying t with | some (.struct fs) => some (fs.toList.map fun f => (f.type, f.offset)) | _ => none
theorem cells3 : Tryd.prog.cellsOf 3 = 1 := by kernel_rfl
theorem cells42 : Tryd.prog.cellsOf 42 = 3 := by kernel_rfl
theorem fld42 : fld3 Tryd.prog 42 = some [(3, 0), (3, 1), (3, 2)] := by kernel_rfl
theorem open_st3 {H : Type} {enc : TypeId × Value → H} {w : World} {r : Reach} {b0 base : Nat} {spare : Nat → Bool} {held : Bool} {v : Value} {d : DataW H} {p : List MemPlace}
    (hv : Value.okWide Tryd.prog w r b0 42 v) (h : DataW.Trod enc Tryd.prog w base spare held 42 v d p) : ∃ x y z : Int, v = .agg #[.int .i64 x, .int .i64 y, .int .i64 z] := by
  have hF := fld42
  unfold fld3 at hF
  unfold Value.okWide at hv
  cases hu : Tryd.prog.underlying 42 with
  | none => rw [hu] at hF; simp at hF
  | some td =>
    rw [hu] at hF hv
    cases td <;> simp only [] at hF <;> try (cases hF)
    rename_i fs
    obtain ⟨cs, rfl, hsz, _⟩ := hv
    obtain ⟨fuel, hf⟩ := h
    obtain ⟨fl, hfl⟩ : ∃ l, fs.toList = l := ⟨_, rfl⟩
    rw [hfl] at hF
    rcases fl with _ | ⟨f0, _ | ⟨f1, _ | ⟨f2, _ | ⟨f3, r⟩⟩⟩⟩
    · simp at hF
    · simp at hF
    · simp at hF
    rotate_left
    · simp at hF
    · skip
      simp only [List.map_cons, List.map_nil, Option.some.injEq, List.cons.injEq, Prod.mk.injEq, and_true] at hF
      obtain ⟨⟨t0, o0⟩, ⟨t1, o1⟩, t2, o2⟩ := hF
      have hfs : fs = #[f0, f1, f2] := Array.toList_inj.1 hfl
      rw [hfs] at hu
      obtain ⟨y0, y1, y2, n, _, hl, h0, h1, h2⟩ := Deep.trod_struct3 hu hf
      rw [t0, o0, cells3] at h0
      rw [t1, o1, cells3] at h1
      rw [t2, o2, cells3] at h2
      obtain ⟨z0, e0, _⟩ := DataW.trod_int Tryd.under3 h0
      obtain ⟨z1, e1, _⟩ := DataW.trod_int Tryd.under3 h1
      obtain ⟨z2, e2, _⟩ := DataW.trod_int Tryd.under3 h2
      have k0 := congrArg (·[0]?) e0
      have k1 := congrArg (·[0]?) e1
      have k2 := congrArg (·[0]?) e2
      simp [Value.cells] at k0 k1 k2
      refine ⟨z0, z1, z2, ?_⟩
      congr 1
      apply Array.toList_inj.1
      apply List.ext_getElem?
      intro i
      have hlen : cs.toList.length = 3 := by rw [Array.length_toList, hsz, cells42]
      match i with
      | 0 => simpa using k0
      | 1 => simpa using k1
      | 2 => simpa using k2
      | i + 3 => rw [List.getElem?_eq_none (by omega), List.getElem?_eq_none (by simp)]
end Go.Proofs.YthnaomkkaodbkaaDoor
