/- Greater and less of two numbers; append of any slice of numbers to one of the call's own; such a slice stays while other blocks turn. Arguments opened: slices of numbers, and of hashes, as they are written (where nothing is pointed to, there is no room). What the rows with three listed variables share; a slice of hashes opened as it is written. -/
import Derived.Test.YtnppjlpnfijobaaDoorM4
import Derived.Laws.Small
import Derived.Laws.AppendOwnNone
import Derived.Test.YtnppjlpnfijobaaDoorM10
import Derived.Stop.LaidErr
namespace Go.Proofs.YtnppjlpnfijobaaDoor
set_option maxRecDepth 100000
open Go.RowKit
section
variable {Q : Exit → Act → World → Prop} {o : Oper} {a : Act} {w : World} {ops : Array Oper} {rest : List Oper}
end
end Go.Proofs.YtnppjlpnfijobaaDoor
namespace Go.Proofs.YtnppjlpnfijobaaDoor
set_option maxRecDepth 100000
set_option maxRecDepth 100000
open Go.ChangeShapes Go.WideShapes Go.ChangeAt Go.RowKit
variable {H : Type} {enc : TypeId × Value → H} {W : World}
theorem open_hc9 {r : Reach} {b0 : Nat} {v : Value} {d : DataW H} {p : List MemPlace} (hv : Value.okWide Tryd.prog W r b0 22 v) (h : DataW.Trod enc Tryd.prog W 0 (fun _ => true) true 22 v d p) : ∃ (l : List (List (BitVec 8))) (A : Option Addr) (C : Nat), v = .slice A l.length C ∧ (Fk.hc l).f (.slice A l.length C) W ∧ (A = none → C = 0) := by
  obtain ⟨l, hl, _⟩ := open_hc hv h
  have hl0 := hl
  obtain ⟨A, C, lb, lo, rfl, hc, hq⟩ := hl
  refine ⟨l, A, C, rfl, hl0, ?_⟩
  obtain ⟨m, hm⟩ := h
  rcases Deep.open_slice Tryd.under22 hm with ⟨hcs, _⟩ | ⟨a, len, cap, m, n, D, Pl, hcs, _⟩
  · have := hcs
    simp [Value.cells] at this
    exact fun _ => this.2.2
  · have := hcs
    simp [Value.cells] at this
    intro h
    rw [this.1] at h
    cases h
end Go.Proofs.YtnppjlpnfijobaaDoor
namespace Go.Proofs.YtnppjlpnfijobaaDoor
set_option maxRecDepth 100000
set_option maxRecDepth 100000
open Go.ChangeShapes Go.WideShapes Go.ChangeAt Go.RowKit
theorem gZ : Tryd.prog.globalNamed "math/bits.deBruijn64tab" = some 1 := by kernel_rfl
theorem tZ : (Tryd.prog.globals[1]?).map (·.type) = some 92 := by kernel_rfl
theorem cellsZ : Tryd.prog.cellsOf 92 = 64 := by kernel_rfl
theorem underZ : Tryd.prog.underlying 92 = some (.array 64 5) := by kernel_rfl
/-- What the row lists. -/
def laidK3 : List (String × DataW Unit) := [("math/bits.deBruijn32tab", Rows.laid_math_bits_deBruijn32tab), ("math/bits.deBruijn64tab", Rows.laid_math_bits_deBruijn64tab), ("syngraph/sha.roundNumbers", Rows.laid_syngraph_sha_roundNumbers)]
theorem laidK3_tab : laidK3 = [("math/bits.deBruijn32tab", Rows.laid_math_bits_deBruijn32tab), ("math/bits.deBruijn64tab", Lib.tabData .u8 (dbt.map fun n => ((n : Nat) : Int))), ("syngraph/sha.roundNumbers", Lib.tabData .u32 (KN.map vl))] := by kernel_rfl
theorem dbt_len : dbt.length = 64 := by decide
theorem hasK3_of {W : World} (h : laidMetH Tryd.prog laidK3 W) : Tab W := by
  rw [MakeChecks.laidMetH_plain _ _ _ (by kernel_rfl), laidK3_tab] at h
  have h2 := laidMet.tail h
  have h3 := laidMet.tail h2
  have hT := Lib.tabIs_of_head gK tK Tryd.under99 under88 cells88 cells99 h3
  have hZ := Lib.tabIs_of_head gZ tZ underZ Tryd.under5 cells5 cellsZ h2
  have hc : ∀ i, i < 64 → W.cell? ⟨2, i, none⟩ = some (.int .u32 (vl (KN.getD i 0))) := fun i hi => by
    rw [hT.cell gK i (by simpa [KN] using hi)]
    have hi' : i < KN.length := by simpa [KN] using hi
    simp [hi']
  have hd : ∀ i, i < 64 → W.cell? ⟨1, i, none⟩ = some (.int .u8 ((dbt.getD i 0 : Nat) : Int)) := fun i hi => by
    have hi' : i < dbt.length := by rw [dbt_len]; exact hi
    rw [hZ.cell gZ i (by rw [List.length_map]; exact hi')]
    simp [hi']
  exact ⟨hc, block_lt_of_cell (hc 0 (by omega)), hd, block_lt_of_cell (hd 0 (by omega))⟩
theorem door_met3 (os : Os) (args : Array Value) : laidMetH Tryd.prog laidK3 ((World.doorLaid Tryd.prog 400 os).forCall (fun _ _ => 0) ⟨#[], args, []⟩).memory :=
  laidMetH_of_parts3 (fuel := 8) (laidMet_of_run' 8 (by kernel_rfl) (by kernel_rfl)) (by kernel_rfl) (by kernel_rfl)
end Go.Proofs.YtnppjlpnfijobaaDoor
