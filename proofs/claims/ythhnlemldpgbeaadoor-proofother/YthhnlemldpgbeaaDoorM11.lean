/- What the rows of this seat share: what the listed variable gives a walk, an array of bytes opened, the start that fits. A slice of bytes that came in, opened. A slice of hashes that came in, opened. Signatures and structs with them that came in, opened. Arguments opened: numbers with their bounds, slices of hashes with their room. -/
import Derived.Test.YthhnlemldpgbeaaDoorRows
import Derived.Test.YthhnlemldpgbeaaDoorM2
import Derived.ProofKit
import Derived.LaidMore
import Derived.OpenShut
import Derived.ShutString
import Derived.ChangeOld
import Derived.Lib.LaidTab
import Derived.SevenTiedAt
import Derived.Deep.Slices
import Derived.Deep.Strs
import Derived.Test.YthhnlemldpgbeaaDoorM4
namespace Go.Proofs.YthhnlemldpgbeaaDoor
set_option maxRecDepth 100000
open Go.ChangeShapes Go.WideShapes Go.ChangeAt Go.RowKit

theorem own : ownKnob Tryd.prog.godebug = none := by kernel_rfl
theorem laidOut : laidOutB Tryd.prog = true := by kernel_rfl
theorem gK : Tryd.prog.globalNamed "syngraph/sha.roundNumbers" = some 0 := by kernel_rfl
theorem tK : (Tryd.prog.globals[0]?).map (·.type) = some 84 := by kernel_rfl
theorem cells72 : Tryd.prog.cellsOf 72 = 1 := by kernel_rfl
theorem cells84 : Tryd.prog.cellsOf 84 = 64 := by kernel_rfl
theorem cells5 : Tryd.prog.cellsOf 5 = 1 := by kernel_rfl
theorem cells23 : Tryd.prog.cellsOf 23 = 32 := by kernel_rfl
theorem under72 : Tryd.prog.underlying 72 = some (.int .u32) := by kernel_rfl
/-- What the rows list. -/
def laidK : List (String × DataW Unit) := [("syngraph/sha.roundNumbers", Rows.laid_syngraph_sha_roundNumbers)]
theorem laidK_tab : laidK = [("syngraph/sha.roundNumbers", Lib.tabData .u32 (KN.map vl))] := by kernel_rfl
theorem hasK_of {W : World} (h : laidMetH Tryd.prog laidK W) : HasK W 0 ∧ 0 < W.heap.size := by
  rw [MakeChecks.laidMetH_plain _ _ _ (by kernel_rfl), laidK_tab] at h
  have hT := Lib.tabIs_of_head gK tK Tryd.under84 under72 cells72 cells84 h
  have hc : ∀ i, i < 64 → W.cell? ⟨0, i, none⟩ = some (.int .u32 (vl (KN.getD i 0))) := fun i hi => by
    rw [hT.cell gK i (by simpa [KN] using hi)]
    have hi' : i < KN.length := by simpa [KN] using hi
    simp [hi']
  exact ⟨hc, block_lt_of_cell (hc 0 (by omega))⟩
/-- An array of bytes, by value, opened. -/
theorem open_arr8 {H : Type} {enc : TypeId × Value → H} {P : Program} {w : World} {r : Reach} {b0 base : Nat} {spare : Nat → Bool} {held : Bool} {t e : TypeId} {n : Nat} {v : Value} {d : DataW H} {p : List MemPlace}
    (ht : P.underlying t = some (.array n e)) (he : P.underlying e = some (.int .u8)) (hce : P.cellsOf e = 1) (hct : P.cellsOf t = n)
    (hv : Value.okWide P w r b0 t v) (h : DataW.Trod enc P w base spare held t v d p) : ∃ xs : List (BitVec 8), xs.length = n ∧ v = .agg (xs.map V).toArray := by
  unfold Value.okWide at hv
  rw [ht] at hv
  obtain ⟨cs, rfl, hsz, _⟩ := hv
  obtain ⟨fuel, hf⟩ := h
  obtain ⟨ys, m, _, _, hl, hn, hel⟩ := DataW.trod_array ht hf
  have hcell : ∀ i, i < n → ∃ z : Int, cs.toList[i]? = some (.int .u8 z) ∧ 0 ≤ z ∧ z < 256 := fun i hi => by
    have h1 := hel i hi
    rw [hce, List.getElem?_eq_getElem (by omega)] at h1
    obtain ⟨z, hc, _, hw⟩ := DataW.trod_int he h1
    refine ⟨z, ?_, ?_⟩
    · have := congrArg (·[0]?) hc
      simpa [List.getElem?_take, List.getElem?_drop, Value.cells] using this
    · have := bounds_u8 hw
      omega
  refine ⟨cs.toList.map fun v => match v with | .int _ z => BitVec.ofInt 8 z | _ => 0, ?_, ?_⟩
  · rw [List.length_map, Array.length_toList]; omega
  · congr 1
    apply Array.toList_inj.1
    apply List.ext_getElem?
    intro i
    by_cases hi : i < n
    · obtain ⟨z, hz, h0, h1⟩ := hcell i hi
      rw [hz]
      simp only [List.getElem?_map, hz, Option.map_some, List.map_map, Function.comp]
      simp only [V, bv]
      rw [BitVec.toNat_ofInt]
      congr 2
      omega
    · rw [List.getElem?_eq_none (by simp; omega), List.getElem?_eq_none (by simp; omega)]
theorem door_met (os : Os) (args : Array Value) : laidMetH Tryd.prog laidK ((World.doorLaid Tryd.prog 400 os).forCall (fun _ _ => 0) ⟨#[], args, []⟩).memory :=
  laidMetH_of_parts3 (fuel := 8) (laidMet_of_run' 8 (by kernel_rfl) (by kernel_rfl)) (by kernel_rfl) (by kernel_rfl)
end Go.Proofs.YthhnlemldpgbeaaDoor
namespace Go.Proofs.YthhnlemldpgbeaaDoor
set_option maxRecDepth 100000
open Go.ChangeShapes Go.WideShapes Go.ChangeAt Go.RowKit
theorem bv_ofInt (z : Int) (h0 : 0 ≤ z) (h1 : z < 256) : bv (BitVec.ofInt 8 z) = z := by
  unfold bv
  rw [BitVec.toNat_ofInt]
  omega
end Go.Proofs.YthhnlemldpgbeaaDoor
namespace Go.Proofs.YthhnlemldpgbeaaDoor
set_option maxRecDepth 100000
open Go.ChangeShapes Go.WideShapes Go.ChangeAt Go.RowKit
theorem add_plain {w : World} {x : Addr} {v : Value} (h : w.cell? x = some v) : ∀ i, x.add i = ⟨x.block, x.off + i, none⟩ := by
  have hspot : x.spot = none := by
    unfold World.cell? at h
    split at h
    · split at h
      · cases h
      · rename_i h2; simpa using h2
    · cases h
  intro i
  unfold Addr.add
  split
  · rename_i h2; subst h2; rw [Nat.add_zero, ← hspot]
  · rfl
theorem Tryd.under24 : Tryd.prog.underlying 24 = some (.slice 23) := by kernel_rfl
theorem hl_of {H : Type} {enc : TypeId × Value → H} {W : World} {A : Option Addr} {N C : Nat} {d : DataW H} {p : List MemPlace}
    (h : DataW.Trod enc Tryd.prog W 0 (fun _ => true) true 24 (.slice A N C) d p) : ∃ lb lo hs, Hl W A lb lo hs ∧ N = hs.length ∧ N ≤ maxLen := by
  obtain ⟨fuel, hf⟩ := h
  rcases Deep.open_slice Tryd.under24 hf with ⟨hcs, _⟩ | ⟨a, len, cap, m, n, D, Pl, hcs, _, hl, hm, hmm, _, hel⟩
  · simp [Value.cells] at hcs
    obtain ⟨rfl, rfl, rfl⟩ := hcs
    exact ⟨0, 0, [], ⟨fun h => absurd h (by simp), fun h => absurd h (by simp), fun i x hi => by simp at hi⟩, rfl, by unfold maxLen; omega⟩
  · simp [Value.cells] at hcs
    obtain ⟨rfl, rfl, rfl⟩ := hcs
    have hmc : m = C := by simpa using hmm
    subst hmc
    rw [cells23] at hel
    obtain ⟨F, hF⟩ := Deep.choose_lt (α := List (BitVec 8)) (n := N) (p := fun i x => x.length = 32 ∧ ∀ j, j < 32 → W.cell? (a.add (i * 32 + j)) = some (.int .u8 (bv (x.getD j 0)))) (fun i hi => by
      obtain ⟨cs', h1, h2⟩ := hel i (by omega)
      obtain ⟨_, hlen, hcell⟩ := World.cells?_some h1
      obtain ⟨ys, m', _, _, hl', hn, hel'⟩ := DataW.trod_array Tryd.under23 h2
      have hz : ∀ j, j < 32 → ∃ z : Int, cs'[j]? = some (.int .u8 z) ∧ 0 ≤ z ∧ z < 256 := fun j hj => by
        have h3 := hel' j hj
        rw [cells5, List.getElem?_eq_getElem (by omega)] at h3
        obtain ⟨z, hc, _, hw⟩ := DataW.trod_int Tryd.under5 h3
        refine ⟨z, ?_, ?_⟩
        · have := congrArg (·[0]?) hc
          simpa [List.getElem?_take, List.getElem?_drop, Value.cells] using this
        · have := bounds_u8 hw
          omega
      refine ⟨cs'.map fun v => match v with | .int _ z => BitVec.ofInt 8 z | _ => 0, by rw [List.length_map]; exact hlen, fun j hj => ?_⟩
      obtain ⟨z, hz1, h0, h256⟩ := hz j hj
      rw [← Deep.add_add, hcell j hj, hz1]
      have : bv (BitVec.ofInt 8 z) = z := bv_ofInt z h0 h256
      simp [hz1, this])
    have hbase : 0 < N → ∀ i, a.add i = ⟨a.block, a.off + i, none⟩ := fun hp => by
      have h0 := (hF 0 hp).2 0 (by omega)
      have e0 : a.add (0 * 32 + 0) = a := by simp [Addr.add]
      rw [e0] at h0
      exact add_plain h0
    refine ⟨a.block, a.off, (List.range N).map F, ⟨fun hp => ?_, fun hp => ?_, fun i x hi => ?_⟩, by simp, by unfold maxLen at *; omega⟩
    · rw [List.length_map, List.length_range] at hp
      have := hbase hp 0
      have e0 : a.add 0 = a := by simp [Addr.add]
      rw [e0, Nat.add_zero] at this
      rw [← this]
    · rw [List.length_map, List.length_range] at hp
      have h0 := (hF 0 hp).2 0 (by omega)
      have e0 : a.add (0 * 32 + 0) = a := by simp [Addr.add]
      rw [e0] at h0
      exact block_lt_of_cell h0
    · obtain ⟨h1, h2⟩ := List.getElem?_eq_some_iff.1 hi
      have hiN : i < N := by simpa using h1
      have e : x = F i := by rw [← h2]; simp
      subst e
      refine ⟨(hF i hiN).1, fun j hj => ?_⟩
      have hj' : j < 32 := by rw [(hF i hiN).1] at hj; exact hj
      have := (hF i hiN).2 j hj'
      rw [hbase (by omega), ← Nat.add_assoc] at this
      exact this
end Go.Proofs.YthhnlemldpgbeaaDoor
namespace Go.Proofs.YthhnlemldpgbeaaDoor
set_option maxRecDepth 100000
open Go.ChangeShapes Go.WideShapes Go.ChangeAt Go.RowKit
section
variable {H : Type} {enc : TypeId × Value → H} {W : World}
theorem int_part {n : Nat} {cs : List Value} {y : DataW H × List MemPlace} (h : DataW.trod enc Tryd.prog W 0 (fun _ => true) true n 3 cs = some y) : ∃ z : Int, cs = [.int .i64 z] ∧ -9223372036854775808 ≤ z ∧ z ≤ 9223372036854775807 := by
  obtain ⟨z, hc, _, hw⟩ := DataW.trod_int Tryd.under3 h
  refine ⟨z, by simpa [Value.cells] using hc, ?_⟩
  have := bounds_i64 hw
  omega
end
end Go.Proofs.YthhnlemldpgbeaaDoor
namespace Go.Proofs.YthhnlemldpgbeaaDoor
set_option maxRecDepth 100000
set_option maxRecDepth 100000
open Go.ChangeShapes Go.WideShapes Go.ChangeAt Go.RowKit
variable {H : Type} {enc : TypeId × Value → H} {W : World}
theorem open_int {r : Reach} {b0 : Nat} {v : Value} {d : DataW H} {p : List MemPlace} (hv : Value.okWide Tryd.prog W r b0 3 v) (h : DataW.Trod enc Tryd.prog W 0 (fun _ => true) true 3 v d p) : ∃ z : Int, v = .int .i64 z ∧ -9223372036854775808 ≤ z ∧ z ≤ 9223372036854775807 := by
  obtain ⟨z, rfl⟩ := okWide_int Tryd.under3 hv
  obtain ⟨m, hm⟩ := h
  obtain ⟨z', e, h1, h2⟩ := int_part hm
  have : z = z' := by simpa [Value.cells] using e
  subst this
  exact ⟨z, rfl, h1, h2⟩
theorem open_hc {r : Reach} {b0 : Nat} {v : Value} {d : DataW H} {p : List MemPlace} (hv : Value.okWide Tryd.prog W r b0 24 v) (h : DataW.Trod enc Tryd.prog W 0 (fun _ => true) true 24 v d p) : ∃ l, (Fk.hc l).f v W ∧ l.length ≤ maxLen := by
  obtain ⟨A, N, C, rfl⟩ := okWide_slice Tryd.under24 hv
  have hcap : N ≤ C := by
    obtain ⟨m, hm⟩ := h
    rcases Deep.open_slice Tryd.under24 hm with ⟨hcs, _⟩ | ⟨a, len, cap, m, n, D, Pl, hcs, _, hl, _⟩
    · simp [Value.cells] at hcs
      omega
    · simp [Value.cells] at hcs
      obtain ⟨_, rfl, rfl⟩ := hcs
      exact hl
  obtain ⟨lb, lo, hs, hl, hn, hm⟩ := hl_of h
  subst hn
  exact ⟨hs, ⟨A, C, lb, lo, rfl, hcap, hl⟩, hm⟩
end Go.Proofs.YthhnlemldpgbeaaDoor
