/- ProofLeads, all cases. What the rows of this seat share: what the listed variable gives a walk, an array of bytes opened, the start that fits. A slice of bytes that came in, opened. A slice of hashes that came in, opened. Signatures and structs with them that came in, opened. Arguments opened: numbers with their bounds, slices of hashes with their room. Places and steps of layer 8 that came in, opened. -/
import Derived.Test.YthhnlemldpgbeaaDoorM9
import Derived.Test.YthhnlemldpgbeaaDoorRows
import Derived.Test.YthhnlemldpgbeaaDoorM2
import Derived.ProofKit
import Derived.LaidMore
import Derived.OpenShut
import Derived.ShutString
import Derived.ChangeOld
import Derived.Lib.LaidTab
import Derived.SevenTiedAt
import Derived.Deep.Slices
import Derived.Deep.Strs
import Derived.Test.YthhnlemldpgbeaaDoorM4
namespace Go.Proofs.YthhnlemldpgbeaaDoor
set_option maxRecDepth 100000
open Go.RowKit
theorem leads_law {leaf rt : List (BitVec 8)} (hlf : leaf.length = 32) (hrt : rt.length = 32) {P : List (List (BitVec 8))} {pA : Option Addr} {pC : Nat} (w : World) (hK : Tab w) (hv : (Fk.hc P).f (.slice pA P.length pC) w) (i n : Int) :
    Calls Tryd.prog 3 #[.agg (leaf.map V).toArray, .agg (([.int .i64 i, .int .i64 n, .slice pA P.length pC] : List Value) ++ (rt.map V)).toArray] w fun e w' => e = .returned (.bool true) ∧ Below w.heap.size w w' := by
  by_cases h : 80 < P.length ∨ 1152921504606846976 < n
  · exact leads_over hlf hrt w hK hv i n h
  · by_cases h2 : i < 0 ∨ n ≤ i
    · exact leads_no hlf hrt w hK hv i n (by omega) (by omega) h2
    · obtain ⟨k, rfl⟩ := Int.eq_ofNat_of_zero_le (show 0 ≤ i by omega)
      obtain ⟨m, rfl⟩ := Int.eq_ofNat_of_zero_le (show 0 ≤ n by omega)
      by_cases hl : P.length = (sds k m).length
      · exact leads_ok hlf hrt w hK hv (by omega) (by omega) hl
      · exact leads_bad hlf hrt w hK hv (by omega) (by omega) (by omega) hl
end Go.Proofs.YthhnlemldpgbeaaDoor
namespace Go.Proofs.YthhnlemldpgbeaaDoor
set_option maxRecDepth 100000
open Go.ChangeShapes Go.WideShapes Go.ChangeAt Go.RowKit

theorem own : ownKnob Tryd.prog.godebug = none := by kernel_rfl
theorem laidOut : laidOutB Tryd.prog = true := by kernel_rfl
theorem gK : Tryd.prog.globalNamed "syngraph/sha.roundNumbers" = some 0 := by kernel_rfl
theorem tK : (Tryd.prog.globals[0]?).map (·.type) = some 84 := by kernel_rfl
theorem cells72 : Tryd.prog.cellsOf 72 = 1 := by kernel_rfl
theorem cells84 : Tryd.prog.cellsOf 84 = 64 := by kernel_rfl
theorem cells5 : Tryd.prog.cellsOf 5 = 1 := by kernel_rfl
theorem cells23 : Tryd.prog.cellsOf 23 = 32 := by kernel_rfl
theorem under72 : Tryd.prog.underlying 72 = some (.int .u32) := by kernel_rfl
/-- What the rows list. -/
def laidK : List (String × DataW Unit) := [("syngraph/sha.roundNumbers", Rows.laid_syngraph_sha_roundNumbers)]
theorem laidK_tab : laidK = [("syngraph/sha.roundNumbers", Lib.tabData .u32 (KN.map vl))] := by kernel_rfl
theorem hasK_of {W : World} (h : laidMetH Tryd.prog laidK W) : HasK W 0 ∧ 0 < W.heap.size := by
  rw [MakeChecks.laidMetH_plain _ _ _ (by kernel_rfl), laidK_tab] at h
  have hT := Lib.tabIs_of_head gK tK Tryd.under84 under72 cells72 cells84 h
  have hc : ∀ i, i < 64 → W.cell? ⟨0, i, none⟩ = some (.int .u32 (vl (KN.getD i 0))) := fun i hi => by
    rw [hT.cell gK i (by simpa [KN] using hi)]
    have hi' : i < KN.length := by simpa [KN] using hi
    simp [hi']
  exact ⟨hc, block_lt_of_cell (hc 0 (by omega))⟩
/-- An array of bytes, by value, opened. -/
theorem open_arr8 {H : Type} {enc : TypeId × Value → H} {P : Program} {w : World} {r : Reach} {b0 base : Nat} {spare : Nat → Bool} {held : Bool} {t e : TypeId} {n : Nat} {v : Value} {d : DataW H} {p : List MemPlace}
    (ht : P.underlying t = some (.array n e)) (he : P.underlying e = some (.int .u8)) (hce : P.cellsOf e = 1) (hct : P.cellsOf t = n)
    (hv : Value.okWide P w r b0 t v) (h : DataW.Trod enc P w base spare held t v d p) : ∃ xs : List (BitVec 8), xs.length = n ∧ v = .agg (xs.map V).toArray := by
  unfold Value.okWide at hv
  rw [ht] at hv
  obtain ⟨cs, rfl, hsz, _⟩ := hv
  obtain ⟨fuel, hf⟩ := h
  obtain ⟨ys, m, _, _, hl, hn, hel⟩ := DataW.trod_array ht hf
  have hcell : ∀ i, i < n → ∃ z : Int, cs.toList[i]? = some (.int .u8 z) ∧ 0 ≤ z ∧ z < 256 := fun i hi => by
    have h1 := hel i hi
    rw [hce, List.getElem?_eq_getElem (by omega)] at h1
    obtain ⟨z, hc, _, hw⟩ := DataW.trod_int he h1
    refine ⟨z, ?_, ?_⟩
    · have := congrArg (·[0]?) hc
      simpa [List.getElem?_take, List.getElem?_drop, Value.cells] using this
    · have := bounds_u8 hw
      omega
  refine ⟨cs.toList.map fun v => match v with | .int _ z => BitVec.ofInt 8 z | _ => 0, ?_, ?_⟩
  · rw [List.length_map, Array.length_toList]; omega
  · congr 1
    apply Array.toList_inj.1
    apply List.ext_getElem?
    intro i
    by_cases hi : i < n
    · obtain ⟨z, hz, h0, h1⟩ := hcell i hi
      rw [hz]
      simp only [List.getElem?_map, hz, Option.map_some, List.map_map, Function.comp]
      simp only [V, bv]
      rw [BitVec.toNat_ofInt]
      congr 2
      omega
    · rw [List.getElem?_eq_none (by simp; omega), List.getElem?_eq_none (by simp; omega)]
theorem door_met (os : Os) (args : Array Value) : laidMetH Tryd.prog laidK ((World.doorLaid Tryd.prog 400 os).forCall (fun _ _ => 0) ⟨#[], args, []⟩).memory :=
  laidMetH_of_parts3 (fuel := 8) (laidMet_of_run' 8 (by kernel_rfl) (by kernel_rfl)) (by kernel_rfl) (by kernel_rfl)
end Go.Proofs.YthhnlemldpgbeaaDoor
namespace Go.Proofs.YthhnlemldpgbeaaDoor
set_option maxRecDepth 100000
open Go.ChangeShapes Go.WideShapes Go.ChangeAt Go.RowKit
theorem bv_ofInt (z : Int) (h0 : 0 ≤ z) (h1 : z < 256) : bv (BitVec.ofInt 8 z) = z := by
  unfold bv
  rw [BitVec.toNat_ofInt]
  omega
end Go.Proofs.YthhnlemldpgbeaaDoor
namespace Go.Proofs.YthhnlemldpgbeaaDoor
set_option maxRecDepth 100000
open Go.ChangeShapes Go.WideShapes Go.ChangeAt Go.RowKit
theorem add_plain {w : World} {x : Addr} {v : Value} (h : w.cell? x = some v) : ∀ i, x.add i = ⟨x.block, x.off + i, none⟩ := by
  have hspot : x.spot = none := by
    unfold World.cell? at h
    split at h
    · split at h
      · cases h
      · rename_i h2; simpa using h2
    · cases h
  intro i
  unfold Addr.add
  split
  · rename_i h2; subst h2; rw [Nat.add_zero, ← hspot]
  · rfl
theorem Tryd.under24 : Tryd.prog.underlying 24 = some (.slice 23) := by kernel_rfl
theorem hl_of {H : Type} {enc : TypeId × Value → H} {W : World} {A : Option Addr} {N C : Nat} {d : DataW H} {p : List MemPlace}
    (h : DataW.Trod enc Tryd.prog W 0 (fun _ => true) true 24 (.slice A N C) d p) : ∃ lb lo hs, Hl W A lb lo hs ∧ N = hs.length ∧ N ≤ maxLen := by
  obtain ⟨fuel, hf⟩ := h
  rcases Deep.open_slice Tryd.under24 hf with ⟨hcs, _⟩ | ⟨a, len, cap, m, n, D, Pl, hcs, _, hl, hm, hmm, _, hel⟩
  · simp [Value.cells] at hcs
    obtain ⟨rfl, rfl, rfl⟩ := hcs
    exact ⟨0, 0, [], ⟨fun h => absurd h (by simp), fun h => absurd h (by simp), fun i x hi => by simp at hi⟩, rfl, by unfold maxLen; omega⟩
  · simp [Value.cells] at hcs
    obtain ⟨rfl, rfl, rfl⟩ := hcs
    have hmc : m = C := by simpa using hmm
    subst hmc
    rw [cells23] at hel
    obtain ⟨F, hF⟩ := Deep.choose_lt (α := List (BitVec 8)) (n := N) (p := fun i x => x.length = 32 ∧ ∀ j, j < 32 → W.cell? (a.add (i * 32 + j)) = some (.int .u8 (bv (x.getD j 0)))) (fun i hi => by
      obtain ⟨cs', h1, h2⟩ := hel i (by omega)
      obtain ⟨_, hlen, hcell⟩ := World.cells?_some h1
      obtain ⟨ys, m', _, _, hl', hn, hel'⟩ := DataW.trod_array Tryd.under23 h2
      have hz : ∀ j, j < 32 → ∃ z : Int, cs'[j]? = some (.int .u8 z) ∧ 0 ≤ z ∧ z < 256 := fun j hj => by
        have h3 := hel' j hj
        rw [cells5, List.getElem?_eq_getElem (by omega)] at h3
        obtain ⟨z, hc, _, hw⟩ := DataW.trod_int Tryd.under5 h3
        refine ⟨z, ?_, ?_⟩
        · have := congrArg (·[0]?) hc
          simpa [List.getElem?_take, List.getElem?_drop, Value.cells] using this
        · have := bounds_u8 hw
          omega
      refine ⟨cs'.map fun v => match v with | .int _ z => BitVec.ofInt 8 z | _ => 0, by rw [List.length_map]; exact hlen, fun j hj => ?_⟩
      obtain ⟨z, hz1, h0, h256⟩ := hz j hj
      rw [← Deep.add_add, hcell j hj, hz1]
      have : bv (BitVec.ofInt 8 z) = z := bv_ofInt z h0 h256
      simp [hz1, this])
    have hbase : 0 < N → ∀ i, a.add i = ⟨a.block, a.off + i, none⟩ := fun hp => by
      have h0 := (hF 0 hp).2 0 (by omega)
      have e0 : a.add (0 * 32 + 0) = a := by simp [Addr.add]
      rw [e0] at h0
      exact add_plain h0
    refine ⟨a.block, a.off, (List.range N).map F, ⟨fun hp => ?_, fun hp => ?_, fun i x hi => ?_⟩, by simp, by unfold maxLen at *; omega⟩
    · rw [List.length_map, List.length_range] at hp
      have := hbase hp 0
      have e0 : a.add 0 = a := by simp [Addr.add]
      rw [e0, Nat.add_zero] at this
      rw [← this]
    · rw [List.length_map, List.length_range] at hp
      have h0 := (hF 0 hp).2 0 (by omega)
      have e0 : a.add (0 * 32 + 0) = a := by simp [Addr.add]
      rw [e0] at h0
      exact block_lt_of_cell h0
    · obtain ⟨h1, h2⟩ := List.getElem?_eq_some_iff.1 hi
      have hiN : i < N := by simpa using h1
      have e : x = F i := by rw [← h2]; simp
      subst e
      refine ⟨(hF i hiN).1, fun j hj => ?_⟩
      have hj' : j < 32 := by rw [(hF i hiN).1] at hj; exact hj
      have := (hF i hiN).2 j hj'
      rw [hbase (by omega), ← Nat.add_assoc] at this
      exact this
end Go.Proofs.YthhnlemldpgbeaaDoor
namespace Go.Proofs.YthhnlemldpgbeaaDoor
set_option maxRecDepth 100000
open Go.ChangeShapes Go.WideShapes Go.ChangeAt Go.RowKit
/-- The types and places of a struct's fields. -/
def fldS (P : Program) (t : TypeId) : Option (List (TypeId × Nat)) := match P.underlying t with | some (.struct fs) => some (fs.toList.map fun f => (f.type, f.offset)) | _ => none
section
variable {H : Type} {enc : TypeId × Value → H} {W : World}
theorem parts_of {t : TypeId} {l : List (TypeId × Nat)} (hF : fldS Tryd.prog t = some l) {fuel : Nat} {cs : List Value} {x : DataW H × List MemPlace} (h : DataW.trod enc Tryd.prog W 0 (fun _ => true) true fuel t cs = some x) :
    cs.length = Tryd.prog.cellsOf t ∧ ∀ (i : Nat) (ty : TypeId) (off : Nat), l[i]? = some (ty, off) → ∃ n y, DataW.trod enc Tryd.prog W 0 (fun _ => true) true n ty ((cs.drop off).take (Tryd.prog.cellsOf ty)) = some y := by
  unfold fldS at hF
  cases hu : Tryd.prog.underlying t with
  | none => rw [hu] at hF; simp at hF
  | some td =>
    rw [hu] at hF
    cases td <;> simp only [] at hF <;> try (cases hF)
    rename_i fs
    obtain ⟨xs, n, _, rfl, hl, hlen, hf⟩ := DataW.trod_struct hu h
    refine ⟨hl, fun i ty off hi => ?_⟩
    rw [List.getElem?_map] at hi
    cases hfi : fs.toList[i]? with
    | none => rw [hfi] at hi; cases hi
    | some f =>
      rw [hfi] at hi
      obtain ⟨rfl, rfl⟩ : f.type = ty ∧ f.offset = off := by simpa using hi
      have hi2 : i < fs.toList.length := (List.getElem?_eq_some_iff.1 hfi).1
      have hi3 : i < xs.length := by simp only [Array.length_toList] at hi2; omega
      exact ⟨n, xs[i], (hf i f (by simpa using hfi)).trans (List.getElem?_eq_getElem hi3)⟩
theorem int_part {n : Nat} {cs : List Value} {y : DataW H × List MemPlace} (h : DataW.trod enc Tryd.prog W 0 (fun _ => true) true n 3 cs = some y) : ∃ z : Int, cs = [.int .i64 z] ∧ -9223372036854775808 ≤ z ∧ z ≤ 9223372036854775807 := by
  obtain ⟨z, hc, _, hw⟩ := DataW.trod_int Tryd.under3 h
  refine ⟨z, by simpa [Value.cells] using hc, ?_⟩
  have := bounds_i64 hw
  omega
theorem arr_part {n : Nat} {cs : List Value} {y : DataW H × List MemPlace} (h : DataW.trod enc Tryd.prog W 0 (fun _ => true) true n 23 cs = some y) : ∃ xs : List (BitVec 8), xs.length = 32 ∧ cs = xs.map V := by
  obtain ⟨ys, m, _, _, hl, hn, hel⟩ := DataW.trod_array Tryd.under23 h
  rw [cells23] at hl
  have hcell : ∀ i, i < 32 → ∃ z : Int, cs[i]? = some (.int .u8 z) ∧ 0 ≤ z ∧ z < 256 := fun i hi => by
    have h1 := hel i hi
    rw [cells5, List.getElem?_eq_getElem (by omega)] at h1
    obtain ⟨z, hc, _, hw⟩ := DataW.trod_int Tryd.under5 h1
    refine ⟨z, ?_, ?_⟩
    · have := congrArg (·[0]?) hc
      simpa [List.getElem?_take, List.getElem?_drop, Value.cells] using this
    · have := bounds_u8 hw
      omega
  refine ⟨cs.map fun v => match v with | .int _ z => BitVec.ofInt 8 z | _ => 0, by rw [List.length_map]; exact hl, ?_⟩
  apply List.ext_getElem?
  intro i
  by_cases hi : i < 32
  · obtain ⟨z, hz, h0, h1⟩ := hcell i hi
    rw [hz]
    simp only [List.getElem?_map, hz, Option.map_some, List.map_map, Function.comp]
    simp only [V, bv]
    rw [BitVec.toNat_ofInt]
    congr 2
    omega
  · rw [List.getElem?_eq_none (by omega), List.getElem?_eq_none (by simp; omega)]
theorem cells3 : Tryd.prog.cellsOf 3 = 1 := by kernel_rfl
theorem cells24 : Tryd.prog.cellsOf 24 = 1 := by kernel_rfl
end
end Go.Proofs.YthhnlemldpgbeaaDoor
namespace Go.Proofs.YthhnlemldpgbeaaDoor
set_option maxRecDepth 100000
set_option maxRecDepth 100000
open Go.ChangeShapes Go.WideShapes Go.ChangeAt Go.RowKit
variable {H : Type} {enc : TypeId × Value → H} {W : World}
end Go.Proofs.YthhnlemldpgbeaaDoor
namespace Go.Proofs.YthhnlemldpgbeaaDoor
set_option maxRecDepth 100000
open Go.ChangeShapes Go.WideShapes Go.ChangeAt Go.RowKit
section
variable {H : Type} {enc : TypeId × Value → H} {W : World}
theorem hc_part {n : Nat} {cs : List Value} {y : DataW H × List MemPlace} (h : DataW.trod enc Tryd.prog W 0 (fun _ => true) true n 24 cs = some y) : ∃ A C hs, cs = [.slice A hs.length C] ∧ (Fk.hc hs).f (.slice A hs.length C) W := by
  have key : ∀ A N C, N ≤ C → cs = [.slice A N C] → ∃ A C hs, cs = [.slice A hs.length C] ∧ (Fk.hc hs).f (.slice A hs.length C) W := by
    intro A N C hc e
    obtain ⟨lb, lo, hs, hl, hn, _⟩ := hl_of (A := A) (N := N) (C := C) (d := y.1) (p := y.2) ⟨n, by rw [show (Value.slice A N C).cells.toList = cs from by rw [e]; rfl]; exact h⟩
    subst hn
    exact ⟨A, C, hs, e, A, C, lb, lo, rfl, hc, hl⟩
  rcases Deep.open_slice Tryd.under24 h with ⟨hcs, _⟩ | ⟨a, len, cap, m, n', D, Pl, hcs, _, hl, _⟩
  · exact key _ 0 0 (Nat.le_refl _) hcs
  · exact key _ _ _ hl hcs
theorem cut_next (l : List Value) (i n : Nat) : l.drop i = (l.drop i).take n ++ l.drop (i + n) := by
  conv => lhs; rw [← List.take_append_drop n (l.drop i)]
  rw [List.drop_drop]
theorem cut_last (l : List Value) (i n : Nat) (h : l.length = i + n) : l.drop i = (l.drop i).take n := (List.take_of_length_le (by rw [List.length_drop]; omega)).symm
theorem cells26 : Tryd.prog.cellsOf 26 = 35 := by kernel_rfl
theorem fld26 : fldS Tryd.prog 26 = some [(3, 0), (3, 1), (24, 2), (23, 3)] := by kernel_rfl
theorem open_place {r : Reach} {b0 : Nat} {v : Value} {d : DataW H} {p : List MemPlace} (hv : Value.okWide Tryd.prog W r b0 26 v) (h : DataW.Trod enc Tryd.prog W 0 (fun _ => true) true 26 v d p) :
    ∃ (i n : Int) (P : List (List (BitVec 8))) (rt : List (BitVec 8)) (pA : Option Addr) (pC : Nat), rt.length = 32 ∧ v = .agg (([.int .i64 i, .int .i64 n, .slice pA P.length pC] : List Value) ++ (rt.map V)).toArray ∧ (Fk.hc P).f (.slice pA P.length pC) W := by
  have hF := fld26
  unfold fldS at hF
  unfold Value.okWide at hv
  cases hu : Tryd.prog.underlying 26 with
  | none => rw [hu] at hF; simp at hF
  | some td =>
    rw [hu] at hF hv
    cases td <;> simp only [] at hF <;> try (cases hF)
    obtain ⟨cs, rfl, hsz, _⟩ := hv
    obtain ⟨fuel, hf⟩ := h
    obtain ⟨hl, hp⟩ := parts_of fld26 hf
    have hcs : (Value.agg cs).cells.toList = cs.toList := rfl
    rw [hcs] at hl hp
    rw [cells26] at hl
    obtain ⟨_, _, p0⟩ := hp 0 3 0 rfl
    obtain ⟨_, _, p1⟩ := hp 1 3 1 rfl
    obtain ⟨_, _, p2⟩ := hp 2 24 2 rfl
    obtain ⟨_, _, p3⟩ := hp 3 23 3 rfl
    rw [cells3] at p0 p1
    rw [cells24] at p2
    rw [cells23] at p3
    obtain ⟨i, e0, _⟩ := int_part p0
    obtain ⟨n, e1, _⟩ := int_part p1
    obtain ⟨pA, pC, P, e2, v2⟩ := hc_part p2
    obtain ⟨rt, hrt, e3⟩ := arr_part p3
    refine ⟨i, n, P, rt, pA, pC, hrt, ?_, v2⟩
    have hsp : cs.toList = (cs.toList.drop 0).take 1 ++ ((cs.toList.drop 1).take 1 ++ ((cs.toList.drop 2).take 1 ++ (cs.toList.drop 3).take 32)) := by
      generalize cs.toList = l at hl ⊢
      rw [← cut_last l 3 32 hl, ← cut_next l 2 1, ← cut_next l 1 1, ← cut_next l 0 1]
      rfl
    congr 1
    apply Array.toList_inj.1
    rw [hsp, e0, e1, e2, e3]
    rfl
end
end Go.Proofs.YthhnlemldpgbeaaDoor
