/- What the rows of this seat share: what the listed variable gives a walk, an array of bytes opened, the start that fits. A slice of bytes that came in, opened. A slice of hashes that came in, opened. Signatures and structs with them that came in, opened. Keys with messages that came in, opened. -/
import Derived.Test.YtnanipeapjpkfaaDoorRows
import Derived.Test.YtnanipeapjpkfaaDoorM2
import Derived.ProofKit
import Derived.LaidMore
import Derived.OpenShut
import Derived.ShutString
import Derived.ChangeOld
import Derived.Lib.LaidTab
import Derived.SevenTiedAt
import Derived.Test.YtnanipeapjpkfaaDoorM3
import Derived.Deep.Slices
import Derived.Deep.Strs
import Derived.Test.YtnanipeapjpkfaaDoorM15
namespace Go.Proofs.YtnanipeapjpkfaaDoor
set_option maxRecDepth 100000
open Go.ChangeShapes Go.WideShapes Go.ChangeAt Go.RowKit

theorem own : ownKnob Tryd.prog.godebug = none := by kernel_rfl
theorem laidOut : laidOutB Tryd.prog = true := by kernel_rfl
theorem gK : Tryd.prog.globalNamed "syngraph/sha.roundNumbers" = some 0 := by kernel_rfl
theorem tK : (Tryd.prog.globals[0]?).map (·.type) = some 116 := by kernel_rfl
theorem cells108 : Tryd.prog.cellsOf 108 = 1 := by kernel_rfl
theorem cells116 : Tryd.prog.cellsOf 116 = 64 := by kernel_rfl
theorem cells5 : Tryd.prog.cellsOf 5 = 1 := by kernel_rfl
theorem cells23 : Tryd.prog.cellsOf 23 = 32 := by kernel_rfl
theorem under108 : Tryd.prog.underlying 108 = some (.int .u32) := by kernel_rfl
/-- What the rows list. -/
def laidK : List (String × DataW Unit) := [("syngraph/sha.roundNumbers", Rows.laid_syngraph_sha_roundNumbers)]
theorem laidK_tab : laidK = [("syngraph/sha.roundNumbers", Lib.tabData .u32 (KN.map vl))] := by kernel_rfl
theorem hasK_of {W : World} (h : laidMetH Tryd.prog laidK W) : HasK W 0 ∧ 0 < W.heap.size := by
  rw [MakeChecks.laidMetH_plain _ _ _ (by kernel_rfl), laidK_tab] at h
  have hT := Lib.tabIs_of_head gK tK Tryd.under116 under108 cells108 cells116 h
  have hc : ∀ i, i < 64 → W.cell? ⟨0, i, none⟩ = some (.int .u32 (vl (KN.getD i 0))) := fun i hi => by
    rw [hT.cell gK i (by simpa [KN] using hi)]
    have hi' : i < KN.length := by simpa [KN] using hi
    simp [hi']
  exact ⟨hc, block_lt_of_cell (hc 0 (by omega))⟩
/-- An array of bytes, by value, opened. -/
theorem open_arr8 {H : Type} {enc : TypeId × Value → H} {P : Program} {w : World} {r : Reach} {b0 base : Nat} {spare : Nat → Bool} {held : Bool} {t e : TypeId} {n : Nat} {v : Value} {d : DataW H} {p : List MemPlace}
    (ht : P.underlying t = some (.array n e)) (he : P.underlying e = some (.int .u8)) (hce : P.cellsOf e = 1) (hct : P.cellsOf t = n)
    (hv : Value.okWide P w r b0 t v) (h : DataW.Trod enc P w base spare held t v d p) : ∃ xs : List (BitVec 8), xs.length = n ∧ v = .agg (xs.map V).toArray := by
  unfold Value.okWide at hv
  rw [ht] at hv
  obtain ⟨cs, rfl, hsz, _⟩ := hv
  obtain ⟨fuel, hf⟩ := h
  obtain ⟨ys, m, _, _, hl, hn, hel⟩ := DataW.trod_array ht hf
  have hcell : ∀ i, i < n → ∃ z : Int, cs.toList[i]? = some (.int .u8 z) ∧ 0 ≤ z ∧ z < 256 := fun i hi => by
    have h1 := hel i hi
    rw [hce, List.getElem?_eq_getElem (by omega)] at h1
    obtain ⟨z, hc, _, hw⟩ := DataW.trod_int he h1
    refine ⟨z, ?_, ?_⟩
    · have := congrArg (·[0]?) hc
      simpa [List.getElem?_take, List.getElem?_drop, Value.cells] using this
    · have := bounds_u8 hw
      omega
  refine ⟨cs.toList.map fun v => match v with | .int _ z => BitVec.ofInt 8 z | _ => 0, ?_, ?_⟩
  · rw [List.length_map, Array.length_toList]; omega
  · congr 1
    apply Array.toList_inj.1
    apply List.ext_getElem?
    intro i
    by_cases hi : i < n
    · obtain ⟨z, hz, h0, h1⟩ := hcell i hi
      rw [hz]
      simp only [List.getElem?_map, hz, Option.map_some, List.map_map, Function.comp]
      simp only [V, bv]
      rw [BitVec.toNat_ofInt]
      congr 2
      omega
    · rw [List.getElem?_eq_none (by simp; omega), List.getElem?_eq_none (by simp; omega)]
theorem door_met (os : Os) (args : Array Value) : laidMetH Tryd.prog laidK ((World.doorLaid Tryd.prog 400 os).forCall (fun _ _ => 0) ⟨#[], args, []⟩).memory :=
  laidMetH_of_parts3 (fuel := 8) (laidMet_of_run' 8 (by kernel_rfl) (by kernel_rfl)) (by kernel_rfl) (by kernel_rfl)
end Go.Proofs.YtnanipeapjpkfaaDoor
namespace Go.Proofs.YtnanipeapjpkfaaDoor
set_option maxRecDepth 100000
open Go.ChangeShapes Go.WideShapes Go.ChangeAt Go.RowKit
theorem bv_ofInt (z : Int) (h0 : 0 ≤ z) (h1 : z < 256) : bv (BitVec.ofInt 8 z) = z := by
  unfold bv
  rw [BitVec.toNat_ofInt]
  omega
theorem sl_of {H : Type} {enc : TypeId × Value → H} {W : World} {a : Option Addr} {len cap : Nat} {d : DataW H} {p : List MemPlace}
    (h : DataW.Trod enc Tryd.prog W 0 (fun _ => true) true 36 (.slice a len cap) d p) : ∃ bs b o, Sl W a len cap bs b o ∧ len ≤ maxLen := by
  obtain ⟨fuel, hf⟩ := h
  rcases open_ints Tryd.under36 Tryd.under5 (by kernel_rfl) hf with ⟨hcs, _⟩ | ⟨x, l, c, zs, hcs, _, hl, hm, hz, _, hcell, hwz⟩
  · simp [Value.cells] at hcs
    obtain ⟨rfl, rfl, rfl⟩ := hcs
    exact ⟨[], 0, 0, ⟨rfl, Nat.le_refl _, fun _ => ⟨rfl, rfl⟩, fun h => absurd h (by omega)⟩, by unfold maxLen; omega⟩
  · simp [Value.cells] at hcs
    obtain ⟨rfl, rfl, rfl⟩ := hcs
    have hlen : zs.length = cap := by simpa using hz
    refine ⟨(zs.take len).map (BitVec.ofInt 8), x.block, x.off, ⟨?_, hl, fun h => by (cases h), fun hp => ?_⟩, by unfold maxLen at *; omega⟩
    · rw [List.length_map, List.length_take]; omega
    · have hspot : x.spot = none := by
        have := hcell 0 (by omega)
        simp only [Addr.add, if_true] at this
        unfold World.cell? at this
        split at this
        · split at this
          · cases this
          · rename_i h; simpa using h
        · cases this
      have hx : x = ⟨x.block, x.off, none⟩ := by rw [← hspot]
      have hadd : ∀ i, x.add i = ⟨x.block, x.off + i, none⟩ := fun i => by
        unfold Addr.add
        split
        · rename_i h; subst h; rw [Nat.add_zero]; exact hx
        · rfl
      refine ⟨by rw [← hx], ?_, ?_⟩
      · have := block_lt_of_cell (hcell 0 (by omega))
        simpa [Addr.add] using this
      · intro i hi
        have hil : i < zs.length := by rw [List.length_map, List.length_take] at hi; omega
        have hin : i < len := by rw [List.length_map, List.length_take] at hi; omega
        rw [← hadd, hcell i hil]
        have hb := bounds_u8 (hwz (zs[i]) (List.getElem_mem hil))
        have e1 : zs.getD i 0 = zs[i] := by simp [hil]
        have e2 : ((zs.take len).map (BitVec.ofInt 8)).getD i 0 = BitVec.ofInt 8 zs[i] := by simp [hil, hin]
        rw [e1, e2, bv_ofInt _ (by omega) (by omega)]
end Go.Proofs.YtnanipeapjpkfaaDoor
namespace Go.Proofs.YtnanipeapjpkfaaDoor
set_option maxRecDepth 100000
open Go.ChangeShapes Go.WideShapes Go.ChangeAt Go.RowKit
theorem add_plain {w : World} {x : Addr} {v : Value} (h : w.cell? x = some v) : ∀ i, x.add i = ⟨x.block, x.off + i, none⟩ := by
  have hspot : x.spot = none := by
    unfold World.cell? at h
    split at h
    · split at h
      · cases h
      · rename_i h2; simpa using h2
    · cases h
  intro i
  unfold Addr.add
  split
  · rename_i h2; subst h2; rw [Nat.add_zero, ← hspot]
  · rfl
theorem Tryd.under32 : Tryd.prog.underlying 32 = some (.slice 23) := by kernel_rfl
theorem hl_of {H : Type} {enc : TypeId × Value → H} {W : World} {A : Option Addr} {N C : Nat} {d : DataW H} {p : List MemPlace}
    (h : DataW.Trod enc Tryd.prog W 0 (fun _ => true) true 32 (.slice A N C) d p) : ∃ lb lo hs, Hl W A lb lo hs ∧ N = hs.length ∧ N ≤ maxLen := by
  obtain ⟨fuel, hf⟩ := h
  rcases Deep.open_slice Tryd.under32 hf with ⟨hcs, _⟩ | ⟨a, len, cap, m, n, D, Pl, hcs, _, hl, hm, hmm, _, hel⟩
  · simp [Value.cells] at hcs
    obtain ⟨rfl, rfl, rfl⟩ := hcs
    exact ⟨0, 0, [], ⟨fun h => absurd h (by simp), fun h => absurd h (by simp), fun i x hi => by simp at hi⟩, rfl, by unfold maxLen; omega⟩
  · simp [Value.cells] at hcs
    obtain ⟨rfl, rfl, rfl⟩ := hcs
    have hmc : m = C := by simpa using hmm
    subst hmc
    rw [cells23] at hel
    obtain ⟨F, hF⟩ := Deep.choose_lt (α := List (BitVec 8)) (n := N) (p := fun i x => x.length = 32 ∧ ∀ j, j < 32 → W.cell? (a.add (i * 32 + j)) = some (.int .u8 (bv (x.getD j 0)))) (fun i hi => by
      obtain ⟨cs', h1, h2⟩ := hel i (by omega)
      obtain ⟨_, hlen, hcell⟩ := World.cells?_some h1
      obtain ⟨ys, m', _, _, hl', hn, hel'⟩ := DataW.trod_array Tryd.under23 h2
      have hz : ∀ j, j < 32 → ∃ z : Int, cs'[j]? = some (.int .u8 z) ∧ 0 ≤ z ∧ z < 256 := fun j hj => by
        have h3 := hel' j hj
        rw [cells5, List.getElem?_eq_getElem (by omega)] at h3
        obtain ⟨z, hc, _, hw⟩ := DataW.trod_int Tryd.under5 h3
        refine ⟨z, ?_, ?_⟩
        · have := congrArg (·[0]?) hc
          simpa [List.getElem?_take, List.getElem?_drop, Value.cells] using this
        · have := bounds_u8 hw
          omega
      refine ⟨cs'.map fun v => match v with | .int _ z => BitVec.ofInt 8 z | _ => 0, by rw [List.length_map]; exact hlen, fun j hj => ?_⟩
      obtain ⟨z, hz1, h0, h256⟩ := hz j hj
      rw [← Deep.add_add, hcell j hj, hz1]
      have : bv (BitVec.ofInt 8 z) = z := bv_ofInt z h0 h256
      simp [hz1, this])
    have hbase : 0 < N → ∀ i, a.add i = ⟨a.block, a.off + i, none⟩ := fun hp => by
      have h0 := (hF 0 hp).2 0 (by omega)
      have e0 : a.add (0 * 32 + 0) = a := by simp [Addr.add]
      rw [e0] at h0
      exact add_plain h0
    refine ⟨a.block, a.off, (List.range N).map F, ⟨fun hp => ?_, fun hp => ?_, fun i x hi => ?_⟩, by simp, by unfold maxLen at *; omega⟩
    · rw [List.length_map, List.length_range] at hp
      have := hbase hp 0
      have e0 : a.add 0 = a := by simp [Addr.add]
      rw [e0, Nat.add_zero] at this
      rw [← this]
    · rw [List.length_map, List.length_range] at hp
      have h0 := (hF 0 hp).2 0 (by omega)
      have e0 : a.add (0 * 32 + 0) = a := by simp [Addr.add]
      rw [e0] at h0
      exact block_lt_of_cell h0
    · obtain ⟨h1, h2⟩ := List.getElem?_eq_some_iff.1 hi
      have hiN : i < N := by simpa using h1
      have e : x = F i := by rw [← h2]; simp
      subst e
      refine ⟨(hF i hiN).1, fun j hj => ?_⟩
      have hj' : j < 32 := by rw [(hF i hiN).1] at hj; exact hj
      have := (hF i hiN).2 j hj'
      rw [hbase (by omega), ← Nat.add_assoc] at this
      exact this
end Go.Proofs.YtnanipeapjpkfaaDoor
namespace Go.Proofs.YtnanipeapjpkfaaDoor
set_option maxRecDepth 100000
open Go.ChangeShapes Go.WideShapes Go.ChangeAt Go.RowKit
/-- The types and places of a struct's fields. -/
def fldS (P : Program) (t : TypeId) : Option (List (TypeId × Nat)) := match P.underlying t with | some (.struct fs) => some (fs.toList.map fun f => (f.type, f.offset)) | _ => none
section
variable {H : Type} {enc : TypeId × Value → H} {W : World}
theorem parts_of {t : TypeId} {l : List (TypeId × Nat)} (hF : fldS Tryd.prog t = some l) {fuel : Nat} {cs : List Value} {x : DataW H × List MemPlace} (h : DataW.trod enc Tryd.prog W 0 (fun _ => true) true fuel t cs = some x) :
    cs.length = Tryd.prog.cellsOf t ∧ ∀ (i : Nat) (ty : TypeId) (off : Nat), l[i]? = some (ty, off) → ∃ n y, DataW.trod enc Tryd.prog W 0 (fun _ => true) true n ty ((cs.drop off).take (Tryd.prog.cellsOf ty)) = some y := by
  unfold fldS at hF
  cases hu : Tryd.prog.underlying t with
  | none => rw [hu] at hF; simp at hF
  | some td =>
    rw [hu] at hF
    cases td <;> simp only [] at hF <;> try (cases hF)
    rename_i fs
    obtain ⟨xs, n, _, rfl, hl, hlen, hf⟩ := DataW.trod_struct hu h
    refine ⟨hl, fun i ty off hi => ?_⟩
    rw [List.getElem?_map] at hi
    cases hfi : fs.toList[i]? with
    | none => rw [hfi] at hi; cases hi
    | some f =>
      rw [hfi] at hi
      obtain ⟨rfl, rfl⟩ : f.type = ty ∧ f.offset = off := by simpa using hi
      have hi2 : i < fs.toList.length := (List.getElem?_eq_some_iff.1 hfi).1
      have hi3 : i < xs.length := by simp only [Array.length_toList] at hi2; omega
      exact ⟨n, xs[i], (hf i f (by simpa using hfi)).trans (List.getElem?_eq_getElem hi3)⟩
theorem int_part {n : Nat} {cs : List Value} {y : DataW H × List MemPlace} (h : DataW.trod enc Tryd.prog W 0 (fun _ => true) true n 3 cs = some y) : ∃ z : Int, cs = [.int .i64 z] ∧ -9223372036854775808 ≤ z ∧ z ≤ 9223372036854775807 := by
  obtain ⟨z, hc, _, hw⟩ := DataW.trod_int Tryd.under3 h
  refine ⟨z, by simpa [Value.cells] using hc, ?_⟩
  have := bounds_i64 hw
  omega
theorem hs_part {n : Nat} {cs : List Value} {y : DataW H × List MemPlace} (h : DataW.trod enc Tryd.prog W 0 (fun _ => true) true n 32 cs = some y) : ∃ A C hs, cs = [.slice A hs.length C] ∧ (Fk.hs hs).f (.slice A hs.length C) W := by
  have key : ∀ A N C, cs = [.slice A N C] → ∃ A C hs, cs = [.slice A hs.length C] ∧ (Fk.hs hs).f (.slice A hs.length C) W := by
    intro A N C e
    obtain ⟨lb, lo, hs, hl, hn, _⟩ := hl_of (A := A) (N := N) (C := C) (d := y.1) (p := y.2) ⟨n, by rw [show (Value.slice A N C).cells.toList = cs from by rw [e]; rfl]; exact h⟩
    subst hn
    exact ⟨A, C, hs, e, A, C, lb, lo, rfl, hl⟩
  rcases Deep.open_slice Tryd.under32 h with ⟨hcs, _⟩ | ⟨a, len, cap, m, n', D, Pl, hcs, _⟩
  · exact key _ _ _ hcs
  · exact key _ _ _ hcs
theorem sl_part {n : Nat} {cs : List Value} {y : DataW H × List MemPlace} (h : DataW.trod enc Tryd.prog W 0 (fun _ => true) true n 36 cs = some y) : ∃ v bs, cs = [v] ∧ (Fk.sl bs).f v W := by
  have key : ∀ A N C, cs = [.slice A N C] → ∃ v bs, cs = [v] ∧ (Fk.sl bs).f v W := by
    intro A N C e
    obtain ⟨bs, b, o, hs, _⟩ := sl_of (a := A) (len := N) (cap := C) (d := y.1) (p := y.2) ⟨n, by rw [show (Value.slice A N C).cells.toList = cs from by rw [e]; rfl]; exact h⟩
    exact ⟨_, bs, e, A, N, C, b, o, rfl, hs⟩
  rcases Deep.open_slice Tryd.under36 h with ⟨hcs, _⟩ | ⟨a, len, cap, m, n', D, Pl, hcs, _⟩
  · exact key _ _ _ hcs
  · exact key _ _ _ hcs
theorem arr_part {n : Nat} {cs : List Value} {y : DataW H × List MemPlace} (h : DataW.trod enc Tryd.prog W 0 (fun _ => true) true n 23 cs = some y) : ∃ xs : List (BitVec 8), xs.length = 32 ∧ cs = xs.map V := by
  obtain ⟨ys, m, _, _, hl, hn, hel⟩ := DataW.trod_array Tryd.under23 h
  rw [cells23] at hl
  have hcell : ∀ i, i < 32 → ∃ z : Int, cs[i]? = some (.int .u8 z) ∧ 0 ≤ z ∧ z < 256 := fun i hi => by
    have h1 := hel i hi
    rw [cells5, List.getElem?_eq_getElem (by omega)] at h1
    obtain ⟨z, hc, _, hw⟩ := DataW.trod_int Tryd.under5 h1
    refine ⟨z, ?_, ?_⟩
    · have := congrArg (·[0]?) hc
      simpa [List.getElem?_take, List.getElem?_drop, Value.cells] using this
    · have := bounds_u8 hw
      omega
  refine ⟨cs.map fun v => match v with | .int _ z => BitVec.ofInt 8 z | _ => 0, by rw [List.length_map]; exact hl, ?_⟩
  apply List.ext_getElem?
  intro i
  by_cases hi : i < 32
  · obtain ⟨z, hz, h0, h1⟩ := hcell i hi
    rw [hz]
    simp only [List.getElem?_map, hz, Option.map_some, List.map_map, Function.comp]
    simp only [V, bv]
    rw [BitVec.toNat_ofInt]
    congr 2
    omega
  · rw [List.getElem?_eq_none (by omega), List.getElem?_eq_none (by simp; omega)]
theorem cells3 : Tryd.prog.cellsOf 3 = 1 := by kernel_rfl
theorem cells32 : Tryd.prog.cellsOf 32 = 1 := by kernel_rfl
theorem cells36 : Tryd.prog.cellsOf 36 = 1 := by kernel_rfl
theorem cells38 : Tryd.prog.cellsOf 38 = 4 := by kernel_rfl
theorem fld38 : fldS Tryd.prog 38 = some [(3, 0), (3, 1), (32, 2), (32, 3)] := by kernel_rfl
theorem sig_part {n : Nat} {cs : List Value} {y : DataW H × List MemPlace} (h : DataW.trod enc Tryd.prog W 0 (fun _ => true) true n 38 cs = some y) :
    ∃ (k i : Int) (S P : List (List (BitVec 8))) (sA pA : Option Addr) (sC pC : Nat), cs = [.int .i64 k, .int .i64 i, .slice sA S.length sC, .slice pA P.length pC] ∧ (-9223372036854775808 ≤ k ∧ k ≤ 9223372036854775807) ∧ (-9223372036854775808 ≤ i ∧ i ≤ 9223372036854775807) ∧ (Fk.hs S).f (.slice sA S.length sC) W ∧ (Fk.hs P).f (.slice pA P.length pC) W := by
  obtain ⟨hl, hf⟩ := parts_of fld38 h
  rw [cells38] at hl
  match cs, hl with
  | [c0, c1, c2, c3], _ =>
    obtain ⟨_, _, p0⟩ := hf 0 3 0 rfl
    obtain ⟨_, _, p1⟩ := hf 1 3 1 rfl
    obtain ⟨_, _, p2⟩ := hf 2 32 2 rfl
    obtain ⟨_, _, p3⟩ := hf 3 32 3 rfl
    rw [cells3] at p0 p1
    rw [cells32] at p2 p3
    obtain ⟨k, e0, r0⟩ := int_part p0
    obtain ⟨i, e1, r1⟩ := int_part p1
    obtain ⟨sA, sC, S, e2, v2⟩ := hs_part p2
    obtain ⟨pA, pC, P, e3, v3⟩ := hs_part p3
    simp at e0 e1 e2 e3
    subst e0 e1 e2 e3
    exact ⟨k, i, S, P, sA, pA, sC, pC, rfl, r0, r1, v2, v3⟩
theorem open_sig {r : Reach} {b0 : Nat} {v : Value} {d : DataW H} {p : List MemPlace} (hv : Value.okWide Tryd.prog W r b0 38 v) (h : DataW.Trod enc Tryd.prog W 0 (fun _ => true) true 38 v d p) :
    ∃ (k i : Int) (S P : List (List (BitVec 8))) (sA pA : Option Addr) (sC pC : Nat), v = .agg ([.int .i64 k, .int .i64 i, .slice sA S.length sC, .slice pA P.length pC] : List Value).toArray ∧ (-9223372036854775808 ≤ k ∧ k ≤ 9223372036854775807) ∧ (-9223372036854775808 ≤ i ∧ i ≤ 9223372036854775807) ∧ (Fk.hs S).f (.slice sA S.length sC) W ∧ (Fk.hs P).f (.slice pA P.length pC) W := by
  have hF := fld38
  unfold fldS at hF
  unfold Value.okWide at hv
  cases hu : Tryd.prog.underlying 38 with
  | none => rw [hu] at hF; simp at hF
  | some td =>
    rw [hu] at hF hv
    cases td <;> simp only [] at hF <;> try (cases hF)
    obtain ⟨cs, rfl, hsz, _⟩ := hv
    obtain ⟨fuel, hf⟩ := h
    obtain ⟨k, i, S, P, sA, pA, sC, pC, e, rest⟩ := sig_part hf
    refine ⟨k, i, S, P, sA, pA, sC, pC, ?_, rest⟩
    rw [← e]
    rfl
theorem cells50 : Tryd.prog.cellsOf 50 = 39 := by kernel_rfl
theorem fld50 : fldS Tryd.prog 50 = some [(23, 0), (3, 32), (3, 33), (36, 34), (38, 35)] := by kernel_rfl
theorem open_zig {r : Reach} {b0 : Nat} {v : Value} {d : DataW H} {p : List MemPlace} (hv : Value.okWide Tryd.prog W r b0 50 v) (h : DataW.Trod enc Tryd.prog W 0 (fun _ => true) true 50 v d p) :
    ∃ (pb : List (BitVec 8)) (kind height : Int) (mv : Value) (msg : List (BitVec 8)) (k i : Int) (S P : List (List (BitVec 8))) (sA pA : Option Addr) (sC pC : Nat), pb.length = 32 ∧ v = .agg (pb.map V ++ ([.int .i64 kind, .int .i64 height, mv, .int .i64 k, .int .i64 i, .slice sA S.length sC, .slice pA P.length pC] : List Value)).toArray ∧ (Fk.sl msg).f mv W ∧ (Fk.hs S).f (.slice sA S.length sC) W ∧ (Fk.hs P).f (.slice pA P.length pC) W := by
  have hF := fld50
  unfold fldS at hF
  unfold Value.okWide at hv
  cases hu : Tryd.prog.underlying 50 with
  | none => rw [hu] at hF; simp at hF
  | some td =>
    rw [hu] at hF hv
    cases td <;> simp only [] at hF <;> try (cases hF)
    obtain ⟨cs, rfl, hsz, _⟩ := hv
    obtain ⟨fuel, hf⟩ := h
    obtain ⟨hl, hp⟩ := parts_of fld50 hf
    have hcs : (Value.agg cs).cells.toList = cs.toList := rfl
    rw [hcs] at hl hp
    rw [cells50] at hl
    obtain ⟨_, _, p0⟩ := hp 0 23 0 rfl
    obtain ⟨_, _, p1⟩ := hp 1 3 32 rfl
    obtain ⟨_, _, p2⟩ := hp 2 3 33 rfl
    obtain ⟨_, _, p3⟩ := hp 3 36 34 rfl
    obtain ⟨_, _, p4⟩ := hp 4 38 35 rfl
    rw [cells23] at p0
    rw [cells3] at p1 p2
    rw [cells36] at p3
    rw [cells38] at p4
    obtain ⟨pb, hpb, e0⟩ := arr_part p0
    obtain ⟨kind, e1, _⟩ := int_part p1
    obtain ⟨height, e2, _⟩ := int_part p2
    obtain ⟨mv, msg, e3, v3⟩ := sl_part p3
    obtain ⟨k, i, S, P, sA, pA, sC, pC, e4, _, _, v4, v5⟩ := sig_part p4
    refine ⟨pb, kind, height, mv, msg, k, i, S, P, sA, pA, sC, pC, hpb, ?_, v3, v4, v5⟩
    have hsp : cs.toList = (cs.toList.drop 0).take 32 ++ ((cs.toList.drop 32).take 1 ++ ((cs.toList.drop 33).take 1 ++ ((cs.toList.drop 34).take 1 ++ (cs.toList.drop 35).take 4))) := by
      generalize cs.toList = l at hl ⊢
      apply List.ext_getElem?
      intro j
      simp only [List.getElem?_append, List.length_take, List.length_drop, hl, List.getElem?_take, List.getElem?_drop]
      by_cases h1 : j < 32
      · simp [h1]
      · by_cases h2 : j = 32
        · subst h2; simp
        · by_cases h3 : j = 33
          · subst h3; simp
          · by_cases h4 : j = 34
            · subst h4; simp
            · by_cases h5 : j < 39
              · have e : 35 + (j - 32 - 1 - 1 - 1) = j := by omega
                simp [show ¬ j < 32 by omega, show ¬ (j - 32 < 1) by omega, show ¬ (j - 32 - 1 < 1) by omega, show ¬ (j - 32 - 1 - 1 < 1) by omega, show j - 32 - 1 - 1 - 1 < 4 by omega, e]
              · rw [List.getElem?_eq_none (by omega)]
                simp [show ¬ j < 32 by omega, show ¬ (j - 32 < 1) by omega, show ¬ (j - 32 - 1 < 1) by omega, show ¬ (j - 32 - 1 - 1 < 1) by omega, show ¬ (j - 32 - 1 - 1 - 1 < 4) by omega]
    congr 1
    apply Array.toList_inj.1
    rw [hsp, e0, e1, e2, e3, e4]
    rfl
end
end Go.Proofs.YtnanipeapjpkfaaDoor
namespace Go.Proofs.YtnanipeapjpkfaaDoor
set_option maxRecDepth 100000
open Go.ChangeShapes Go.WideShapes Go.ChangeAt Go.RowKit
/-- What holds of each number below n holds of the members of a list. -/
theorem list_of {P : Nat → Pt → Prop} (n : Nat) (h : ∀ k, k < n → ∃ p, P k p) : ∃ ps : List Pt, ps.length = n ∧ ∀ k p, ps[k]? = some p → P k p := by
  induction n with
  | zero => exact ⟨[], rfl, fun k p hk => by simp at hk⟩
  | succ n ih =>
    obtain ⟨ps, hl, hp⟩ := ih (fun k hk => h k (by omega))
    obtain ⟨q, hq⟩ := h n (by omega)
    refine ⟨ps ++ [q], by simp [hl], fun k p hk => ?_⟩
    rw [List.getElem?_append] at hk
    split at hk
    · exact hp k p hk
    · rename_i hge
      have hkn : k - ps.length = 0 := by
        by_cases h0 : k - ps.length = 0
        · exact h0
        · rw [List.getElem?_eq_none (by simp; omega)] at hk
          cases hk
      rw [hkn] at hk
      obtain rfl : q = p := by simpa using hk
      obtain rfl : k = n := by omega
      exact hq
section
variable {H : Type} {enc : TypeId × Value → H} {W : World}
theorem mg_part {n : Nat} {cs : List Value} {y : DataW H × List MemPlace} (h : DataW.trod enc Tryd.prog W 0 (fun _ => true) true n 24 cs = some y) : ∃ A C ps, cs = [.slice A ps.length C] ∧ (Fk.mg ps).f (.slice A ps.length C) W := by
  rcases Deep.open_slice1 Tryd.under24 cells36 h with ⟨hcs, _⟩ | ⟨a, len, cap, m, n', V', D, Pl, hcs, _, hl, hm, hmm, _, hel⟩
  · exact ⟨none, 0, [], hcs, none, 0, 0, 0, rfl, fun h => by simp at h, fun i p hi => by simp at hi, fun i p hi => by simp at hi⟩
  · have hmc : m = cap := by simpa using hmm
    subst hmc
    have hE : ∀ k, k < len → ∃ p : Pt, W.cell? ⟨a.block, a.off + k, none⟩ = some (.slice p.sp p.m p.c) ∧ p.ok W := by
      intro k hk
      have h0 := (hel 0 (by omega)).1
      have e0 : a.add 0 = a := by simp [Addr.add]
      rw [e0] at h0
      obtain ⟨hc, ht⟩ := hel k (by omega)
      rw [add_plain h0 k] at hc
      obtain ⟨sp, l, c, hv⟩ : ∃ sp l c, V' k = .slice sp l c := by
        rcases Deep.open_slice Tryd.under36 ht with ⟨hcs, _⟩ | ⟨a', len', cap', _, _, _, _, hcs, _⟩
        · exact ⟨_, _, _, by simpa using hcs⟩
        · exact ⟨_, _, _, by simpa using hcs⟩
      rw [hv] at hc ht
      obtain ⟨bs, b, o, hsl, hml⟩ := sl_of (enc := enc) (W := W) (a := sp) (len := l) (cap := c) (d := D k) (p := Pl k) ⟨n', by simpa [Value.cells] using ht⟩
      exact ⟨⟨sp, l, c, bs, b, o⟩, hc, hsl⟩
    obtain ⟨ps, hps, hp⟩ := list_of len hE
    subst hps
    refine ⟨some a, _, ps, hcs, some a, _, a.block, a.off, rfl, fun hp0 => ?_, fun i p hi => (hp i p hi).1, fun i p hi => (hp i p hi).2⟩
    have h0 := (hel 0 (by omega)).1
    have e0 : a.add 0 = a := by simp [Addr.add]
    rw [e0] at h0
    have := add_plain h0 0
    rw [e0, Nat.add_zero] at this
    rw [← this]
theorem cells24 : Tryd.prog.cellsOf 24 = 1 := by kernel_rfl
theorem cells26 : Tryd.prog.cellsOf 26 = 36 := by kernel_rfl
theorem fld26 : fldS Tryd.prog 26 = some [(23, 0), (3, 32), (3, 33), (3, 34), (24, 35)] := by kernel_rfl
theorem open_case {r : Reach} {b0 : Nat} {v : Value} {d : DataW H} {p : List MemPlace} (hv : Value.okWide Tryd.prog W r b0 26 v) (h : DataW.Trod enc Tryd.prog W 0 (fun _ => true) true 26 v d p) :
    ∃ (seed : List (BitVec 8)) (kind height next : Int) (ps : List Pt) (mA : Option Addr) (mC : Nat), seed.length = 32 ∧ v = .agg (seed.map V ++ ([.int .i64 kind, .int .i64 height, .int .i64 next, .slice mA ps.length mC] : List Value)).toArray ∧ (Fk.mg ps).f (.slice mA ps.length mC) W := by
  have hF := fld26
  unfold fldS at hF
  unfold Value.okWide at hv
  cases hu : Tryd.prog.underlying 26 with
  | none => rw [hu] at hF; simp at hF
  | some td =>
    rw [hu] at hF hv
    cases td <;> simp only [] at hF <;> try (cases hF)
    obtain ⟨cs, rfl, hsz, _⟩ := hv
    obtain ⟨fuel, hf⟩ := h
    obtain ⟨hl, hp⟩ := parts_of fld26 hf
    have hcs : (Value.agg cs).cells.toList = cs.toList := rfl
    rw [hcs] at hl hp
    rw [cells26] at hl
    obtain ⟨_, _, p0⟩ := hp 0 23 0 rfl
    obtain ⟨_, _, p1⟩ := hp 1 3 32 rfl
    obtain ⟨_, _, p2⟩ := hp 2 3 33 rfl
    obtain ⟨_, _, p3⟩ := hp 3 3 34 rfl
    obtain ⟨_, _, p4⟩ := hp 4 24 35 rfl
    rw [cells23] at p0
    rw [cells3] at p1 p2 p3
    rw [cells24] at p4
    obtain ⟨seed, hpb, e0⟩ := arr_part p0
    obtain ⟨kind, e1, _⟩ := int_part p1
    obtain ⟨height, e2, _⟩ := int_part p2
    obtain ⟨next, e3, _⟩ := int_part p3
    obtain ⟨mA, mC, ps, e4, v4⟩ := mg_part p4
    refine ⟨seed, kind, height, next, ps, mA, mC, hpb, ?_, v4⟩
    have hsp : cs.toList = (cs.toList.drop 0).take 32 ++ ((cs.toList.drop 32).take 1 ++ ((cs.toList.drop 33).take 1 ++ ((cs.toList.drop 34).take 1 ++ (cs.toList.drop 35).take 1))) := by
      generalize cs.toList = l at hl ⊢
      apply List.ext_getElem?
      intro j
      simp only [List.getElem?_append, List.length_take, List.length_drop, hl, List.getElem?_take, List.getElem?_drop]
      by_cases h1 : j < 32
      · simp [h1]
      · by_cases h2 : j = 32
        · subst h2; simp
        · by_cases h3 : j = 33
          · subst h3; simp
          · by_cases h4 : j = 34
            · subst h4; simp
            · by_cases h5 : j = 35
              · subst h5; simp
              · rw [List.getElem?_eq_none (by omega)]
                simp [show ¬ j < 32 by omega, show ¬ (j - 32 < 1) by omega, show ¬ (j - 32 - 1 < 1) by omega, show ¬ (j - 32 - 1 - 1 < 1) by omega, show ¬ (j - 32 - 1 - 1 - 1 < 1) by omega]
    congr 1
    apply Array.toList_inj.1
    rw [hsp, e0, e1, e2, e3, e4]
    rfl
end
end Go.Proofs.YtnanipeapjpkfaaDoor
