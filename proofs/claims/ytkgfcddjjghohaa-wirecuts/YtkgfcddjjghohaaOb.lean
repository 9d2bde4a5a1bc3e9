/- A slice of things that came in, opened. -/
import Derived.Test.YtkgfcddjjghohaaOa
import Derived.Test.YtkgfcddjjghohaaXa
import Derived.Deep.Slices
namespace Go.Proofs.Ytkgfcddjjghohaa
open Go.ChangeShapes Go.WideShapes Go.ChangeAt Go.RowKit
theorem Try.under22 : Try.prog.underlying 22 = some (.slice 32) := by kernel_rfl
theorem cells3 : Try.prog.cellsOf 3 = 1 := by kernel_rfl
theorem cells4 : Try.prog.cellsOf 4 = 1 := by kernel_rfl
theorem cells5 : Try.prog.cellsOf 5 = 1 := by kernel_rfl
theorem cells9 : Try.prog.cellsOf 9 = 1 := by kernel_rfl
theorem cells29 : Try.prog.cellsOf 29 = 32 := by kernel_rfl
theorem cells30 : Try.prog.cellsOf 30 = 1 := by kernel_rfl
theorem cells32 : Try.prog.cellsOf 32 = 37 := by kernel_rfl
/-- The byte of a cell. -/
def byteOf : Value → BitVec 8
  | .int _ z => BitVec.ofInt 8 z
  | _ => 0
section
variable {H : Type} {enc : TypeId × Value → H} {W : World}
theorem hash_of {fuel : Nat} {cs : List Value} {x : DataW H × List MemPlace} (h : DataW.trod enc Try.prog W 0 (fun _ => true) true fuel 29 cs = some x) : ∃ hh : List (BitVec 8), hh.length = 32 ∧ cs = hh.map V := by
  obtain ⟨ys, m', _, _, hl', hn, hel'⟩ := DataW.trod_array Try.under29 h
  rw [cells29] at hl'
  refine ⟨cs.map byteOf, by simpa using hl', ?_⟩
  rw [List.map_map]
  apply List.ext_getElem
  · simp
  · intro j h1 h2
    have hj : j < 32 := by omega
    have h3 := hel' j hj
    rw [cells5, List.getElem?_eq_getElem (by omega)] at h3
    obtain ⟨z, hc, _, hw⟩ := DataW.trod_int Try.under5 h3
    have hz := bounds_u8 hw
    have e := congrArg (·[0]?) hc
    have e2 : cs[j] = .int .u8 z := by
      simp [List.getElem?_drop] at e
      obtain ⟨_, e⟩ := List.getElem?_eq_some_iff.1 e
      exact e
    simp only [List.getElem_map, Function.comp]
    rw [e2]
    simp only [byteOf, V]
    rw [bv_ofInt z (by omega) (by omega)]
theorem fl_of {fuel : Nat} {cs : List Value} {x : DataW H × List MemPlace} (h : DataW.trod enc Try.prog W 0 (fun _ => true) true fuel 30 cs = some x) : ∃ A N C lb lo D, cs = [.slice A N C] ∧ Fl W A lb lo N D := by
  rcases Deep.open_slice Try.under30 h with ⟨hcs, _⟩ | ⟨a, len, cap, m, n, D, Pl, hcs, _, hl, hm, hmm, _, hel⟩
  · exact ⟨none, 0, 0, 0, 0, [], hcs, rfl, fun h => absurd h (by omega)⟩
  · have hmc : m = cap := by simpa using hmm
    subst hmc
    rw [cells29] at hel
    obtain ⟨F, hF⟩ := Deep.choose_lt (α := BitVec 8) (n := 32 * len) (p := fun j x => W.cell? (a.add j) = some (V x)) (fun j hj => by
      obtain ⟨cs', h1, h2⟩ := hel (j / 32) (by omega)
      obtain ⟨_, hlen, hcell⟩ := World.cells?_some h1
      obtain ⟨hh, hl2, rfl⟩ := hash_of h2
      have hr : j % 32 < 32 := Nat.mod_lt _ (by omega)
      refine ⟨hh.getD (j % 32) 0, ?_⟩
      have := hcell (j % 32) hr
      rw [Deep.add_add, show j / 32 * 32 + j % 32 = j by omega] at this
      rw [this]
      simp [hl2, hr])
    have hbase : 0 < len → ∀ i, a.add i = ⟨a.block, a.off + i, none⟩ := fun hp => by
      have h0 := hF 0 (by omega)
      have e0 : a.add 0 = a := by simp [Addr.add]
      rw [e0] at h0
      exact add_plain h0
    refine ⟨some a, len, m, a.block, a.off, (List.range (32 * len)).map F, hcs, by simp, fun hp => ⟨?_, ?_, fun i hi => ?_⟩⟩
    · have := hbase hp 0
      have e0 : a.add 0 = a := by simp [Addr.add]
      rw [e0, Nat.add_zero] at this
      rw [← this]
    · have h0 := hF 0 (by omega)
      have e0 : a.add 0 = a := by simp [Addr.add]
      rw [e0] at h0
      exact block_lt_of_cell h0
    · have hi2 : i < 32 * len := by simpa using hi
      rw [← hbase hp, hF i hi2]
      simp [V, hi2]
theorem th_of {fuel : Nat} {cs : List Value} {x : DataW H × List MemPlace} (h : DataW.trod enc Try.prog W 0 (fun _ => true) true fuel 32 cs = some x) : ∃ t : Th, cs = t.cells ∧ t.ok W := by
  obtain ⟨xs, n, _, _, hl, hxl, hf⟩ := DataW.trod_struct Try.underlying32 h
  rw [cells32] at hl
  have hx6 : xs.length = 6 := by rw [hxl]; rfl
  have g0 : DataW.trod enc Try.prog W 0 (fun _ => true) true n 3 ((cs.drop 0).take (Try.prog.cellsOf 3)) = xs[0]? := hf 0 _ rfl
  have g1 : DataW.trod enc Try.prog W 0 (fun _ => true) true n 3 ((cs.drop 1).take (Try.prog.cellsOf 3)) = xs[1]? := hf 1 _ rfl
  have g2 : DataW.trod enc Try.prog W 0 (fun _ => true) true n 9 ((cs.drop 2).take (Try.prog.cellsOf 9)) = xs[2]? := hf 2 _ rfl
  have g3 : DataW.trod enc Try.prog W 0 (fun _ => true) true n 29 ((cs.drop 3).take (Try.prog.cellsOf 29)) = xs[3]? := hf 3 _ rfl
  have g4 : DataW.trod enc Try.prog W 0 (fun _ => true) true n 30 ((cs.drop 35).take (Try.prog.cellsOf 30)) = xs[4]? := hf 4 _ rfl
  have g5 : DataW.trod enc Try.prog W 0 (fun _ => true) true n 4 ((cs.drop 36).take (Try.prog.cellsOf 4)) = xs[5]? := hf 5 _ rfl
  rw [cells3] at g0 g1
  rw [cells9] at g2
  rw [cells29] at g3
  rw [cells30] at g4
  rw [cells4] at g5
  rw [List.getElem?_eq_getElem (by omega)] at g0 g1 g2 g3 g4 g5
  obtain ⟨z0, e0, _, _⟩ := DataW.trod_int Try.under3 g0
  obtain ⟨z1, e1, _, w1⟩ := DataW.trod_int Try.under3 g1
  obtain ⟨s2, e2, _, _⟩ := DataW.trod_string Try.under9 g2
  obtain ⟨hh, hl3, e3⟩ := hash_of g3
  obtain ⟨A, N, C, lb, lo, D, e4, hfl⟩ := fl_of g4
  obtain ⟨b5, e5, _⟩ := DataW.trod_bool Try.underlying4 g5
  have hw := bounds_i64 w1
  refine ⟨⟨z0, z1, s2, hh, A, N, C, lb, lo, D, b5⟩, ?_, hl3, hfl, hw.1, hw.2⟩
  have p0 := List.take_append_drop 1 (cs.drop 0)
  have p1 := List.take_append_drop 1 (cs.drop 1)
  have p2 := List.take_append_drop 1 (cs.drop 2)
  have p3 := List.take_append_drop 32 (cs.drop 3)
  have p4 := List.take_append_drop 1 (cs.drop 35)
  have p5 : (cs.drop 36).take 1 = cs.drop 36 := List.take_of_length_le (by simp [hl])
  simp only [List.drop_drop] at p0 p1 p2 p3 p4
  rw [List.drop_zero] at p0 e0
  rw [← p0, e0, ← p1, e1, ← p2, e2, ← p3, e3, ← p4, e4, ← p5, e5]
  rfl
theorem things_of {a : Option Addr} {len cap : Nat} {d : DataW H} {p : List MemPlace}
    (h : DataW.Trod enc Try.prog W 0 (fun _ => true) true 22 (.slice a len cap) d p) : ∃ ts lb lo, Tl W a lb lo ts ∧ (ts.length = len ∧ len ≤ 9223372036854775807) := by
  obtain ⟨fuel, hf⟩ := h
  rcases Deep.open_slice Try.under22 hf with ⟨hcs, _⟩ | ⟨x, l, c, m, n, D, Pl, hcs, _, hl, hm, hmm, _, hel⟩
  · simp [Value.cells] at hcs
    obtain ⟨rfl, rfl, rfl⟩ := hcs
    exact ⟨[], 0, 0, ⟨fun h => absurd h (by simp), fun i t hi => by simp at hi, fun i t hi => by simp at hi⟩, rfl, by omega⟩
  · simp [Value.cells] at hcs
    obtain ⟨rfl, rfl, rfl⟩ := hcs
    have hmc : m = cap := by simpa using hmm
    subst hmc
    rw [cells32] at hel
    have inh : Inhabited Th := ⟨⟨0, 0, ⟨#[]⟩, [], none, 0, 0, 0, 0, [], false⟩⟩
    obtain ⟨F, hF⟩ := Deep.choose_lt (α := Th) (n := len) (p := fun i t => (∀ j v, t.cells[j]? = some v → W.cell? (x.add (i * 37 + j)) = some v) ∧ t.ok W) (fun i hi => by
      obtain ⟨cs', h1, h2⟩ := hel i (by omega)
      obtain ⟨_, hlen, hcell⟩ := World.cells?_some h1
      obtain ⟨t, rfl, hok⟩ := th_of h2
      refine ⟨t, fun j v hj => ?_, hok⟩
      have hj37 : j < 37 := by have := (List.getElem?_eq_some_iff.1 hj).1; rw [Th.len hok.hl] at this; exact this
      rw [← Deep.add_add, hcell j hj37, hj])
    have hbase : 0 < len → ∀ i, x.add i = ⟨x.block, x.off + i, none⟩ := fun hp => by
      have h0 := (hF 0 hp).1 0 _ rfl
      have e0 : x.add (0 * 37 + 0) = x := by simp [Addr.add]
      rw [e0] at h0
      exact add_plain h0
    refine ⟨(List.range len).map F, x.block, x.off, ⟨fun hp => ?_, fun i t hi => ?_, fun i t hi => ?_⟩, by simp, by unfold maxLen at hm; omega⟩
    · rw [List.length_map, List.length_range] at hp
      have h0 := (hF 0 hp).1 0 _ rfl
      have e0 : x.add (0 * 37 + 0) = x := by simp [Addr.add]
      rw [e0] at h0
      have := hbase hp 0
      have e1 : x.add 0 = x := by simp [Addr.add]
      rw [e1, Nat.add_zero] at this
      exact ⟨by rw [← this], block_lt_of_cell h0⟩
    · obtain ⟨h1, h2⟩ := List.getElem?_eq_some_iff.1 hi
      have hiN : i < len := by simpa using h1
      have e : t = F i := by rw [← h2]; simp
      subst e
      intro j v hj
      have := (hF i hiN).1 j v hj
      rw [hbase (by omega), ← Nat.add_assoc] at this
      exact this
    · obtain ⟨h1, h2⟩ := List.getElem?_eq_some_iff.1 hi
      have hiN : i < len := by simpa using h1
      have e : t = F i := by rw [← h2]; simp
      subst e
      exact (hF i hiN).2
end
end Go.Proofs.Ytkgfcddjjghohaa
