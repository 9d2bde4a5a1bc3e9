/- A row of hashes that is written hash by hash. -/
import Derived.Test.YtfhhlkbcoofemaaDoorUf
namespace Go.Proofs.YtfhhlkbcoofemaaDoor
open Go.RowKit
/-- Block g is a row of hashes that may be written. -/
structure Rw (w : World) (g : Nat) (hs : List (List (BitVec 8))) : Prop where
  hl : Hl w (some ⟨g, 0, none⟩) g 0 hs
  lt : g < w.heap.size
  fz : ∀ j, w.frozen? ⟨g, j, none⟩ = false
theorem Rw.below {w w' : World} {g : Nat} {hs : List (List (BitVec 8))} (h : Rw w g hs) (hb : Below w.heap.size w w') : Rw w' g hs :=
  ⟨h.hl.below hb, Nat.lt_of_lt_of_le h.lt hb.size, fun j => by rw [World.frozen?_of_block (w := w) (hb.block g h.lt)]; exact h.fz j⟩
theorem Rw.there {w : World} {g : Nat} {hs : List (List (BitVec 8))} (h : Rw w g hs) (k : Nat) (hk : k < hs.length) : w.there g (k * 32) 32 := by
  intro j hj
  obtain ⟨h1, h2⟩ := h.hl.all k hs[k] (List.getElem?_eq_getElem hk)
  have := h2 j (by rw [h1]; exact hj)
  rw [Nat.zero_add] at this
  exact ⟨by rw [this]; rfl, h.fz _⟩
theorem size_setCells (b : Nat) : ∀ (vs : List Value) (o : Nat) (w : World), (w.setCells b o vs).heap.size = w.heap.size
  | [], _, _ => rfl
  | v :: r, o, w => by rw [World.setCells, size_setCells b r]; simp [World.setCell]
theorem block_setCells (b : Nat) (i : Nat) (hne : i ≠ b) : ∀ (vs : List Value) (o : Nat) (w : World), (w.setCells b o vs).heap[i]? = w.heap[i]?
  | [], _, _ => rfl
  | v :: r, o, w => by rw [World.setCells, block_setCells b i hne r, heap_setCell_other _ _ _ _ hne]
theorem below_setCells {B g : Nat} {a : World} (hb : B ≤ g) : ∀ (vs : List Value) (o : Nat) (w : World), Below B a w → Below B a (w.setCells g o vs)
  | [], _, _, h => h
  | v :: r, o, w, h => below_setCells hb r (o + 1) _ (h.setCell (by exact hb) v)
theorem HasV.cells_other {w : World} {g b o : Nat} {T : TypeId} {xs : List (BitVec 8)} {vs : List Value} (h : HasV w b T xs) (hne : b ≠ g) : HasV (w.setCells g o vs) b T xs := by
  have := block_setCells g b hne vs o w
  unfold HasV at *
  rw [this]; exact h
theorem Rw.store {w : World} {g : Nat} {hs : List (List (BitVec 8))} (h : Rw w g hs) (k : Nat) (x : List (BitVec 8)) (hk : k < hs.length) (hx : x.length = 32) : Rw (w.setCells g (k * 32) (x.map V)) g (hs.set k x) := by
  have ht := h.there k hk
  refine ⟨⟨fun _ => rfl, fun _ => by rw [size_setCells]; exact h.lt, fun i y hi => ?_⟩, by rw [size_setCells]; exact h.lt, fun j => by rw [World.frozen?_setCells]; exact h.fz j⟩
  by_cases e : i = k
  · subst e
    rw [List.getElem?_set_self hk] at hi
    obtain rfl := Option.some.inj hi
    refine ⟨hx, fun j hj => ?_⟩
    have := World.rangeAt_setCells_same w g (i * 32) (x.map V) (by rw [List.length_map, hx]; exact ht) j (V (x.getD j 0)) (by simp [hj])
    rw [Nat.zero_add]
    exact this
  · rw [List.getElem?_set_ne (fun h => e h.symm)] at hi
    obtain ⟨h1, h2⟩ := h.hl.all i y hi
    refine ⟨h1, fun j hj => ?_⟩
    rw [World.cell?_setCells_out _ _ _ _ _ (fun _ _ => ?_)]
    · exact h2 j hj
    · show 0 + i * 32 + j < k * 32 ∨ k * 32 + (x.map V).length ≤ 0 + i * 32 + j
      rw [List.length_map, hx]
      rw [h1] at hj
      omega
/-- 512 hashes of noughts, in cells. -/
def mk512 : Array Value := madeCells ((hz.map V).toArray) (512 * 32)
theorem mk512_at (j : Nat) (h : j < 512 * 32) : mk512[j]? = some (.int .u8 (bv (hz.getD (j % 32) 0))) := by
  have h2 : j % 32 < hz.length := by rw [hz_len]; omega
  have h3 : mk512.size = 512 * 32 := by unfold mk512; simp [size_madeCells]
  rw [Array.getElem?_eq_getElem (by rw [h3]; exact h)]
  unfold mk512
  simp only [madeCells, Array.getElem_map, Array.getElem_range, List.size_toArray, List.length_map, hz_len]
  have : (hz.map V).toArray[j % 32]? = some (V (hz.getD (j % 32) 0)) := by
    rw [List.getElem?_toArray, List.getElem?_map, List.getElem?_eq_getElem h2, Option.map_some, List.getD_eq_getElem?_getD, List.getElem?_eq_getElem h2]
    rfl
  rw [getElem!_def, this]
  rfl
theorem Tryd.info23 : (Tryd.prog.info? 23).map (fun i => (i.zero, i.size, i.bytes)) = some (some (.agg (hz.map V).toArray), 32, 32) := by kernel_rfl
theorem Tryd.make27 (w : World) : (Instr.makeSlice 27 (.int .i64 512) (.int .i64 512)).run Tryd.prog w = .ok (.slice (some ⟨w.heap.size, 0, none⟩) 512 512) (w.alloc (.cells mk512 23)) := by
  obtain ⟨i0, hi, hz0, hz1, hz2⟩ := info_parts Tryd.info23
  have := run_make (P := Tryd.prog) w 27 23 i0 _ Tryd.under27' hi hz0 .i64 .i64 512 512 (by omega) (by omega) (by rw [hz2]; omega) (by omega)
  rw [hz1] at this
  exact this
/-- 512 hashes of noughts. -/
def z512 : List (List (BitVec 8)) := List.replicate 512 hz
theorem rw_new (w : World) : Rw (w.alloc (.cells mk512 23)) w.heap.size z512 := by
  unfold z512
  refine ⟨⟨fun _ => rfl, fun _ => by simp, fun i x hi => ?_⟩, by simp, fun j => ?_⟩
  · obtain ⟨h1, h2⟩ := List.getElem?_eq_some_iff.1 hi
    simp only [List.length_replicate] at h1
    obtain rfl : hz = x := by rw [← h2, List.getElem_replicate]
    refine ⟨hz_len, fun j hj => ?_⟩
    rw [hz_len] at hj
    rw [World.cell?_alloc_mark, mk512_at _ (by omega), show (0 + i * 32 + j) % 32 = j by omega]
  · have := heap_alloc_new w (.cells mk512 23)
    exact frozen_of_row _ _ j _ 23 this
/-- The first k of 512 are told, the others are noughts. -/
def part512 (F : Nat → List (BitVec 8)) (k : Nat) : List (List (BitVec 8)) := (List.range 512).map fun i => if i < k then F i else hz
theorem part_len (F : Nat → List (BitVec 8)) (k : Nat) : (part512 F k).length = 512 := by simp [part512]
theorem part_zero (F : Nat → List (BitVec 8)) : part512 F 0 = z512 := by
  unfold z512
  apply List.ext_getElem (by rw [part_len, List.length_replicate])
  intro i h1 h2
  rw [List.getElem_replicate]
  simp [part512]
theorem part_set (F : Nat → List (BitVec 8)) (k : Nat) : (part512 F k).set k (F k) = part512 F (k + 1) := by
  apply List.ext_getElem (by simp [part512])
  intro i h1 h2
  rw [List.getElem_set]
  simp only [part512, List.getElem_map, List.getElem_range]
  by_cases e : k = i
  · subst e; simp
  · rw [if_neg e]
    by_cases h : i < k
    · rw [if_pos h, if_pos (by omega)]
    · rw [if_neg h, if_neg (by omega)]
/-- All 512. -/
def all512 (F : Nat → List (BitVec 8)) : List (List (BitVec 8)) := (List.range 512).map F
theorem part_all (F : Nat → List (BitVec 8)) : part512 F 512 = all512 F := by
  apply List.ext_getElem (by simp [part512, all512])
  intro i h1 h2
  simp only [part512, List.length_map, List.length_range] at h1
  simp [part512, all512, h1]
theorem all_len (F : Nat → List (BitVec 8)) : (all512 F).length = 512 := by simp [all512]
theorem all_at (F : Nat → List (BitVec 8)) (i : Nat) (h : i < 512) : (all512 F)[i]? = some (F i) := by simp [all512, h]
end Go.Proofs.YtfhhlkbcoofemaaDoor
