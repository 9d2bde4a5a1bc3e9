/- Lists of things in memory; and what small hands back. -/
import Derived.Test.YtkgfcddjjghohaaWs
namespace Go.Proofs.Ytkgfcddjjghohaa
open Go.RowKit
theorem Try.size32 : (Try.prog.info? 32).map (·.size) = some 37 := by kernel_rfl
/-- A slice value that has the things ts. -/
structure Tl (w : World) (A : Option Addr) (lb lo : Nat) (ts : List Th) : Prop where
  src : 0 < ts.length → A = some ⟨lb, lo, none⟩ ∧ lb < w.heap.size
  row : ∀ (i : Nat) (t : Th), ts[i]? = some t → w.rangeAt lb (lo + i * 37) t.cells
  ok : ∀ (i : Nat) (t : Th), ts[i]? = some t → t.ok w
theorem range_below {w w' : World} {B b o : Nat} {cs : List Value} (h : w.rangeAt b o cs) (hb : Below B w w') (hB : b < B) : w'.rangeAt b o cs := fun j v hj => by rw [hb.cell (by exact hB)]; exact h j v hj
theorem Th.ok.below {w w' : World} {t : Th} (h : t.ok w) (hb : Below w.heap.size w w') : t.ok w' := ⟨h.hl, h.fl.below hb (fun hn => (h.fl.src hn).2.1), h.n1, h.n2⟩
theorem Tl.below {w w' : World} {A : Option Addr} {lb lo : Nat} {ts : List Th} (h : Tl w A lb lo ts) (hb : Below w.heap.size w w') : Tl w' A lb lo ts :=
  ⟨fun hn => ⟨(h.src hn).1, Nat.lt_of_lt_of_le (h.src hn).2 hb.size⟩, fun i t hi => range_below (h.row i t hi) hb (h.src (by have := (List.getElem?_eq_some_iff.1 hi).1; omega)).2, fun i t hi => (h.ok i t hi).below hb⟩
/-- The cells of a thing that has nothing. -/
def z37 : List Value := [.int .i64 0, .int .i64 0, .string ⟨#[]⟩] ++ (z32.map V ++ [.slice none 0 0, .bool false])
theorem HasT.range {w : World} {b : Nat} {t : Th} (h : HasT w b t) : w.rangeAt b 0 t.cells := fun j v hj => by
  rw [Nat.zero_add, h.at]; exact hj
set_option maxHeartbeats 1000000 in
theorem small_any (A : Option Addr) (lb lo c : Nat) (ts : List Th) (w : World) (hT : Tl w A lb lo ts) (hl : ts.length ≤ 9223372036854775807) :
    Calls Try.prog 8 #[.slice A ts.length c] w fun e w' => ∃ b, e = .returned (.bool b) ∧ (b = true ↔ ts.length ≤ 40 ∧ ∀ t ∈ ts, t.text.size ≤ 300 ∧ t.N ≤ 20) ∧ Below w.heap.size w w' := by
  have hfs := Box.mk Try.underlying32
  have hT' := Box.mk hT
  clear hT
  obtain ⟨n, hn⟩ : ∃ n, Box (ts.length = n) := ⟨_, ⟨rfl⟩⟩
  rw [hn.out] at hl ⊢
  go_enter Try.func8, Try.ntmps8
  go_wp2
  go_loopw [7] (fun i wr => ∃ k : Nat, k ≤ n ∧ i = .int .i64 k ∧ Box (∀ t ∈ ts.take k, t.text.size ≤ 300 ∧ t.N ≤ 20) ∧ Box (Below w.heap.size w wr)) (fun i _ => n - (intOf i).toNat)
  case atStart => exact ⟨0, by omega, rfl, ⟨fun t ht => by simp at ht⟩, ⟨Below.refl _ _⟩⟩
  case round =>
    obtain ⟨k, hk, rfl, hall, hb⟩ := hrel
    by_cases hlt : k < n
    · have hkt : k < ts.length := by rw [hn.out]; exact hlt
      obtain ⟨rfl, hlw⟩ := hT'.out.src (by omega)
      obtain ⟨t, ht⟩ : ∃ t, ts[k]? = some t := ⟨_, List.getElem?_eq_getElem hkt⟩
      have hrg := Box.mk (range_below (hT'.out.row k t ht) hb.out hlw)
      have hok := (hT'.out.ok k t ht).hl
      have hlen := Th.len hok
      have hsz : Box (t.cells.toArray.size = 37) := ⟨by simp [hlen]⟩
      have hz37 : Box (z37.toArray.size = 37) := ⟨by simp [z37, z32]⟩
      have hall2 : Box (t.text.size ≤ 300 → t.N ≤ 20 → ∀ u ∈ ts.take (k + 1), u.text.size ≤ 300 ∧ u.N ≤ 20) := ⟨fun h1 h2 u hu => by
        rw [List.take_add_one, ht] at hu
        simp only [Option.toList_some, List.mem_append, List.mem_singleton] at hu
        rcases hu with hu | rfl
        · exact hall.out u hu
        · exact ⟨h1, h2⟩⟩
      have hz := hb.out.size
      go_upto_region 4 with (first | (refine wpList_load_mid rfl 32 (.tmp 9) rfl lb (lo + k * 37) rfl t.cells _ hrg.out hfs.out rfl (by rw [hlen]; exact Try.size32) ?_) | (refine wpList_store_row rfl 32 (.tmp 4) (.tmp 10) rfl wr.heap.size t.cells.toArray rfl rfl 32 z37.toArray (heap_alloc_new _ _) (by rw [hsz.out]; exact Try.size32) (by rw [hsz.out, hz37.out]) (all_oneCell_toArray t.one) ?_))
      go_frame
      refine code_any (fun w5 => HasT w5 wr.heap.size t ∧ Below wr.heap.size wr w5) ?_ ?_
      · exact ⟨setRow_heap _ _ _ _ 32 (0, 0) (heap_alloc_new _ _), below_setRow2 ((Below.refl _ _).alloc (Nat.le_refl _) _) (Nat.le_refl _) _⟩
      rintro w5 ⟨hv5, hb5⟩
      have c2 := hv5.c2
      have c35 := hv5.c35 hok
      have hb6 : Box (Below w.heap.size w w5) := ⟨hb.out.trans ⟨hb5.os, hb5.tape, hb5.output, hb5.size, fun q hq => hb5.block q (by omega)⟩⟩
      clear hv5 hb5 hrg hb hall
      by_cases q1 : 300 < t.text.size
      · have d1 : decide ((300 : Int) < (t.text.size : Int)) = true := by simp; omega
        go_wp2
        go_ret
        exact ⟨false, rfl, ⟨fun h => (by cases h), fun h => (by have := h.2 t (List.mem_of_getElem? ht); omega)⟩, hb6.out⟩
      · have d1 : decide ((300 : Int) < (t.text.size : Int)) = false := by simp; omega
        by_cases q2 : 20 < t.N
        · have d2 : decide ((20 : Int) < (t.N : Int)) = true := by simp; omega
          go_wp2
          go_ret
          exact ⟨false, rfl, ⟨fun h => (by cases h), fun h => (by have := h.2 t (List.mem_of_getElem? ht); omega)⟩, hb6.out⟩
        · have d2 : decide ((20 : Int) < (t.N : Int)) = false := by simp; omega
          have hall3 := Box.mk (hall2.out (by omega) (by omega))
          clear hall2
          go_wp2
          go_roundw
          case rel => exact ⟨k + 1, by omega, by go_num, hall3, hb6⟩
          case measure => simp [intOf]; omega
    · have hkn : Box (ts.take k = ts) := ⟨List.take_of_length_le (by rw [hn.out]; omega)⟩
      rw [hkn.out] at hall
      go_wp2
      go_ret
      refine ⟨_, rfl, ⟨fun h => ⟨?_, hall.out⟩, fun h => ?_⟩, hb.out⟩
      · have h2 : (n : Int) ≤ 40 := by simpa using h
        omega
      · have h2 := h.1
        simp; omega
end Go.Proofs.Ytkgfcddjjghohaa
