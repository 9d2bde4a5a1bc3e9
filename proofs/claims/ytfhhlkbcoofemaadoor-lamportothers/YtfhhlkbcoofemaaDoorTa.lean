/- Lists of slices of bytes in memory, and what Input hands back: the kind's byte, and the bytes of the parts one behind the other, in new memory. -/
import Derived.Test.YtfhhlkbcoofemaaDoorWp
import Derived.Laws.MakeOwn
namespace Go.Proofs.YtfhhlkbcoofemaaDoor
open Go.RowKit
/-- A slice value, and the bytes that it has. -/
structure Pt where
  sp : Option Addr
  m : Nat
  c : Nat
  bs : List (BitVec 8)
  b : Nat
  o : Nat
def Pt.ok (w : World) (p : Pt) : Prop := Sl w p.sp p.m p.c p.bs p.b p.o
/-- In block lb, from place lo on, lie the slices ps. -/
structure Ls (w : World) (lb lo : Nat) (ps : List Pt) : Prop where
  cell : ∀ (i : Nat) (p : Pt), ps[i]? = some p → w.cell? ⟨lb, lo + i, none⟩ = some (.slice p.sp p.m p.c)
  ok : ∀ (i : Nat) (p : Pt), ps[i]? = some p → p.ok w
/-- The bytes of all. -/
def cat : List Pt → List (BitVec 8)
  | [] => []
  | p :: r => p.bs ++ cat r
theorem cat_append (a b : List Pt) : cat (a ++ b) = cat a ++ cat b := by
  induction a with
  | nil => rfl
  | cons p r ih => simp [cat, ih]
theorem cat_take (ps : List Pt) (k : Nat) (p : Pt) (h : ps[k]? = some p) : cat (ps.take (k + 1)) = cat (ps.take k) ++ p.bs := by
  rw [List.take_add_one, h, cat_append]; simp [cat]
theorem cat_le (ps : List Pt) (k : Nat) : (cat (ps.take k)).length ≤ (cat ps).length := by
  have := congrArg (fun l => (cat l).length) (List.take_append_drop k ps)
  simp only [cat_append, List.length_append] at this
  omega
theorem Pt.ok_below {w w' : World} {p : Pt} (h : p.ok w) (hb : Below w.heap.size w w') : p.ok w' := Sl.below (B := w.heap.size) h hb (fun hm => (Sl.src h hm).2.1)
theorem Ls.lt {w : World} {lb lo : Nat} {ps : List Pt} (h : Ls w lb lo ps) {i : Nat} {p : Pt} (hi : ps[i]? = some p) : lb < w.heap.size := block_lt_of_cell (h.cell i p hi)
theorem Ls.below {w w' : World} {lb lo : Nat} {ps : List Pt} (h : Ls w lb lo ps) (hb : Below w.heap.size w w') : Ls w' lb lo ps :=
  ⟨fun i p hi => by rw [hb.cell (h.lt hi)]; exact h.cell i p hi, fun i p hi => Pt.ok_below (h.ok i p hi) hb⟩
/-- The kind's byte. -/
def kb (k : Int) : BitVec 8 := BitVec.ofInt 8 k
theorem kb_v (k : Int) : k % (256 : Int) = bv (kb k) := by unfold kb bv; rw [BitVec.toNat_ofInt]; omega
/-- So many bytes 0. -/
def zs (c : Nat) : List (BitVec 8) := List.replicate c 0
theorem zs_len (c : Nat) : (zs c).length = c := List.length_replicate
/-- v is a slice of the call's own that has the bytes xs. -/
def Own8 (w : World) (base : Nat) (v : Value) (n : Nat) (xs : List (BitVec 8)) : Prop := w.ownsRow base 5 1 v n (xs.map V)
theorem made_eq (c : Nat) : madeCells (Value.int .u8 0).cells c = ((zs c).map V).toArray := by
  unfold zs
  apply Array.ext
  · simp [size_madeCells]
  · intro i h1 h2
    simp [madeCells, V, bv, Value.cells, Nat.mod_one]
theorem own_of_HasV {w : World} {g base n : Nat} {xs : List (BitVec 8)} (h : HasV w g 5 xs) (hn : n ≤ xs.length) (hm : xs.length ≤ maxLen) (hb : base ≤ g) : w.ownsRow base 5 1 (.slice (some ⟨g, 0, none⟩) n xs.length) n ((xs.take n).map V) :=
  ⟨by simp; omega, .inr ⟨g, xs.length, (xs.map V).toArray, rfl, hb, h, hn, hm, by simp, by simp [List.map_take]⟩⟩
theorem Tryd.make1 (c : Nat) (h1 : 1 ≤ c) (hc : c ≤ 1000000) (w : World) : (Instr.makeSlice 47 (.int .i64 1) (.int .i64 (c : Int))).run Tryd.prog w = .ok (.slice (some ⟨w.heap.size, 0, none⟩) 1 c) (w.alloc (.cells ((zs c).map V).toArray 5)) := by
  obtain ⟨i0, hi, hz0, hz1, hz2⟩ := info_parts Tryd.info5
  have := run_make (P := Tryd.prog) w 47 5 i0 (.int .u8 0) Tryd.under47 hi hz0 .i64 .i64 1 (c : Int) (by omega) (by omega) (by rw [hz2]; omega) (by omega)
  rw [hz1, Int.toNat_natCast, Nat.mul_one, made_eq] at this
  exact this
theorem Tryd.under46 : Tryd.prog.underlying 46 = some (.slice 47) := by kernel_rfl
set_option maxHeartbeats 400000 in
theorem input_own (kind : Int) (A : Option Addr) (C lb lo : Nat) (ps : List Pt) (w : World) (hA : 0 < ps.length → A = some ⟨lb, lo, none⟩) (hL : Ls w lb lo ps) (hT : (cat ps).length ≤ 900000) (hN : ps.length ≤ 1000) :
    Calls Tryd.prog 25 #[.int .i64 kind, .slice A ps.length C] w fun e w' => ∃ v, e = .returned v ∧ w'.ownsRow w.heap.size 5 1 v (1 + (cat ps).length) ((kb kind :: cat ps).map V) ∧ Below w.heap.size w w' := by
  have hL' : Box (Ls w lb lo ps) := ⟨hL⟩
  have hA' : Box (0 < ps.length → A = some ⟨lb, lo, none⟩) := ⟨hA⟩
  obtain ⟨n, hn⟩ : ∃ n, Box (n = ps.length) := ⟨_, ⟨rfl⟩⟩
  rw [← hn.out] at hN ⊢
  clear hL hA
  go_enter Tryd.func25, Tryd.ntmps25
  go_wp2
  go_loopw [5, 13] (fun L i wr => ∃ k : Nat, k ≤ n ∧ i = .int .i64 k ∧ L = .int .i64 ((1 + (cat (ps.take k)).length : Nat) : Int) ∧ w = wr) (fun _ i _ => n - (intOf i).toNat)
  case atStart => exact ⟨0, by omega, rfl, rfl, rfl⟩
  case round =>
    obtain ⟨k, hk, rfl, rfl, rfl⟩ := hrel
    by_cases hlt : k < n
    · obtain ⟨p, hp⟩ : ∃ p, ps[k]? = some p := ⟨_, List.getElem?_eq_getElem (by rw [← hn.out]; exact hlt)⟩
      obtain rfl : A = some ⟨lb, lo, none⟩ := hA'.out (by rw [← hn.out]; omega)
      have hc := hL'.out.cell k p hp
      have hl : Box (1 + (cat (ps.take (k + 1))).length = 1 + (cat (ps.take k)).length + p.m) := ⟨by rw [cat_take ps k p hp, List.length_append, ← Sl.len (hL'.out.ok k p hp)]; omega⟩
      have hle := cat_le ps (k + 1)
      have hsum : 1 + (cat (ps.take k)).length + p.m ≤ 900001 := by rw [← hl.out]; omega
      clear hle
      generalize 1 + (cat (ps.take k)).length = L at hl hsum ⊢
      go_wp2
      go_roundw
      case rel => exact ⟨k + 1, by omega, by go_num, by rw [hl.out]; go_num, by first | rfl | trivial⟩
      case measure => simp [intOf]; omega
    · have hkn : Box (k = n) := ⟨by omega⟩
      have hT1 : Box (1 + (cat (ps.take k)).length = 1 + (cat ps).length) := ⟨by rw [hkn.out, hn.out, List.take_of_length_le (Nat.le_refl _)]⟩
      rw [hT1.out]
      obtain ⟨T, hTT⟩ : ∃ T, Box (T = 1 + (cat ps).length) := ⟨_, ⟨rfl⟩⟩
      rw [← hTT.out]
      have hT2 : T ≤ 900001 := by rw [hTT.out]; omega
      have hT3 : 1 ≤ T := by rw [hTT.out]; omega
      have hmk := Tryd.make1 T hT3 (by omega)
      go_upto_region 8 with fail
      clear hmk
      refine code_any (fun w1 => HasV w1 w.heap.size 5 (zs T) ∧ Below w.heap.size w w1) ?_ ?_
      · exact ⟨heap_alloc_new _ _, (Below.refl _ _).alloc (Nat.le_refl _) _⟩
      rintro w0 ⟨hv0, hb0⟩
      have HR : Box (HasV _ w.heap.size 5 _) := ⟨hv0.set 0 (kb kind)⟩
      have c0 := hv0.cell 0 (by rw [zs_len]; omega)
      have f0 := hv0.frozen 0
      have hk0 := kb_v kind
      clear hv0
      generalize (zs T).getD 0 0 = y0 at c0
      go_upto_region 9 with fail
      refine code_any (fun w1 => Own8 w1 w.heap.size (.slice (some ⟨w.heap.size, 0, none⟩) 1 T) 1 [kb kind] ∧ Below w.heap.size w w1) ?_ ?_
      · refine ⟨?_, hb0.setCell (by simp) _⟩
        have := own_of_HasV (base := w.heap.size) (n := 1) HR.out (by simp [zs_len]; omega) (by simp [zs_len]; unfold maxLen; omega) (Nat.le_refl _)
        rw [List.length_set, zs_len, show ((zs T).set 0 (kb kind)).take 1 = [kb kind] by cases T with | zero => omega | succ t => simp [zs, List.replicate_succ]] at this
        exact this
      rintro w1 ⟨hown, hb⟩
      have hown' : Box (Own8 w1 w.heap.size (.slice (some ⟨w.heap.size, 0, none⟩) 1 T) 1 [kb kind]) := ⟨hown⟩
      clear hown
      go_wp2
      go_loopw [8, 30] (fun v i wr => ∃ k : Nat, k ≤ n ∧ i = .int .i64 k ∧ Box (Own8 wr w.heap.size v (1 + (cat (ps.take k)).length) (kb kind :: cat (ps.take k))) ∧ Below w.heap.size w wr) (fun _ i _ => n - (intOf i).toNat)
      case atStart => exact ⟨0, by omega, rfl, hown', hb⟩
      case round =>
        clear hb hown' hT1 hkn hlt hk
        obtain ⟨k, hk, rfl, hown, hb⟩ := hrel
        by_cases hlt : k < n
        · obtain ⟨p, hp⟩ : ∃ p, ps[k]? = some p := ⟨_, List.getElem?_eq_getElem (by rw [← hn.out]; exact hlt)⟩
          obtain rfl : A = some ⟨lb, lo, none⟩ := hA'.out (by rw [← hn.out]; omega)
          have hc : wr.cell? ⟨lb, lo + k, none⟩ = some (.slice p.sp p.m p.c) := by rw [hb.cell (hL'.out.lt hp)]; exact hL'.out.cell k p hp
          have hok : Box (p.ok wr) := ⟨Pt.ok_below (hL'.out.ok k p hp) hb⟩
          have hl : Box (1 + (cat (ps.take k)).length + p.m = 1 + (cat (ps.take (k + 1))).length) := ⟨by rw [cat_take ps k p hp, List.length_append, ← Sl.len (hL'.out.ok k p hp)]; omega⟩
          have hx : Box (kb kind :: cat (ps.take k) ++ p.bs = kb kind :: cat (ps.take (k + 1))) := ⟨by rw [cat_take ps k p hp]; rfl⟩
          have hle := cat_le ps (k + 1)
          have hsum : 1 + (cat (ps.take k)).length + p.m ≤ 900001 := by rw [hl.out]; omega
          have hz := hb.size
          clear hle
          go_wp2_with (at_builtin; refine append47 rfl (.tmp 34) (.tmp 35) rfl w.heap.size _ _ _ rfl hown.out p.sp p.m p.c p.bs p.b p.o rfl hok.out (by omega) hz ?_; intro v2 w2 own2 gr2)
          have hb2 : Below w.heap.size w w2 := hb.grown gr2 hz (fun k e => (World.ownsRow.lt hown.out k e).1)
          rw [hl.out, hx.out] at own2
          have own2' : Box (Own8 w2 w.heap.size v2 (1 + (cat (ps.take (k + 1))).length) (kb kind :: cat (ps.take (k + 1)))) := ⟨own2⟩
          clear own2 gr2 hown hb hsum
          go_wp2
          go_roundw
          case rel => exact ⟨_, _, _, ⟨k + 1, by omega, by go_num, own2', hb2⟩, rfl, rfl, rfl⟩
          case measure => simp [intOf]; omega
        · have hkn : Box (ps.take k = ps) := ⟨by rw [List.take_of_length_le (by rw [← hn.out]; omega)]⟩
          rw [hkn.out] at hown
          go_wp2
          go_ret
          exact ⟨_, rfl, hown.out, hb⟩
end Go.Proofs.YtfhhlkbcoofemaaDoor
