/- Lists of hashes in memory, and what Public hands back. -/
import Derived.Test.YtfhhlkbcoofemaaDoorPy
import Derived.Laws.OwnMore
import Derived.Deep.MidRow
namespace Go.Proofs.YtfhhlkbcoofemaaDoor
open Go.RowKit
/-- A slice value that has the hashes hs, one behind the other. -/
structure Hl (w : World) (A : Option Addr) (lb lo : Nat) (hs : List (List (BitVec 8))) : Prop where
  ptr : 0 < hs.length → A = some ⟨lb, lo, none⟩
  lt : 0 < hs.length → lb < w.heap.size
  all : ∀ (i : Nat) (h : List (BitVec 8)), hs[i]? = some h → h.length = 32 ∧ HasB w lb (lo + i * 32) h
theorem Hl.below {w w' : World} {A : Option Addr} {lb lo : Nat} {hs : List (List (BitVec 8))} (h : Hl w A lb lo hs) (hb : Below w.heap.size w w') : Hl w' A lb lo hs :=
  ⟨h.ptr, fun hp => Nat.lt_of_lt_of_le (h.lt hp) hb.size, fun i x hi => ⟨(h.all i x hi).1, (h.all i x hi).2.below hb (h.lt (by have := (List.getElem?_eq_some_iff.1 hi).1; omega))⟩⟩
/-- The slice of hash number i. -/
def hp (lb lo : Nat) (hs : List (List (BitVec 8))) (i : Nat) : Pt := ⟨some ⟨lb, lo + i * 32, none⟩, 32, 32, hs.getD i [], lb, lo + i * 32⟩
def hps (lb lo : Nat) (hs : List (List (BitVec 8))) (k : Nat) : List Pt := (List.range k).map (hp lb lo hs)
theorem hps_len (lb lo : Nat) (hs : List (List (BitVec 8))) (k : Nat) : (hps lb lo hs k).length = k := by simp [hps]
theorem hps_succ (lb lo : Nat) (hs : List (List (BitVec 8))) (k : Nat) : hps lb lo hs (k + 1) = hps lb lo hs k ++ [hp lb lo hs k] := by simp [hps, List.range_succ]
theorem hps_get (lb lo : Nat) (hs : List (List (BitVec 8))) (k i : Nat) (p : Pt) (h : (hps lb lo hs k)[i]? = some p) : i < k ∧ p = hp lb lo hs i := by
  obtain ⟨h1, h2⟩ := List.getElem?_eq_some_iff.1 h
  rw [hps_len] at h1
  refine ⟨h1, ?_⟩
  rw [← h2]
  simp [hps]
theorem hp_ok {w : World} {A : Option Addr} {lb lo : Nat} {hs : List (List (BitVec 8))} (h : Hl w A lb lo hs) (i : Nat) (hi : i < hs.length) : (hp lb lo hs i).ok w := by
  have hg : hs[i]? = some (hs.getD i []) := by simp [hi]
  obtain ⟨h1, h2⟩ := h.all i _ hg
  exact ⟨h1.symm, Nat.le_refl _, fun h => by (cases h), fun _ => ⟨rfl, h.lt (by omega), h2⟩⟩
theorem hps_ok {w : World} {A : Option Addr} {lb lo : Nat} {hs : List (List (BitVec 8))} (h : Hl w A lb lo hs) (k : Nat) (hk : k ≤ hs.length) : Oks w (hps lb lo hs k) := fun i p hi => by
  obtain ⟨h1, rfl⟩ := hps_get lb lo hs k i p hi
  exact hp_ok h i (by omega)
theorem hps_cat (lb lo : Nat) (hs : List (List (BitVec 8))) (k : Nat) (hk : k ≤ hs.length) : cat (hps lb lo hs k) = (hs.take k).flatten := by
  induction k with
  | zero => rfl
  | succ k ih =>
    have : k < hs.length := by omega
    have e : (hs.take (k + 1)).flatten = (hs.take k).flatten ++ hs[k] := by
      rw [List.take_add_one, List.getElem?_eq_getElem this]
      simp only [Option.toList_some, List.flatten_append, List.flatten_cons, List.flatten_nil, List.append_nil]
    rw [hps_succ, cat_append, ih (by omega), e]
    simp [cat, hp, this]
theorem flat_len {w : World} {A : Option Addr} {lb lo : Nat} {hs : List (List (BitVec 8))} (h : Hl w A lb lo hs) : hs.flatten.length = 32 * hs.length := by
  have : ∀ (l : List (List (BitVec 8))), (∀ (i : Nat) (x : List (BitVec 8)), l[i]? = some x → x.length = 32) → l.flatten.length = 32 * l.length := by
    intro l
    induction l with
    | nil => intro _; rfl
    | cons a l ih =>
      intro hl
      have h0 := hl 0 a rfl
      have h1 := ih (fun i x hi => hl (i + 1) x (by simpa using hi))
      simp only [List.flatten_cons, List.length_append, List.length_cons]
      omega
  exact this hs (fun i x hi => (h.all i x hi).1)
/-- Block g is a row of slices. -/
def HasP (w : World) (g : Nat) (xs : List Value) : Prop := w.heap[g]? = some (.cells xs.toArray 47 (0, 0))
theorem HasP.cell {w : World} {g : Nat} {xs : List Value} (h : HasP w g xs) (i : Nat) : w.cell? ⟨g, i, none⟩ = xs[i]? := by
  unfold HasP at h
  rw [cell_of_row w g i _ 47 _ h]; simp
theorem HasP.frozen {w : World} {g : Nat} {xs : List Value} (h : HasP w g xs) (i : Nat) : w.frozen? ⟨g, i, none⟩ = false := frozen_of_row w g i _ 47 h
theorem HasP.set {w : World} {g : Nat} {xs : List Value} (h : HasP w g xs) (i : Nat) (v : Value) : HasP (w.setCell ⟨g, i, none⟩ v) g (xs.set i v) := by
  unfold HasP at *
  simp [World.setCell, Array.getElem?_modify, h]
theorem HasP.lt {w : World} {g : Nat} {xs : List Value} (h : HasP w g xs) : g < w.heap.size := (Array.getElem?_eq_some_iff.1 h).1
theorem HasP.below {w w' : World} {B g : Nat} {xs : List Value} (h : HasP w g xs) (hb : Below B w w') (hB : g < B) : HasP w' g xs := by
  unfold HasP at *
  rw [hb.block g hB]; exact h
/-- The first k are set. -/
def prow (lb lo : Nat) (hs : List (List (BitVec 8))) (n k : Nat) : List Value := (hps lb lo hs k).map Pt.val ++ List.replicate (n - k) (.slice none 0 0)
theorem prow_set (lb lo : Nat) (hs : List (List (BitVec 8))) (n k : Nat) (h : k < n) : (prow lb lo hs n k).set k (hp lb lo hs k).val = prow lb lo hs n (k + 1) := by
  unfold prow
  rw [List.set_append_right _ _ (by simp [hps_len]), List.length_map, hps_len, Nat.sub_self, show n - k = (n - (k + 1)) + 1 by omega, List.replicate_succ, List.set_cons_zero, hps_succ, List.map_append, List.append_assoc]
  rfl
theorem prow_at (lb lo : Nat) (hs : List (List (BitVec 8))) (n k : Nat) (h : k < n) : (prow lb lo hs n k)[k]? = some (.slice none 0 0) := by
  unfold prow
  rw [List.getElem?_append_right (by simp [hps_len]), List.length_map, hps_len, Nat.sub_self, List.getElem?_replicate, if_pos (by omega)]
theorem prow_ls {w : World} {A : Option Addr} {lb lo : Nat} {hs : List (List (BitVec 8))} {g n : Nat} (h : Hl w A lb lo hs) (hp : HasP w g (prow lb lo hs n n)) (hn : n ≤ hs.length) : Ls w g 0 (hps lb lo hs n) :=
  ⟨fun i p hi => by
    rw [Nat.zero_add, hp.cell]
    unfold prow
    rw [List.getElem?_append_left (by rw [List.length_map]; exact (List.getElem?_eq_some_iff.1 hi).1), List.getElem?_map, hi]
    rfl, hps_ok h n hn⟩
theorem Tryd.info47 : (Tryd.prog.info? 47).map (fun i => (i.zero, i.size, i.bytes)) = some (some (.slice none 0 0), 1, 24) := by kernel_rfl
theorem Tryd.make46 (c : Nat) (hc : c ≤ 1000) (w : World) : (Instr.makeSlice 46 (.int .i64 (c : Int)) (.int .i64 (c : Int))).run Tryd.prog w = .ok (.slice (some ⟨w.heap.size, 0, none⟩) c c) (w.alloc (.cells (prow 0 0 [] c 0).toArray 47)) := by
  obtain ⟨i0, hi, hz0, hz1, hz2⟩ := info_parts Tryd.info47
  have := run_make (P := Tryd.prog) w 46 47 i0 (.slice none 0 0) Tryd.under46 hi hz0 .i64 .i64 (c : Int) (c : Int) (by omega) (by omega) (by rw [hz2]; omega) (by omega)
  rw [hz1, Int.toNat_natCast, Nat.mul_one, show madeCells (Value.slice none 0 0).cells c = (prow 0 0 [] c 0).toArray from by
    apply Array.toList_inj.1
    rw [show (Value.slice none 0 0).cells = #[Value.slice none 0 0] from rfl, toList_madeCells_one]
    simp [prow, hps]] at this
  exact this
theorem prow_start (lb lo : Nat) (hs : List (List (BitVec 8))) (n : Nat) : prow lb lo hs n 0 = prow 0 0 [] n 0 := by simp [prow, hps]
set_option maxHeartbeats 400000 in
theorem public_any (A : Option Addr) (n C lb lo : Nat) (hs : List (List (BitVec 8))) (w : World) (hn : n = hs.length) (hL : Hl w A lb lo hs) (hN : n ≤ 1000) (hK : Tab w) :
    Calls Tryd.prog 10 #[.slice A n C] w fun e w' => e = .returned (.agg ((shaOf (kb 4 :: hs.flatten)).map V).toArray) ∧ Below w.heap.size w w' := by
  have hl : Box (((shaOf (kb 4 :: hs.flatten)).map V).toArray.size = 32) := ⟨by simp [shaOf_len]⟩
  obtain ⟨hh, hS⟩ : ∃ hh, Box (shaOf (kb 4 :: hs.flatten) = hh) := ⟨_, ⟨rfl⟩⟩
  rw [hS.out] at hl ⊢
  have hn' : Box (n = hs.length) := ⟨hn⟩
  have hL' : Box (Hl w A lb lo hs) := ⟨hL⟩
  clear hn hL
  have hmk := Tryd.make46 n hN
  go_enter Tryd.func10, Tryd.ntmps10
  go_upto_region 2 with fail
  clear hmk
  refine code_any (fun w1 => HasV w1 w.heap.size 23 (hsh St.first 0) ∧ HasP w1 (w.heap.size + 1) (prow lb lo hs n 0) ∧ Below w.heap.size w w1) ?_ ?_
  · exact ⟨heap_alloc2_old _ _ _, by rw [prow_start]; exact heap_alloc2_new _ _ _, ((Below.refl _ _).alloc (Nat.le_refl _) _).alloc (by simp) _⟩
  rintro w1 ⟨hv1, hp1, hb1⟩
  go_wp2
  go_loopw [10] (fun i wr => ∃ k : Nat, k ≤ n ∧ i = .int .i64 k ∧ HasV wr w.heap.size 23 (hsh St.first 0) ∧ HasP wr (w.heap.size + 1) (prow lb lo hs n k) ∧ Below w.heap.size w wr) (fun i _ => n - (intOf i).toNat)
  case atStart => exact ⟨0, by omega, rfl, hv1, hp1, hb1⟩
  case round =>
    clear hv1 hp1 hb1
    obtain ⟨k, hk, rfl, hv, hpw, hb⟩ := hrel
    by_cases hlt : k < n
    · obtain rfl : A = some ⟨lb, lo, none⟩ := hL'.out.ptr (by rw [← hn'.out]; omega)
      have hsl := Tryd.slice23
      have c0 := hpw.cell k
      rw [prow_at lb lo hs n k hlt] at c0
      have f0 := hpw.frozen k
      have HR : Box (HasP (wr.setCell ⟨w.heap.size + 1, k, none⟩ (.slice (some ⟨lb, lo + k * 32, none⟩) 32 32)) (w.heap.size + 1) (prow lb lo hs n (k + 1))) := ⟨by
        have := hpw.set k (hp lb lo hs k).val
        rw [prow_set lb lo hs n k hlt] at this
        exact this⟩
      have hv' : Box (HasV wr w.heap.size 23 (hsh St.first 0)) := ⟨hv⟩
      clear hpw hv
      go_wp2
      go_roundw
      case rel => exact ⟨k + 1, by omega, by go_num, hv'.out.other _ _ (by simp), HR.out, hb.setCell (by simp) _⟩
      case measure => simp [intOf]; omega
    · have hkn : Box (k = n) := ⟨by omega⟩
      rw [hkn.out] at hpw
      have hT1 : Tab wr := hK.below hb
      have hLs : Box (Ls wr (w.heap.size + 1) 0 (hps lb lo hs n)) := ⟨prow_ls (hL'.out.below hb) hpw (by rw [hn'.out]; exact Nat.le_refl _)⟩
      have hcat : Box (cat (hps lb lo hs n) = hs.flatten) := ⟨by rw [hps_cat lb lo hs n (by rw [hn'.out]; exact Nat.le_refl _), hn'.out, List.take_of_length_le (Nat.le_refl _)]⟩
      have hfl : Box (hs.flatten.length ≤ 900000) := ⟨by rw [flat_len hL'.out, ← hn'.out]; omega⟩
      clear hpw
      go_wp2_with fail
      refine (tsum_any 4 _ n n (w.heap.size + 1) 0 (hps lb lo hs n) wr (hps_len _ _ _ _).symm (fun _ => rfl) hLs.out (by rw [hcat.out]; exact hfl.out) hN hT1.K hT1.pos).mono ?_
      rintro e w4 ⟨rfl, hb4⟩
      have hv5 : w4.heap[w.heap.size]? = some (.cells ((hsh St.first 0).map V).toArray 23 (0, 0)) := hv.below hb4 hv.lt
      have hb6 : Below w.heap.size w w4 := hb.trans (hb4.mono hb.size)
      clear hv hb hb4 hLs
      rw [hcat.out, hS.out]
      go_wp2_with (refine wpList_store_row rfl 23 (.tmp 2) (.tmp 22) rfl w.heap.size (hh.map V).toArray rfl rfl 23 _ hv5 (by rw [hl.out]; exact Tryd.size23) (by rw [hl.out]; rfl) (V_all _) ?_)
      refine bodyPost_ret (v := .agg (hh.map V).toArray) ?_ rfl ⟨rfl, ?_⟩
      · exact results_cell_row (P := Tryd.prog) (fn := Tryd.f10) (p := 2) (ty := 23) rfl _ _ w.heap.size 23 _ (0, 0) _ rfl (setRow_heap _ _ _ _ 23 (0, 0) hv5) Tryd.under23 rfl (by rw [hl.out]; exact Tryd.size23)
      · exact hb6.trans (below_setRow _ _ _ _ (Nat.le_refl _))
end Go.Proofs.YtfhhlkbcoofemaaDoor
