/- An In (package wire) in memory: what take, spoil, Bad and Done do. Numbers as bytes, the highest first. No program is spoken of. What number, Int, length, counted and Count do with an In. What Int, Count, Bool, length and counted do with an In. What length and counted do with an In. append, with the place of the row behind it. No program is spoken of. append of bytes, and what NewIn, Bytes and Text do. What Hash does with an In. What Hashes does with an In. An Out (package wire) in memory: what number does. What Int, Text, Hash, Hashes and Bool do with an Out. The bytes of a signature, plainly; lists of hashes as flat lists; an Out that begins. What is written is read back, and what is read was so written: numbers, hashes, signatures. The calls of an In as walks of other packages meet them. What the reference's Bytes hands back: the kind's byte, and the bytes of the parts, one behind the other. What the reference's Number hands back: a number's last bytes, the highest first; Bytes once more. What the reference's Number, Int, Count hand back. What the reference's Text and Hashes hand back. Rows of arrays, and what law and reference make of hashes. The law's and the reference's bytes of a signature: Join, and slices of arrays of the call's own. The law's same; lists cut in the midst. Open: what is asked of package compact. -/
import Derived.Test.YtnppjlpnfijobaaDoorM2
import Derived.Test.YtnppjlpnfijobaaDoorProg
import Derived.Deep.Cut
import Derived.BigRegion
import Derived.BigQuiet
import Derived.Deep.RegionWith
import Derived.Laws.BytesArg
import Derived.Laws.AppendOwnNone
import Derived.Laws.MakeOwn
import Derived.Laws.Small
import Derived.KernelRfl
import Derived.Maps.RangeWalk
import Derived.OwnWalk
import Derived.Test.YtnppjlpnfijobaaDoorM1
import Derived.Laws.BitsAllLaws
import Derived.Deep.MidRow
import Derived.Deep.RegionLaw
import Derived.Deep.AppendLies
import Derived.Test.YtnppjlpnfijobaaDoorM4
import Derived.Test.YtnppjlpnfijobaaDoorM3
import Derived.Laws.IdiomStrings
namespace Go.Proofs.YtnppjlpnfijobaaDoor
set_option maxRecDepth 100000
open Go.RowKit
/-- v is a slice of bytes that has the bytes bs, in block gb (or nil). -/
def Rv (w : World) (v : Value) (bs : List (BitVec 8)) (gb : Nat) : Prop :=
  (v = .slice none 0 0 ∧ bs = []) ∨ ∃ go c, v = .slice (some ⟨gb, go, none⟩) bs.length c ∧ bs.length ≤ c ∧ gb < w.heap.size ∧ HasB w gb go bs
theorem Rv.keep {w w' : World} {v : Value} {bs : List (BitVec 8)} {gb : Nat} (h : Rv w v bs gb) (hs : w.heap.size ≤ w'.heap.size) (hk : gb < w.heap.size → w'.heap[gb]? = w.heap[gb]?) : Rv w' v bs gb := by
  rcases h with h | ⟨go, c, e, hc, hl, hB⟩
  · exact .inl h
  · exact .inr ⟨go, c, e, hc, Nat.lt_of_lt_of_le hl hs, fun i hi => by rw [World.cell?_of_block (w := w) (hk hl)]; exact hB i hi⟩
theorem Rv.only {w w' : World} {v : Value} {bs : List (BitVec 8)} {gb g : Nat} (h : Rv w v bs gb) (ho : Only g w w') (hg : gb ≠ g) : Rv w' v bs gb := h.keep ho.size fun hl => ho.block gb hl hg
theorem Rv.below {w w' : World} {v : Value} {bs : List (BitVec 8)} {gb : Nat} (h : Rv w v bs gb) (ho : Below w.heap.size w w') : Rv w' v bs gb := h.keep ho.size fun hl => ho.block gb hl
/-- In block ib lies an In that has the bytes bs left. -/
def HasIn (w : World) (ib : Nat) (bs : List (BitVec 8)) (bad : Bool) (gb : Nat) : Prop :=
  ∃ v, w.heap[ib]? = some (.cells #[v, .bool bad] 85 (0, 0)) ∧ Rv w v bs gb ∧ gb ≠ ib
theorem HasIn.lt {w : World} {ib : Nat} {bs : List (BitVec 8)} {bad : Bool} {gb : Nat} (h : HasIn w ib bs bad gb) : ib < w.heap.size := by
  obtain ⟨v, hv, _⟩ := h
  exact (Array.getElem?_eq_some_iff.1 hv).1
theorem HasIn.below {w w' : World} {ib : Nat} {bs : List (BitVec 8)} {bad : Bool} {gb : Nat} (h : HasIn w ib bs bad gb) (ho : Below w.heap.size w w') : HasIn w' ib bs bad gb := by
  have hl := h.lt
  obtain ⟨v, hv, hr, hne⟩ := h
  exact ⟨v, by rw [ho.block ib hl]; exact hv, hr.below ho, hne⟩
theorem HasIn.only {w w' : World} {ib g : Nat} {bs : List (BitVec 8)} {bad : Bool} {gb : Nat} (h : HasIn w ib bs bad gb) (ho : Only g w w') (h1 : ib ≠ g) (h2 : gb ≠ g) : HasIn w' ib bs bad gb := by
  have hl := h.lt
  obtain ⟨v, hv, hr, hne⟩ := h
  exact ⟨v, by rw [ho.block ib hl h1]; exact hv, hr.only ho h2, hne⟩
theorem cell2 {w : World} {b : Nat} {x y : Value} {T : TypeId} (h : w.heap[b]? = some (.cells #[x, y] T (0, 0))) : w.cell? ⟨b, 0, none⟩ = some x ∧ w.cell? ⟨b, 1, none⟩ = some y ∧ w.frozen? ⟨b, 0, none⟩ = false ∧ w.frozen? ⟨b, 1, none⟩ = false := by
  refine ⟨?_, ?_, ?_, ?_⟩ <;> simp [World.cell?, World.frozen?, h]
theorem set2 {w : World} {b : Nat} {x y : Value} {T : TypeId} (h : w.heap[b]? = some (.cells #[x, y] T (0, 0))) (u : Value) : (w.setCell ⟨b, 0, none⟩ u).heap[b]? = some (.cells #[u, y] T (0, 0)) ∧ (w.setCell ⟨b, 1, none⟩ u).heap[b]? = some (.cells #[x, u] T (0, 0)) := by
  constructor <;> simp [World.setCell, Array.getElem?_modify, h]
set_option maxHeartbeats 400000 in
theorem spoil_any (ib gb : Nat) (bs : List (BitVec 8)) (bad : Bool) (w : World) (h : HasIn w ib bs bad gb) :
    Calls Tryd.prog 52 #[.pointer (some ⟨ib, 0, none⟩)] w fun e w' => e = .returned (.tuple #[]) ∧ HasIn w' ib [] true gb ∧ Only ib w w' := by
  obtain ⟨v, hv, hr, hne⟩ := h
  obtain ⟨c0, c1, f0, f1⟩ := cell2 hv
  have s1 := (set2 hv (.bool true)).2
  obtain ⟨d0, d1, g0, g1⟩ := cell2 s1
  have s2 := (set2 s1 (.slice none 0 0)).1
  have hb : Box (HasIn ((w.setCell ⟨ib, 1, none⟩ (.bool true)).setCell ⟨ib, 0, none⟩ (.slice none 0 0)) ib [] true gb) := ⟨⟨_, s2, .inl ⟨rfl, rfl⟩, hne⟩⟩
  clear hv s1 s2 hr
  go_enter Tryd.func52, Tryd.ntmps52
  go_wp2
  first | go_end0 | refine bodyPost_ret (results_none rfl _ _ _) rfl ?_
  exact ⟨rfl, hb.out, ((Only.refl _ _).setCell _ _).setCell _ _⟩
def takeB (bs : List (BitVec 8)) (n : Nat) : List (BitVec 8) := if n ≤ bs.length then bs.take n else []
def dropB (bs : List (BitVec 8)) (n : Nat) : List (BitVec 8) := if n ≤ bs.length then bs.drop n else []
def badB (bs : List (BitVec 8)) (bad : Bool) (n : Nat) : Bool := if n ≤ bs.length then bad else true
theorem Rv.shape {w : World} {v : Value} {bs : List (BitVec 8)} {gb : Nat} (h : Rv w v bs gb) : ∃ a c, v = .slice a bs.length c ∧ bs.length ≤ c := by
  rcases h with ⟨rfl, rfl⟩ | ⟨go, c, rfl, hc, _⟩
  · exact ⟨none, 0, rfl, Nat.le_refl _⟩
  · exact ⟨_, c, rfl, hc⟩
theorem done_any (ib gb : Nat) (bs : List (BitVec 8)) (bad : Bool) (w : World) (h : HasIn w ib bs bad gb) :
    Calls Tryd.prog 38 #[.pointer (some ⟨ib, 0, none⟩)] w fun e w' => e = .returned (.bool (!bad && decide (bs = []))) ∧ w' = w := by
  obtain ⟨v, hv, hr, hne⟩ := h
  obtain ⟨a, c, rfl, _⟩ := hr.shape
  obtain ⟨c0, c1, f0, f1⟩ := cell2 hv
  clear hv hr
  have e : Box (((bs.length : Int) == 0) = decide (bs = [])) := ⟨by cases bs <;> simp; omega⟩
  cases bad
  · go_enter Tryd.func38, Tryd.ntmps38
    go_wp2
    go_ret
    refine ⟨?_, rfl⟩
    simp [e.out]
  · go_enter Tryd.func38, Tryd.ntmps38
    go_wp2
    go_ret
    exact ⟨rfl, rfl⟩
theorem take_no (bs : List (BitVec 8)) (bad : Bool) (n : Nat) (h : ¬ n ≤ bs.length) : takeB bs n = [] ∧ dropB bs n = [] ∧ badB bs bad n = true := by
  unfold takeB dropB badB
  rw [if_neg h, if_neg h, if_neg h]
  exact ⟨rfl, rfl, rfl⟩
theorem take_yes (bs : List (BitVec 8)) (bad : Bool) (n : Nat) (h : n ≤ bs.length) : takeB bs n = bs.take n ∧ dropB bs n = bs.drop n ∧ badB bs bad n = bad := by
  unfold takeB dropB badB
  rw [if_pos h, if_pos h, if_pos h]
  exact ⟨rfl, rfl, rfl⟩
set_option maxHeartbeats 400000 in
theorem take_any (ib gb n : Nat) (bs : List (BitVec 8)) (bad : Bool) (w : World) (h : HasIn w ib bs bad gb) (hn : n ≤ 4611686018427387904) (hbs : bs.length ≤ 4611686018427387904) :
    Calls Tryd.prog 67 #[.pointer (some ⟨ib, 0, none⟩), .int .i64 (n : Int)] w fun e w' => ∃ v, e = .returned v ∧ Rv w' v (takeB bs n) gb ∧ HasIn w' ib (dropB bs n) (badB bs bad n) gb ∧ Only ib w w' := by
  by_cases hle : n ≤ bs.length
  · obtain ⟨e1, e2, e3⟩ := take_yes bs bad n hle
    rw [e1, e2, e3]
    clear e1 e2 e3
    obtain ⟨v, hv, hr, hne⟩ := h
    obtain ⟨c0, c1, f0, f1⟩ := cell2 hv
    rcases hr with ⟨rfl, rfl⟩ | ⟨go, c, rfl, hc, hlt, hB⟩
    · have hn0 : n = 0 := by simpa using hle
      subst hn0
      have s1 := (set2 hv (.slice none 0 0)).1
      have hb : Box (HasIn (w.setCell ⟨ib, 0, none⟩ (.slice none 0 0)) ib [] bad gb) := ⟨⟨_, s1, .inl ⟨rfl, rfl⟩, hne⟩⟩
      clear hv s1
      go_enter Tryd.func67, Tryd.ntmps67
      go_wp2
      go_ret
      exact ⟨_, rfl, .inl ⟨rfl, rfl⟩, hb.out, (Only.refl _ _).setCell _ _⟩
    · have hdec : decide ((bs.length : Int) < n) = false := by simp; omega
      have hlen : (bs.take n).length = n := by simp; omega
      have hlen2 : (bs.drop n).length = bs.length - n := by simp
      by_cases hcn : c = n
      · subst hcn
        have s1 := (set2 hv (.slice (some ⟨gb, go, none⟩) 0 0)).1
        have ho : Only ib w (w.setCell ⟨ib, 0, none⟩ (.slice (some ⟨gb, go, none⟩) 0 0)) := (Only.refl _ _).setCell _ _
        have hr2 : Rv w (.slice (some ⟨gb, go, none⟩) 0 0) (bs.drop c) gb := .inr ⟨go, 0, by rw [hlen2, show bs.length - c = 0 by omega], by omega, hlt, by rw [show bs.drop c = [] from List.eq_nil_of_length_eq_zero (by omega)]; intro i hi; simp at hi⟩
        have hr1 : Rv w (.slice (some ⟨gb, go, none⟩) c c) (bs.take c) gb := .inr ⟨go, c, by rw [hlen], by omega, hlt, hB.take c⟩
        have hb : Box (HasIn _ ib (bs.drop c) bad gb) := ⟨⟨_, s1, hr2.only ho hne, hne⟩⟩
        have hb1 : Box (Rv _ _ _ _) := ⟨hr1.only ho hne⟩
        clear hv s1 hr1 hr2 hB
        go_enter Tryd.func67, Tryd.ntmps67
        go_wp2
        go_ret
        exact ⟨_, rfl, hb1.out, hb.out, ho⟩
      · have s1 := (set2 hv (.slice (some ⟨gb, go + n, none⟩) (bs.length - n) (c - n))).1
        have ho : Only ib w (w.setCell ⟨ib, 0, none⟩ (.slice (some ⟨gb, go + n, none⟩) (bs.length - n) (c - n))) := (Only.refl _ _).setCell _ _
        have hr2 : Rv w (.slice (some ⟨gb, go + n, none⟩) (bs.length - n) (c - n)) (bs.drop n) gb := .inr ⟨go + n, (c - n), by rw [hlen2], by omega, hlt, hB.drop n⟩
        have hr1 : Rv w (.slice (some ⟨gb, go, none⟩) n c) (bs.take n) gb := .inr ⟨go, c, by rw [hlen], by omega, hlt, hB.take n⟩
        have hb : Box (HasIn _ ib (bs.drop n) bad gb) := ⟨⟨_, s1, hr2.only ho hne, hne⟩⟩
        have hb1 : Box (Rv _ _ _ _) := ⟨hr1.only ho hne⟩
        clear hv s1 hr1 hr2 hB
        go_enter Tryd.func67, Tryd.ntmps67
        go_wp2
        go_ret
        exact ⟨_, rfl, hb1.out, hb.out, ho⟩
  · obtain ⟨e1, e2, e3⟩ := take_no bs bad n hle
    rw [e1, e2, e3]
    clear e1 e2 e3
    have hh : Box (HasIn w ib bs bad gb) := ⟨h⟩
    obtain ⟨v, hv, hr, hne⟩ := h
    obtain ⟨c0, c1, f0, f1⟩ := cell2 hv
    obtain ⟨a, c, rfl, _⟩ := hr.shape
    have hdec : decide ((bs.length : Int) < n) = true := by simp; omega
    clear hv hr
    go_enter Tryd.func67, Tryd.ntmps67
    go_wp2_with (refine (spoil_any ib gb bs bad w hh.out).mono ?_; rintro e w' ⟨rfl, h1, h2⟩)
    go_ret
    exact ⟨_, rfl, .inl ⟨rfl, rfl⟩, h1, h2⟩
end Go.Proofs.YtnppjlpnfijobaaDoor
namespace Go.Proofs.YtnppjlpnfijobaaDoor
set_option maxRecDepth 100000
open Go.RowKit
/-- The number that bytes are. -/
def num (bs : List (BitVec 8)) : Nat := bs.foldl (fun a x => a * 256 + x.toNat) 0
theorem num_nil : num [] = 0 := rfl
theorem num_snoc (xs : List (BitVec 8)) (x : BitVec 8) : num (xs ++ [x]) = num xs * 256 + x.toNat := by
  unfold num; rw [List.foldl_append]; rfl
theorem num_foldl (bs : List (BitVec 8)) : ∀ a, bs.foldl (fun a x => a * 256 + x.toNat) a = a * 256 ^ bs.length + num bs := by
  induction bs with
  | nil => intro a; simp [num]
  | cons x r ih =>
    intro a
    unfold num
    rw [List.foldl_cons, List.foldl_cons, ih, ih, List.length_cons, Nat.pow_succ]
    rw [Nat.add_mul, Nat.mul_assoc, Nat.mul_comm 256, Nat.add_mul, Nat.zero_mul]
    omega
theorem num_append (xs ys : List (BitVec 8)) : num (xs ++ ys) = num xs * 256 ^ ys.length + num ys := by
  unfold num; rw [List.foldl_append, num_foldl]; rfl
theorem num_lt (bs : List (BitVec 8)) : num bs < 256 ^ bs.length := by
  induction bs with
  | nil => simp [num]
  | cons x r ih =>
    have := num_append [x] r
    rw [List.singleton_append] at this
    rw [this, List.length_cons, Nat.pow_succ]
    have hx : num [x] = x.toNat := by simp [num]
    have := x.isLt
    have h2 : num [x] ≤ 255 := by omega
    have h3 : num [x] * 256 ^ r.length ≤ 255 * 256 ^ r.length := Nat.mul_le_mul_right _ h2
    omega
theorem num_take (bs : List (BitVec 8)) (k : Nat) (h : k < bs.length) : num (bs.take (k + 1)) = num (bs.take k) * 256 + (bs.getD k 0).toNat := by
  rw [List.take_add_one, List.getElem?_eq_getElem h]
  simp only [Option.toList_some]
  rw [num_snoc]
  simp [h]
theorem num_take_lt (bs : List (BitVec 8)) (k n : Nat) (h : k ≤ n) : num (bs.take k) < 256 ^ n :=
  Nat.lt_of_lt_of_le (num_lt _) (Nat.pow_le_pow_right (by omega) (by rw [List.length_take]; omega))
theorem or256 (a b : Nat) (h : b < 256) : (a * 256) ||| b = a * 256 + b := by
  have := Nat.two_pow_add_eq_or_of_lt (i := 8) h a
  rw [Nat.mul_comm a 256]; exact this.symm
/-- One more byte, as an unsigned number. -/
theorem u64_push (a : Nat) (x : BitVec 8) (h : a < 72057594037927936) : bits .or .u64 ((a : Int) * 256 % (18446744073709551616 : Int)) (bv x) = ((a * 256 + x.toNat : Nat) : Int) := by
  have hx := x.isLt
  have e : ((a : Int) * 256 % (18446744073709551616 : Int)) = ((a * 256 : Nat) : Int) := by omega
  unfold bv
  rw [e, u64_or_nat _ _ (by omega) (by omega), or256 _ _ hx]
theorem u64_push' (a : Nat) (x : BitVec 8) (h : a < 72057594037927936) : bits .or .u64 ((a : Int) * 256) (bv x) = ((a * 256 + x.toNat : Nat) : Int) := by
  have e : ((a : Int) * 256 % (18446744073709551616 : Int)) = ((a * 256 : Nat) : Int) := by omega
  rw [← u64_push a x h, e]; rfl
end Go.Proofs.YtnppjlpnfijobaaDoor
namespace Go.Proofs.YtnppjlpnfijobaaDoor
set_option maxRecDepth 100000
open Go.RowKit
theorem takeB_len (bs : List (BitVec 8)) (n : Nat) : (takeB bs n).length ≤ n := by unfold takeB; split <;> simp; omega
set_option maxHeartbeats 400000 in
theorem number_any (ib gb n : Nat) (bs : List (BitVec 8)) (bad : Bool) (w : World) (h : HasIn w ib bs bad gb) (hn : n ≤ 8) (hbs : bs.length ≤ 1000000) :
    Calls Tryd.prog 64 #[.pointer (some ⟨ib, 0, none⟩), .int .i64 (n : Int)] w fun e w' => e = .returned (.int .u64 (num (takeB bs n) : Int)) ∧ HasIn w' ib (dropB bs n) (badB bs bad n) gb ∧ Only ib w w' := by
  have hlen := takeB_len bs n
  have hT := take_any ib gb n bs bad w h (by omega) (by omega)
  generalize takeB bs n = tb at hT hlen ⊢
  have hT' := Box.mk hT
  clear h hT
  go_enter Tryd.func64, Tryd.ntmps64
  go_wp2_with (refine hT'.out.mono ?_; rintro e w' ⟨v, rfl, h1, h2, h3⟩; obtain ⟨a, c, hve, hc⟩ := h1.shape; subst hve; have h1' := Box.mk h1; have h2' := Box.mk h2; clear h1 h2)
  go_loopw [5, 12] (fun x i wr => ∃ k : Nat, k ≤ tb.length ∧ i = .int .i64 k ∧ x = .int .u64 (num (tb.take k) : Int) ∧ wr = w') (fun _ i _ => tb.length - (intOf i).toNat)
  case atStart => exact ⟨0, by omega, rfl, rfl, rfl⟩
  case round =>
    obtain ⟨k, hk, rfl, rfl, rfl⟩ := hrel
    by_cases hlt : k < tb.length
    · rcases h1'.out with ⟨e, rfl⟩ | ⟨go, c', e, _, hgl, hB⟩
      · simp at hlt
      · simp only [Value.slice.injEq] at e
        obtain ⟨rfl, _, rfl⟩ := e
        have c0 := hB k hlt
        have hs := num_take tb k hlt
        have hlt8 := num_take_lt tb k 7 (by omega)
        generalize tb.getD k 0 = x at c0 hs
        have hx := bv_range x
        have hp := u64_push' (num (tb.take k)) x (by omega)
        rw [← hs] at hp
        have hp' := Box.mk hp
        clear hs hB hp
        generalize num (tb.take k) = N at hp' hlt8 ⊢
        go_wp2
        go_roundw
        case rel => exact ⟨k + 1, by omega, by go_num, by rw [hp'.out], by first | rfl | trivial⟩
        case measure => simp [intOf]; omega
    · have hkn : Box (tb.take k = tb) := ⟨by rw [List.take_of_length_le (by omega)]⟩
      rw [hkn.out]
      go_wp2
      go_ret
      exact ⟨rfl, h2'.out, h3⟩
end Go.Proofs.YtnppjlpnfijobaaDoor
namespace Go.Proofs.YtnppjlpnfijobaaDoor
set_option maxRecDepth 100000
open Go.RowKit
theorem w64 (z : Int) : wrap64 z = IntKind.i64.wrap z := by simp only [wrap64, IntKind.wrap_i64]
/-- The number that the next eight bytes are. -/
def rdI (bs : List (BitVec 8)) : Int := IntKind.i64.wrap (num (takeB bs 8) : Int)
set_option maxHeartbeats 400000 in
theorem int_any (ib gb : Nat) (bs : List (BitVec 8)) (bad : Bool) (w : World) (h : HasIn w ib bs bad gb) (hbs : bs.length ≤ 1000000) :
    Calls Tryd.prog 51 #[.pointer (some ⟨ib, 0, none⟩)] w fun e w' => e = .returned (.int .i64 (rdI bs)) ∧ HasIn w' ib (dropB bs 8) (badB bs bad 8) gb ∧ Only ib w w' := by
  have hT := Box.mk (number_any ib gb 8 bs bad w h (by omega) hbs)
  have hr : Box (IntKind.i64.wrap (num (takeB bs 8) : Int) = rdI bs) := ⟨rfl⟩
  generalize num (takeB bs 8) = N at hT hr
  clear h
  go_enter Tryd.func51, Tryd.ntmps51
  go_wp2_with (refine hT.out.mono ?_; rintro e w' ⟨rfl, h1, h2⟩; have h1' := Box.mk h1; clear h1)
  go_ret
  refine ⟨?_, h1'.out, h2⟩
  rw [← hr.out, ← w64]
  rfl
set_option maxHeartbeats 400000 in
theorem count_any (ib gb : Nat) (bs : List (BitVec 8)) (bad : Bool) (least most : Int) (w : World) (h : HasIn w ib bs bad gb) (hbs : bs.length ≤ 1000000) :
    Calls Tryd.prog 35 #[.pointer (some ⟨ib, 0, none⟩), .int .i64 least, .int .i64 most] w fun e w' => ((least ≤ rdI bs ∧ rdI bs ≤ most) ∧ e = .returned (.int .i64 (rdI bs)) ∧ HasIn w' ib (dropB bs 8) (badB bs bad 8) gb ∨ ¬ (least ≤ rdI bs ∧ rdI bs ≤ most) ∧ e = .returned (.int .i64 0) ∧ HasIn w' ib [] true gb) ∧ Only ib w w' := by
  have hT := Box.mk (int_any ib gb bs bad w h hbs)
  generalize rdI bs = N at hT
  clear h
  by_cases q1 : N < least
  · have d1 : decide (N < least) = true := by simpa using q1
    go_enter Tryd.func35, Tryd.ntmps35
    go_wp2_with (first | (refine hT.out.mono ?_; rintro e w' ⟨rfl, h1, h2⟩; have h1' := Box.mk h1; clear h1) | (refine (spoil_any ib gb _ _ _ h1'.out).mono ?_; rintro e w2 ⟨rfl, h3, h4⟩; have h3' := Box.mk h3; clear h3))
    go_ret
    exact ⟨.inr ⟨by omega, rfl, h3'.out⟩, h2.trans h4⟩
  · by_cases q2 : most < N
    · have d1 : decide (N < least) = false := by simpa using q1
      have d2 : decide (most < N) = true := by simpa using q2
      go_enter Tryd.func35, Tryd.ntmps35
      go_wp2_with (first | (refine hT.out.mono ?_; rintro e w' ⟨rfl, h1, h2⟩; have h1' := Box.mk h1; clear h1) | (refine (spoil_any ib gb _ _ _ h1'.out).mono ?_; rintro e w2 ⟨rfl, h3, h4⟩; have h3' := Box.mk h3; clear h3))
      go_ret
      exact ⟨.inr ⟨by omega, rfl, h3'.out⟩, h2.trans h4⟩
    · have d1 : decide (N < least) = false := by simpa using q1
      have d2 : decide (most < N) = false := by simpa using q2
      go_enter Tryd.func35, Tryd.ntmps35
      go_wp2_with (first | (refine hT.out.mono ?_; rintro e w' ⟨rfl, h1, h2⟩; have h1' := Box.mk h1; clear h1) | (refine (spoil_any ib gb _ _ _ h1'.out).mono ?_; rintro e w2 ⟨rfl, h3, h4⟩; have h3' := Box.mk h3; clear h3))
      go_ret
      exact ⟨.inl ⟨by omega, rfl, h1'.out⟩, h2⟩
end Go.Proofs.YtnppjlpnfijobaaDoor
namespace Go.Proofs.YtnppjlpnfijobaaDoor
set_option maxRecDepth 100000
open Go.RowKit
/-- How many come next: are they no more than most, and are they there? -/
def lenOk (bs : List (BitVec 8)) (most : Int) (size : Nat) : Prop := (num (takeB bs 4) : Int) ≤ most ∧ num (takeB bs 4) ≤ (dropB bs 4).length / size
set_option maxHeartbeats 400000 in
theorem length_any (ib gb size : Nat) (bs : List (BitVec 8)) (bad : Bool) (most : Int) (w : World) (h : HasIn w ib bs bad gb) (hbs : bs.length ≤ 1000000) (hsz : size = 1 ∨ size = 32) :
    Calls Tryd.prog 54 #[.pointer (some ⟨ib, 0, none⟩), .int .i64 most, .int .i64 (size : Int)] w fun e w' => (lenOk bs most size ∧ e = .returned (.int .i64 (num (takeB bs 4) : Int)) ∧ HasIn w' ib (dropB bs 4) (badB bs bad 4) gb ∨ ¬ lenOk bs most size ∧ e = .returned (.int .i64 0) ∧ HasIn w' ib [] true gb) ∧ Only ib w w' := by
  have hT := Box.mk (number_any ib gb 4 bs bad w h (by omega) hbs)
  have hN : num (takeB bs 4) < 4294967296 := Nat.lt_of_lt_of_le (num_lt _) (Nat.le_trans (Nat.pow_le_pow_right (by omega) (takeB_len bs 4)) (by omega))
  have hD : (dropB bs 4).length ≤ 1000000 := by unfold dropB; split <;> simp; omega
  unfold lenOk
  generalize num (takeB bs 4) = N at hT hN ⊢
  generalize dropB bs 4 = D at hT hD ⊢
  have hT2 : Box (Calls Tryd.prog 64 #[.pointer (some ⟨ib, 0, none⟩), .int .i64 4] w fun e w' => e = .returned (.int .u64 (N : Int)) ∧ (∃ a c, w'.cell? ⟨ib, 0, none⟩ = some (.slice a D.length c) ∧ Box (HasIn w' ib D (badB bs bad 4) gb)) ∧ Only ib w w') := ⟨by
    refine hT.out.mono ?_
    rintro e w' ⟨rfl, h1, h2⟩
    refine ⟨rfl, ?_, h2⟩
    have h1' := Box.mk h1
    obtain ⟨v, hv, hr, _⟩ := h1
    obtain ⟨a, c, rfl, _⟩ := hr.shape
    exact ⟨a, c, (cell2 hv).1, h1'⟩⟩
  clear h hT
  by_cases q1 : most < (N : Int)
  · have d1 : decide (most < (N : Int)) = true := by simpa using q1
    go_enter Tryd.func54, Tryd.ntmps54
    go_wp2_with (first | (refine hT2.out.mono ?_; rintro e w' ⟨rfl, ⟨a, c, c0, h1'⟩, h2⟩) | (refine (spoil_any ib gb _ _ _ h1'.out).mono ?_; rintro e w2 ⟨rfl, h3, h4⟩; have h3' := Box.mk h3; clear h3))
    go_ret
    exact ⟨.inr ⟨by omega, rfl, h3'.out⟩, h2.trans h4⟩
  · have d1 : decide (most < (N : Int)) = false := by simpa using q1
    rcases hsz with rfl | rfl
    · by_cases q2 : (D.length : Int) < (N : Int)
      · have d2 : decide ((D.length : Int) < (N : Int)) = true := by simpa using q2
        go_enter Tryd.func54, Tryd.ntmps54
        go_wp2_with (first | (refine hT2.out.mono ?_; rintro e w' ⟨rfl, ⟨a, c, c0, h1'⟩, h2⟩) | (refine (spoil_any ib gb _ _ _ h1'.out).mono ?_; rintro e w2 ⟨rfl, h3, h4⟩; have h3' := Box.mk h3; clear h3))
        go_ret
        exact ⟨.inr ⟨by omega, rfl, h3'.out⟩, h2.trans h4⟩
      · have d2 : decide ((D.length : Int) < (N : Int)) = false := by simpa using q2
        go_enter Tryd.func54, Tryd.ntmps54
        go_wp2_with (first | (refine hT2.out.mono ?_; rintro e w' ⟨rfl, ⟨a, c, c0, h1'⟩, h2⟩) | (refine (spoil_any ib gb _ _ _ h1'.out).mono ?_; rintro e w2 ⟨rfl, h3, h4⟩; have h3' := Box.mk h3; clear h3))
        go_ret
        exact ⟨.inl ⟨by omega, rfl, h1'.out⟩, h2⟩
    · by_cases q2 : (D.length : Int) / 32 < (N : Int)
      · have d2 : decide ((D.length : Int) / 32 < (N : Int)) = true := by simpa using q2
        go_enter Tryd.func54, Tryd.ntmps54
        go_wp2_with (first | (refine hT2.out.mono ?_; rintro e w' ⟨rfl, ⟨a, c, c0, h1'⟩, h2⟩) | (refine (spoil_any ib gb _ _ _ h1'.out).mono ?_; rintro e w2 ⟨rfl, h3, h4⟩; have h3' := Box.mk h3; clear h3))
        go_ret
        exact ⟨.inr ⟨by omega, rfl, h3'.out⟩, h2.trans h4⟩
      · have d2 : decide ((D.length : Int) / 32 < (N : Int)) = false := by simpa using q2
        go_enter Tryd.func54, Tryd.ntmps54
        go_wp2_with (first | (refine hT2.out.mono ?_; rintro e w' ⟨rfl, ⟨a, c, c0, h1'⟩, h2⟩) | (refine (spoil_any ib gb _ _ _ h1'.out).mono ?_; rintro e w2 ⟨rfl, h3, h4⟩; have h3' := Box.mk h3; clear h3))
        go_ret
        exact ⟨.inl ⟨by omega, rfl, h1'.out⟩, h2⟩
end Go.Proofs.YtnppjlpnfijobaaDoor
namespace Go.Proofs.YtnppjlpnfijobaaDoor
set_option maxRecDepth 100000
open Go.RowKit
/-- The row lies where it lay, or in the next new block. -/
theorem append_where {P : Program} (w : World) (base : Nat) (t ty e : TypeId) (i : TypeInfo) (z : Value) (size bytes : Nat) (ht : P.underlying t = some (.slice e)) (hi : P.info? e = some i) (hz : i.zero = some z)
    (hsize : i.size = size) (hby : i.bytes = bytes)
    (v : Value) (n : Nat) (xs : List Value) (hown : w.ownsRow base e size v n xs)
    (a : Addr) (m c : Nat) (news : List Value) (hl : news.length = m * size) (hnews : ∀ j u, news[j]? = some u → w.cell? (a.add j) = some u) (h1 : ∀ u ∈ news, u.oneCell' = true)
    (h63 : n + m ≤ maxLen) (hbytes : (n + m) * bytes ≤ 140737488355328) :
    ∀ v' w', (Builtin.append_ #[t, t] ty #[v, .slice (some a) m c]).run P w = .ok v' w' → v'.ownBlock = v.ownBlock ∨ v'.ownBlock = some w.heap.size := by
  subst hsize
  subst hby
  intro v' w' hr
  have hsmall : n + m ≤ 9223372036854775807 := by simp only [maxLen] at h63; omega
  rcases hown.2 with ⟨rfl, rfl⟩ | ⟨g, cap, cur, rfl, hbg, hg, hnc, hcm, hcs, htake⟩
  · by_cases hm : m = 0
    · subst hm
      left
      have : (Builtin.append_ #[t, t] ty #[.slice none 0 0, .slice (some a) 0 c]).run P w = .ok (.slice none 0 0) w := by
        simp [Builtin.append_, run_underlying ht, sizeOf, typeInfo, hi, Builtin.lenOf, Builtin.firstCells, loadCells, loadCellsFrom]
      rw [this] at hr
      obtain ⟨rfl, _⟩ := Result.ok.inj hr
      rfl
    · right
      rw [run_append_nil (P := P) w t ty e i z ht hi hz a m c news hl hnews (by omega) (by omega) (by have hb := hbytes; simp only [Nat.zero_add] at hb; omega)] at hr
      obtain ⟨rfl, _⟩ := Result.ok.inj hr
      rfl
  · by_cases hroom : n + m ≤ cap
    · left
      rw [run_append_room (P := P) w t ty e i ht hi g n cap cur hg a m c news hl hnews h1 hroom (by rw [hl, hcs, ← Nat.add_mul]; exact Nat.mul_le_mul_right _ hroom)] at hr
      obtain ⟨rfl, _⟩ := Result.ok.inj hr
      rfl
    · right
      rw [run_append_grow (P := P) w t ty e i z ht hi hz ⟨g, 0, none⟩ n cap xs hown.1 (hown.cells (g := g) rfl) a m c news hl hnews (by omega) (by omega) (growslice_fits (by omega) hbytes)] at hr
      obtain ⟨rfl, _⟩ := Result.ok.inj hr
      rfl
end Go.Proofs.YtnppjlpnfijobaaDoor
namespace Go.Proofs.YtnppjlpnfijobaaDoor
set_option maxRecDepth 100000
open Go.RowKit
/-- append of bytes onto a slice of the call's own. -/
theorem append39W {ops : Array Oper} {rest : List Oper} {o : Oper} {a : Act} {w : World} {Q : Exit → Act → World → Prop} (hgd : o.guard = none) (s x : Operand)
    (ho : o.op = .call { callee := .builtin .append, args := #[s, x], argTypes := #[39, 39] })
    (base : Nat) (v : Value) (n : Nat) (xs : List (BitVec 8)) (hs : a.eval s = v) (hown : w.ownsRow base 5 1 v n (xs.map V))
    (y : Value) (bs : List (BitVec 8)) (gb : Nat) (hx : a.eval x = y) (hr : Rv w y bs gb) (hb : n + bs.length ≤ 1000000) (hbase : base ≤ w.heap.size)
    (h : ∀ v' w', w'.ownsRow base 5 1 v' (n + bs.length) ((xs ++ bs).map V) → w.grownBy w' v.ownBlock → (v'.ownBlock = v.ownBlock ∨ v'.ownBlock = some w.heap.size) → wpList Tryd.prog ops Q rest (a.put o.dst v') w') : wpList Tryd.prog ops Q (o :: rest) a w := by
  obtain ⟨i0, hi, hz0, hz1, hz2⟩ := info_parts Tryd.info5
  rcases hr with ⟨rfl, rfl⟩ | ⟨go, c, rfl, hc, hlt, hB⟩
  · refine wpList_append_own_none hgd s x 39 ho base 5 i0 1 Tryd.under39 hi v n _ hs hown hx (h v w ?_ ⟨rfl, rfl, rfl, Nat.le_refl _, fun _ _ _ => rfl⟩ (.inl rfl))
    rw [List.append_nil]; exact hown
  · have hnews : ∀ (j : Nat) (u : Value), (bs.map V)[j]? = some u → w.cell? ((⟨gb, go, none⟩ : Addr).add j) = some u := by
      intro j u hj
      have := hB.src bs.length j u
      rw [List.take_of_length_le (Nat.le_refl _)] at this
      exact this hj
    obtain ⟨v', w', hr, h2, h3, _⟩ := run_append_own (P := Tryd.prog) w base 39 o.type 5 i0 (.int .u8 0) 1 1 Tryd.under39 hi hz0 hz1 hz2 rfl (by decide) v n (xs.map V) hown ⟨gb, go, none⟩ bs.length c (bs.map V) (by simp) hnews (V_one bs) (by unfold maxLen; omega) (by omega) hbase
    have h4 := append_where (P := Tryd.prog) w base 39 o.type 5 i0 (.int .u8 0) 1 1 Tryd.under39 hi hz0 hz1 hz2 v n (xs.map V) hown ⟨gb, go, none⟩ bs.length c (bs.map V) (by simp) hnews (V_one bs) (by unfold maxLen; omega) (by omega) v' w' hr
    refine wpList_plain hgd fun K hK => ?_
    unfold Oper.wp execOp
    simp only [ho, resolve, invoke, builtin, Sem.run_bind, Sem.run_pure, Result.andThen_ok, List.map_toArray, List.map_cons, List.map_nil, hs, hx, hr]
    rw [← List.map_append] at h2
    exact hK _ _ (h v' w' h2 h3 h4)
theorem own_rv {w : World} {base n : Nat} {v : Value} {xs : List (BitVec 8)} (h : w.ownsRow base 5 1 v n (xs.map V)) : (v = .slice none 0 0 ∧ xs = []) ∨ ∃ g, base ≤ g ∧ g < w.heap.size ∧ v.ownBlock = some g ∧ Rv w v xs g := by
  obtain ⟨hl, h⟩ := h
  have hn : n = xs.length := by simpa using hl.symm
  subst hn
  rcases h with ⟨rfl, h0⟩ | ⟨g, cap, cur, rfl, hbg, hg, hnc, _, hcs, ht⟩
  · exact .inl ⟨rfl, List.eq_nil_of_length_eq_zero h0⟩
  · have hgl := (Array.getElem?_eq_some_iff.1 hg).1
    refine .inr ⟨g, hbg, hgl, rfl, .inr ⟨0, cap, rfl, hnc, hgl, ?_⟩⟩
    intro i hi
    rw [Nat.zero_add, cell_of_row _ _ _ _ _ _ hg]
    have e2 := congrArg (·[i]?) ht
    simp [hi] at e2
    simp [e2, hi, V]
/-- The slice lies apart from what was. -/
theorem own_apart {w : World} {base n : Nat} {v : Value} {xs : List (BitVec 8)} (h : w.ownsRow base 5 1 v n (xs.map V)) (hb : base ≤ w.heap.size) : ∃ g a c, v = .slice a xs.length c ∧ base ≤ g ∧ g ≠ w.heap.size ∧ Rv w v xs g := by
  rcases own_rv h with ⟨rfl, rfl⟩ | ⟨g, h1, h2, _, h3⟩
  · exact ⟨w.heap.size + 1, none, 0, rfl, by omega, by omega, .inl ⟨rfl, rfl⟩⟩
  · obtain ⟨a, c, e, _⟩ := h3.shape
    exact ⟨g, a, c, e, h1, by omega, h3⟩
set_option maxHeartbeats 400000 in
theorem newIn_any (v : Value) (gb : Nat) (bs : List (BitVec 8)) (w : World) (hr : Rv w v bs gb) (hl : bs.length ≤ 900000) :
    Calls Tryd.prog 34 #[v] w fun e w' => ∃ ib g, e = .returned (.pointer (some ⟨ib, 0, none⟩)) ∧ w.heap.size ≤ ib ∧ w.heap.size ≤ g ∧ HasIn w' ib bs false g ∧ Below w.heap.size w w' := by
  have hr' := Box.mk hr
  obtain ⟨a, c, rfl, _⟩ := hr.shape
  clear hr
  go_enter Tryd.func34, Tryd.ntmps34
  go_wp2_with (at_builtin; refine append39W rfl _ _ rfl w.heap.size _ 0 [] rfl (World.ownsRow_nil _ _ _ _) _ bs gb rfl hr'.out (by omega) (Nat.le_refl _) ?_; intro v2 w2 own2 gr2 _; have gr2' := Box.mk gr2; obtain ⟨g, a2, c2, e2, hg1, hg2, hg3⟩ := own_apart own2 gr2.size; subst e2; have hg3' := Box.mk hg3; clear own2 gr2 hg3)
  go_ret
  have hb : Below w.heap.size w w2 := (Below.refl _ _).grown gr2'.out (Nat.le_refl _) (fun k e => by cases e)
  exact ⟨w2.heap.size, g, rfl, hb.size, hg1, ⟨_, heap_alloc_new _ _, hg3'.out.below ((Below.refl _ _).alloc (Nat.le_refl _) _), hg2⟩, hb.alloc hb.size _⟩
set_option maxHeartbeats 400000 in
theorem all_any (ob : Nat) (v : Value) (gb : Nat) (bs : List (BitVec 8)) (w : World) (ho : w.heap[ob]? = some (.cells #[v] 58 (0, 0))) (hr : Rv w v bs gb) (hl : bs.length ≤ 900000) :
    Calls Tryd.prog 30 #[.pointer (some ⟨ob, 0, none⟩)] w fun e w' => ∃ v', e = .returned v' ∧ w'.ownsRow w.heap.size 5 1 v' bs.length (bs.map V) ∧ Below w.heap.size w w' := by
  have hr' := Box.mk hr
  obtain ⟨a, c, rfl, _⟩ := hr.shape
  have c0 : w.cell? ⟨ob, 0, none⟩ = some (.slice a bs.length c) := by simp [World.cell?, ho]
  clear hr ho
  go_enter Tryd.func30, Tryd.ntmps30
  go_wp2_with (at_builtin; refine append39W rfl _ _ rfl w.heap.size _ 0 [] rfl (World.ownsRow_nil _ _ _ _) _ bs gb rfl hr'.out (by omega) (Nat.le_refl _) ?_; intro v2 w2 own2 gr2 _; have gr2' := Box.mk gr2; have own2' := Box.mk own2; clear own2 gr2)
  go_ret
  have hb : Below w.heap.size w w2 := (Below.refl _ _).grown gr2'.out (Nat.le_refl _) (fun k e => by cases e)
  refine ⟨_, rfl, ?_, hb⟩
  have := own2'.out
  rw [Nat.zero_add, List.nil_append] at this
  exact this
/-- How many come next: are they no more than most, and are they there? -/
def lenB (bs : List (BitVec 8)) (most : Int) (size : Nat) : Bool := decide ((num (takeB bs 4) : Int) ≤ most) && decide (num (takeB bs 4) ≤ (dropB bs 4).length / size)
theorem lenB_iff (bs : List (BitVec 8)) (most : Int) (size : Nat) : lenB bs most size = true ↔ lenOk bs most size := by unfold lenB lenOk; simp
end Go.Proofs.YtnppjlpnfijobaaDoor
namespace Go.Proofs.YtnppjlpnfijobaaDoor
set_option maxRecDepth 100000
open Go.RowKit
def z32W : List (BitVec 8) := List.replicate 32 0
/-- The next hash. -/
def hOf (bs : List (BitVec 8)) : List (BitVec 8) := if 32 ≤ bs.length then bs.take 32 else z32W
theorem hOf_len (bs : List (BitVec 8)) : (hOf bs).length = 32 := by unfold hOf z32W; split <;> simp; omega
theorem splice_h (bs : List (BitVec 8)) : splice (z32W.map V) 0 ((takeB bs 32).map V) = (hOf bs).map V := by
  unfold hOf takeB splice
  split
  · have : (z32W.map V).drop (0 + ((bs.take 32).map V).length) = [] := List.eq_nil_of_length_eq_zero (by simp [z32W]; omega)
    rw [this]; simp
  · simp
theorem hv_only {w w' : World} {g b : Nat} {T : TypeId} {xs : List (BitVec 8)} (h : HasV w b T xs) (ho : Only g w w') (hg : b ≠ g) : HasV w' b T xs := by
  have hl := h.lt
  unfold HasV at h ⊢
  rw [ho.block b hl hg]; exact h
theorem copy_h (g : Nat) (a : Option Addr) (c : Nat) (w : World) (bs : List (BitVec 8)) (gb : Nat) (hr : Rv w (.slice a (takeB bs 32).length c) (takeB bs 32) gb) (hv : HasV w g 33 z32W) :
    (Builtin.copy_ #[39, 39] 3 #[.slice (some ⟨g, 0, none⟩) 32 32, .slice a (takeB bs 32).length c]).run Tryd.prog w = .ok (.int .i64 ((takeB bs 32).length : Int)) (w.setRow g ((hOf bs).map V).toArray) := by
  have hl := takeB_len bs 32
  have := run_copy_exact (P := Tryd.prog) w 39 39 3 5 Tryd.under39 Tryd.size5 (some ⟨g, 0, none⟩) a 32 32 (takeB bs 32).length c g 0 (z32W.map V) 33 hv ((takeB bs 32).map V) (by rw [List.length_map]; show _ = min _ _; omega) (fun hp => ⟨rfl, by
    rcases hr with ⟨_, e⟩ | ⟨go, c', e, _, _, hB⟩
    · rw [e] at hp; simp at hp
    · simp only [Value.slice.injEq] at e
      refine ⟨_, e.1, ?_⟩
      intro j v hj
      have := hB.src (takeB bs 32).length j v
      rw [List.take_of_length_le (Nat.le_refl _)] at this
      exact this hj⟩) (by rw [List.length_map, List.length_map]; show _ ≤ z32W.length; simp [z32W]; omega) (V_one _)
  rw [splice_h, List.length_map] at this
  exact this
/-- In block ib lies an In that has the bytes bs left, wherever these lie. -/
def HasI (w : World) (ib : Nat) (bs : List (BitVec 8)) (bad : Bool) : Prop := ∃ gb, HasIn w ib bs bad gb
theorem HasI.lt {w : World} {ib : Nat} {bs : List (BitVec 8)} {bad : Bool} (h : HasI w ib bs bad) : ib < w.heap.size := by obtain ⟨gb, h⟩ := h; exact h.lt
theorem HasI.below {w w' : World} {ib : Nat} {bs : List (BitVec 8)} {bad : Bool} (h : HasI w ib bs bad) (ho : Below w.heap.size w w') : HasI w' ib bs bad := by obtain ⟨gb, h⟩ := h; exact ⟨gb, h.below ho⟩
theorem HasI.pick {w : World} {ib : Nat} {bs : List (BitVec 8)} {bad : Bool} (h : HasI w ib bs bad) : ∃ gb, HasIn w ib bs bad gb ∧ (gb < w.heap.size ∨ w.heap.size + 9 ≤ gb) := by
  have hl := h.lt
  obtain ⟨gb, v, hv, hr, hne⟩ := h
  rcases hr with ⟨e, e2⟩ | ⟨go, c, e, hc, hlt, hB⟩
  · exact ⟨w.heap.size + 9, ⟨v, hv, .inl ⟨e, e2⟩, by omega⟩, .inr (by omega)⟩
  · exact ⟨gb, ⟨v, hv, .inr ⟨go, c, e, hc, hlt, hB⟩, hne⟩, .inl hlt⟩
theorem HasIn.setRow {w : World} {ib gb g : Nat} {bs : List (BitVec 8)} {bad : Bool} (h : HasIn w ib bs bad gb) (cs : Array Value) (h1 : ib ≠ g) (h2 : gb ≠ g) : HasIn (w.setRow g cs) ib bs bad gb := by
  obtain ⟨v, hv, hr, hne⟩ := h
  exact ⟨v, by rw [setRow_other w g ib cs h1]; exact hv, hr.keep (by simp) (fun _ => setRow_other w g gb cs h2), hne⟩
set_option maxHeartbeats 400000 in
theorem hash_at (ib gb : Nat) (bs : List (BitVec 8)) (bad : Bool) (w : World) (h : HasIn w ib bs bad gb) (hgb : gb ≠ w.heap.size ∧ gb ≠ w.heap.size + 1) (hbs : bs.length ≤ 900000) :
    Calls Tryd.prog 55 #[.pointer (some ⟨ib, 0, none⟩)] w fun e w' => e = .returned (.agg ((hOf bs).map V).toArray) ∧ HasIn w' ib (dropB bs 32) (badB bs bad 32) gb ∧ Only ib w w' := by
  have hib := h.lt
  have h' := Box.mk h
  clear h
  go_enter Tryd.func55, Tryd.ntmps55
  go_upto_region 2 with fail
  refine code_any (fun w1 => HasV w1 w.heap.size 33 z32W ∧ HasV w1 (w.heap.size + 1) 33 z32W ∧ Below w.heap.size w w1) ?_ ?_
  · exact ⟨heap_alloc2_old _ _ _, heap_alloc2_new _ _ _, ((Below.refl _ _).alloc (Nat.le_refl _) _).alloc (by simp) _⟩
  rintro w1 ⟨hv1, hv2, hb1⟩
  have hB1 := Box.mk hv1
  have hB2 := Box.mk hv2
  clear hv1 hv2
  go_region_with (go_at_call 67; refine (take_any ib gb 32 bs bad _ (h'.out.below (by first | exact hb1.drew | exact hb1)) (by omega) (by omega)).mono ?_; rintro e w2 ⟨v, rfl, h1, h2, h3⟩; have h1' := Box.mk h1; have h2' := Box.mk h2; have h3' : Box (Only ib w1 w2) := ⟨⟨h3.os, h3.tape, h3.output, h3.size, h3.block⟩⟩; obtain ⟨a, c, e2, _⟩ := h1.shape; subst e2; have hcp := copy_h (w.heap.size + 1) a c w2 _ gb h1 (hv_only hB2.out h3'.out (by omega)); clear h1 h2 h3)
  all_goals
    have hW : ∃ w3, w3 = w2.setRow (w.heap.size + 1) ((hOf bs).map V).toArray ∧ w3.heap[w.heap.size + 1]? = some (.cells ((hOf bs).map V).toArray 33 (0, 0)) ∧ w3.heap[w.heap.size]? = some (.cells (z32W.map V).toArray 33 (0, 0)) ∧ Box (Only ib w w3) ∧ Box (HasIn w3 ib (dropB bs 32) (badB bs bad 32) gb) := by
      refine ⟨_, rfl, setRow_heap _ _ _ _ 33 (0, 0) (hv_only hB2.out h3'.out (by omega)), ?_, ⟨?_⟩, ⟨h2'.out.setRow _ (by omega) (by omega)⟩⟩
      · rw [setRow_other _ _ _ _ (by omega)]
        exact hv_only hB1.out h3'.out (by omega)
      · have o1 : Only ib w w2 := (Only.of_below hb1).trans h3'.out
        exact ⟨o1.os, o1.tape, o1.output, by simpa using o1.size, fun k hk hne => by rw [setRow_other _ _ _ _ (by omega)]; exact o1.block k hk hne⟩
    obtain ⟨w3, hw3, k1, k2, k3, k4⟩ := hW
    rw [← hw3]
    clear hw3 hcp
    have hs32 : Box (((hOf bs).map V).toArray.size = 32) := ⟨by simp [hOf_len]⟩
    have hz32 : Box ((z32W.map V).toArray.size = 32) := ⟨by simp [z32W]⟩
    go_wp2_with (first | (refine wpList_load_row rfl 33 (.tmp 3) rfl (w.heap.size + 1) rfl 33 _ (0, 0) _ k1 Tryd.under33 rfl (by rw [hs32.out]; exact Tryd.size33) ?_) | (refine wpList_store_row rfl 33 (.tmp 2) (.tmp 8) rfl w.heap.size ((hOf bs).map V).toArray rfl rfl 33 _ k2 (by rw [hs32.out]; exact Tryd.size33) (by rw [hs32.out, hz32.out]) (V_all _) ?_))
    try go_frame
    refine bodyPost_ret (results_cell_row rfl _ _ w.heap.size 33 ((hOf bs).map V).toArray (0, 0) _ rfl (setRow_heap _ _ _ _ 33 (0, 0) k2) Tryd.under33 rfl (by rw [hs32.out]; exact Tryd.size33)) rfl ⟨rfl, k4.out.setRow _ (by omega) (by omega), ?_⟩
    have o1 := k3.out
    exact ⟨o1.os, o1.tape, o1.output, by simpa using o1.size, fun k hk hne => by rw [setRow_other _ _ _ _ (by omega)]; exact o1.block k hk hne⟩
end Go.Proofs.YtnppjlpnfijobaaDoor
namespace Go.Proofs.YtnppjlpnfijobaaDoor
set_option maxRecDepth 100000
open Go.RowKit
theorem Tryd.info33W : (Tryd.prog.info? 33).map (fun i => (i.zero, i.size, i.bytes)) = some (some (.agg ((z32W.map V).toArray)), 32, 32) := by kernel_rfl
theorem Tryd.makeH (n : Nat) (hn : n ≤ 1000000) (w : World) : ∃ cs : Array Value, cs.size = n * 32 ∧ (Instr.makeSlice 22 (.int .i64 (n : Int)) (.int .i64 (n : Int))).run Tryd.prog w = .ok (.slice (some ⟨w.heap.size, 0, none⟩) n n) (w.alloc (.cells cs 33)) := by
  obtain ⟨i0, hi, hz0, hz1, hz2⟩ := info_parts Tryd.info33W
  have := run_make (P := Tryd.prog) w 22 33 i0 _ Tryd.under22' hi hz0 .i64 .i64 (n : Int) (n : Int) (by omega) (by omega) (by rw [hz2]; omega) (by omega)
  rw [hz1, Int.toNat_natCast] at this
  exact ⟨_, size_madeCells _ _, this⟩
theorem Only.setCells {g : Nat} {a : World} : ∀ (vs : List Value) (o : Nat) (w : World), Only g a w → Only g a (w.setCells g o vs)
  | [], _, _, h => h
  | v :: r, o, _, h => Only.setCells r (o + 1) _ (h.setCell o v)
theorem there_new (w : World) (cs : Array Value) (T : TypeId) : (w.alloc (.cells cs T)).there w.heap.size 0 cs.size := by
  intro j hj
  have hg := heap_alloc_new w (.cells cs T)
  constructor
  · rw [cell_of_row _ _ _ _ _ _ hg]; simp [hj]
  · exact frozen_of_row _ _ _ _ _ hg
theorem there_only {w w' : World} {g b o n : Nat} (h : w.there b o n) (ho : Only g w w') (hb : b < w.heap.size) (hg : b ≠ g) : w'.there b o n := by
  intro j hj
  have := h j hj
  have e := ho.block b hb hg
  rw [World.cell?_of_block (w := w) e, World.frozen?_of_block (w := w) e]
  exact this
/-- One more hash in the row. -/
theorem put_h {w : World} {L k n : Nat} {D h : List (BitVec 8)} (hB : HasB w L 0 (D.take (32 * k))) (ht : w.there L 0 (32 * n)) (hk : k < n) (hD : 32 * n ≤ D.length) (hh : h = (D.drop (32 * k)).take 32) :
    HasB (w.setCells L (32 * k) (h.map V)) L 0 (D.take (32 * (k + 1))) := by
  have hl : h.length = 32 := by rw [hh]; simp; omega
  intro i hi
  have hi2 : i < 32 * (k + 1) := by simp at hi; omega
  have hin : i < D.length := by omega
  rw [Nat.zero_add]
  by_cases hlt : i < 32 * k
  · rw [World.cell?_setCells_out L (h.map V) (32 * k) w ⟨L, i, none⟩ (fun _ _ => .inl hlt)]
    have := hB i (by simp; omega)
    rw [Nat.zero_add] at this
    rw [this]
    simp [hi2, hlt]
  · have := World.cell?_setCells_in L (h.map V) (32 * k) w (fun j hj => by
      have := (ht (32 * k + j) (by simp [hl] at hj; omega)).1
      rwa [Nat.zero_add] at this) (i - 32 * k) (by simp [hl]; omega)
    rw [show 32 * k + (i - 32 * k) = i by omega] at this
    rw [this]
    subst hh
    simp [V, hi2, hin, show 32 * k + (i - 32 * k) = i by omega]
def hsN (bs : List (BitVec 8)) (most : Int) : Nat := if lenB bs most 32 then num (takeB bs 4) else 0
def hsD (bs : List (BitVec 8)) (most : Int) : List (BitVec 8) := if lenB bs most 32 then dropB bs 4 else []
def hsX (bs : List (BitVec 8)) (bad : Bool) (most : Int) : Bool := if lenB bs most 32 then badB bs bad 4 else true
theorem hs_le (bs : List (BitVec 8)) (most : Int) : 32 * hsN bs most ≤ (hsD bs most).length := by
  unfold hsN hsD
  split
  · rename_i h
    have := ((lenB_iff _ _ _).1 h).2
    omega
  · simp
theorem hsD_len (bs : List (BitVec 8)) (most : Int) : (hsD bs most).length ≤ bs.length := by
  unfold hsD dropB
  split
  · split <;> simp
  · simp
theorem length_h (ib gb : Nat) (bs : List (BitVec 8)) (bad : Bool) (most : Int) (w : World) (h : HasIn w ib bs bad gb) (hbs : bs.length ≤ 1000000) :
    Calls Tryd.prog 54 #[.pointer (some ⟨ib, 0, none⟩), .int .i64 most, .int .i64 ((32 : Nat) : Int)] w fun e w' => e = .returned (.int .i64 (hsN bs most : Int)) ∧ HasIn w' ib (hsD bs most) (hsX bs bad most) gb ∧ Only ib w w' := by
  refine (length_any ib gb 32 bs bad most w h hbs (.inr rfl)).mono ?_
  rintro e w' ⟨h1, h2⟩
  unfold hsN hsD hsX
  rcases h1 with ⟨hk, rfl, h4⟩ | ⟨hk, rfl, h4⟩
  · rw [if_pos ((lenB_iff _ _ _).2 hk), if_pos ((lenB_iff _ _ _).2 hk), if_pos ((lenB_iff _ _ _).2 hk)]
    exact ⟨rfl, h4, h2⟩
  · have hk' : ¬ lenB bs most 32 = true := fun e => hk ((lenB_iff _ _ _).1 e)
    rw [if_neg hk', if_neg hk', if_neg hk']
    exact ⟨rfl, h4, h2⟩
theorem HasIn.setCells {w : World} {ib gb g : Nat} {bs : List (BitVec 8)} {bad : Bool} (h : HasIn w ib bs bad gb) (o : Nat) (vs : List Value) (h1 : ib ≠ g) (h2 : gb ≠ g) : HasIn (w.setCells g o vs) ib bs bad gb :=
  h.only (Only.setCells vs o w (Only.refl g w)) h1 h2
end Go.Proofs.YtnppjlpnfijobaaDoor
namespace Go.Proofs.YtnppjlpnfijobaaDoor
set_option maxRecDepth 100000
open Go.RowKit
/-- In block ob lies an Out that has the bytes xs. -/
def HasOut (w : World) (ob : Nat) (v : Value) (xs : List (BitVec 8)) : Prop :=
  w.heap[ob]? = some (.cells #[v] 58 (0, 0)) ∧ w.ownsRow (ob + 1) 5 1 v xs.length (xs.map V)
/-- w' is as w was, but for the Out, its row, and new blocks. -/
structure Put (ob : Nat) (v v' : Value) (w w' : World) : Prop where
  os : w'.os = w.os
  tape : w'.tape = w.tape
  output : w'.output = w.output
  size : w.heap.size ≤ w'.heap.size
  block : ∀ k, k < w.heap.size → k ≠ ob → some k ≠ v.ownBlock → w'.heap[k]? = w.heap[k]?
  own : v'.ownBlock = v.ownBlock ∨ ∃ g, v'.ownBlock = some g ∧ w.heap.size ≤ g
theorem Put.refl (ob : Nat) (v : Value) (w : World) : Put ob v v w w := ⟨rfl, rfl, rfl, Nat.le_refl _, fun _ _ _ _ => rfl, .inl rfl⟩
theorem Put.trans {ob : Nat} {v1 v2 v3 : Value} {w1 w2 w3 : World} (h : Put ob v1 v2 w1 w2) (k : Put ob v2 v3 w2 w3) : Put ob v1 v3 w1 w3 := by
  have hs := h.size
  refine ⟨k.os.trans h.os, k.tape.trans h.tape, k.output.trans h.output, Nat.le_trans h.size k.size, fun q hq hne hno => ?_, ?_⟩
  · rw [k.block q (by omega) hne ?_]
    · exact h.block q hq hne hno
    · rcases h.own with e | ⟨g, e, hg⟩
      · rw [e]; exact hno
      · rw [e]; intro e2; have := Option.some.inj e2; omega
  · rcases k.own with e | ⟨g, e, hg⟩
    · rw [e]; exact h.own
    · exact .inr ⟨g, e, by omega⟩
theorem HasOut.lt {w : World} {ob : Nat} {v : Value} {xs : List (BitVec 8)} (h : HasOut w ob v xs) : ob < w.heap.size := (Array.getElem?_eq_some_iff.1 h.1).1
theorem Put.below {ob : Nat} {v v' : Value} {w w' : World} {xs : List (BitVec 8)} (h : Put ob v v' w w') (ho : HasOut w ob v xs) (B : Nat) (hB : B ≤ ob) : Below B w w' := by
  have hl := ho.lt
  refine ⟨h.os, h.tape, h.output, h.size, fun k hk => h.block k (by omega) (by omega) (fun e => ?_)⟩
  have := ho.2.lt k e.symm
  omega
theorem HasOut.below {w w' : World} {ob : Nat} {v : Value} {xs : List (BitVec 8)} (h : HasOut w ob v xs) (hb : Below w.heap.size w w') : HasOut w' ob v xs := by
  refine ⟨by rw [hb.block ob h.lt]; exact h.1, h.2.1, ?_⟩
  rcases h.2.2 with hn | ⟨g, cap, cur, rfl, hb1, hgg, rest⟩
  · exact .inl hn
  · exact .inr ⟨g, cap, cur, rfl, hb1, by rw [hb.block g (Array.getElem?_eq_some_iff.1 hgg).1]; exact hgg, rest⟩
/-- One append, and its store. -/
theorem put_step {w w1 w2 : World} {ob H : Nat} {v v2 : Value} {xs bs : List (BitVec 8)} (h : HasOut w ob v xs) (hb : Below w.heap.size w w1)
    (own2 : w2.ownsRow (ob + 1) 5 1 v2 (xs.length + bs.length) ((xs ++ bs).map V)) (gr : w1.grownBy w2 v.ownBlock) (hat : v2.ownBlock = v.ownBlock ∨ v2.ownBlock = some H) (hH : w.heap.size ≤ H) :
    HasOut (w2.setCell ⟨ob, 0, none⟩ v2) ob v2 (xs ++ bs) ∧ Put ob v v2 w (w2.setCell ⟨ob, 0, none⟩ v2) := by
  have hl := h.lt
  have hs := hb.size
  have hno : some ob ≠ v.ownBlock := fun e => by have := h.2.lt ob e.symm; omega
  have e1 : w2.heap[ob]? = some (.cells #[v] 58 (0, 0)) := by
    rw [gr.block ob (by omega) hno, hb.block ob hl]; exact h.1
  refine ⟨⟨?_, ?_⟩, gr.os.trans hb.os, gr.tape.trans hb.tape, gr.output.trans hb.output, ?_, ?_, ?_⟩
  · simp [World.setCell, Array.getElem?_modify, e1]
  · rw [List.length_append]
    refine ⟨own2.1, ?_⟩
    rcases own2.2 with hn | ⟨g, cap, cur, rfl, hb1, hgg, rest⟩
    · exact .inl hn
    · exact .inr ⟨g, cap, cur, rfl, hb1, by rw [heap_setCell_other _ _ _ _ (show g ≠ ob by omega)]; exact hgg, rest⟩
  · have := gr.size
    simp
    omega
  · intro k hk hne hnk
    rw [heap_setCell_other _ _ _ _ (show k ≠ ob from hne), gr.block k (by omega) hnk, hb.block k hk]
  · rcases hat with e | e
    · exact .inl e
    · exact .inr ⟨H, e, hH⟩
/-- append of bytes onto the Out's row: what its store makes of it. -/
theorem run_out {w wr : World} {ob : Nat} {v : Value} {xs : List (BitVec 8)} (hout : HasOut wr ob v xs) (hb : Below wr.heap.size wr w) (ty : TypeId) {y : Value} {bs : List (BitVec 8)} {gb : Nat} (hr : Rv w y bs gb) (hlen : xs.length + bs.length ≤ 1000000) :
    ∃ a n c w', (Builtin.append_ #[39, 39] ty #[v, y]).run Tryd.prog w = .ok (.slice a n c) w' ∧ w'.cell? ⟨ob, 0, none⟩ = some v ∧ w'.frozen? ⟨ob, 0, none⟩ = false ∧ Box (HasOut (w'.setCell ⟨ob, 0, none⟩ (.slice a n c)) ob (.slice a n c) (xs ++ bs) ∧ Put ob v (.slice a n c) wr (w'.setCell ⟨ob, 0, none⟩ (.slice a n c))) := by
  obtain ⟨i0, hi, hz0, hz1, hz2⟩ := info_parts Tryd.info5
  have hown := (hout.below hb).2
  have hl := hout.lt
  have hs := hb.size
  have key : ∃ v' w', (Builtin.append_ #[39, 39] ty #[v, y]).run Tryd.prog w = .ok v' w' ∧ w'.ownsRow (ob + 1) 5 1 v' (xs.length + bs.length) ((xs ++ bs).map V) ∧ w.grownBy w' v.ownBlock ∧ (v'.ownBlock = v.ownBlock ∨ v'.ownBlock = some w.heap.size) := by
    rcases hr with ⟨rfl, rfl⟩ | ⟨go, c, rfl, hc, hlt, hB⟩
    · exact ⟨v, w, run_append_owned_none (P := Tryd.prog) (w := w) (ob + 1) 39 ty 5 i0 1 Tryd.under39 hi v _ _ hown, by simpa using hown, ⟨rfl, rfl, rfl, Nat.le_refl _, fun _ _ _ => rfl⟩, .inl rfl⟩
    · have hnews : ∀ (j : Nat) (u : Value), (bs.map V)[j]? = some u → w.cell? ((⟨gb, go, none⟩ : Addr).add j) = some u := by
        intro j u hj
        have := hB.src bs.length j u
        rw [List.take_of_length_le (Nat.le_refl _)] at this
        exact this hj
      obtain ⟨v', w', hr, h2, h3, _⟩ := run_append_own (P := Tryd.prog) w (ob + 1) 39 ty 5 i0 (.int .u8 0) 1 1 Tryd.under39 hi hz0 hz1 hz2 rfl (by decide) v _ (xs.map V) hown ⟨gb, go, none⟩ bs.length c (bs.map V) (by simp) hnews (V_one bs) (by unfold maxLen; omega) (by omega) (by omega)
      have h4 := append_where (P := Tryd.prog) w (ob + 1) 39 ty 5 i0 (.int .u8 0) 1 1 Tryd.under39 hi hz0 hz1 hz2 v _ (xs.map V) hown ⟨gb, go, none⟩ bs.length c (bs.map V) (by simp) hnews (V_one bs) (by unfold maxLen; omega) (by omega) v' w' hr
      rw [← List.map_append] at h2
      exact ⟨v', w', hr, h2, h3, h4⟩
  obtain ⟨v', w', hrun, h2, h3, h4⟩ := key
  obtain ⟨g, a, c, rfl, _⟩ := own_apart (base := 0) ⟨h2.1, by
    rcases h2.2 with h | ⟨g, cap, cur, e, _, r⟩
    · exact .inl h
    · exact .inr ⟨g, cap, cur, e, Nat.zero_le _, r⟩⟩ (Nat.zero_le _)
  have hg : w'.heap[ob]? = wr.heap[ob]? := by
    rw [h3.block ob (by omega) (fun e => by have := hout.2.lt ob e.symm; omega), hb.block ob hl]
  refine ⟨a, _, c, w', hrun, ?_, ?_, ⟨put_step hout hb h2 h3 h4 hs⟩⟩
  · rw [World.cell?_of_block (w := wr) hg]; simp [World.cell?, hout.1]
  · rw [World.frozen?_of_block (w := wr) hg]; simp [World.frozen?, hout.1]
theorem wp_out {o : Oper} {a : Act} {w wr : World} {K : Act → World → Prop} {Q : Exit → Act → World → Prop} (s x : Operand)
    (ho : o.op = .call { callee := .builtin .append, args := #[s, x], argTypes := #[39, 39] }) (ob : Nat) (v : Value) (xs : List (BitVec 8)) (hout : HasOut wr ob v xs) (hb : Below wr.heap.size wr w) (hs : a.eval s = v)
    (y : Value) (bs : List (BitVec 8)) (gb : Nat) (hx : a.eval x = y) (hr : Rv w y bs gb) (hlen : xs.length + bs.length ≤ 1000000)
    (h : ∀ a' n c w', w'.cell? ⟨ob, 0, none⟩ = some v → w'.frozen? ⟨ob, 0, none⟩ = false → Box (HasOut (w'.setCell ⟨ob, 0, none⟩ (.slice a' n c)) ob (.slice a' n c) (xs ++ bs) ∧ Put ob v (.slice a' n c) wr (w'.setCell ⟨ob, 0, none⟩ (.slice a' n c))) → K (a.put o.dst (.slice a' n c)) w') : o.wp Tryd.prog a w K Q := by
  obtain ⟨a', n, c, w', hrun, h1, h2, h3⟩ := run_out hout hb o.type hr hlen
  unfold Oper.wp execOp
  simp only [ho, resolve, invoke, builtin, Sem.run_bind, Sem.run_pure, Result.andThen_ok, List.map_toArray, List.map_cons, List.map_nil, hs, hx, hrun]
  exact h a' n c w' h1 h2 h3
theorem step_out {ops : Array Oper} {o : Oper} {a : Act} {w wr : World} {K : Act → World → Prop} {Q : Exit → Act → World → Prop} {E : Prop} (hgd : o.guard = none) (s x : Operand)
    (ho : o.op = .call { callee := .builtin .append, args := #[s, x], argTypes := #[39, 39] }) (ob : Nat) (v : Value) (xs : List (BitVec 8)) (hout : HasOut wr ob v xs) (hb : Below wr.heap.size wr w) (hs : a.eval s = v)
    (y : Value) (bs : List (BitVec 8)) (gb : Nat) (hx : a.eval x = y) (hr : Rv w y bs gb) (hlen : xs.length + bs.length ≤ 1000000)
    (h : ∀ a' n c w', w'.cell? ⟨ob, 0, none⟩ = some v → w'.frozen? ⟨ob, 0, none⟩ = false → Box (HasOut (w'.setCell ⟨ob, 0, none⟩ (.slice a' n c)) ob (.slice a' n c) (xs ++ bs) ∧ Put ob v (.slice a' n c) wr (w'.setCell ⟨ob, 0, none⟩ (.slice a' n c))) → K (a.put o.dst (.slice a' n c)) w') :
    if Region.wanted o (yielded ops a.tmps) = true then Oper.wp Tryd.prog o a w K Q else E := by
  have hw : Region.wanted o (yielded ops a.tmps) = true := by simp [Region.wanted, hgd]
  rw [if_pos hw]
  exact wp_out s x ho ob v xs hout hb hs y bs gb hx hr hlen h
/-- The lowest bytes of a number, the highest of them first. -/
def beN (N size : Nat) : List (BitVec 8) := (List.range size).map fun k => BitVec.ofNat 8 (N / 2 ^ (8 * (size - 1 - k)))
theorem beN_len (N size : Nat) : (beN N size).length = size := by simp [beN]
theorem beN_take (N size k : Nat) (h : k < size) : (beN N size).take (k + 1) = (beN N size).take k ++ [BitVec.ofNat 8 (N / 2 ^ (8 * (size - 1 - k)))] := by
  rw [List.take_add_one, List.getElem?_eq_getElem (by rw [beN_len]; exact h)]
  simp [beN]
theorem cell_new1 (w : World) (v : Value) (T : TypeId) : (w.alloc (.cells #[v] T)).cell? ⟨w.heap.size, 0, none⟩ = some v := by
  rw [cell_of_row _ _ _ _ T _ (heap_alloc_new _ _)]; rfl
theorem byte_v (N j : Nat) : Value.int .u8 (IntKind.u8.wrap ((N : Int) / 2 ^ (8 * (j : Int)).toNat)) = V (BitVec.ofNat 8 (N / 2 ^ (8 * j))) := by
  unfold V
  rw [bv_lit, IntKind.wrap_u8, show (8 * (j : Int)).toNat = 8 * j by omega]
  congr 1
theorem new_one (w : World) (N j : Nat) : Rv (w.drew.alloc (.cells #[.int .u8 (IntKind.u8.wrap ((N : Int) / 2 ^ (8 * (j : Int)).toNat))] 5)) (.slice (some ⟨w.heap.size, 0, none⟩) 1 1) [BitVec.ofNat 8 (N / 2 ^ (8 * j))] w.heap.size := by
  refine .inr ⟨0, 1, rfl, Nat.le_refl _, by simp, ?_⟩
  rw [byte_v]
  intro i hi
  obtain rfl : i = 0 := by simpa using hi
  exact cell_new1 _ _ _
theorem new_one' (w : World) (N j : Nat) : Rv (w.alloc (.cells #[.int .u8 (IntKind.u8.wrap ((N : Int) / 2 ^ (8 * (j : Int)).toNat))] 5)).drew (.slice (some ⟨w.heap.size, 0, none⟩) 1 1) [BitVec.ofNat 8 (N / 2 ^ (8 * j))] w.heap.size := new_one w N j
set_option maxHeartbeats 400000 in
theorem onumber_any (ob N size : Nat) (v0 : Value) (xs : List (BitVec 8)) (w : World) (h : HasOut w ob v0 xs) (_hN : N < 18446744073709551616) (hs : size ≤ 8) (hx : xs.length ≤ 900000) :
    Calls Tryd.prog 47 #[.pointer (some ⟨ob, 0, none⟩), .int .u64 (N : Int), .int .i64 (size : Int)] w fun e w' => e = .returned (.pointer (some ⟨ob, 0, none⟩)) ∧ ∃ v', HasOut w' ob v' (xs ++ beN N size) ∧ Put ob v0 v' w w' := by
  obtain ⟨i0, hi, hz0, hz1, hz2⟩ := info_parts Tryd.info5
  have h' := Box.mk h
  clear h
  go_enter Tryd.func47, Tryd.ntmps47
  go_wp2
  go_loopw [9] (fun i wr => ∃ k : Nat, k ≤ size ∧ i = .int .i64 k ∧ Box (∃ v, HasOut wr ob v (xs ++ (beN N size).take k) ∧ Put ob v0 v w wr)) (fun i _ => size - (intOf i).toNat)
  case atStart => exact ⟨0, by omega, rfl, ⟨v0, by simpa using h'.out, Put.refl _ _ _⟩⟩
  case round =>
    obtain ⟨k, hk, rfl, hr⟩ := hrel
    by_cases hlt : k < size
    · obtain ⟨v, ho, hp⟩ := hr.out
      have c0 : wr.cell? ⟨ob, 0, none⟩ = some v := by simp [World.cell?, ho.1]
      have f0 : wr.frozen? ⟨ob, 0, none⟩ = false := by simp [World.frozen?, ho.1]
      have hol := ho.lt
      have ho' := Box.mk ho
      have hp' := Box.mk hp
      have hxl : (xs ++ List.take k (beN N size)).length ≤ 900008 := by simp [beN_len]; omega
      clear hr ho hp h'
      obtain ⟨j, hj⟩ : ∃ j : Nat, Box (j = size - 1 - k) := ⟨_, ⟨rfl⟩⟩
      have hjj : (size : Int) - 1 - k = j := by rw [hj.out]; omega
      have hj8 : j ≤ 7 := by rw [hj.out]; omega
      have hw3 : IntKind.i64.wrap (8 * IntKind.i64.wrap (IntKind.i64.wrap ((size : Int) - 1) - k)) = ((8 * j : Nat) : Int) := by simp only [IntKind.wrap_i64]; omega
      go_wp2
      go_region_law ((refine step_out (by rfl) _ _ (by rfl) ob v _ ho'.out (by first | exact ((Below.refl _ _).alloc (Nat.le_refl _) _).drew | exact (Below.refl _ _).drew.alloc (Nat.le_refl _) _) (by rfl) _ [BitVec.ofNat 8 (N / 2 ^ (8 * j))] wr.heap.size (by rfl) (by first | exact new_one _ _ _ | exact new_one' _ _ _) (by simp; omega) ?_; intro a2 n2 c2 w1 c1 f1 hres))
      all_goals
        have hfin : Box (∃ v, HasOut (w1.setCell ⟨ob, 0, none⟩ (.slice a2 n2 c2)) ob v (xs ++ (beN N size).take (k + 1)) ∧ Put ob v0 v w (w1.setCell ⟨ob, 0, none⟩ (.slice a2 n2 c2))) := ⟨_, by rw [beN_take N size k hlt, ← List.append_assoc, ← hj.out]; exact hres.out.1, hp'.out.trans hres.out.2⟩
        clear hres c1 f1 c0 f0 ho' hp' hw3 hxl hjj
        generalize w1.setCell ⟨ob, 0, none⟩ (.slice a2 n2 c2) = w2 at *
        go_wp2
        go_roundw
        case rel => exact ⟨k + 1, by omega, by go_num, hfin⟩
        case measure => simp [intOf]; omega
    · have hkn : Box ((beN N size).take k = beN N size) := ⟨List.take_of_length_le (by rw [beN_len]; omega)⟩
      rw [hkn.out] at hr
      go_wp2
      go_ret
      exact ⟨rfl, hr.out⟩
end Go.Proofs.YtnppjlpnfijobaaDoor
namespace Go.Proofs.YtnppjlpnfijobaaDoor
set_option maxRecDepth 100000
open Go.RowKit
/-- A number's eight bytes. -/
def be8 (n : Int) : List (BitVec 8) := beN (n % 18446744073709551616).toNat 8
theorem be8_len (n : Int) : (be8 n).length = 8 := beN_len _ _
set_option maxHeartbeats 400000 in
theorem oint_any (ob : Nat) (n : Int) (v0 : Value) (xs : List (BitVec 8)) (w : World) (h : HasOut w ob v0 xs) (hx : xs.length ≤ 900000) :
    Calls Tryd.prog 28 #[.pointer (some ⟨ob, 0, none⟩), .int .i64 n] w fun e w' => e = .returned (.pointer (some ⟨ob, 0, none⟩)) ∧ ∃ v', HasOut w' ob v' (xs ++ be8 n) ∧ Put ob v0 v' w w' := by
  have hT := Box.mk (onumber_any ob (n % 18446744073709551616).toNat 8 v0 xs w h (by omega) (by omega) hx)
  have e1 : IntKind.u64.wrap n = (((n % 18446744073709551616).toNat : Nat) : Int) := by rw [IntKind.wrap_u64]; omega
  unfold be8
  generalize (n % 18446744073709551616).toNat = N at *
  clear h
  go_enter Tryd.func28, Tryd.ntmps28
  go_wp2_with (first | (rw [e1]; refine hT.out.mono ?_; rintro e w' ⟨rfl, h1⟩; have h1' := Box.mk h1; clear h1) | (refine hT.out.mono ?_; rintro e w' ⟨rfl, h1⟩; have h1' := Box.mk h1; clear h1))
  go_ret
  exact ⟨rfl, h1'.out⟩
theorem wpList_app {ops : Array Oper} {rest : List Oper} {o : Oper} {a : Act} {w w2 : World} {Q : Exit → Act → World → Prop} (hgd : o.guard = none) (s x : Operand) (t u : TypeId)
    (ho : o.op = .call { callee := .builtin .append, args := #[s, x], argTypes := #[t, u] }) (v y v2 : Value) (hs : a.eval s = v) (hx : a.eval x = y) (hr : (Builtin.append_ #[t, u] o.type #[v, y]).run Tryd.prog w = .ok v2 w2)
    (h : wpList Tryd.prog ops Q rest (a.put o.dst v2) w2) : wpList Tryd.prog ops Q (o :: rest) a w := by
  refine wpList_plain hgd fun K hK => ?_
  unfold Oper.wp execOp
  simp only [ho, resolve, invoke, builtin, Sem.run_bind, Sem.run_pure, Result.andThen_ok, List.map_toArray, List.map_cons, List.map_nil, hs, hx, hr]
  exact hK _ _ h
theorem rv_row {w : World} {g : Nat} {T : TypeId} {h : List (BitVec 8)} (hv : HasV w g T h) (hl : h.length = 32) : Rv w (.slice (some ⟨g, 0, none⟩) 32 32) h g :=
  .inr ⟨0, 32, by rw [hl], by omega, hv.lt, hv.bytes⟩
set_option maxHeartbeats 400000 in
theorem ohash_any (ob : Nat) (hh : List (BitVec 8)) (v0 : Value) (xs : List (BitVec 8)) (w : World) (h : HasOut w ob v0 xs) (hl : hh.length = 32) (hx : xs.length ≤ 900000) :
    Calls Tryd.prog 48 #[.pointer (some ⟨ob, 0, none⟩), .agg (hh.map V).toArray] w fun e w' => e = .returned (.pointer (some ⟨ob, 0, none⟩)) ∧ ∃ v', HasOut w' ob v' (xs ++ hh) ∧ Put ob v0 v' w w' := by
  have h' := Box.mk h
  have hol := h.lt
  clear h
  go_enter Tryd.func48, Tryd.ntmps48
  go_upto_region 1 with fail
  refine code_any (fun w1 => HasV w1 w.heap.size 33 hh ∧ Below w.heap.size w w1) ?_ ?_
  · exact ⟨heap_alloc_new _ _, (Below.refl _ _).alloc (Nat.le_refl _) _⟩
  rintro w1 ⟨hv1, hb1⟩
  have hB1 := Box.mk hv1
  have c0 : w1.cell? ⟨ob, 0, none⟩ = some v0 := by rw [hb1.cell (by exact hol)]; simp [World.cell?, h'.out.1]
  clear hv1
  go_region_law ((refine step_out (by rfl) _ _ (by rfl) ob v0 _ h'.out (by first | exact hb1.drew | exact hb1) (by rfl) _ hh w.heap.size (by rfl) (by first | exact rv_row hB1.out.drew hl | exact rv_row hB1.out hl) (by omega) ?_; intro a2 n2 c2 w2 c1 f1 hres))
  all_goals
    go_wp2
    go_ret
    exact ⟨rfl, _, hres.out⟩
/-- A slice value that has n hashes, one behind the other. -/
structure Fl (w : World) (A : Option Addr) (lb lo n : Nat) (D : List (BitVec 8)) : Prop where
  len : D.length = 32 * n
  src : 0 < n → A = some ⟨lb, lo, none⟩ ∧ lb < w.heap.size ∧ HasB w lb lo D
theorem Fl.keep {w w' : World} {A : Option Addr} {lb lo n : Nat} {D : List (BitVec 8)} (h : Fl w A lb lo n D) (hs : w.heap.size ≤ w'.heap.size) (hk : 0 < n → w'.heap[lb]? = w.heap[lb]?) : Fl w' A lb lo n D :=
  ⟨h.len, fun hn => ⟨(h.src hn).1, Nat.lt_of_lt_of_le (h.src hn).2.1 hs, fun i hi => by rw [World.cell?_of_block (w := w) (hk hn)]; exact (h.src hn).2.2 i hi⟩⟩
theorem Fl.below {w w' : World} {A : Option Addr} {lb lo n B : Nat} {D : List (BitVec 8)} (h : Fl w A lb lo n D) (hb : Below B w w') (hB : 0 < n → lb < B) : Fl w' A lb lo n D := h.keep hb.size fun hn => hb.block lb (hB hn)
/-- Hash number k. -/
def nth (D : List (BitVec 8)) (k : Nat) : List (BitVec 8) := (D.drop (32 * k)).take 32
theorem nth_len (D : List (BitVec 8)) (n k : Nat) (h : D.length = 32 * n) (hk : k < n) : (nth D k).length = 32 := by unfold nth; simp; omega
theorem nth_take (D : List (BitVec 8)) (k : Nat) : D.take (32 * (k + 1)) = D.take (32 * k) ++ nth D k := by
  unfold nth
  rw [show 32 * (k + 1) = 32 * k + 32 by omega, List.take_add]
theorem Fl.range {w : World} {A : Option Addr} {lb lo n : Nat} {D : List (BitVec 8)} (h : Fl w A lb lo n D) (k : Nat) (hk : k < n) : w.rangeAt lb (lo + k * 32) ((nth D k).map V) := by
  intro j v hj
  have hB := ((h.src (by omega)).2.2.drop (32 * k)).take 32
  have := hB.src 32 j v
  rw [List.take_take, Nat.min_self] at this
  have h2 := this hj
  rw [Addr.add_mid] at h2
  rw [Nat.mul_comm k 32]
  exact h2
set_option maxHeartbeats 400000 in
theorem ohashes_any (ob lb lo n c : Nat) (A : Option Addr) (D : List (BitVec 8)) (v0 : Value) (xs : List (BitVec 8)) (w : World) (h : HasOut w ob v0 xs) (hf : Fl w A lb lo n D) (hlb : 0 < n → lb < ob) (hn : n ≤ 1000) (hx : xs.length ≤ 800000) :
    Calls Tryd.prog 29 #[.pointer (some ⟨ob, 0, none⟩), .slice A n c] w fun e w' => e = .returned (.pointer (some ⟨ob, 0, none⟩)) ∧ ∃ v', HasOut w' ob v' (xs ++ beN n 4 ++ D) ∧ Put ob v0 v' w w' := by
  have hT := Box.mk (onumber_any ob n 4 v0 xs w h (by omega) (by omega) (by omega))
  have hf' := Box.mk hf
  have h' := Box.mk h
  have hl4 := beN_len n 4
  have hDl := hf.len
  clear hf h
  go_enter Tryd.func29, Tryd.ntmps29
  go_wp2_with (refine hT.out.mono ?_; rintro e w' ⟨rfl, h1⟩; have h1' := Box.mk h1; clear h1)
  go_loopw [13] (fun i wr => ∃ k : Nat, k ≤ n ∧ i = .int .i64 k ∧ Box (∃ v, HasOut wr ob v (xs ++ beN n 4 ++ D.take (32 * k)) ∧ Put ob v0 v w wr)) (fun i _ => n - (intOf i).toNat)
  case atStart => exact ⟨0, by omega, rfl, ⟨by simpa using h1'.out⟩⟩
  case round =>
    obtain ⟨k, hk, rfl, hr⟩ := hrel
    by_cases hlt : k < n
    · obtain ⟨rfl, hlw, _⟩ := hf'.out.src (by omega)
      obtain ⟨v, ho, hp⟩ := hr.out
      have hb : Below ob w wr := hp.below h'.out ob (Nat.le_refl _)
      have hrg := Box.mk ((hf'.out.below hb hlb).range k hlt)
      have hC : Box (Calls Tryd.prog 48 #[.pointer (some ⟨ob, 0, none⟩), .agg ((nth D k).map V).toArray] wr fun e w' => e = .returned (.pointer (some ⟨ob, 0, none⟩)) ∧ Box (∃ v', HasOut w' ob v' (xs ++ beN n 4 ++ D.take (32 * (k + 1))) ∧ Put ob v0 v' w w')) := ⟨by
        refine (ohash_any ob (nth D k) v _ wr ho (nth_len D n k hDl hlt) (by simp [hl4]; omega)).mono ?_
        rintro e w2 ⟨rfl, v', h3, h4⟩
        rw [List.append_assoc, ← nth_take] at h3
        exact ⟨rfl, ⟨v', h3, hp.trans h4⟩⟩⟩
      have hsz : Box (((nth D k).map V).length = 32) := ⟨by rw [List.length_map]; exact nth_len D n k hDl hlt⟩
      clear hr ho hp h1' hb
      go_wp2_with (first | (refine wpList_load_mid rfl 33 (.tmp 19) rfl lb (lo + k * 32) rfl ((nth D k).map V) _ hrg.out Tryd.under33 rfl (by rw [hsz.out]; exact Tryd.size33) ?_) | (refine hC.out.mono ?_; rintro e w2 ⟨rfl, h3⟩))
      go_roundw
      case rel => exact ⟨k + 1, by omega, by go_num, h3⟩
      case measure => simp [intOf]; omega
    · have hkn : Box (D.take (32 * k) = D) := ⟨List.take_of_length_le (by omega)⟩
      rw [hkn.out] at hr
      go_wp2
      go_ret
      exact ⟨rfl, hr.out⟩
end Go.Proofs.YtnppjlpnfijobaaDoor
namespace Go.Proofs.YtnppjlpnfijobaaDoor
set_option maxRecDepth 100000
open Go.RowKit
theorem flat_len2 : ∀ (hs : List (List (BitVec 8))), (∀ (i : Nat) (x : List (BitVec 8)), hs[i]? = some x → x.length = 32) → hs.flatten.length = 32 * hs.length
  | [], _ => rfl
  | x :: r, h => by
    rw [List.flatten_cons, List.length_append, h 0 x rfl, flat_len2 r (fun i y hy => h (i + 1) y (by simpa using hy)), List.length_cons]
    omega
theorem Hl.len32 {w : World} {A : Option Addr} {lb lo : Nat} {hs : List (List (BitVec 8))} (h : Hl w A lb lo hs) : ∀ (i : Nat) (x : List (BitVec 8)), hs[i]? = some x → x.length = 32 := fun i x hi => (h.all i x hi).1
theorem hl_fl {w : World} {A : Option Addr} {lb lo : Nat} {hs : List (List (BitVec 8))} (h : Hl w A lb lo hs) : Fl w A lb lo hs.length hs.flatten := by
  have hfl := flat_len2 hs h.len32
  refine ⟨hfl, fun hn => ⟨h.ptr hn, h.lt hn, fun i hi => ?_⟩⟩
  rw [hfl] at hi
  obtain ⟨x, hx⟩ : ∃ x, hs[i / 32]? = some x := ⟨_, List.getElem?_eq_getElem (by omega)⟩
  obtain ⟨h1, h2⟩ := h.all (i / 32) x hx
  have h3 := h2 (i % 32) (by rw [h1]; omega)
  have h4 := flat_at hs h.len32 (i / 32) x hx (i % 32) (by omega)
  rw [show i / 32 * 32 + i % 32 = i by omega] at h4
  rw [show lo + i = lo + i / 32 * 32 + i % 32 by omega, h3, List.getD_eq_getElem?_getD, List.getD_eq_getElem?_getD, h4]
theorem hs_fl {w : World} {A : Option Addr} {C : Nat} {hs : List (List (BitVec 8))} (h : (Fk.hs hs).f (.slice A hs.length C) w) : ∃ lb lo, Fl w A lb lo hs.length hs.flatten := by
  obtain ⟨A', C', lb, lo, e, hl⟩ := h
  injection e with e1 e2 e3
  subst e1
  exact ⟨lb, lo, hl_fl hl⟩
theorem out_nil {w : World} {ob : Nat} (h : Ob w ob 58 [.slice none 0 0]) : HasOut w ob (.slice none 0 0) [] := ⟨h, World.ownsRow_nil _ _ _ _⟩
theorem out_rv {w : World} {ob : Nat} {v : Value} {xs : List (BitVec 8)} (h : HasOut w ob v xs) : ∃ gb, Rv w v xs gb := by
  rcases own_rv h.2 with ⟨e1, e2⟩ | ⟨g, _, _, _, hr⟩
  · exact ⟨0, .inl ⟨e1, e2⟩⟩
  · exact ⟨g, hr⟩
theorem rv_sl {w : World} {v : Value} {xs : List (BitVec 8)} {gb : Nat} (h : Rv w v xs gb) : (Fk.sl xs).f v w := by
  rcases h with ⟨rfl, rfl⟩ | ⟨go, c, rfl, hc, hl, hB⟩
  · exact ⟨none, 0, 0, 0, 0, rfl, rfl, Nat.le_refl _, fun _ => ⟨rfl, rfl⟩, fun h => absurd h (by omega)⟩
  · exact ⟨_, _, c, gb, go, rfl, rfl, hc, (fun e => by cases e), fun _ => ⟨rfl, hl, hB⟩⟩
theorem own_sl {w : World} {base n : Nat} {v : Value} {xs : List (BitVec 8)} (h : w.ownsRow base 5 1 v n (xs.map V)) : (Fk.sl xs).f v w := by
  rcases own_rv h with ⟨e1, e2⟩ | ⟨g, _, _, _, hr⟩
  · exact rv_sl (gb := 0) (.inl ⟨e1, e2⟩)
  · exact rv_sl hr
theorem sl_rv {w : World} {v : Value} {xs : List (BitVec 8)} (h : (Fk.sl xs).f v w) : (∃ gb, Rv w v xs gb) ∨ ∃ sp c, v = .slice sp 0 c ∧ xs = [] := by
  obtain ⟨sp, m, c, b, o, rfl, hs⟩ := h
  have hl := hs.len
  subst hl
  rcases Nat.eq_zero_or_pos xs.length with h0 | h0
  · exact .inr ⟨sp, c, by rw [h0], List.length_eq_zero_iff.1 h0⟩
  · obtain ⟨e, hlt, hB⟩ := hs.src h0
    exact .inl ⟨b, .inr ⟨o, c, by rw [e], hs.cap, hlt, hB⟩⟩
/-- The bytes of hashes, of a signature. -/
def hsb (hs : List (List (BitVec 8))) : List (BitVec 8) := beN hs.length 4 ++ hs.flatten
end Go.Proofs.YtnppjlpnfijobaaDoor
namespace Go.Proofs.YtnppjlpnfijobaaDoor
set_option maxRecDepth 100000
open Go.RowKit
theorem beN_succ (N s : Nat) : beN N (s + 1) = BitVec.ofNat 8 (N / 2 ^ (8 * s)) :: beN N s := by
  unfold beN
  rw [List.range_succ_eq_map, List.map_cons, List.map_map]
  congr 1
  apply List.map_congr_left
  intro k hk
  have hk2 : k < s := by simpa using hk
  simp only [Function.comp]
  rw [show s + 1 - 1 - (k + 1) = s - 1 - k by omega]
theorem num_cons (x : BitVec 8) (r : List (BitVec 8)) : num (x :: r) = x.toNat * 256 ^ r.length + num r := by
  have := num_append [x] r
  rw [List.singleton_append] at this
  rw [this]; simp [num]
theorem num_beN (N s : Nat) : num (beN N s) = N % 256 ^ s := by
  induction s with
  | zero => rw [show (beN N 0) = [] from rfl, num_nil, Nat.pow_zero, Nat.mod_one]
  | succ s ih =>
    rw [beN_succ, num_cons, ih, beN_len, BitVec.toNat_ofNat, show (2 : Nat) ^ (8 * s) = 256 ^ s by rw [Nat.pow_mul], show N % 256 ^ (s + 1) = _ from Nat.mod_pow_succ]
    rw [Nat.mul_comm (256 ^ s) (N / 256 ^ s % 256), Nat.add_comm]
theorem takeB_app (xs ys : List (BitVec 8)) (n : Nat) (h : xs.length = n) : takeB (xs ++ ys) n = xs := by
  unfold takeB; rw [if_pos (by simp; omega), List.take_left' h]
theorem dropB_app (xs ys : List (BitVec 8)) (n : Nat) (h : xs.length = n) : dropB (xs ++ ys) n = ys := by
  unfold dropB; rw [if_pos (by simp; omega), List.drop_left' h]
theorem badB_app (xs ys : List (BitVec 8)) (n : Nat) (h : xs.length = n) (bad : Bool) : badB (xs ++ ys) bad n = bad := by
  unfold badB; rw [if_pos (by simp; omega)]
theorem rdI_be8 (n : Int) (r : List (BitVec 8)) (h1 : -9223372036854775808 ≤ n) (h2 : n ≤ 9223372036854775807) : rdI (be8 n ++ r) = n := by
  unfold rdI
  rw [takeB_app _ _ 8 (be8_len n)]
  unfold be8
  rw [num_beN, IntKind.wrap_i64]
  omega
theorem lt256 (n : Nat) (h : n ≤ 100000) : num (beN n 4) = n := by rw [num_beN]; omega
theorem hs_whole (n : Nat) (D r : List (BitVec 8)) (most : Nat) (hm : most ≤ 1000) (hD : D.length = 32 * n) (h : n ≤ most) : hsN (beN n 4 ++ D ++ r) most = n ∧ hsD (beN n 4 ++ D ++ r) most = D ++ r ∧ hsX (beN n 4 ++ D ++ r) false most = false := by
  rw [List.append_assoc]
  have e1 := takeB_app (beN n 4) (D ++ r) 4 (beN_len _ _)
  have e2 := dropB_app (beN n 4) (D ++ r) 4 (beN_len _ _)
  have e3 := badB_app (beN n 4) (D ++ r) 4 (beN_len _ _) false
  have e4 := lt256 n (by omega)
  have hk : lenB (beN n 4 ++ (D ++ r)) most 32 = true := by
    rw [lenB_iff]; unfold lenOk; rw [e1, e2, e4, List.length_append]; omega
  unfold hsN hsD hsX
  rw [if_pos hk, if_pos hk, if_pos hk, e1, e2, e3, e4]
  exact ⟨rfl, rfl, rfl⟩
/-- Count: what it tells, what is left, whether it is bad. -/
def cV (l m : Int) (bs : List (BitVec 8)) : Int := if l ≤ rdI bs ∧ rdI bs ≤ m then rdI bs else 0
def cR (l m : Int) (bs : List (BitVec 8)) : List (BitVec 8) := if l ≤ rdI bs ∧ rdI bs ≤ m then dropB bs 8 else []
def cX (l m : Int) (bs : List (BitVec 8)) (bad : Bool) : Bool := if l ≤ rdI bs ∧ rdI bs ≤ m then badB bs bad 8 else true
theorem cR_len (l m : Int) (bs : List (BitVec 8)) : (cR l m bs).length ≤ bs.length := by
  unfold cR dropB
  split
  · split <;> simp
  · simp
theorem c_be8 (l m n : Int) (r : List (BitVec 8)) (h1 : l ≤ n) (h2 : n ≤ m) (hl : -9223372036854775808 ≤ l) (hm : m ≤ 9223372036854775807) : cV l m (be8 n ++ r) = n ∧ cR l m (be8 n ++ r) = r ∧ cX l m (be8 n ++ r) false = false := by
  have e := rdI_be8 n r (by omega) (by omega)
  unfold cV cR cX
  rw [e, if_pos ⟨h1, h2⟩, if_pos ⟨h1, h2⟩, if_pos ⟨h1, h2⟩, dropB_app _ _ 8 (be8_len n), badB_app _ _ 8 (be8_len n)]
  exact ⟨rfl, rfl, rfl⟩
/-- The first n hashes of bytes. -/
def chk (n : Nat) (D : List (BitVec 8)) : List (List (BitVec 8)) := (List.range n).map fun j => (D.drop (32 * j)).take 32
theorem chk_len (n : Nat) (D : List (BitVec 8)) : (chk n D).length = n := by simp [chk]
theorem chk_at (n : Nat) (D : List (BitVec 8)) (hD : 32 * n ≤ D.length) (j : Nat) (x : List (BitVec 8)) (h : (chk n D)[j]? = some x) : j < n ∧ x = (D.drop (32 * j)).take 32 ∧ x.length = 32 := by
  have hj : j < n := by
    rcases Nat.lt_or_ge j n with h1 | h1
    · exact h1
    · rw [List.getElem?_eq_none (by rw [chk_len]; exact h1)] at h; cases h
  have e : x = (D.drop (32 * j)).take 32 := by
    unfold chk at h
    rw [List.getElem?_map, List.getElem?_range hj] at h
    exact (Option.some.inj h).symm
  refine ⟨hj, e, ?_⟩
  rw [e, List.length_take, List.length_drop]
  omega
theorem chk_of (S : List (List (BitVec 8))) (hS : ∀ (i : Nat) (x : List (BitVec 8)), S[i]? = some x → x.length = 32) (r : List (BitVec 8)) : chk S.length (S.flatten ++ r) = S := by
  apply List.ext_getElem?
  intro j
  rcases Nat.lt_or_ge j S.length with h | h
  · obtain ⟨x, hx⟩ : ∃ x, S[j]? = some x := ⟨_, List.getElem?_eq_getElem h⟩
    have hl := hS j x hx
    have hf := flat_len2 S hS
    rw [hx]
    unfold chk
    rw [List.getElem?_map, List.getElem?_range h, Option.map_some]
    congr 1
    apply List.ext_getElem?
    intro t
    rcases Nat.lt_or_ge t 32 with ht | ht
    · rw [List.getElem?_take, if_pos ht, List.getElem?_drop, List.getElem?_append_left (by rw [hf]; omega), Nat.mul_comm]
      exact flat_at S hS j x hx t ht
    · rw [List.getElem?_eq_none (by rw [List.length_take]; omega), List.getElem?_eq_none (by omega)]
  · rw [List.getElem?_eq_none h, List.getElem?_eq_none (by rw [chk_len]; exact h)]
/-- What is left, step by step. -/
def b1 (bs : List (BitVec 8)) := cR 1 2 bs
def b2 (bs : List (BitVec 8)) := cR 0 255 (b1 bs)
def b3 (bs : List (BitVec 8)) := (hsD (b2 bs) (512 : Nat)).drop (32 * hsN (b2 bs) (512 : Nat))
def b4 (bs : List (BitVec 8)) := (hsD (b3 bs) (8 : Nat)).drop (32 * hsN (b3 bs) (8 : Nat))
def t1 (bs : List (BitVec 8)) := cX 1 2 bs false
def t2 (bs : List (BitVec 8)) := cX 0 255 (b1 bs) (t1 bs)
end Go.Proofs.YtnppjlpnfijobaaDoor
namespace Go.Proofs.YtnppjlpnfijobaaDoor
set_option maxRecDepth 100000
open Go.RowKit
theorem run_app_empty (w : World) (sp : Option Addr) (c : Nat) (ty : TypeId) : (Builtin.append_ #[39, 39] ty #[.slice none 0 0, .slice sp 0 c]).run Tryd.prog w = .ok (.slice none 0 0) w := by
  obtain ⟨i0, hi, hz0, hz1, hz2⟩ := info_parts Tryd.info5
  cases sp <;> simp [Builtin.append_, run_underlying Tryd.under39, sizeOf, typeInfo, hi, Builtin.lenOf, Builtin.firstCells, loadCells, loadCellsFrom]
set_option maxHeartbeats 400000 in
theorem newIn_e (sp : Option Addr) (c : Nat) (w : World) :
    Calls Tryd.prog 34 #[.slice sp 0 c] w fun e w' => ∃ ib g, e = .returned (.pointer (some ⟨ib, 0, none⟩)) ∧ w.heap.size ≤ ib ∧ w.heap.size ≤ g ∧ HasIn w' ib [] false g ∧ Below w.heap.size w w' := by
  have hr := Box.mk (run_app_empty w sp c 39)
  go_enter Tryd.func34, Tryd.ntmps34
  go_wp2_with (at_builtin; refine wpList_app rfl _ _ 39 39 rfl (.slice none 0 0) (.slice sp 0 c) (.slice none 0 0) rfl rfl hr.out ?_)
  go_ret
  exact ⟨w.heap.size, w.heap.size + 1, rfl, Nat.le_refl _, by omega, ⟨_, heap_alloc_new _ _, .inl ⟨rfl, rfl⟩, by omega⟩, (Below.refl _ _).alloc (Nat.le_refl _) _⟩
theorem in_new {bs : List (BitVec 8)} {v : Value} {w : World} (h : (Fk.sl bs).f v w) (hl : bs.length ≤ 900000) :
    Calls Tryd.prog 34 #[v] w fun e w' => ∃ u, e = .returned u ∧ ∃ ib, u = .pointer (some ⟨ib, 0, none⟩) ∧ w.heap.size ≤ ib ∧ HasI w' ib bs false ∧ Below w.heap.size w w' := by
  rcases sl_rv h with ⟨gb, hr⟩ | ⟨sp, c, rfl, rfl⟩
  · refine (newIn_any v gb bs w hr hl).mono ?_
    rintro e w' ⟨ib, g, rfl, h1, _, h3, h4⟩
    exact ⟨_, rfl, ib, rfl, h1, ⟨g, h3⟩, h4⟩
  · refine (newIn_e sp c w).mono ?_
    rintro e w' ⟨ib, g, rfl, h1, _, h3, h4⟩
    exact ⟨_, rfl, ib, rfl, h1, ⟨g, h3⟩, h4⟩
theorem in_count {ib : Nat} {bs : List (BitVec 8)} {bad : Bool} (l m : Int) (w : World) (h : HasI w ib bs bad) (hbs : bs.length ≤ 1000000) :
    Calls Tryd.prog 35 #[.pointer (some ⟨ib, 0, none⟩), .int .i64 l, .int .i64 m] w fun e w' => ∃ u, e = .returned u ∧ u = .int .i64 (cV l m bs) ∧ HasI w' ib (cR l m bs) (cX l m bs bad) ∧ Only ib w w' := by
  obtain ⟨gb, h⟩ := h
  refine (count_any ib gb bs bad l m w h hbs).mono ?_
  rintro e w' ⟨⟨h1, rfl, h2⟩ | ⟨h1, rfl, h2⟩, ho⟩
  · unfold cV cR cX
    rw [if_pos h1, if_pos h1, if_pos h1]
    exact ⟨_, rfl, rfl, ⟨gb, h2⟩, ho⟩
  · unfold cV cR cX
    rw [if_neg h1, if_neg h1, if_neg h1]
    exact ⟨_, rfl, rfl, ⟨gb, h2⟩, ho⟩
theorem hl_chk {w : World} {L n : Nat} {D : List (BitVec 8)} (h : HasB w L 0 (D.take (32 * n))) (hL : L < w.heap.size) (hD : 32 * n ≤ D.length) : Hl w (some ⟨L, 0, none⟩) L 0 (chk n D) := by
  refine ⟨fun _ => rfl, fun _ => hL, fun i x hi => ?_⟩
  obtain ⟨h1, h2, h3⟩ := chk_at n D hD i x hi
  refine ⟨h3, fun j hj => ?_⟩
  rw [h3] at hj
  have h4 := h (i * 32 + j) (by rw [List.length_take]; omega)
  rw [Nat.zero_add] at h4
  rw [show 0 + i * 32 + j = i * 32 + j by omega, h4, h2, List.getD_eq_getElem?_getD, List.getD_eq_getElem?_getD, List.getElem?_take, if_pos (by omega), List.getElem?_take, if_pos hj, List.getElem?_drop, Nat.mul_comm]
theorem in_done {ib : Nat} {bs : List (BitVec 8)} {bad : Bool} (w : World) (h : HasI w ib bs bad) :
    Calls Tryd.prog 38 #[.pointer (some ⟨ib, 0, none⟩)] w fun e w' => e = .returned (.bool (!bad && decide (bs = []))) ∧ Below w.heap.size w w' := by
  obtain ⟨gb, h⟩ := h
  refine (done_any ib gb bs bad w h).mono ?_
  rintro e w' ⟨rfl, rfl⟩
  exact ⟨rfl, Below.refl _ _⟩
end Go.Proofs.YtnppjlpnfijobaaDoor
namespace Go.Proofs.YtnppjlpnfijobaaDoor
set_option maxRecDepth 100000
open Go.RowKit
end Go.Proofs.YtnppjlpnfijobaaDoor
namespace Go.Proofs.YtnppjlpnfijobaaDoor
set_option maxRecDepth 100000
open Go.RowKit
theorem Tryd.makes (c : Nat) (hc : c ≤ 1000000) (w : World) : (Instr.makeSlice 39 (.int .i64 (c : Int)) (.int .i64 (c : Int))).run Tryd.prog w = .ok (.slice (some ⟨w.heap.size, 0, none⟩) c c) (w.alloc (.cells ((zs c).map V).toArray 5)) := by
  obtain ⟨i0, hi, hz0, hz1, hz2⟩ := info_parts Tryd.info5
  have := run_make (P := Tryd.prog) w 39 5 i0 (.int .u8 0) Tryd.under39 hi hz0 .i64 .i64 (c : Int) (c : Int) (by omega) (by omega) (by rw [hz2]; omega) (by omega)
  rw [hz1, Int.toNat_natCast, Nat.mul_one, made_eq] at this
  exact this
attribute [local go_sem] kb_v
end Go.Proofs.YtnppjlpnfijobaaDoor
namespace Go.Proofs.YtnppjlpnfijobaaDoor
set_option maxRecDepth 100000
open Go.RowKit
attribute [local go_sem] kb_v
end Go.Proofs.YtnppjlpnfijobaaDoor
namespace Go.Proofs.YtnppjlpnfijobaaDoor
set_option maxRecDepth 100000
open Go.RowKit
end Go.Proofs.YtnppjlpnfijobaaDoor
namespace Go.Proofs.YtnppjlpnfijobaaDoor
set_option maxRecDepth 100000
open Go.RowKit
end Go.Proofs.YtnppjlpnfijobaaDoor
namespace Go.Proofs.YtnppjlpnfijobaaDoor
set_option maxRecDepth 100000
open Go.RowKit
section
variable {Q : Exit → Act → World → Prop} {o : Oper} {a : Act} {w : World} {ops : Array Oper} {rest : List Oper}
end
end Go.Proofs.YtnppjlpnfijobaaDoor
namespace Go.Proofs.YtnppjlpnfijobaaDoor
set_option maxRecDepth 100000
open Go.RowKit
theorem take_succ_eq {A B : List (List (BitVec 8))} {k : Nat} {x : List (BitVec 8)} (h : A.take k = B.take k) (ha : A[k]? = some x) (hb : B[k]? = some x) : A.take (k + 1) = B.take (k + 1) := by
  rw [List.take_add_one, List.take_add_one, ha, hb, h]
theorem neq_at {A B : List (List (BitVec 8))} {k : Nat} {x y : List (BitVec 8)} (ha : A[k]? = some x) (hb : B[k]? = some y) (h : x ≠ y) : A ≠ B := by
  intro e
  rw [e, hb] at ha
  exact h (Option.some.inj ha).symm
end Go.Proofs.YtnppjlpnfijobaaDoor
namespace Go.Proofs.YtnppjlpnfijobaaDoor
set_option maxRecDepth 100000
open Go.RowKit
/-- A Range in memory: at block g, its row of peaks (if it has one) at block k; it has so many leaves, and these peaks. (Turn to the landed struct.) -/
def HR (w : World) (g k n : Nat) (P : List (List (BitVec 8))) : Prop :=
  n ≤ 1048576 ∧ P.length = pcn n ∧ (∀ x ∈ P, x.length = 32) ∧ ∃ v, Ob w g 51 [.int .i64 (n : Int), v] ∧ ((v = .slice none 0 0 ∧ P = [] ∧ k = g) ∨ ∃ cap cur, v = .slice (some ⟨k, 0, none⟩) P.length cap ∧ k ≠ g ∧ w.heap[k]? = some (.cells cur 33 (0, 0)) ∧ P.length ≤ cap ∧ cap ≤ maxLen ∧ cur.size = cap * 32 ∧ cur.toList.take (P.length * 32) = P.flatten.map V)
theorem HR.lt {w : World} {g k n : Nat} {P : List (List (BitVec 8))} (h : HR w g k n P) : g < w.heap.size ∧ k < w.heap.size := by
  obtain ⟨_, _, _, v, hob, h | ⟨cap, cur, _, _, hk, _⟩⟩ := h
  · exact ⟨Ob.lt hob, by rw [h.2.2]; exact Ob.lt hob⟩
  · exact ⟨Ob.lt hob, (Array.getElem?_eq_some_iff.1 hk).1⟩
theorem HR.keep {w w' : World} {g k n : Nat} {P : List (List (BitVec 8))} (h : HR w g k n P) (hg : w'.heap[g]? = w.heap[g]?) (hk : w'.heap[k]? = w.heap[k]?) : HR w' g k n P := by
  obtain ⟨h1, h2, h3, v, hob, h4⟩ := h
  refine ⟨h1, h2, h3, v, by unfold Ob; rw [hg]; exact hob, ?_⟩
  rcases h4 with h4 | ⟨cap, cur, e, hkg, hr, h5⟩
  · exact .inl h4
  · exact .inr ⟨cap, cur, e, hkg, by rw [hk]; exact hr, h5⟩
theorem HR.n {w : World} {g k n : Nat} {P : List (List (BitVec 8))} (h : HR w g k n P) : n ≤ 1048576 := h.1
theorem HR.pcn {w : World} {g k n : Nat} {P : List (List (BitVec 8))} (h : HR w g k n P) : P.length = pcn n := h.2.1
theorem HR.h32 {w : World} {g k n : Nat} {P : List (List (BitVec 8))} (h : HR w g k n P) : ∀ x ∈ P, x.length = 32 := h.2.2.1
theorem HR.mono {w w' : World} {g k n : Nat} {P : List (List (BitVec 8))} (h : HR w g k n P) (hb : Below w.heap.size w w') : HR w' g k n P := h.keep (hb.block g h.lt.1) (hb.block k h.lt.2)
theorem HR.len {w : World} {g k n : Nat} {P : List (List (BitVec 8))} (h : HR w g k n P) : P.length ≤ 21 := by rw [h.pcn]; exact pcn_log 21 n (by have := h.n; omega)
/-- A pointer to a Range, all of it at or behind g0. -/
def Fk.rn (g0 n : Nat) (P : List (List (BitVec 8))) : Fk := .inr (.inl ⟨fun v w => ∃ g k, v = .pointer (some ⟨g, 0, none⟩) ∧ g0 ≤ g ∧ g0 ≤ k ∧ HR w g k n P, by
  rintro v w w' ⟨g, k, e, h1, h2, h⟩ hb
  exact ⟨g, k, e, h1, h2, h.mono hb⟩⟩)
/-- All blocks but two are as they were. -/
structure Kp (g k : Nat) (w w' : World) : Prop where
  os : w'.os = w.os
  tape : w'.tape = w.tape
  output : w'.output = w.output
  size : w.heap.size ≤ w'.heap.size
  block : ∀ j, j < w.heap.size → j ≠ g → j ≠ k → w'.heap[j]? = w.heap[j]?
theorem Kp.below {g k B : Nat} {w w' : World} (h : Kp g k w w') (hB : B ≤ w.heap.size) (hg : B ≤ g) (hk : B ≤ k) : Below B w w' := ⟨h.os, h.tape, h.output, h.size, fun j hj => h.block j (by omega) (by omega) (by omega)⟩
theorem Kp.grow {g k : Nat} {w w1 w2 : World} (h : Kp g k w w1) (hb : Below w1.heap.size w1 w2) : Kp g k w w2 := ⟨hb.os.trans h.os, hb.tape.trans h.tape, hb.output.trans h.output, Nat.le_trans h.size hb.size, fun j hj h1 h2 => (hb.block j (Nat.lt_of_lt_of_le hj h.size)).trans (h.block j hj h1 h2)⟩
theorem Kp.of_below (g k : Nat) {w w1 : World} (h : Below w.heap.size w w1) : Kp g k w w1 := ⟨h.os, h.tape, h.output, h.size, fun j hj _ _ => h.block j hj⟩
theorem Kp.setRow_new {g k b : Nat} {w w1 : World} (h : Kp g k w w1) (hb : w.heap.size ≤ b) (cs : Array Value) : Kp g k w (w1.setRow b cs) := by
  have h2 := (Only.refl b w1).setRow cs
  exact ⟨h2.os.trans h.os, h2.tape.trans h.tape, h2.output.trans h.output, Nat.le_trans h.size h2.size, fun j hj h3 h4 => (h2.block j (Nat.lt_of_lt_of_le hj h.size) (by omega)).trans (h.block j hj h3 h4)⟩
theorem Kp.step {g k k1 : Nat} {w w1 w2 : World} (h : Kp g k w w1) (h2 : Kp g k1 w1 w2) (hk : k1 = k ∨ w.heap.size ≤ k1) : Kp g k w w2 := ⟨h2.os.trans h.os, h2.tape.trans h.tape, h2.output.trans h.output, Nat.le_trans h.size h2.size, fun j hj h3 h4 => (h2.block j (Nat.lt_of_lt_of_le hj h.size) h3 (by rcases hk with e | e <;> omega)).trans (h.block j hj h3 h4)⟩
theorem hc_kp {g k : Nat} {w w1 : World} {M : List (List (BitVec 8))} {v : Value} (hv : (Fk.hc M).f v w) (hap : 0 < M.length → v.ownBlock ≠ some g ∧ v.ownBlock ≠ some k) (h : Kp g k w w1) : (Fk.hc M).f v w1 := by
  obtain ⟨A, C, lb, lo, rfl, hc, hl⟩ := hv
  refine ⟨A, C, lb, lo, rfl, hc, hl.ptr, fun h0 => Nat.lt_of_lt_of_le (hl.lt h0) h.size, fun i x hi => ⟨(hl.all i x hi).1, fun j hj => ?_⟩⟩
  have h0 : 0 < M.length := by have := (List.getElem?_eq_some_iff.1 hi).1; omega
  have hp := hl.ptr h0
  have hlt := hl.lt h0
  obtain ⟨a1, a2⟩ := hap h0
  subst hp
  have n1 : lb ≠ g := fun e => a1 (by rw [e]; rfl)
  have n2 : lb ≠ k := fun e => a2 (by rw [e]; rfl)
  rw [World.cell?_of_block (w := w) (h.block lb hlt n1 n2)]
  exact (hl.all i x hi).2 j hj
theorem tab_kp {g k : Nat} {w w1 : World} (hK : Tab w) (h00 : 2 < g ∧ 2 < k) (h : Kp g k w w1) : Tab w1 := by
  refine ⟨fun i hi => ?_, Nat.lt_of_lt_of_le hK.pos h.size, fun i hi => ?_, Nat.lt_of_lt_of_le hK.zpos h.size⟩
  · have := hK.K i hi
    rw [World.cell?_of_block (w := w) (h.block 2 hK.pos (by omega) (by omega))]
    exact this
  · have := hK.Z i hi
    rw [World.cell?_of_block (w := w) (h.block 1 hK.zpos (by omega) (by omega))]
    exact this
theorem HR.kp {w w' : World} {g k g2 k2 n : Nat} {P : List (List (BitVec 8))} (h : HR w g k n P) (hK : Kp g2 k2 w w') (h1 : g ≠ g2) (h2 : g ≠ k2) (h3 : k ≠ g2) (h4 : k ≠ k2) : HR w' g k n P := h.keep (hK.block g h.lt.1 h1 h2) (hK.block k h.lt.2 h3 h4)
theorem Ob.kp {w w' : World} {b g2 k2 : Nat} {T : TypeId} {cs : List Value} (h : Ob w b T cs) (hK : Kp g2 k2 w w') (h1 : b ≠ g2) (h2 : b ≠ k2) : Ob w' b T cs := by
  unfold Ob at *
  rw [hK.block b (Ob.lt h) h1 h2]
  exact h
/-- The root, by the peaks. -/
def rtp (P : List (List (BitVec 8))) : List (BitVec 8) := if P = [] then shaOf [] else jn P (P.length - 1)
theorem rtp_pks (L : List (List (BitVec 8))) {n : Nat} (hn : n ≤ 127) (hl : n ≤ L.length) : rtp (pks L n) = mroot (L.take n) := by
  unfold rtp
  by_cases h : n = 0
  · subst h
    rw [pks_zero, if_pos rfl, List.take_zero, mroot_nil]
  · have h1 := pks_join L (n := n) (by omega) hn hl
    rw [if_neg (by rw [pks_pos L h]; simp), h1]
theorem hc_ap {l : List (List (BitVec 8))} {v : Value} {w : World} {g k : Nat} (hv : (Fk.hc l).f v w) (hg : w.heap.size ≤ g) (hk : w.heap.size ≤ k) : 0 < l.length → v.ownBlock ≠ some g ∧ v.ownBlock ≠ some k := by
  intro h0
  obtain ⟨A, C, lb, lo, rfl, _, hl⟩ := hv
  have hp := hl.ptr h0
  have hlt := hl.lt h0
  subst hp
  exact ⟨fun e => by have e2 : lb = g := Option.some.inj e; omega, fun e => by have e2 : lb = k := Option.some.inj e; omega⟩
/-- A slice of hashes, and where it lies. -/
def Fk.hq (p : Nat → Prop) (hs : List (List (BitVec 8))) : Fk := .inr (.inl ⟨fun v w => (Fk.hc hs).f v w ∧ (0 < hs.length → ∀ b, v.ownBlock = some b → p b), by
  rintro v w w' ⟨h, ho⟩ hb
  exact ⟨Fk.mono _ _ _ _ h hb, ho⟩⟩)
end Go.Proofs.YtnppjlpnfijobaaDoor
