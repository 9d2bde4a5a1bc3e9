/- An In (package wire) in memory: what take, spoil, Bad and Done do. -/
import Derived.Test.YtkgfcddjjghohaaPn
import Derived.Test.YtkgfcddjjghohaaProg
import Derived.Deep.Cut
import Derived.BigRegion
import Derived.BigQuiet
import Derived.Deep.RegionWith
import Derived.Laws.BytesArg
import Derived.Laws.AppendOwnNone
import Derived.Laws.MakeOwn
import Derived.Laws.Small
import Derived.KernelRfl
import Derived.Maps.RangeWalk
import Derived.OwnWalk
namespace Go.Proofs.Ytkgfcddjjghohaa
open Go.RowKit
theorem code_any {P : Program} {c : Code} {Q : Exit → Act → World → Prop} {a : Act} {w : World} (F : World → Prop) (hF : F w) (h : ∀ w2, F w2 → Code.wp P c Q a w2) : Code.wp P c Q a w := h w hF
theorem Try.under25 : Try.prog.underlying 25 = some (.slice 5) := by kernel_rfl
theorem Try.under5 : Try.prog.underlying 5 = some (.int .u8) := by kernel_rfl
theorem Try.info5 : (Try.prog.info? 5).map (fun i => (i.zero, i.size, i.bytes)) = some (some (.int .u8 0), 1, 1) := by kernel_rfl
/-- v is a slice of bytes that has the bytes bs, in block gb (or nil). -/
def Rv (w : World) (v : Value) (bs : List (BitVec 8)) (gb : Nat) : Prop :=
  (v = .slice none 0 0 ∧ bs = []) ∨ ∃ go c, v = .slice (some ⟨gb, go, none⟩) bs.length c ∧ bs.length ≤ c ∧ gb < w.heap.size ∧ HasB w gb go bs
theorem Rv.keep {w w' : World} {v : Value} {bs : List (BitVec 8)} {gb : Nat} (h : Rv w v bs gb) (hs : w.heap.size ≤ w'.heap.size) (hk : gb < w.heap.size → w'.heap[gb]? = w.heap[gb]?) : Rv w' v bs gb := by
  rcases h with h | ⟨go, c, e, hc, hl, hB⟩
  · exact .inl h
  · exact .inr ⟨go, c, e, hc, Nat.lt_of_lt_of_le hl hs, fun i hi => by rw [World.cell?_of_block (w := w) (hk hl)]; exact hB i hi⟩
theorem Rv.only {w w' : World} {v : Value} {bs : List (BitVec 8)} {gb g : Nat} (h : Rv w v bs gb) (ho : Only g w w') (hg : gb ≠ g) : Rv w' v bs gb := h.keep ho.size fun hl => ho.block gb hl hg
theorem Rv.below {w w' : World} {v : Value} {bs : List (BitVec 8)} {gb : Nat} (h : Rv w v bs gb) (ho : Below w.heap.size w w') : Rv w' v bs gb := h.keep ho.size fun hl => ho.block gb hl
/-- In block ib lies an In that has the bytes bs left. -/
def HasIn (w : World) (ib : Nat) (bs : List (BitVec 8)) (bad : Bool) (gb : Nat) : Prop :=
  ∃ v, w.heap[ib]? = some (.cells #[v, .bool bad] 62 (0, 0)) ∧ Rv w v bs gb ∧ gb ≠ ib
theorem HasIn.lt {w : World} {ib : Nat} {bs : List (BitVec 8)} {bad : Bool} {gb : Nat} (h : HasIn w ib bs bad gb) : ib < w.heap.size := by
  obtain ⟨v, hv, _⟩ := h
  exact (Array.getElem?_eq_some_iff.1 hv).1
theorem HasIn.below {w w' : World} {ib : Nat} {bs : List (BitVec 8)} {bad : Bool} {gb : Nat} (h : HasIn w ib bs bad gb) (ho : Below w.heap.size w w') : HasIn w' ib bs bad gb := by
  have hl := h.lt
  obtain ⟨v, hv, hr, hne⟩ := h
  exact ⟨v, by rw [ho.block ib hl]; exact hv, hr.below ho, hne⟩
theorem HasIn.only {w w' : World} {ib g : Nat} {bs : List (BitVec 8)} {bad : Bool} {gb : Nat} (h : HasIn w ib bs bad gb) (ho : Only g w w') (h1 : ib ≠ g) (h2 : gb ≠ g) : HasIn w' ib bs bad gb := by
  have hl := h.lt
  obtain ⟨v, hv, hr, hne⟩ := h
  exact ⟨v, by rw [ho.block ib hl h1]; exact hv, hr.only ho h2, hne⟩
theorem cell2 {w : World} {b : Nat} {x y : Value} {T : TypeId} (h : w.heap[b]? = some (.cells #[x, y] T (0, 0))) : w.cell? ⟨b, 0, none⟩ = some x ∧ w.cell? ⟨b, 1, none⟩ = some y ∧ w.frozen? ⟨b, 0, none⟩ = false ∧ w.frozen? ⟨b, 1, none⟩ = false := by
  refine ⟨?_, ?_, ?_, ?_⟩ <;> simp [World.cell?, World.frozen?, h]
theorem set2 {w : World} {b : Nat} {x y : Value} {T : TypeId} (h : w.heap[b]? = some (.cells #[x, y] T (0, 0))) (u : Value) : (w.setCell ⟨b, 0, none⟩ u).heap[b]? = some (.cells #[u, y] T (0, 0)) ∧ (w.setCell ⟨b, 1, none⟩ u).heap[b]? = some (.cells #[x, u] T (0, 0)) := by
  constructor <;> simp [World.setCell, Array.getElem?_modify, h]
set_option maxHeartbeats 400000 in
theorem spoil_any (ib gb : Nat) (bs : List (BitVec 8)) (bad : Bool) (w : World) (h : HasIn w ib bs bad gb) :
    Calls Try.prog 34 #[.pointer (some ⟨ib, 0, none⟩)] w fun e w' => e = .returned (.tuple #[]) ∧ HasIn w' ib [] true gb ∧ Only ib w w' := by
  obtain ⟨v, hv, hr, hne⟩ := h
  obtain ⟨c0, c1, f0, f1⟩ := cell2 hv
  have s1 := (set2 hv (.bool true)).2
  obtain ⟨d0, d1, g0, g1⟩ := cell2 s1
  have s2 := (set2 s1 (.slice none 0 0)).1
  have hb : Box (HasIn ((w.setCell ⟨ib, 1, none⟩ (.bool true)).setCell ⟨ib, 0, none⟩ (.slice none 0 0)) ib [] true gb) := ⟨⟨_, s2, .inl ⟨rfl, rfl⟩, hne⟩⟩
  clear hv s1 s2 hr
  go_enter Try.func34, Try.ntmps34
  go_wp2
  first | go_end0 | refine bodyPost_ret (results_none rfl _ _ _) rfl ?_
  exact ⟨rfl, hb.out, ((Only.refl _ _).setCell _ _).setCell _ _⟩
theorem bad_any (ib gb : Nat) (bs : List (BitVec 8)) (bad : Bool) (w : World) (h : HasIn w ib bs bad gb) :
    Calls Try.prog 15 #[.pointer (some ⟨ib, 0, none⟩)] w fun e w' => e = .returned (.bool bad) ∧ w' = w := by
  obtain ⟨v, hv, hr, hne⟩ := h
  obtain ⟨c0, c1, f0, f1⟩ := cell2 hv
  clear hv hr
  go_enter Try.func15, Try.ntmps15
  go_wp2
  go_ret
  exact ⟨rfl, rfl⟩
def takeB (bs : List (BitVec 8)) (n : Nat) : List (BitVec 8) := if n ≤ bs.length then bs.take n else []
def dropB (bs : List (BitVec 8)) (n : Nat) : List (BitVec 8) := if n ≤ bs.length then bs.drop n else []
def badB (bs : List (BitVec 8)) (bad : Bool) (n : Nat) : Bool := if n ≤ bs.length then bad else true
theorem Rv.shape {w : World} {v : Value} {bs : List (BitVec 8)} {gb : Nat} (h : Rv w v bs gb) : ∃ a c, v = .slice a bs.length c ∧ bs.length ≤ c := by
  rcases h with ⟨rfl, rfl⟩ | ⟨go, c, rfl, hc, _⟩
  · exact ⟨none, 0, rfl, Nat.le_refl _⟩
  · exact ⟨_, c, rfl, hc⟩
theorem done_any (ib gb : Nat) (bs : List (BitVec 8)) (bad : Bool) (w : World) (h : HasIn w ib bs bad gb) :
    Calls Try.prog 16 #[.pointer (some ⟨ib, 0, none⟩)] w fun e w' => e = .returned (.bool (!bad && decide (bs = []))) ∧ w' = w := by
  obtain ⟨v, hv, hr, hne⟩ := h
  obtain ⟨a, c, rfl, _⟩ := hr.shape
  obtain ⟨c0, c1, f0, f1⟩ := cell2 hv
  clear hv hr
  have e : Box (((bs.length : Int) == 0) = decide (bs = [])) := ⟨by cases bs <;> simp; omega⟩
  cases bad
  · go_enter Try.func16, Try.ntmps16
    go_wp2
    go_ret
    refine ⟨?_, rfl⟩
    simp [e.out]
  · go_enter Try.func16, Try.ntmps16
    go_wp2
    go_ret
    exact ⟨rfl, rfl⟩
theorem take_no (bs : List (BitVec 8)) (bad : Bool) (n : Nat) (h : ¬ n ≤ bs.length) : takeB bs n = [] ∧ dropB bs n = [] ∧ badB bs bad n = true := by
  unfold takeB dropB badB
  rw [if_neg h, if_neg h, if_neg h]
  exact ⟨rfl, rfl, rfl⟩
theorem take_yes (bs : List (BitVec 8)) (bad : Bool) (n : Nat) (h : n ≤ bs.length) : takeB bs n = bs.take n ∧ dropB bs n = bs.drop n ∧ badB bs bad n = bad := by
  unfold takeB dropB badB
  rw [if_pos h, if_pos h, if_pos h]
  exact ⟨rfl, rfl, rfl⟩
set_option maxHeartbeats 400000 in
theorem take_any (ib gb n : Nat) (bs : List (BitVec 8)) (bad : Bool) (w : World) (h : HasIn w ib bs bad gb) (hn : n ≤ 4611686018427387904) (hbs : bs.length ≤ 4611686018427387904) :
    Calls Try.prog 36 #[.pointer (some ⟨ib, 0, none⟩), .int .i64 (n : Int)] w fun e w' => ∃ v, e = .returned v ∧ Rv w' v (takeB bs n) gb ∧ HasIn w' ib (dropB bs n) (badB bs bad n) gb ∧ Only ib w w' := by
  by_cases hle : n ≤ bs.length
  · obtain ⟨e1, e2, e3⟩ := take_yes bs bad n hle
    rw [e1, e2, e3]
    clear e1 e2 e3
    obtain ⟨v, hv, hr, hne⟩ := h
    obtain ⟨c0, c1, f0, f1⟩ := cell2 hv
    rcases hr with ⟨rfl, rfl⟩ | ⟨go, c, rfl, hc, hlt, hB⟩
    · have hn0 : n = 0 := by simpa using hle
      subst hn0
      have s1 := (set2 hv (.slice none 0 0)).1
      have hb : Box (HasIn (w.setCell ⟨ib, 0, none⟩ (.slice none 0 0)) ib [] bad gb) := ⟨⟨_, s1, .inl ⟨rfl, rfl⟩, hne⟩⟩
      clear hv s1
      go_enter Try.func36, Try.ntmps36
      go_wp2
      go_ret
      exact ⟨_, rfl, .inl ⟨rfl, rfl⟩, hb.out, (Only.refl _ _).setCell _ _⟩
    · have hdec : decide ((bs.length : Int) < n) = false := by simp; omega
      have hlen : (bs.take n).length = n := by simp; omega
      have hlen2 : (bs.drop n).length = bs.length - n := by simp
      by_cases hcn : c = n
      · subst hcn
        have s1 := (set2 hv (.slice (some ⟨gb, go, none⟩) 0 0)).1
        have ho : Only ib w (w.setCell ⟨ib, 0, none⟩ (.slice (some ⟨gb, go, none⟩) 0 0)) := (Only.refl _ _).setCell _ _
        have hr2 : Rv w (.slice (some ⟨gb, go, none⟩) 0 0) (bs.drop c) gb := .inr ⟨go, 0, by rw [hlen2, show bs.length - c = 0 by omega], by omega, hlt, by rw [show bs.drop c = [] from List.eq_nil_of_length_eq_zero (by omega)]; intro i hi; simp at hi⟩
        have hr1 : Rv w (.slice (some ⟨gb, go, none⟩) c c) (bs.take c) gb := .inr ⟨go, c, by rw [hlen], by omega, hlt, hB.take c⟩
        have hb : Box (HasIn _ ib (bs.drop c) bad gb) := ⟨⟨_, s1, hr2.only ho hne, hne⟩⟩
        have hb1 : Box (Rv _ _ _ _) := ⟨hr1.only ho hne⟩
        clear hv s1 hr1 hr2 hB
        go_enter Try.func36, Try.ntmps36
        go_wp2
        go_ret
        exact ⟨_, rfl, hb1.out, hb.out, ho⟩
      · have s1 := (set2 hv (.slice (some ⟨gb, go + n, none⟩) (bs.length - n) (c - n))).1
        have ho : Only ib w (w.setCell ⟨ib, 0, none⟩ (.slice (some ⟨gb, go + n, none⟩) (bs.length - n) (c - n))) := (Only.refl _ _).setCell _ _
        have hr2 : Rv w (.slice (some ⟨gb, go + n, none⟩) (bs.length - n) (c - n)) (bs.drop n) gb := .inr ⟨go + n, (c - n), by rw [hlen2], by omega, hlt, hB.drop n⟩
        have hr1 : Rv w (.slice (some ⟨gb, go, none⟩) n c) (bs.take n) gb := .inr ⟨go, c, by rw [hlen], by omega, hlt, hB.take n⟩
        have hb : Box (HasIn _ ib (bs.drop n) bad gb) := ⟨⟨_, s1, hr2.only ho hne, hne⟩⟩
        have hb1 : Box (Rv _ _ _ _) := ⟨hr1.only ho hne⟩
        clear hv s1 hr1 hr2 hB
        go_enter Try.func36, Try.ntmps36
        go_wp2
        go_ret
        exact ⟨_, rfl, hb1.out, hb.out, ho⟩
  · obtain ⟨e1, e2, e3⟩ := take_no bs bad n hle
    rw [e1, e2, e3]
    clear e1 e2 e3
    have hh : Box (HasIn w ib bs bad gb) := ⟨h⟩
    obtain ⟨v, hv, hr, hne⟩ := h
    obtain ⟨c0, c1, f0, f1⟩ := cell2 hv
    obtain ⟨a, c, rfl, _⟩ := hr.shape
    have hdec : decide ((bs.length : Int) < n) = true := by simp; omega
    clear hv hr
    go_enter Try.func36, Try.ntmps36
    go_wp2_with (refine (spoil_any ib gb bs bad w hh.out).mono ?_; rintro e w' ⟨rfl, h1, h2⟩)
    go_ret
    exact ⟨_, rfl, .inl ⟨rfl, rfl⟩, h1, h2⟩
end Go.Proofs.Ytkgfcddjjghohaa
