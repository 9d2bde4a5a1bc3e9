/- What is asked of package proof: it holds. bytes.Equal, Right, root, inputs of nodes; what struct results are. Collisions, plainly: what a path and a proof that are right lead to, half by half. The sides of a leaf's path, reckoned upwards by halving its place and the last one's. A drawn region in which two variables are made, beside looks; a hash of a list is looked at. Lists cut, forms of collisions; parting, halvesOf, against, saidHalves, led. append of any slice of hashes to a slice of the call's own; a store into such a slice. slices.Grow, slices.Concat of two slices of hashes, withPart. claimed. In. Path. Lists. grown. -/
import Derived.Test.YtfmeeimhfdnjpaaDoorM8
import Derived.Test.YtfmeeimhfdnjpaaDoorM6
import Derived.Test.YtfmeeimhfdnjpaaDoorM5
import Derived.Test.YtfmeeimhfdnjpaaDoorM3
import Derived.Laws.AppendOwnNone
import Derived.Lib.AppendZeros
namespace Go.Proofs.YtfmeeimhfdnjpaaDoor
set_option maxRecDepth 100000
open Go.RowKit
theorem bres_len {old : List (BitVec 8)} (hold : old.length = 32) {P : List (List (BitVec 8))} (hP : ∀ p ∈ P, p.length = 32) {c : Bool} {S : List Bool} {x y : List (BitVec 8)} (hb : bres old P c S = some (x, y)) : x.length = 32 ∧ y.length = 32 := by
  have key : ∀ (a : List (BitVec 8)) (R : List (List (BitVec 8))), a.length = 32 → R.length = S.length → bth a R S = (x, y) → x.length = 32 ∧ y.length = 32 := by
    intro a R ha hl e
    have h1 := bk_len ha R S S.length
    rw [bk_all a hl, e] at h1
    exact h1
  unfold bres at hb
  cases c with
  | false =>
    simp only [Bool.false_eq_true, if_false] at hb
    by_cases hl : P.length = S.length
    · rw [if_pos hl] at hb
      exact key _ _ hold hl (Option.some.inj hb)
    · rw [if_neg hl] at hb
      cases hb
  | true =>
    simp only [if_true] at hb
    cases P with
    | nil => cases hb
    | cons p r =>
      by_cases hl : r.length = S.length
      · simp only [if_pos hl] at hb
        exact key _ _ (hP p (by simp)) hl (Option.some.inj hb)
      · simp only [if_neg hl] at hb
        cases hb
theorem fk_both_zero {old : List (BitVec 8)} (hold : old.length = 32) {n : Nat} (_hn : n ≤ 1152921504606846976) {P : List (List (BitVec 8))} {v : Value} {w : World} (hv : (Fk.hc P).f v w) (hP : P.length ≤ 100000) (hK : Tab w) (hl : P.length = 0) :
    Calls Tryd.prog 38 #[.int .i64 0, .int .i64 ((n : Nat) : Int), .agg ((old).map V).toArray, v] w fun e w' => ∃ u, e = .returned u ∧ (Fk.eq (.tuple #[.agg ((old).map V).toArray, .agg ((old).map V).toArray, .int .i64 0])).f u w' ∧ Below w.heap.size w w' := by
  exact pboth_ok0 hold (by omega) (by omega) (fun w => mturns_zero _ w) (c := false) rfl (S := []) rfl (by decide) rfl hv hP hK (by simpa using hl) (xa := old) (xb := old) (by rw [List.eq_nil_of_length_eq_zero hl]; rfl)
theorem fk_both_zbad {old : List (BitVec 8)} (hold : old.length = 32) {n : Nat} (_hn : n ≤ 1152921504606846976) {P : List (List (BitVec 8))} {v : Value} {w : World} (hv : (Fk.hc P).f v w) (hP : P.length ≤ 100000) (hK : Tab w) (hl : P.length ≠ 0) :
    Calls Tryd.prog 38 #[.int .i64 0, .int .i64 ((n : Nat) : Int), .agg ((old).map V).toArray, v] w fun e w' => ∃ u, e = .returned u ∧ (Fk.eq (.tuple #[.agg ((hz).map V).toArray, .agg ((hz).map V).toArray, .int .i64 22])).f u w' ∧ Below w.heap.size w w' := by
  exact pboth_bad0 hold (by omega) (by omega) (fun w => mturns_zero _ w) (c := false) rfl (S := []) rfl (by decide) rfl hv hP hK (by simpa using hl)
theorem fk_both_bad {old : List (BitVec 8)} (hold : old.length = 32) {m n : Nat} (hm1 : 1 ≤ m) (hm2 : m ≤ n) (hn : n ≤ 1152921504606846976) {P : List (List (BitVec 8))} {v : Value} {w : World} (hv : (Fk.hc P).f v w) (hP : P.length ≤ 100000) (hK : Tab w) (hb : bres old P (stp m n true).1 (stp m n true).2 = none) :
    Calls Tryd.prog 38 #[.int .i64 ((m : Nat) : Int), .int .i64 ((n : Nat) : Int), .agg ((old).map V).toArray, v] w fun e w' => ∃ u, e = .returned u ∧ (Fk.eq (.tuple #[.agg ((hz).map V).toArray, .agg ((hz).map V).toArray, .int .i64 22])).f u w' ∧ Below w.heap.size w w' := by
  obtain ⟨k, rfl⟩ : ∃ k, m = k + 1 := ⟨m - 1, by omega⟩
  obtain ⟨c, S, hS⟩ : ∃ c S, stp (k + 1) n true = (c, S) := ⟨_, _, rfl⟩
  rw [hS] at hb
  have ht := fun w : World => mturns_any (m := k + 1) (x := k) (n := n) rfl (by omega) hn w
  have hcc : ((tdm k n).reverse.any fun y => false == y) = c := by rw [List.any_reverse, tdm_own n k (by omega), hS]
  have hLS : (tdm k n).reverse = S.map (!·) := by rw [tdm_stp n k true (by omega), hS]
  have hS60 : S.length ≤ 60 := by have := stp_log n (k + 1) true 60 (by omega); rw [hS] at this; exact this
  cases c
  · refine pboth_bad0 hold (by omega) (by omega) ht hcc hLS hS60 rfl hv hP hK (fun h => ?_)
    unfold bres at hb
    simp only [Bool.false_eq_true, if_false] at hb
    rw [if_pos h] at hb
    cases hb
  · refine pboth_bad1 hold (by omega) (by omega) ht hcc hLS hS60 rfl hv hP hK (fun h => ?_)
    unfold bres at hb
    simp only [if_true] at hb
    cases P with
    | nil => simp at h
    | cons p r =>
      simp only at hb
      rw [if_pos (by simpa using h)] at hb
      cases hb
theorem fk_both_ok {old : List (BitVec 8)} (hold : old.length = 32) {m n : Nat} (hm1 : 1 ≤ m) (hm2 : m ≤ n) (hn : n ≤ 1152921504606846976) {P : List (List (BitVec 8))} {v : Value} {w : World} (hv : (Fk.hc P).f v w) (hP : P.length ≤ 100000) (hK : Tab w) {x y : List (BitVec 8)} (hb : bres old P (stp m n true).1 (stp m n true).2 = some (x, y)) :
    Calls Tryd.prog 38 #[.int .i64 ((m : Nat) : Int), .int .i64 ((n : Nat) : Int), .agg ((old).map V).toArray, v] w fun e w' => ∃ u, e = .returned u ∧ (Fk.eq (.tuple #[.agg ((x).map V).toArray, .agg ((y).map V).toArray, .int .i64 0])).f u w' ∧ Below w.heap.size w w' := by
  obtain ⟨k, rfl⟩ : ∃ k, m = k + 1 := ⟨m - 1, by omega⟩
  obtain ⟨c, S, hS⟩ : ∃ c S, stp (k + 1) n true = (c, S) := ⟨_, _, rfl⟩
  rw [hS] at hb
  have ht := fun w : World => mturns_any (m := k + 1) (x := k) (n := n) rfl (by omega) hn w
  have hcc : ((tdm k n).reverse.any fun y => false == y) = c := by rw [List.any_reverse, tdm_own n k (by omega), hS]
  have hLS : (tdm k n).reverse = S.map (!·) := by rw [tdm_stp n k true (by omega), hS]
  have hS60 : S.length ≤ 60 := by have := stp_log n (k + 1) true 60 (by omega); rw [hS] at this; exact this
  cases c
  · unfold bres at hb
    simp only [Bool.false_eq_true, if_false] at hb
    by_cases h : P.length = S.length
    · rw [if_pos h] at hb
      exact pboth_ok0 hold (by omega) (by omega) ht hcc hLS hS60 rfl hv hP hK h (Option.some.inj hb)
    · rw [if_neg h] at hb
      cases hb
  · unfold bres at hb
    simp only [if_true] at hb
    cases P with
    | nil => cases hb
    | cons p r =>
      simp only at hb
      by_cases h : r.length = S.length
      · rw [if_pos h] at hb
        exact pboth_ok1 hold (by omega) (by omega) ht hcc hLS hS60 rfl hv hP hK (by simpa using h) (Option.some.inj hb)
      · rw [if_neg h] at hb
        cases hb
theorem fk_on_zero {old : List (BitVec 8)} (hold : old.length = 32) {rt : List (BitVec 8)} (hrt : rt.length = 32) {n : Nat} (hn : n ≤ 1152921504606846976) {P : List (List (BitVec 8))} {v : Value} {w : World} (hv : (Fk.hc P).f v w) (hP : P.length ≤ 100000) (hK : Tab w) (r : Int) (hr : r = if old = shaOf [] ∧ P.length = 0 ∧ (0 < n ∨ rt = old) then 0 else 22) :
    Calls Tryd.prog 21 #[.int .i64 0, .int .i64 ((n : Nat) : Int), .agg ((old).map V).toArray, .agg ((rt).map V).toArray, v] w fun e w' => ∃ u, e = .returned u ∧ (Fk.eq (.int .i64 r)).f u w' ∧ Below w.heap.size w w' := by
  subst hr
  by_cases hl : P.length = 0
  · have hb := fun (w' : World) (h1 : (Fk.hc P).f v w') (h2 : Tab w') => fk_both_zero hold hn h1 hP h2 hl
    by_cases ho : old = shaOf []
    · by_cases h0 : 0 < n
      · rw [if_pos ⟨ho, hl, .inl h0⟩]
        exact on_zpos hold hrt ho h0 hv hP hK hb
      · obtain rfl : n = 0 := by omega
        by_cases hro : rt = old
        · rw [if_pos ⟨ho, hl, .inr hro⟩]
          exact on_zsame hold hrt ho hro hv hP hK hb
        · rw [if_neg (fun h => h.2.2.elim h0 hro)]
          exact on_zother hold hrt ho hro hv hP hK hb
    · rw [if_neg (fun h => ho h.1)]
      exact on_znot hold hrt ho hv hP hK hb
  · rw [if_neg (fun h => hl h.2.1)]
    exact on_err hold hrt (by decide) hv hP hK (fun w' h1 h2 => fk_both_zbad hold hn h1 hP h2 hl)
theorem fk_on_any {old : List (BitVec 8)} (hold : old.length = 32) {rt : List (BitVec 8)} (hrt : rt.length = 32) {m n : Nat} (hm1 : 1 ≤ m) (hm2 : m ≤ n) (hn : n ≤ 1152921504606846976) {P : List (List (BitVec 8))} {v : Value} {w : World} (hv : (Fk.hc P).f v w) (hP : P.length ≤ 100000) (hK : Tab w) (r : Int) (hr : r = if bres old P (stp m n true).1 (stp m n true).2 = some (old, rt) then 0 else 22) :
    Calls Tryd.prog 21 #[.int .i64 ((m : Nat) : Int), .int .i64 ((n : Nat) : Int), .agg ((old).map V).toArray, .agg ((rt).map V).toArray, v] w fun e w' => ∃ u, e = .returned u ∧ (Fk.eq (.int .i64 r)).f u w' ∧ Below w.heap.size w w' := by
  subst hr
  cases hb : bres old P (stp m n true).1 (stp m n true).2 with
  | none =>
    rw [if_neg (by simp)]
    exact on_err hold hrt (by decide) hv hP hK (fun w' h1 h2 => fk_both_bad hold hm1 hm2 hn h1 hP h2 hb)
  | some xy =>
    obtain ⟨x, y⟩ := xy
    obtain ⟨hx, hy⟩ := bres_len hold (fun p hp => hc_len hv p hp) hb
    have hbb := fun (w' : World) (h1 : (Fk.hc P).f v w') (h2 : Tab w') => fk_both_ok hold hm1 hm2 hn h1 hP h2 hb
    by_cases hxo : x = old
    · by_cases hyr : y = rt
      · rw [if_pos (by rw [hxo, hyr])]
        exact on_ok hold hrt hm1 hx hy hxo hyr hv hP hK hbb
      · rw [if_neg (fun h => hyr (by have := Option.some.inj h; exact (Prod.mk.inj this).2))]
        exact on_second hold hrt hm1 hx hy hxo hyr hv hP hK hbb
    · rw [if_neg (fun h => hxo (by have := Option.some.inj h; exact (Prod.mk.inj this).1))]
      exact on_first hold hrt hm1 hx hy hxo hv hP hK hbb
end Go.Proofs.YtfmeeimhfdnjpaaDoor
namespace Go.Proofs.YtfmeeimhfdnjpaaDoor
set_option maxRecDepth 100000
open Go.RowKit
theorem fk_beq {A B : List (BitVec 8)} {u1 u2 : Value} {w : World} (hA : (Fk.sl A).f u1 w) (hB : (Fk.sl B).f u2 w) {b : Bool} (hb : b = decide (A = B)) :
    Calls Tryd.prog 25 #[u1, u2] w fun e w' => ∃ u, e = .returned u ∧ (Fk.eq (.bool b)).f u w' ∧ Below w.heap.size w w' := by
  go_enter Tryd.func25, Tryd.ntmps25
  refine code_both (fun f w1 => f.tmps.size = 10 ∧ f.defers = [] ∧ f.eval (.tmp 0) = u1 ∧ f.eval (.tmp 1) = u2 ∧ Below w.heap.size w (w1)) ⟨rfl, rfl, rfl, rfl, Below.refl _ _⟩ ?_
  rintro f0 w0 ⟨sz, df, x0, x1, bl⟩
  have bl0 := bl
  refine wp_seq ?_
  refine wp_all_seq [.eq (.bool false)] (by kernel_rfl) (by kernel_rfl) (by rw [sz]; kernel_rfl) (by kernel_rfl) ⟨fun hw ac u K => ?_, trivial⟩ ?_
  · exact st_assign (.const (.bool false)) rfl rfl
  intro f1 w1 A hb
  replace bl0 := bl
  replace x0 := (A.old 0 rfl).trans x0
  replace x1 := (A.old 1 rfl).trans x1
  have x4 : f1.eval (.tmp 4) = .bool false := A.has 0 4 rfl
  replace bl := (bl.trans (Below.mono hb bl.size))
  replace sz := A.size.trans sz
  replace df := A.defs.trans df
  clear A hb
  show Code.wp _ _ _ _ _
  refine wp_seq ?_
  by_cases hq : A = B
  rotate_left
  · skip
    have hbf : false = b := by rw [hb]; simp [hq]
    refine wp_all_seq [.eq (u1), .eq (.string (str (A))), .eq (u2), .eq (.string (str (B))), .eq (.bool false), .eq (.bool false)] (by kernel_rfl) (by kernel_rfl) (by rw [sz]; kernel_rfl) (by kernel_rfl) ⟨fun hw ac u K => ?_, fun hw ac u K => ?_, fun hw ac u K => ?_, fun hw ac u K => ?_, fun hw ac u K => ?_, fun hw ac u K => ?_, trivial⟩ ?_
    · exact st_move (.tmp 0) rfl ((K.old 0 rfl).trans x0)
    · exact st_stra (.tmp 5) rfl (fk_val (K.dep 0 5 rfl) (Fk.mono _ _ _ _ hA (bl.trans (Below.mono K.grow bl.size))))
    · exact st_move (.tmp 1) rfl ((K.old 1 rfl).trans x1)
    · exact st_stra (.tmp 7) rfl (fk_val (K.dep 2 7 rfl) (Fk.mono _ _ _ _ hB (bl.trans (Below.mono K.grow bl.size))))
    · exact st_eqs (.tmp 6) (.tmp 8) rfl (str (A)) (str (B)) (K.dep 1 6 rfl) (K.dep 3 8 rfl) _ (by symm; rw [decide_eq_false_iff_not]; exact fun h => hq (str_inj h))
    · exact st_assign (.tmp 9) rfl (K.dep 4 9 rfl)
    intro f2 w2 A hb
    replace bl0 := bl
    replace x0 := (A.old 0 rfl).trans x0
    replace x1 := (A.old 1 rfl).trans x1
    clear x4
    have x4 : f2.eval (.tmp 4) = .bool false := A.has 5 4 rfl
    replace bl := (bl.trans (Below.mono hb bl.size))
    replace sz := A.size.trans sz
    replace df := A.defs.trans df
    clear A hb
    clear x0
    clear x1
    show Code.wp _ _ _ _ _
    refine wp_ret ?_
    repeat (first | with_reducible refine then_ret ?_ | with_reducible refine block_ret ?_)
    exact bodyPost_ret (v := .bool false) (ret_slot rfl f2 _ x4 _ _) df ⟨_, rfl, by rw [← hbf]; rfl, bl⟩
  have hbf : true = b := by rw [hb]; simp [hq]
  refine wp_all_seq [.eq (u1), .eq (.string (str (A))), .eq (u2), .eq (.string (str (B))), .eq (.bool true), .eq (.bool true)] (by kernel_rfl) (by kernel_rfl) (by rw [sz]; kernel_rfl) (by kernel_rfl) ⟨fun hw ac u K => ?_, fun hw ac u K => ?_, fun hw ac u K => ?_, fun hw ac u K => ?_, fun hw ac u K => ?_, fun hw ac u K => ?_, trivial⟩ ?_
  · exact st_move (.tmp 0) rfl ((K.old 0 rfl).trans x0)
  · exact st_stra (.tmp 5) rfl (fk_val (K.dep 0 5 rfl) (Fk.mono _ _ _ _ hA (bl.trans (Below.mono K.grow bl.size))))
  · exact st_move (.tmp 1) rfl ((K.old 1 rfl).trans x1)
  · exact st_stra (.tmp 7) rfl (fk_val (K.dep 2 7 rfl) (Fk.mono _ _ _ _ hB (bl.trans (Below.mono K.grow bl.size))))
  · exact st_eqs (.tmp 6) (.tmp 8) rfl (str (A)) (str (B)) (K.dep 1 6 rfl) (K.dep 3 8 rfl) _ (by rw [hq]; simp)
  · exact st_assign (.tmp 9) rfl (K.dep 4 9 rfl)
  intro f2 w2 A hb
  replace bl0 := bl
  replace x0 := (A.old 0 rfl).trans x0
  replace x1 := (A.old 1 rfl).trans x1
  clear x4
  have x4 : f2.eval (.tmp 4) = .bool true := A.has 5 4 rfl
  replace bl := (bl.trans (Below.mono hb bl.size))
  replace sz := A.size.trans sz
  replace df := A.defs.trans df
  clear A hb
  clear x0
  clear x1
  show Code.wp _ _ _ _ _
  refine wp_ret ?_
  repeat (first | with_reducible refine then_ret ?_ | with_reducible refine block_ret ?_)
  exact bodyPost_ret (v := .bool true) (ret_slot rfl f2 _ x4 _ _) df ⟨_, rfl, by rw [← hbf]; rfl, bl⟩
theorem fk_right {A B : List (BitVec 8)} (hlA : A.length ≤ 100000) (hlB : B.length ≤ 100000) {u1 u2 : Value} {w : World} (hA : (Fk.sl A).f u1 w) (hB : (Fk.sl B).f u2 w) (hK : Tab w) {b : Bool} (hb : b = decide (rcol A B)) :
    Calls Tryd.prog 9 #[.agg ([u1, u2] : List Value).toArray] w fun e w' => ∃ u, e = .returned u ∧ (Fk.eq (.bool b)).f u w' ∧ Below w.heap.size w w' := by
  obtain ⟨x, ex⟩ : ∃ x, Box (shaOf A = x) := ⟨_, ⟨rfl⟩⟩
  obtain ⟨y, ey⟩ : ∃ x, Box (shaOf B = x) := ⟨_, ⟨rfl⟩⟩
  have hx : x.length = 32 := by rw [← ex.out]; exact shaOf_len _
  have hy : y.length = 32 := by rw [← ey.out]; exact shaOf_len _
  go_enter Tryd.func9, Tryd.ntmps9
  refine code_both (fun f w1 => f.tmps.size = 18 ∧ f.defers = [] ∧ f.eval (.tmp 0) = .agg ([u1, u2] : List Value).toArray ∧ Below w.heap.size w (w1)) ⟨rfl, rfl, rfl, Below.refl _ _⟩ ?_
  rintro f0 w0 ⟨sz, df, x0, bl⟩
  have bl0 := bl
  refine wp_seq ?_
  refine wp_all_seq [.nw w0.heap.size 25 ([u1, u2] : List Value), .eq (.bool false)] (by kernel_rfl) (by kernel_rfl) (by rw [sz]; kernel_rfl) (by kernel_rfl) ⟨fun hw ac u K => ?_, fun hw ac u K => ?_, trivial⟩ ?_
  · exact st_box 25 (.tmp 0) rfl _ _ (by rw [show _ = _ from ((K.old 0 rfl).trans x0)]; kernel_rfl) K.grow.size
  · exact st_assign (.const (.bool false)) rfl rfl
  intro f1 w1 A hb
  replace bl0 := bl
  replace x0 := (A.old 0 rfl).trans x0
  have x1 : Fk.f (.nw w0.heap.size 25 ([u1, u2] : List Value)) (f1.eval (.tmp 1)) w1 := A.has 0 1 rfl
  have x2 : f1.eval (.tmp 2) = .bool false := A.has 1 2 rfl
  replace bl := (bl.trans (Below.mono hb bl.size))
  replace sz := A.size.trans sz
  replace df := A.defs.trans df
  clear A hb
  clear x0
  obtain ⟨g1, hg1, e1, m1⟩ := x1
  have x1 := e1
  clear e1
  have hw1 : w.heap.size ≤ g1 := Nat.le_trans bl0.size hg1
  show Code.wp _ _ _ _ _
  refine wp_seq ?_
  by_cases hAB : A = B
  rotate_left
  · skip
    by_cases hxy : x = y
    rotate_left
    · skip
      have hbf : false = b := by rw [hb]; symm; rw [decide_eq_false_iff_not]; exact fun h => hxy (by rw [← ex.out, ← ey.out]; exact h.2)
      refine wp_all [.eq (.pointer (some ⟨g1, 0, none⟩)), .eq (u1), .eq (.pointer (some ⟨g1, 1, none⟩)), .eq (u2), .eq (.bool false), .eq (.bool true), .eq (.bool true), .eq (.pointer (some ⟨g1, 0, none⟩)), .eq (u1), .eq (.agg ((x).map V).toArray), .eq (.pointer (some ⟨g1, 1, none⟩)), .eq (u2), .eq (.agg ((y).map V).toArray), .eq (.bool false), .eq (.bool false), .eq (.bool false)] Tryd.mixed (by kernel_rfl) (by kernel_rfl) (by rw [sz]; kernel_rfl) (by kernel_rfl) ⟨fun hw ac u K => ?_, fun hw ac u K => ?_, fun hw ac u K => ?_, fun hw ac u K => ?_, fun hw ac u K => ?_, fun hw ac u K => ?_, fun hw ac u K => ?_, fun hw ac u K => ?_, fun hw ac u K => ?_, fun hw ac u K => ?_, fun hw ac u K => ?_, fun hw ac u K => ?_, fun hw ac u K => ?_, fun hw ac u K => ?_, fun hw ac u K => ?_, fun hw ac u K => ?_, trivial⟩ ?_
      · exact st_field 25 0 (.tmp 1) rfl ((K.old 1 rfl).trans x1) (by kernel_rfl)
      · exact st_loadc 22 (.tmp 3) rfl (by kernel_rfl) (K.dep 0 3 rfl) (Ob.cell (Ob.below m1 K.grow) 0 rfl)
      · exact st_field 25 1 (.tmp 1) rfl ((K.old 1 rfl).trans x1) (by kernel_rfl)
      · exact st_loadc 22 (.tmp 5) rfl (by kernel_rfl) (K.dep 2 5 rfl) (Ob.cell (Ob.below m1 K.grow) 1 rfl)
      · exact st_call 25 (.func 25) _ _ #[u1, u2] rfl rfl (arg2 (K.dep 1 4 rfl) (K.dep 3 6 rfl)) Tryd.enter25 (fk_beq (Fk.mono _ _ _ _ hA (bl.trans (Below.mono K.grow bl.size))) (Fk.mono _ _ _ _ hB (bl.trans (Below.mono K.grow bl.size))) (by symm; rw [decide_eq_false_iff_not]; exact hAB))
      · exact st_not (.tmp 7) rfl false (K.dep 4 7 rfl)
      · exact st_move (.tmp 8) rfl (K.dep 5 8 rfl)
      · exact st_field 25 0 (.tmp 1) rfl ((K.old 1 rfl).trans x1) (by kernel_rfl)
      · exact st_loadc 22 (.tmp 10) rfl (by kernel_rfl) (K.dep 7 10 rfl) (Ob.cell (Ob.below m1 K.grow) 0 rfl)
      · exact st_call 26 (.func 26) _ _ #[u1] rfl rfl (one_arg (K.dep 8 11 rfl)) Tryd.enter26 (by rw [← ex.out]; exact fk_sum (by omega) (hK.below (bl.trans (Below.mono K.grow bl.size))) (Fk.mono _ _ _ _ hA (bl.trans (Below.mono K.grow bl.size))))
      · exact st_field 25 1 (.tmp 1) rfl ((K.old 1 rfl).trans x1) (by kernel_rfl)
      · exact st_loadc 22 (.tmp 13) rfl (by kernel_rfl) (K.dep 10 13 rfl) (Ob.cell (Ob.below m1 K.grow) 1 rfl)
      · exact st_call 26 (.func 26) _ _ #[u2] rfl rfl (one_arg (K.dep 11 14 rfl)) Tryd.enter26 (by rw [← ey.out]; exact fk_sum (by omega) (hK.below (bl.trans (Below.mono K.grow bl.size))) (Fk.mono _ _ _ _ hB (bl.trans (Below.mono K.grow bl.size))))
      · exact st_eqh (.tmp 12) (.tmp 15) rfl (x) (y) hx hy (K.dep 9 12 rfl) (K.dep 12 15 rfl) _ (by simp [hxy])
      · exact st_pick_t (.tmp 9) (.tmp 16) (.const (.bool false)) rfl (K.dep 6 9 rfl) (K.dep 13 16 rfl)
      · exact st_assign (.tmp 17) rfl (K.dep 14 17 rfl)
      intro f2 w2 A hb
      replace bl0 := bl
      replace x1 := (A.old 1 rfl).trans x1
      clear x2
      have x2 : f2.eval (.tmp 2) = .bool false := A.has 15 2 rfl
      have lt_m1 := Ob.lt m1
      replace m1 := Ob.below m1 hb
      replace bl := (bl.trans (Below.mono hb bl.size))
      replace sz := A.size.trans sz
      replace df := A.defs.trans df
      clear A hb
      clear x1
      show Code.wp _ _ _ _ _
      refine wp_ret ?_
      repeat (first | with_reducible refine then_ret ?_ | with_reducible refine block_ret ?_)
      exact bodyPost_ret (v := .bool false) (ret_slot rfl f2 _ x2 _ _) df ⟨_, rfl, by rw [← hbf]; rfl, bl⟩
    have hbf : true = b := by rw [hb]; symm; rw [decide_eq_true_iff]; exact ⟨hAB, by rw [ex.out, ey.out]; exact hxy⟩
    refine wp_all [.eq (.pointer (some ⟨g1, 0, none⟩)), .eq (u1), .eq (.pointer (some ⟨g1, 1, none⟩)), .eq (u2), .eq (.bool false), .eq (.bool true), .eq (.bool true), .eq (.pointer (some ⟨g1, 0, none⟩)), .eq (u1), .eq (.agg ((x).map V).toArray), .eq (.pointer (some ⟨g1, 1, none⟩)), .eq (u2), .eq (.agg ((y).map V).toArray), .eq (.bool true), .eq (.bool true), .eq (.bool true)] Tryd.mixed (by kernel_rfl) (by kernel_rfl) (by rw [sz]; kernel_rfl) (by kernel_rfl) ⟨fun hw ac u K => ?_, fun hw ac u K => ?_, fun hw ac u K => ?_, fun hw ac u K => ?_, fun hw ac u K => ?_, fun hw ac u K => ?_, fun hw ac u K => ?_, fun hw ac u K => ?_, fun hw ac u K => ?_, fun hw ac u K => ?_, fun hw ac u K => ?_, fun hw ac u K => ?_, fun hw ac u K => ?_, fun hw ac u K => ?_, fun hw ac u K => ?_, fun hw ac u K => ?_, trivial⟩ ?_
    · exact st_field 25 0 (.tmp 1) rfl ((K.old 1 rfl).trans x1) (by kernel_rfl)
    · exact st_loadc 22 (.tmp 3) rfl (by kernel_rfl) (K.dep 0 3 rfl) (Ob.cell (Ob.below m1 K.grow) 0 rfl)
    · exact st_field 25 1 (.tmp 1) rfl ((K.old 1 rfl).trans x1) (by kernel_rfl)
    · exact st_loadc 22 (.tmp 5) rfl (by kernel_rfl) (K.dep 2 5 rfl) (Ob.cell (Ob.below m1 K.grow) 1 rfl)
    · exact st_call 25 (.func 25) _ _ #[u1, u2] rfl rfl (arg2 (K.dep 1 4 rfl) (K.dep 3 6 rfl)) Tryd.enter25 (fk_beq (Fk.mono _ _ _ _ hA (bl.trans (Below.mono K.grow bl.size))) (Fk.mono _ _ _ _ hB (bl.trans (Below.mono K.grow bl.size))) (by symm; rw [decide_eq_false_iff_not]; exact hAB))
    · exact st_not (.tmp 7) rfl false (K.dep 4 7 rfl)
    · exact st_move (.tmp 8) rfl (K.dep 5 8 rfl)
    · exact st_field 25 0 (.tmp 1) rfl ((K.old 1 rfl).trans x1) (by kernel_rfl)
    · exact st_loadc 22 (.tmp 10) rfl (by kernel_rfl) (K.dep 7 10 rfl) (Ob.cell (Ob.below m1 K.grow) 0 rfl)
    · exact st_call 26 (.func 26) _ _ #[u1] rfl rfl (one_arg (K.dep 8 11 rfl)) Tryd.enter26 (by rw [← ex.out]; exact fk_sum (by omega) (hK.below (bl.trans (Below.mono K.grow bl.size))) (Fk.mono _ _ _ _ hA (bl.trans (Below.mono K.grow bl.size))))
    · exact st_field 25 1 (.tmp 1) rfl ((K.old 1 rfl).trans x1) (by kernel_rfl)
    · exact st_loadc 22 (.tmp 13) rfl (by kernel_rfl) (K.dep 10 13 rfl) (Ob.cell (Ob.below m1 K.grow) 1 rfl)
    · exact st_call 26 (.func 26) _ _ #[u2] rfl rfl (one_arg (K.dep 11 14 rfl)) Tryd.enter26 (by rw [← ey.out]; exact fk_sum (by omega) (hK.below (bl.trans (Below.mono K.grow bl.size))) (Fk.mono _ _ _ _ hB (bl.trans (Below.mono K.grow bl.size))))
    · exact st_eqh (.tmp 12) (.tmp 15) rfl (x) (y) hx hy (K.dep 9 12 rfl) (K.dep 12 15 rfl) _ (by simp [hxy])
    · exact st_pick_t (.tmp 9) (.tmp 16) (.const (.bool false)) rfl (K.dep 6 9 rfl) (K.dep 13 16 rfl)
    · exact st_assign (.tmp 17) rfl (K.dep 14 17 rfl)
    intro f2 w2 A hb
    replace bl0 := bl
    replace x1 := (A.old 1 rfl).trans x1
    clear x2
    have x2 : f2.eval (.tmp 2) = .bool true := A.has 15 2 rfl
    have lt_m1 := Ob.lt m1
    replace m1 := Ob.below m1 hb
    replace bl := (bl.trans (Below.mono hb bl.size))
    replace sz := A.size.trans sz
    replace df := A.defs.trans df
    clear A hb
    clear x1
    show Code.wp _ _ _ _ _
    refine wp_ret ?_
    repeat (first | with_reducible refine then_ret ?_ | with_reducible refine block_ret ?_)
    exact bodyPost_ret (v := .bool true) (ret_slot rfl f2 _ x2 _ _) df ⟨_, rfl, by rw [← hbf]; rfl, bl⟩
  have hbf : false = b := by rw [hb]; symm; rw [decide_eq_false_iff_not]; exact fun h => h.1 hAB
  refine wp_all [.eq (.pointer (some ⟨g1, 0, none⟩)), .eq (u1), .eq (.pointer (some ⟨g1, 1, none⟩)), .eq (u2), .eq (.bool true), .eq (.bool false), .eq (.bool false), .any, .any, .any, .any, .any, .any, .any, .eq (.bool false), .eq (.bool false)] Tryd.mixed (by kernel_rfl) (by kernel_rfl) (by rw [sz]; kernel_rfl) (by kernel_rfl) ⟨fun hw ac u K => ?_, fun hw ac u K => ?_, fun hw ac u K => ?_, fun hw ac u K => ?_, fun hw ac u K => ?_, fun hw ac u K => ?_, fun hw ac u K => ?_, fun hw ac u K => ?_, fun hw ac u K => ?_, fun hw ac u K => ?_, fun hw ac u K => ?_, fun hw ac u K => ?_, fun hw ac u K => ?_, fun hw ac u K => ?_, fun hw ac u K => ?_, fun hw ac u K => ?_, trivial⟩ ?_
  · exact st_field 25 0 (.tmp 1) rfl ((K.old 1 rfl).trans x1) (by kernel_rfl)
  · exact st_loadc 22 (.tmp 3) rfl (by kernel_rfl) (K.dep 0 3 rfl) (Ob.cell (Ob.below m1 K.grow) 0 rfl)
  · exact st_field 25 1 (.tmp 1) rfl ((K.old 1 rfl).trans x1) (by kernel_rfl)
  · exact st_loadc 22 (.tmp 5) rfl (by kernel_rfl) (K.dep 2 5 rfl) (Ob.cell (Ob.below m1 K.grow) 1 rfl)
  · exact st_call 25 (.func 25) _ _ #[u1, u2] rfl rfl (arg2 (K.dep 1 4 rfl) (K.dep 3 6 rfl)) Tryd.enter25 (fk_beq (Fk.mono _ _ _ _ hA (bl.trans (Below.mono K.grow bl.size))) (Fk.mono _ _ _ _ hB (bl.trans (Below.mono K.grow bl.size))) (by symm; rw [decide_eq_true_iff]; exact hAB))
  · exact st_not (.tmp 7) rfl true (K.dep 4 7 rfl)
  · exact st_move (.tmp 8) rfl (K.dep 5 8 rfl)
  · exact (Bool.false_ne_true hw).elim
  · exact (Bool.false_ne_true hw).elim
  · exact (Bool.false_ne_true hw).elim
  · exact (Bool.false_ne_true hw).elim
  · exact (Bool.false_ne_true hw).elim
  · exact (Bool.false_ne_true hw).elim
  · exact (Bool.false_ne_true hw).elim
  · exact st_pick_f' (.tmp 9) (.tmp 16) (.const (.bool false)) rfl (K.dep 6 9 rfl) rfl
  · exact st_assign (.tmp 17) rfl (K.dep 14 17 rfl)
  intro f2 w2 A hb
  replace bl0 := bl
  replace x1 := (A.old 1 rfl).trans x1
  clear x2
  have x2 : f2.eval (.tmp 2) = .bool false := A.has 15 2 rfl
  have lt_m1 := Ob.lt m1
  replace m1 := Ob.below m1 hb
  replace bl := (bl.trans (Below.mono hb bl.size))
  replace sz := A.size.trans sz
  replace df := A.defs.trans df
  clear A hb
  clear x1
  show Code.wp _ _ _ _ _
  refine wp_ret ?_
  repeat (first | with_reducible refine then_ret ?_ | with_reducible refine block_ret ?_)
  exact bodyPost_ret (v := .bool false) (ret_slot rfl f2 _ x2 _ _) df ⟨_, rfl, by rw [← hbf]; rfl, bl⟩
theorem und_row {T : TypeId} (hr : (Tryd.prog.underlying T).map (·.isRow) = some true) : ∃ d, Tryd.prog.underlying T = some d ∧ (match d with | .struct _ | .array _ _ => true | _ => false) = true := by
  cases hu : Tryd.prog.underlying T with
  | none => rw [hu] at hr; cases hr
  | some d =>
    rw [hu] at hr
    refine ⟨d, rfl, ?_⟩
    cases d <;> first | rfl | (simp [TypeDesc.isRow] at hr)
theorem ret_c3 {fn : Func} {p u t : Tmp} (h : fn.results = #[.cell p 25, .tmp u, .tmp t]) (a : Act) (w : World) (g : Nat) (u1 u2 v x : Value) (hp : a.eval (.tmp p) = .pointer (some ⟨g, 0, none⟩)) (m : Ob w g 25 [u1, u2]) (hu : a.eval (.tmp u) = v) (ht : a.eval (.tmp t) = x) : (results fn a.tmps).run Tryd.prog w = .ok (.tuple #[.agg ([u1, u2] : List Value).toArray, v, x]) w := by
  obtain ⟨d, hd, hm⟩ := und_row (T := 25) (by kernel_rfl)
  have h1 : a.tmps.getD p undef = .pointer (some ⟨g, 0, none⟩) := hp
  have h2 : a.tmps.getD u undef = v := hu
  have h3 : a.tmps.getD t undef = x := ht
  have l1 := run_loadVar_row (P := Tryd.prog) w g 25 25 _ (0, 0) d m hd (by cases d <;> first | rfl | exact hm) (by kernel_rfl)
  rw [Array.getD_eq_getD_getElem?] at h1 h2 h3
  simp [results, h, h1, h2, h3, asAddr, l1]
/-- A collision's two inputs, as a struct has them. -/
def Fk.cs (A B : List (BitVec 8)) : Fk := .inr (.inl ⟨fun v w => ∃ u1 u2, v = .agg ([u1, u2] : List Value).toArray ∧ (Fk.sl A).f u1 w ∧ (Fk.sl B).f u2 w, by
  rintro v w w' ⟨u1, u2, e, h1, h2⟩ hb
  exact ⟨u1, u2, e, Fk.mono _ _ _ _ h1 hb, Fk.mono _ _ _ _ h2 hb⟩⟩)
/-- The hash of the leaf i. -/
def lvs (ps : List Pt) (i : Nat) : List (BitVec 8) := lf (((ps[i]?).map Pt.bs).getD [])
theorem lvs_len (ps : List Pt) (i : Nat) : (lvs ps i).length = 32 := lf_len _
theorem lvs_at {ps : List Pt} {i : Nat} {p : Pt} (h : ps[i]? = some p) : lvs ps i = lf p.bs := by unfold lvs; rw [h]; rfl
theorem firsts_at (L : Nat → List (BitVec 8)) {n i : Nat} (h : i < n) : (firsts L n)[i]? = some (L i) := by
  unfold firsts
  rw [List.getElem?_map, List.getElem?_range h]
  rfl
theorem leaves_any {ps : List Pt} (h40 : ps.length ≤ 1000) (hmx : ∀ p ∈ ps, p.bs.length ≤ 140737488351232) (w : World) {v : Value} (hv : (Fk.mg ps).f v w) (hK : Tab w) {S : List (List (BitVec 8))} (eS : Box (firsts (lvs ps) ps.length = S)) :
    Calls Tryd.prog 28 #[v] w fun e w' => ∃ u, e = .returned u ∧ (Fk.hc S).f u w' ∧ Below w.heap.size w w' := by
  go_enter Tryd.func28, Tryd.ntmps28
  refine code_both (fun f w1 => f.tmps.size = 23 ∧ f.defers = [] ∧ f.eval (.tmp 0) = v ∧ Below w.heap.size w (w1)) ⟨rfl, rfl, rfl, Below.refl _ _⟩ ?_
  rintro f0 w0 ⟨sz, df, x0, bl⟩
  have bl0 := bl
  refine wp_seq ?_
  refine wp_all_seq [.eq (.slice none 0 0)] (by kernel_rfl) (by kernel_rfl) (by rw [sz]; kernel_rfl) (by kernel_rfl) ⟨fun hw ac u K => ?_, trivial⟩ ?_
  · exact st_assign (.const (.slice none 0 0)) rfl rfl
  intro f1 w1 A hb
  replace bl0 := bl
  replace x0 := (A.old 0 rfl).trans x0
  have x2 : f1.eval (.tmp 2) = .slice none 0 0 := A.has 0 2 rfl
  replace bl := (bl.trans (Below.mono hb bl.size))
  replace sz := A.size.trans sz
  replace df := A.defs.trans df
  clear A hb
  show Code.wp _ _ _ _ _
  refine wp_seq ?_
  refine wp_all_seq [.eq (v), .eq (.int .i64 (((ps).length : Nat) : Int)), .nz w.heap.size (ps).length, .nz w.heap.size (ps).length] (by kernel_rfl) (by kernel_rfl) (by rw [sz]; kernel_rfl) (by kernel_rfl) ⟨fun hw ac u K => ?_, fun hw ac u K => ?_, fun hw ac u K => ?_, fun hw ac u K => ?_, trivial⟩ ?_
  · exact st_move (.tmp 0) rfl ((K.old 0 rfl).trans x0)
  · exact st_lenm (.tmp 6) rfl (fk_val (K.dep 0 6 rfl) (Fk.mono _ _ _ _ hv (bl.trans (Below.mono K.grow bl.size))))
  · exact st_makeh (.tmp 7) (.tmp 7) rfl (ps).length (by omega) (K.dep 1 7 rfl) (K.dep 1 7 rfl) _ (Nat.le_trans bl.size K.grow.size)
  · exact st_assign (.tmp 8) rfl (K.dep 2 8 rfl)
  intro f2 w2 A hb
  replace bl0 := bl
  replace x0 := (A.old 0 rfl).trans x0
  replace x2 := (A.old 2 rfl).trans x2
  have x3 : Fk.f (.nz w.heap.size (ps).length) (f2.eval (.tmp 3)) w2 := A.has 3 3 rfl
  replace bl := (bl.trans (Below.mono hb bl.size))
  replace sz := A.size.trans sz
  replace df := A.defs.trans df
  clear A hb
  obtain ⟨g3, hg3, e3, R3⟩ := x3
  have x3 : Fk.f (.eq (.slice (some ⟨g3, 0, none⟩) (ps).length (ps).length)) (f2.eval (.tmp 3)) w2 := e3
  clear e3
  have hw3 : w.heap.size ≤ g3 := hg3
  show Code.wp _ _ _ _ _
  refine wp_seq ?_
  refine wp_seq ?_
  refine wp_all_seq [.eq (v), .eq (.int .i64 (((ps).length : Nat) : Int)), .eq (.int .i64 0)] (by kernel_rfl) (by kernel_rfl) (by rw [sz]; kernel_rfl) (by kernel_rfl) ⟨fun hw ac u K => ?_, fun hw ac u K => ?_, fun hw ac u K => ?_, trivial⟩ ?_
  · exact st_move (.tmp 0) rfl ((K.old 0 rfl).trans x0)
  · exact st_lenm (.tmp 9) rfl (fk_val (K.dep 0 9 rfl) (Fk.mono _ _ _ _ hv (bl.trans (Below.mono K.grow bl.size))))
  · exact st_move (.const (.int .i64 0)) rfl rfl
  intro f3 w3 A hb
  replace bl0 := bl
  replace x0 := (A.old 0 rfl).trans x0
  replace x2 := (A.old 2 rfl).trans x2
  replace x3 := (A.old 3 rfl).trans x3
  have x9 : f3.eval (.tmp 9) = v := A.has 0 9 rfl
  have x10 : f3.eval (.tmp 10) = .int .i64 (((ps).length : Nat) : Int) := A.has 1 10 rfl
  have x11 : f3.eval (.tmp 11) = .int .i64 0 := A.has 2 11 rfl
  replace R3 := Rw.below R3 hb
  replace bl := (bl.trans (Below.mono hb bl.size))
  replace sz := A.size.trans sz
  replace df := A.defs.trans df
  clear A hb
  show Code.wp _ _ _ _ _
  refine wp_block ?_
  refine wp_loop (fun f v1 => ∃ k : Nat, k ≤ (ps).length ∧ f.tmps.size = 23 ∧ f.defers = [] ∧ f.eval (.tmp 0) = v ∧ f.eval (.tmp 2) = .slice none 0 0 ∧ f.eval (.tmp 3) = .slice (some ⟨g3, 0, none⟩) (ps).length (ps).length ∧ f.eval (.tmp 9) = v ∧ f.eval (.tmp 10) = .int .i64 (((ps).length : Nat) : Int) ∧ f.eval (.tmp 11) = .int .i64 ((k : Nat) : Int) ∧ Rw v1 g3 (prt (ps).length (lvs ps) k) ∧ Below w.heap.size w (v1)) (fun f _ => (ps).length - (intOf (f.eval (.tmp 11))).toNat) ⟨0, Nat.zero_le _, sz, df, x0, x2, x3, x9, x10, x11, (by rw [prt_zero]; exact R3), bl⟩ ?_
  intro f4 w4 hI
  clear sz df bl bl0 x0 x2 x3 x9 x10 x11 R3
  obtain ⟨k, hk8, sz, df, x0, x2, x3, x9, x10, x11, R3, bl⟩ := hI
  have bl0 := bl
  have hcnt := x11
  refine wp_seq ?_
  by_cases hlt : k < (ps).length
  rotate_left
  · skip
    refine wp_all_seq [.eq (.bool false)] (by kernel_rfl) (by kernel_rfl) (by rw [sz]; kernel_rfl) (by kernel_rfl) ⟨fun hw ac u K => ?_, trivial⟩ ?_
    · exact st_lss 3 (.tmp 11) (.tmp 10) rfl .i64 (((k : Nat) : Int)) ((((ps).length : Nat) : Int)) ((K.old 11 rfl).trans x11) ((K.old 10 rfl).trans x10) _ (by rw [eq_comm, decide_eq_false_iff_not]; exact fun h => hlt (Int.ofNat_lt.1 h))
    intro f5 w5 A hb
    replace bl0 := bl
    replace x0 := (A.old 0 rfl).trans x0
    replace x2 := (A.old 2 rfl).trans x2
    replace x3 := (A.old 3 rfl).trans x3
    replace x9 := (A.old 9 rfl).trans x9
    replace x10 := (A.old 10 rfl).trans x10
    replace x11 := (A.old 11 rfl).trans x11
    have x12 : f5.eval (.tmp 12) = .bool false := A.has 0 12 rfl
    replace R3 := Rw.below R3 hb
    replace bl := (bl.trans (Below.mono hb bl.size))
    replace sz := A.size.trans sz
    replace df := A.defs.trans df
    clear A hb
    show Code.wp _ _ _ _ _
    refine wp_seq ?_
    refine wp_cond_false x12 ?_
    refine wp_exit ?_
    show Code.wp _ _ _ _ _
    refine wp_seq ?_
    refine wp_all_seq [.eq (.slice (some ⟨g3, 0, none⟩) (ps).length (ps).length), .eq (.slice (some ⟨g3, 0, none⟩) (ps).length (ps).length)] (by kernel_rfl) (by kernel_rfl) (by rw [sz]; kernel_rfl) (by kernel_rfl) ⟨fun hw ac u K => ?_, fun hw ac u K => ?_, trivial⟩ ?_
    · exact st_move (.tmp 3) rfl ((K.old 3 rfl).trans x3)
    · exact st_assign (.tmp 22) rfl (K.dep 0 22 rfl)
    intro f6 w6 A hb
    replace bl0 := bl
    replace x0 := (A.old 0 rfl).trans x0
    clear x2
    replace x3 := (A.old 3 rfl).trans x3
    replace x9 := (A.old 9 rfl).trans x9
    replace x10 := (A.old 10 rfl).trans x10
    replace x11 := (A.old 11 rfl).trans x11
    replace x12 := (A.old 12 rfl).trans x12
    have x2 : f6.eval (.tmp 2) = .slice (some ⟨g3, 0, none⟩) (ps).length (ps).length := A.has 1 2 rfl
    replace R3 := Rw.below R3 hb
    replace bl := (bl.trans (Below.mono hb bl.size))
    replace sz := A.size.trans sz
    replace df := A.defs.trans df
    clear A hb
    show Code.wp _ _ _ _ _
    refine wp_ret ?_
    repeat (first | with_reducible refine then_ret ?_ | with_reducible refine block_ret ?_)
    obtain rfl : k = (ps).length := by omega
    rw [prt_all, eS.out] at R3
    exact bodyPost_ret (v := f6.eval (.tmp 2)) (ret_slot rfl f6 _ rfl _ _) df ⟨_, rfl, by rw [show f6.eval (.tmp 2) = _ from x2]; exact ⟨_, _, g3, 0, by rw [← eS.out, firsts_len], by rw [← eS.out, firsts_len]; exact Nat.le_refl _, R3.hl⟩, bl⟩
  obtain ⟨p, hpk⟩ : ∃ p, ps[k]? = some p := ⟨_, List.getElem?_eq_getElem hlt⟩
  have hpl := hmx p (List.mem_of_getElem? hpk)
  have hsl : (Fk.sl p.bs).f (.slice p.sp p.m p.c) w := ⟨_, _, _, _, _, rfl, mg_ok hv hpk⟩
  obtain ⟨y, ey0⟩ : ∃ y, Box (lvs ps k = y) := ⟨_, ⟨rfl⟩⟩
  have hy : y.length = 32 := by rw [← ey0.out]; exact lvs_len _ _
  have ey : Box (lf p.bs = y) := ⟨by rw [← lvs_at hpk]; exact ey0.out⟩
  refine wp_all_seq [.eq (.bool true)] (by kernel_rfl) (by kernel_rfl) (by rw [sz]; kernel_rfl) (by kernel_rfl) ⟨fun hw ac u K => ?_, trivial⟩ ?_
  · exact st_lss 3 (.tmp 11) (.tmp 10) rfl .i64 (((k : Nat) : Int)) ((((ps).length : Nat) : Int)) ((K.old 11 rfl).trans x11) ((K.old 10 rfl).trans x10) _ (by rw [eq_comm, decide_eq_true_iff]; exact Int.ofNat_lt.2 hlt)
  intro f5 w5 A hb
  replace bl0 := bl
  replace x0 := (A.old 0 rfl).trans x0
  replace x2 := (A.old 2 rfl).trans x2
  replace x3 := (A.old 3 rfl).trans x3
  replace x9 := (A.old 9 rfl).trans x9
  replace x10 := (A.old 10 rfl).trans x10
  replace x11 := (A.old 11 rfl).trans x11
  have x12 : f5.eval (.tmp 12) = .bool true := A.has 0 12 rfl
  replace R3 := Rw.below R3 hb
  replace bl := (bl.trans (Below.mono hb bl.size))
  replace sz := A.size.trans sz
  replace df := A.defs.trans df
  clear A hb
  show Code.wp _ _ _ _ _
  refine wp_seq ?_
  refine wp_cond_true x12 ?_
  refine wp_skip ?_
  show Code.wp _ _ _ _ _
  refine wp_seq ?_
  refine wp_block ?_
  refine wp_seq ?_
  refine wp_all_seq [.eq (.int .i64 ((k : Nat) : Int)), .pv (.slice p.sp p.m p.c), .eq (.slice p.sp p.m p.c), .eq (.int .i64 ((k : Nat) : Int)), .eq (.slice p.sp p.m p.c)] (by kernel_rfl) (by kernel_rfl) (by rw [sz]; kernel_rfl) (by kernel_rfl) ⟨fun hw ac u K => ?_, fun hw ac u K => ?_, fun hw ac u K => ?_, fun hw ac u K => ?_, fun hw ac u K => ?_, trivial⟩ ?_
  · exact st_move (.tmp 11) rfl ((K.old 11 rfl).trans x11)
  · exact st_idxm (.tmp 9) (.tmp 11) rfl (fk_val ((K.old 9 rfl).trans x9) (Fk.mono _ _ _ _ hv (bl.trans (Below.mono K.grow bl.size)))) k p ((K.old 11 rfl).trans x11) hpk
  · exact st_loadsl (.tmp 14) rfl (K.dep 1 14 rfl)
  · exact st_assign (.tmp 13) rfl (K.dep 0 13 rfl)
  · exact st_assign (.tmp 15) rfl (K.dep 2 15 rfl)
  intro f6 w6 A hb
  replace bl0 := bl
  replace x0 := (A.old 0 rfl).trans x0
  replace x2 := (A.old 2 rfl).trans x2
  replace x3 := (A.old 3 rfl).trans x3
  replace x9 := (A.old 9 rfl).trans x9
  replace x10 := (A.old 10 rfl).trans x10
  replace x11 := (A.old 11 rfl).trans x11
  replace x12 := (A.old 12 rfl).trans x12
  have x4 : f6.eval (.tmp 4) = .int .i64 ((k : Nat) : Int) := A.has 3 4 rfl
  have x5 : f6.eval (.tmp 5) = .slice p.sp p.m p.c := A.has 4 5 rfl
  replace R3 := Rw.below R3 hb
  replace bl := (bl.trans (Below.mono hb bl.size))
  replace sz := A.size.trans sz
  replace df := A.defs.trans df
  clear A hb
  show Code.wp _ _ _ _ _
  refine wp_region_seq [.eq (.slice (some ⟨g3, 0, none⟩) (ps).length (ps).length), .eq (.int .i64 ((k : Nat) : Int)), .eq (.slice p.sp p.m p.c), .eq (.agg ((y).map V).toArray), .eq (.pointer (some ⟨g3, k * 32, none⟩))] (by kernel_rfl) (by kernel_rfl) (by rw [sz]; kernel_rfl) (by kernel_rfl) ⟨fun hw ac u K => ?_, fun hw ac u K => ?_, fun hw ac u K => ?_, fun hw ac u K => ?_, fun hw ac u K => ?_, trivial⟩ ?_
  · exact st_move (.tmp 3) rfl ((K.old 3 rfl).trans x3)
  · exact st_move (.tmp 4) rfl ((K.old 4 rfl).trans x4)
  · exact st_move (.tmp 5) rfl ((K.old 5 rfl).trans x5)
  · exact st_call 18 (.func 18) _ _ #[.slice p.sp p.m p.c] rfl rfl (one_arg (K.dep 2 18 rfl)) Tryd.enter18 (fk_leaf hpl (hK.below (bl.trans (Below.mono K.grow bl.size))) (Fk.mono _ _ _ _ hsl (bl.trans (Below.mono K.grow bl.size))) ey)
  · exact st_idxr (.tmp 16) (.tmp 17) rfl g3 k (ps).length (K.dep 0 16 rfl) (K.dep 1 17 rfl) hlt
  intro f7 w7 A hb
  have S_R3 := R3
  have hbS0 := Below.refl w6.heap.size w6
  have hbS := hb
  replace bl0 := bl
  replace x0 := (A.old 0 rfl).trans x0
  replace x2 := (A.old 2 rfl).trans x2
  replace x3 := (A.old 3 rfl).trans x3
  replace x9 := (A.old 9 rfl).trans x9
  replace x10 := (A.old 10 rfl).trans x10
  replace x11 := (A.old 11 rfl).trans x11
  replace x12 := (A.old 12 rfl).trans x12
  replace x4 := (A.old 4 rfl).trans x4
  replace x5 := (A.old 5 rfl).trans x5
  have x19 : f7.eval (.tmp 19) = .agg ((y).map V).toArray := A.has 3 19 rfl
  have x20 : f7.eval (.tmp 20) = .pointer (some ⟨g3, k * 32, none⟩) := A.has 4 20 rfl
  replace R3 := Rw.below R3 hb
  replace bl := (bl.trans (Below.mono hb bl.size))
  replace sz := A.size.trans sz
  replace df := A.defs.trans df
  clear A hb
  clear x4
  clear x5
  refine wl_storew rfl (.tmp 20) (.tmp 19) rfl rfl g3 (k) (y) _ x20 x19 R3 (by rw [prt_len]; exact hlt) hy ?_
  replace R3 := Rw.store R3 k y (by rw [prt_len]; exact hlt) hy
  rw [show (prt (ps).length (lvs ps) k).set k y = prt (ps).length (lvs ps) (k + 1) from by rw [← ey0.out]; exact prt_set _ _ _] at R3
  replace bl := below_setCells hw3 ((y).map V) (k * 32) _ bl
  generalize w7.setCells g3 (k * 32) ((y).map V) = w8b at R3 bl ⊢
  refine wpList_nil ?_
  clear hbS hbS0 S_R3
  clear x19
  clear x20
  show Code.wp _ _ _ _ _
  refine wp_region_seq [.eq (.int .i64 ((k + 1 : Nat) : Int))] (by kernel_rfl) (by kernel_rfl) (by rw [sz]; kernel_rfl) (by kernel_rfl) ⟨fun hw ac u K => ?_, trivial⟩ ?_
  · exact st_add (.tmp 11) (.const (.int .i64 1)) rfl (k) (1) (k + 1) ((K.old 11 rfl).trans x11) rfl (by omega) (by omega)
  intro f9 w9 A hb
  replace bl0 := bl
  replace x0 := (A.old 0 rfl).trans x0
  replace x2 := (A.old 2 rfl).trans x2
  replace x3 := (A.old 3 rfl).trans x3
  replace x9 := (A.old 9 rfl).trans x9
  replace x10 := (A.old 10 rfl).trans x10
  replace x11 := (A.old 11 rfl).trans x11
  replace x12 := (A.old 12 rfl).trans x12
  have x21 : f9.eval (.tmp 21) = .int .i64 ((k + 1 : Nat) : Int) := A.has 0 21 rfl
  replace R3 := Rw.below R3 hb
  replace bl := (bl.trans (Below.mono hb bl.size))
  replace sz := A.size.trans sz
  replace df := A.defs.trans df
  clear A hb
  refine wl_one (.eq (.int .i64 ((k + 1 : Nat) : Int))) rfl 11 rfl (by rw [sz]; decide) (st_move (.tmp 21) rfl x21) ?_
  intro f10 w10 df2 sz2 old2 new2 hb
  replace bl0 := bl
  replace x0 := (old2 0 rfl).trans x0
  replace x2 := (old2 2 rfl).trans x2
  replace x3 := (old2 3 rfl).trans x3
  replace x9 := (old2 9 rfl).trans x9
  replace x10 := (old2 10 rfl).trans x10
  clear x11
  replace x12 := (old2 12 rfl).trans x12
  replace x21 := (old2 21 rfl).trans x21
  have x11 : f10.eval (.tmp 11) = .int .i64 ((k + 1 : Nat) : Int) := new2
  replace R3 := Rw.below R3 hb
  replace bl := (bl.trans (Below.mono hb bl.size))
  replace sz := sz2.trans sz
  replace df := df2.trans df
  clear df2 sz2 old2 new2 hb
  refine wpList_nil ?_
  clear x21
  show (∃ _, _) ∧ _
  refine ⟨⟨k + 1, by omega, sz, df, x0, x2, x3, x9, x10, x11, R3, bl⟩, ?_⟩
  rw [show f10.eval (.tmp 11) = _ from x11, show _ = _ from hcnt]
  simp [intOf]
  omega
theorem lvs_lhs (ps : List Pt) : firsts (lvs ps) ps.length = lhs ps := by
  apply List.ext_getElem?
  intro i
  by_cases hi : i < ps.length
  · rw [firsts_at _ hi]
    obtain ⟨p, hp⟩ : ∃ p, ps[i]? = some p := ⟨_, List.getElem?_eq_getElem hi⟩
    rw [lvs_at hp, lhs_at hp]
  · rw [List.getElem?_eq_none (by rw [firsts_len]; omega), List.getElem?_eq_none (by rw [lhs_len]; omega)]
theorem fk_lroot {ps : List Pt} (h40 : ps.length ≤ 1000) (hmx : ∀ p ∈ ps, p.bs.length ≤ 140737488351232) {w : World} {v : Value} (hv : (Fk.mg ps).f v w) (hK : Tab w) {y : List (BitVec 8)} (ey : Box (mroot (lhs ps) = y)) :
    Calls Tryd.prog 31 #[v] w fun e w' => ∃ u, e = .returned u ∧ (Fk.eq (.agg ((y).map V).toArray)).f u w' ∧ Below w.heap.size w w' := by
  have hy : y.length = 32 := by rw [← ey.out]; exact mroot_len (lhs_32 ps)
  go_enter Tryd.func31, Tryd.ntmps31
  refine code_both (fun f w1 => f.tmps.size = 6 ∧ f.defers = [] ∧ f.eval (.tmp 0) = v ∧ Below w.heap.size w (w1)) ⟨rfl, rfl, rfl, Below.refl _ _⟩ ?_
  rintro f0 w0 ⟨sz, df, x0, bl⟩
  have bl0 := bl
  refine wp_seq ?_
  refine wp_all_seq [.nw w0.heap.size 33 ((hz).map V)] (by kernel_rfl) (by kernel_rfl) (by rw [sz]; kernel_rfl) (by kernel_rfl) ⟨fun hw ac u K => ?_, trivial⟩ ?_
  · exact st_alloc33 rfl _ K.grow.size
  intro f1 w1 A hb
  replace bl0 := bl
  replace x0 := (A.old 0 rfl).trans x0
  have x2 : Fk.f (.nw w0.heap.size 33 ((hz).map V)) (f1.eval (.tmp 2)) w1 := A.has 0 2 rfl
  replace bl := (bl.trans (Below.mono hb bl.size))
  replace sz := A.size.trans sz
  replace df := A.defs.trans df
  clear A hb
  obtain ⟨g2, hg2, e2, m2⟩ := x2
  have x2 := e2
  clear e2
  have hw2 : w.heap.size ≤ g2 := Nat.le_trans bl0.size hg2
  show Code.wp _ _ _ _ _
  refine wp_seq ?_
  refine wp_region_seq [.eq (v), .hc (lhs ps), .eq (.agg ((y).map V).toArray)] (by kernel_rfl) (by kernel_rfl) (by rw [sz]; kernel_rfl) (by kernel_rfl) ⟨fun hw ac u K => ?_, fun hw ac u K => ?_, fun hw ac u K => ?_, trivial⟩ ?_
  · exact st_move (.tmp 0) rfl ((K.old 0 rfl).trans x0)
  · exact st_call 28 (.func 28) _ _ #[v] rfl rfl (one_arg (K.dep 0 3 rfl)) Tryd.enter28 (leaves_any (by omega) hmx _ (Fk.mono _ _ _ _ hv (bl.trans (Below.mono K.grow bl.size))) (hK.below (bl.trans (Below.mono K.grow bl.size))) ⟨lvs_lhs ps⟩)
  · exact st_call 19 (.func 19) _ _ #[ac.eval (.tmp 4)] rfl rfl (one_arg rfl) Tryd.enter19 (fk_of (root_any (lhs ps) _ _ (by rw [lhs_len]; omega) (K.dep 1 4 rfl) (hK.below (bl.trans (Below.mono K.grow bl.size))) ey))
  intro f2 w2 A hb
  replace bl0 := bl
  replace x0 := (A.old 0 rfl).trans x0
  replace x2 := (A.old 2 rfl).trans x2
  have x5 : f2.eval (.tmp 5) = .agg ((y).map V).toArray := A.has 2 5 rfl
  have lt_m2 := Ob.lt m2
  replace m2 := Ob.below m2 hb
  replace bl := (bl.trans (Below.mono hb bl.size))
  replace sz := A.size.trans sz
  replace df := A.defs.trans df
  clear A hb
  clear x0
  refine wl_store rfl (.tmp 2) (.tmp 5) rfl rfl (g2) (y) (hz) x2 x5 m2 hz_len hy ?_
  replace m2 : Ob (w2.setRow g2 ((y).map V : List Value).toArray) (g2) 33 ((y).map V) := Ob.setRow m2 ((y).map V)
  replace bl : Below w.heap.size w (w2.setRow g2 ((y).map V : List Value).toArray) := bl.trans (below_setRow _ _ _ _ hw2)
  generalize w2.setRow g2 ((y).map V : List Value).toArray = w3b at bl m2 ⊢
  refine wpList_nil ?_
  clear x5
  show Code.wp _ _ _ _ _
  refine wp_ret ?_
  repeat (first | with_reducible refine then_ret ?_ | with_reducible refine block_ret ?_)
  exact bodyPost_ret (v := .agg ((y).map V).toArray) (ret_hash rfl f2 _ g2 (y) hy x2 m2) df ⟨_, rfl, rfl, bl⟩
end Go.Proofs.YtfmeeimhfdnjpaaDoor
namespace Go.Proofs.YtfmeeimhfdnjpaaDoor
set_option maxRecDepth 100000
open Go.RowKit
end Go.Proofs.YtfmeeimhfdnjpaaDoor
namespace Go.Proofs.YtfmeeimhfdnjpaaDoor
set_option maxRecDepth 100000
end Go.Proofs.YtfmeeimhfdnjpaaDoor
namespace Go.Proofs.YtfmeeimhfdnjpaaDoor
set_option maxRecDepth 100000
open Go.RowKit
section
variable {S : World → Prop} {o p : Oper} {a : Act} {Q : Exit → Act → World → Prop} {ops : Array Oper} {w : World}
end
end Go.Proofs.YtfmeeimhfdnjpaaDoor
namespace Go.Proofs.YtfmeeimhfdnjpaaDoor
set_option maxRecDepth 100000
open Go.RowKit
theorem mc_val {ps : List Pt} {v : Value} {w : World} (h : (Fk.mc ps).f v w) : ∃ A C, v = .slice A ps.length C ∧ ps.length ≤ C ∧ (Fk.mc ps).f (.slice A ps.length C) w := by
  obtain ⟨A, C, lb, lo, e, hp, hl⟩ := id h.1
  rw [e] at h
  exact ⟨A, C, e, h.2 A C rfl, h⟩
theorem c3_none (n : Int) (w : World) : (Fk.c3 false n).f (.tuple #[.agg ([.slice none 0 0, .slice none 0 0] : List Value).toArray, .bool false, .int .i64 n]) w := ⟨[], [], _, _, rfl, sl_nil w, sl_nil w, by simp, by simp, fun h => by cases h⟩
section
variable {Q : Exit → Act → World → Prop} {o : Oper} {a : Act} {w : World}
end
end Go.Proofs.YtfmeeimhfdnjpaaDoor
namespace Go.Proofs.YtfmeeimhfdnjpaaDoor
set_option maxRecDepth 100000
open Go.RowKit
section
variable {Q : Exit → Act → World → Prop} {o : Oper} {a : Act} {w : World} {ops : Array Oper} {rest : List Oper}
end
/-- A slice of so many hashes, whatever they are, whose row (if there is one) is the call's own: it lies at s or behind it. -/
def OwnP (s m : Nat) (v : Value) (w : World) : Prop := (∃ A C, v = .slice A m C) ∧ (0 < m → ∃ g cap ys, v = .slice (some ⟨g, 0, none⟩) m cap ∧ s ≤ g ∧ ys.length = m ∧ Rw w g ys)
theorem OwnP.mono {s m : Nat} {v : Value} {w w' : World} (h : OwnP s m v w) (hb : Below w.heap.size w w') : OwnP s m v w' := ⟨h.1, fun hm => by
  obtain ⟨g, cap, ys, e, h1, h2, h3⟩ := h.2 hm
  exact ⟨g, cap, ys, e, h1, h2, h3.below hb⟩⟩
section
variable {Q : Exit → Act → World → Prop} {o : Oper} {a : Act} {w : World}
end
end Go.Proofs.YtfmeeimhfdnjpaaDoor
namespace Go.Proofs.YtfmeeimhfdnjpaaDoor
set_option maxRecDepth 100000
open Go.RowKit
section
variable {Q : Exit → Act → World → Prop} {o : Oper} {a : Act} {w : World}
end
end Go.Proofs.YtfmeeimhfdnjpaaDoor
namespace Go.Proofs.YtfmeeimhfdnjpaaDoor
set_option maxRecDepth 100000
open Go.RowKit
theorem smallP_mx {ps : List Pt} (h : smallP ps) : ∀ p ∈ ps, p.bs.length ≤ 140737488351232 := fun p hp => Nat.le_trans (h.1 p hp) (by decide)
end Go.Proofs.YtfmeeimhfdnjpaaDoor
namespace Go.Proofs.YtfmeeimhfdnjpaaDoor
set_option maxRecDepth 100000
open Go.RowKit
set_option maxHeartbeats 1000000 in
theorem fk_cin_no {ps : List Pt} (_hs : smallP ps) {lb : List (BitVec 8)} (_hlb : lb.length ≤ 300) {P : List (List (BitVec 8))} (_hP : P.length ≤ 50) {w : World} {va ul up : Value} (ha : (Fk.mc ps).f va w) (_hl : (Fk.sl lb).f ul w) (_hp : (Fk.hc P).f up w) (_hK : Tab w) {i n : Int} (h : n ≠ ps.length ∨ i < 0 ∨ (ps.length : Int) ≤ i) :
    Calls Tryd.prog 16 #[va, .agg ([.int .i64 i, .int .i64 n, ul, up] : List Value).toArray] w fun e w' => ∃ u, e = .returned u ∧ (Fk.c3 false 11).f u w' ∧ Below w.heap.size w w' := by
  have ham := ha.1
  go_enter Tryd.func16, Tryd.ntmps16
  refine code_both (fun f w1 => f.tmps.size = 51 ∧ f.defers = [] ∧ f.eval (.tmp 0) = va ∧ f.eval (.tmp 1) = .agg ([.int .i64 i, .int .i64 n, ul, up] : List Value).toArray ∧ Below w.heap.size w (w1)) ⟨rfl, rfl, rfl, rfl, Below.refl _ _⟩ ?_
  rintro f0 w0 ⟨sz, df, x0, x1, bl⟩
  have bl0 := bl
  refine wp_seq ?_
  refine wp_region_seq [] (by kernel_rfl) (by kernel_rfl) (by rw [sz]; kernel_rfl) (by kernel_rfl) trivial ?_
  intro f1 w1 A hb
  replace bl0 := bl
  replace x0 := (A.old 0 rfl).trans x0
  replace x1 := (A.old 1 rfl).trans x1
  replace bl := (bl.trans (Below.mono hb bl.size))
  replace sz := A.size.trans sz
  replace df := A.defs.trans df
  clear A hb
  refine wl_one (.nw w1.heap.size 39 ([.int .i64 i, .int .i64 n, ul, up] : List Value)) rfl 3 rfl (by rw [sz]; decide) (st_box 39 (.tmp 1) rfl _ _ (by rw [show _ = _ from x1]; kernel_rfl) (Nat.le_refl _)) ?_
  intro f2 w2 df2 sz2 old2 new2 hb
  replace bl0 := bl
  replace x0 := (old2 0 rfl).trans x0
  replace x1 := (old2 1 rfl).trans x1
  have x3 : Fk.f (.nw w1.heap.size 39 ([.int .i64 i, .int .i64 n, ul, up] : List Value)) (f2.eval (.tmp 3)) w2 := new2
  replace bl := (bl.trans (Below.mono hb bl.size))
  replace sz := sz2.trans sz
  replace df := df2.trans df
  clear df2 sz2 old2 new2 hb
  obtain ⟨g3, hg3, e3, m3⟩ := x3
  have x3 := e3
  clear e3
  have hw3 : w.heap.size ≤ g3 := Nat.le_trans bl0.size hg3
  clear x1
  refine wl_one (.nw w2.heap.size 25 [.slice none 0 0, .slice none 0 0]) rfl 4 rfl (by rw [sz]; decide) (st_alloc 25 rfl _ _ (by kernel_rfl) (Nat.le_refl _)) ?_
  intro f3 w3 df2 sz2 old2 new2 hb
  replace bl0 := bl
  replace x0 := (old2 0 rfl).trans x0
  replace x3 := (old2 3 rfl).trans x3
  have x4 : Fk.f (.nw w2.heap.size 25 [.slice none 0 0, .slice none 0 0]) (f3.eval (.tmp 4)) w3 := new2
  have lt_m3 := Ob.lt m3
  replace m3 := Ob.below m3 hb
  replace bl := (bl.trans (Below.mono hb bl.size))
  replace sz := sz2.trans sz
  replace df := df2.trans df
  clear df2 sz2 old2 new2 hb
  obtain ⟨g4, hg4, e4, m4⟩ := x4
  have x4 := e4
  clear e4
  have nm3_4 : g3 ≠ g4 := Nat.ne_of_lt (Nat.lt_of_lt_of_le lt_m3 hg4)
  have hw4 : w.heap.size ≤ g4 := Nat.le_trans bl0.size hg4
  refine wl_one (.eq (.bool false)) rfl 5 rfl (by rw [sz]; decide) (st_assign (.const (.bool false)) rfl rfl) ?_
  intro f4 w4 df2 sz2 old2 new2 hb
  replace bl0 := bl
  replace x0 := (old2 0 rfl).trans x0
  replace x3 := (old2 3 rfl).trans x3
  replace x4 := (old2 4 rfl).trans x4
  have x5 : f4.eval (.tmp 5) = .bool false := new2
  have lt_m3 := Ob.lt m3
  replace m3 := Ob.below m3 hb
  have lt_m4 := Ob.lt m4
  replace m4 := Ob.below m4 hb
  replace bl := (bl.trans (Below.mono hb bl.size))
  replace sz := sz2.trans sz
  replace df := df2.trans df
  clear df2 sz2 old2 new2 hb
  refine wl_one (.eq (.int .i64 0)) rfl 6 rfl (by rw [sz]; decide) (st_assign (.const (.int .i64 0)) rfl rfl) ?_
  intro f5 w5 df2 sz2 old2 new2 hb
  replace bl0 := bl
  replace x0 := (old2 0 rfl).trans x0
  replace x3 := (old2 3 rfl).trans x3
  replace x4 := (old2 4 rfl).trans x4
  replace x5 := (old2 5 rfl).trans x5
  have x6 : f5.eval (.tmp 6) = .int .i64 0 := new2
  have lt_m3 := Ob.lt m3
  replace m3 := Ob.below m3 hb
  have lt_m4 := Ob.lt m4
  replace m4 := Ob.below m4 hb
  replace bl := (bl.trans (Below.mono hb bl.size))
  replace sz := sz2.trans sz
  replace df := df2.trans df
  clear df2 sz2 old2 new2 hb
  refine wpList_nil ?_
  show Code.wp _ _ _ _ _
  refine wp_seq ?_
  refine wp_seq ?_
  by_cases hn : n ≠ (ps.length : Int)
  rotate_left
  · skip
    by_cases hi : i < 0
    rotate_left
    · skip
      refine wp_all_seq [.eq (.pointer (some ⟨g3, 1, none⟩)), .eq (.int .i64 n), .eq (va), .eq (.int .i64 (((ps).length : Nat) : Int)), .eq (.bool false), .eq (.bool false), .eq (.pointer (some ⟨g3, 0, none⟩)), .eq (.int .i64 i), .eq (.bool false), .eq (.bool false), .eq (.bool false), .eq (.pointer (some ⟨g3, 0, none⟩)), .eq (.int .i64 i), .eq (.pointer (some ⟨g3, 1, none⟩)), .eq (.int .i64 n), .eq (.bool true), .eq (.bool true)] (by kernel_rfl) (by kernel_rfl) (by rw [sz]; kernel_rfl) (by kernel_rfl) ⟨fun hw ac u K => ?_, fun hw ac u K => ?_, fun hw ac u K => ?_, fun hw ac u K => ?_, fun hw ac u K => ?_, fun hw ac u K => ?_, fun hw ac u K => ?_, fun hw ac u K => ?_, fun hw ac u K => ?_, fun hw ac u K => ?_, fun hw ac u K => ?_, fun hw ac u K => ?_, fun hw ac u K => ?_, fun hw ac u K => ?_, fun hw ac u K => ?_, fun hw ac u K => ?_, fun hw ac u K => ?_, trivial⟩ ?_
      · exact st_field 39 1 (.tmp 3) rfl ((K.old 3 rfl).trans x3) (by kernel_rfl)
      · exact st_loadc 3 (.tmp 7) rfl (by kernel_rfl) (K.dep 0 7 rfl) (Ob.cell (Ob.below m3 K.grow) 1 rfl)
      · exact st_move (.tmp 0) rfl ((K.old 0 rfl).trans x0)
      · exact st_lenm (.tmp 9) rfl (fk_val (K.dep 2 9 rfl) (Fk.mono _ _ _ _ ham (bl.trans (Below.mono K.grow bl.size))))
      · exact st_neqi 3 (.tmp 8) (.tmp 10) rfl .i64 (n) ((((ps).length : Nat) : Int)) (K.dep 1 8 rfl) (K.dep 3 10 rfl) _ (by symm; rw [decide_eq_false_iff_not]; exact hn)
      · exact st_move (.tmp 11) rfl (K.dep 4 11 rfl)
      · exact st_field 39 0 (.tmp 3) rfl ((K.old 3 rfl).trans x3) (by kernel_rfl)
      · exact st_loadc 3 (.tmp 13) rfl (by kernel_rfl) (K.dep 6 13 rfl) (Ob.cell (Ob.below m3 K.grow) 0 rfl)
      · exact st_lss 3 (.tmp 14) (.const (.int .i64 0)) rfl .i64 (i) (0) (K.dep 7 14 rfl) rfl _ (by symm; rw [decide_eq_false_iff_not]; exact hi)
      · exact st_pick_f' (.tmp 12) (.const (.bool true)) (.tmp 15) rfl (K.dep 5 12 rfl) (K.dep 8 15 rfl)
      · exact st_move (.tmp 16) rfl (K.dep 9 16 rfl)
      · exact st_field 39 0 (.tmp 3) rfl ((K.old 3 rfl).trans x3) (by kernel_rfl)
      · exact st_loadc 3 (.tmp 18) rfl (by kernel_rfl) (K.dep 11 18 rfl) (Ob.cell (Ob.below m3 K.grow) 0 rfl)
      · exact st_field 39 1 (.tmp 3) rfl ((K.old 3 rfl).trans x3) (by kernel_rfl)
      · exact st_loadc 3 (.tmp 20) rfl (by kernel_rfl) (K.dep 13 20 rfl) (Ob.cell (Ob.below m3 K.grow) 1 rfl)
      · exact st_geq 3 (.tmp 19) (.tmp 21) rfl .i64 (i) (n) (K.dep 12 19 rfl) (K.dep 14 21 rfl) _ (by symm; rw [decide_eq_true_iff]; exact (by rcases h with h | h | h; exact absurd h hn; exact absurd h hi; omega))
      · exact st_pick_f' (.tmp 17) (.const (.bool true)) (.tmp 22) rfl (K.dep 10 17 rfl) (K.dep 15 22 rfl)
      intro f6 w6 A hb
      replace bl0 := bl
      replace x0 := (A.old 0 rfl).trans x0
      replace x3 := (A.old 3 rfl).trans x3
      replace x4 := (A.old 4 rfl).trans x4
      replace x5 := (A.old 5 rfl).trans x5
      replace x6 := (A.old 6 rfl).trans x6
      have x23 : f6.eval (.tmp 23) = .bool true := A.has 16 23 rfl
      have lt_m3 := Ob.lt m3
      replace m3 := Ob.below m3 hb
      have lt_m4 := Ob.lt m4
      replace m4 := Ob.below m4 hb
      replace bl := (bl.trans (Below.mono hb bl.size))
      replace sz := A.size.trans sz
      replace df := A.defs.trans df
      clear A hb
      show Code.wp _ _ _ _ _
      refine wp_cond_true x23 ?_
      refine wp_seq ?_
      refine wp_region_seq [.eq (.agg ([.slice none 0 0, .slice none 0 0] : List Value).toArray)] (by kernel_rfl) (by kernel_rfl) (by rw [sz]; kernel_rfl) (by kernel_rfl) ⟨fun hw ac u K => ?_, trivial⟩ ?_
      · exact st_build 25 _ rfl (by kernel_rfl)
      intro f7 w7 A hb
      replace bl0 := bl
      replace x0 := (A.old 0 rfl).trans x0
      replace x3 := (A.old 3 rfl).trans x3
      replace x4 := (A.old 4 rfl).trans x4
      replace x5 := (A.old 5 rfl).trans x5
      replace x6 := (A.old 6 rfl).trans x6
      replace x23 := (A.old 23 rfl).trans x23
      have x24 : f7.eval (.tmp 24) = .agg ([.slice none 0 0, .slice none 0 0] : List Value).toArray := A.has 0 24 rfl
      have lt_m3 := Ob.lt m3
      replace m3 := Ob.below m3 hb
      have lt_m4 := Ob.lt m4
      replace m4 := Ob.below m4 hb
      replace bl := (bl.trans (Below.mono hb bl.size))
      replace sz := A.size.trans sz
      replace df := A.defs.trans df
      clear A hb
      refine wl_str rfl 25 (.tmp 4) (.tmp 24) rfl rfl (g4) ([.slice none 0 0, .slice none 0 0] : List Value).toArray x4 x24 25 _ m4 (by kernel_rfl) (by kernel_rfl) (by kernel_rfl) ?_
      replace m3 : Ob (w7.setRow g4 ([.slice none 0 0, .slice none 0 0] : List Value).toArray) (g3) 39 ([.int .i64 i, .int .i64 n, ul, up]) := Ob.setRow_other m3 _ nm3_4
      replace m4 : Ob (w7.setRow g4 ([.slice none 0 0, .slice none 0 0] : List Value).toArray) (g4) 25 ([.slice none 0 0, .slice none 0 0]) := Ob.setRow m4 ([.slice none 0 0, .slice none 0 0])
      replace bl : Below w.heap.size w (w7.setRow g4 ([.slice none 0 0, .slice none 0 0] : List Value).toArray) := bl.trans (below_setRow _ _ _ _ hw4)
      generalize w7.setRow g4 ([.slice none 0 0, .slice none 0 0] : List Value).toArray = w8b at bl m3 m4 ⊢
      clear x24
      refine wl_one (.eq (.bool false)) rfl 5 rfl (by rw [sz]; decide) (st_assign (.const (.bool false)) rfl rfl) ?_
      intro f9 w9 df2 sz2 old2 new2 hb
      replace bl0 := bl
      replace x0 := (old2 0 rfl).trans x0
      replace x3 := (old2 3 rfl).trans x3
      replace x4 := (old2 4 rfl).trans x4
      clear x5
      replace x6 := (old2 6 rfl).trans x6
      replace x23 := (old2 23 rfl).trans x23
      have x5 : f9.eval (.tmp 5) = .bool false := new2
      have lt_m3 := Ob.lt m3
      replace m3 := Ob.below m3 hb
      have lt_m4 := Ob.lt m4
      replace m4 := Ob.below m4 hb
      replace bl := (bl.trans (Below.mono hb bl.size))
      replace sz := sz2.trans sz
      replace df := df2.trans df
      clear df2 sz2 old2 new2 hb
      refine wl_one (.eq (.int .i64 11)) rfl 6 rfl (by rw [sz]; decide) (st_assign (.const (.int .i64 11)) rfl rfl) ?_
      intro f10 w10 df2 sz2 old2 new2 hb
      replace bl0 := bl
      replace x0 := (old2 0 rfl).trans x0
      replace x3 := (old2 3 rfl).trans x3
      replace x4 := (old2 4 rfl).trans x4
      clear x6
      replace x23 := (old2 23 rfl).trans x23
      replace x5 := (old2 5 rfl).trans x5
      have x6 : f10.eval (.tmp 6) = .int .i64 11 := new2
      have lt_m3 := Ob.lt m3
      replace m3 := Ob.below m3 hb
      have lt_m4 := Ob.lt m4
      replace m4 := Ob.below m4 hb
      replace bl := (bl.trans (Below.mono hb bl.size))
      replace sz := sz2.trans sz
      replace df := df2.trans df
      clear df2 sz2 old2 new2 hb
      refine wpList_nil ?_
      show Code.wp _ _ _ _ _
      refine wp_ret ?_
      repeat (first | with_reducible refine then_ret ?_ | with_reducible refine block_ret ?_)
      exact bodyPost_ret (v := .tuple #[.agg ([.slice none 0 0, .slice none 0 0] : List Value).toArray, .bool false, .int .i64 11]) (ret_c3 rfl f10 _ g4 _ _ _ _ x4 m4 x5 x6) df ⟨_, rfl, c3_none _ _, bl⟩
    refine wp_all_seq [.eq (.pointer (some ⟨g3, 1, none⟩)), .eq (.int .i64 n), .eq (va), .eq (.int .i64 (((ps).length : Nat) : Int)), .eq (.bool false), .eq (.bool false), .eq (.pointer (some ⟨g3, 0, none⟩)), .eq (.int .i64 i), .eq (.bool true), .eq (.bool true), .eq (.bool true), .any, .any, .any, .any, .any, .eq (.bool true)] (by kernel_rfl) (by kernel_rfl) (by rw [sz]; kernel_rfl) (by kernel_rfl) ⟨fun hw ac u K => ?_, fun hw ac u K => ?_, fun hw ac u K => ?_, fun hw ac u K => ?_, fun hw ac u K => ?_, fun hw ac u K => ?_, fun hw ac u K => ?_, fun hw ac u K => ?_, fun hw ac u K => ?_, fun hw ac u K => ?_, fun hw ac u K => ?_, fun hw ac u K => ?_, fun hw ac u K => ?_, fun hw ac u K => ?_, fun hw ac u K => ?_, fun hw ac u K => ?_, fun hw ac u K => ?_, trivial⟩ ?_
    · exact st_field 39 1 (.tmp 3) rfl ((K.old 3 rfl).trans x3) (by kernel_rfl)
    · exact st_loadc 3 (.tmp 7) rfl (by kernel_rfl) (K.dep 0 7 rfl) (Ob.cell (Ob.below m3 K.grow) 1 rfl)
    · exact st_move (.tmp 0) rfl ((K.old 0 rfl).trans x0)
    · exact st_lenm (.tmp 9) rfl (fk_val (K.dep 2 9 rfl) (Fk.mono _ _ _ _ ham (bl.trans (Below.mono K.grow bl.size))))
    · exact st_neqi 3 (.tmp 8) (.tmp 10) rfl .i64 (n) ((((ps).length : Nat) : Int)) (K.dep 1 8 rfl) (K.dep 3 10 rfl) _ (by symm; rw [decide_eq_false_iff_not]; exact hn)
    · exact st_move (.tmp 11) rfl (K.dep 4 11 rfl)
    · exact st_field 39 0 (.tmp 3) rfl ((K.old 3 rfl).trans x3) (by kernel_rfl)
    · exact st_loadc 3 (.tmp 13) rfl (by kernel_rfl) (K.dep 6 13 rfl) (Ob.cell (Ob.below m3 K.grow) 0 rfl)
    · exact st_lss 3 (.tmp 14) (.const (.int .i64 0)) rfl .i64 (i) (0) (K.dep 7 14 rfl) rfl _ (by symm; rw [decide_eq_true_iff]; exact hi)
    · exact st_pick_f' (.tmp 12) (.const (.bool true)) (.tmp 15) rfl (K.dep 5 12 rfl) (K.dep 8 15 rfl)
    · exact st_move (.tmp 16) rfl (K.dep 9 16 rfl)
    · exact (Bool.false_ne_true hw).elim
    · exact (Bool.false_ne_true hw).elim
    · exact (Bool.false_ne_true hw).elim
    · exact (Bool.false_ne_true hw).elim
    · exact (Bool.false_ne_true hw).elim
    · exact st_pick_t (.tmp 17) (.const (.bool true)) (.tmp 22) rfl (K.dep 10 17 rfl) rfl
    intro f6 w6 A hb
    replace bl0 := bl
    replace x0 := (A.old 0 rfl).trans x0
    replace x3 := (A.old 3 rfl).trans x3
    replace x4 := (A.old 4 rfl).trans x4
    replace x5 := (A.old 5 rfl).trans x5
    replace x6 := (A.old 6 rfl).trans x6
    have x23 : f6.eval (.tmp 23) = .bool true := A.has 16 23 rfl
    have lt_m3 := Ob.lt m3
    replace m3 := Ob.below m3 hb
    have lt_m4 := Ob.lt m4
    replace m4 := Ob.below m4 hb
    replace bl := (bl.trans (Below.mono hb bl.size))
    replace sz := A.size.trans sz
    replace df := A.defs.trans df
    clear A hb
    show Code.wp _ _ _ _ _
    refine wp_cond_true x23 ?_
    refine wp_seq ?_
    refine wp_region_seq [.eq (.agg ([.slice none 0 0, .slice none 0 0] : List Value).toArray)] (by kernel_rfl) (by kernel_rfl) (by rw [sz]; kernel_rfl) (by kernel_rfl) ⟨fun hw ac u K => ?_, trivial⟩ ?_
    · exact st_build 25 _ rfl (by kernel_rfl)
    intro f7 w7 A hb
    replace bl0 := bl
    replace x0 := (A.old 0 rfl).trans x0
    replace x3 := (A.old 3 rfl).trans x3
    replace x4 := (A.old 4 rfl).trans x4
    replace x5 := (A.old 5 rfl).trans x5
    replace x6 := (A.old 6 rfl).trans x6
    replace x23 := (A.old 23 rfl).trans x23
    have x24 : f7.eval (.tmp 24) = .agg ([.slice none 0 0, .slice none 0 0] : List Value).toArray := A.has 0 24 rfl
    have lt_m3 := Ob.lt m3
    replace m3 := Ob.below m3 hb
    have lt_m4 := Ob.lt m4
    replace m4 := Ob.below m4 hb
    replace bl := (bl.trans (Below.mono hb bl.size))
    replace sz := A.size.trans sz
    replace df := A.defs.trans df
    clear A hb
    refine wl_str rfl 25 (.tmp 4) (.tmp 24) rfl rfl (g4) ([.slice none 0 0, .slice none 0 0] : List Value).toArray x4 x24 25 _ m4 (by kernel_rfl) (by kernel_rfl) (by kernel_rfl) ?_
    replace m3 : Ob (w7.setRow g4 ([.slice none 0 0, .slice none 0 0] : List Value).toArray) (g3) 39 ([.int .i64 i, .int .i64 n, ul, up]) := Ob.setRow_other m3 _ nm3_4
    replace m4 : Ob (w7.setRow g4 ([.slice none 0 0, .slice none 0 0] : List Value).toArray) (g4) 25 ([.slice none 0 0, .slice none 0 0]) := Ob.setRow m4 ([.slice none 0 0, .slice none 0 0])
    replace bl : Below w.heap.size w (w7.setRow g4 ([.slice none 0 0, .slice none 0 0] : List Value).toArray) := bl.trans (below_setRow _ _ _ _ hw4)
    generalize w7.setRow g4 ([.slice none 0 0, .slice none 0 0] : List Value).toArray = w8b at bl m3 m4 ⊢
    clear x24
    refine wl_one (.eq (.bool false)) rfl 5 rfl (by rw [sz]; decide) (st_assign (.const (.bool false)) rfl rfl) ?_
    intro f9 w9 df2 sz2 old2 new2 hb
    replace bl0 := bl
    replace x0 := (old2 0 rfl).trans x0
    replace x3 := (old2 3 rfl).trans x3
    replace x4 := (old2 4 rfl).trans x4
    clear x5
    replace x6 := (old2 6 rfl).trans x6
    replace x23 := (old2 23 rfl).trans x23
    have x5 : f9.eval (.tmp 5) = .bool false := new2
    have lt_m3 := Ob.lt m3
    replace m3 := Ob.below m3 hb
    have lt_m4 := Ob.lt m4
    replace m4 := Ob.below m4 hb
    replace bl := (bl.trans (Below.mono hb bl.size))
    replace sz := sz2.trans sz
    replace df := df2.trans df
    clear df2 sz2 old2 new2 hb
    refine wl_one (.eq (.int .i64 11)) rfl 6 rfl (by rw [sz]; decide) (st_assign (.const (.int .i64 11)) rfl rfl) ?_
    intro f10 w10 df2 sz2 old2 new2 hb
    replace bl0 := bl
    replace x0 := (old2 0 rfl).trans x0
    replace x3 := (old2 3 rfl).trans x3
    replace x4 := (old2 4 rfl).trans x4
    clear x6
    replace x23 := (old2 23 rfl).trans x23
    replace x5 := (old2 5 rfl).trans x5
    have x6 : f10.eval (.tmp 6) = .int .i64 11 := new2
    have lt_m3 := Ob.lt m3
    replace m3 := Ob.below m3 hb
    have lt_m4 := Ob.lt m4
    replace m4 := Ob.below m4 hb
    replace bl := (bl.trans (Below.mono hb bl.size))
    replace sz := sz2.trans sz
    replace df := df2.trans df
    clear df2 sz2 old2 new2 hb
    refine wpList_nil ?_
    show Code.wp _ _ _ _ _
    refine wp_ret ?_
    repeat (first | with_reducible refine then_ret ?_ | with_reducible refine block_ret ?_)
    exact bodyPost_ret (v := .tuple #[.agg ([.slice none 0 0, .slice none 0 0] : List Value).toArray, .bool false, .int .i64 11]) (ret_c3 rfl f10 _ g4 _ _ _ _ x4 m4 x5 x6) df ⟨_, rfl, c3_none _ _, bl⟩
  refine wp_all_seq [.eq (.pointer (some ⟨g3, 1, none⟩)), .eq (.int .i64 n), .eq (va), .eq (.int .i64 (((ps).length : Nat) : Int)), .eq (.bool true), .eq (.bool true), .any, .any, .any, .eq (.bool true), .eq (.bool true), .any, .any, .any, .any, .any, .eq (.bool true)] (by kernel_rfl) (by kernel_rfl) (by rw [sz]; kernel_rfl) (by kernel_rfl) ⟨fun hw ac u K => ?_, fun hw ac u K => ?_, fun hw ac u K => ?_, fun hw ac u K => ?_, fun hw ac u K => ?_, fun hw ac u K => ?_, fun hw ac u K => ?_, fun hw ac u K => ?_, fun hw ac u K => ?_, fun hw ac u K => ?_, fun hw ac u K => ?_, fun hw ac u K => ?_, fun hw ac u K => ?_, fun hw ac u K => ?_, fun hw ac u K => ?_, fun hw ac u K => ?_, fun hw ac u K => ?_, trivial⟩ ?_
  · exact st_field 39 1 (.tmp 3) rfl ((K.old 3 rfl).trans x3) (by kernel_rfl)
  · exact st_loadc 3 (.tmp 7) rfl (by kernel_rfl) (K.dep 0 7 rfl) (Ob.cell (Ob.below m3 K.grow) 1 rfl)
  · exact st_move (.tmp 0) rfl ((K.old 0 rfl).trans x0)
  · exact st_lenm (.tmp 9) rfl (fk_val (K.dep 2 9 rfl) (Fk.mono _ _ _ _ ham (bl.trans (Below.mono K.grow bl.size))))
  · exact st_neqi 3 (.tmp 8) (.tmp 10) rfl .i64 (n) ((((ps).length : Nat) : Int)) (K.dep 1 8 rfl) (K.dep 3 10 rfl) _ (by symm; rw [decide_eq_true_iff]; exact hn)
  · exact st_move (.tmp 11) rfl (K.dep 4 11 rfl)
  · exact (Bool.false_ne_true hw).elim
  · exact (Bool.false_ne_true hw).elim
  · exact (Bool.false_ne_true hw).elim
  · exact st_pick_t (.tmp 12) (.const (.bool true)) (.tmp 15) rfl (K.dep 5 12 rfl) rfl
  · exact st_move (.tmp 16) rfl (K.dep 9 16 rfl)
  · exact (Bool.false_ne_true hw).elim
  · exact (Bool.false_ne_true hw).elim
  · exact (Bool.false_ne_true hw).elim
  · exact (Bool.false_ne_true hw).elim
  · exact (Bool.false_ne_true hw).elim
  · exact st_pick_t (.tmp 17) (.const (.bool true)) (.tmp 22) rfl (K.dep 10 17 rfl) rfl
  intro f6 w6 A hb
  replace bl0 := bl
  replace x0 := (A.old 0 rfl).trans x0
  replace x3 := (A.old 3 rfl).trans x3
  replace x4 := (A.old 4 rfl).trans x4
  replace x5 := (A.old 5 rfl).trans x5
  replace x6 := (A.old 6 rfl).trans x6
  have x23 : f6.eval (.tmp 23) = .bool true := A.has 16 23 rfl
  have lt_m3 := Ob.lt m3
  replace m3 := Ob.below m3 hb
  have lt_m4 := Ob.lt m4
  replace m4 := Ob.below m4 hb
  replace bl := (bl.trans (Below.mono hb bl.size))
  replace sz := A.size.trans sz
  replace df := A.defs.trans df
  clear A hb
  show Code.wp _ _ _ _ _
  refine wp_cond_true x23 ?_
  refine wp_seq ?_
  refine wp_region_seq [.eq (.agg ([.slice none 0 0, .slice none 0 0] : List Value).toArray)] (by kernel_rfl) (by kernel_rfl) (by rw [sz]; kernel_rfl) (by kernel_rfl) ⟨fun hw ac u K => ?_, trivial⟩ ?_
  · exact st_build 25 _ rfl (by kernel_rfl)
  intro f7 w7 A hb
  replace bl0 := bl
  replace x0 := (A.old 0 rfl).trans x0
  replace x3 := (A.old 3 rfl).trans x3
  replace x4 := (A.old 4 rfl).trans x4
  replace x5 := (A.old 5 rfl).trans x5
  replace x6 := (A.old 6 rfl).trans x6
  replace x23 := (A.old 23 rfl).trans x23
  have x24 : f7.eval (.tmp 24) = .agg ([.slice none 0 0, .slice none 0 0] : List Value).toArray := A.has 0 24 rfl
  have lt_m3 := Ob.lt m3
  replace m3 := Ob.below m3 hb
  have lt_m4 := Ob.lt m4
  replace m4 := Ob.below m4 hb
  replace bl := (bl.trans (Below.mono hb bl.size))
  replace sz := A.size.trans sz
  replace df := A.defs.trans df
  clear A hb
  refine wl_str rfl 25 (.tmp 4) (.tmp 24) rfl rfl (g4) ([.slice none 0 0, .slice none 0 0] : List Value).toArray x4 x24 25 _ m4 (by kernel_rfl) (by kernel_rfl) (by kernel_rfl) ?_
  replace m3 : Ob (w7.setRow g4 ([.slice none 0 0, .slice none 0 0] : List Value).toArray) (g3) 39 ([.int .i64 i, .int .i64 n, ul, up]) := Ob.setRow_other m3 _ nm3_4
  replace m4 : Ob (w7.setRow g4 ([.slice none 0 0, .slice none 0 0] : List Value).toArray) (g4) 25 ([.slice none 0 0, .slice none 0 0]) := Ob.setRow m4 ([.slice none 0 0, .slice none 0 0])
  replace bl : Below w.heap.size w (w7.setRow g4 ([.slice none 0 0, .slice none 0 0] : List Value).toArray) := bl.trans (below_setRow _ _ _ _ hw4)
  generalize w7.setRow g4 ([.slice none 0 0, .slice none 0 0] : List Value).toArray = w8b at bl m3 m4 ⊢
  clear x24
  refine wl_one (.eq (.bool false)) rfl 5 rfl (by rw [sz]; decide) (st_assign (.const (.bool false)) rfl rfl) ?_
  intro f9 w9 df2 sz2 old2 new2 hb
  replace bl0 := bl
  replace x0 := (old2 0 rfl).trans x0
  replace x3 := (old2 3 rfl).trans x3
  replace x4 := (old2 4 rfl).trans x4
  clear x5
  replace x6 := (old2 6 rfl).trans x6
  replace x23 := (old2 23 rfl).trans x23
  have x5 : f9.eval (.tmp 5) = .bool false := new2
  have lt_m3 := Ob.lt m3
  replace m3 := Ob.below m3 hb
  have lt_m4 := Ob.lt m4
  replace m4 := Ob.below m4 hb
  replace bl := (bl.trans (Below.mono hb bl.size))
  replace sz := sz2.trans sz
  replace df := df2.trans df
  clear df2 sz2 old2 new2 hb
  refine wl_one (.eq (.int .i64 11)) rfl 6 rfl (by rw [sz]; decide) (st_assign (.const (.int .i64 11)) rfl rfl) ?_
  intro f10 w10 df2 sz2 old2 new2 hb
  replace bl0 := bl
  replace x0 := (old2 0 rfl).trans x0
  replace x3 := (old2 3 rfl).trans x3
  replace x4 := (old2 4 rfl).trans x4
  clear x6
  replace x23 := (old2 23 rfl).trans x23
  replace x5 := (old2 5 rfl).trans x5
  have x6 : f10.eval (.tmp 6) = .int .i64 11 := new2
  have lt_m3 := Ob.lt m3
  replace m3 := Ob.below m3 hb
  have lt_m4 := Ob.lt m4
  replace m4 := Ob.below m4 hb
  replace bl := (bl.trans (Below.mono hb bl.size))
  replace sz := sz2.trans sz
  replace df := df2.trans df
  clear df2 sz2 old2 new2 hb
  refine wpList_nil ?_
  show Code.wp _ _ _ _ _
  refine wp_ret ?_
  repeat (first | with_reducible refine then_ret ?_ | with_reducible refine block_ret ?_)
  exact bodyPost_ret (v := .tuple #[.agg ([.slice none 0 0, .slice none 0 0] : List Value).toArray, .bool false, .int .i64 11]) (ret_c3 rfl f10 _ g4 _ _ _ _ x4 m4 x5 x6) df ⟨_, rfl, c3_none _ _, bl⟩
end Go.Proofs.YtfmeeimhfdnjpaaDoor
namespace Go.Proofs.YtfmeeimhfdnjpaaDoor
set_option maxRecDepth 100000
open Go.RowKit
end Go.Proofs.YtfmeeimhfdnjpaaDoor
namespace Go.Proofs.YtfmeeimhfdnjpaaDoor
set_option maxRecDepth 100000
open Go.RowKit
end Go.Proofs.YtfmeeimhfdnjpaaDoor
namespace Go.Proofs.YtfmeeimhfdnjpaaDoor
set_option maxRecDepth 100000
open Go.RowKit
end Go.Proofs.YtfmeeimhfdnjpaaDoor
