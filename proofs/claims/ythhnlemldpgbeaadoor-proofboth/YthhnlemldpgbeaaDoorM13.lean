/- ProofBoth, from nothing. -/
import Derived.Test.YthhnlemldpgbeaaDoorM12
namespace Go.Proofs.YthhnlemldpgbeaaDoor
set_option maxRecDepth 100000
open Go.RowKit
theorem lboth_bad {old rt : List (BitVec 8)} (hold : old.length = 32) (hrt : rt.length = 32) {P : List (List (BitVec 8))} {pA : Option Addr} {pC : Nat} (w : World) (hK : Tab w) (hv : (Fk.hc P).f (.slice pA (P).length pC) w) {m n : Nat} (hm1 : 1 ≤ m) (hm2 : m ≤ n) (hn : n ≤ 1152921504606846976) (hb : bres old P (stp m n true).1 (stp m n true).2 = none) :
    Calls Tryd.prog 17 #[.agg (([.int .i64 ((m : Nat) : Int), .int .i64 ((n : Nat) : Int)] : List Value) ++ ((old).map V ++ ((rt).map V ++ (([.slice pA (P).length pC] : List Value))))).toArray] w fun e w' => e = .returned (.tuple #[.agg ((hz).map V).toArray, .agg ((hz).map V).toArray, .bool false]) ∧ Below w.heap.size w w' := by
  obtain ⟨c, S, hS⟩ : ∃ c S, stp m n true = (c, S) := ⟨_, _, rfl⟩
  rw [hS] at hb
  unfold bres at hb
  cases c with
  | false =>
    simp only [Bool.false_eq_true, if_false] at hb
    exact both_ol hold hrt hm1 hm2 hn hS w hv hK rfl (fun h => by simp [h] at hb)
  | true =>
    simp only [if_true] at hb
    cases P with
    | nil => exact both_n0 hold hrt hm1 hm2 hn hS w hv hK rfl rfl
    | cons p r => exact both_nl hold hrt hm1 hm2 hn hS w hv hK rfl (by simp) (fun h => by simp at h; simp [h] at hb)
theorem lboth_ok {old rt : List (BitVec 8)} (hold : old.length = 32) (hrt : rt.length = 32) {P : List (List (BitVec 8))} {pA : Option Addr} {pC : Nat} (w : World) (hK : Tab w) (hv : (Fk.hc P).f (.slice pA (P).length pC) w) {m n : Nat} (hm1 : 1 ≤ m) (hm2 : m ≤ n) (hn : n ≤ 1152921504606846976) {x y : List (BitVec 8)} (hb : bres old P (stp m n true).1 (stp m n true).2 = some (x, y)) :
    Calls Tryd.prog 17 #[.agg (([.int .i64 ((m : Nat) : Int), .int .i64 ((n : Nat) : Int)] : List Value) ++ ((old).map V ++ ((rt).map V ++ (([.slice pA (P).length pC] : List Value))))).toArray] w fun e w' => e = .returned (.tuple #[.agg ((x).map V).toArray, .agg ((y).map V).toArray, .bool true]) ∧ Below w.heap.size w w' := by
  obtain ⟨c, S, hS⟩ : ∃ c S, stp m n true = (c, S) := ⟨_, _, rfl⟩
  rw [hS] at hb
  unfold bres at hb
  cases c with
  | false =>
    simp only [Bool.false_eq_true, if_false] at hb
    by_cases hl : P.length = S.length
    · rw [if_pos hl] at hb
      exact both_ok0 hold hrt hm1 hm2 hn hS w hv hK rfl hl (Option.some.inj hb)
    · rw [if_neg hl] at hb
      cases hb
  | true =>
    simp only [if_true] at hb
    cases P with
    | nil => cases hb
    | cons p r =>
      by_cases hl : r.length = S.length
      · simp only [if_pos hl] at hb
        exact both_ok1 hold hrt hm1 hm2 hn hS w hv hK rfl (by simp) (by simpa using hl) (Option.some.inj hb)
      · simp only [if_neg hl] at hb
        cases hb
theorem both_over {old rt : List (BitVec 8)} (hold : old.length = 32) (hrt : rt.length = 32) {P : List (List (BitVec 8))} {pA : Option Addr} {pC : Nat} (w : World) (hK : Tab w) (hv : (Fk.hc P).f (.slice pA (P).length pC) w) (i n : Int) (h : 80 < P.length ∨ 1152921504606846976 < n) :
    Calls Tryd.prog 4 #[.agg (([.int .i64 (i), .int .i64 (n)] : List Value) ++ ((old).map V ++ ((rt).map V ++ (([.slice pA (P).length pC] : List Value))))).toArray] w fun e w' => e = .returned (.bool true) ∧ Below w.heap.size w w' := by
  have hvs := hc_hs hv
  go_enter Tryd.func4, Tryd.ntmps4
  refine code_both (fun f w1 => f.tmps.size = 194 ∧ f.defers = [] ∧ f.eval (.tmp 0) = .agg (([.int .i64 (i), .int .i64 (n)] : List Value) ++ ((old).map V ++ ((rt).map V ++ (([.slice pA (P).length pC] : List Value))))).toArray ∧ Below w.heap.size w (w1)) ⟨rfl, rfl, rfl, Below.refl _ _⟩ ?_
  rintro f0 w0 ⟨sz, df, x0, bl⟩
  have bl0 := bl
  refine wp_seq ?_
  refine wp_region_seq [] (by kernel_rfl) (by kernel_rfl) (by rw [sz]; kernel_rfl) (by kernel_rfl) trivial ?_
  intro f1 w1 A hb
  replace bl0 := bl
  replace x0 := (A.old 0 rfl).trans x0
  replace bl := (bl.trans (Below.mono hb bl.size))
  replace sz := A.size.trans sz
  replace df := A.defs.trans df
  clear A hb
  refine wl_one (.nw w1.heap.size 38 (([.int .i64 (i), .int .i64 (n)] : List Value) ++ ((old).map V ++ ((rt).map V ++ (([.slice pA (P).length pC] : List Value)))))) rfl 1 rfl (by rw [sz]; decide) (st_box 38 (.tmp 0) rfl _ _ (by rw [show _ = _ from x0]; kernel_rfl) (Nat.le_refl _)) ?_
  intro f2 w2 df2 sz2 old2 new2 hb
  replace bl0 := bl
  replace x0 := (old2 0 rfl).trans x0
  have x1 : Fk.f (.nw w1.heap.size 38 (([.int .i64 (i), .int .i64 (n)] : List Value) ++ ((old).map V ++ ((rt).map V ++ (([.slice pA (P).length pC] : List Value)))))) (f2.eval (.tmp 1)) w2 := new2
  replace bl := (bl.trans (Below.mono hb bl.size))
  replace sz := sz2.trans sz
  replace df := df2.trans df
  clear df2 sz2 old2 new2 hb
  obtain ⟨g1, hg1, e1, m1⟩ := x1
  have x1 := e1
  clear e1
  have hw1 : w.heap.size ≤ g1 := Nat.le_trans bl0.size hg1
  clear x0
  refine wl_one (.eq (.bool false)) rfl 2 rfl (by rw [sz]; decide) (st_assign (.const (.bool false)) rfl rfl) ?_
  intro f3 w3 df2 sz2 old2 new2 hb
  replace bl0 := bl
  replace x1 := (old2 1 rfl).trans x1
  have x2 : f3.eval (.tmp 2) = .bool false := new2
  have lt_m1 := Ob.lt m1
  replace m1 := Ob.below m1 hb
  replace bl := (bl.trans (Below.mono hb bl.size))
  replace sz := sz2.trans sz
  replace df := df2.trans df
  clear df2 sz2 old2 new2 hb
  refine wpList_nil ?_
  show Code.wp _ _ _ _ _
  refine wp_seq ?_
  refine wp_seq ?_
  by_cases h80 : 80 < P.length
  rotate_left
  · skip
    refine wp_all_seq [.eq (.pointer (some ⟨g1, 66, none⟩)), .eq (.slice pA (P).length pC), .eq (.int .i64 (((P).length : Nat) : Int)), .eq (.bool false), .eq (.bool false), .eq (.pointer (some ⟨g1, 1, none⟩)), .eq (.int .i64 (n)), .eq (.bool true), .eq (.bool true)] (by kernel_rfl) (by kernel_rfl) (by rw [sz]; kernel_rfl) (by kernel_rfl) ⟨fun hw ac u K => ?_, fun hw ac u K => ?_, fun hw ac u K => ?_, fun hw ac u K => ?_, fun hw ac u K => ?_, fun hw ac u K => ?_, fun hw ac u K => ?_, fun hw ac u K => ?_, fun hw ac u K => ?_, trivial⟩ ?_
    · exact st_field 38 4 (.tmp 1) rfl ((K.old 1 rfl).trans x1) (by kernel_rfl)
    · exact st_loadc 24 (.tmp 12) rfl (by kernel_rfl) (K.dep 0 12 rfl) (ob_cell_at (Ob.below m1 K.grow) (([.int .i64 (i), .int .i64 (n)] : List Value) ++ ((old).map V ++ ((rt).map V))) (([] : List Value)) _ 66 (by simp) (by simp [hold, hrt]))
    · exact st_lenc (.tmp 13) rfl ((P).length) rfl (fk_val (K.dep 1 13 rfl) (Fk.mono _ _ _ _ hv (bl.trans (Below.mono K.grow bl.size))))
    · exact st_gtr 3 (.tmp 14) (.const (.int .i64 80)) rfl .i64 ((((P).length : Nat) : Int)) (80) (K.dep 2 14 rfl) rfl _ (by rw [eq_comm, decide_eq_false_iff_not]; omega)
    · exact st_move (.tmp 15) rfl (K.dep 3 15 rfl)
    · exact st_field 38 1 (.tmp 1) rfl ((K.old 1 rfl).trans x1) (by kernel_rfl)
    · exact st_loadc 3 (.tmp 17) rfl (by kernel_rfl) (K.dep 5 17 rfl) (ob_cell_at (Ob.below m1 K.grow) (([.int .i64 (i)] : List Value)) ((old).map V ++ ((rt).map V ++ (([.slice pA (P).length pC] : List Value)))) _ 1 (by simp) (by rfl))
    · exact st_gtr 3 (.tmp 18) (.const (.int .i64 1152921504606846976)) rfl .i64 ((n)) (1152921504606846976) (K.dep 6 18 rfl) rfl _ (by rw [eq_comm, decide_eq_true_iff]; omega)
    · exact st_pick_f' (.tmp 16) (.const (.bool true)) (.tmp 19) rfl (K.dep 4 16 rfl) (K.dep 7 19 rfl)
    intro f4 w4 A hb
    replace bl0 := bl
    replace x1 := (A.old 1 rfl).trans x1
    replace x2 := (A.old 2 rfl).trans x2
    have x20 : f4.eval (.tmp 20) = .bool true := A.has 8 20 rfl
    have lt_m1 := Ob.lt m1
    replace m1 := Ob.below m1 hb
    replace bl := (bl.trans (Below.mono hb bl.size))
    replace sz := A.size.trans sz
    replace df := A.defs.trans df
    clear A hb
    show Code.wp _ _ _ _ _
    refine wp_cond_true x20 ?_
    refine wp_seq ?_
    refine wp_all_seq [.eq (.bool true), .eq (.bool true)] (by kernel_rfl) (by kernel_rfl) (by rw [sz]; kernel_rfl) (by kernel_rfl) ⟨fun hw ac u K => ?_, fun hw ac u K => ?_, trivial⟩ ?_
    · exact st_call 8 (.func 8) _ _ #[] rfl rfl rfl Tryd.enter8 (fk_of (awake_any _ (hK.below (bl.trans (Below.mono K.grow bl.size)))))
    · exact st_assign (.tmp 21) rfl (K.dep 0 21 rfl)
    intro f5 w5 A hb
    replace bl0 := bl
    replace x1 := (A.old 1 rfl).trans x1
    clear x2
    replace x20 := (A.old 20 rfl).trans x20
    have x2 : f5.eval (.tmp 2) = .bool true := A.has 1 2 rfl
    have lt_m1 := Ob.lt m1
    replace m1 := Ob.below m1 hb
    replace bl := (bl.trans (Below.mono hb bl.size))
    replace sz := A.size.trans sz
    replace df := A.defs.trans df
    clear A hb
    show Code.wp _ _ _ _ _
    refine wp_ret ?_
    repeat (first | with_reducible refine then_ret ?_ | with_reducible refine block_ret ?_)
    exact bodyPost_ret (v := .bool true) (ret_slot rfl f5 _ x2 _ _) df ⟨rfl, bl⟩
  refine wp_all_seq [.eq (.pointer (some ⟨g1, 66, none⟩)), .eq (.slice pA (P).length pC), .eq (.int .i64 (((P).length : Nat) : Int)), .eq (.bool true), .eq (.bool true), .any, .any, .any, .eq (.bool true)] (by kernel_rfl) (by kernel_rfl) (by rw [sz]; kernel_rfl) (by kernel_rfl) ⟨fun hw ac u K => ?_, fun hw ac u K => ?_, fun hw ac u K => ?_, fun hw ac u K => ?_, fun hw ac u K => ?_, fun hw ac u K => ?_, fun hw ac u K => ?_, fun hw ac u K => ?_, fun hw ac u K => ?_, trivial⟩ ?_
  · exact st_field 38 4 (.tmp 1) rfl ((K.old 1 rfl).trans x1) (by kernel_rfl)
  · exact st_loadc 24 (.tmp 12) rfl (by kernel_rfl) (K.dep 0 12 rfl) (ob_cell_at (Ob.below m1 K.grow) (([.int .i64 (i), .int .i64 (n)] : List Value) ++ ((old).map V ++ ((rt).map V))) (([] : List Value)) _ 66 (by simp) (by simp [hold, hrt]))
  · exact st_lenc (.tmp 13) rfl ((P).length) rfl (fk_val (K.dep 1 13 rfl) (Fk.mono _ _ _ _ hv (bl.trans (Below.mono K.grow bl.size))))
  · exact st_gtr 3 (.tmp 14) (.const (.int .i64 80)) rfl .i64 ((((P).length : Nat) : Int)) (80) (K.dep 2 14 rfl) rfl _ (by rw [eq_comm, decide_eq_true_iff]; omega)
  · exact st_move (.tmp 15) rfl (K.dep 3 15 rfl)
  · exact (Bool.false_ne_true hw).elim
  · exact (Bool.false_ne_true hw).elim
  · exact (Bool.false_ne_true hw).elim
  · exact st_pick_t (.tmp 16) (.const (.bool true)) (.tmp 19) rfl (K.dep 4 16 rfl) rfl
  intro f4 w4 A hb
  replace bl0 := bl
  replace x1 := (A.old 1 rfl).trans x1
  replace x2 := (A.old 2 rfl).trans x2
  have x20 : f4.eval (.tmp 20) = .bool true := A.has 8 20 rfl
  have lt_m1 := Ob.lt m1
  replace m1 := Ob.below m1 hb
  replace bl := (bl.trans (Below.mono hb bl.size))
  replace sz := A.size.trans sz
  replace df := A.defs.trans df
  clear A hb
  show Code.wp _ _ _ _ _
  refine wp_cond_true x20 ?_
  refine wp_seq ?_
  refine wp_all_seq [.eq (.bool true), .eq (.bool true)] (by kernel_rfl) (by kernel_rfl) (by rw [sz]; kernel_rfl) (by kernel_rfl) ⟨fun hw ac u K => ?_, fun hw ac u K => ?_, trivial⟩ ?_
  · exact st_call 8 (.func 8) _ _ #[] rfl rfl rfl Tryd.enter8 (fk_of (awake_any _ (hK.below (bl.trans (Below.mono K.grow bl.size)))))
  · exact st_assign (.tmp 21) rfl (K.dep 0 21 rfl)
  intro f5 w5 A hb
  replace bl0 := bl
  replace x1 := (A.old 1 rfl).trans x1
  clear x2
  replace x20 := (A.old 20 rfl).trans x20
  have x2 : f5.eval (.tmp 2) = .bool true := A.has 1 2 rfl
  have lt_m1 := Ob.lt m1
  replace m1 := Ob.below m1 hb
  replace bl := (bl.trans (Below.mono hb bl.size))
  replace sz := A.size.trans sz
  replace df := A.defs.trans df
  clear A hb
  show Code.wp _ _ _ _ _
  refine wp_ret ?_
  repeat (first | with_reducible refine then_ret ?_ | with_reducible refine block_ret ?_)
  exact bodyPost_ret (v := .bool true) (ret_slot rfl f5 _ x2 _ _) df ⟨rfl, bl⟩
theorem both_none {old rt : List (BitVec 8)} (hold : old.length = 32) (hrt : rt.length = 32) {P : List (List (BitVec 8))} {pA : Option Addr} {pC : Nat} (w : World) (hK : Tab w) (hv : (Fk.hc P).f (.slice pA (P).length pC) w) (i n : Int) (h80 : P.length ≤ 80) (hn : n ≤ 1152921504606846976) (h : i < 0 ∨ n < i) :
    Calls Tryd.prog 4 #[.agg (([.int .i64 (i), .int .i64 (n)] : List Value) ++ ((old).map V ++ ((rt).map V ++ (([.slice pA (P).length pC] : List Value))))).toArray] w fun e w' => e = .returned (.bool true) ∧ Below w.heap.size w w' := by
  have hvs := hc_hs hv
  go_enter Tryd.func4, Tryd.ntmps4
  refine code_both (fun f w1 => f.tmps.size = 194 ∧ f.defers = [] ∧ f.eval (.tmp 0) = .agg (([.int .i64 (i), .int .i64 (n)] : List Value) ++ ((old).map V ++ ((rt).map V ++ (([.slice pA (P).length pC] : List Value))))).toArray ∧ Below w.heap.size w (w1)) ⟨rfl, rfl, rfl, Below.refl _ _⟩ ?_
  rintro f0 w0 ⟨sz, df, x0, bl⟩
  have bl0 := bl
  refine wp_seq ?_
  refine wp_region_seq [] (by kernel_rfl) (by kernel_rfl) (by rw [sz]; kernel_rfl) (by kernel_rfl) trivial ?_
  intro f1 w1 A hb
  replace bl0 := bl
  replace x0 := (A.old 0 rfl).trans x0
  replace bl := (bl.trans (Below.mono hb bl.size))
  replace sz := A.size.trans sz
  replace df := A.defs.trans df
  clear A hb
  refine wl_one (.nw w1.heap.size 38 (([.int .i64 (i), .int .i64 (n)] : List Value) ++ ((old).map V ++ ((rt).map V ++ (([.slice pA (P).length pC] : List Value)))))) rfl 1 rfl (by rw [sz]; decide) (st_box 38 (.tmp 0) rfl _ _ (by rw [show _ = _ from x0]; kernel_rfl) (Nat.le_refl _)) ?_
  intro f2 w2 df2 sz2 old2 new2 hb
  replace bl0 := bl
  replace x0 := (old2 0 rfl).trans x0
  have x1 : Fk.f (.nw w1.heap.size 38 (([.int .i64 (i), .int .i64 (n)] : List Value) ++ ((old).map V ++ ((rt).map V ++ (([.slice pA (P).length pC] : List Value)))))) (f2.eval (.tmp 1)) w2 := new2
  replace bl := (bl.trans (Below.mono hb bl.size))
  replace sz := sz2.trans sz
  replace df := df2.trans df
  clear df2 sz2 old2 new2 hb
  obtain ⟨g1, hg1, e1, m1⟩ := x1
  have x1 := e1
  clear e1
  have hw1 : w.heap.size ≤ g1 := Nat.le_trans bl0.size hg1
  clear x0
  refine wl_one (.eq (.bool false)) rfl 2 rfl (by rw [sz]; decide) (st_assign (.const (.bool false)) rfl rfl) ?_
  intro f3 w3 df2 sz2 old2 new2 hb
  replace bl0 := bl
  replace x1 := (old2 1 rfl).trans x1
  have x2 : f3.eval (.tmp 2) = .bool false := new2
  have lt_m1 := Ob.lt m1
  replace m1 := Ob.below m1 hb
  replace bl := (bl.trans (Below.mono hb bl.size))
  replace sz := sz2.trans sz
  replace df := df2.trans df
  clear df2 sz2 old2 new2 hb
  refine wpList_nil ?_
  show Code.wp _ _ _ _ _
  refine wp_seq ?_
  refine wp_seq ?_
  refine wp_all_seq [.eq (.pointer (some ⟨g1, 66, none⟩)), .eq (.slice pA (P).length pC), .eq (.int .i64 (((P).length : Nat) : Int)), .eq (.bool false), .eq (.bool false), .eq (.pointer (some ⟨g1, 1, none⟩)), .eq (.int .i64 (n)), .eq (.bool false), .eq (.bool false)] (by kernel_rfl) (by kernel_rfl) (by rw [sz]; kernel_rfl) (by kernel_rfl) ⟨fun hw ac u K => ?_, fun hw ac u K => ?_, fun hw ac u K => ?_, fun hw ac u K => ?_, fun hw ac u K => ?_, fun hw ac u K => ?_, fun hw ac u K => ?_, fun hw ac u K => ?_, fun hw ac u K => ?_, trivial⟩ ?_
  · exact st_field 38 4 (.tmp 1) rfl ((K.old 1 rfl).trans x1) (by kernel_rfl)
  · exact st_loadc 24 (.tmp 12) rfl (by kernel_rfl) (K.dep 0 12 rfl) (ob_cell_at (Ob.below m1 K.grow) (([.int .i64 (i), .int .i64 (n)] : List Value) ++ ((old).map V ++ ((rt).map V))) (([] : List Value)) _ 66 (by simp) (by simp [hold, hrt]))
  · exact st_lenc (.tmp 13) rfl ((P).length) rfl (fk_val (K.dep 1 13 rfl) (Fk.mono _ _ _ _ hv (bl.trans (Below.mono K.grow bl.size))))
  · exact st_gtr 3 (.tmp 14) (.const (.int .i64 80)) rfl .i64 ((((P).length : Nat) : Int)) (80) (K.dep 2 14 rfl) rfl _ (by rw [eq_comm, decide_eq_false_iff_not]; omega)
  · exact st_move (.tmp 15) rfl (K.dep 3 15 rfl)
  · exact st_field 38 1 (.tmp 1) rfl ((K.old 1 rfl).trans x1) (by kernel_rfl)
  · exact st_loadc 3 (.tmp 17) rfl (by kernel_rfl) (K.dep 5 17 rfl) (ob_cell_at (Ob.below m1 K.grow) (([.int .i64 (i)] : List Value)) ((old).map V ++ ((rt).map V ++ (([.slice pA (P).length pC] : List Value)))) _ 1 (by simp) (by rfl))
  · exact st_gtr 3 (.tmp 18) (.const (.int .i64 1152921504606846976)) rfl .i64 ((n)) (1152921504606846976) (K.dep 6 18 rfl) rfl _ (by rw [eq_comm, decide_eq_false_iff_not]; omega)
  · exact st_pick_f' (.tmp 16) (.const (.bool true)) (.tmp 19) rfl (K.dep 4 16 rfl) (K.dep 7 19 rfl)
  intro f4 w4 A hb
  replace bl0 := bl
  replace x1 := (A.old 1 rfl).trans x1
  replace x2 := (A.old 2 rfl).trans x2
  have x20 : f4.eval (.tmp 20) = .bool false := A.has 8 20 rfl
  have lt_m1 := Ob.lt m1
  replace m1 := Ob.below m1 hb
  replace bl := (bl.trans (Below.mono hb bl.size))
  replace sz := A.size.trans sz
  replace df := A.defs.trans df
  clear A hb
  show Code.wp _ _ _ _ _
  refine wp_cond_false x20 ?_
  refine wp_skip ?_
  show Code.wp _ _ _ _ _
  refine wp_seq ?_
  refine wp_region_seq [.eq (.pointer (some ⟨g1, 0, none⟩)), .eq (.int .i64 (i)), .eq (.pointer (some ⟨g1, 1, none⟩)), .eq (.int .i64 (n)), .eq (.pointer (some ⟨g1, 2, none⟩)), .eq (.agg ((old).map V).toArray), .eq (.pointer (some ⟨g1, 66, none⟩)), .eq (.slice pA (P).length pC), .eq (.tuple #[.agg ((hz).map V).toArray, .agg ((hz).map V).toArray, .int .i64 11]), .eq (.tuple #[.agg ((hz).map V).toArray, .agg ((hz).map V).toArray, .int .i64 11]), .eq (.agg ((hz).map V).toArray), .eq (.agg ((hz).map V).toArray), .eq (.int .i64 11)] (by kernel_rfl) (by kernel_rfl) (by rw [sz]; kernel_rfl) (by kernel_rfl) ⟨fun hw ac u K => ?_, fun hw ac u K => ?_, fun hw ac u K => ?_, fun hw ac u K => ?_, fun hw ac u K => ?_, fun hw ac u K => ?_, fun hw ac u K => ?_, fun hw ac u K => ?_, fun hw ac u K => ?_, fun hw ac u K => ?_, fun hw ac u K => ?_, fun hw ac u K => ?_, fun hw ac u K => ?_, trivial⟩ ?_
  · exact st_field 38 0 (.tmp 1) rfl ((K.old 1 rfl).trans x1) (by kernel_rfl)
  · exact st_loadc 3 (.tmp 23) rfl (by kernel_rfl) (K.dep 0 23 rfl) (ob_cell_at (Ob.below m1 K.grow) (([] : List Value)) (([.int .i64 (n)] : List Value) ++ ((old).map V ++ ((rt).map V ++ (([.slice pA (P).length pC] : List Value))))) _ 0 (by simp) (by rfl))
  · exact st_field 38 1 (.tmp 1) rfl ((K.old 1 rfl).trans x1) (by kernel_rfl)
  · exact st_loadc 3 (.tmp 25) rfl (by kernel_rfl) (K.dep 2 25 rfl) (ob_cell_at (Ob.below m1 K.grow) (([.int .i64 (i)] : List Value)) ((old).map V ++ ((rt).map V ++ (([.slice pA (P).length pC] : List Value)))) _ 1 (by simp) (by rfl))
  · exact st_field 38 2 (.tmp 1) rfl ((K.old 1 rfl).trans x1) (by kernel_rfl)
  · exact st_loadz 23 (.tmp 27) rfl (g1) 2 ((old).map V) (by kernel_rfl) (by rw [List.length_map, hold]; kernel_rfl) (K.dep 4 27 rfl) (ob_range_at (Ob.below m1 K.grow) (([.int .i64 (i), .int .i64 (n)] : List Value)) ((rt).map V ++ (([.slice pA (P).length pC] : List Value))) _ 2 (by simp) (by rfl))
  · exact st_field 38 4 (.tmp 1) rfl ((K.old 1 rfl).trans x1) (by kernel_rfl)
  · exact st_loadc 24 (.tmp 29) rfl (by kernel_rfl) (K.dep 6 29 rfl) (ob_cell_at (Ob.below m1 K.grow) (([.int .i64 (i), .int .i64 (n)] : List Value) ++ ((old).map V ++ ((rt).map V))) (([] : List Value)) _ 66 (by simp) (by simp [hold, hrt]))
  · exact st_call 14 (.func 14) _ _ #[.int .i64 (i), .int .i64 (n), .agg ((old).map V).toArray, .slice pA (P).length pC] rfl rfl (arg4 (K.dep 1 24 rfl) (K.dep 3 26 rfl) (K.dep 5 28 rfl) (K.dep 7 30 rfl)) Tryd.enter14 (fk_both_no hold h hn (Fk.mono _ _ _ _ hv (bl.trans (Below.mono K.grow bl.size))) (by omega) (hK.below (bl.trans (Below.mono K.grow bl.size))))
  · exact st_move (.tmp 31) rfl (K.dep 8 31 rfl)
  · exact st_tri0 (.tmp 22) rfl (K.dep 9 22 rfl)
  · exact st_tri1 (.tmp 22) rfl (K.dep 9 22 rfl)
  · exact st_tri2 (.tmp 22) rfl (K.dep 9 22 rfl)
  intro f5 w5 A hb
  replace bl0 := bl
  replace x1 := (A.old 1 rfl).trans x1
  replace x2 := (A.old 2 rfl).trans x2
  replace x20 := (A.old 20 rfl).trans x20
  have x32 : f5.eval (.tmp 32) = .agg ((hz).map V).toArray := A.has 10 32 rfl
  have x33 : f5.eval (.tmp 33) = .agg ((hz).map V).toArray := A.has 11 33 rfl
  have x34 : f5.eval (.tmp 34) = .int .i64 11 := A.has 12 34 rfl
  have lt_m1 := Ob.lt m1
  replace m1 := Ob.below m1 hb
  replace bl := (bl.trans (Below.mono hb bl.size))
  replace sz := A.size.trans sz
  replace df := A.defs.trans df
  clear A hb
  refine wl_one (.nw w5.heap.size 23 ((hz).map V)) rfl 3 rfl (by rw [sz]; decide) (st_alloc23 rfl _ (Nat.le_refl _)) ?_
  intro f6 w6 df2 sz2 old2 new2 hb
  replace bl0 := bl
  replace x1 := (old2 1 rfl).trans x1
  replace x2 := (old2 2 rfl).trans x2
  replace x20 := (old2 20 rfl).trans x20
  replace x32 := (old2 32 rfl).trans x32
  replace x33 := (old2 33 rfl).trans x33
  replace x34 := (old2 34 rfl).trans x34
  have x3 : Fk.f (.nw w5.heap.size 23 ((hz).map V)) (f6.eval (.tmp 3)) w6 := new2
  have lt_m1 := Ob.lt m1
  replace m1 := Ob.below m1 hb
  replace bl := (bl.trans (Below.mono hb bl.size))
  replace sz := sz2.trans sz
  replace df := df2.trans df
  clear df2 sz2 old2 new2 hb
  obtain ⟨g3, hg3, e3, m3⟩ := x3
  have x3 := e3
  clear e3
  have nm1_3 : g1 ≠ g3 := Nat.ne_of_lt (Nat.lt_of_lt_of_le lt_m1 hg3)
  have hw3 : w.heap.size ≤ g3 := Nat.le_trans bl0.size hg3
  refine wl_one (.nw w6.heap.size 23 ((hz).map V)) rfl 4 rfl (by rw [sz]; decide) (st_alloc23 rfl _ (Nat.le_refl _)) ?_
  intro f7 w7 df2 sz2 old2 new2 hb
  replace bl0 := bl
  replace x1 := (old2 1 rfl).trans x1
  replace x2 := (old2 2 rfl).trans x2
  replace x20 := (old2 20 rfl).trans x20
  replace x32 := (old2 32 rfl).trans x32
  replace x33 := (old2 33 rfl).trans x33
  replace x34 := (old2 34 rfl).trans x34
  replace x3 := (old2 3 rfl).trans x3
  have x4 : Fk.f (.nw w6.heap.size 23 ((hz).map V)) (f7.eval (.tmp 4)) w7 := new2
  have lt_m1 := Ob.lt m1
  replace m1 := Ob.below m1 hb
  have lt_m3 := Ob.lt m3
  replace m3 := Ob.below m3 hb
  replace bl := (bl.trans (Below.mono hb bl.size))
  replace sz := sz2.trans sz
  replace df := df2.trans df
  clear df2 sz2 old2 new2 hb
  obtain ⟨g4, hg4, e4, m4⟩ := x4
  have x4 := e4
  clear e4
  have nm1_4 : g1 ≠ g4 := Nat.ne_of_lt (Nat.lt_of_lt_of_le lt_m1 hg4)
  have nm3_4 : g3 ≠ g4 := Nat.ne_of_lt (Nat.lt_of_lt_of_le lt_m3 hg4)
  have hw4 : w.heap.size ≤ g4 := Nat.le_trans bl0.size hg4
  refine wl_store rfl (.tmp 3) (.tmp 32) rfl rfl (g3) (hz) (hz) x3 x32 m3 hz_len hz_len ?_
  replace m1 : Ob (w7.setRow g3 ((hz).map V : List Value).toArray) (g1) 38 (([.int .i64 (i), .int .i64 (n)] : List Value) ++ ((old).map V ++ ((rt).map V ++ (([.slice pA (P).length pC] : List Value))))) := Ob.setRow_other m1 _ nm1_3
  replace m3 : Ob (w7.setRow g3 ((hz).map V : List Value).toArray) (g3) 23 ((hz).map V) := Ob.setRow m3 ((hz).map V)
  replace m4 : Ob (w7.setRow g3 ((hz).map V : List Value).toArray) (g4) 23 ((hz).map V) := Ob.setRow_other m4 _ nm3_4.symm
  replace bl : Below w.heap.size w (w7.setRow g3 ((hz).map V : List Value).toArray) := bl.trans (below_setRow _ _ _ _ hw3)
  generalize w7.setRow g3 ((hz).map V : List Value).toArray = w8b at bl m1 m3 m4 ⊢
  clear x32
  refine wl_store rfl (.tmp 4) (.tmp 33) rfl rfl (g4) (hz) (hz) x4 x33 m4 hz_len hz_len ?_
  replace m1 : Ob (w8b.setRow g4 ((hz).map V : List Value).toArray) (g1) 38 (([.int .i64 (i), .int .i64 (n)] : List Value) ++ ((old).map V ++ ((rt).map V ++ (([.slice pA (P).length pC] : List Value))))) := Ob.setRow_other m1 _ nm1_4
  replace m3 : Ob (w8b.setRow g4 ((hz).map V : List Value).toArray) (g3) 23 ((hz).map V) := Ob.setRow_other m3 _ nm3_4
  replace m4 : Ob (w8b.setRow g4 ((hz).map V : List Value).toArray) (g4) 23 ((hz).map V) := Ob.setRow m4 ((hz).map V)
  replace bl : Below w.heap.size w (w8b.setRow g4 ((hz).map V : List Value).toArray) := bl.trans (below_setRow _ _ _ _ hw4)
  generalize w8b.setRow g4 ((hz).map V : List Value).toArray = w9b at bl m1 m3 m4 ⊢
  clear x33
  refine wl_one (.eq (.int .i64 11)) rfl 5 rfl (by rw [sz]; decide) (st_assign (.tmp 34) rfl x34) ?_
  intro f10 w10 df2 sz2 old2 new2 hb
  replace bl0 := bl
  replace x1 := (old2 1 rfl).trans x1
  replace x2 := (old2 2 rfl).trans x2
  replace x20 := (old2 20 rfl).trans x20
  replace x34 := (old2 34 rfl).trans x34
  replace x3 := (old2 3 rfl).trans x3
  replace x4 := (old2 4 rfl).trans x4
  have x5 : f10.eval (.tmp 5) = .int .i64 11 := new2
  have lt_m1 := Ob.lt m1
  replace m1 := Ob.below m1 hb
  have lt_m3 := Ob.lt m3
  replace m3 := Ob.below m3 hb
  have lt_m4 := Ob.lt m4
  replace m4 := Ob.below m4 hb
  replace bl := (bl.trans (Below.mono hb bl.size))
  replace sz := sz2.trans sz
  replace df := df2.trans df
  clear df2 sz2 old2 new2 hb
  refine wpList_nil ?_
  clear x34
  show Code.wp _ _ _ _ _
  refine wp_seq ?_
  refine wp_all_seq [.eq (.pointer (some ⟨g1, 0, none⟩)), .eq (.int .i64 (i)), .eq (.pointer (some ⟨g1, 1, none⟩)), .eq (.int .i64 (n)), .eq (.pointer (some ⟨g1, 2, none⟩)), .eq (.agg ((old).map V).toArray), .eq (.pointer (some ⟨g1, 34, none⟩)), .eq (.agg ((rt).map V).toArray), .eq (.pointer (some ⟨g1, 66, none⟩)), .eq (.slice pA (P).length pC), .eq (.int .i64 11), .eq (.int .i64 11)] (by kernel_rfl) (by kernel_rfl) (by rw [sz]; kernel_rfl) (by kernel_rfl) ⟨fun hw ac u K => ?_, fun hw ac u K => ?_, fun hw ac u K => ?_, fun hw ac u K => ?_, fun hw ac u K => ?_, fun hw ac u K => ?_, fun hw ac u K => ?_, fun hw ac u K => ?_, fun hw ac u K => ?_, fun hw ac u K => ?_, fun hw ac u K => ?_, fun hw ac u K => ?_, trivial⟩ ?_
  · exact st_field 38 0 (.tmp 1) rfl ((K.old 1 rfl).trans x1) (by kernel_rfl)
  · exact st_loadc 3 (.tmp 35) rfl (by kernel_rfl) (K.dep 0 35 rfl) (ob_cell_at (Ob.below m1 K.grow) (([] : List Value)) (([.int .i64 (n)] : List Value) ++ ((old).map V ++ ((rt).map V ++ (([.slice pA (P).length pC] : List Value))))) _ 0 (by simp) (by rfl))
  · exact st_field 38 1 (.tmp 1) rfl ((K.old 1 rfl).trans x1) (by kernel_rfl)
  · exact st_loadc 3 (.tmp 37) rfl (by kernel_rfl) (K.dep 2 37 rfl) (ob_cell_at (Ob.below m1 K.grow) (([.int .i64 (i)] : List Value)) ((old).map V ++ ((rt).map V ++ (([.slice pA (P).length pC] : List Value)))) _ 1 (by simp) (by rfl))
  · exact st_field 38 2 (.tmp 1) rfl ((K.old 1 rfl).trans x1) (by kernel_rfl)
  · exact st_loadz 23 (.tmp 39) rfl (g1) 2 ((old).map V) (by kernel_rfl) (by rw [List.length_map, hold]; kernel_rfl) (K.dep 4 39 rfl) (ob_range_at (Ob.below m1 K.grow) (([.int .i64 (i), .int .i64 (n)] : List Value)) ((rt).map V ++ (([.slice pA (P).length pC] : List Value))) _ 2 (by simp) (by rfl))
  · exact st_field 38 3 (.tmp 1) rfl ((K.old 1 rfl).trans x1) (by kernel_rfl)
  · exact st_loadz 23 (.tmp 41) rfl (g1) 34 ((rt).map V) (by kernel_rfl) (by rw [List.length_map, hrt]; kernel_rfl) (K.dep 6 41 rfl) (ob_range_at (Ob.below m1 K.grow) (([.int .i64 (i), .int .i64 (n)] : List Value) ++ ((old).map V)) (([.slice pA (P).length pC] : List Value)) _ 34 (by simp) (by simp [hold]))
  · exact st_field 38 4 (.tmp 1) rfl ((K.old 1 rfl).trans x1) (by kernel_rfl)
  · exact st_loadc 24 (.tmp 43) rfl (by kernel_rfl) (K.dep 8 43 rfl) (ob_cell_at (Ob.below m1 K.grow) (([.int .i64 (i), .int .i64 (n)] : List Value) ++ ((old).map V ++ ((rt).map V))) (([] : List Value)) _ 66 (by simp) (by simp [hold, hrt]))
  · exact st_call 15 (.func 15) _ _ #[.int .i64 (i), .int .i64 (n), .agg ((old).map V).toArray, .agg ((rt).map V).toArray, .slice pA (P).length pC] rfl rfl (arg5 (K.dep 1 36 rfl) (K.dep 3 38 rfl) (K.dep 5 40 rfl) (K.dep 7 42 rfl) (K.dep 9 44 rfl)) Tryd.enter15 (fk_on_no hold hrt h hn (Fk.mono _ _ _ _ hv (bl.trans (Below.mono K.grow bl.size))) (by omega) (hK.below (bl.trans (Below.mono K.grow bl.size))))
  · exact st_assign (.tmp 45) rfl (K.dep 10 45 rfl)
  intro f11 w11 A hb
  replace bl0 := bl
  replace x1 := (A.old 1 rfl).trans x1
  replace x2 := (A.old 2 rfl).trans x2
  replace x20 := (A.old 20 rfl).trans x20
  replace x3 := (A.old 3 rfl).trans x3
  replace x4 := (A.old 4 rfl).trans x4
  replace x5 := (A.old 5 rfl).trans x5
  have x6 : f11.eval (.tmp 6) = .int .i64 11 := A.has 11 6 rfl
  have lt_m1 := Ob.lt m1
  replace m1 := Ob.below m1 hb
  have lt_m3 := Ob.lt m3
  replace m3 := Ob.below m3 hb
  have lt_m4 := Ob.lt m4
  replace m4 := Ob.below m4 hb
  replace bl := (bl.trans (Below.mono hb bl.size))
  replace sz := A.size.trans sz
  replace df := A.defs.trans df
  clear A hb
  show Code.wp _ _ _ _ _
  refine wp_seq ?_
  refine wp_seq ?_
  by_cases hi0 : i < 0
  rotate_left
  · skip
    refine wp_all_seq [.eq (.pointer (some ⟨g1, 0, none⟩)), .eq (.int .i64 (i)), .eq (.bool false), .eq (.bool false), .eq (.pointer (some ⟨g1, 0, none⟩)), .eq (.int .i64 (i)), .eq (.pointer (some ⟨g1, 1, none⟩)), .eq (.int .i64 (n)), .eq (.bool true), .eq (.bool true)] (by kernel_rfl) (by kernel_rfl) (by rw [sz]; kernel_rfl) (by kernel_rfl) ⟨fun hw ac u K => ?_, fun hw ac u K => ?_, fun hw ac u K => ?_, fun hw ac u K => ?_, fun hw ac u K => ?_, fun hw ac u K => ?_, fun hw ac u K => ?_, fun hw ac u K => ?_, fun hw ac u K => ?_, fun hw ac u K => ?_, trivial⟩ ?_
    · exact st_field 38 0 (.tmp 1) rfl ((K.old 1 rfl).trans x1) (by kernel_rfl)
    · exact st_loadc 3 (.tmp 46) rfl (by kernel_rfl) (K.dep 0 46 rfl) (ob_cell_at (Ob.below m1 K.grow) (([] : List Value)) (([.int .i64 (n)] : List Value) ++ ((old).map V ++ ((rt).map V ++ (([.slice pA (P).length pC] : List Value))))) _ 0 (by simp) (by rfl))
    · exact st_lss 3 (.tmp 47) (.const (.int .i64 0)) rfl .i64 ((i)) (0) (K.dep 1 47 rfl) rfl _ (by rw [eq_comm, decide_eq_false_iff_not]; omega)
    · exact st_move (.tmp 48) rfl (K.dep 2 48 rfl)
    · exact st_field 38 0 (.tmp 1) rfl ((K.old 1 rfl).trans x1) (by kernel_rfl)
    · exact st_loadc 3 (.tmp 50) rfl (by kernel_rfl) (K.dep 4 50 rfl) (ob_cell_at (Ob.below m1 K.grow) (([] : List Value)) (([.int .i64 (n)] : List Value) ++ ((old).map V ++ ((rt).map V ++ (([.slice pA (P).length pC] : List Value))))) _ 0 (by simp) (by rfl))
    · exact st_field 38 1 (.tmp 1) rfl ((K.old 1 rfl).trans x1) (by kernel_rfl)
    · exact st_loadc 3 (.tmp 52) rfl (by kernel_rfl) (K.dep 6 52 rfl) (ob_cell_at (Ob.below m1 K.grow) (([.int .i64 (i)] : List Value)) ((old).map V ++ ((rt).map V ++ (([.slice pA (P).length pC] : List Value)))) _ 1 (by simp) (by rfl))
    · exact st_gtr 3 (.tmp 51) (.tmp 53) rfl .i64 ((i)) ((n)) (K.dep 5 51 rfl) (K.dep 7 53 rfl) _ (by rw [eq_comm, decide_eq_true_iff]; omega)
    · exact st_pick_f' (.tmp 49) (.const (.bool true)) (.tmp 54) rfl (K.dep 3 49 rfl) (K.dep 8 54 rfl)
    intro f12 w12 A hb
    replace bl0 := bl
    replace x1 := (A.old 1 rfl).trans x1
    replace x2 := (A.old 2 rfl).trans x2
    replace x20 := (A.old 20 rfl).trans x20
    replace x3 := (A.old 3 rfl).trans x3
    replace x4 := (A.old 4 rfl).trans x4
    replace x5 := (A.old 5 rfl).trans x5
    replace x6 := (A.old 6 rfl).trans x6
    have x55 : f12.eval (.tmp 55) = .bool true := A.has 9 55 rfl
    have lt_m1 := Ob.lt m1
    replace m1 := Ob.below m1 hb
    have lt_m3 := Ob.lt m3
    replace m3 := Ob.below m3 hb
    have lt_m4 := Ob.lt m4
    replace m4 := Ob.below m4 hb
    replace bl := (bl.trans (Below.mono hb bl.size))
    replace sz := A.size.trans sz
    replace df := A.defs.trans df
    clear A hb
    show Code.wp _ _ _ _ _
    refine wp_cond_true x55 ?_
    refine wp_seq ?_
    refine wp_all_seq [.eq (.int .i64 11), .eq (.bool true), .eq (.bool true), .eq (.agg ((hz).map V).toArray), .eq (.agg ((hz).map V).toArray), .eq (.bool true), .eq (.bool true), .eq (.bool true), .eq (.agg ((hz).map V).toArray), .eq (.agg ((hz).map V).toArray), .eq (.bool true), .eq (.bool true), .eq (.bool true), .eq (.int .i64 11), .eq (.bool true), .eq (.bool true), .eq (.bool true), .eq (.bool true), .eq (.bool true), .eq (.bool true)] (by kernel_rfl) (by kernel_rfl) (by rw [sz]; kernel_rfl) (by kernel_rfl) ⟨fun hw ac u K => ?_, fun hw ac u K => ?_, fun hw ac u K => ?_, fun hw ac u K => ?_, fun hw ac u K => ?_, fun hw ac u K => ?_, fun hw ac u K => ?_, fun hw ac u K => ?_, fun hw ac u K => ?_, fun hw ac u K => ?_, fun hw ac u K => ?_, fun hw ac u K => ?_, fun hw ac u K => ?_, fun hw ac u K => ?_, fun hw ac u K => ?_, fun hw ac u K => ?_, fun hw ac u K => ?_, fun hw ac u K => ?_, fun hw ac u K => ?_, fun hw ac u K => ?_, trivial⟩ ?_
    · exact st_move (.tmp 5) rfl ((K.old 5 rfl).trans x5)
    · exact st_eqi 28 (.tmp 56) (.const (.int .i64 11)) rfl .i64 (11) (11) (K.dep 0 56 rfl) rfl _ (by rfl)
    · exact st_move (.tmp 57) rfl (K.dep 1 57 rfl)
    · exact st_load23 (.tmp 3) rfl (g3) (hz) ((K.old 3 rfl).trans x3) hz_len (Ob.below m3 K.grow)
    · exact st_zero23 rfl
    · exact st_eqh (.tmp 59) (.tmp 60) rfl (hz) (hz) hz_len hz_len (K.dep 3 59 rfl) (K.dep 4 60 rfl) _ (by simp)
    · exact st_pick_t (.tmp 58) (.tmp 61) (.const (.bool false)) rfl (K.dep 2 58 rfl) (K.dep 5 61 rfl)
    · exact st_move (.tmp 62) rfl (K.dep 6 62 rfl)
    · exact st_load23 (.tmp 4) rfl (g4) (hz) ((K.old 4 rfl).trans x4) hz_len (Ob.below m4 K.grow)
    · exact st_zero23 rfl
    · exact st_eqh (.tmp 64) (.tmp 65) rfl (hz) (hz) hz_len hz_len (K.dep 8 64 rfl) (K.dep 9 65 rfl) _ (by simp)
    · exact st_pick_t (.tmp 63) (.tmp 66) (.const (.bool false)) rfl (K.dep 7 63 rfl) (K.dep 10 66 rfl)
    · exact st_move (.tmp 67) rfl (K.dep 11 67 rfl)
    · exact st_move (.tmp 6) rfl ((K.old 6 rfl).trans x6)
    · exact st_eqi 28 (.tmp 69) (.const (.int .i64 11)) rfl .i64 (11) (11) (K.dep 13 69 rfl) rfl _ (by rfl)
    · exact st_pick_t (.tmp 68) (.tmp 70) (.const (.bool false)) rfl (K.dep 12 68 rfl) (K.dep 14 70 rfl)
    · exact st_move (.tmp 71) rfl (K.dep 15 71 rfl)
    · exact st_call 8 (.func 8) _ _ #[] rfl rfl rfl Tryd.enter8 (fk_of (awake_any _ (hK.below (bl.trans (Below.mono K.grow bl.size)))))
    · exact st_pick_t (.tmp 72) (.tmp 73) (.const (.bool false)) rfl (K.dep 16 72 rfl) (K.dep 17 73 rfl)
    · exact st_assign (.tmp 74) rfl (K.dep 18 74 rfl)
    intro f13 w13 A hb
    replace bl0 := bl
    replace x1 := (A.old 1 rfl).trans x1
    clear x2
    replace x20 := (A.old 20 rfl).trans x20
    replace x3 := (A.old 3 rfl).trans x3
    replace x4 := (A.old 4 rfl).trans x4
    replace x5 := (A.old 5 rfl).trans x5
    replace x6 := (A.old 6 rfl).trans x6
    replace x55 := (A.old 55 rfl).trans x55
    have x2 : f13.eval (.tmp 2) = .bool true := A.has 19 2 rfl
    have lt_m1 := Ob.lt m1
    replace m1 := Ob.below m1 hb
    have lt_m3 := Ob.lt m3
    replace m3 := Ob.below m3 hb
    have lt_m4 := Ob.lt m4
    replace m4 := Ob.below m4 hb
    replace bl := (bl.trans (Below.mono hb bl.size))
    replace sz := A.size.trans sz
    replace df := A.defs.trans df
    clear A hb
    show Code.wp _ _ _ _ _
    refine wp_ret ?_
    repeat (first | with_reducible refine then_ret ?_ | with_reducible refine block_ret ?_)
    exact bodyPost_ret (v := .bool true) (ret_slot rfl f13 _ x2 _ _) df ⟨rfl, bl⟩
  refine wp_all_seq [.eq (.pointer (some ⟨g1, 0, none⟩)), .eq (.int .i64 (i)), .eq (.bool true), .eq (.bool true), .any, .any, .any, .any, .any, .eq (.bool true)] (by kernel_rfl) (by kernel_rfl) (by rw [sz]; kernel_rfl) (by kernel_rfl) ⟨fun hw ac u K => ?_, fun hw ac u K => ?_, fun hw ac u K => ?_, fun hw ac u K => ?_, fun hw ac u K => ?_, fun hw ac u K => ?_, fun hw ac u K => ?_, fun hw ac u K => ?_, fun hw ac u K => ?_, fun hw ac u K => ?_, trivial⟩ ?_
  · exact st_field 38 0 (.tmp 1) rfl ((K.old 1 rfl).trans x1) (by kernel_rfl)
  · exact st_loadc 3 (.tmp 46) rfl (by kernel_rfl) (K.dep 0 46 rfl) (ob_cell_at (Ob.below m1 K.grow) (([] : List Value)) (([.int .i64 (n)] : List Value) ++ ((old).map V ++ ((rt).map V ++ (([.slice pA (P).length pC] : List Value))))) _ 0 (by simp) (by rfl))
  · exact st_lss 3 (.tmp 47) (.const (.int .i64 0)) rfl .i64 ((i)) (0) (K.dep 1 47 rfl) rfl _ (by rw [eq_comm, decide_eq_true_iff]; omega)
  · exact st_move (.tmp 48) rfl (K.dep 2 48 rfl)
  · exact (Bool.false_ne_true hw).elim
  · exact (Bool.false_ne_true hw).elim
  · exact (Bool.false_ne_true hw).elim
  · exact (Bool.false_ne_true hw).elim
  · exact (Bool.false_ne_true hw).elim
  · exact st_pick_t (.tmp 49) (.const (.bool true)) (.tmp 54) rfl (K.dep 3 49 rfl) rfl
  intro f12 w12 A hb
  replace bl0 := bl
  replace x1 := (A.old 1 rfl).trans x1
  replace x2 := (A.old 2 rfl).trans x2
  replace x20 := (A.old 20 rfl).trans x20
  replace x3 := (A.old 3 rfl).trans x3
  replace x4 := (A.old 4 rfl).trans x4
  replace x5 := (A.old 5 rfl).trans x5
  replace x6 := (A.old 6 rfl).trans x6
  have x55 : f12.eval (.tmp 55) = .bool true := A.has 9 55 rfl
  have lt_m1 := Ob.lt m1
  replace m1 := Ob.below m1 hb
  have lt_m3 := Ob.lt m3
  replace m3 := Ob.below m3 hb
  have lt_m4 := Ob.lt m4
  replace m4 := Ob.below m4 hb
  replace bl := (bl.trans (Below.mono hb bl.size))
  replace sz := A.size.trans sz
  replace df := A.defs.trans df
  clear A hb
  show Code.wp _ _ _ _ _
  refine wp_cond_true x55 ?_
  refine wp_seq ?_
  refine wp_all_seq [.eq (.int .i64 11), .eq (.bool true), .eq (.bool true), .eq (.agg ((hz).map V).toArray), .eq (.agg ((hz).map V).toArray), .eq (.bool true), .eq (.bool true), .eq (.bool true), .eq (.agg ((hz).map V).toArray), .eq (.agg ((hz).map V).toArray), .eq (.bool true), .eq (.bool true), .eq (.bool true), .eq (.int .i64 11), .eq (.bool true), .eq (.bool true), .eq (.bool true), .eq (.bool true), .eq (.bool true), .eq (.bool true)] (by kernel_rfl) (by kernel_rfl) (by rw [sz]; kernel_rfl) (by kernel_rfl) ⟨fun hw ac u K => ?_, fun hw ac u K => ?_, fun hw ac u K => ?_, fun hw ac u K => ?_, fun hw ac u K => ?_, fun hw ac u K => ?_, fun hw ac u K => ?_, fun hw ac u K => ?_, fun hw ac u K => ?_, fun hw ac u K => ?_, fun hw ac u K => ?_, fun hw ac u K => ?_, fun hw ac u K => ?_, fun hw ac u K => ?_, fun hw ac u K => ?_, fun hw ac u K => ?_, fun hw ac u K => ?_, fun hw ac u K => ?_, fun hw ac u K => ?_, fun hw ac u K => ?_, trivial⟩ ?_
  · exact st_move (.tmp 5) rfl ((K.old 5 rfl).trans x5)
  · exact st_eqi 28 (.tmp 56) (.const (.int .i64 11)) rfl .i64 (11) (11) (K.dep 0 56 rfl) rfl _ (by rfl)
  · exact st_move (.tmp 57) rfl (K.dep 1 57 rfl)
  · exact st_load23 (.tmp 3) rfl (g3) (hz) ((K.old 3 rfl).trans x3) hz_len (Ob.below m3 K.grow)
  · exact st_zero23 rfl
  · exact st_eqh (.tmp 59) (.tmp 60) rfl (hz) (hz) hz_len hz_len (K.dep 3 59 rfl) (K.dep 4 60 rfl) _ (by simp)
  · exact st_pick_t (.tmp 58) (.tmp 61) (.const (.bool false)) rfl (K.dep 2 58 rfl) (K.dep 5 61 rfl)
  · exact st_move (.tmp 62) rfl (K.dep 6 62 rfl)
  · exact st_load23 (.tmp 4) rfl (g4) (hz) ((K.old 4 rfl).trans x4) hz_len (Ob.below m4 K.grow)
  · exact st_zero23 rfl
  · exact st_eqh (.tmp 64) (.tmp 65) rfl (hz) (hz) hz_len hz_len (K.dep 8 64 rfl) (K.dep 9 65 rfl) _ (by simp)
  · exact st_pick_t (.tmp 63) (.tmp 66) (.const (.bool false)) rfl (K.dep 7 63 rfl) (K.dep 10 66 rfl)
  · exact st_move (.tmp 67) rfl (K.dep 11 67 rfl)
  · exact st_move (.tmp 6) rfl ((K.old 6 rfl).trans x6)
  · exact st_eqi 28 (.tmp 69) (.const (.int .i64 11)) rfl .i64 (11) (11) (K.dep 13 69 rfl) rfl _ (by rfl)
  · exact st_pick_t (.tmp 68) (.tmp 70) (.const (.bool false)) rfl (K.dep 12 68 rfl) (K.dep 14 70 rfl)
  · exact st_move (.tmp 71) rfl (K.dep 15 71 rfl)
  · exact st_call 8 (.func 8) _ _ #[] rfl rfl rfl Tryd.enter8 (fk_of (awake_any _ (hK.below (bl.trans (Below.mono K.grow bl.size)))))
  · exact st_pick_t (.tmp 72) (.tmp 73) (.const (.bool false)) rfl (K.dep 16 72 rfl) (K.dep 17 73 rfl)
  · exact st_assign (.tmp 74) rfl (K.dep 18 74 rfl)
  intro f13 w13 A hb
  replace bl0 := bl
  replace x1 := (A.old 1 rfl).trans x1
  clear x2
  replace x20 := (A.old 20 rfl).trans x20
  replace x3 := (A.old 3 rfl).trans x3
  replace x4 := (A.old 4 rfl).trans x4
  replace x5 := (A.old 5 rfl).trans x5
  replace x6 := (A.old 6 rfl).trans x6
  replace x55 := (A.old 55 rfl).trans x55
  have x2 : f13.eval (.tmp 2) = .bool true := A.has 19 2 rfl
  have lt_m1 := Ob.lt m1
  replace m1 := Ob.below m1 hb
  have lt_m3 := Ob.lt m3
  replace m3 := Ob.below m3 hb
  have lt_m4 := Ob.lt m4
  replace m4 := Ob.below m4 hb
  replace bl := (bl.trans (Below.mono hb bl.size))
  replace sz := A.size.trans sz
  replace df := A.defs.trans df
  clear A hb
  show Code.wp _ _ _ _ _
  refine wp_ret ?_
  repeat (first | with_reducible refine then_ret ?_ | with_reducible refine block_ret ?_)
  exact bodyPost_ret (v := .bool true) (ret_slot rfl f13 _ x2 _ _) df ⟨rfl, bl⟩
theorem both_z1 {old rt : List (BitVec 8)} (hold : old.length = 32) (hrt : rt.length = 32) {P : List (List (BitVec 8))} {pA : Option Addr} {pC : Nat} (w : World) (hK : Tab w) (hv : (Fk.hc P).f (.slice pA (P).length pC) w) {n : Nat} (hn : n ≤ 1152921504606846976) (hP0 : P.length = 0) (ho : old = shaOf []) (hn0 : 0 < n) :
    Calls Tryd.prog 4 #[.agg (([.int .i64 0, .int .i64 ((n : Nat) : Int)] : List Value) ++ ((old).map V ++ ((rt).map V ++ (([.slice pA (P).length pC] : List Value))))).toArray] w fun e w' => e = .returned (.bool true) ∧ Below w.heap.size w w' := by
  have hvs := hc_hs hv
  obtain ⟨o0, eo⟩ : ∃ o, shaOf [] = o := ⟨_, rfl⟩
  have ho0 : o0.length = 32 := by rw [← eo]; exact shaOf_len _
  have hnil := sl_nil w
  go_enter Tryd.func4, Tryd.ntmps4
  refine code_both (fun f w1 => f.tmps.size = 194 ∧ f.defers = [] ∧ f.eval (.tmp 0) = .agg (([.int .i64 0, .int .i64 ((n : Nat) : Int)] : List Value) ++ ((old).map V ++ ((rt).map V ++ (([.slice pA (P).length pC] : List Value))))).toArray ∧ Below w.heap.size w (w1)) ⟨rfl, rfl, rfl, Below.refl _ _⟩ ?_
  rintro f0 w0 ⟨sz, df, x0, bl⟩
  have bl0 := bl
  refine wp_seq ?_
  refine wp_region_seq [] (by kernel_rfl) (by kernel_rfl) (by rw [sz]; kernel_rfl) (by kernel_rfl) trivial ?_
  intro f1 w1 A hb
  replace bl0 := bl
  replace x0 := (A.old 0 rfl).trans x0
  replace bl := (bl.trans (Below.mono hb bl.size))
  replace sz := A.size.trans sz
  replace df := A.defs.trans df
  clear A hb
  refine wl_one (.nw w1.heap.size 38 (([.int .i64 0, .int .i64 ((n : Nat) : Int)] : List Value) ++ ((old).map V ++ ((rt).map V ++ (([.slice pA (P).length pC] : List Value)))))) rfl 1 rfl (by rw [sz]; decide) (st_box 38 (.tmp 0) rfl _ _ (by rw [show _ = _ from x0]; kernel_rfl) (Nat.le_refl _)) ?_
  intro f2 w2 df2 sz2 old2 new2 hb
  replace bl0 := bl
  replace x0 := (old2 0 rfl).trans x0
  have x1 : Fk.f (.nw w1.heap.size 38 (([.int .i64 0, .int .i64 ((n : Nat) : Int)] : List Value) ++ ((old).map V ++ ((rt).map V ++ (([.slice pA (P).length pC] : List Value)))))) (f2.eval (.tmp 1)) w2 := new2
  replace bl := (bl.trans (Below.mono hb bl.size))
  replace sz := sz2.trans sz
  replace df := df2.trans df
  clear df2 sz2 old2 new2 hb
  obtain ⟨g1, hg1, e1, m1⟩ := x1
  have x1 := e1
  clear e1
  have hw1 : w.heap.size ≤ g1 := Nat.le_trans bl0.size hg1
  clear x0
  refine wl_one (.eq (.bool false)) rfl 2 rfl (by rw [sz]; decide) (st_assign (.const (.bool false)) rfl rfl) ?_
  intro f3 w3 df2 sz2 old2 new2 hb
  replace bl0 := bl
  replace x1 := (old2 1 rfl).trans x1
  have x2 : f3.eval (.tmp 2) = .bool false := new2
  have lt_m1 := Ob.lt m1
  replace m1 := Ob.below m1 hb
  replace bl := (bl.trans (Below.mono hb bl.size))
  replace sz := sz2.trans sz
  replace df := df2.trans df
  clear df2 sz2 old2 new2 hb
  refine wpList_nil ?_
  show Code.wp _ _ _ _ _
  refine wp_seq ?_
  refine wp_seq ?_
  refine wp_all_seq [.eq (.pointer (some ⟨g1, 66, none⟩)), .eq (.slice pA (P).length pC), .eq (.int .i64 (((P).length : Nat) : Int)), .eq (.bool false), .eq (.bool false), .eq (.pointer (some ⟨g1, 1, none⟩)), .eq (.int .i64 ((n : Nat) : Int)), .eq (.bool false), .eq (.bool false)] (by kernel_rfl) (by kernel_rfl) (by rw [sz]; kernel_rfl) (by kernel_rfl) ⟨fun hw ac u K => ?_, fun hw ac u K => ?_, fun hw ac u K => ?_, fun hw ac u K => ?_, fun hw ac u K => ?_, fun hw ac u K => ?_, fun hw ac u K => ?_, fun hw ac u K => ?_, fun hw ac u K => ?_, trivial⟩ ?_
  · exact st_field 38 4 (.tmp 1) rfl ((K.old 1 rfl).trans x1) (by kernel_rfl)
  · exact st_loadc 24 (.tmp 12) rfl (by kernel_rfl) (K.dep 0 12 rfl) (ob_cell_at (Ob.below m1 K.grow) (([.int .i64 0, .int .i64 ((n : Nat) : Int)] : List Value) ++ ((old).map V ++ ((rt).map V))) (([] : List Value)) _ 66 (by simp) (by simp [hold, hrt]))
  · exact st_lenc (.tmp 13) rfl ((P).length) rfl (fk_val (K.dep 1 13 rfl) (Fk.mono _ _ _ _ hv (bl.trans (Below.mono K.grow bl.size))))
  · exact st_gtr 3 (.tmp 14) (.const (.int .i64 80)) rfl .i64 ((((P).length : Nat) : Int)) (80) (K.dep 2 14 rfl) rfl _ (by rw [eq_comm, decide_eq_false_iff_not]; omega)
  · exact st_move (.tmp 15) rfl (K.dep 3 15 rfl)
  · exact st_field 38 1 (.tmp 1) rfl ((K.old 1 rfl).trans x1) (by kernel_rfl)
  · exact st_loadc 3 (.tmp 17) rfl (by kernel_rfl) (K.dep 5 17 rfl) (ob_cell_at (Ob.below m1 K.grow) (([.int .i64 0] : List Value)) ((old).map V ++ ((rt).map V ++ (([.slice pA (P).length pC] : List Value)))) _ 1 (by simp) (by rfl))
  · exact st_gtr 3 (.tmp 18) (.const (.int .i64 1152921504606846976)) rfl .i64 (((n : Nat) : Int)) (1152921504606846976) (K.dep 6 18 rfl) rfl _ (by rw [eq_comm, decide_eq_false_iff_not]; omega)
  · exact st_pick_f' (.tmp 16) (.const (.bool true)) (.tmp 19) rfl (K.dep 4 16 rfl) (K.dep 7 19 rfl)
  intro f4 w4 A hb
  replace bl0 := bl
  replace x1 := (A.old 1 rfl).trans x1
  replace x2 := (A.old 2 rfl).trans x2
  have x20 : f4.eval (.tmp 20) = .bool false := A.has 8 20 rfl
  have lt_m1 := Ob.lt m1
  replace m1 := Ob.below m1 hb
  replace bl := (bl.trans (Below.mono hb bl.size))
  replace sz := A.size.trans sz
  replace df := A.defs.trans df
  clear A hb
  show Code.wp _ _ _ _ _
  refine wp_cond_false x20 ?_
  refine wp_skip ?_
  show Code.wp _ _ _ _ _
  refine wp_seq ?_
  refine wp_region_seq [.eq (.pointer (some ⟨g1, 0, none⟩)), .eq (.int .i64 0), .eq (.pointer (some ⟨g1, 1, none⟩)), .eq (.int .i64 ((n : Nat) : Int)), .eq (.pointer (some ⟨g1, 2, none⟩)), .eq (.agg ((old).map V).toArray), .eq (.pointer (some ⟨g1, 66, none⟩)), .eq (.slice pA (P).length pC), .eq (.tuple #[.agg ((old).map V).toArray, .agg ((old).map V).toArray, .int .i64 0]), .eq (.tuple #[.agg ((old).map V).toArray, .agg ((old).map V).toArray, .int .i64 0]), .eq (.agg ((old).map V).toArray), .eq (.agg ((old).map V).toArray), .eq (.int .i64 0)] (by kernel_rfl) (by kernel_rfl) (by rw [sz]; kernel_rfl) (by kernel_rfl) ⟨fun hw ac u K => ?_, fun hw ac u K => ?_, fun hw ac u K => ?_, fun hw ac u K => ?_, fun hw ac u K => ?_, fun hw ac u K => ?_, fun hw ac u K => ?_, fun hw ac u K => ?_, fun hw ac u K => ?_, fun hw ac u K => ?_, fun hw ac u K => ?_, fun hw ac u K => ?_, fun hw ac u K => ?_, trivial⟩ ?_
  · exact st_field 38 0 (.tmp 1) rfl ((K.old 1 rfl).trans x1) (by kernel_rfl)
  · exact st_loadc 3 (.tmp 23) rfl (by kernel_rfl) (K.dep 0 23 rfl) (ob_cell_at (Ob.below m1 K.grow) (([] : List Value)) (([.int .i64 ((n : Nat) : Int)] : List Value) ++ ((old).map V ++ ((rt).map V ++ (([.slice pA (P).length pC] : List Value))))) _ 0 (by simp) (by rfl))
  · exact st_field 38 1 (.tmp 1) rfl ((K.old 1 rfl).trans x1) (by kernel_rfl)
  · exact st_loadc 3 (.tmp 25) rfl (by kernel_rfl) (K.dep 2 25 rfl) (ob_cell_at (Ob.below m1 K.grow) (([.int .i64 0] : List Value)) ((old).map V ++ ((rt).map V ++ (([.slice pA (P).length pC] : List Value)))) _ 1 (by simp) (by rfl))
  · exact st_field 38 2 (.tmp 1) rfl ((K.old 1 rfl).trans x1) (by kernel_rfl)
  · exact st_loadz 23 (.tmp 27) rfl (g1) 2 ((old).map V) (by kernel_rfl) (by rw [List.length_map, hold]; kernel_rfl) (K.dep 4 27 rfl) (ob_range_at (Ob.below m1 K.grow) (([.int .i64 0, .int .i64 ((n : Nat) : Int)] : List Value)) ((rt).map V ++ (([.slice pA (P).length pC] : List Value))) _ 2 (by simp) (by rfl))
  · exact st_field 38 4 (.tmp 1) rfl ((K.old 1 rfl).trans x1) (by kernel_rfl)
  · exact st_loadc 24 (.tmp 29) rfl (by kernel_rfl) (K.dep 6 29 rfl) (ob_cell_at (Ob.below m1 K.grow) (([.int .i64 0, .int .i64 ((n : Nat) : Int)] : List Value) ++ ((old).map V ++ ((rt).map V))) (([] : List Value)) _ 66 (by simp) (by simp [hold, hrt]))
  · exact st_call 14 (.func 14) _ _ #[.int .i64 0, .int .i64 ((n : Nat) : Int), .agg ((old).map V).toArray, .slice pA (P).length pC] rfl rfl (arg4 (K.dep 1 24 rfl) (K.dep 3 26 rfl) (K.dep 5 28 rfl) (K.dep 7 30 rfl)) Tryd.enter14 (fk_both_zero hold hn (Fk.mono _ _ _ _ hv (bl.trans (Below.mono K.grow bl.size))) (by omega) (hK.below (bl.trans (Below.mono K.grow bl.size))) hP0)
  · exact st_move (.tmp 31) rfl (K.dep 8 31 rfl)
  · exact st_tri0 (.tmp 22) rfl (K.dep 9 22 rfl)
  · exact st_tri1 (.tmp 22) rfl (K.dep 9 22 rfl)
  · exact st_tri2 (.tmp 22) rfl (K.dep 9 22 rfl)
  intro f5 w5 A hb
  replace bl0 := bl
  replace x1 := (A.old 1 rfl).trans x1
  replace x2 := (A.old 2 rfl).trans x2
  replace x20 := (A.old 20 rfl).trans x20
  have x32 : f5.eval (.tmp 32) = .agg ((old).map V).toArray := A.has 10 32 rfl
  have x33 : f5.eval (.tmp 33) = .agg ((old).map V).toArray := A.has 11 33 rfl
  have x34 : f5.eval (.tmp 34) = .int .i64 0 := A.has 12 34 rfl
  have lt_m1 := Ob.lt m1
  replace m1 := Ob.below m1 hb
  replace bl := (bl.trans (Below.mono hb bl.size))
  replace sz := A.size.trans sz
  replace df := A.defs.trans df
  clear A hb
  refine wl_one (.nw w5.heap.size 23 ((hz).map V)) rfl 3 rfl (by rw [sz]; decide) (st_alloc23 rfl _ (Nat.le_refl _)) ?_
  intro f6 w6 df2 sz2 old2 new2 hb
  replace bl0 := bl
  replace x1 := (old2 1 rfl).trans x1
  replace x2 := (old2 2 rfl).trans x2
  replace x20 := (old2 20 rfl).trans x20
  replace x32 := (old2 32 rfl).trans x32
  replace x33 := (old2 33 rfl).trans x33
  replace x34 := (old2 34 rfl).trans x34
  have x3 : Fk.f (.nw w5.heap.size 23 ((hz).map V)) (f6.eval (.tmp 3)) w6 := new2
  have lt_m1 := Ob.lt m1
  replace m1 := Ob.below m1 hb
  replace bl := (bl.trans (Below.mono hb bl.size))
  replace sz := sz2.trans sz
  replace df := df2.trans df
  clear df2 sz2 old2 new2 hb
  obtain ⟨g3, hg3, e3, m3⟩ := x3
  have x3 := e3
  clear e3
  have nm1_3 : g1 ≠ g3 := Nat.ne_of_lt (Nat.lt_of_lt_of_le lt_m1 hg3)
  have hw3 : w.heap.size ≤ g3 := Nat.le_trans bl0.size hg3
  refine wl_one (.nw w6.heap.size 23 ((hz).map V)) rfl 4 rfl (by rw [sz]; decide) (st_alloc23 rfl _ (Nat.le_refl _)) ?_
  intro f7 w7 df2 sz2 old2 new2 hb
  replace bl0 := bl
  replace x1 := (old2 1 rfl).trans x1
  replace x2 := (old2 2 rfl).trans x2
  replace x20 := (old2 20 rfl).trans x20
  replace x32 := (old2 32 rfl).trans x32
  replace x33 := (old2 33 rfl).trans x33
  replace x34 := (old2 34 rfl).trans x34
  replace x3 := (old2 3 rfl).trans x3
  have x4 : Fk.f (.nw w6.heap.size 23 ((hz).map V)) (f7.eval (.tmp 4)) w7 := new2
  have lt_m1 := Ob.lt m1
  replace m1 := Ob.below m1 hb
  have lt_m3 := Ob.lt m3
  replace m3 := Ob.below m3 hb
  replace bl := (bl.trans (Below.mono hb bl.size))
  replace sz := sz2.trans sz
  replace df := df2.trans df
  clear df2 sz2 old2 new2 hb
  obtain ⟨g4, hg4, e4, m4⟩ := x4
  have x4 := e4
  clear e4
  have nm1_4 : g1 ≠ g4 := Nat.ne_of_lt (Nat.lt_of_lt_of_le lt_m1 hg4)
  have nm3_4 : g3 ≠ g4 := Nat.ne_of_lt (Nat.lt_of_lt_of_le lt_m3 hg4)
  have hw4 : w.heap.size ≤ g4 := Nat.le_trans bl0.size hg4
  refine wl_store rfl (.tmp 3) (.tmp 32) rfl rfl (g3) (old) (hz) x3 x32 m3 hz_len hold ?_
  replace m1 : Ob (w7.setRow g3 ((old).map V : List Value).toArray) (g1) 38 (([.int .i64 0, .int .i64 ((n : Nat) : Int)] : List Value) ++ ((old).map V ++ ((rt).map V ++ (([.slice pA (P).length pC] : List Value))))) := Ob.setRow_other m1 _ nm1_3
  replace m3 : Ob (w7.setRow g3 ((old).map V : List Value).toArray) (g3) 23 ((old).map V) := Ob.setRow m3 ((old).map V)
  replace m4 : Ob (w7.setRow g3 ((old).map V : List Value).toArray) (g4) 23 ((hz).map V) := Ob.setRow_other m4 _ nm3_4.symm
  replace bl : Below w.heap.size w (w7.setRow g3 ((old).map V : List Value).toArray) := bl.trans (below_setRow _ _ _ _ hw3)
  generalize w7.setRow g3 ((old).map V : List Value).toArray = w8b at bl m1 m3 m4 ⊢
  clear x32
  refine wl_store rfl (.tmp 4) (.tmp 33) rfl rfl (g4) (old) (hz) x4 x33 m4 hz_len hold ?_
  replace m1 : Ob (w8b.setRow g4 ((old).map V : List Value).toArray) (g1) 38 (([.int .i64 0, .int .i64 ((n : Nat) : Int)] : List Value) ++ ((old).map V ++ ((rt).map V ++ (([.slice pA (P).length pC] : List Value))))) := Ob.setRow_other m1 _ nm1_4
  replace m3 : Ob (w8b.setRow g4 ((old).map V : List Value).toArray) (g3) 23 ((old).map V) := Ob.setRow_other m3 _ nm3_4
  replace m4 : Ob (w8b.setRow g4 ((old).map V : List Value).toArray) (g4) 23 ((old).map V) := Ob.setRow m4 ((old).map V)
  replace bl : Below w.heap.size w (w8b.setRow g4 ((old).map V : List Value).toArray) := bl.trans (below_setRow _ _ _ _ hw4)
  generalize w8b.setRow g4 ((old).map V : List Value).toArray = w9b at bl m1 m3 m4 ⊢
  clear x33
  refine wl_one (.eq (.int .i64 0)) rfl 5 rfl (by rw [sz]; decide) (st_assign (.tmp 34) rfl x34) ?_
  intro f10 w10 df2 sz2 old2 new2 hb
  replace bl0 := bl
  replace x1 := (old2 1 rfl).trans x1
  replace x2 := (old2 2 rfl).trans x2
  replace x20 := (old2 20 rfl).trans x20
  replace x34 := (old2 34 rfl).trans x34
  replace x3 := (old2 3 rfl).trans x3
  replace x4 := (old2 4 rfl).trans x4
  have x5 : f10.eval (.tmp 5) = .int .i64 0 := new2
  have lt_m1 := Ob.lt m1
  replace m1 := Ob.below m1 hb
  have lt_m3 := Ob.lt m3
  replace m3 := Ob.below m3 hb
  have lt_m4 := Ob.lt m4
  replace m4 := Ob.below m4 hb
  replace bl := (bl.trans (Below.mono hb bl.size))
  replace sz := sz2.trans sz
  replace df := df2.trans df
  clear df2 sz2 old2 new2 hb
  refine wpList_nil ?_
  clear x34
  show Code.wp _ _ _ _ _
  refine wp_seq ?_
  refine wp_all_seq [.eq (.pointer (some ⟨g1, 0, none⟩)), .eq (.int .i64 0), .eq (.pointer (some ⟨g1, 1, none⟩)), .eq (.int .i64 ((n : Nat) : Int)), .eq (.pointer (some ⟨g1, 2, none⟩)), .eq (.agg ((old).map V).toArray), .eq (.pointer (some ⟨g1, 34, none⟩)), .eq (.agg ((rt).map V).toArray), .eq (.pointer (some ⟨g1, 66, none⟩)), .eq (.slice pA (P).length pC), .eq (.int .i64 0), .eq (.int .i64 0)] (by kernel_rfl) (by kernel_rfl) (by rw [sz]; kernel_rfl) (by kernel_rfl) ⟨fun hw ac u K => ?_, fun hw ac u K => ?_, fun hw ac u K => ?_, fun hw ac u K => ?_, fun hw ac u K => ?_, fun hw ac u K => ?_, fun hw ac u K => ?_, fun hw ac u K => ?_, fun hw ac u K => ?_, fun hw ac u K => ?_, fun hw ac u K => ?_, fun hw ac u K => ?_, trivial⟩ ?_
  · exact st_field 38 0 (.tmp 1) rfl ((K.old 1 rfl).trans x1) (by kernel_rfl)
  · exact st_loadc 3 (.tmp 35) rfl (by kernel_rfl) (K.dep 0 35 rfl) (ob_cell_at (Ob.below m1 K.grow) (([] : List Value)) (([.int .i64 ((n : Nat) : Int)] : List Value) ++ ((old).map V ++ ((rt).map V ++ (([.slice pA (P).length pC] : List Value))))) _ 0 (by simp) (by rfl))
  · exact st_field 38 1 (.tmp 1) rfl ((K.old 1 rfl).trans x1) (by kernel_rfl)
  · exact st_loadc 3 (.tmp 37) rfl (by kernel_rfl) (K.dep 2 37 rfl) (ob_cell_at (Ob.below m1 K.grow) (([.int .i64 0] : List Value)) ((old).map V ++ ((rt).map V ++ (([.slice pA (P).length pC] : List Value)))) _ 1 (by simp) (by rfl))
  · exact st_field 38 2 (.tmp 1) rfl ((K.old 1 rfl).trans x1) (by kernel_rfl)
  · exact st_loadz 23 (.tmp 39) rfl (g1) 2 ((old).map V) (by kernel_rfl) (by rw [List.length_map, hold]; kernel_rfl) (K.dep 4 39 rfl) (ob_range_at (Ob.below m1 K.grow) (([.int .i64 0, .int .i64 ((n : Nat) : Int)] : List Value)) ((rt).map V ++ (([.slice pA (P).length pC] : List Value))) _ 2 (by simp) (by rfl))
  · exact st_field 38 3 (.tmp 1) rfl ((K.old 1 rfl).trans x1) (by kernel_rfl)
  · exact st_loadz 23 (.tmp 41) rfl (g1) 34 ((rt).map V) (by kernel_rfl) (by rw [List.length_map, hrt]; kernel_rfl) (K.dep 6 41 rfl) (ob_range_at (Ob.below m1 K.grow) (([.int .i64 0, .int .i64 ((n : Nat) : Int)] : List Value) ++ ((old).map V)) (([.slice pA (P).length pC] : List Value)) _ 34 (by simp) (by simp [hold]))
  · exact st_field 38 4 (.tmp 1) rfl ((K.old 1 rfl).trans x1) (by kernel_rfl)
  · exact st_loadc 24 (.tmp 43) rfl (by kernel_rfl) (K.dep 8 43 rfl) (ob_cell_at (Ob.below m1 K.grow) (([.int .i64 0, .int .i64 ((n : Nat) : Int)] : List Value) ++ ((old).map V ++ ((rt).map V))) (([] : List Value)) _ 66 (by simp) (by simp [hold, hrt]))
  · exact st_call 15 (.func 15) _ _ #[.int .i64 0, .int .i64 ((n : Nat) : Int), .agg ((old).map V).toArray, .agg ((rt).map V).toArray, .slice pA (P).length pC] rfl rfl (arg5 (K.dep 1 36 rfl) (K.dep 3 38 rfl) (K.dep 5 40 rfl) (K.dep 7 42 rfl) (K.dep 9 44 rfl)) Tryd.enter15 (fk_on_zero hold hrt hn (Fk.mono _ _ _ _ hv (bl.trans (Below.mono K.grow bl.size))) (by omega) (hK.below (bl.trans (Below.mono K.grow bl.size))) 0 (by rw [if_pos ⟨ho, hP0, .inl hn0⟩]))
  · exact st_assign (.tmp 45) rfl (K.dep 10 45 rfl)
  intro f11 w11 A hb
  replace bl0 := bl
  replace x1 := (A.old 1 rfl).trans x1
  replace x2 := (A.old 2 rfl).trans x2
  replace x20 := (A.old 20 rfl).trans x20
  replace x3 := (A.old 3 rfl).trans x3
  replace x4 := (A.old 4 rfl).trans x4
  replace x5 := (A.old 5 rfl).trans x5
  have x6 : f11.eval (.tmp 6) = .int .i64 0 := A.has 11 6 rfl
  have lt_m1 := Ob.lt m1
  replace m1 := Ob.below m1 hb
  have lt_m3 := Ob.lt m3
  replace m3 := Ob.below m3 hb
  have lt_m4 := Ob.lt m4
  replace m4 := Ob.below m4 hb
  replace bl := (bl.trans (Below.mono hb bl.size))
  replace sz := A.size.trans sz
  replace df := A.defs.trans df
  clear A hb
  show Code.wp _ _ _ _ _
  refine wp_seq ?_
  refine wp_seq ?_
  refine wp_all_seq [.eq (.pointer (some ⟨g1, 0, none⟩)), .eq (.int .i64 0), .eq (.bool false), .eq (.bool false), .eq (.pointer (some ⟨g1, 0, none⟩)), .eq (.int .i64 0), .eq (.pointer (some ⟨g1, 1, none⟩)), .eq (.int .i64 ((n : Nat) : Int)), .eq (.bool false), .eq (.bool false)] (by kernel_rfl) (by kernel_rfl) (by rw [sz]; kernel_rfl) (by kernel_rfl) ⟨fun hw ac u K => ?_, fun hw ac u K => ?_, fun hw ac u K => ?_, fun hw ac u K => ?_, fun hw ac u K => ?_, fun hw ac u K => ?_, fun hw ac u K => ?_, fun hw ac u K => ?_, fun hw ac u K => ?_, fun hw ac u K => ?_, trivial⟩ ?_
  · exact st_field 38 0 (.tmp 1) rfl ((K.old 1 rfl).trans x1) (by kernel_rfl)
  · exact st_loadc 3 (.tmp 46) rfl (by kernel_rfl) (K.dep 0 46 rfl) (ob_cell_at (Ob.below m1 K.grow) (([] : List Value)) (([.int .i64 ((n : Nat) : Int)] : List Value) ++ ((old).map V ++ ((rt).map V ++ (([.slice pA (P).length pC] : List Value))))) _ 0 (by simp) (by rfl))
  · exact st_lss 3 (.tmp 47) (.const (.int .i64 0)) rfl .i64 (0) (0) (K.dep 1 47 rfl) rfl _ (by rw [eq_comm, decide_eq_false_iff_not]; omega)
  · exact st_move (.tmp 48) rfl (K.dep 2 48 rfl)
  · exact st_field 38 0 (.tmp 1) rfl ((K.old 1 rfl).trans x1) (by kernel_rfl)
  · exact st_loadc 3 (.tmp 50) rfl (by kernel_rfl) (K.dep 4 50 rfl) (ob_cell_at (Ob.below m1 K.grow) (([] : List Value)) (([.int .i64 ((n : Nat) : Int)] : List Value) ++ ((old).map V ++ ((rt).map V ++ (([.slice pA (P).length pC] : List Value))))) _ 0 (by simp) (by rfl))
  · exact st_field 38 1 (.tmp 1) rfl ((K.old 1 rfl).trans x1) (by kernel_rfl)
  · exact st_loadc 3 (.tmp 52) rfl (by kernel_rfl) (K.dep 6 52 rfl) (ob_cell_at (Ob.below m1 K.grow) (([.int .i64 0] : List Value)) ((old).map V ++ ((rt).map V ++ (([.slice pA (P).length pC] : List Value)))) _ 1 (by simp) (by rfl))
  · exact st_gtr 3 (.tmp 51) (.tmp 53) rfl .i64 (0) (((n : Nat) : Int)) (K.dep 5 51 rfl) (K.dep 7 53 rfl) _ (by rw [eq_comm, decide_eq_false_iff_not]; omega)
  · exact st_pick_f' (.tmp 49) (.const (.bool true)) (.tmp 54) rfl (K.dep 3 49 rfl) (K.dep 8 54 rfl)
  intro f12 w12 A hb
  replace bl0 := bl
  replace x1 := (A.old 1 rfl).trans x1
  replace x2 := (A.old 2 rfl).trans x2
  replace x20 := (A.old 20 rfl).trans x20
  replace x3 := (A.old 3 rfl).trans x3
  replace x4 := (A.old 4 rfl).trans x4
  replace x5 := (A.old 5 rfl).trans x5
  replace x6 := (A.old 6 rfl).trans x6
  have x55 : f12.eval (.tmp 55) = .bool false := A.has 9 55 rfl
  have lt_m1 := Ob.lt m1
  replace m1 := Ob.below m1 hb
  have lt_m3 := Ob.lt m3
  replace m3 := Ob.below m3 hb
  have lt_m4 := Ob.lt m4
  replace m4 := Ob.below m4 hb
  replace bl := (bl.trans (Below.mono hb bl.size))
  replace sz := A.size.trans sz
  replace df := A.defs.trans df
  clear A hb
  show Code.wp _ _ _ _ _
  refine wp_cond_false x55 ?_
  refine wp_skip ?_
  show Code.wp _ _ _ _ _
  refine wp_seq ?_
  refine wp_seq ?_
  refine wp_all_seq [.eq (.pointer (some ⟨g1, 0, none⟩)), .eq (.int .i64 0), .eq (.bool true)] (by kernel_rfl) (by kernel_rfl) (by rw [sz]; kernel_rfl) (by kernel_rfl) ⟨fun hw ac u K => ?_, fun hw ac u K => ?_, fun hw ac u K => ?_, trivial⟩ ?_
  · exact st_field 38 0 (.tmp 1) rfl ((K.old 1 rfl).trans x1) (by kernel_rfl)
  · exact st_loadc 3 (.tmp 75) rfl (by kernel_rfl) (K.dep 0 75 rfl) (ob_cell_at (Ob.below m1 K.grow) (([] : List Value)) (([.int .i64 ((n : Nat) : Int)] : List Value) ++ ((old).map V ++ ((rt).map V ++ (([.slice pA (P).length pC] : List Value))))) _ 0 (by simp) (by rfl))
  · exact st_eqi 3 (.tmp 76) (.const (.int .i64 0)) rfl .i64 (0) (0) (K.dep 1 76 rfl) rfl _ (by simp)
  intro f13 w13 A hb
  replace bl0 := bl
  replace x1 := (A.old 1 rfl).trans x1
  replace x2 := (A.old 2 rfl).trans x2
  replace x20 := (A.old 20 rfl).trans x20
  replace x3 := (A.old 3 rfl).trans x3
  replace x4 := (A.old 4 rfl).trans x4
  replace x5 := (A.old 5 rfl).trans x5
  replace x6 := (A.old 6 rfl).trans x6
  replace x55 := (A.old 55 rfl).trans x55
  have x77 : f13.eval (.tmp 77) = .bool true := A.has 2 77 rfl
  have lt_m1 := Ob.lt m1
  replace m1 := Ob.below m1 hb
  have lt_m3 := Ob.lt m3
  replace m3 := Ob.below m3 hb
  have lt_m4 := Ob.lt m4
  replace m4 := Ob.below m4 hb
  replace bl := (bl.trans (Below.mono hb bl.size))
  replace sz := A.size.trans sz
  replace df := A.defs.trans df
  clear A hb
  show Code.wp _ _ _ _ _
  refine wp_cond_true x77 ?_
  refine wp_seq ?_
  refine wp_seq ?_
  refine wp_all_seq [.eq (.pointer (some ⟨g1, 66, none⟩)), .eq (.slice pA (P).length pC), .eq (.int .i64 (((P).length : Nat) : Int)), .eq (.bool false)] (by kernel_rfl) (by kernel_rfl) (by rw [sz]; kernel_rfl) (by kernel_rfl) ⟨fun hw ac u K => ?_, fun hw ac u K => ?_, fun hw ac u K => ?_, fun hw ac u K => ?_, trivial⟩ ?_
  · exact st_field 38 4 (.tmp 1) rfl ((K.old 1 rfl).trans x1) (by kernel_rfl)
  · exact st_loadc 24 (.tmp 78) rfl (by kernel_rfl) (K.dep 0 78 rfl) (ob_cell_at (Ob.below m1 K.grow) (([.int .i64 0, .int .i64 ((n : Nat) : Int)] : List Value) ++ ((old).map V ++ ((rt).map V))) (([] : List Value)) _ 66 (by simp) (by simp [hold, hrt]))
  · exact st_lenc (.tmp 79) rfl ((P).length) rfl (fk_val (K.dep 1 79 rfl) (Fk.mono _ _ _ _ hv (bl.trans (Below.mono K.grow bl.size))))
  · exact st_gtr 3 (.tmp 80) (.const (.int .i64 0)) rfl .i64 ((((P).length : Nat) : Int)) (0) (K.dep 2 80 rfl) rfl _ (by rw [eq_comm, decide_eq_false_iff_not]; omega)
  intro f14 w14 A hb
  replace bl0 := bl
  replace x1 := (A.old 1 rfl).trans x1
  replace x2 := (A.old 2 rfl).trans x2
  replace x20 := (A.old 20 rfl).trans x20
  replace x3 := (A.old 3 rfl).trans x3
  replace x4 := (A.old 4 rfl).trans x4
  replace x5 := (A.old 5 rfl).trans x5
  replace x6 := (A.old 6 rfl).trans x6
  replace x55 := (A.old 55 rfl).trans x55
  replace x77 := (A.old 77 rfl).trans x77
  have x81 : f14.eval (.tmp 81) = .bool false := A.has 3 81 rfl
  have lt_m1 := Ob.lt m1
  replace m1 := Ob.below m1 hb
  have lt_m3 := Ob.lt m3
  replace m3 := Ob.below m3 hb
  have lt_m4 := Ob.lt m4
  replace m4 := Ob.below m4 hb
  replace bl := (bl.trans (Below.mono hb bl.size))
  replace sz := A.size.trans sz
  replace df := A.defs.trans df
  clear A hb
  show Code.wp _ _ _ _ _
  refine wp_cond_false x81 ?_
  refine wp_skip ?_
  show Code.wp _ _ _ _ _
  refine wp_seq ?_
  refine wp_all [.eq (.pointer (some ⟨g1, 2, none⟩)), .eq (.agg ((old).map V).toArray), .eq (.agg ((o0).map V).toArray), .eq (.bool true), .eq (.bool true), .eq (.pointer (some ⟨g1, 1, none⟩)), .eq (.int .i64 ((n : Nat) : Int)), .eq (.bool true), .eq (.bool true), .any, .any, .any, .any, .any, .eq (.bool true), .eq (.bool true), .eq (.bool true)] Tryd.mixed (by kernel_rfl) (by kernel_rfl) (by rw [sz]; kernel_rfl) (by kernel_rfl) ⟨fun hw ac u K => ?_, fun hw ac u K => ?_, fun hw ac u K => ?_, fun hw ac u K => ?_, fun hw ac u K => ?_, fun hw ac u K => ?_, fun hw ac u K => ?_, fun hw ac u K => ?_, fun hw ac u K => ?_, fun hw ac u K => ?_, fun hw ac u K => ?_, fun hw ac u K => ?_, fun hw ac u K => ?_, fun hw ac u K => ?_, fun hw ac u K => ?_, fun hw ac u K => ?_, fun hw ac u K => ?_, trivial⟩ ?_
  · exact st_field 38 2 (.tmp 1) rfl ((K.old 1 rfl).trans x1) (by kernel_rfl)
  · exact st_loadz 23 (.tmp 91) rfl (g1) 2 ((old).map V) (by kernel_rfl) (by rw [List.length_map, hold]; kernel_rfl) (K.dep 0 91 rfl) (ob_range_at (Ob.below m1 K.grow) (([.int .i64 0, .int .i64 ((n : Nat) : Int)] : List Value)) ((rt).map V ++ (([.slice pA (P).length pC] : List Value))) _ 2 (by simp) (by rfl))
  · exact st_call 16 (.func 16) _ _ #[.slice none 0 0] rfl rfl (one_arg rfl) Tryd.enter16 (by rw [← eo]; exact fk_sum (by simp) (hK.below (bl.trans (Below.mono K.grow bl.size))) (Fk.mono _ _ _ _ hnil (bl.trans (Below.mono K.grow bl.size))))
  · exact st_eqh (.tmp 92) (.tmp 93) rfl (old) (o0) hold ho0 (K.dep 1 92 rfl) (K.dep 2 93 rfl) _ (by simp [ho, eo])
  · exact st_move (.tmp 94) rfl (K.dep 3 94 rfl)
  · exact st_field 38 1 (.tmp 1) rfl ((K.old 1 rfl).trans x1) (by kernel_rfl)
  · exact st_loadc 3 (.tmp 96) rfl (by kernel_rfl) (K.dep 5 96 rfl) (ob_cell_at (Ob.below m1 K.grow) (([.int .i64 0] : List Value)) ((old).map V ++ ((rt).map V ++ (([.slice pA (P).length pC] : List Value)))) _ 1 (by simp) (by rfl))
  · exact st_gtr 3 (.tmp 97) (.const (.int .i64 0)) rfl .i64 (((n : Nat) : Int)) (0) (K.dep 6 97 rfl) rfl _ (by rw [eq_comm, decide_eq_true_iff]; omega)
  · exact st_move (.tmp 98) rfl (K.dep 7 98 rfl)
  · exact (Bool.false_ne_true hw).elim
  · exact (Bool.false_ne_true hw).elim
  · exact (Bool.false_ne_true hw).elim
  · exact (Bool.false_ne_true hw).elim
  · exact (Bool.false_ne_true hw).elim
  · exact st_pick_t (.tmp 99) (.const (.bool true)) (.tmp 104) rfl (K.dep 8 99 rfl) rfl
  · exact st_pick_t (.tmp 95) (.tmp 105) (.const (.bool false)) rfl (K.dep 4 95 rfl) (K.dep 14 105 rfl)
  · exact st_assign (.tmp 106) rfl (K.dep 15 106 rfl)
  intro f15 w15 A hb
  replace bl0 := bl
  replace x1 := (A.old 1 rfl).trans x1
  replace x2 := (A.old 2 rfl).trans x2
  replace x20 := (A.old 20 rfl).trans x20
  replace x3 := (A.old 3 rfl).trans x3
  replace x4 := (A.old 4 rfl).trans x4
  replace x5 := (A.old 5 rfl).trans x5
  replace x6 := (A.old 6 rfl).trans x6
  replace x55 := (A.old 55 rfl).trans x55
  replace x77 := (A.old 77 rfl).trans x77
  replace x81 := (A.old 81 rfl).trans x81
  have x7 : f15.eval (.tmp 7) = .bool true := A.has 16 7 rfl
  have lt_m1 := Ob.lt m1
  replace m1 := Ob.below m1 hb
  have lt_m3 := Ob.lt m3
  replace m3 := Ob.below m3 hb
  have lt_m4 := Ob.lt m4
  replace m4 := Ob.below m4 hb
  replace bl := (bl.trans (Below.mono hb bl.size))
  replace sz := A.size.trans sz
  replace df := A.defs.trans df
  clear A hb
  show Code.wp _ _ _ _ _
  refine wp_seq ?_
  refine wp_all_seq [.eq (.int .i64 0), .eq (.bool true), .eq (.bool true), .eq (.agg ((old).map V).toArray), .eq (.pointer (some ⟨g1, 2, none⟩)), .eq (.agg ((old).map V).toArray), .eq (.bool true), .eq (.bool true), .eq (.bool true), .eq (.agg ((old).map V).toArray), .eq (.pointer (some ⟨g1, 2, none⟩)), .eq (.agg ((old).map V).toArray), .eq (.bool true), .eq (.bool true), .eq (.bool true), .eq (.int .i64 0), .eq (.bool true), .eq (.bool true), .eq (.bool true), .eq (.bool true), .eq (.bool true), .eq (.bool true), .eq (.bool true), .any, .any, .eq (.bool true), .eq (.bool true), .eq (.bool true), .eq (.bool true), .eq (.bool true), .eq (.bool true)] (by kernel_rfl) (by kernel_rfl) (by rw [sz]; kernel_rfl) (by kernel_rfl) ⟨fun hw ac u K => ?_, fun hw ac u K => ?_, fun hw ac u K => ?_, fun hw ac u K => ?_, fun hw ac u K => ?_, fun hw ac u K => ?_, fun hw ac u K => ?_, fun hw ac u K => ?_, fun hw ac u K => ?_, fun hw ac u K => ?_, fun hw ac u K => ?_, fun hw ac u K => ?_, fun hw ac u K => ?_, fun hw ac u K => ?_, fun hw ac u K => ?_, fun hw ac u K => ?_, fun hw ac u K => ?_, fun hw ac u K => ?_, fun hw ac u K => ?_, fun hw ac u K => ?_, fun hw ac u K => ?_, fun hw ac u K => ?_, fun hw ac u K => ?_, fun hw ac u K => ?_, fun hw ac u K => ?_, fun hw ac u K => ?_, fun hw ac u K => ?_, fun hw ac u K => ?_, fun hw ac u K => ?_, fun hw ac u K => ?_, fun hw ac u K => ?_, trivial⟩ ?_
  · exact st_move (.tmp 5) rfl ((K.old 5 rfl).trans x5)
  · exact st_eqi 28 (.tmp 107) (.const (.int .i64 0)) rfl .i64 (0) (0) (K.dep 0 107 rfl) rfl _ (by rfl)
  · exact st_move (.tmp 108) rfl (K.dep 1 108 rfl)
  · exact st_load23 (.tmp 3) rfl (g3) (old) ((K.old 3 rfl).trans x3) hold (Ob.below m3 K.grow)
  · exact st_field 38 2 (.tmp 1) rfl ((K.old 1 rfl).trans x1) (by kernel_rfl)
  · exact st_loadz 23 (.tmp 111) rfl (g1) 2 ((old).map V) (by kernel_rfl) (by rw [List.length_map, hold]; kernel_rfl) (K.dep 4 111 rfl) (ob_range_at (Ob.below m1 K.grow) (([.int .i64 0, .int .i64 ((n : Nat) : Int)] : List Value)) ((rt).map V ++ (([.slice pA (P).length pC] : List Value))) _ 2 (by simp) (by rfl))
  · exact st_eqh (.tmp 110) (.tmp 112) rfl (old) (old) hold hold (K.dep 3 110 rfl) (K.dep 5 112 rfl) _ (by simp)
  · exact st_pick_t (.tmp 109) (.tmp 113) (.const (.bool false)) rfl (K.dep 2 109 rfl) (K.dep 6 113 rfl)
  · exact st_move (.tmp 114) rfl (K.dep 7 114 rfl)
  · exact st_load23 (.tmp 4) rfl (g4) (old) ((K.old 4 rfl).trans x4) hold (Ob.below m4 K.grow)
  · exact st_field 38 2 (.tmp 1) rfl ((K.old 1 rfl).trans x1) (by kernel_rfl)
  · exact st_loadz 23 (.tmp 117) rfl (g1) 2 ((old).map V) (by kernel_rfl) (by rw [List.length_map, hold]; kernel_rfl) (K.dep 10 117 rfl) (ob_range_at (Ob.below m1 K.grow) (([.int .i64 0, .int .i64 ((n : Nat) : Int)] : List Value)) ((rt).map V ++ (([.slice pA (P).length pC] : List Value))) _ 2 (by simp) (by rfl))
  · exact st_eqh (.tmp 116) (.tmp 118) rfl (old) (old) hold hold (K.dep 9 116 rfl) (K.dep 11 118 rfl) _ (by simp)
  · exact st_pick_t (.tmp 115) (.tmp 119) (.const (.bool false)) rfl (K.dep 8 115 rfl) (K.dep 12 119 rfl)
  · exact st_move (.tmp 120) rfl (K.dep 13 120 rfl)
  · exact st_move (.tmp 6) rfl ((K.old 6 rfl).trans x6)
  · exact st_eqi 28 (.tmp 122) (.const (.int .i64 0)) rfl .i64 (0) (0) (K.dep 15 122 rfl) rfl _ (by rfl)
  · exact st_move (.tmp 7) rfl ((K.old 7 rfl).trans x7)
  · exact st_eqbb (.tmp 123) (.tmp 124) rfl _ _ (K.dep 16 123 rfl) (K.dep 17 124 rfl) true (by rfl)
  · exact st_pick_t (.tmp 121) (.tmp 125) (.const (.bool false)) rfl (K.dep 14 121 rfl) (K.dep 18 125 rfl)
  · exact st_move (.tmp 126) rfl (K.dep 19 126 rfl)
  · exact st_move (.tmp 7) rfl ((K.old 7 rfl).trans x7)
  · exact st_move (.tmp 128) rfl (K.dep 21 128 rfl)
  · exact (Bool.false_ne_true hw).elim
  · exact (Bool.false_ne_true hw).elim
  · exact st_pick_t (.tmp 129) (.const (.bool true)) (.tmp 131) rfl (K.dep 22 129 rfl) rfl
  · exact st_pick_t (.tmp 127) (.tmp 132) (.const (.bool false)) rfl (K.dep 20 127 rfl) (K.dep 25 132 rfl)
  · exact st_move (.tmp 133) rfl (K.dep 26 133 rfl)
  · exact st_call 8 (.func 8) _ _ #[] rfl rfl rfl Tryd.enter8 (fk_of (awake_any _ (hK.below (bl.trans (Below.mono K.grow bl.size)))))
  · exact st_pick_t (.tmp 134) (.tmp 135) (.const (.bool false)) rfl (K.dep 27 134 rfl) (K.dep 28 135 rfl)
  · exact st_assign (.tmp 136) rfl (K.dep 29 136 rfl)
  intro f16 w16 A hb
  replace bl0 := bl
  replace x1 := (A.old 1 rfl).trans x1
  clear x2
  replace x20 := (A.old 20 rfl).trans x20
  replace x3 := (A.old 3 rfl).trans x3
  replace x4 := (A.old 4 rfl).trans x4
  replace x5 := (A.old 5 rfl).trans x5
  replace x6 := (A.old 6 rfl).trans x6
  replace x55 := (A.old 55 rfl).trans x55
  replace x77 := (A.old 77 rfl).trans x77
  replace x81 := (A.old 81 rfl).trans x81
  replace x7 := (A.old 7 rfl).trans x7
  have x2 : f16.eval (.tmp 2) = .bool true := A.has 30 2 rfl
  have lt_m1 := Ob.lt m1
  replace m1 := Ob.below m1 hb
  have lt_m3 := Ob.lt m3
  replace m3 := Ob.below m3 hb
  have lt_m4 := Ob.lt m4
  replace m4 := Ob.below m4 hb
  replace bl := (bl.trans (Below.mono hb bl.size))
  replace sz := A.size.trans sz
  replace df := A.defs.trans df
  clear A hb
  clear x7
  show Code.wp _ _ _ _ _
  refine wp_ret ?_
  repeat (first | with_reducible refine then_ret ?_ | with_reducible refine block_ret ?_)
  exact bodyPost_ret (v := .bool true) (ret_slot rfl f16 _ x2 _ _) df ⟨rfl, bl⟩
theorem both_z2 {old rt : List (BitVec 8)} (hold : old.length = 32) (hrt : rt.length = 32) {P : List (List (BitVec 8))} {pA : Option Addr} {pC : Nat} (w : World) (hK : Tab w) (hv : (Fk.hc P).f (.slice pA (P).length pC) w) {n : Nat} (hn : n ≤ 1152921504606846976) (hP0 : P.length = 0) (ho : old = shaOf []) (hn0 : n = 0) (hro : rt = old) :
    Calls Tryd.prog 4 #[.agg (([.int .i64 0, .int .i64 ((n : Nat) : Int)] : List Value) ++ ((old).map V ++ ((rt).map V ++ (([.slice pA (P).length pC] : List Value))))).toArray] w fun e w' => e = .returned (.bool true) ∧ Below w.heap.size w w' := by
  have hvs := hc_hs hv
  obtain ⟨o0, eo⟩ : ∃ o, shaOf [] = o := ⟨_, rfl⟩
  have ho0 : o0.length = 32 := by rw [← eo]; exact shaOf_len _
  have hnil := sl_nil w
  go_enter Tryd.func4, Tryd.ntmps4
  refine code_both (fun f w1 => f.tmps.size = 194 ∧ f.defers = [] ∧ f.eval (.tmp 0) = .agg (([.int .i64 0, .int .i64 ((n : Nat) : Int)] : List Value) ++ ((old).map V ++ ((rt).map V ++ (([.slice pA (P).length pC] : List Value))))).toArray ∧ Below w.heap.size w (w1)) ⟨rfl, rfl, rfl, Below.refl _ _⟩ ?_
  rintro f0 w0 ⟨sz, df, x0, bl⟩
  have bl0 := bl
  refine wp_seq ?_
  refine wp_region_seq [] (by kernel_rfl) (by kernel_rfl) (by rw [sz]; kernel_rfl) (by kernel_rfl) trivial ?_
  intro f1 w1 A hb
  replace bl0 := bl
  replace x0 := (A.old 0 rfl).trans x0
  replace bl := (bl.trans (Below.mono hb bl.size))
  replace sz := A.size.trans sz
  replace df := A.defs.trans df
  clear A hb
  refine wl_one (.nw w1.heap.size 38 (([.int .i64 0, .int .i64 ((n : Nat) : Int)] : List Value) ++ ((old).map V ++ ((rt).map V ++ (([.slice pA (P).length pC] : List Value)))))) rfl 1 rfl (by rw [sz]; decide) (st_box 38 (.tmp 0) rfl _ _ (by rw [show _ = _ from x0]; kernel_rfl) (Nat.le_refl _)) ?_
  intro f2 w2 df2 sz2 old2 new2 hb
  replace bl0 := bl
  replace x0 := (old2 0 rfl).trans x0
  have x1 : Fk.f (.nw w1.heap.size 38 (([.int .i64 0, .int .i64 ((n : Nat) : Int)] : List Value) ++ ((old).map V ++ ((rt).map V ++ (([.slice pA (P).length pC] : List Value)))))) (f2.eval (.tmp 1)) w2 := new2
  replace bl := (bl.trans (Below.mono hb bl.size))
  replace sz := sz2.trans sz
  replace df := df2.trans df
  clear df2 sz2 old2 new2 hb
  obtain ⟨g1, hg1, e1, m1⟩ := x1
  have x1 := e1
  clear e1
  have hw1 : w.heap.size ≤ g1 := Nat.le_trans bl0.size hg1
  clear x0
  refine wl_one (.eq (.bool false)) rfl 2 rfl (by rw [sz]; decide) (st_assign (.const (.bool false)) rfl rfl) ?_
  intro f3 w3 df2 sz2 old2 new2 hb
  replace bl0 := bl
  replace x1 := (old2 1 rfl).trans x1
  have x2 : f3.eval (.tmp 2) = .bool false := new2
  have lt_m1 := Ob.lt m1
  replace m1 := Ob.below m1 hb
  replace bl := (bl.trans (Below.mono hb bl.size))
  replace sz := sz2.trans sz
  replace df := df2.trans df
  clear df2 sz2 old2 new2 hb
  refine wpList_nil ?_
  show Code.wp _ _ _ _ _
  refine wp_seq ?_
  refine wp_seq ?_
  refine wp_all_seq [.eq (.pointer (some ⟨g1, 66, none⟩)), .eq (.slice pA (P).length pC), .eq (.int .i64 (((P).length : Nat) : Int)), .eq (.bool false), .eq (.bool false), .eq (.pointer (some ⟨g1, 1, none⟩)), .eq (.int .i64 ((n : Nat) : Int)), .eq (.bool false), .eq (.bool false)] (by kernel_rfl) (by kernel_rfl) (by rw [sz]; kernel_rfl) (by kernel_rfl) ⟨fun hw ac u K => ?_, fun hw ac u K => ?_, fun hw ac u K => ?_, fun hw ac u K => ?_, fun hw ac u K => ?_, fun hw ac u K => ?_, fun hw ac u K => ?_, fun hw ac u K => ?_, fun hw ac u K => ?_, trivial⟩ ?_
  · exact st_field 38 4 (.tmp 1) rfl ((K.old 1 rfl).trans x1) (by kernel_rfl)
  · exact st_loadc 24 (.tmp 12) rfl (by kernel_rfl) (K.dep 0 12 rfl) (ob_cell_at (Ob.below m1 K.grow) (([.int .i64 0, .int .i64 ((n : Nat) : Int)] : List Value) ++ ((old).map V ++ ((rt).map V))) (([] : List Value)) _ 66 (by simp) (by simp [hold, hrt]))
  · exact st_lenc (.tmp 13) rfl ((P).length) rfl (fk_val (K.dep 1 13 rfl) (Fk.mono _ _ _ _ hv (bl.trans (Below.mono K.grow bl.size))))
  · exact st_gtr 3 (.tmp 14) (.const (.int .i64 80)) rfl .i64 ((((P).length : Nat) : Int)) (80) (K.dep 2 14 rfl) rfl _ (by rw [eq_comm, decide_eq_false_iff_not]; omega)
  · exact st_move (.tmp 15) rfl (K.dep 3 15 rfl)
  · exact st_field 38 1 (.tmp 1) rfl ((K.old 1 rfl).trans x1) (by kernel_rfl)
  · exact st_loadc 3 (.tmp 17) rfl (by kernel_rfl) (K.dep 5 17 rfl) (ob_cell_at (Ob.below m1 K.grow) (([.int .i64 0] : List Value)) ((old).map V ++ ((rt).map V ++ (([.slice pA (P).length pC] : List Value)))) _ 1 (by simp) (by rfl))
  · exact st_gtr 3 (.tmp 18) (.const (.int .i64 1152921504606846976)) rfl .i64 (((n : Nat) : Int)) (1152921504606846976) (K.dep 6 18 rfl) rfl _ (by rw [eq_comm, decide_eq_false_iff_not]; omega)
  · exact st_pick_f' (.tmp 16) (.const (.bool true)) (.tmp 19) rfl (K.dep 4 16 rfl) (K.dep 7 19 rfl)
  intro f4 w4 A hb
  replace bl0 := bl
  replace x1 := (A.old 1 rfl).trans x1
  replace x2 := (A.old 2 rfl).trans x2
  have x20 : f4.eval (.tmp 20) = .bool false := A.has 8 20 rfl
  have lt_m1 := Ob.lt m1
  replace m1 := Ob.below m1 hb
  replace bl := (bl.trans (Below.mono hb bl.size))
  replace sz := A.size.trans sz
  replace df := A.defs.trans df
  clear A hb
  show Code.wp _ _ _ _ _
  refine wp_cond_false x20 ?_
  refine wp_skip ?_
  show Code.wp _ _ _ _ _
  refine wp_seq ?_
  refine wp_region_seq [.eq (.pointer (some ⟨g1, 0, none⟩)), .eq (.int .i64 0), .eq (.pointer (some ⟨g1, 1, none⟩)), .eq (.int .i64 ((n : Nat) : Int)), .eq (.pointer (some ⟨g1, 2, none⟩)), .eq (.agg ((old).map V).toArray), .eq (.pointer (some ⟨g1, 66, none⟩)), .eq (.slice pA (P).length pC), .eq (.tuple #[.agg ((old).map V).toArray, .agg ((old).map V).toArray, .int .i64 0]), .eq (.tuple #[.agg ((old).map V).toArray, .agg ((old).map V).toArray, .int .i64 0]), .eq (.agg ((old).map V).toArray), .eq (.agg ((old).map V).toArray), .eq (.int .i64 0)] (by kernel_rfl) (by kernel_rfl) (by rw [sz]; kernel_rfl) (by kernel_rfl) ⟨fun hw ac u K => ?_, fun hw ac u K => ?_, fun hw ac u K => ?_, fun hw ac u K => ?_, fun hw ac u K => ?_, fun hw ac u K => ?_, fun hw ac u K => ?_, fun hw ac u K => ?_, fun hw ac u K => ?_, fun hw ac u K => ?_, fun hw ac u K => ?_, fun hw ac u K => ?_, fun hw ac u K => ?_, trivial⟩ ?_
  · exact st_field 38 0 (.tmp 1) rfl ((K.old 1 rfl).trans x1) (by kernel_rfl)
  · exact st_loadc 3 (.tmp 23) rfl (by kernel_rfl) (K.dep 0 23 rfl) (ob_cell_at (Ob.below m1 K.grow) (([] : List Value)) (([.int .i64 ((n : Nat) : Int)] : List Value) ++ ((old).map V ++ ((rt).map V ++ (([.slice pA (P).length pC] : List Value))))) _ 0 (by simp) (by rfl))
  · exact st_field 38 1 (.tmp 1) rfl ((K.old 1 rfl).trans x1) (by kernel_rfl)
  · exact st_loadc 3 (.tmp 25) rfl (by kernel_rfl) (K.dep 2 25 rfl) (ob_cell_at (Ob.below m1 K.grow) (([.int .i64 0] : List Value)) ((old).map V ++ ((rt).map V ++ (([.slice pA (P).length pC] : List Value)))) _ 1 (by simp) (by rfl))
  · exact st_field 38 2 (.tmp 1) rfl ((K.old 1 rfl).trans x1) (by kernel_rfl)
  · exact st_loadz 23 (.tmp 27) rfl (g1) 2 ((old).map V) (by kernel_rfl) (by rw [List.length_map, hold]; kernel_rfl) (K.dep 4 27 rfl) (ob_range_at (Ob.below m1 K.grow) (([.int .i64 0, .int .i64 ((n : Nat) : Int)] : List Value)) ((rt).map V ++ (([.slice pA (P).length pC] : List Value))) _ 2 (by simp) (by rfl))
  · exact st_field 38 4 (.tmp 1) rfl ((K.old 1 rfl).trans x1) (by kernel_rfl)
  · exact st_loadc 24 (.tmp 29) rfl (by kernel_rfl) (K.dep 6 29 rfl) (ob_cell_at (Ob.below m1 K.grow) (([.int .i64 0, .int .i64 ((n : Nat) : Int)] : List Value) ++ ((old).map V ++ ((rt).map V))) (([] : List Value)) _ 66 (by simp) (by simp [hold, hrt]))
  · exact st_call 14 (.func 14) _ _ #[.int .i64 0, .int .i64 ((n : Nat) : Int), .agg ((old).map V).toArray, .slice pA (P).length pC] rfl rfl (arg4 (K.dep 1 24 rfl) (K.dep 3 26 rfl) (K.dep 5 28 rfl) (K.dep 7 30 rfl)) Tryd.enter14 (fk_both_zero hold hn (Fk.mono _ _ _ _ hv (bl.trans (Below.mono K.grow bl.size))) (by omega) (hK.below (bl.trans (Below.mono K.grow bl.size))) hP0)
  · exact st_move (.tmp 31) rfl (K.dep 8 31 rfl)
  · exact st_tri0 (.tmp 22) rfl (K.dep 9 22 rfl)
  · exact st_tri1 (.tmp 22) rfl (K.dep 9 22 rfl)
  · exact st_tri2 (.tmp 22) rfl (K.dep 9 22 rfl)
  intro f5 w5 A hb
  replace bl0 := bl
  replace x1 := (A.old 1 rfl).trans x1
  replace x2 := (A.old 2 rfl).trans x2
  replace x20 := (A.old 20 rfl).trans x20
  have x32 : f5.eval (.tmp 32) = .agg ((old).map V).toArray := A.has 10 32 rfl
  have x33 : f5.eval (.tmp 33) = .agg ((old).map V).toArray := A.has 11 33 rfl
  have x34 : f5.eval (.tmp 34) = .int .i64 0 := A.has 12 34 rfl
  have lt_m1 := Ob.lt m1
  replace m1 := Ob.below m1 hb
  replace bl := (bl.trans (Below.mono hb bl.size))
  replace sz := A.size.trans sz
  replace df := A.defs.trans df
  clear A hb
  refine wl_one (.nw w5.heap.size 23 ((hz).map V)) rfl 3 rfl (by rw [sz]; decide) (st_alloc23 rfl _ (Nat.le_refl _)) ?_
  intro f6 w6 df2 sz2 old2 new2 hb
  replace bl0 := bl
  replace x1 := (old2 1 rfl).trans x1
  replace x2 := (old2 2 rfl).trans x2
  replace x20 := (old2 20 rfl).trans x20
  replace x32 := (old2 32 rfl).trans x32
  replace x33 := (old2 33 rfl).trans x33
  replace x34 := (old2 34 rfl).trans x34
  have x3 : Fk.f (.nw w5.heap.size 23 ((hz).map V)) (f6.eval (.tmp 3)) w6 := new2
  have lt_m1 := Ob.lt m1
  replace m1 := Ob.below m1 hb
  replace bl := (bl.trans (Below.mono hb bl.size))
  replace sz := sz2.trans sz
  replace df := df2.trans df
  clear df2 sz2 old2 new2 hb
  obtain ⟨g3, hg3, e3, m3⟩ := x3
  have x3 := e3
  clear e3
  have nm1_3 : g1 ≠ g3 := Nat.ne_of_lt (Nat.lt_of_lt_of_le lt_m1 hg3)
  have hw3 : w.heap.size ≤ g3 := Nat.le_trans bl0.size hg3
  refine wl_one (.nw w6.heap.size 23 ((hz).map V)) rfl 4 rfl (by rw [sz]; decide) (st_alloc23 rfl _ (Nat.le_refl _)) ?_
  intro f7 w7 df2 sz2 old2 new2 hb
  replace bl0 := bl
  replace x1 := (old2 1 rfl).trans x1
  replace x2 := (old2 2 rfl).trans x2
  replace x20 := (old2 20 rfl).trans x20
  replace x32 := (old2 32 rfl).trans x32
  replace x33 := (old2 33 rfl).trans x33
  replace x34 := (old2 34 rfl).trans x34
  replace x3 := (old2 3 rfl).trans x3
  have x4 : Fk.f (.nw w6.heap.size 23 ((hz).map V)) (f7.eval (.tmp 4)) w7 := new2
  have lt_m1 := Ob.lt m1
  replace m1 := Ob.below m1 hb
  have lt_m3 := Ob.lt m3
  replace m3 := Ob.below m3 hb
  replace bl := (bl.trans (Below.mono hb bl.size))
  replace sz := sz2.trans sz
  replace df := df2.trans df
  clear df2 sz2 old2 new2 hb
  obtain ⟨g4, hg4, e4, m4⟩ := x4
  have x4 := e4
  clear e4
  have nm1_4 : g1 ≠ g4 := Nat.ne_of_lt (Nat.lt_of_lt_of_le lt_m1 hg4)
  have nm3_4 : g3 ≠ g4 := Nat.ne_of_lt (Nat.lt_of_lt_of_le lt_m3 hg4)
  have hw4 : w.heap.size ≤ g4 := Nat.le_trans bl0.size hg4
  refine wl_store rfl (.tmp 3) (.tmp 32) rfl rfl (g3) (old) (hz) x3 x32 m3 hz_len hold ?_
  replace m1 : Ob (w7.setRow g3 ((old).map V : List Value).toArray) (g1) 38 (([.int .i64 0, .int .i64 ((n : Nat) : Int)] : List Value) ++ ((old).map V ++ ((rt).map V ++ (([.slice pA (P).length pC] : List Value))))) := Ob.setRow_other m1 _ nm1_3
  replace m3 : Ob (w7.setRow g3 ((old).map V : List Value).toArray) (g3) 23 ((old).map V) := Ob.setRow m3 ((old).map V)
  replace m4 : Ob (w7.setRow g3 ((old).map V : List Value).toArray) (g4) 23 ((hz).map V) := Ob.setRow_other m4 _ nm3_4.symm
  replace bl : Below w.heap.size w (w7.setRow g3 ((old).map V : List Value).toArray) := bl.trans (below_setRow _ _ _ _ hw3)
  generalize w7.setRow g3 ((old).map V : List Value).toArray = w8b at bl m1 m3 m4 ⊢
  clear x32
  refine wl_store rfl (.tmp 4) (.tmp 33) rfl rfl (g4) (old) (hz) x4 x33 m4 hz_len hold ?_
  replace m1 : Ob (w8b.setRow g4 ((old).map V : List Value).toArray) (g1) 38 (([.int .i64 0, .int .i64 ((n : Nat) : Int)] : List Value) ++ ((old).map V ++ ((rt).map V ++ (([.slice pA (P).length pC] : List Value))))) := Ob.setRow_other m1 _ nm1_4
  replace m3 : Ob (w8b.setRow g4 ((old).map V : List Value).toArray) (g3) 23 ((old).map V) := Ob.setRow_other m3 _ nm3_4
  replace m4 : Ob (w8b.setRow g4 ((old).map V : List Value).toArray) (g4) 23 ((old).map V) := Ob.setRow m4 ((old).map V)
  replace bl : Below w.heap.size w (w8b.setRow g4 ((old).map V : List Value).toArray) := bl.trans (below_setRow _ _ _ _ hw4)
  generalize w8b.setRow g4 ((old).map V : List Value).toArray = w9b at bl m1 m3 m4 ⊢
  clear x33
  refine wl_one (.eq (.int .i64 0)) rfl 5 rfl (by rw [sz]; decide) (st_assign (.tmp 34) rfl x34) ?_
  intro f10 w10 df2 sz2 old2 new2 hb
  replace bl0 := bl
  replace x1 := (old2 1 rfl).trans x1
  replace x2 := (old2 2 rfl).trans x2
  replace x20 := (old2 20 rfl).trans x20
  replace x34 := (old2 34 rfl).trans x34
  replace x3 := (old2 3 rfl).trans x3
  replace x4 := (old2 4 rfl).trans x4
  have x5 : f10.eval (.tmp 5) = .int .i64 0 := new2
  have lt_m1 := Ob.lt m1
  replace m1 := Ob.below m1 hb
  have lt_m3 := Ob.lt m3
  replace m3 := Ob.below m3 hb
  have lt_m4 := Ob.lt m4
  replace m4 := Ob.below m4 hb
  replace bl := (bl.trans (Below.mono hb bl.size))
  replace sz := sz2.trans sz
  replace df := df2.trans df
  clear df2 sz2 old2 new2 hb
  refine wpList_nil ?_
  clear x34
  show Code.wp _ _ _ _ _
  refine wp_seq ?_
  refine wp_all_seq [.eq (.pointer (some ⟨g1, 0, none⟩)), .eq (.int .i64 0), .eq (.pointer (some ⟨g1, 1, none⟩)), .eq (.int .i64 ((n : Nat) : Int)), .eq (.pointer (some ⟨g1, 2, none⟩)), .eq (.agg ((old).map V).toArray), .eq (.pointer (some ⟨g1, 34, none⟩)), .eq (.agg ((rt).map V).toArray), .eq (.pointer (some ⟨g1, 66, none⟩)), .eq (.slice pA (P).length pC), .eq (.int .i64 0), .eq (.int .i64 0)] (by kernel_rfl) (by kernel_rfl) (by rw [sz]; kernel_rfl) (by kernel_rfl) ⟨fun hw ac u K => ?_, fun hw ac u K => ?_, fun hw ac u K => ?_, fun hw ac u K => ?_, fun hw ac u K => ?_, fun hw ac u K => ?_, fun hw ac u K => ?_, fun hw ac u K => ?_, fun hw ac u K => ?_, fun hw ac u K => ?_, fun hw ac u K => ?_, fun hw ac u K => ?_, trivial⟩ ?_
  · exact st_field 38 0 (.tmp 1) rfl ((K.old 1 rfl).trans x1) (by kernel_rfl)
  · exact st_loadc 3 (.tmp 35) rfl (by kernel_rfl) (K.dep 0 35 rfl) (ob_cell_at (Ob.below m1 K.grow) (([] : List Value)) (([.int .i64 ((n : Nat) : Int)] : List Value) ++ ((old).map V ++ ((rt).map V ++ (([.slice pA (P).length pC] : List Value))))) _ 0 (by simp) (by rfl))
  · exact st_field 38 1 (.tmp 1) rfl ((K.old 1 rfl).trans x1) (by kernel_rfl)
  · exact st_loadc 3 (.tmp 37) rfl (by kernel_rfl) (K.dep 2 37 rfl) (ob_cell_at (Ob.below m1 K.grow) (([.int .i64 0] : List Value)) ((old).map V ++ ((rt).map V ++ (([.slice pA (P).length pC] : List Value)))) _ 1 (by simp) (by rfl))
  · exact st_field 38 2 (.tmp 1) rfl ((K.old 1 rfl).trans x1) (by kernel_rfl)
  · exact st_loadz 23 (.tmp 39) rfl (g1) 2 ((old).map V) (by kernel_rfl) (by rw [List.length_map, hold]; kernel_rfl) (K.dep 4 39 rfl) (ob_range_at (Ob.below m1 K.grow) (([.int .i64 0, .int .i64 ((n : Nat) : Int)] : List Value)) ((rt).map V ++ (([.slice pA (P).length pC] : List Value))) _ 2 (by simp) (by rfl))
  · exact st_field 38 3 (.tmp 1) rfl ((K.old 1 rfl).trans x1) (by kernel_rfl)
  · exact st_loadz 23 (.tmp 41) rfl (g1) 34 ((rt).map V) (by kernel_rfl) (by rw [List.length_map, hrt]; kernel_rfl) (K.dep 6 41 rfl) (ob_range_at (Ob.below m1 K.grow) (([.int .i64 0, .int .i64 ((n : Nat) : Int)] : List Value) ++ ((old).map V)) (([.slice pA (P).length pC] : List Value)) _ 34 (by simp) (by simp [hold]))
  · exact st_field 38 4 (.tmp 1) rfl ((K.old 1 rfl).trans x1) (by kernel_rfl)
  · exact st_loadc 24 (.tmp 43) rfl (by kernel_rfl) (K.dep 8 43 rfl) (ob_cell_at (Ob.below m1 K.grow) (([.int .i64 0, .int .i64 ((n : Nat) : Int)] : List Value) ++ ((old).map V ++ ((rt).map V))) (([] : List Value)) _ 66 (by simp) (by simp [hold, hrt]))
  · exact st_call 15 (.func 15) _ _ #[.int .i64 0, .int .i64 ((n : Nat) : Int), .agg ((old).map V).toArray, .agg ((rt).map V).toArray, .slice pA (P).length pC] rfl rfl (arg5 (K.dep 1 36 rfl) (K.dep 3 38 rfl) (K.dep 5 40 rfl) (K.dep 7 42 rfl) (K.dep 9 44 rfl)) Tryd.enter15 (fk_on_zero hold hrt hn (Fk.mono _ _ _ _ hv (bl.trans (Below.mono K.grow bl.size))) (by omega) (hK.below (bl.trans (Below.mono K.grow bl.size))) 0 (by rw [if_pos ⟨ho, hP0, .inr hro⟩]))
  · exact st_assign (.tmp 45) rfl (K.dep 10 45 rfl)
  intro f11 w11 A hb
  replace bl0 := bl
  replace x1 := (A.old 1 rfl).trans x1
  replace x2 := (A.old 2 rfl).trans x2
  replace x20 := (A.old 20 rfl).trans x20
  replace x3 := (A.old 3 rfl).trans x3
  replace x4 := (A.old 4 rfl).trans x4
  replace x5 := (A.old 5 rfl).trans x5
  have x6 : f11.eval (.tmp 6) = .int .i64 0 := A.has 11 6 rfl
  have lt_m1 := Ob.lt m1
  replace m1 := Ob.below m1 hb
  have lt_m3 := Ob.lt m3
  replace m3 := Ob.below m3 hb
  have lt_m4 := Ob.lt m4
  replace m4 := Ob.below m4 hb
  replace bl := (bl.trans (Below.mono hb bl.size))
  replace sz := A.size.trans sz
  replace df := A.defs.trans df
  clear A hb
  show Code.wp _ _ _ _ _
  refine wp_seq ?_
  refine wp_seq ?_
  refine wp_all_seq [.eq (.pointer (some ⟨g1, 0, none⟩)), .eq (.int .i64 0), .eq (.bool false), .eq (.bool false), .eq (.pointer (some ⟨g1, 0, none⟩)), .eq (.int .i64 0), .eq (.pointer (some ⟨g1, 1, none⟩)), .eq (.int .i64 ((n : Nat) : Int)), .eq (.bool false), .eq (.bool false)] (by kernel_rfl) (by kernel_rfl) (by rw [sz]; kernel_rfl) (by kernel_rfl) ⟨fun hw ac u K => ?_, fun hw ac u K => ?_, fun hw ac u K => ?_, fun hw ac u K => ?_, fun hw ac u K => ?_, fun hw ac u K => ?_, fun hw ac u K => ?_, fun hw ac u K => ?_, fun hw ac u K => ?_, fun hw ac u K => ?_, trivial⟩ ?_
  · exact st_field 38 0 (.tmp 1) rfl ((K.old 1 rfl).trans x1) (by kernel_rfl)
  · exact st_loadc 3 (.tmp 46) rfl (by kernel_rfl) (K.dep 0 46 rfl) (ob_cell_at (Ob.below m1 K.grow) (([] : List Value)) (([.int .i64 ((n : Nat) : Int)] : List Value) ++ ((old).map V ++ ((rt).map V ++ (([.slice pA (P).length pC] : List Value))))) _ 0 (by simp) (by rfl))
  · exact st_lss 3 (.tmp 47) (.const (.int .i64 0)) rfl .i64 (0) (0) (K.dep 1 47 rfl) rfl _ (by rw [eq_comm, decide_eq_false_iff_not]; omega)
  · exact st_move (.tmp 48) rfl (K.dep 2 48 rfl)
  · exact st_field 38 0 (.tmp 1) rfl ((K.old 1 rfl).trans x1) (by kernel_rfl)
  · exact st_loadc 3 (.tmp 50) rfl (by kernel_rfl) (K.dep 4 50 rfl) (ob_cell_at (Ob.below m1 K.grow) (([] : List Value)) (([.int .i64 ((n : Nat) : Int)] : List Value) ++ ((old).map V ++ ((rt).map V ++ (([.slice pA (P).length pC] : List Value))))) _ 0 (by simp) (by rfl))
  · exact st_field 38 1 (.tmp 1) rfl ((K.old 1 rfl).trans x1) (by kernel_rfl)
  · exact st_loadc 3 (.tmp 52) rfl (by kernel_rfl) (K.dep 6 52 rfl) (ob_cell_at (Ob.below m1 K.grow) (([.int .i64 0] : List Value)) ((old).map V ++ ((rt).map V ++ (([.slice pA (P).length pC] : List Value)))) _ 1 (by simp) (by rfl))
  · exact st_gtr 3 (.tmp 51) (.tmp 53) rfl .i64 (0) (((n : Nat) : Int)) (K.dep 5 51 rfl) (K.dep 7 53 rfl) _ (by rw [eq_comm, decide_eq_false_iff_not]; omega)
  · exact st_pick_f' (.tmp 49) (.const (.bool true)) (.tmp 54) rfl (K.dep 3 49 rfl) (K.dep 8 54 rfl)
  intro f12 w12 A hb
  replace bl0 := bl
  replace x1 := (A.old 1 rfl).trans x1
  replace x2 := (A.old 2 rfl).trans x2
  replace x20 := (A.old 20 rfl).trans x20
  replace x3 := (A.old 3 rfl).trans x3
  replace x4 := (A.old 4 rfl).trans x4
  replace x5 := (A.old 5 rfl).trans x5
  replace x6 := (A.old 6 rfl).trans x6
  have x55 : f12.eval (.tmp 55) = .bool false := A.has 9 55 rfl
  have lt_m1 := Ob.lt m1
  replace m1 := Ob.below m1 hb
  have lt_m3 := Ob.lt m3
  replace m3 := Ob.below m3 hb
  have lt_m4 := Ob.lt m4
  replace m4 := Ob.below m4 hb
  replace bl := (bl.trans (Below.mono hb bl.size))
  replace sz := A.size.trans sz
  replace df := A.defs.trans df
  clear A hb
  show Code.wp _ _ _ _ _
  refine wp_cond_false x55 ?_
  refine wp_skip ?_
  show Code.wp _ _ _ _ _
  refine wp_seq ?_
  refine wp_seq ?_
  refine wp_all_seq [.eq (.pointer (some ⟨g1, 0, none⟩)), .eq (.int .i64 0), .eq (.bool true)] (by kernel_rfl) (by kernel_rfl) (by rw [sz]; kernel_rfl) (by kernel_rfl) ⟨fun hw ac u K => ?_, fun hw ac u K => ?_, fun hw ac u K => ?_, trivial⟩ ?_
  · exact st_field 38 0 (.tmp 1) rfl ((K.old 1 rfl).trans x1) (by kernel_rfl)
  · exact st_loadc 3 (.tmp 75) rfl (by kernel_rfl) (K.dep 0 75 rfl) (ob_cell_at (Ob.below m1 K.grow) (([] : List Value)) (([.int .i64 ((n : Nat) : Int)] : List Value) ++ ((old).map V ++ ((rt).map V ++ (([.slice pA (P).length pC] : List Value))))) _ 0 (by simp) (by rfl))
  · exact st_eqi 3 (.tmp 76) (.const (.int .i64 0)) rfl .i64 (0) (0) (K.dep 1 76 rfl) rfl _ (by simp)
  intro f13 w13 A hb
  replace bl0 := bl
  replace x1 := (A.old 1 rfl).trans x1
  replace x2 := (A.old 2 rfl).trans x2
  replace x20 := (A.old 20 rfl).trans x20
  replace x3 := (A.old 3 rfl).trans x3
  replace x4 := (A.old 4 rfl).trans x4
  replace x5 := (A.old 5 rfl).trans x5
  replace x6 := (A.old 6 rfl).trans x6
  replace x55 := (A.old 55 rfl).trans x55
  have x77 : f13.eval (.tmp 77) = .bool true := A.has 2 77 rfl
  have lt_m1 := Ob.lt m1
  replace m1 := Ob.below m1 hb
  have lt_m3 := Ob.lt m3
  replace m3 := Ob.below m3 hb
  have lt_m4 := Ob.lt m4
  replace m4 := Ob.below m4 hb
  replace bl := (bl.trans (Below.mono hb bl.size))
  replace sz := A.size.trans sz
  replace df := A.defs.trans df
  clear A hb
  show Code.wp _ _ _ _ _
  refine wp_cond_true x77 ?_
  refine wp_seq ?_
  refine wp_seq ?_
  refine wp_all_seq [.eq (.pointer (some ⟨g1, 66, none⟩)), .eq (.slice pA (P).length pC), .eq (.int .i64 (((P).length : Nat) : Int)), .eq (.bool false)] (by kernel_rfl) (by kernel_rfl) (by rw [sz]; kernel_rfl) (by kernel_rfl) ⟨fun hw ac u K => ?_, fun hw ac u K => ?_, fun hw ac u K => ?_, fun hw ac u K => ?_, trivial⟩ ?_
  · exact st_field 38 4 (.tmp 1) rfl ((K.old 1 rfl).trans x1) (by kernel_rfl)
  · exact st_loadc 24 (.tmp 78) rfl (by kernel_rfl) (K.dep 0 78 rfl) (ob_cell_at (Ob.below m1 K.grow) (([.int .i64 0, .int .i64 ((n : Nat) : Int)] : List Value) ++ ((old).map V ++ ((rt).map V))) (([] : List Value)) _ 66 (by simp) (by simp [hold, hrt]))
  · exact st_lenc (.tmp 79) rfl ((P).length) rfl (fk_val (K.dep 1 79 rfl) (Fk.mono _ _ _ _ hv (bl.trans (Below.mono K.grow bl.size))))
  · exact st_gtr 3 (.tmp 80) (.const (.int .i64 0)) rfl .i64 ((((P).length : Nat) : Int)) (0) (K.dep 2 80 rfl) rfl _ (by rw [eq_comm, decide_eq_false_iff_not]; omega)
  intro f14 w14 A hb
  replace bl0 := bl
  replace x1 := (A.old 1 rfl).trans x1
  replace x2 := (A.old 2 rfl).trans x2
  replace x20 := (A.old 20 rfl).trans x20
  replace x3 := (A.old 3 rfl).trans x3
  replace x4 := (A.old 4 rfl).trans x4
  replace x5 := (A.old 5 rfl).trans x5
  replace x6 := (A.old 6 rfl).trans x6
  replace x55 := (A.old 55 rfl).trans x55
  replace x77 := (A.old 77 rfl).trans x77
  have x81 : f14.eval (.tmp 81) = .bool false := A.has 3 81 rfl
  have lt_m1 := Ob.lt m1
  replace m1 := Ob.below m1 hb
  have lt_m3 := Ob.lt m3
  replace m3 := Ob.below m3 hb
  have lt_m4 := Ob.lt m4
  replace m4 := Ob.below m4 hb
  replace bl := (bl.trans (Below.mono hb bl.size))
  replace sz := A.size.trans sz
  replace df := A.defs.trans df
  clear A hb
  show Code.wp _ _ _ _ _
  refine wp_cond_false x81 ?_
  refine wp_skip ?_
  show Code.wp _ _ _ _ _
  refine wp_seq ?_
  refine wp_all [.eq (.pointer (some ⟨g1, 2, none⟩)), .eq (.agg ((old).map V).toArray), .eq (.agg ((o0).map V).toArray), .eq (.bool true), .eq (.bool true), .eq (.pointer (some ⟨g1, 1, none⟩)), .eq (.int .i64 ((n : Nat) : Int)), .eq (.bool false), .eq (.bool false), .eq (.pointer (some ⟨g1, 34, none⟩)), .eq (.agg ((rt).map V).toArray), .eq (.pointer (some ⟨g1, 2, none⟩)), .eq (.agg ((old).map V).toArray), .eq (.bool true), .eq (.bool true), .eq (.bool true), .eq (.bool true)] Tryd.mixed (by kernel_rfl) (by kernel_rfl) (by rw [sz]; kernel_rfl) (by kernel_rfl) ⟨fun hw ac u K => ?_, fun hw ac u K => ?_, fun hw ac u K => ?_, fun hw ac u K => ?_, fun hw ac u K => ?_, fun hw ac u K => ?_, fun hw ac u K => ?_, fun hw ac u K => ?_, fun hw ac u K => ?_, fun hw ac u K => ?_, fun hw ac u K => ?_, fun hw ac u K => ?_, fun hw ac u K => ?_, fun hw ac u K => ?_, fun hw ac u K => ?_, fun hw ac u K => ?_, fun hw ac u K => ?_, trivial⟩ ?_
  · exact st_field 38 2 (.tmp 1) rfl ((K.old 1 rfl).trans x1) (by kernel_rfl)
  · exact st_loadz 23 (.tmp 91) rfl (g1) 2 ((old).map V) (by kernel_rfl) (by rw [List.length_map, hold]; kernel_rfl) (K.dep 0 91 rfl) (ob_range_at (Ob.below m1 K.grow) (([.int .i64 0, .int .i64 ((n : Nat) : Int)] : List Value)) ((rt).map V ++ (([.slice pA (P).length pC] : List Value))) _ 2 (by simp) (by rfl))
  · exact st_call 16 (.func 16) _ _ #[.slice none 0 0] rfl rfl (one_arg rfl) Tryd.enter16 (by rw [← eo]; exact fk_sum (by simp) (hK.below (bl.trans (Below.mono K.grow bl.size))) (Fk.mono _ _ _ _ hnil (bl.trans (Below.mono K.grow bl.size))))
  · exact st_eqh (.tmp 92) (.tmp 93) rfl (old) (o0) hold ho0 (K.dep 1 92 rfl) (K.dep 2 93 rfl) _ (by simp [ho, eo])
  · exact st_move (.tmp 94) rfl (K.dep 3 94 rfl)
  · exact st_field 38 1 (.tmp 1) rfl ((K.old 1 rfl).trans x1) (by kernel_rfl)
  · exact st_loadc 3 (.tmp 96) rfl (by kernel_rfl) (K.dep 5 96 rfl) (ob_cell_at (Ob.below m1 K.grow) (([.int .i64 0] : List Value)) ((old).map V ++ ((rt).map V ++ (([.slice pA (P).length pC] : List Value)))) _ 1 (by simp) (by rfl))
  · exact st_gtr 3 (.tmp 97) (.const (.int .i64 0)) rfl .i64 (((n : Nat) : Int)) (0) (K.dep 6 97 rfl) rfl _ (by rw [eq_comm, decide_eq_false_iff_not]; omega)
  · exact st_move (.tmp 98) rfl (K.dep 7 98 rfl)
  · exact st_field 38 3 (.tmp 1) rfl ((K.old 1 rfl).trans x1) (by kernel_rfl)
  · exact st_loadz 23 (.tmp 100) rfl (g1) 34 ((rt).map V) (by kernel_rfl) (by rw [List.length_map, hrt]; kernel_rfl) (K.dep 9 100 rfl) (ob_range_at (Ob.below m1 K.grow) (([.int .i64 0, .int .i64 ((n : Nat) : Int)] : List Value) ++ ((old).map V)) (([.slice pA (P).length pC] : List Value)) _ 34 (by simp) (by simp [hold]))
  · exact st_field 38 2 (.tmp 1) rfl ((K.old 1 rfl).trans x1) (by kernel_rfl)
  · exact st_loadz 23 (.tmp 102) rfl (g1) 2 ((old).map V) (by kernel_rfl) (by rw [List.length_map, hold]; kernel_rfl) (K.dep 11 102 rfl) (ob_range_at (Ob.below m1 K.grow) (([.int .i64 0, .int .i64 ((n : Nat) : Int)] : List Value)) ((rt).map V ++ (([.slice pA (P).length pC] : List Value))) _ 2 (by simp) (by rfl))
  · exact st_eqh (.tmp 101) (.tmp 103) rfl (rt) (old) hrt hold (K.dep 10 101 rfl) (K.dep 12 103 rfl) _ (by simp [hro])
  · exact st_pick_f' (.tmp 99) (.const (.bool true)) (.tmp 104) rfl (K.dep 8 99 rfl) (K.dep 13 104 rfl)
  · exact st_pick_t (.tmp 95) (.tmp 105) (.const (.bool false)) rfl (K.dep 4 95 rfl) (K.dep 14 105 rfl)
  · exact st_assign (.tmp 106) rfl (K.dep 15 106 rfl)
  intro f15 w15 A hb
  replace bl0 := bl
  replace x1 := (A.old 1 rfl).trans x1
  replace x2 := (A.old 2 rfl).trans x2
  replace x20 := (A.old 20 rfl).trans x20
  replace x3 := (A.old 3 rfl).trans x3
  replace x4 := (A.old 4 rfl).trans x4
  replace x5 := (A.old 5 rfl).trans x5
  replace x6 := (A.old 6 rfl).trans x6
  replace x55 := (A.old 55 rfl).trans x55
  replace x77 := (A.old 77 rfl).trans x77
  replace x81 := (A.old 81 rfl).trans x81
  have x7 : f15.eval (.tmp 7) = .bool true := A.has 16 7 rfl
  have lt_m1 := Ob.lt m1
  replace m1 := Ob.below m1 hb
  have lt_m3 := Ob.lt m3
  replace m3 := Ob.below m3 hb
  have lt_m4 := Ob.lt m4
  replace m4 := Ob.below m4 hb
  replace bl := (bl.trans (Below.mono hb bl.size))
  replace sz := A.size.trans sz
  replace df := A.defs.trans df
  clear A hb
  show Code.wp _ _ _ _ _
  refine wp_seq ?_
  refine wp_all_seq [.eq (.int .i64 0), .eq (.bool true), .eq (.bool true), .eq (.agg ((old).map V).toArray), .eq (.pointer (some ⟨g1, 2, none⟩)), .eq (.agg ((old).map V).toArray), .eq (.bool true), .eq (.bool true), .eq (.bool true), .eq (.agg ((old).map V).toArray), .eq (.pointer (some ⟨g1, 2, none⟩)), .eq (.agg ((old).map V).toArray), .eq (.bool true), .eq (.bool true), .eq (.bool true), .eq (.int .i64 0), .eq (.bool true), .eq (.bool true), .eq (.bool true), .eq (.bool true), .eq (.bool true), .eq (.bool true), .eq (.bool true), .any, .any, .eq (.bool true), .eq (.bool true), .eq (.bool true), .eq (.bool true), .eq (.bool true), .eq (.bool true)] (by kernel_rfl) (by kernel_rfl) (by rw [sz]; kernel_rfl) (by kernel_rfl) ⟨fun hw ac u K => ?_, fun hw ac u K => ?_, fun hw ac u K => ?_, fun hw ac u K => ?_, fun hw ac u K => ?_, fun hw ac u K => ?_, fun hw ac u K => ?_, fun hw ac u K => ?_, fun hw ac u K => ?_, fun hw ac u K => ?_, fun hw ac u K => ?_, fun hw ac u K => ?_, fun hw ac u K => ?_, fun hw ac u K => ?_, fun hw ac u K => ?_, fun hw ac u K => ?_, fun hw ac u K => ?_, fun hw ac u K => ?_, fun hw ac u K => ?_, fun hw ac u K => ?_, fun hw ac u K => ?_, fun hw ac u K => ?_, fun hw ac u K => ?_, fun hw ac u K => ?_, fun hw ac u K => ?_, fun hw ac u K => ?_, fun hw ac u K => ?_, fun hw ac u K => ?_, fun hw ac u K => ?_, fun hw ac u K => ?_, fun hw ac u K => ?_, trivial⟩ ?_
  · exact st_move (.tmp 5) rfl ((K.old 5 rfl).trans x5)
  · exact st_eqi 28 (.tmp 107) (.const (.int .i64 0)) rfl .i64 (0) (0) (K.dep 0 107 rfl) rfl _ (by rfl)
  · exact st_move (.tmp 108) rfl (K.dep 1 108 rfl)
  · exact st_load23 (.tmp 3) rfl (g3) (old) ((K.old 3 rfl).trans x3) hold (Ob.below m3 K.grow)
  · exact st_field 38 2 (.tmp 1) rfl ((K.old 1 rfl).trans x1) (by kernel_rfl)
  · exact st_loadz 23 (.tmp 111) rfl (g1) 2 ((old).map V) (by kernel_rfl) (by rw [List.length_map, hold]; kernel_rfl) (K.dep 4 111 rfl) (ob_range_at (Ob.below m1 K.grow) (([.int .i64 0, .int .i64 ((n : Nat) : Int)] : List Value)) ((rt).map V ++ (([.slice pA (P).length pC] : List Value))) _ 2 (by simp) (by rfl))
  · exact st_eqh (.tmp 110) (.tmp 112) rfl (old) (old) hold hold (K.dep 3 110 rfl) (K.dep 5 112 rfl) _ (by simp)
  · exact st_pick_t (.tmp 109) (.tmp 113) (.const (.bool false)) rfl (K.dep 2 109 rfl) (K.dep 6 113 rfl)
  · exact st_move (.tmp 114) rfl (K.dep 7 114 rfl)
  · exact st_load23 (.tmp 4) rfl (g4) (old) ((K.old 4 rfl).trans x4) hold (Ob.below m4 K.grow)
  · exact st_field 38 2 (.tmp 1) rfl ((K.old 1 rfl).trans x1) (by kernel_rfl)
  · exact st_loadz 23 (.tmp 117) rfl (g1) 2 ((old).map V) (by kernel_rfl) (by rw [List.length_map, hold]; kernel_rfl) (K.dep 10 117 rfl) (ob_range_at (Ob.below m1 K.grow) (([.int .i64 0, .int .i64 ((n : Nat) : Int)] : List Value)) ((rt).map V ++ (([.slice pA (P).length pC] : List Value))) _ 2 (by simp) (by rfl))
  · exact st_eqh (.tmp 116) (.tmp 118) rfl (old) (old) hold hold (K.dep 9 116 rfl) (K.dep 11 118 rfl) _ (by simp)
  · exact st_pick_t (.tmp 115) (.tmp 119) (.const (.bool false)) rfl (K.dep 8 115 rfl) (K.dep 12 119 rfl)
  · exact st_move (.tmp 120) rfl (K.dep 13 120 rfl)
  · exact st_move (.tmp 6) rfl ((K.old 6 rfl).trans x6)
  · exact st_eqi 28 (.tmp 122) (.const (.int .i64 0)) rfl .i64 (0) (0) (K.dep 15 122 rfl) rfl _ (by rfl)
  · exact st_move (.tmp 7) rfl ((K.old 7 rfl).trans x7)
  · exact st_eqbb (.tmp 123) (.tmp 124) rfl _ _ (K.dep 16 123 rfl) (K.dep 17 124 rfl) true (by rfl)
  · exact st_pick_t (.tmp 121) (.tmp 125) (.const (.bool false)) rfl (K.dep 14 121 rfl) (K.dep 18 125 rfl)
  · exact st_move (.tmp 126) rfl (K.dep 19 126 rfl)
  · exact st_move (.tmp 7) rfl ((K.old 7 rfl).trans x7)
  · exact st_move (.tmp 128) rfl (K.dep 21 128 rfl)
  · exact (Bool.false_ne_true hw).elim
  · exact (Bool.false_ne_true hw).elim
  · exact st_pick_t (.tmp 129) (.const (.bool true)) (.tmp 131) rfl (K.dep 22 129 rfl) rfl
  · exact st_pick_t (.tmp 127) (.tmp 132) (.const (.bool false)) rfl (K.dep 20 127 rfl) (K.dep 25 132 rfl)
  · exact st_move (.tmp 133) rfl (K.dep 26 133 rfl)
  · exact st_call 8 (.func 8) _ _ #[] rfl rfl rfl Tryd.enter8 (fk_of (awake_any _ (hK.below (bl.trans (Below.mono K.grow bl.size)))))
  · exact st_pick_t (.tmp 134) (.tmp 135) (.const (.bool false)) rfl (K.dep 27 134 rfl) (K.dep 28 135 rfl)
  · exact st_assign (.tmp 136) rfl (K.dep 29 136 rfl)
  intro f16 w16 A hb
  replace bl0 := bl
  replace x1 := (A.old 1 rfl).trans x1
  clear x2
  replace x20 := (A.old 20 rfl).trans x20
  replace x3 := (A.old 3 rfl).trans x3
  replace x4 := (A.old 4 rfl).trans x4
  replace x5 := (A.old 5 rfl).trans x5
  replace x6 := (A.old 6 rfl).trans x6
  replace x55 := (A.old 55 rfl).trans x55
  replace x77 := (A.old 77 rfl).trans x77
  replace x81 := (A.old 81 rfl).trans x81
  replace x7 := (A.old 7 rfl).trans x7
  have x2 : f16.eval (.tmp 2) = .bool true := A.has 30 2 rfl
  have lt_m1 := Ob.lt m1
  replace m1 := Ob.below m1 hb
  have lt_m3 := Ob.lt m3
  replace m3 := Ob.below m3 hb
  have lt_m4 := Ob.lt m4
  replace m4 := Ob.below m4 hb
  replace bl := (bl.trans (Below.mono hb bl.size))
  replace sz := A.size.trans sz
  replace df := A.defs.trans df
  clear A hb
  clear x7
  show Code.wp _ _ _ _ _
  refine wp_ret ?_
  repeat (first | with_reducible refine then_ret ?_ | with_reducible refine block_ret ?_)
  exact bodyPost_ret (v := .bool true) (ret_slot rfl f16 _ x2 _ _) df ⟨rfl, bl⟩
theorem both_z3 {old rt : List (BitVec 8)} (hold : old.length = 32) (hrt : rt.length = 32) {P : List (List (BitVec 8))} {pA : Option Addr} {pC : Nat} (w : World) (hK : Tab w) (hv : (Fk.hc P).f (.slice pA (P).length pC) w) {n : Nat} (hn : n ≤ 1152921504606846976) (hP0 : P.length = 0) (ho : old = shaOf []) (hn0 : n = 0) (hro : ¬rt = old) :
    Calls Tryd.prog 4 #[.agg (([.int .i64 0, .int .i64 ((n : Nat) : Int)] : List Value) ++ ((old).map V ++ ((rt).map V ++ (([.slice pA (P).length pC] : List Value))))).toArray] w fun e w' => e = .returned (.bool true) ∧ Below w.heap.size w w' := by
  have hvs := hc_hs hv
  obtain ⟨o0, eo⟩ : ∃ o, shaOf [] = o := ⟨_, rfl⟩
  have ho0 : o0.length = 32 := by rw [← eo]; exact shaOf_len _
  have hnil := sl_nil w
  go_enter Tryd.func4, Tryd.ntmps4
  refine code_both (fun f w1 => f.tmps.size = 194 ∧ f.defers = [] ∧ f.eval (.tmp 0) = .agg (([.int .i64 0, .int .i64 ((n : Nat) : Int)] : List Value) ++ ((old).map V ++ ((rt).map V ++ (([.slice pA (P).length pC] : List Value))))).toArray ∧ Below w.heap.size w (w1)) ⟨rfl, rfl, rfl, Below.refl _ _⟩ ?_
  rintro f0 w0 ⟨sz, df, x0, bl⟩
  have bl0 := bl
  refine wp_seq ?_
  refine wp_region_seq [] (by kernel_rfl) (by kernel_rfl) (by rw [sz]; kernel_rfl) (by kernel_rfl) trivial ?_
  intro f1 w1 A hb
  replace bl0 := bl
  replace x0 := (A.old 0 rfl).trans x0
  replace bl := (bl.trans (Below.mono hb bl.size))
  replace sz := A.size.trans sz
  replace df := A.defs.trans df
  clear A hb
  refine wl_one (.nw w1.heap.size 38 (([.int .i64 0, .int .i64 ((n : Nat) : Int)] : List Value) ++ ((old).map V ++ ((rt).map V ++ (([.slice pA (P).length pC] : List Value)))))) rfl 1 rfl (by rw [sz]; decide) (st_box 38 (.tmp 0) rfl _ _ (by rw [show _ = _ from x0]; kernel_rfl) (Nat.le_refl _)) ?_
  intro f2 w2 df2 sz2 old2 new2 hb
  replace bl0 := bl
  replace x0 := (old2 0 rfl).trans x0
  have x1 : Fk.f (.nw w1.heap.size 38 (([.int .i64 0, .int .i64 ((n : Nat) : Int)] : List Value) ++ ((old).map V ++ ((rt).map V ++ (([.slice pA (P).length pC] : List Value)))))) (f2.eval (.tmp 1)) w2 := new2
  replace bl := (bl.trans (Below.mono hb bl.size))
  replace sz := sz2.trans sz
  replace df := df2.trans df
  clear df2 sz2 old2 new2 hb
  obtain ⟨g1, hg1, e1, m1⟩ := x1
  have x1 := e1
  clear e1
  have hw1 : w.heap.size ≤ g1 := Nat.le_trans bl0.size hg1
  clear x0
  refine wl_one (.eq (.bool false)) rfl 2 rfl (by rw [sz]; decide) (st_assign (.const (.bool false)) rfl rfl) ?_
  intro f3 w3 df2 sz2 old2 new2 hb
  replace bl0 := bl
  replace x1 := (old2 1 rfl).trans x1
  have x2 : f3.eval (.tmp 2) = .bool false := new2
  have lt_m1 := Ob.lt m1
  replace m1 := Ob.below m1 hb
  replace bl := (bl.trans (Below.mono hb bl.size))
  replace sz := sz2.trans sz
  replace df := df2.trans df
  clear df2 sz2 old2 new2 hb
  refine wpList_nil ?_
  show Code.wp _ _ _ _ _
  refine wp_seq ?_
  refine wp_seq ?_
  refine wp_all_seq [.eq (.pointer (some ⟨g1, 66, none⟩)), .eq (.slice pA (P).length pC), .eq (.int .i64 (((P).length : Nat) : Int)), .eq (.bool false), .eq (.bool false), .eq (.pointer (some ⟨g1, 1, none⟩)), .eq (.int .i64 ((n : Nat) : Int)), .eq (.bool false), .eq (.bool false)] (by kernel_rfl) (by kernel_rfl) (by rw [sz]; kernel_rfl) (by kernel_rfl) ⟨fun hw ac u K => ?_, fun hw ac u K => ?_, fun hw ac u K => ?_, fun hw ac u K => ?_, fun hw ac u K => ?_, fun hw ac u K => ?_, fun hw ac u K => ?_, fun hw ac u K => ?_, fun hw ac u K => ?_, trivial⟩ ?_
  · exact st_field 38 4 (.tmp 1) rfl ((K.old 1 rfl).trans x1) (by kernel_rfl)
  · exact st_loadc 24 (.tmp 12) rfl (by kernel_rfl) (K.dep 0 12 rfl) (ob_cell_at (Ob.below m1 K.grow) (([.int .i64 0, .int .i64 ((n : Nat) : Int)] : List Value) ++ ((old).map V ++ ((rt).map V))) (([] : List Value)) _ 66 (by simp) (by simp [hold, hrt]))
  · exact st_lenc (.tmp 13) rfl ((P).length) rfl (fk_val (K.dep 1 13 rfl) (Fk.mono _ _ _ _ hv (bl.trans (Below.mono K.grow bl.size))))
  · exact st_gtr 3 (.tmp 14) (.const (.int .i64 80)) rfl .i64 ((((P).length : Nat) : Int)) (80) (K.dep 2 14 rfl) rfl _ (by rw [eq_comm, decide_eq_false_iff_not]; omega)
  · exact st_move (.tmp 15) rfl (K.dep 3 15 rfl)
  · exact st_field 38 1 (.tmp 1) rfl ((K.old 1 rfl).trans x1) (by kernel_rfl)
  · exact st_loadc 3 (.tmp 17) rfl (by kernel_rfl) (K.dep 5 17 rfl) (ob_cell_at (Ob.below m1 K.grow) (([.int .i64 0] : List Value)) ((old).map V ++ ((rt).map V ++ (([.slice pA (P).length pC] : List Value)))) _ 1 (by simp) (by rfl))
  · exact st_gtr 3 (.tmp 18) (.const (.int .i64 1152921504606846976)) rfl .i64 (((n : Nat) : Int)) (1152921504606846976) (K.dep 6 18 rfl) rfl _ (by rw [eq_comm, decide_eq_false_iff_not]; omega)
  · exact st_pick_f' (.tmp 16) (.const (.bool true)) (.tmp 19) rfl (K.dep 4 16 rfl) (K.dep 7 19 rfl)
  intro f4 w4 A hb
  replace bl0 := bl
  replace x1 := (A.old 1 rfl).trans x1
  replace x2 := (A.old 2 rfl).trans x2
  have x20 : f4.eval (.tmp 20) = .bool false := A.has 8 20 rfl
  have lt_m1 := Ob.lt m1
  replace m1 := Ob.below m1 hb
  replace bl := (bl.trans (Below.mono hb bl.size))
  replace sz := A.size.trans sz
  replace df := A.defs.trans df
  clear A hb
  show Code.wp _ _ _ _ _
  refine wp_cond_false x20 ?_
  refine wp_skip ?_
  show Code.wp _ _ _ _ _
  refine wp_seq ?_
  refine wp_region_seq [.eq (.pointer (some ⟨g1, 0, none⟩)), .eq (.int .i64 0), .eq (.pointer (some ⟨g1, 1, none⟩)), .eq (.int .i64 ((n : Nat) : Int)), .eq (.pointer (some ⟨g1, 2, none⟩)), .eq (.agg ((old).map V).toArray), .eq (.pointer (some ⟨g1, 66, none⟩)), .eq (.slice pA (P).length pC), .eq (.tuple #[.agg ((old).map V).toArray, .agg ((old).map V).toArray, .int .i64 0]), .eq (.tuple #[.agg ((old).map V).toArray, .agg ((old).map V).toArray, .int .i64 0]), .eq (.agg ((old).map V).toArray), .eq (.agg ((old).map V).toArray), .eq (.int .i64 0)] (by kernel_rfl) (by kernel_rfl) (by rw [sz]; kernel_rfl) (by kernel_rfl) ⟨fun hw ac u K => ?_, fun hw ac u K => ?_, fun hw ac u K => ?_, fun hw ac u K => ?_, fun hw ac u K => ?_, fun hw ac u K => ?_, fun hw ac u K => ?_, fun hw ac u K => ?_, fun hw ac u K => ?_, fun hw ac u K => ?_, fun hw ac u K => ?_, fun hw ac u K => ?_, fun hw ac u K => ?_, trivial⟩ ?_
  · exact st_field 38 0 (.tmp 1) rfl ((K.old 1 rfl).trans x1) (by kernel_rfl)
  · exact st_loadc 3 (.tmp 23) rfl (by kernel_rfl) (K.dep 0 23 rfl) (ob_cell_at (Ob.below m1 K.grow) (([] : List Value)) (([.int .i64 ((n : Nat) : Int)] : List Value) ++ ((old).map V ++ ((rt).map V ++ (([.slice pA (P).length pC] : List Value))))) _ 0 (by simp) (by rfl))
  · exact st_field 38 1 (.tmp 1) rfl ((K.old 1 rfl).trans x1) (by kernel_rfl)
  · exact st_loadc 3 (.tmp 25) rfl (by kernel_rfl) (K.dep 2 25 rfl) (ob_cell_at (Ob.below m1 K.grow) (([.int .i64 0] : List Value)) ((old).map V ++ ((rt).map V ++ (([.slice pA (P).length pC] : List Value)))) _ 1 (by simp) (by rfl))
  · exact st_field 38 2 (.tmp 1) rfl ((K.old 1 rfl).trans x1) (by kernel_rfl)
  · exact st_loadz 23 (.tmp 27) rfl (g1) 2 ((old).map V) (by kernel_rfl) (by rw [List.length_map, hold]; kernel_rfl) (K.dep 4 27 rfl) (ob_range_at (Ob.below m1 K.grow) (([.int .i64 0, .int .i64 ((n : Nat) : Int)] : List Value)) ((rt).map V ++ (([.slice pA (P).length pC] : List Value))) _ 2 (by simp) (by rfl))
  · exact st_field 38 4 (.tmp 1) rfl ((K.old 1 rfl).trans x1) (by kernel_rfl)
  · exact st_loadc 24 (.tmp 29) rfl (by kernel_rfl) (K.dep 6 29 rfl) (ob_cell_at (Ob.below m1 K.grow) (([.int .i64 0, .int .i64 ((n : Nat) : Int)] : List Value) ++ ((old).map V ++ ((rt).map V))) (([] : List Value)) _ 66 (by simp) (by simp [hold, hrt]))
  · exact st_call 14 (.func 14) _ _ #[.int .i64 0, .int .i64 ((n : Nat) : Int), .agg ((old).map V).toArray, .slice pA (P).length pC] rfl rfl (arg4 (K.dep 1 24 rfl) (K.dep 3 26 rfl) (K.dep 5 28 rfl) (K.dep 7 30 rfl)) Tryd.enter14 (fk_both_zero hold hn (Fk.mono _ _ _ _ hv (bl.trans (Below.mono K.grow bl.size))) (by omega) (hK.below (bl.trans (Below.mono K.grow bl.size))) hP0)
  · exact st_move (.tmp 31) rfl (K.dep 8 31 rfl)
  · exact st_tri0 (.tmp 22) rfl (K.dep 9 22 rfl)
  · exact st_tri1 (.tmp 22) rfl (K.dep 9 22 rfl)
  · exact st_tri2 (.tmp 22) rfl (K.dep 9 22 rfl)
  intro f5 w5 A hb
  replace bl0 := bl
  replace x1 := (A.old 1 rfl).trans x1
  replace x2 := (A.old 2 rfl).trans x2
  replace x20 := (A.old 20 rfl).trans x20
  have x32 : f5.eval (.tmp 32) = .agg ((old).map V).toArray := A.has 10 32 rfl
  have x33 : f5.eval (.tmp 33) = .agg ((old).map V).toArray := A.has 11 33 rfl
  have x34 : f5.eval (.tmp 34) = .int .i64 0 := A.has 12 34 rfl
  have lt_m1 := Ob.lt m1
  replace m1 := Ob.below m1 hb
  replace bl := (bl.trans (Below.mono hb bl.size))
  replace sz := A.size.trans sz
  replace df := A.defs.trans df
  clear A hb
  refine wl_one (.nw w5.heap.size 23 ((hz).map V)) rfl 3 rfl (by rw [sz]; decide) (st_alloc23 rfl _ (Nat.le_refl _)) ?_
  intro f6 w6 df2 sz2 old2 new2 hb
  replace bl0 := bl
  replace x1 := (old2 1 rfl).trans x1
  replace x2 := (old2 2 rfl).trans x2
  replace x20 := (old2 20 rfl).trans x20
  replace x32 := (old2 32 rfl).trans x32
  replace x33 := (old2 33 rfl).trans x33
  replace x34 := (old2 34 rfl).trans x34
  have x3 : Fk.f (.nw w5.heap.size 23 ((hz).map V)) (f6.eval (.tmp 3)) w6 := new2
  have lt_m1 := Ob.lt m1
  replace m1 := Ob.below m1 hb
  replace bl := (bl.trans (Below.mono hb bl.size))
  replace sz := sz2.trans sz
  replace df := df2.trans df
  clear df2 sz2 old2 new2 hb
  obtain ⟨g3, hg3, e3, m3⟩ := x3
  have x3 := e3
  clear e3
  have nm1_3 : g1 ≠ g3 := Nat.ne_of_lt (Nat.lt_of_lt_of_le lt_m1 hg3)
  have hw3 : w.heap.size ≤ g3 := Nat.le_trans bl0.size hg3
  refine wl_one (.nw w6.heap.size 23 ((hz).map V)) rfl 4 rfl (by rw [sz]; decide) (st_alloc23 rfl _ (Nat.le_refl _)) ?_
  intro f7 w7 df2 sz2 old2 new2 hb
  replace bl0 := bl
  replace x1 := (old2 1 rfl).trans x1
  replace x2 := (old2 2 rfl).trans x2
  replace x20 := (old2 20 rfl).trans x20
  replace x32 := (old2 32 rfl).trans x32
  replace x33 := (old2 33 rfl).trans x33
  replace x34 := (old2 34 rfl).trans x34
  replace x3 := (old2 3 rfl).trans x3
  have x4 : Fk.f (.nw w6.heap.size 23 ((hz).map V)) (f7.eval (.tmp 4)) w7 := new2
  have lt_m1 := Ob.lt m1
  replace m1 := Ob.below m1 hb
  have lt_m3 := Ob.lt m3
  replace m3 := Ob.below m3 hb
  replace bl := (bl.trans (Below.mono hb bl.size))
  replace sz := sz2.trans sz
  replace df := df2.trans df
  clear df2 sz2 old2 new2 hb
  obtain ⟨g4, hg4, e4, m4⟩ := x4
  have x4 := e4
  clear e4
  have nm1_4 : g1 ≠ g4 := Nat.ne_of_lt (Nat.lt_of_lt_of_le lt_m1 hg4)
  have nm3_4 : g3 ≠ g4 := Nat.ne_of_lt (Nat.lt_of_lt_of_le lt_m3 hg4)
  have hw4 : w.heap.size ≤ g4 := Nat.le_trans bl0.size hg4
  refine wl_store rfl (.tmp 3) (.tmp 32) rfl rfl (g3) (old) (hz) x3 x32 m3 hz_len hold ?_
  replace m1 : Ob (w7.setRow g3 ((old).map V : List Value).toArray) (g1) 38 (([.int .i64 0, .int .i64 ((n : Nat) : Int)] : List Value) ++ ((old).map V ++ ((rt).map V ++ (([.slice pA (P).length pC] : List Value))))) := Ob.setRow_other m1 _ nm1_3
  replace m3 : Ob (w7.setRow g3 ((old).map V : List Value).toArray) (g3) 23 ((old).map V) := Ob.setRow m3 ((old).map V)
  replace m4 : Ob (w7.setRow g3 ((old).map V : List Value).toArray) (g4) 23 ((hz).map V) := Ob.setRow_other m4 _ nm3_4.symm
  replace bl : Below w.heap.size w (w7.setRow g3 ((old).map V : List Value).toArray) := bl.trans (below_setRow _ _ _ _ hw3)
  generalize w7.setRow g3 ((old).map V : List Value).toArray = w8b at bl m1 m3 m4 ⊢
  clear x32
  refine wl_store rfl (.tmp 4) (.tmp 33) rfl rfl (g4) (old) (hz) x4 x33 m4 hz_len hold ?_
  replace m1 : Ob (w8b.setRow g4 ((old).map V : List Value).toArray) (g1) 38 (([.int .i64 0, .int .i64 ((n : Nat) : Int)] : List Value) ++ ((old).map V ++ ((rt).map V ++ (([.slice pA (P).length pC] : List Value))))) := Ob.setRow_other m1 _ nm1_4
  replace m3 : Ob (w8b.setRow g4 ((old).map V : List Value).toArray) (g3) 23 ((old).map V) := Ob.setRow_other m3 _ nm3_4
  replace m4 : Ob (w8b.setRow g4 ((old).map V : List Value).toArray) (g4) 23 ((old).map V) := Ob.setRow m4 ((old).map V)
  replace bl : Below w.heap.size w (w8b.setRow g4 ((old).map V : List Value).toArray) := bl.trans (below_setRow _ _ _ _ hw4)
  generalize w8b.setRow g4 ((old).map V : List Value).toArray = w9b at bl m1 m3 m4 ⊢
  clear x33
  refine wl_one (.eq (.int .i64 0)) rfl 5 rfl (by rw [sz]; decide) (st_assign (.tmp 34) rfl x34) ?_
  intro f10 w10 df2 sz2 old2 new2 hb
  replace bl0 := bl
  replace x1 := (old2 1 rfl).trans x1
  replace x2 := (old2 2 rfl).trans x2
  replace x20 := (old2 20 rfl).trans x20
  replace x34 := (old2 34 rfl).trans x34
  replace x3 := (old2 3 rfl).trans x3
  replace x4 := (old2 4 rfl).trans x4
  have x5 : f10.eval (.tmp 5) = .int .i64 0 := new2
  have lt_m1 := Ob.lt m1
  replace m1 := Ob.below m1 hb
  have lt_m3 := Ob.lt m3
  replace m3 := Ob.below m3 hb
  have lt_m4 := Ob.lt m4
  replace m4 := Ob.below m4 hb
  replace bl := (bl.trans (Below.mono hb bl.size))
  replace sz := sz2.trans sz
  replace df := df2.trans df
  clear df2 sz2 old2 new2 hb
  refine wpList_nil ?_
  clear x34
  show Code.wp _ _ _ _ _
  refine wp_seq ?_
  refine wp_all_seq [.eq (.pointer (some ⟨g1, 0, none⟩)), .eq (.int .i64 0), .eq (.pointer (some ⟨g1, 1, none⟩)), .eq (.int .i64 ((n : Nat) : Int)), .eq (.pointer (some ⟨g1, 2, none⟩)), .eq (.agg ((old).map V).toArray), .eq (.pointer (some ⟨g1, 34, none⟩)), .eq (.agg ((rt).map V).toArray), .eq (.pointer (some ⟨g1, 66, none⟩)), .eq (.slice pA (P).length pC), .eq (.int .i64 22), .eq (.int .i64 22)] (by kernel_rfl) (by kernel_rfl) (by rw [sz]; kernel_rfl) (by kernel_rfl) ⟨fun hw ac u K => ?_, fun hw ac u K => ?_, fun hw ac u K => ?_, fun hw ac u K => ?_, fun hw ac u K => ?_, fun hw ac u K => ?_, fun hw ac u K => ?_, fun hw ac u K => ?_, fun hw ac u K => ?_, fun hw ac u K => ?_, fun hw ac u K => ?_, fun hw ac u K => ?_, trivial⟩ ?_
  · exact st_field 38 0 (.tmp 1) rfl ((K.old 1 rfl).trans x1) (by kernel_rfl)
  · exact st_loadc 3 (.tmp 35) rfl (by kernel_rfl) (K.dep 0 35 rfl) (ob_cell_at (Ob.below m1 K.grow) (([] : List Value)) (([.int .i64 ((n : Nat) : Int)] : List Value) ++ ((old).map V ++ ((rt).map V ++ (([.slice pA (P).length pC] : List Value))))) _ 0 (by simp) (by rfl))
  · exact st_field 38 1 (.tmp 1) rfl ((K.old 1 rfl).trans x1) (by kernel_rfl)
  · exact st_loadc 3 (.tmp 37) rfl (by kernel_rfl) (K.dep 2 37 rfl) (ob_cell_at (Ob.below m1 K.grow) (([.int .i64 0] : List Value)) ((old).map V ++ ((rt).map V ++ (([.slice pA (P).length pC] : List Value)))) _ 1 (by simp) (by rfl))
  · exact st_field 38 2 (.tmp 1) rfl ((K.old 1 rfl).trans x1) (by kernel_rfl)
  · exact st_loadz 23 (.tmp 39) rfl (g1) 2 ((old).map V) (by kernel_rfl) (by rw [List.length_map, hold]; kernel_rfl) (K.dep 4 39 rfl) (ob_range_at (Ob.below m1 K.grow) (([.int .i64 0, .int .i64 ((n : Nat) : Int)] : List Value)) ((rt).map V ++ (([.slice pA (P).length pC] : List Value))) _ 2 (by simp) (by rfl))
  · exact st_field 38 3 (.tmp 1) rfl ((K.old 1 rfl).trans x1) (by kernel_rfl)
  · exact st_loadz 23 (.tmp 41) rfl (g1) 34 ((rt).map V) (by kernel_rfl) (by rw [List.length_map, hrt]; kernel_rfl) (K.dep 6 41 rfl) (ob_range_at (Ob.below m1 K.grow) (([.int .i64 0, .int .i64 ((n : Nat) : Int)] : List Value) ++ ((old).map V)) (([.slice pA (P).length pC] : List Value)) _ 34 (by simp) (by simp [hold]))
  · exact st_field 38 4 (.tmp 1) rfl ((K.old 1 rfl).trans x1) (by kernel_rfl)
  · exact st_loadc 24 (.tmp 43) rfl (by kernel_rfl) (K.dep 8 43 rfl) (ob_cell_at (Ob.below m1 K.grow) (([.int .i64 0, .int .i64 ((n : Nat) : Int)] : List Value) ++ ((old).map V ++ ((rt).map V))) (([] : List Value)) _ 66 (by simp) (by simp [hold, hrt]))
  · exact st_call 15 (.func 15) _ _ #[.int .i64 0, .int .i64 ((n : Nat) : Int), .agg ((old).map V).toArray, .agg ((rt).map V).toArray, .slice pA (P).length pC] rfl rfl (arg5 (K.dep 1 36 rfl) (K.dep 3 38 rfl) (K.dep 5 40 rfl) (K.dep 7 42 rfl) (K.dep 9 44 rfl)) Tryd.enter15 (fk_on_zero hold hrt hn (Fk.mono _ _ _ _ hv (bl.trans (Below.mono K.grow bl.size))) (by omega) (hK.below (bl.trans (Below.mono K.grow bl.size))) 22 (by rw [if_neg (fun h => h.2.2.elim (by omega) hro)]))
  · exact st_assign (.tmp 45) rfl (K.dep 10 45 rfl)
  intro f11 w11 A hb
  replace bl0 := bl
  replace x1 := (A.old 1 rfl).trans x1
  replace x2 := (A.old 2 rfl).trans x2
  replace x20 := (A.old 20 rfl).trans x20
  replace x3 := (A.old 3 rfl).trans x3
  replace x4 := (A.old 4 rfl).trans x4
  replace x5 := (A.old 5 rfl).trans x5
  have x6 : f11.eval (.tmp 6) = .int .i64 22 := A.has 11 6 rfl
  have lt_m1 := Ob.lt m1
  replace m1 := Ob.below m1 hb
  have lt_m3 := Ob.lt m3
  replace m3 := Ob.below m3 hb
  have lt_m4 := Ob.lt m4
  replace m4 := Ob.below m4 hb
  replace bl := (bl.trans (Below.mono hb bl.size))
  replace sz := A.size.trans sz
  replace df := A.defs.trans df
  clear A hb
  show Code.wp _ _ _ _ _
  refine wp_seq ?_
  refine wp_seq ?_
  refine wp_all_seq [.eq (.pointer (some ⟨g1, 0, none⟩)), .eq (.int .i64 0), .eq (.bool false), .eq (.bool false), .eq (.pointer (some ⟨g1, 0, none⟩)), .eq (.int .i64 0), .eq (.pointer (some ⟨g1, 1, none⟩)), .eq (.int .i64 ((n : Nat) : Int)), .eq (.bool false), .eq (.bool false)] (by kernel_rfl) (by kernel_rfl) (by rw [sz]; kernel_rfl) (by kernel_rfl) ⟨fun hw ac u K => ?_, fun hw ac u K => ?_, fun hw ac u K => ?_, fun hw ac u K => ?_, fun hw ac u K => ?_, fun hw ac u K => ?_, fun hw ac u K => ?_, fun hw ac u K => ?_, fun hw ac u K => ?_, fun hw ac u K => ?_, trivial⟩ ?_
  · exact st_field 38 0 (.tmp 1) rfl ((K.old 1 rfl).trans x1) (by kernel_rfl)
  · exact st_loadc 3 (.tmp 46) rfl (by kernel_rfl) (K.dep 0 46 rfl) (ob_cell_at (Ob.below m1 K.grow) (([] : List Value)) (([.int .i64 ((n : Nat) : Int)] : List Value) ++ ((old).map V ++ ((rt).map V ++ (([.slice pA (P).length pC] : List Value))))) _ 0 (by simp) (by rfl))
  · exact st_lss 3 (.tmp 47) (.const (.int .i64 0)) rfl .i64 (0) (0) (K.dep 1 47 rfl) rfl _ (by rw [eq_comm, decide_eq_false_iff_not]; omega)
  · exact st_move (.tmp 48) rfl (K.dep 2 48 rfl)
  · exact st_field 38 0 (.tmp 1) rfl ((K.old 1 rfl).trans x1) (by kernel_rfl)
  · exact st_loadc 3 (.tmp 50) rfl (by kernel_rfl) (K.dep 4 50 rfl) (ob_cell_at (Ob.below m1 K.grow) (([] : List Value)) (([.int .i64 ((n : Nat) : Int)] : List Value) ++ ((old).map V ++ ((rt).map V ++ (([.slice pA (P).length pC] : List Value))))) _ 0 (by simp) (by rfl))
  · exact st_field 38 1 (.tmp 1) rfl ((K.old 1 rfl).trans x1) (by kernel_rfl)
  · exact st_loadc 3 (.tmp 52) rfl (by kernel_rfl) (K.dep 6 52 rfl) (ob_cell_at (Ob.below m1 K.grow) (([.int .i64 0] : List Value)) ((old).map V ++ ((rt).map V ++ (([.slice pA (P).length pC] : List Value)))) _ 1 (by simp) (by rfl))
  · exact st_gtr 3 (.tmp 51) (.tmp 53) rfl .i64 (0) (((n : Nat) : Int)) (K.dep 5 51 rfl) (K.dep 7 53 rfl) _ (by rw [eq_comm, decide_eq_false_iff_not]; omega)
  · exact st_pick_f' (.tmp 49) (.const (.bool true)) (.tmp 54) rfl (K.dep 3 49 rfl) (K.dep 8 54 rfl)
  intro f12 w12 A hb
  replace bl0 := bl
  replace x1 := (A.old 1 rfl).trans x1
  replace x2 := (A.old 2 rfl).trans x2
  replace x20 := (A.old 20 rfl).trans x20
  replace x3 := (A.old 3 rfl).trans x3
  replace x4 := (A.old 4 rfl).trans x4
  replace x5 := (A.old 5 rfl).trans x5
  replace x6 := (A.old 6 rfl).trans x6
  have x55 : f12.eval (.tmp 55) = .bool false := A.has 9 55 rfl
  have lt_m1 := Ob.lt m1
  replace m1 := Ob.below m1 hb
  have lt_m3 := Ob.lt m3
  replace m3 := Ob.below m3 hb
  have lt_m4 := Ob.lt m4
  replace m4 := Ob.below m4 hb
  replace bl := (bl.trans (Below.mono hb bl.size))
  replace sz := A.size.trans sz
  replace df := A.defs.trans df
  clear A hb
  show Code.wp _ _ _ _ _
  refine wp_cond_false x55 ?_
  refine wp_skip ?_
  show Code.wp _ _ _ _ _
  refine wp_seq ?_
  refine wp_seq ?_
  refine wp_all_seq [.eq (.pointer (some ⟨g1, 0, none⟩)), .eq (.int .i64 0), .eq (.bool true)] (by kernel_rfl) (by kernel_rfl) (by rw [sz]; kernel_rfl) (by kernel_rfl) ⟨fun hw ac u K => ?_, fun hw ac u K => ?_, fun hw ac u K => ?_, trivial⟩ ?_
  · exact st_field 38 0 (.tmp 1) rfl ((K.old 1 rfl).trans x1) (by kernel_rfl)
  · exact st_loadc 3 (.tmp 75) rfl (by kernel_rfl) (K.dep 0 75 rfl) (ob_cell_at (Ob.below m1 K.grow) (([] : List Value)) (([.int .i64 ((n : Nat) : Int)] : List Value) ++ ((old).map V ++ ((rt).map V ++ (([.slice pA (P).length pC] : List Value))))) _ 0 (by simp) (by rfl))
  · exact st_eqi 3 (.tmp 76) (.const (.int .i64 0)) rfl .i64 (0) (0) (K.dep 1 76 rfl) rfl _ (by simp)
  intro f13 w13 A hb
  replace bl0 := bl
  replace x1 := (A.old 1 rfl).trans x1
  replace x2 := (A.old 2 rfl).trans x2
  replace x20 := (A.old 20 rfl).trans x20
  replace x3 := (A.old 3 rfl).trans x3
  replace x4 := (A.old 4 rfl).trans x4
  replace x5 := (A.old 5 rfl).trans x5
  replace x6 := (A.old 6 rfl).trans x6
  replace x55 := (A.old 55 rfl).trans x55
  have x77 : f13.eval (.tmp 77) = .bool true := A.has 2 77 rfl
  have lt_m1 := Ob.lt m1
  replace m1 := Ob.below m1 hb
  have lt_m3 := Ob.lt m3
  replace m3 := Ob.below m3 hb
  have lt_m4 := Ob.lt m4
  replace m4 := Ob.below m4 hb
  replace bl := (bl.trans (Below.mono hb bl.size))
  replace sz := A.size.trans sz
  replace df := A.defs.trans df
  clear A hb
  show Code.wp _ _ _ _ _
  refine wp_cond_true x77 ?_
  refine wp_seq ?_
  refine wp_seq ?_
  refine wp_all_seq [.eq (.pointer (some ⟨g1, 66, none⟩)), .eq (.slice pA (P).length pC), .eq (.int .i64 (((P).length : Nat) : Int)), .eq (.bool false)] (by kernel_rfl) (by kernel_rfl) (by rw [sz]; kernel_rfl) (by kernel_rfl) ⟨fun hw ac u K => ?_, fun hw ac u K => ?_, fun hw ac u K => ?_, fun hw ac u K => ?_, trivial⟩ ?_
  · exact st_field 38 4 (.tmp 1) rfl ((K.old 1 rfl).trans x1) (by kernel_rfl)
  · exact st_loadc 24 (.tmp 78) rfl (by kernel_rfl) (K.dep 0 78 rfl) (ob_cell_at (Ob.below m1 K.grow) (([.int .i64 0, .int .i64 ((n : Nat) : Int)] : List Value) ++ ((old).map V ++ ((rt).map V))) (([] : List Value)) _ 66 (by simp) (by simp [hold, hrt]))
  · exact st_lenc (.tmp 79) rfl ((P).length) rfl (fk_val (K.dep 1 79 rfl) (Fk.mono _ _ _ _ hv (bl.trans (Below.mono K.grow bl.size))))
  · exact st_gtr 3 (.tmp 80) (.const (.int .i64 0)) rfl .i64 ((((P).length : Nat) : Int)) (0) (K.dep 2 80 rfl) rfl _ (by rw [eq_comm, decide_eq_false_iff_not]; omega)
  intro f14 w14 A hb
  replace bl0 := bl
  replace x1 := (A.old 1 rfl).trans x1
  replace x2 := (A.old 2 rfl).trans x2
  replace x20 := (A.old 20 rfl).trans x20
  replace x3 := (A.old 3 rfl).trans x3
  replace x4 := (A.old 4 rfl).trans x4
  replace x5 := (A.old 5 rfl).trans x5
  replace x6 := (A.old 6 rfl).trans x6
  replace x55 := (A.old 55 rfl).trans x55
  replace x77 := (A.old 77 rfl).trans x77
  have x81 : f14.eval (.tmp 81) = .bool false := A.has 3 81 rfl
  have lt_m1 := Ob.lt m1
  replace m1 := Ob.below m1 hb
  have lt_m3 := Ob.lt m3
  replace m3 := Ob.below m3 hb
  have lt_m4 := Ob.lt m4
  replace m4 := Ob.below m4 hb
  replace bl := (bl.trans (Below.mono hb bl.size))
  replace sz := A.size.trans sz
  replace df := A.defs.trans df
  clear A hb
  show Code.wp _ _ _ _ _
  refine wp_cond_false x81 ?_
  refine wp_skip ?_
  show Code.wp _ _ _ _ _
  refine wp_seq ?_
  refine wp_all [.eq (.pointer (some ⟨g1, 2, none⟩)), .eq (.agg ((old).map V).toArray), .eq (.agg ((o0).map V).toArray), .eq (.bool true), .eq (.bool true), .eq (.pointer (some ⟨g1, 1, none⟩)), .eq (.int .i64 ((n : Nat) : Int)), .eq (.bool false), .eq (.bool false), .eq (.pointer (some ⟨g1, 34, none⟩)), .eq (.agg ((rt).map V).toArray), .eq (.pointer (some ⟨g1, 2, none⟩)), .eq (.agg ((old).map V).toArray), .eq (.bool false), .eq (.bool false), .eq (.bool false), .eq (.bool false)] Tryd.mixed (by kernel_rfl) (by kernel_rfl) (by rw [sz]; kernel_rfl) (by kernel_rfl) ⟨fun hw ac u K => ?_, fun hw ac u K => ?_, fun hw ac u K => ?_, fun hw ac u K => ?_, fun hw ac u K => ?_, fun hw ac u K => ?_, fun hw ac u K => ?_, fun hw ac u K => ?_, fun hw ac u K => ?_, fun hw ac u K => ?_, fun hw ac u K => ?_, fun hw ac u K => ?_, fun hw ac u K => ?_, fun hw ac u K => ?_, fun hw ac u K => ?_, fun hw ac u K => ?_, fun hw ac u K => ?_, trivial⟩ ?_
  · exact st_field 38 2 (.tmp 1) rfl ((K.old 1 rfl).trans x1) (by kernel_rfl)
  · exact st_loadz 23 (.tmp 91) rfl (g1) 2 ((old).map V) (by kernel_rfl) (by rw [List.length_map, hold]; kernel_rfl) (K.dep 0 91 rfl) (ob_range_at (Ob.below m1 K.grow) (([.int .i64 0, .int .i64 ((n : Nat) : Int)] : List Value)) ((rt).map V ++ (([.slice pA (P).length pC] : List Value))) _ 2 (by simp) (by rfl))
  · exact st_call 16 (.func 16) _ _ #[.slice none 0 0] rfl rfl (one_arg rfl) Tryd.enter16 (by rw [← eo]; exact fk_sum (by simp) (hK.below (bl.trans (Below.mono K.grow bl.size))) (Fk.mono _ _ _ _ hnil (bl.trans (Below.mono K.grow bl.size))))
  · exact st_eqh (.tmp 92) (.tmp 93) rfl (old) (o0) hold ho0 (K.dep 1 92 rfl) (K.dep 2 93 rfl) _ (by simp [ho, eo])
  · exact st_move (.tmp 94) rfl (K.dep 3 94 rfl)
  · exact st_field 38 1 (.tmp 1) rfl ((K.old 1 rfl).trans x1) (by kernel_rfl)
  · exact st_loadc 3 (.tmp 96) rfl (by kernel_rfl) (K.dep 5 96 rfl) (ob_cell_at (Ob.below m1 K.grow) (([.int .i64 0] : List Value)) ((old).map V ++ ((rt).map V ++ (([.slice pA (P).length pC] : List Value)))) _ 1 (by simp) (by rfl))
  · exact st_gtr 3 (.tmp 97) (.const (.int .i64 0)) rfl .i64 (((n : Nat) : Int)) (0) (K.dep 6 97 rfl) rfl _ (by rw [eq_comm, decide_eq_false_iff_not]; omega)
  · exact st_move (.tmp 98) rfl (K.dep 7 98 rfl)
  · exact st_field 38 3 (.tmp 1) rfl ((K.old 1 rfl).trans x1) (by kernel_rfl)
  · exact st_loadz 23 (.tmp 100) rfl (g1) 34 ((rt).map V) (by kernel_rfl) (by rw [List.length_map, hrt]; kernel_rfl) (K.dep 9 100 rfl) (ob_range_at (Ob.below m1 K.grow) (([.int .i64 0, .int .i64 ((n : Nat) : Int)] : List Value) ++ ((old).map V)) (([.slice pA (P).length pC] : List Value)) _ 34 (by simp) (by simp [hold]))
  · exact st_field 38 2 (.tmp 1) rfl ((K.old 1 rfl).trans x1) (by kernel_rfl)
  · exact st_loadz 23 (.tmp 102) rfl (g1) 2 ((old).map V) (by kernel_rfl) (by rw [List.length_map, hold]; kernel_rfl) (K.dep 11 102 rfl) (ob_range_at (Ob.below m1 K.grow) (([.int .i64 0, .int .i64 ((n : Nat) : Int)] : List Value)) ((rt).map V ++ (([.slice pA (P).length pC] : List Value))) _ 2 (by simp) (by rfl))
  · exact st_eqh (.tmp 101) (.tmp 103) rfl (rt) (old) hrt hold (K.dep 10 101 rfl) (K.dep 12 103 rfl) _ (by simp [hro])
  · exact st_pick_f' (.tmp 99) (.const (.bool true)) (.tmp 104) rfl (K.dep 8 99 rfl) (K.dep 13 104 rfl)
  · exact st_pick_t (.tmp 95) (.tmp 105) (.const (.bool false)) rfl (K.dep 4 95 rfl) (K.dep 14 105 rfl)
  · exact st_assign (.tmp 106) rfl (K.dep 15 106 rfl)
  intro f15 w15 A hb
  replace bl0 := bl
  replace x1 := (A.old 1 rfl).trans x1
  replace x2 := (A.old 2 rfl).trans x2
  replace x20 := (A.old 20 rfl).trans x20
  replace x3 := (A.old 3 rfl).trans x3
  replace x4 := (A.old 4 rfl).trans x4
  replace x5 := (A.old 5 rfl).trans x5
  replace x6 := (A.old 6 rfl).trans x6
  replace x55 := (A.old 55 rfl).trans x55
  replace x77 := (A.old 77 rfl).trans x77
  replace x81 := (A.old 81 rfl).trans x81
  have x7 : f15.eval (.tmp 7) = .bool false := A.has 16 7 rfl
  have lt_m1 := Ob.lt m1
  replace m1 := Ob.below m1 hb
  have lt_m3 := Ob.lt m3
  replace m3 := Ob.below m3 hb
  have lt_m4 := Ob.lt m4
  replace m4 := Ob.below m4 hb
  replace bl := (bl.trans (Below.mono hb bl.size))
  replace sz := A.size.trans sz
  replace df := A.defs.trans df
  clear A hb
  show Code.wp _ _ _ _ _
  refine wp_seq ?_
  refine wp_all_seq [.eq (.int .i64 0), .eq (.bool true), .eq (.bool true), .eq (.agg ((old).map V).toArray), .eq (.pointer (some ⟨g1, 2, none⟩)), .eq (.agg ((old).map V).toArray), .eq (.bool true), .eq (.bool true), .eq (.bool true), .eq (.agg ((old).map V).toArray), .eq (.pointer (some ⟨g1, 2, none⟩)), .eq (.agg ((old).map V).toArray), .eq (.bool true), .eq (.bool true), .eq (.bool true), .eq (.int .i64 22), .eq (.bool false), .eq (.bool false), .eq (.bool true), .eq (.bool true), .eq (.bool true), .eq (.bool false), .eq (.bool false), .eq (.int .i64 22), .eq (.bool true), .eq (.bool true), .eq (.bool true), .eq (.bool true), .eq (.bool true), .eq (.bool true), .eq (.bool true)] (by kernel_rfl) (by kernel_rfl) (by rw [sz]; kernel_rfl) (by kernel_rfl) ⟨fun hw ac u K => ?_, fun hw ac u K => ?_, fun hw ac u K => ?_, fun hw ac u K => ?_, fun hw ac u K => ?_, fun hw ac u K => ?_, fun hw ac u K => ?_, fun hw ac u K => ?_, fun hw ac u K => ?_, fun hw ac u K => ?_, fun hw ac u K => ?_, fun hw ac u K => ?_, fun hw ac u K => ?_, fun hw ac u K => ?_, fun hw ac u K => ?_, fun hw ac u K => ?_, fun hw ac u K => ?_, fun hw ac u K => ?_, fun hw ac u K => ?_, fun hw ac u K => ?_, fun hw ac u K => ?_, fun hw ac u K => ?_, fun hw ac u K => ?_, fun hw ac u K => ?_, fun hw ac u K => ?_, fun hw ac u K => ?_, fun hw ac u K => ?_, fun hw ac u K => ?_, fun hw ac u K => ?_, fun hw ac u K => ?_, fun hw ac u K => ?_, trivial⟩ ?_
  · exact st_move (.tmp 5) rfl ((K.old 5 rfl).trans x5)
  · exact st_eqi 28 (.tmp 107) (.const (.int .i64 0)) rfl .i64 (0) (0) (K.dep 0 107 rfl) rfl _ (by rfl)
  · exact st_move (.tmp 108) rfl (K.dep 1 108 rfl)
  · exact st_load23 (.tmp 3) rfl (g3) (old) ((K.old 3 rfl).trans x3) hold (Ob.below m3 K.grow)
  · exact st_field 38 2 (.tmp 1) rfl ((K.old 1 rfl).trans x1) (by kernel_rfl)
  · exact st_loadz 23 (.tmp 111) rfl (g1) 2 ((old).map V) (by kernel_rfl) (by rw [List.length_map, hold]; kernel_rfl) (K.dep 4 111 rfl) (ob_range_at (Ob.below m1 K.grow) (([.int .i64 0, .int .i64 ((n : Nat) : Int)] : List Value)) ((rt).map V ++ (([.slice pA (P).length pC] : List Value))) _ 2 (by simp) (by rfl))
  · exact st_eqh (.tmp 110) (.tmp 112) rfl (old) (old) hold hold (K.dep 3 110 rfl) (K.dep 5 112 rfl) _ (by simp)
  · exact st_pick_t (.tmp 109) (.tmp 113) (.const (.bool false)) rfl (K.dep 2 109 rfl) (K.dep 6 113 rfl)
  · exact st_move (.tmp 114) rfl (K.dep 7 114 rfl)
  · exact st_load23 (.tmp 4) rfl (g4) (old) ((K.old 4 rfl).trans x4) hold (Ob.below m4 K.grow)
  · exact st_field 38 2 (.tmp 1) rfl ((K.old 1 rfl).trans x1) (by kernel_rfl)
  · exact st_loadz 23 (.tmp 117) rfl (g1) 2 ((old).map V) (by kernel_rfl) (by rw [List.length_map, hold]; kernel_rfl) (K.dep 10 117 rfl) (ob_range_at (Ob.below m1 K.grow) (([.int .i64 0, .int .i64 ((n : Nat) : Int)] : List Value)) ((rt).map V ++ (([.slice pA (P).length pC] : List Value))) _ 2 (by simp) (by rfl))
  · exact st_eqh (.tmp 116) (.tmp 118) rfl (old) (old) hold hold (K.dep 9 116 rfl) (K.dep 11 118 rfl) _ (by simp)
  · exact st_pick_t (.tmp 115) (.tmp 119) (.const (.bool false)) rfl (K.dep 8 115 rfl) (K.dep 12 119 rfl)
  · exact st_move (.tmp 120) rfl (K.dep 13 120 rfl)
  · exact st_move (.tmp 6) rfl ((K.old 6 rfl).trans x6)
  · exact st_eqi 28 (.tmp 122) (.const (.int .i64 0)) rfl .i64 (22) (0) (K.dep 15 122 rfl) rfl _ (by rfl)
  · exact st_move (.tmp 7) rfl ((K.old 7 rfl).trans x7)
  · exact st_eqbb (.tmp 123) (.tmp 124) rfl _ _ (K.dep 16 123 rfl) (K.dep 17 124 rfl) true (by rfl)
  · exact st_pick_t (.tmp 121) (.tmp 125) (.const (.bool false)) rfl (K.dep 14 121 rfl) (K.dep 18 125 rfl)
  · exact st_move (.tmp 126) rfl (K.dep 19 126 rfl)
  · exact st_move (.tmp 7) rfl ((K.old 7 rfl).trans x7)
  · exact st_move (.tmp 128) rfl (K.dep 21 128 rfl)
  · exact st_move (.tmp 6) rfl ((K.old 6 rfl).trans x6)
  · exact st_eqi 28 (.tmp 130) (.const (.int .i64 22)) rfl .i64 (22) (22) (K.dep 23 130 rfl) rfl _ (by rfl)
  · exact st_pick_f' (.tmp 129) (.const (.bool true)) (.tmp 131) rfl (K.dep 22 129 rfl) (K.dep 24 131 rfl)
  · exact st_pick_t (.tmp 127) (.tmp 132) (.const (.bool false)) rfl (K.dep 20 127 rfl) (K.dep 25 132 rfl)
  · exact st_move (.tmp 133) rfl (K.dep 26 133 rfl)
  · exact st_call 8 (.func 8) _ _ #[] rfl rfl rfl Tryd.enter8 (fk_of (awake_any _ (hK.below (bl.trans (Below.mono K.grow bl.size)))))
  · exact st_pick_t (.tmp 134) (.tmp 135) (.const (.bool false)) rfl (K.dep 27 134 rfl) (K.dep 28 135 rfl)
  · exact st_assign (.tmp 136) rfl (K.dep 29 136 rfl)
  intro f16 w16 A hb
  replace bl0 := bl
  replace x1 := (A.old 1 rfl).trans x1
  clear x2
  replace x20 := (A.old 20 rfl).trans x20
  replace x3 := (A.old 3 rfl).trans x3
  replace x4 := (A.old 4 rfl).trans x4
  replace x5 := (A.old 5 rfl).trans x5
  replace x6 := (A.old 6 rfl).trans x6
  replace x55 := (A.old 55 rfl).trans x55
  replace x77 := (A.old 77 rfl).trans x77
  replace x81 := (A.old 81 rfl).trans x81
  replace x7 := (A.old 7 rfl).trans x7
  have x2 : f16.eval (.tmp 2) = .bool true := A.has 30 2 rfl
  have lt_m1 := Ob.lt m1
  replace m1 := Ob.below m1 hb
  have lt_m3 := Ob.lt m3
  replace m3 := Ob.below m3 hb
  have lt_m4 := Ob.lt m4
  replace m4 := Ob.below m4 hb
  replace bl := (bl.trans (Below.mono hb bl.size))
  replace sz := A.size.trans sz
  replace df := A.defs.trans df
  clear A hb
  clear x7
  show Code.wp _ _ _ _ _
  refine wp_ret ?_
  repeat (first | with_reducible refine then_ret ?_ | with_reducible refine block_ret ?_)
  exact bodyPost_ret (v := .bool true) (ret_slot rfl f16 _ x2 _ _) df ⟨rfl, bl⟩
theorem both_z4 {old rt : List (BitVec 8)} (hold : old.length = 32) (hrt : rt.length = 32) {P : List (List (BitVec 8))} {pA : Option Addr} {pC : Nat} (w : World) (hK : Tab w) (hv : (Fk.hc P).f (.slice pA (P).length pC) w) {n : Nat} (hn : n ≤ 1152921504606846976) (hP0 : P.length = 0) (ho : ¬old = shaOf []) :
    Calls Tryd.prog 4 #[.agg (([.int .i64 0, .int .i64 ((n : Nat) : Int)] : List Value) ++ ((old).map V ++ ((rt).map V ++ (([.slice pA (P).length pC] : List Value))))).toArray] w fun e w' => e = .returned (.bool true) ∧ Below w.heap.size w w' := by
  have hvs := hc_hs hv
  obtain ⟨o0, eo⟩ : ∃ o, shaOf [] = o := ⟨_, rfl⟩
  have ho0 : o0.length = 32 := by rw [← eo]; exact shaOf_len _
  have hnil := sl_nil w
  go_enter Tryd.func4, Tryd.ntmps4
  refine code_both (fun f w1 => f.tmps.size = 194 ∧ f.defers = [] ∧ f.eval (.tmp 0) = .agg (([.int .i64 0, .int .i64 ((n : Nat) : Int)] : List Value) ++ ((old).map V ++ ((rt).map V ++ (([.slice pA (P).length pC] : List Value))))).toArray ∧ Below w.heap.size w (w1)) ⟨rfl, rfl, rfl, Below.refl _ _⟩ ?_
  rintro f0 w0 ⟨sz, df, x0, bl⟩
  have bl0 := bl
  refine wp_seq ?_
  refine wp_region_seq [] (by kernel_rfl) (by kernel_rfl) (by rw [sz]; kernel_rfl) (by kernel_rfl) trivial ?_
  intro f1 w1 A hb
  replace bl0 := bl
  replace x0 := (A.old 0 rfl).trans x0
  replace bl := (bl.trans (Below.mono hb bl.size))
  replace sz := A.size.trans sz
  replace df := A.defs.trans df
  clear A hb
  refine wl_one (.nw w1.heap.size 38 (([.int .i64 0, .int .i64 ((n : Nat) : Int)] : List Value) ++ ((old).map V ++ ((rt).map V ++ (([.slice pA (P).length pC] : List Value)))))) rfl 1 rfl (by rw [sz]; decide) (st_box 38 (.tmp 0) rfl _ _ (by rw [show _ = _ from x0]; kernel_rfl) (Nat.le_refl _)) ?_
  intro f2 w2 df2 sz2 old2 new2 hb
  replace bl0 := bl
  replace x0 := (old2 0 rfl).trans x0
  have x1 : Fk.f (.nw w1.heap.size 38 (([.int .i64 0, .int .i64 ((n : Nat) : Int)] : List Value) ++ ((old).map V ++ ((rt).map V ++ (([.slice pA (P).length pC] : List Value)))))) (f2.eval (.tmp 1)) w2 := new2
  replace bl := (bl.trans (Below.mono hb bl.size))
  replace sz := sz2.trans sz
  replace df := df2.trans df
  clear df2 sz2 old2 new2 hb
  obtain ⟨g1, hg1, e1, m1⟩ := x1
  have x1 := e1
  clear e1
  have hw1 : w.heap.size ≤ g1 := Nat.le_trans bl0.size hg1
  clear x0
  refine wl_one (.eq (.bool false)) rfl 2 rfl (by rw [sz]; decide) (st_assign (.const (.bool false)) rfl rfl) ?_
  intro f3 w3 df2 sz2 old2 new2 hb
  replace bl0 := bl
  replace x1 := (old2 1 rfl).trans x1
  have x2 : f3.eval (.tmp 2) = .bool false := new2
  have lt_m1 := Ob.lt m1
  replace m1 := Ob.below m1 hb
  replace bl := (bl.trans (Below.mono hb bl.size))
  replace sz := sz2.trans sz
  replace df := df2.trans df
  clear df2 sz2 old2 new2 hb
  refine wpList_nil ?_
  show Code.wp _ _ _ _ _
  refine wp_seq ?_
  refine wp_seq ?_
  refine wp_all_seq [.eq (.pointer (some ⟨g1, 66, none⟩)), .eq (.slice pA (P).length pC), .eq (.int .i64 (((P).length : Nat) : Int)), .eq (.bool false), .eq (.bool false), .eq (.pointer (some ⟨g1, 1, none⟩)), .eq (.int .i64 ((n : Nat) : Int)), .eq (.bool false), .eq (.bool false)] (by kernel_rfl) (by kernel_rfl) (by rw [sz]; kernel_rfl) (by kernel_rfl) ⟨fun hw ac u K => ?_, fun hw ac u K => ?_, fun hw ac u K => ?_, fun hw ac u K => ?_, fun hw ac u K => ?_, fun hw ac u K => ?_, fun hw ac u K => ?_, fun hw ac u K => ?_, fun hw ac u K => ?_, trivial⟩ ?_
  · exact st_field 38 4 (.tmp 1) rfl ((K.old 1 rfl).trans x1) (by kernel_rfl)
  · exact st_loadc 24 (.tmp 12) rfl (by kernel_rfl) (K.dep 0 12 rfl) (ob_cell_at (Ob.below m1 K.grow) (([.int .i64 0, .int .i64 ((n : Nat) : Int)] : List Value) ++ ((old).map V ++ ((rt).map V))) (([] : List Value)) _ 66 (by simp) (by simp [hold, hrt]))
  · exact st_lenc (.tmp 13) rfl ((P).length) rfl (fk_val (K.dep 1 13 rfl) (Fk.mono _ _ _ _ hv (bl.trans (Below.mono K.grow bl.size))))
  · exact st_gtr 3 (.tmp 14) (.const (.int .i64 80)) rfl .i64 ((((P).length : Nat) : Int)) (80) (K.dep 2 14 rfl) rfl _ (by rw [eq_comm, decide_eq_false_iff_not]; omega)
  · exact st_move (.tmp 15) rfl (K.dep 3 15 rfl)
  · exact st_field 38 1 (.tmp 1) rfl ((K.old 1 rfl).trans x1) (by kernel_rfl)
  · exact st_loadc 3 (.tmp 17) rfl (by kernel_rfl) (K.dep 5 17 rfl) (ob_cell_at (Ob.below m1 K.grow) (([.int .i64 0] : List Value)) ((old).map V ++ ((rt).map V ++ (([.slice pA (P).length pC] : List Value)))) _ 1 (by simp) (by rfl))
  · exact st_gtr 3 (.tmp 18) (.const (.int .i64 1152921504606846976)) rfl .i64 (((n : Nat) : Int)) (1152921504606846976) (K.dep 6 18 rfl) rfl _ (by rw [eq_comm, decide_eq_false_iff_not]; omega)
  · exact st_pick_f' (.tmp 16) (.const (.bool true)) (.tmp 19) rfl (K.dep 4 16 rfl) (K.dep 7 19 rfl)
  intro f4 w4 A hb
  replace bl0 := bl
  replace x1 := (A.old 1 rfl).trans x1
  replace x2 := (A.old 2 rfl).trans x2
  have x20 : f4.eval (.tmp 20) = .bool false := A.has 8 20 rfl
  have lt_m1 := Ob.lt m1
  replace m1 := Ob.below m1 hb
  replace bl := (bl.trans (Below.mono hb bl.size))
  replace sz := A.size.trans sz
  replace df := A.defs.trans df
  clear A hb
  show Code.wp _ _ _ _ _
  refine wp_cond_false x20 ?_
  refine wp_skip ?_
  show Code.wp _ _ _ _ _
  refine wp_seq ?_
  refine wp_region_seq [.eq (.pointer (some ⟨g1, 0, none⟩)), .eq (.int .i64 0), .eq (.pointer (some ⟨g1, 1, none⟩)), .eq (.int .i64 ((n : Nat) : Int)), .eq (.pointer (some ⟨g1, 2, none⟩)), .eq (.agg ((old).map V).toArray), .eq (.pointer (some ⟨g1, 66, none⟩)), .eq (.slice pA (P).length pC), .eq (.tuple #[.agg ((old).map V).toArray, .agg ((old).map V).toArray, .int .i64 0]), .eq (.tuple #[.agg ((old).map V).toArray, .agg ((old).map V).toArray, .int .i64 0]), .eq (.agg ((old).map V).toArray), .eq (.agg ((old).map V).toArray), .eq (.int .i64 0)] (by kernel_rfl) (by kernel_rfl) (by rw [sz]; kernel_rfl) (by kernel_rfl) ⟨fun hw ac u K => ?_, fun hw ac u K => ?_, fun hw ac u K => ?_, fun hw ac u K => ?_, fun hw ac u K => ?_, fun hw ac u K => ?_, fun hw ac u K => ?_, fun hw ac u K => ?_, fun hw ac u K => ?_, fun hw ac u K => ?_, fun hw ac u K => ?_, fun hw ac u K => ?_, fun hw ac u K => ?_, trivial⟩ ?_
  · exact st_field 38 0 (.tmp 1) rfl ((K.old 1 rfl).trans x1) (by kernel_rfl)
  · exact st_loadc 3 (.tmp 23) rfl (by kernel_rfl) (K.dep 0 23 rfl) (ob_cell_at (Ob.below m1 K.grow) (([] : List Value)) (([.int .i64 ((n : Nat) : Int)] : List Value) ++ ((old).map V ++ ((rt).map V ++ (([.slice pA (P).length pC] : List Value))))) _ 0 (by simp) (by rfl))
  · exact st_field 38 1 (.tmp 1) rfl ((K.old 1 rfl).trans x1) (by kernel_rfl)
  · exact st_loadc 3 (.tmp 25) rfl (by kernel_rfl) (K.dep 2 25 rfl) (ob_cell_at (Ob.below m1 K.grow) (([.int .i64 0] : List Value)) ((old).map V ++ ((rt).map V ++ (([.slice pA (P).length pC] : List Value)))) _ 1 (by simp) (by rfl))
  · exact st_field 38 2 (.tmp 1) rfl ((K.old 1 rfl).trans x1) (by kernel_rfl)
  · exact st_loadz 23 (.tmp 27) rfl (g1) 2 ((old).map V) (by kernel_rfl) (by rw [List.length_map, hold]; kernel_rfl) (K.dep 4 27 rfl) (ob_range_at (Ob.below m1 K.grow) (([.int .i64 0, .int .i64 ((n : Nat) : Int)] : List Value)) ((rt).map V ++ (([.slice pA (P).length pC] : List Value))) _ 2 (by simp) (by rfl))
  · exact st_field 38 4 (.tmp 1) rfl ((K.old 1 rfl).trans x1) (by kernel_rfl)
  · exact st_loadc 24 (.tmp 29) rfl (by kernel_rfl) (K.dep 6 29 rfl) (ob_cell_at (Ob.below m1 K.grow) (([.int .i64 0, .int .i64 ((n : Nat) : Int)] : List Value) ++ ((old).map V ++ ((rt).map V))) (([] : List Value)) _ 66 (by simp) (by simp [hold, hrt]))
  · exact st_call 14 (.func 14) _ _ #[.int .i64 0, .int .i64 ((n : Nat) : Int), .agg ((old).map V).toArray, .slice pA (P).length pC] rfl rfl (arg4 (K.dep 1 24 rfl) (K.dep 3 26 rfl) (K.dep 5 28 rfl) (K.dep 7 30 rfl)) Tryd.enter14 (fk_both_zero hold hn (Fk.mono _ _ _ _ hv (bl.trans (Below.mono K.grow bl.size))) (by omega) (hK.below (bl.trans (Below.mono K.grow bl.size))) hP0)
  · exact st_move (.tmp 31) rfl (K.dep 8 31 rfl)
  · exact st_tri0 (.tmp 22) rfl (K.dep 9 22 rfl)
  · exact st_tri1 (.tmp 22) rfl (K.dep 9 22 rfl)
  · exact st_tri2 (.tmp 22) rfl (K.dep 9 22 rfl)
  intro f5 w5 A hb
  replace bl0 := bl
  replace x1 := (A.old 1 rfl).trans x1
  replace x2 := (A.old 2 rfl).trans x2
  replace x20 := (A.old 20 rfl).trans x20
  have x32 : f5.eval (.tmp 32) = .agg ((old).map V).toArray := A.has 10 32 rfl
  have x33 : f5.eval (.tmp 33) = .agg ((old).map V).toArray := A.has 11 33 rfl
  have x34 : f5.eval (.tmp 34) = .int .i64 0 := A.has 12 34 rfl
  have lt_m1 := Ob.lt m1
  replace m1 := Ob.below m1 hb
  replace bl := (bl.trans (Below.mono hb bl.size))
  replace sz := A.size.trans sz
  replace df := A.defs.trans df
  clear A hb
  refine wl_one (.nw w5.heap.size 23 ((hz).map V)) rfl 3 rfl (by rw [sz]; decide) (st_alloc23 rfl _ (Nat.le_refl _)) ?_
  intro f6 w6 df2 sz2 old2 new2 hb
  replace bl0 := bl
  replace x1 := (old2 1 rfl).trans x1
  replace x2 := (old2 2 rfl).trans x2
  replace x20 := (old2 20 rfl).trans x20
  replace x32 := (old2 32 rfl).trans x32
  replace x33 := (old2 33 rfl).trans x33
  replace x34 := (old2 34 rfl).trans x34
  have x3 : Fk.f (.nw w5.heap.size 23 ((hz).map V)) (f6.eval (.tmp 3)) w6 := new2
  have lt_m1 := Ob.lt m1
  replace m1 := Ob.below m1 hb
  replace bl := (bl.trans (Below.mono hb bl.size))
  replace sz := sz2.trans sz
  replace df := df2.trans df
  clear df2 sz2 old2 new2 hb
  obtain ⟨g3, hg3, e3, m3⟩ := x3
  have x3 := e3
  clear e3
  have nm1_3 : g1 ≠ g3 := Nat.ne_of_lt (Nat.lt_of_lt_of_le lt_m1 hg3)
  have hw3 : w.heap.size ≤ g3 := Nat.le_trans bl0.size hg3
  refine wl_one (.nw w6.heap.size 23 ((hz).map V)) rfl 4 rfl (by rw [sz]; decide) (st_alloc23 rfl _ (Nat.le_refl _)) ?_
  intro f7 w7 df2 sz2 old2 new2 hb
  replace bl0 := bl
  replace x1 := (old2 1 rfl).trans x1
  replace x2 := (old2 2 rfl).trans x2
  replace x20 := (old2 20 rfl).trans x20
  replace x32 := (old2 32 rfl).trans x32
  replace x33 := (old2 33 rfl).trans x33
  replace x34 := (old2 34 rfl).trans x34
  replace x3 := (old2 3 rfl).trans x3
  have x4 : Fk.f (.nw w6.heap.size 23 ((hz).map V)) (f7.eval (.tmp 4)) w7 := new2
  have lt_m1 := Ob.lt m1
  replace m1 := Ob.below m1 hb
  have lt_m3 := Ob.lt m3
  replace m3 := Ob.below m3 hb
  replace bl := (bl.trans (Below.mono hb bl.size))
  replace sz := sz2.trans sz
  replace df := df2.trans df
  clear df2 sz2 old2 new2 hb
  obtain ⟨g4, hg4, e4, m4⟩ := x4
  have x4 := e4
  clear e4
  have nm1_4 : g1 ≠ g4 := Nat.ne_of_lt (Nat.lt_of_lt_of_le lt_m1 hg4)
  have nm3_4 : g3 ≠ g4 := Nat.ne_of_lt (Nat.lt_of_lt_of_le lt_m3 hg4)
  have hw4 : w.heap.size ≤ g4 := Nat.le_trans bl0.size hg4
  refine wl_store rfl (.tmp 3) (.tmp 32) rfl rfl (g3) (old) (hz) x3 x32 m3 hz_len hold ?_
  replace m1 : Ob (w7.setRow g3 ((old).map V : List Value).toArray) (g1) 38 (([.int .i64 0, .int .i64 ((n : Nat) : Int)] : List Value) ++ ((old).map V ++ ((rt).map V ++ (([.slice pA (P).length pC] : List Value))))) := Ob.setRow_other m1 _ nm1_3
  replace m3 : Ob (w7.setRow g3 ((old).map V : List Value).toArray) (g3) 23 ((old).map V) := Ob.setRow m3 ((old).map V)
  replace m4 : Ob (w7.setRow g3 ((old).map V : List Value).toArray) (g4) 23 ((hz).map V) := Ob.setRow_other m4 _ nm3_4.symm
  replace bl : Below w.heap.size w (w7.setRow g3 ((old).map V : List Value).toArray) := bl.trans (below_setRow _ _ _ _ hw3)
  generalize w7.setRow g3 ((old).map V : List Value).toArray = w8b at bl m1 m3 m4 ⊢
  clear x32
  refine wl_store rfl (.tmp 4) (.tmp 33) rfl rfl (g4) (old) (hz) x4 x33 m4 hz_len hold ?_
  replace m1 : Ob (w8b.setRow g4 ((old).map V : List Value).toArray) (g1) 38 (([.int .i64 0, .int .i64 ((n : Nat) : Int)] : List Value) ++ ((old).map V ++ ((rt).map V ++ (([.slice pA (P).length pC] : List Value))))) := Ob.setRow_other m1 _ nm1_4
  replace m3 : Ob (w8b.setRow g4 ((old).map V : List Value).toArray) (g3) 23 ((old).map V) := Ob.setRow_other m3 _ nm3_4
  replace m4 : Ob (w8b.setRow g4 ((old).map V : List Value).toArray) (g4) 23 ((old).map V) := Ob.setRow m4 ((old).map V)
  replace bl : Below w.heap.size w (w8b.setRow g4 ((old).map V : List Value).toArray) := bl.trans (below_setRow _ _ _ _ hw4)
  generalize w8b.setRow g4 ((old).map V : List Value).toArray = w9b at bl m1 m3 m4 ⊢
  clear x33
  refine wl_one (.eq (.int .i64 0)) rfl 5 rfl (by rw [sz]; decide) (st_assign (.tmp 34) rfl x34) ?_
  intro f10 w10 df2 sz2 old2 new2 hb
  replace bl0 := bl
  replace x1 := (old2 1 rfl).trans x1
  replace x2 := (old2 2 rfl).trans x2
  replace x20 := (old2 20 rfl).trans x20
  replace x34 := (old2 34 rfl).trans x34
  replace x3 := (old2 3 rfl).trans x3
  replace x4 := (old2 4 rfl).trans x4
  have x5 : f10.eval (.tmp 5) = .int .i64 0 := new2
  have lt_m1 := Ob.lt m1
  replace m1 := Ob.below m1 hb
  have lt_m3 := Ob.lt m3
  replace m3 := Ob.below m3 hb
  have lt_m4 := Ob.lt m4
  replace m4 := Ob.below m4 hb
  replace bl := (bl.trans (Below.mono hb bl.size))
  replace sz := sz2.trans sz
  replace df := df2.trans df
  clear df2 sz2 old2 new2 hb
  refine wpList_nil ?_
  clear x34
  show Code.wp _ _ _ _ _
  refine wp_seq ?_
  refine wp_all_seq [.eq (.pointer (some ⟨g1, 0, none⟩)), .eq (.int .i64 0), .eq (.pointer (some ⟨g1, 1, none⟩)), .eq (.int .i64 ((n : Nat) : Int)), .eq (.pointer (some ⟨g1, 2, none⟩)), .eq (.agg ((old).map V).toArray), .eq (.pointer (some ⟨g1, 34, none⟩)), .eq (.agg ((rt).map V).toArray), .eq (.pointer (some ⟨g1, 66, none⟩)), .eq (.slice pA (P).length pC), .eq (.int .i64 22), .eq (.int .i64 22)] (by kernel_rfl) (by kernel_rfl) (by rw [sz]; kernel_rfl) (by kernel_rfl) ⟨fun hw ac u K => ?_, fun hw ac u K => ?_, fun hw ac u K => ?_, fun hw ac u K => ?_, fun hw ac u K => ?_, fun hw ac u K => ?_, fun hw ac u K => ?_, fun hw ac u K => ?_, fun hw ac u K => ?_, fun hw ac u K => ?_, fun hw ac u K => ?_, fun hw ac u K => ?_, trivial⟩ ?_
  · exact st_field 38 0 (.tmp 1) rfl ((K.old 1 rfl).trans x1) (by kernel_rfl)
  · exact st_loadc 3 (.tmp 35) rfl (by kernel_rfl) (K.dep 0 35 rfl) (ob_cell_at (Ob.below m1 K.grow) (([] : List Value)) (([.int .i64 ((n : Nat) : Int)] : List Value) ++ ((old).map V ++ ((rt).map V ++ (([.slice pA (P).length pC] : List Value))))) _ 0 (by simp) (by rfl))
  · exact st_field 38 1 (.tmp 1) rfl ((K.old 1 rfl).trans x1) (by kernel_rfl)
  · exact st_loadc 3 (.tmp 37) rfl (by kernel_rfl) (K.dep 2 37 rfl) (ob_cell_at (Ob.below m1 K.grow) (([.int .i64 0] : List Value)) ((old).map V ++ ((rt).map V ++ (([.slice pA (P).length pC] : List Value)))) _ 1 (by simp) (by rfl))
  · exact st_field 38 2 (.tmp 1) rfl ((K.old 1 rfl).trans x1) (by kernel_rfl)
  · exact st_loadz 23 (.tmp 39) rfl (g1) 2 ((old).map V) (by kernel_rfl) (by rw [List.length_map, hold]; kernel_rfl) (K.dep 4 39 rfl) (ob_range_at (Ob.below m1 K.grow) (([.int .i64 0, .int .i64 ((n : Nat) : Int)] : List Value)) ((rt).map V ++ (([.slice pA (P).length pC] : List Value))) _ 2 (by simp) (by rfl))
  · exact st_field 38 3 (.tmp 1) rfl ((K.old 1 rfl).trans x1) (by kernel_rfl)
  · exact st_loadz 23 (.tmp 41) rfl (g1) 34 ((rt).map V) (by kernel_rfl) (by rw [List.length_map, hrt]; kernel_rfl) (K.dep 6 41 rfl) (ob_range_at (Ob.below m1 K.grow) (([.int .i64 0, .int .i64 ((n : Nat) : Int)] : List Value) ++ ((old).map V)) (([.slice pA (P).length pC] : List Value)) _ 34 (by simp) (by simp [hold]))
  · exact st_field 38 4 (.tmp 1) rfl ((K.old 1 rfl).trans x1) (by kernel_rfl)
  · exact st_loadc 24 (.tmp 43) rfl (by kernel_rfl) (K.dep 8 43 rfl) (ob_cell_at (Ob.below m1 K.grow) (([.int .i64 0, .int .i64 ((n : Nat) : Int)] : List Value) ++ ((old).map V ++ ((rt).map V))) (([] : List Value)) _ 66 (by simp) (by simp [hold, hrt]))
  · exact st_call 15 (.func 15) _ _ #[.int .i64 0, .int .i64 ((n : Nat) : Int), .agg ((old).map V).toArray, .agg ((rt).map V).toArray, .slice pA (P).length pC] rfl rfl (arg5 (K.dep 1 36 rfl) (K.dep 3 38 rfl) (K.dep 5 40 rfl) (K.dep 7 42 rfl) (K.dep 9 44 rfl)) Tryd.enter15 (fk_on_zero hold hrt hn (Fk.mono _ _ _ _ hv (bl.trans (Below.mono K.grow bl.size))) (by omega) (hK.below (bl.trans (Below.mono K.grow bl.size))) 22 (by rw [if_neg (fun h => ho h.1)]))
  · exact st_assign (.tmp 45) rfl (K.dep 10 45 rfl)
  intro f11 w11 A hb
  replace bl0 := bl
  replace x1 := (A.old 1 rfl).trans x1
  replace x2 := (A.old 2 rfl).trans x2
  replace x20 := (A.old 20 rfl).trans x20
  replace x3 := (A.old 3 rfl).trans x3
  replace x4 := (A.old 4 rfl).trans x4
  replace x5 := (A.old 5 rfl).trans x5
  have x6 : f11.eval (.tmp 6) = .int .i64 22 := A.has 11 6 rfl
  have lt_m1 := Ob.lt m1
  replace m1 := Ob.below m1 hb
  have lt_m3 := Ob.lt m3
  replace m3 := Ob.below m3 hb
  have lt_m4 := Ob.lt m4
  replace m4 := Ob.below m4 hb
  replace bl := (bl.trans (Below.mono hb bl.size))
  replace sz := A.size.trans sz
  replace df := A.defs.trans df
  clear A hb
  show Code.wp _ _ _ _ _
  refine wp_seq ?_
  refine wp_seq ?_
  refine wp_all_seq [.eq (.pointer (some ⟨g1, 0, none⟩)), .eq (.int .i64 0), .eq (.bool false), .eq (.bool false), .eq (.pointer (some ⟨g1, 0, none⟩)), .eq (.int .i64 0), .eq (.pointer (some ⟨g1, 1, none⟩)), .eq (.int .i64 ((n : Nat) : Int)), .eq (.bool false), .eq (.bool false)] (by kernel_rfl) (by kernel_rfl) (by rw [sz]; kernel_rfl) (by kernel_rfl) ⟨fun hw ac u K => ?_, fun hw ac u K => ?_, fun hw ac u K => ?_, fun hw ac u K => ?_, fun hw ac u K => ?_, fun hw ac u K => ?_, fun hw ac u K => ?_, fun hw ac u K => ?_, fun hw ac u K => ?_, fun hw ac u K => ?_, trivial⟩ ?_
  · exact st_field 38 0 (.tmp 1) rfl ((K.old 1 rfl).trans x1) (by kernel_rfl)
  · exact st_loadc 3 (.tmp 46) rfl (by kernel_rfl) (K.dep 0 46 rfl) (ob_cell_at (Ob.below m1 K.grow) (([] : List Value)) (([.int .i64 ((n : Nat) : Int)] : List Value) ++ ((old).map V ++ ((rt).map V ++ (([.slice pA (P).length pC] : List Value))))) _ 0 (by simp) (by rfl))
  · exact st_lss 3 (.tmp 47) (.const (.int .i64 0)) rfl .i64 (0) (0) (K.dep 1 47 rfl) rfl _ (by rw [eq_comm, decide_eq_false_iff_not]; omega)
  · exact st_move (.tmp 48) rfl (K.dep 2 48 rfl)
  · exact st_field 38 0 (.tmp 1) rfl ((K.old 1 rfl).trans x1) (by kernel_rfl)
  · exact st_loadc 3 (.tmp 50) rfl (by kernel_rfl) (K.dep 4 50 rfl) (ob_cell_at (Ob.below m1 K.grow) (([] : List Value)) (([.int .i64 ((n : Nat) : Int)] : List Value) ++ ((old).map V ++ ((rt).map V ++ (([.slice pA (P).length pC] : List Value))))) _ 0 (by simp) (by rfl))
  · exact st_field 38 1 (.tmp 1) rfl ((K.old 1 rfl).trans x1) (by kernel_rfl)
  · exact st_loadc 3 (.tmp 52) rfl (by kernel_rfl) (K.dep 6 52 rfl) (ob_cell_at (Ob.below m1 K.grow) (([.int .i64 0] : List Value)) ((old).map V ++ ((rt).map V ++ (([.slice pA (P).length pC] : List Value)))) _ 1 (by simp) (by rfl))
  · exact st_gtr 3 (.tmp 51) (.tmp 53) rfl .i64 (0) (((n : Nat) : Int)) (K.dep 5 51 rfl) (K.dep 7 53 rfl) _ (by rw [eq_comm, decide_eq_false_iff_not]; omega)
  · exact st_pick_f' (.tmp 49) (.const (.bool true)) (.tmp 54) rfl (K.dep 3 49 rfl) (K.dep 8 54 rfl)
  intro f12 w12 A hb
  replace bl0 := bl
  replace x1 := (A.old 1 rfl).trans x1
  replace x2 := (A.old 2 rfl).trans x2
  replace x20 := (A.old 20 rfl).trans x20
  replace x3 := (A.old 3 rfl).trans x3
  replace x4 := (A.old 4 rfl).trans x4
  replace x5 := (A.old 5 rfl).trans x5
  replace x6 := (A.old 6 rfl).trans x6
  have x55 : f12.eval (.tmp 55) = .bool false := A.has 9 55 rfl
  have lt_m1 := Ob.lt m1
  replace m1 := Ob.below m1 hb
  have lt_m3 := Ob.lt m3
  replace m3 := Ob.below m3 hb
  have lt_m4 := Ob.lt m4
  replace m4 := Ob.below m4 hb
  replace bl := (bl.trans (Below.mono hb bl.size))
  replace sz := A.size.trans sz
  replace df := A.defs.trans df
  clear A hb
  show Code.wp _ _ _ _ _
  refine wp_cond_false x55 ?_
  refine wp_skip ?_
  show Code.wp _ _ _ _ _
  refine wp_seq ?_
  refine wp_seq ?_
  refine wp_all_seq [.eq (.pointer (some ⟨g1, 0, none⟩)), .eq (.int .i64 0), .eq (.bool true)] (by kernel_rfl) (by kernel_rfl) (by rw [sz]; kernel_rfl) (by kernel_rfl) ⟨fun hw ac u K => ?_, fun hw ac u K => ?_, fun hw ac u K => ?_, trivial⟩ ?_
  · exact st_field 38 0 (.tmp 1) rfl ((K.old 1 rfl).trans x1) (by kernel_rfl)
  · exact st_loadc 3 (.tmp 75) rfl (by kernel_rfl) (K.dep 0 75 rfl) (ob_cell_at (Ob.below m1 K.grow) (([] : List Value)) (([.int .i64 ((n : Nat) : Int)] : List Value) ++ ((old).map V ++ ((rt).map V ++ (([.slice pA (P).length pC] : List Value))))) _ 0 (by simp) (by rfl))
  · exact st_eqi 3 (.tmp 76) (.const (.int .i64 0)) rfl .i64 (0) (0) (K.dep 1 76 rfl) rfl _ (by simp)
  intro f13 w13 A hb
  replace bl0 := bl
  replace x1 := (A.old 1 rfl).trans x1
  replace x2 := (A.old 2 rfl).trans x2
  replace x20 := (A.old 20 rfl).trans x20
  replace x3 := (A.old 3 rfl).trans x3
  replace x4 := (A.old 4 rfl).trans x4
  replace x5 := (A.old 5 rfl).trans x5
  replace x6 := (A.old 6 rfl).trans x6
  replace x55 := (A.old 55 rfl).trans x55
  have x77 : f13.eval (.tmp 77) = .bool true := A.has 2 77 rfl
  have lt_m1 := Ob.lt m1
  replace m1 := Ob.below m1 hb
  have lt_m3 := Ob.lt m3
  replace m3 := Ob.below m3 hb
  have lt_m4 := Ob.lt m4
  replace m4 := Ob.below m4 hb
  replace bl := (bl.trans (Below.mono hb bl.size))
  replace sz := A.size.trans sz
  replace df := A.defs.trans df
  clear A hb
  show Code.wp _ _ _ _ _
  refine wp_cond_true x77 ?_
  refine wp_seq ?_
  refine wp_seq ?_
  refine wp_all_seq [.eq (.pointer (some ⟨g1, 66, none⟩)), .eq (.slice pA (P).length pC), .eq (.int .i64 (((P).length : Nat) : Int)), .eq (.bool false)] (by kernel_rfl) (by kernel_rfl) (by rw [sz]; kernel_rfl) (by kernel_rfl) ⟨fun hw ac u K => ?_, fun hw ac u K => ?_, fun hw ac u K => ?_, fun hw ac u K => ?_, trivial⟩ ?_
  · exact st_field 38 4 (.tmp 1) rfl ((K.old 1 rfl).trans x1) (by kernel_rfl)
  · exact st_loadc 24 (.tmp 78) rfl (by kernel_rfl) (K.dep 0 78 rfl) (ob_cell_at (Ob.below m1 K.grow) (([.int .i64 0, .int .i64 ((n : Nat) : Int)] : List Value) ++ ((old).map V ++ ((rt).map V))) (([] : List Value)) _ 66 (by simp) (by simp [hold, hrt]))
  · exact st_lenc (.tmp 79) rfl ((P).length) rfl (fk_val (K.dep 1 79 rfl) (Fk.mono _ _ _ _ hv (bl.trans (Below.mono K.grow bl.size))))
  · exact st_gtr 3 (.tmp 80) (.const (.int .i64 0)) rfl .i64 ((((P).length : Nat) : Int)) (0) (K.dep 2 80 rfl) rfl _ (by rw [eq_comm, decide_eq_false_iff_not]; omega)
  intro f14 w14 A hb
  replace bl0 := bl
  replace x1 := (A.old 1 rfl).trans x1
  replace x2 := (A.old 2 rfl).trans x2
  replace x20 := (A.old 20 rfl).trans x20
  replace x3 := (A.old 3 rfl).trans x3
  replace x4 := (A.old 4 rfl).trans x4
  replace x5 := (A.old 5 rfl).trans x5
  replace x6 := (A.old 6 rfl).trans x6
  replace x55 := (A.old 55 rfl).trans x55
  replace x77 := (A.old 77 rfl).trans x77
  have x81 : f14.eval (.tmp 81) = .bool false := A.has 3 81 rfl
  have lt_m1 := Ob.lt m1
  replace m1 := Ob.below m1 hb
  have lt_m3 := Ob.lt m3
  replace m3 := Ob.below m3 hb
  have lt_m4 := Ob.lt m4
  replace m4 := Ob.below m4 hb
  replace bl := (bl.trans (Below.mono hb bl.size))
  replace sz := A.size.trans sz
  replace df := A.defs.trans df
  clear A hb
  show Code.wp _ _ _ _ _
  refine wp_cond_false x81 ?_
  refine wp_skip ?_
  show Code.wp _ _ _ _ _
  refine wp_seq ?_
  refine wp_all2 [.eq (.pointer (some ⟨g1, 2, none⟩)), .eq (.agg ((old).map V).toArray), .eq (.agg ((o0).map V).toArray), .eq (.bool false), .eq (.bool false), .any, .any, .any, .eq undef, .any, .any, .any, .any, .any, .any, .eq (.bool false), .eq (.bool false)] Tryd.mixed (by kernel_rfl) (by kernel_rfl) (by rw [sz]; kernel_rfl) (by kernel_rfl) ⟨fun hw ac u K => ?_, fun hw ac u K => ?_, fun hw ac u K => ?_, fun hw ac u K => ?_, fun hw ac u K => ?_, fun hw ac u K => ?_, fun hw ac u K => ?_, fun hw ac u K => ?_, fun hw ac u K => ?_, fun hw ac u K => ?_, fun hw ac u K => ?_, fun hw ac u K => ?_, fun hw ac u K => ?_, fun hw ac u K => ?_, fun hw ac u K => ?_, fun hw ac u K => ?_, fun hw ac u K => ?_, trivial⟩ ?_
  · exact st_field 38 2 (.tmp 1) rfl ((K.old 1 rfl).trans x1) (by kernel_rfl)
  · exact st_loadz 23 (.tmp 91) rfl (g1) 2 ((old).map V) (by kernel_rfl) (by rw [List.length_map, hold]; kernel_rfl) (K.dep 0 91 rfl) (ob_range_at (Ob.below m1 K.grow) (([.int .i64 0, .int .i64 ((n : Nat) : Int)] : List Value)) ((rt).map V ++ (([.slice pA (P).length pC] : List Value))) _ 2 (by simp) (by rfl))
  · exact st_call 16 (.func 16) _ _ #[.slice none 0 0] rfl rfl (one_arg rfl) Tryd.enter16 (by rw [← eo]; exact fk_sum (by simp) (hK.below (bl.trans (Below.mono K.grow bl.size))) (Fk.mono _ _ _ _ hnil (bl.trans (Below.mono K.grow bl.size))))
  · exact st_eqh (.tmp 92) (.tmp 93) rfl (old) (o0) hold ho0 (K.dep 1 92 rfl) (K.dep 2 93 rfl) _ (by rw [eq_comm, decide_eq_false_iff_not, ← eo]; exact ho)
  · exact st_move (.tmp 94) rfl (K.dep 3 94 rfl)
  · exact (Bool.false_ne_true hw).elim
  · exact (Bool.false_ne_true hw).elim
  · exact (Bool.false_ne_true hw).elim
  · exact (Bool.false_ne_true hw).elim
  · exact (Bool.false_ne_true hw).elim
  · exact (Bool.false_ne_true hw).elim
  · exact (Bool.false_ne_true hw).elim
  · exact (Bool.false_ne_true hw).elim
  · exact (Bool.false_ne_true hw).elim
  · exact (Bool.false_ne_true hw).elim
  · exact st_pick_f' (.tmp 95) (.tmp 105) (.const (.bool false)) rfl (K.dep 4 95 rfl) rfl
  · exact st_assign (.tmp 106) rfl (K.dep 15 106 rfl)
  intro f15 w15 A hb
  replace bl0 := bl
  replace x1 := (A.old 1 rfl).trans x1
  replace x2 := (A.old 2 rfl).trans x2
  replace x20 := (A.old 20 rfl).trans x20
  replace x3 := (A.old 3 rfl).trans x3
  replace x4 := (A.old 4 rfl).trans x4
  replace x5 := (A.old 5 rfl).trans x5
  replace x6 := (A.old 6 rfl).trans x6
  replace x55 := (A.old 55 rfl).trans x55
  replace x77 := (A.old 77 rfl).trans x77
  replace x81 := (A.old 81 rfl).trans x81
  have x7 : f15.eval (.tmp 7) = .bool false := A.has 16 7 rfl
  have lt_m1 := Ob.lt m1
  replace m1 := Ob.below m1 hb
  have lt_m3 := Ob.lt m3
  replace m3 := Ob.below m3 hb
  have lt_m4 := Ob.lt m4
  replace m4 := Ob.below m4 hb
  replace bl := (bl.trans (Below.mono hb bl.size))
  replace sz := A.size.trans sz
  replace df := A.defs.trans df
  clear A hb
  show Code.wp _ _ _ _ _
  refine wp_seq ?_
  refine wp_all_seq [.eq (.int .i64 0), .eq (.bool true), .eq (.bool true), .eq (.agg ((old).map V).toArray), .eq (.pointer (some ⟨g1, 2, none⟩)), .eq (.agg ((old).map V).toArray), .eq (.bool true), .eq (.bool true), .eq (.bool true), .eq (.agg ((old).map V).toArray), .eq (.pointer (some ⟨g1, 2, none⟩)), .eq (.agg ((old).map V).toArray), .eq (.bool true), .eq (.bool true), .eq (.bool true), .eq (.int .i64 22), .eq (.bool false), .eq (.bool false), .eq (.bool true), .eq (.bool true), .eq (.bool true), .eq (.bool false), .eq (.bool false), .eq (.int .i64 22), .eq (.bool true), .eq (.bool true), .eq (.bool true), .eq (.bool true), .eq (.bool true), .eq (.bool true), .eq (.bool true)] (by kernel_rfl) (by kernel_rfl) (by rw [sz]; kernel_rfl) (by kernel_rfl) ⟨fun hw ac u K => ?_, fun hw ac u K => ?_, fun hw ac u K => ?_, fun hw ac u K => ?_, fun hw ac u K => ?_, fun hw ac u K => ?_, fun hw ac u K => ?_, fun hw ac u K => ?_, fun hw ac u K => ?_, fun hw ac u K => ?_, fun hw ac u K => ?_, fun hw ac u K => ?_, fun hw ac u K => ?_, fun hw ac u K => ?_, fun hw ac u K => ?_, fun hw ac u K => ?_, fun hw ac u K => ?_, fun hw ac u K => ?_, fun hw ac u K => ?_, fun hw ac u K => ?_, fun hw ac u K => ?_, fun hw ac u K => ?_, fun hw ac u K => ?_, fun hw ac u K => ?_, fun hw ac u K => ?_, fun hw ac u K => ?_, fun hw ac u K => ?_, fun hw ac u K => ?_, fun hw ac u K => ?_, fun hw ac u K => ?_, fun hw ac u K => ?_, trivial⟩ ?_
  · exact st_move (.tmp 5) rfl ((K.old 5 rfl).trans x5)
  · exact st_eqi 28 (.tmp 107) (.const (.int .i64 0)) rfl .i64 (0) (0) (K.dep 0 107 rfl) rfl _ (by rfl)
  · exact st_move (.tmp 108) rfl (K.dep 1 108 rfl)
  · exact st_load23 (.tmp 3) rfl (g3) (old) ((K.old 3 rfl).trans x3) hold (Ob.below m3 K.grow)
  · exact st_field 38 2 (.tmp 1) rfl ((K.old 1 rfl).trans x1) (by kernel_rfl)
  · exact st_loadz 23 (.tmp 111) rfl (g1) 2 ((old).map V) (by kernel_rfl) (by rw [List.length_map, hold]; kernel_rfl) (K.dep 4 111 rfl) (ob_range_at (Ob.below m1 K.grow) (([.int .i64 0, .int .i64 ((n : Nat) : Int)] : List Value)) ((rt).map V ++ (([.slice pA (P).length pC] : List Value))) _ 2 (by simp) (by rfl))
  · exact st_eqh (.tmp 110) (.tmp 112) rfl (old) (old) hold hold (K.dep 3 110 rfl) (K.dep 5 112 rfl) _ (by simp)
  · exact st_pick_t (.tmp 109) (.tmp 113) (.const (.bool false)) rfl (K.dep 2 109 rfl) (K.dep 6 113 rfl)
  · exact st_move (.tmp 114) rfl (K.dep 7 114 rfl)
  · exact st_load23 (.tmp 4) rfl (g4) (old) ((K.old 4 rfl).trans x4) hold (Ob.below m4 K.grow)
  · exact st_field 38 2 (.tmp 1) rfl ((K.old 1 rfl).trans x1) (by kernel_rfl)
  · exact st_loadz 23 (.tmp 117) rfl (g1) 2 ((old).map V) (by kernel_rfl) (by rw [List.length_map, hold]; kernel_rfl) (K.dep 10 117 rfl) (ob_range_at (Ob.below m1 K.grow) (([.int .i64 0, .int .i64 ((n : Nat) : Int)] : List Value)) ((rt).map V ++ (([.slice pA (P).length pC] : List Value))) _ 2 (by simp) (by rfl))
  · exact st_eqh (.tmp 116) (.tmp 118) rfl (old) (old) hold hold (K.dep 9 116 rfl) (K.dep 11 118 rfl) _ (by simp)
  · exact st_pick_t (.tmp 115) (.tmp 119) (.const (.bool false)) rfl (K.dep 8 115 rfl) (K.dep 12 119 rfl)
  · exact st_move (.tmp 120) rfl (K.dep 13 120 rfl)
  · exact st_move (.tmp 6) rfl ((K.old 6 rfl).trans x6)
  · exact st_eqi 28 (.tmp 122) (.const (.int .i64 0)) rfl .i64 (22) (0) (K.dep 15 122 rfl) rfl _ (by rfl)
  · exact st_move (.tmp 7) rfl ((K.old 7 rfl).trans x7)
  · exact st_eqbb (.tmp 123) (.tmp 124) rfl _ _ (K.dep 16 123 rfl) (K.dep 17 124 rfl) true (by rfl)
  · exact st_pick_t (.tmp 121) (.tmp 125) (.const (.bool false)) rfl (K.dep 14 121 rfl) (K.dep 18 125 rfl)
  · exact st_move (.tmp 126) rfl (K.dep 19 126 rfl)
  · exact st_move (.tmp 7) rfl ((K.old 7 rfl).trans x7)
  · exact st_move (.tmp 128) rfl (K.dep 21 128 rfl)
  · exact st_move (.tmp 6) rfl ((K.old 6 rfl).trans x6)
  · exact st_eqi 28 (.tmp 130) (.const (.int .i64 22)) rfl .i64 (22) (22) (K.dep 23 130 rfl) rfl _ (by rfl)
  · exact st_pick_f' (.tmp 129) (.const (.bool true)) (.tmp 131) rfl (K.dep 22 129 rfl) (K.dep 24 131 rfl)
  · exact st_pick_t (.tmp 127) (.tmp 132) (.const (.bool false)) rfl (K.dep 20 127 rfl) (K.dep 25 132 rfl)
  · exact st_move (.tmp 133) rfl (K.dep 26 133 rfl)
  · exact st_call 8 (.func 8) _ _ #[] rfl rfl rfl Tryd.enter8 (fk_of (awake_any _ (hK.below (bl.trans (Below.mono K.grow bl.size)))))
  · exact st_pick_t (.tmp 134) (.tmp 135) (.const (.bool false)) rfl (K.dep 27 134 rfl) (K.dep 28 135 rfl)
  · exact st_assign (.tmp 136) rfl (K.dep 29 136 rfl)
  intro f16 w16 A hb
  replace bl0 := bl
  replace x1 := (A.old 1 rfl).trans x1
  clear x2
  replace x20 := (A.old 20 rfl).trans x20
  replace x3 := (A.old 3 rfl).trans x3
  replace x4 := (A.old 4 rfl).trans x4
  replace x5 := (A.old 5 rfl).trans x5
  replace x6 := (A.old 6 rfl).trans x6
  replace x55 := (A.old 55 rfl).trans x55
  replace x77 := (A.old 77 rfl).trans x77
  replace x81 := (A.old 81 rfl).trans x81
  replace x7 := (A.old 7 rfl).trans x7
  have x2 : f16.eval (.tmp 2) = .bool true := A.has 30 2 rfl
  have lt_m1 := Ob.lt m1
  replace m1 := Ob.below m1 hb
  have lt_m3 := Ob.lt m3
  replace m3 := Ob.below m3 hb
  have lt_m4 := Ob.lt m4
  replace m4 := Ob.below m4 hb
  replace bl := (bl.trans (Below.mono hb bl.size))
  replace sz := A.size.trans sz
  replace df := A.defs.trans df
  clear A hb
  clear x7
  show Code.wp _ _ _ _ _
  refine wp_ret ?_
  repeat (first | with_reducible refine then_ret ?_ | with_reducible refine block_ret ?_)
  exact bodyPost_ret (v := .bool true) (ret_slot rfl f16 _ x2 _ _) df ⟨rfl, bl⟩
theorem both_z5 {old rt : List (BitVec 8)} (hold : old.length = 32) (hrt : rt.length = 32) {P : List (List (BitVec 8))} {pA : Option Addr} {pC : Nat} (w : World) (hK : Tab w) (hv : (Fk.hc P).f (.slice pA (P).length pC) w) {n : Nat} (h80 : P.length ≤ 80) (hn : n ≤ 1152921504606846976) (hP0 : P.length ≠ 0) :
    Calls Tryd.prog 4 #[.agg (([.int .i64 0, .int .i64 ((n : Nat) : Int)] : List Value) ++ ((old).map V ++ ((rt).map V ++ (([.slice pA (P).length pC] : List Value))))).toArray] w fun e w' => e = .returned (.bool true) ∧ Below w.heap.size w w' := by
  have hvs := hc_hs hv
  go_enter Tryd.func4, Tryd.ntmps4
  refine code_both (fun f w1 => f.tmps.size = 194 ∧ f.defers = [] ∧ f.eval (.tmp 0) = .agg (([.int .i64 0, .int .i64 ((n : Nat) : Int)] : List Value) ++ ((old).map V ++ ((rt).map V ++ (([.slice pA (P).length pC] : List Value))))).toArray ∧ Below w.heap.size w (w1)) ⟨rfl, rfl, rfl, Below.refl _ _⟩ ?_
  rintro f0 w0 ⟨sz, df, x0, bl⟩
  have bl0 := bl
  refine wp_seq ?_
  refine wp_region_seq [] (by kernel_rfl) (by kernel_rfl) (by rw [sz]; kernel_rfl) (by kernel_rfl) trivial ?_
  intro f1 w1 A hb
  replace bl0 := bl
  replace x0 := (A.old 0 rfl).trans x0
  replace bl := (bl.trans (Below.mono hb bl.size))
  replace sz := A.size.trans sz
  replace df := A.defs.trans df
  clear A hb
  refine wl_one (.nw w1.heap.size 38 (([.int .i64 0, .int .i64 ((n : Nat) : Int)] : List Value) ++ ((old).map V ++ ((rt).map V ++ (([.slice pA (P).length pC] : List Value)))))) rfl 1 rfl (by rw [sz]; decide) (st_box 38 (.tmp 0) rfl _ _ (by rw [show _ = _ from x0]; kernel_rfl) (Nat.le_refl _)) ?_
  intro f2 w2 df2 sz2 old2 new2 hb
  replace bl0 := bl
  replace x0 := (old2 0 rfl).trans x0
  have x1 : Fk.f (.nw w1.heap.size 38 (([.int .i64 0, .int .i64 ((n : Nat) : Int)] : List Value) ++ ((old).map V ++ ((rt).map V ++ (([.slice pA (P).length pC] : List Value)))))) (f2.eval (.tmp 1)) w2 := new2
  replace bl := (bl.trans (Below.mono hb bl.size))
  replace sz := sz2.trans sz
  replace df := df2.trans df
  clear df2 sz2 old2 new2 hb
  obtain ⟨g1, hg1, e1, m1⟩ := x1
  have x1 := e1
  clear e1
  have hw1 : w.heap.size ≤ g1 := Nat.le_trans bl0.size hg1
  clear x0
  refine wl_one (.eq (.bool false)) rfl 2 rfl (by rw [sz]; decide) (st_assign (.const (.bool false)) rfl rfl) ?_
  intro f3 w3 df2 sz2 old2 new2 hb
  replace bl0 := bl
  replace x1 := (old2 1 rfl).trans x1
  have x2 : f3.eval (.tmp 2) = .bool false := new2
  have lt_m1 := Ob.lt m1
  replace m1 := Ob.below m1 hb
  replace bl := (bl.trans (Below.mono hb bl.size))
  replace sz := sz2.trans sz
  replace df := df2.trans df
  clear df2 sz2 old2 new2 hb
  refine wpList_nil ?_
  show Code.wp _ _ _ _ _
  refine wp_seq ?_
  refine wp_seq ?_
  refine wp_all_seq [.eq (.pointer (some ⟨g1, 66, none⟩)), .eq (.slice pA (P).length pC), .eq (.int .i64 (((P).length : Nat) : Int)), .eq (.bool false), .eq (.bool false), .eq (.pointer (some ⟨g1, 1, none⟩)), .eq (.int .i64 ((n : Nat) : Int)), .eq (.bool false), .eq (.bool false)] (by kernel_rfl) (by kernel_rfl) (by rw [sz]; kernel_rfl) (by kernel_rfl) ⟨fun hw ac u K => ?_, fun hw ac u K => ?_, fun hw ac u K => ?_, fun hw ac u K => ?_, fun hw ac u K => ?_, fun hw ac u K => ?_, fun hw ac u K => ?_, fun hw ac u K => ?_, fun hw ac u K => ?_, trivial⟩ ?_
  · exact st_field 38 4 (.tmp 1) rfl ((K.old 1 rfl).trans x1) (by kernel_rfl)
  · exact st_loadc 24 (.tmp 12) rfl (by kernel_rfl) (K.dep 0 12 rfl) (ob_cell_at (Ob.below m1 K.grow) (([.int .i64 0, .int .i64 ((n : Nat) : Int)] : List Value) ++ ((old).map V ++ ((rt).map V))) (([] : List Value)) _ 66 (by simp) (by simp [hold, hrt]))
  · exact st_lenc (.tmp 13) rfl ((P).length) rfl (fk_val (K.dep 1 13 rfl) (Fk.mono _ _ _ _ hv (bl.trans (Below.mono K.grow bl.size))))
  · exact st_gtr 3 (.tmp 14) (.const (.int .i64 80)) rfl .i64 ((((P).length : Nat) : Int)) (80) (K.dep 2 14 rfl) rfl _ (by rw [eq_comm, decide_eq_false_iff_not]; omega)
  · exact st_move (.tmp 15) rfl (K.dep 3 15 rfl)
  · exact st_field 38 1 (.tmp 1) rfl ((K.old 1 rfl).trans x1) (by kernel_rfl)
  · exact st_loadc 3 (.tmp 17) rfl (by kernel_rfl) (K.dep 5 17 rfl) (ob_cell_at (Ob.below m1 K.grow) (([.int .i64 0] : List Value)) ((old).map V ++ ((rt).map V ++ (([.slice pA (P).length pC] : List Value)))) _ 1 (by simp) (by rfl))
  · exact st_gtr 3 (.tmp 18) (.const (.int .i64 1152921504606846976)) rfl .i64 (((n : Nat) : Int)) (1152921504606846976) (K.dep 6 18 rfl) rfl _ (by rw [eq_comm, decide_eq_false_iff_not]; omega)
  · exact st_pick_f' (.tmp 16) (.const (.bool true)) (.tmp 19) rfl (K.dep 4 16 rfl) (K.dep 7 19 rfl)
  intro f4 w4 A hb
  replace bl0 := bl
  replace x1 := (A.old 1 rfl).trans x1
  replace x2 := (A.old 2 rfl).trans x2
  have x20 : f4.eval (.tmp 20) = .bool false := A.has 8 20 rfl
  have lt_m1 := Ob.lt m1
  replace m1 := Ob.below m1 hb
  replace bl := (bl.trans (Below.mono hb bl.size))
  replace sz := A.size.trans sz
  replace df := A.defs.trans df
  clear A hb
  show Code.wp _ _ _ _ _
  refine wp_cond_false x20 ?_
  refine wp_skip ?_
  show Code.wp _ _ _ _ _
  refine wp_seq ?_
  refine wp_region_seq [.eq (.pointer (some ⟨g1, 0, none⟩)), .eq (.int .i64 0), .eq (.pointer (some ⟨g1, 1, none⟩)), .eq (.int .i64 ((n : Nat) : Int)), .eq (.pointer (some ⟨g1, 2, none⟩)), .eq (.agg ((old).map V).toArray), .eq (.pointer (some ⟨g1, 66, none⟩)), .eq (.slice pA (P).length pC), .eq (.tuple #[.agg ((hz).map V).toArray, .agg ((hz).map V).toArray, .int .i64 22]), .eq (.tuple #[.agg ((hz).map V).toArray, .agg ((hz).map V).toArray, .int .i64 22]), .eq (.agg ((hz).map V).toArray), .eq (.agg ((hz).map V).toArray), .eq (.int .i64 22)] (by kernel_rfl) (by kernel_rfl) (by rw [sz]; kernel_rfl) (by kernel_rfl) ⟨fun hw ac u K => ?_, fun hw ac u K => ?_, fun hw ac u K => ?_, fun hw ac u K => ?_, fun hw ac u K => ?_, fun hw ac u K => ?_, fun hw ac u K => ?_, fun hw ac u K => ?_, fun hw ac u K => ?_, fun hw ac u K => ?_, fun hw ac u K => ?_, fun hw ac u K => ?_, fun hw ac u K => ?_, trivial⟩ ?_
  · exact st_field 38 0 (.tmp 1) rfl ((K.old 1 rfl).trans x1) (by kernel_rfl)
  · exact st_loadc 3 (.tmp 23) rfl (by kernel_rfl) (K.dep 0 23 rfl) (ob_cell_at (Ob.below m1 K.grow) (([] : List Value)) (([.int .i64 ((n : Nat) : Int)] : List Value) ++ ((old).map V ++ ((rt).map V ++ (([.slice pA (P).length pC] : List Value))))) _ 0 (by simp) (by rfl))
  · exact st_field 38 1 (.tmp 1) rfl ((K.old 1 rfl).trans x1) (by kernel_rfl)
  · exact st_loadc 3 (.tmp 25) rfl (by kernel_rfl) (K.dep 2 25 rfl) (ob_cell_at (Ob.below m1 K.grow) (([.int .i64 0] : List Value)) ((old).map V ++ ((rt).map V ++ (([.slice pA (P).length pC] : List Value)))) _ 1 (by simp) (by rfl))
  · exact st_field 38 2 (.tmp 1) rfl ((K.old 1 rfl).trans x1) (by kernel_rfl)
  · exact st_loadz 23 (.tmp 27) rfl (g1) 2 ((old).map V) (by kernel_rfl) (by rw [List.length_map, hold]; kernel_rfl) (K.dep 4 27 rfl) (ob_range_at (Ob.below m1 K.grow) (([.int .i64 0, .int .i64 ((n : Nat) : Int)] : List Value)) ((rt).map V ++ (([.slice pA (P).length pC] : List Value))) _ 2 (by simp) (by rfl))
  · exact st_field 38 4 (.tmp 1) rfl ((K.old 1 rfl).trans x1) (by kernel_rfl)
  · exact st_loadc 24 (.tmp 29) rfl (by kernel_rfl) (K.dep 6 29 rfl) (ob_cell_at (Ob.below m1 K.grow) (([.int .i64 0, .int .i64 ((n : Nat) : Int)] : List Value) ++ ((old).map V ++ ((rt).map V))) (([] : List Value)) _ 66 (by simp) (by simp [hold, hrt]))
  · exact st_call 14 (.func 14) _ _ #[.int .i64 0, .int .i64 ((n : Nat) : Int), .agg ((old).map V).toArray, .slice pA (P).length pC] rfl rfl (arg4 (K.dep 1 24 rfl) (K.dep 3 26 rfl) (K.dep 5 28 rfl) (K.dep 7 30 rfl)) Tryd.enter14 (fk_both_zbad hold hn (Fk.mono _ _ _ _ hv (bl.trans (Below.mono K.grow bl.size))) (by omega) (hK.below (bl.trans (Below.mono K.grow bl.size))) hP0)
  · exact st_move (.tmp 31) rfl (K.dep 8 31 rfl)
  · exact st_tri0 (.tmp 22) rfl (K.dep 9 22 rfl)
  · exact st_tri1 (.tmp 22) rfl (K.dep 9 22 rfl)
  · exact st_tri2 (.tmp 22) rfl (K.dep 9 22 rfl)
  intro f5 w5 A hb
  replace bl0 := bl
  replace x1 := (A.old 1 rfl).trans x1
  replace x2 := (A.old 2 rfl).trans x2
  replace x20 := (A.old 20 rfl).trans x20
  have x32 : f5.eval (.tmp 32) = .agg ((hz).map V).toArray := A.has 10 32 rfl
  have x33 : f5.eval (.tmp 33) = .agg ((hz).map V).toArray := A.has 11 33 rfl
  have x34 : f5.eval (.tmp 34) = .int .i64 22 := A.has 12 34 rfl
  have lt_m1 := Ob.lt m1
  replace m1 := Ob.below m1 hb
  replace bl := (bl.trans (Below.mono hb bl.size))
  replace sz := A.size.trans sz
  replace df := A.defs.trans df
  clear A hb
  refine wl_one (.nw w5.heap.size 23 ((hz).map V)) rfl 3 rfl (by rw [sz]; decide) (st_alloc23 rfl _ (Nat.le_refl _)) ?_
  intro f6 w6 df2 sz2 old2 new2 hb
  replace bl0 := bl
  replace x1 := (old2 1 rfl).trans x1
  replace x2 := (old2 2 rfl).trans x2
  replace x20 := (old2 20 rfl).trans x20
  replace x32 := (old2 32 rfl).trans x32
  replace x33 := (old2 33 rfl).trans x33
  replace x34 := (old2 34 rfl).trans x34
  have x3 : Fk.f (.nw w5.heap.size 23 ((hz).map V)) (f6.eval (.tmp 3)) w6 := new2
  have lt_m1 := Ob.lt m1
  replace m1 := Ob.below m1 hb
  replace bl := (bl.trans (Below.mono hb bl.size))
  replace sz := sz2.trans sz
  replace df := df2.trans df
  clear df2 sz2 old2 new2 hb
  obtain ⟨g3, hg3, e3, m3⟩ := x3
  have x3 := e3
  clear e3
  have nm1_3 : g1 ≠ g3 := Nat.ne_of_lt (Nat.lt_of_lt_of_le lt_m1 hg3)
  have hw3 : w.heap.size ≤ g3 := Nat.le_trans bl0.size hg3
  refine wl_one (.nw w6.heap.size 23 ((hz).map V)) rfl 4 rfl (by rw [sz]; decide) (st_alloc23 rfl _ (Nat.le_refl _)) ?_
  intro f7 w7 df2 sz2 old2 new2 hb
  replace bl0 := bl
  replace x1 := (old2 1 rfl).trans x1
  replace x2 := (old2 2 rfl).trans x2
  replace x20 := (old2 20 rfl).trans x20
  replace x32 := (old2 32 rfl).trans x32
  replace x33 := (old2 33 rfl).trans x33
  replace x34 := (old2 34 rfl).trans x34
  replace x3 := (old2 3 rfl).trans x3
  have x4 : Fk.f (.nw w6.heap.size 23 ((hz).map V)) (f7.eval (.tmp 4)) w7 := new2
  have lt_m1 := Ob.lt m1
  replace m1 := Ob.below m1 hb
  have lt_m3 := Ob.lt m3
  replace m3 := Ob.below m3 hb
  replace bl := (bl.trans (Below.mono hb bl.size))
  replace sz := sz2.trans sz
  replace df := df2.trans df
  clear df2 sz2 old2 new2 hb
  obtain ⟨g4, hg4, e4, m4⟩ := x4
  have x4 := e4
  clear e4
  have nm1_4 : g1 ≠ g4 := Nat.ne_of_lt (Nat.lt_of_lt_of_le lt_m1 hg4)
  have nm3_4 : g3 ≠ g4 := Nat.ne_of_lt (Nat.lt_of_lt_of_le lt_m3 hg4)
  have hw4 : w.heap.size ≤ g4 := Nat.le_trans bl0.size hg4
  refine wl_store rfl (.tmp 3) (.tmp 32) rfl rfl (g3) (hz) (hz) x3 x32 m3 hz_len hz_len ?_
  replace m1 : Ob (w7.setRow g3 ((hz).map V : List Value).toArray) (g1) 38 (([.int .i64 0, .int .i64 ((n : Nat) : Int)] : List Value) ++ ((old).map V ++ ((rt).map V ++ (([.slice pA (P).length pC] : List Value))))) := Ob.setRow_other m1 _ nm1_3
  replace m3 : Ob (w7.setRow g3 ((hz).map V : List Value).toArray) (g3) 23 ((hz).map V) := Ob.setRow m3 ((hz).map V)
  replace m4 : Ob (w7.setRow g3 ((hz).map V : List Value).toArray) (g4) 23 ((hz).map V) := Ob.setRow_other m4 _ nm3_4.symm
  replace bl : Below w.heap.size w (w7.setRow g3 ((hz).map V : List Value).toArray) := bl.trans (below_setRow _ _ _ _ hw3)
  generalize w7.setRow g3 ((hz).map V : List Value).toArray = w8b at bl m1 m3 m4 ⊢
  clear x32
  refine wl_store rfl (.tmp 4) (.tmp 33) rfl rfl (g4) (hz) (hz) x4 x33 m4 hz_len hz_len ?_
  replace m1 : Ob (w8b.setRow g4 ((hz).map V : List Value).toArray) (g1) 38 (([.int .i64 0, .int .i64 ((n : Nat) : Int)] : List Value) ++ ((old).map V ++ ((rt).map V ++ (([.slice pA (P).length pC] : List Value))))) := Ob.setRow_other m1 _ nm1_4
  replace m3 : Ob (w8b.setRow g4 ((hz).map V : List Value).toArray) (g3) 23 ((hz).map V) := Ob.setRow_other m3 _ nm3_4
  replace m4 : Ob (w8b.setRow g4 ((hz).map V : List Value).toArray) (g4) 23 ((hz).map V) := Ob.setRow m4 ((hz).map V)
  replace bl : Below w.heap.size w (w8b.setRow g4 ((hz).map V : List Value).toArray) := bl.trans (below_setRow _ _ _ _ hw4)
  generalize w8b.setRow g4 ((hz).map V : List Value).toArray = w9b at bl m1 m3 m4 ⊢
  clear x33
  refine wl_one (.eq (.int .i64 22)) rfl 5 rfl (by rw [sz]; decide) (st_assign (.tmp 34) rfl x34) ?_
  intro f10 w10 df2 sz2 old2 new2 hb
  replace bl0 := bl
  replace x1 := (old2 1 rfl).trans x1
  replace x2 := (old2 2 rfl).trans x2
  replace x20 := (old2 20 rfl).trans x20
  replace x34 := (old2 34 rfl).trans x34
  replace x3 := (old2 3 rfl).trans x3
  replace x4 := (old2 4 rfl).trans x4
  have x5 : f10.eval (.tmp 5) = .int .i64 22 := new2
  have lt_m1 := Ob.lt m1
  replace m1 := Ob.below m1 hb
  have lt_m3 := Ob.lt m3
  replace m3 := Ob.below m3 hb
  have lt_m4 := Ob.lt m4
  replace m4 := Ob.below m4 hb
  replace bl := (bl.trans (Below.mono hb bl.size))
  replace sz := sz2.trans sz
  replace df := df2.trans df
  clear df2 sz2 old2 new2 hb
  refine wpList_nil ?_
  clear x34
  show Code.wp _ _ _ _ _
  refine wp_seq ?_
  refine wp_all_seq [.eq (.pointer (some ⟨g1, 0, none⟩)), .eq (.int .i64 0), .eq (.pointer (some ⟨g1, 1, none⟩)), .eq (.int .i64 ((n : Nat) : Int)), .eq (.pointer (some ⟨g1, 2, none⟩)), .eq (.agg ((old).map V).toArray), .eq (.pointer (some ⟨g1, 34, none⟩)), .eq (.agg ((rt).map V).toArray), .eq (.pointer (some ⟨g1, 66, none⟩)), .eq (.slice pA (P).length pC), .eq (.int .i64 22), .eq (.int .i64 22)] (by kernel_rfl) (by kernel_rfl) (by rw [sz]; kernel_rfl) (by kernel_rfl) ⟨fun hw ac u K => ?_, fun hw ac u K => ?_, fun hw ac u K => ?_, fun hw ac u K => ?_, fun hw ac u K => ?_, fun hw ac u K => ?_, fun hw ac u K => ?_, fun hw ac u K => ?_, fun hw ac u K => ?_, fun hw ac u K => ?_, fun hw ac u K => ?_, fun hw ac u K => ?_, trivial⟩ ?_
  · exact st_field 38 0 (.tmp 1) rfl ((K.old 1 rfl).trans x1) (by kernel_rfl)
  · exact st_loadc 3 (.tmp 35) rfl (by kernel_rfl) (K.dep 0 35 rfl) (ob_cell_at (Ob.below m1 K.grow) (([] : List Value)) (([.int .i64 ((n : Nat) : Int)] : List Value) ++ ((old).map V ++ ((rt).map V ++ (([.slice pA (P).length pC] : List Value))))) _ 0 (by simp) (by rfl))
  · exact st_field 38 1 (.tmp 1) rfl ((K.old 1 rfl).trans x1) (by kernel_rfl)
  · exact st_loadc 3 (.tmp 37) rfl (by kernel_rfl) (K.dep 2 37 rfl) (ob_cell_at (Ob.below m1 K.grow) (([.int .i64 0] : List Value)) ((old).map V ++ ((rt).map V ++ (([.slice pA (P).length pC] : List Value)))) _ 1 (by simp) (by rfl))
  · exact st_field 38 2 (.tmp 1) rfl ((K.old 1 rfl).trans x1) (by kernel_rfl)
  · exact st_loadz 23 (.tmp 39) rfl (g1) 2 ((old).map V) (by kernel_rfl) (by rw [List.length_map, hold]; kernel_rfl) (K.dep 4 39 rfl) (ob_range_at (Ob.below m1 K.grow) (([.int .i64 0, .int .i64 ((n : Nat) : Int)] : List Value)) ((rt).map V ++ (([.slice pA (P).length pC] : List Value))) _ 2 (by simp) (by rfl))
  · exact st_field 38 3 (.tmp 1) rfl ((K.old 1 rfl).trans x1) (by kernel_rfl)
  · exact st_loadz 23 (.tmp 41) rfl (g1) 34 ((rt).map V) (by kernel_rfl) (by rw [List.length_map, hrt]; kernel_rfl) (K.dep 6 41 rfl) (ob_range_at (Ob.below m1 K.grow) (([.int .i64 0, .int .i64 ((n : Nat) : Int)] : List Value) ++ ((old).map V)) (([.slice pA (P).length pC] : List Value)) _ 34 (by simp) (by simp [hold]))
  · exact st_field 38 4 (.tmp 1) rfl ((K.old 1 rfl).trans x1) (by kernel_rfl)
  · exact st_loadc 24 (.tmp 43) rfl (by kernel_rfl) (K.dep 8 43 rfl) (ob_cell_at (Ob.below m1 K.grow) (([.int .i64 0, .int .i64 ((n : Nat) : Int)] : List Value) ++ ((old).map V ++ ((rt).map V))) (([] : List Value)) _ 66 (by simp) (by simp [hold, hrt]))
  · exact st_call 15 (.func 15) _ _ #[.int .i64 0, .int .i64 ((n : Nat) : Int), .agg ((old).map V).toArray, .agg ((rt).map V).toArray, .slice pA (P).length pC] rfl rfl (arg5 (K.dep 1 36 rfl) (K.dep 3 38 rfl) (K.dep 5 40 rfl) (K.dep 7 42 rfl) (K.dep 9 44 rfl)) Tryd.enter15 (fk_on_zero hold hrt hn (Fk.mono _ _ _ _ hv (bl.trans (Below.mono K.grow bl.size))) (by omega) (hK.below (bl.trans (Below.mono K.grow bl.size))) 22 (by rw [if_neg (fun h => hP0 h.2.1)]))
  · exact st_assign (.tmp 45) rfl (K.dep 10 45 rfl)
  intro f11 w11 A hb
  replace bl0 := bl
  replace x1 := (A.old 1 rfl).trans x1
  replace x2 := (A.old 2 rfl).trans x2
  replace x20 := (A.old 20 rfl).trans x20
  replace x3 := (A.old 3 rfl).trans x3
  replace x4 := (A.old 4 rfl).trans x4
  replace x5 := (A.old 5 rfl).trans x5
  have x6 : f11.eval (.tmp 6) = .int .i64 22 := A.has 11 6 rfl
  have lt_m1 := Ob.lt m1
  replace m1 := Ob.below m1 hb
  have lt_m3 := Ob.lt m3
  replace m3 := Ob.below m3 hb
  have lt_m4 := Ob.lt m4
  replace m4 := Ob.below m4 hb
  replace bl := (bl.trans (Below.mono hb bl.size))
  replace sz := A.size.trans sz
  replace df := A.defs.trans df
  clear A hb
  show Code.wp _ _ _ _ _
  refine wp_seq ?_
  refine wp_seq ?_
  refine wp_all_seq [.eq (.pointer (some ⟨g1, 0, none⟩)), .eq (.int .i64 0), .eq (.bool false), .eq (.bool false), .eq (.pointer (some ⟨g1, 0, none⟩)), .eq (.int .i64 0), .eq (.pointer (some ⟨g1, 1, none⟩)), .eq (.int .i64 ((n : Nat) : Int)), .eq (.bool false), .eq (.bool false)] (by kernel_rfl) (by kernel_rfl) (by rw [sz]; kernel_rfl) (by kernel_rfl) ⟨fun hw ac u K => ?_, fun hw ac u K => ?_, fun hw ac u K => ?_, fun hw ac u K => ?_, fun hw ac u K => ?_, fun hw ac u K => ?_, fun hw ac u K => ?_, fun hw ac u K => ?_, fun hw ac u K => ?_, fun hw ac u K => ?_, trivial⟩ ?_
  · exact st_field 38 0 (.tmp 1) rfl ((K.old 1 rfl).trans x1) (by kernel_rfl)
  · exact st_loadc 3 (.tmp 46) rfl (by kernel_rfl) (K.dep 0 46 rfl) (ob_cell_at (Ob.below m1 K.grow) (([] : List Value)) (([.int .i64 ((n : Nat) : Int)] : List Value) ++ ((old).map V ++ ((rt).map V ++ (([.slice pA (P).length pC] : List Value))))) _ 0 (by simp) (by rfl))
  · exact st_lss 3 (.tmp 47) (.const (.int .i64 0)) rfl .i64 (0) (0) (K.dep 1 47 rfl) rfl _ (by rw [eq_comm, decide_eq_false_iff_not]; omega)
  · exact st_move (.tmp 48) rfl (K.dep 2 48 rfl)
  · exact st_field 38 0 (.tmp 1) rfl ((K.old 1 rfl).trans x1) (by kernel_rfl)
  · exact st_loadc 3 (.tmp 50) rfl (by kernel_rfl) (K.dep 4 50 rfl) (ob_cell_at (Ob.below m1 K.grow) (([] : List Value)) (([.int .i64 ((n : Nat) : Int)] : List Value) ++ ((old).map V ++ ((rt).map V ++ (([.slice pA (P).length pC] : List Value))))) _ 0 (by simp) (by rfl))
  · exact st_field 38 1 (.tmp 1) rfl ((K.old 1 rfl).trans x1) (by kernel_rfl)
  · exact st_loadc 3 (.tmp 52) rfl (by kernel_rfl) (K.dep 6 52 rfl) (ob_cell_at (Ob.below m1 K.grow) (([.int .i64 0] : List Value)) ((old).map V ++ ((rt).map V ++ (([.slice pA (P).length pC] : List Value)))) _ 1 (by simp) (by rfl))
  · exact st_gtr 3 (.tmp 51) (.tmp 53) rfl .i64 (0) (((n : Nat) : Int)) (K.dep 5 51 rfl) (K.dep 7 53 rfl) _ (by rw [eq_comm, decide_eq_false_iff_not]; omega)
  · exact st_pick_f' (.tmp 49) (.const (.bool true)) (.tmp 54) rfl (K.dep 3 49 rfl) (K.dep 8 54 rfl)
  intro f12 w12 A hb
  replace bl0 := bl
  replace x1 := (A.old 1 rfl).trans x1
  replace x2 := (A.old 2 rfl).trans x2
  replace x20 := (A.old 20 rfl).trans x20
  replace x3 := (A.old 3 rfl).trans x3
  replace x4 := (A.old 4 rfl).trans x4
  replace x5 := (A.old 5 rfl).trans x5
  replace x6 := (A.old 6 rfl).trans x6
  have x55 : f12.eval (.tmp 55) = .bool false := A.has 9 55 rfl
  have lt_m1 := Ob.lt m1
  replace m1 := Ob.below m1 hb
  have lt_m3 := Ob.lt m3
  replace m3 := Ob.below m3 hb
  have lt_m4 := Ob.lt m4
  replace m4 := Ob.below m4 hb
  replace bl := (bl.trans (Below.mono hb bl.size))
  replace sz := A.size.trans sz
  replace df := A.defs.trans df
  clear A hb
  show Code.wp _ _ _ _ _
  refine wp_cond_false x55 ?_
  refine wp_skip ?_
  show Code.wp _ _ _ _ _
  refine wp_seq ?_
  refine wp_seq ?_
  refine wp_all_seq [.eq (.pointer (some ⟨g1, 0, none⟩)), .eq (.int .i64 0), .eq (.bool true)] (by kernel_rfl) (by kernel_rfl) (by rw [sz]; kernel_rfl) (by kernel_rfl) ⟨fun hw ac u K => ?_, fun hw ac u K => ?_, fun hw ac u K => ?_, trivial⟩ ?_
  · exact st_field 38 0 (.tmp 1) rfl ((K.old 1 rfl).trans x1) (by kernel_rfl)
  · exact st_loadc 3 (.tmp 75) rfl (by kernel_rfl) (K.dep 0 75 rfl) (ob_cell_at (Ob.below m1 K.grow) (([] : List Value)) (([.int .i64 ((n : Nat) : Int)] : List Value) ++ ((old).map V ++ ((rt).map V ++ (([.slice pA (P).length pC] : List Value))))) _ 0 (by simp) (by rfl))
  · exact st_eqi 3 (.tmp 76) (.const (.int .i64 0)) rfl .i64 (0) (0) (K.dep 1 76 rfl) rfl _ (by simp)
  intro f13 w13 A hb
  replace bl0 := bl
  replace x1 := (A.old 1 rfl).trans x1
  replace x2 := (A.old 2 rfl).trans x2
  replace x20 := (A.old 20 rfl).trans x20
  replace x3 := (A.old 3 rfl).trans x3
  replace x4 := (A.old 4 rfl).trans x4
  replace x5 := (A.old 5 rfl).trans x5
  replace x6 := (A.old 6 rfl).trans x6
  replace x55 := (A.old 55 rfl).trans x55
  have x77 : f13.eval (.tmp 77) = .bool true := A.has 2 77 rfl
  have lt_m1 := Ob.lt m1
  replace m1 := Ob.below m1 hb
  have lt_m3 := Ob.lt m3
  replace m3 := Ob.below m3 hb
  have lt_m4 := Ob.lt m4
  replace m4 := Ob.below m4 hb
  replace bl := (bl.trans (Below.mono hb bl.size))
  replace sz := A.size.trans sz
  replace df := A.defs.trans df
  clear A hb
  show Code.wp _ _ _ _ _
  refine wp_cond_true x77 ?_
  refine wp_seq ?_
  refine wp_seq ?_
  refine wp_all_seq [.eq (.pointer (some ⟨g1, 66, none⟩)), .eq (.slice pA (P).length pC), .eq (.int .i64 (((P).length : Nat) : Int)), .eq (.bool true)] (by kernel_rfl) (by kernel_rfl) (by rw [sz]; kernel_rfl) (by kernel_rfl) ⟨fun hw ac u K => ?_, fun hw ac u K => ?_, fun hw ac u K => ?_, fun hw ac u K => ?_, trivial⟩ ?_
  · exact st_field 38 4 (.tmp 1) rfl ((K.old 1 rfl).trans x1) (by kernel_rfl)
  · exact st_loadc 24 (.tmp 78) rfl (by kernel_rfl) (K.dep 0 78 rfl) (ob_cell_at (Ob.below m1 K.grow) (([.int .i64 0, .int .i64 ((n : Nat) : Int)] : List Value) ++ ((old).map V ++ ((rt).map V))) (([] : List Value)) _ 66 (by simp) (by simp [hold, hrt]))
  · exact st_lenc (.tmp 79) rfl ((P).length) rfl (fk_val (K.dep 1 79 rfl) (Fk.mono _ _ _ _ hv (bl.trans (Below.mono K.grow bl.size))))
  · exact st_gtr 3 (.tmp 80) (.const (.int .i64 0)) rfl .i64 ((((P).length : Nat) : Int)) (0) (K.dep 2 80 rfl) rfl _ (by rw [eq_comm, decide_eq_true_iff]; omega)
  intro f14 w14 A hb
  replace bl0 := bl
  replace x1 := (A.old 1 rfl).trans x1
  replace x2 := (A.old 2 rfl).trans x2
  replace x20 := (A.old 20 rfl).trans x20
  replace x3 := (A.old 3 rfl).trans x3
  replace x4 := (A.old 4 rfl).trans x4
  replace x5 := (A.old 5 rfl).trans x5
  replace x6 := (A.old 6 rfl).trans x6
  replace x55 := (A.old 55 rfl).trans x55
  replace x77 := (A.old 77 rfl).trans x77
  have x81 : f14.eval (.tmp 81) = .bool true := A.has 3 81 rfl
  have lt_m1 := Ob.lt m1
  replace m1 := Ob.below m1 hb
  have lt_m3 := Ob.lt m3
  replace m3 := Ob.below m3 hb
  have lt_m4 := Ob.lt m4
  replace m4 := Ob.below m4 hb
  replace bl := (bl.trans (Below.mono hb bl.size))
  replace sz := A.size.trans sz
  replace df := A.defs.trans df
  clear A hb
  show Code.wp _ _ _ _ _
  refine wp_cond_true x81 ?_
  refine wp_seq ?_
  refine wp_all_seq [.eq (.int .i64 22), .eq (.bool true), .eq (.bool true), .eq (.int .i64 22), .eq (.bool true), .eq (.bool true), .eq (.bool true), .eq (.bool true), .eq (.bool true), .eq (.bool true)] (by kernel_rfl) (by kernel_rfl) (by rw [sz]; kernel_rfl) (by kernel_rfl) ⟨fun hw ac u K => ?_, fun hw ac u K => ?_, fun hw ac u K => ?_, fun hw ac u K => ?_, fun hw ac u K => ?_, fun hw ac u K => ?_, fun hw ac u K => ?_, fun hw ac u K => ?_, fun hw ac u K => ?_, fun hw ac u K => ?_, trivial⟩ ?_
  · exact st_move (.tmp 5) rfl ((K.old 5 rfl).trans x5)
  · exact st_eqi 28 (.tmp 82) (.const (.int .i64 22)) rfl .i64 (22) (22) (K.dep 0 82 rfl) rfl _ (by rfl)
  · exact st_move (.tmp 83) rfl (K.dep 1 83 rfl)
  · exact st_move (.tmp 6) rfl ((K.old 6 rfl).trans x6)
  · exact st_eqi 28 (.tmp 85) (.const (.int .i64 22)) rfl .i64 (22) (22) (K.dep 3 85 rfl) rfl _ (by rfl)
  · exact st_pick_t (.tmp 84) (.tmp 86) (.const (.bool false)) rfl (K.dep 2 84 rfl) (K.dep 4 86 rfl)
  · exact st_move (.tmp 87) rfl (K.dep 5 87 rfl)
  · exact st_call 8 (.func 8) _ _ #[] rfl rfl rfl Tryd.enter8 (fk_of (awake_any _ (hK.below (bl.trans (Below.mono K.grow bl.size)))))
  · exact st_pick_t (.tmp 88) (.tmp 89) (.const (.bool false)) rfl (K.dep 6 88 rfl) (K.dep 7 89 rfl)
  · exact st_assign (.tmp 90) rfl (K.dep 8 90 rfl)
  intro f15 w15 A hb
  replace bl0 := bl
  replace x1 := (A.old 1 rfl).trans x1
  clear x2
  replace x20 := (A.old 20 rfl).trans x20
  replace x3 := (A.old 3 rfl).trans x3
  replace x4 := (A.old 4 rfl).trans x4
  replace x5 := (A.old 5 rfl).trans x5
  replace x6 := (A.old 6 rfl).trans x6
  replace x55 := (A.old 55 rfl).trans x55
  replace x77 := (A.old 77 rfl).trans x77
  replace x81 := (A.old 81 rfl).trans x81
  have x2 : f15.eval (.tmp 2) = .bool true := A.has 9 2 rfl
  have lt_m1 := Ob.lt m1
  replace m1 := Ob.below m1 hb
  have lt_m3 := Ob.lt m3
  replace m3 := Ob.below m3 hb
  have lt_m4 := Ob.lt m4
  replace m4 := Ob.below m4 hb
  replace bl := (bl.trans (Below.mono hb bl.size))
  replace sz := A.size.trans sz
  replace df := A.defs.trans df
  clear A hb
  show Code.wp _ _ _ _ _
  refine wp_ret ?_
  repeat (first | with_reducible refine then_ret ?_ | with_reducible refine block_ret ?_)
  exact bodyPost_ret (v := .bool true) (ret_slot rfl f15 _ x2 _ _) df ⟨rfl, bl⟩
end Go.Proofs.YthhnlemldpgbeaaDoor
