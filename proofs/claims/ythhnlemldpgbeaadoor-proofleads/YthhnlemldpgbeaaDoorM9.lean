/- ProofLeads. -/
import Derived.Test.YthhnlemldpgbeaaDoorM8
namespace Go.Proofs.YthhnlemldpgbeaaDoor
set_option maxRecDepth 100000
open Go.RowKit
theorem leads_over {leaf rt : List (BitVec 8)} (_hlf : leaf.length = 32) (_hrt : rt.length = 32) {P : List (List (BitVec 8))} {pA : Option Addr} {pC : Nat} (w : World) (hK : Tab w) (hv : (Fk.hc P).f (.slice pA (P).length pC) w) (i n : Int) (h : 80 < P.length ∨ 1152921504606846976 < n) :
    Calls Tryd.prog 3 #[.agg ((leaf).map V).toArray, .agg (([.int .i64 (i), .int .i64 (n), .slice pA (P).length pC] : List Value) ++ ((rt).map V)).toArray] w fun e w' => e = .returned (.bool true) ∧ Below w.heap.size w w' := by
  have hvs := hc_hs hv
  go_enter Tryd.func3, Tryd.ntmps3
  refine code_both (fun f w1 => f.tmps.size = 179 ∧ f.defers = [] ∧ f.eval (.tmp 0) = .agg ((leaf).map V).toArray ∧ f.eval (.tmp 1) = .agg (([.int .i64 (i), .int .i64 (n), .slice pA (P).length pC] : List Value) ++ ((rt).map V)).toArray ∧ Below w.heap.size w (w1)) ⟨rfl, rfl, rfl, rfl, Below.refl _ _⟩ ?_
  rintro f0 w0 ⟨sz, df, x0, x1, bl⟩
  have bl0 := bl
  refine wp_seq ?_
  refine wp_region_seq [] (by kernel_rfl) (by kernel_rfl) (by rw [sz]; kernel_rfl) (by kernel_rfl) trivial ?_
  intro f1 w1 A hb
  replace bl0 := bl
  replace x0 := (A.old 0 rfl).trans x0
  replace x1 := (A.old 1 rfl).trans x1
  replace bl := (bl.trans (Below.mono hb bl.size))
  replace sz := A.size.trans sz
  replace df := A.defs.trans df
  clear A hb
  refine wl_one (.nw w1.heap.size 23 ((leaf).map V)) rfl 2 rfl (by rw [sz]; decide) (st_box 23 (.tmp 0) rfl _ _ (by rw [show _ = _ from x0]; kernel_rfl) (Nat.le_refl _)) ?_
  intro f2 w2 df2 sz2 old2 new2 hb
  replace bl0 := bl
  replace x0 := (old2 0 rfl).trans x0
  replace x1 := (old2 1 rfl).trans x1
  have x2 : Fk.f (.nw w1.heap.size 23 ((leaf).map V)) (f2.eval (.tmp 2)) w2 := new2
  replace bl := (bl.trans (Below.mono hb bl.size))
  replace sz := sz2.trans sz
  replace df := df2.trans df
  clear df2 sz2 old2 new2 hb
  obtain ⟨g2, hg2, e2, m2⟩ := x2
  have x2 := e2
  clear e2
  have hw2 : w.heap.size ≤ g2 := Nat.le_trans bl0.size hg2
  clear x0
  refine wl_one (.nw w2.heap.size 26 (([.int .i64 (i), .int .i64 (n), .slice pA (P).length pC] : List Value) ++ ((rt).map V))) rfl 3 rfl (by rw [sz]; decide) (st_box 26 (.tmp 1) rfl _ _ (by rw [show _ = _ from x1]; kernel_rfl) (Nat.le_refl _)) ?_
  intro f3 w3 df2 sz2 old2 new2 hb
  replace bl0 := bl
  replace x1 := (old2 1 rfl).trans x1
  replace x2 := (old2 2 rfl).trans x2
  have x3 : Fk.f (.nw w2.heap.size 26 (([.int .i64 (i), .int .i64 (n), .slice pA (P).length pC] : List Value) ++ ((rt).map V))) (f3.eval (.tmp 3)) w3 := new2
  have lt_m2 := Ob.lt m2
  replace m2 := Ob.below m2 hb
  replace bl := (bl.trans (Below.mono hb bl.size))
  replace sz := sz2.trans sz
  replace df := df2.trans df
  clear df2 sz2 old2 new2 hb
  obtain ⟨g3, hg3, e3, m3⟩ := x3
  have x3 := e3
  clear e3
  have nm2_3 : g2 ≠ g3 := Nat.ne_of_lt (Nat.lt_of_lt_of_le lt_m2 hg3)
  have hw3 : w.heap.size ≤ g3 := Nat.le_trans bl0.size hg3
  clear x1
  refine wl_one (.eq (.bool false)) rfl 4 rfl (by rw [sz]; decide) (st_assign (.const (.bool false)) rfl rfl) ?_
  intro f4 w4 df2 sz2 old2 new2 hb
  replace bl0 := bl
  replace x2 := (old2 2 rfl).trans x2
  replace x3 := (old2 3 rfl).trans x3
  have x4 : f4.eval (.tmp 4) = .bool false := new2
  have lt_m2 := Ob.lt m2
  replace m2 := Ob.below m2 hb
  have lt_m3 := Ob.lt m3
  replace m3 := Ob.below m3 hb
  replace bl := (bl.trans (Below.mono hb bl.size))
  replace sz := sz2.trans sz
  replace df := df2.trans df
  clear df2 sz2 old2 new2 hb
  refine wpList_nil ?_
  show Code.wp _ _ _ _ _
  refine wp_seq ?_
  refine wp_seq ?_
  by_cases h80 : 80 < P.length
  rotate_left
  · skip
    refine wp_all_seq [.eq (.pointer (some ⟨g3, 2, none⟩)), .eq (.slice pA (P).length pC), .eq (.int .i64 (((P).length : Nat) : Int)), .eq (.bool false), .eq (.bool false), .eq (.pointer (some ⟨g3, 1, none⟩)), .eq (.int .i64 (n)), .eq (.bool true), .eq (.bool true)] (by kernel_rfl) (by kernel_rfl) (by rw [sz]; kernel_rfl) (by kernel_rfl) ⟨fun hw ac u K => ?_, fun hw ac u K => ?_, fun hw ac u K => ?_, fun hw ac u K => ?_, fun hw ac u K => ?_, fun hw ac u K => ?_, fun hw ac u K => ?_, fun hw ac u K => ?_, fun hw ac u K => ?_, trivial⟩ ?_
    · exact st_field 26 2 (.tmp 3) rfl ((K.old 3 rfl).trans x3) (by kernel_rfl)
    · exact st_loadc 24 (.tmp 12) rfl (by kernel_rfl) (K.dep 0 12 rfl) (ob_cell_at (Ob.below m3 K.grow) (([.int .i64 (i), .int .i64 (n)] : List Value)) ((rt).map V) _ 2 (by simp) (by rfl))
    · exact st_lenc (.tmp 13) rfl ((P).length) rfl (fk_val (K.dep 1 13 rfl) (Fk.mono _ _ _ _ hv (bl.trans (Below.mono K.grow bl.size))))
    · exact st_gtr 3 (.tmp 14) (.const (.int .i64 80)) rfl .i64 ((((P).length : Nat) : Int)) (80) (K.dep 2 14 rfl) rfl _ (by rw [eq_comm, decide_eq_false_iff_not]; omega)
    · exact st_move (.tmp 15) rfl (K.dep 3 15 rfl)
    · exact st_field 26 1 (.tmp 3) rfl ((K.old 3 rfl).trans x3) (by kernel_rfl)
    · exact st_loadc 3 (.tmp 17) rfl (by kernel_rfl) (K.dep 5 17 rfl) (ob_cell_at (Ob.below m3 K.grow) (([.int .i64 (i)] : List Value)) (([.slice pA (P).length pC] : List Value) ++ ((rt).map V)) _ 1 (by simp) (by rfl))
    · exact st_gtr 3 (.tmp 18) (.const (.int .i64 1152921504606846976)) rfl .i64 ((n)) (1152921504606846976) (K.dep 6 18 rfl) rfl _ (by rw [eq_comm, decide_eq_true_iff]; omega)
    · exact st_pick_f' (.tmp 16) (.const (.bool true)) (.tmp 19) rfl (K.dep 4 16 rfl) (K.dep 7 19 rfl)
    intro f5 w5 A hb
    replace bl0 := bl
    replace x2 := (A.old 2 rfl).trans x2
    replace x3 := (A.old 3 rfl).trans x3
    replace x4 := (A.old 4 rfl).trans x4
    have x20 : f5.eval (.tmp 20) = .bool true := A.has 8 20 rfl
    have lt_m2 := Ob.lt m2
    replace m2 := Ob.below m2 hb
    have lt_m3 := Ob.lt m3
    replace m3 := Ob.below m3 hb
    replace bl := (bl.trans (Below.mono hb bl.size))
    replace sz := A.size.trans sz
    replace df := A.defs.trans df
    clear A hb
    show Code.wp _ _ _ _ _
    refine wp_cond_true x20 ?_
    refine wp_seq ?_
    refine wp_all_seq [.eq (.bool true), .eq (.bool true)] (by kernel_rfl) (by kernel_rfl) (by rw [sz]; kernel_rfl) (by kernel_rfl) ⟨fun hw ac u K => ?_, fun hw ac u K => ?_, trivial⟩ ?_
    · exact st_call 8 (.func 8) _ _ #[] rfl rfl rfl Tryd.enter8 (fk_of (awake_any _ (hK.below (bl.trans (Below.mono K.grow bl.size)))))
    · exact st_assign (.tmp 21) rfl (K.dep 0 21 rfl)
    intro f6 w6 A hb
    replace bl0 := bl
    replace x2 := (A.old 2 rfl).trans x2
    replace x3 := (A.old 3 rfl).trans x3
    clear x4
    replace x20 := (A.old 20 rfl).trans x20
    have x4 : f6.eval (.tmp 4) = .bool true := A.has 1 4 rfl
    have lt_m2 := Ob.lt m2
    replace m2 := Ob.below m2 hb
    have lt_m3 := Ob.lt m3
    replace m3 := Ob.below m3 hb
    replace bl := (bl.trans (Below.mono hb bl.size))
    replace sz := A.size.trans sz
    replace df := A.defs.trans df
    clear A hb
    show Code.wp _ _ _ _ _
    refine wp_ret ?_
    repeat (first | with_reducible refine then_ret ?_ | with_reducible refine block_ret ?_)
    exact bodyPost_ret (v := .bool true) (ret_slot rfl f6 _ x4 _ _) df ⟨rfl, bl⟩
  refine wp_all_seq [.eq (.pointer (some ⟨g3, 2, none⟩)), .eq (.slice pA (P).length pC), .eq (.int .i64 (((P).length : Nat) : Int)), .eq (.bool true), .eq (.bool true), .any, .any, .any, .eq (.bool true)] (by kernel_rfl) (by kernel_rfl) (by rw [sz]; kernel_rfl) (by kernel_rfl) ⟨fun hw ac u K => ?_, fun hw ac u K => ?_, fun hw ac u K => ?_, fun hw ac u K => ?_, fun hw ac u K => ?_, fun hw ac u K => ?_, fun hw ac u K => ?_, fun hw ac u K => ?_, fun hw ac u K => ?_, trivial⟩ ?_
  · exact st_field 26 2 (.tmp 3) rfl ((K.old 3 rfl).trans x3) (by kernel_rfl)
  · exact st_loadc 24 (.tmp 12) rfl (by kernel_rfl) (K.dep 0 12 rfl) (ob_cell_at (Ob.below m3 K.grow) (([.int .i64 (i), .int .i64 (n)] : List Value)) ((rt).map V) _ 2 (by simp) (by rfl))
  · exact st_lenc (.tmp 13) rfl ((P).length) rfl (fk_val (K.dep 1 13 rfl) (Fk.mono _ _ _ _ hv (bl.trans (Below.mono K.grow bl.size))))
  · exact st_gtr 3 (.tmp 14) (.const (.int .i64 80)) rfl .i64 ((((P).length : Nat) : Int)) (80) (K.dep 2 14 rfl) rfl _ (by rw [eq_comm, decide_eq_true_iff]; omega)
  · exact st_move (.tmp 15) rfl (K.dep 3 15 rfl)
  · exact (Bool.false_ne_true hw).elim
  · exact (Bool.false_ne_true hw).elim
  · exact (Bool.false_ne_true hw).elim
  · exact st_pick_t (.tmp 16) (.const (.bool true)) (.tmp 19) rfl (K.dep 4 16 rfl) rfl
  intro f5 w5 A hb
  replace bl0 := bl
  replace x2 := (A.old 2 rfl).trans x2
  replace x3 := (A.old 3 rfl).trans x3
  replace x4 := (A.old 4 rfl).trans x4
  have x20 : f5.eval (.tmp 20) = .bool true := A.has 8 20 rfl
  have lt_m2 := Ob.lt m2
  replace m2 := Ob.below m2 hb
  have lt_m3 := Ob.lt m3
  replace m3 := Ob.below m3 hb
  replace bl := (bl.trans (Below.mono hb bl.size))
  replace sz := A.size.trans sz
  replace df := A.defs.trans df
  clear A hb
  show Code.wp _ _ _ _ _
  refine wp_cond_true x20 ?_
  refine wp_seq ?_
  refine wp_all_seq [.eq (.bool true), .eq (.bool true)] (by kernel_rfl) (by kernel_rfl) (by rw [sz]; kernel_rfl) (by kernel_rfl) ⟨fun hw ac u K => ?_, fun hw ac u K => ?_, trivial⟩ ?_
  · exact st_call 8 (.func 8) _ _ #[] rfl rfl rfl Tryd.enter8 (fk_of (awake_any _ (hK.below (bl.trans (Below.mono K.grow bl.size)))))
  · exact st_assign (.tmp 21) rfl (K.dep 0 21 rfl)
  intro f6 w6 A hb
  replace bl0 := bl
  replace x2 := (A.old 2 rfl).trans x2
  replace x3 := (A.old 3 rfl).trans x3
  clear x4
  replace x20 := (A.old 20 rfl).trans x20
  have x4 : f6.eval (.tmp 4) = .bool true := A.has 1 4 rfl
  have lt_m2 := Ob.lt m2
  replace m2 := Ob.below m2 hb
  have lt_m3 := Ob.lt m3
  replace m3 := Ob.below m3 hb
  replace bl := (bl.trans (Below.mono hb bl.size))
  replace sz := A.size.trans sz
  replace df := A.defs.trans df
  clear A hb
  show Code.wp _ _ _ _ _
  refine wp_ret ?_
  repeat (first | with_reducible refine then_ret ?_ | with_reducible refine block_ret ?_)
  exact bodyPost_ret (v := .bool true) (ret_slot rfl f6 _ x4 _ _) df ⟨rfl, bl⟩
theorem leads_no {leaf rt : List (BitVec 8)} (hlf : leaf.length = 32) (hrt : rt.length = 32) {P : List (List (BitVec 8))} {pA : Option Addr} {pC : Nat} (w : World) (hK : Tab w) (hv : (Fk.hc P).f (.slice pA (P).length pC) w) (i n : Int) (h80 : P.length ≤ 80) (hn : n ≤ 1152921504606846976) (h : i < 0 ∨ n ≤ i) :
    Calls Tryd.prog 3 #[.agg ((leaf).map V).toArray, .agg (([.int .i64 (i), .int .i64 (n), .slice pA (P).length pC] : List Value) ++ ((rt).map V)).toArray] w fun e w' => e = .returned (.bool true) ∧ Below w.heap.size w w' := by
  have hvs := hc_hs hv
  go_enter Tryd.func3, Tryd.ntmps3
  refine code_both (fun f w1 => f.tmps.size = 179 ∧ f.defers = [] ∧ f.eval (.tmp 0) = .agg ((leaf).map V).toArray ∧ f.eval (.tmp 1) = .agg (([.int .i64 (i), .int .i64 (n), .slice pA (P).length pC] : List Value) ++ ((rt).map V)).toArray ∧ Below w.heap.size w (w1)) ⟨rfl, rfl, rfl, rfl, Below.refl _ _⟩ ?_
  rintro f0 w0 ⟨sz, df, x0, x1, bl⟩
  have bl0 := bl
  refine wp_seq ?_
  refine wp_region_seq [] (by kernel_rfl) (by kernel_rfl) (by rw [sz]; kernel_rfl) (by kernel_rfl) trivial ?_
  intro f1 w1 A hb
  replace bl0 := bl
  replace x0 := (A.old 0 rfl).trans x0
  replace x1 := (A.old 1 rfl).trans x1
  replace bl := (bl.trans (Below.mono hb bl.size))
  replace sz := A.size.trans sz
  replace df := A.defs.trans df
  clear A hb
  refine wl_one (.nw w1.heap.size 23 ((leaf).map V)) rfl 2 rfl (by rw [sz]; decide) (st_box 23 (.tmp 0) rfl _ _ (by rw [show _ = _ from x0]; kernel_rfl) (Nat.le_refl _)) ?_
  intro f2 w2 df2 sz2 old2 new2 hb
  replace bl0 := bl
  replace x0 := (old2 0 rfl).trans x0
  replace x1 := (old2 1 rfl).trans x1
  have x2 : Fk.f (.nw w1.heap.size 23 ((leaf).map V)) (f2.eval (.tmp 2)) w2 := new2
  replace bl := (bl.trans (Below.mono hb bl.size))
  replace sz := sz2.trans sz
  replace df := df2.trans df
  clear df2 sz2 old2 new2 hb
  obtain ⟨g2, hg2, e2, m2⟩ := x2
  have x2 := e2
  clear e2
  have hw2 : w.heap.size ≤ g2 := Nat.le_trans bl0.size hg2
  clear x0
  refine wl_one (.nw w2.heap.size 26 (([.int .i64 (i), .int .i64 (n), .slice pA (P).length pC] : List Value) ++ ((rt).map V))) rfl 3 rfl (by rw [sz]; decide) (st_box 26 (.tmp 1) rfl _ _ (by rw [show _ = _ from x1]; kernel_rfl) (Nat.le_refl _)) ?_
  intro f3 w3 df2 sz2 old2 new2 hb
  replace bl0 := bl
  replace x1 := (old2 1 rfl).trans x1
  replace x2 := (old2 2 rfl).trans x2
  have x3 : Fk.f (.nw w2.heap.size 26 (([.int .i64 (i), .int .i64 (n), .slice pA (P).length pC] : List Value) ++ ((rt).map V))) (f3.eval (.tmp 3)) w3 := new2
  have lt_m2 := Ob.lt m2
  replace m2 := Ob.below m2 hb
  replace bl := (bl.trans (Below.mono hb bl.size))
  replace sz := sz2.trans sz
  replace df := df2.trans df
  clear df2 sz2 old2 new2 hb
  obtain ⟨g3, hg3, e3, m3⟩ := x3
  have x3 := e3
  clear e3
  have nm2_3 : g2 ≠ g3 := Nat.ne_of_lt (Nat.lt_of_lt_of_le lt_m2 hg3)
  have hw3 : w.heap.size ≤ g3 := Nat.le_trans bl0.size hg3
  clear x1
  refine wl_one (.eq (.bool false)) rfl 4 rfl (by rw [sz]; decide) (st_assign (.const (.bool false)) rfl rfl) ?_
  intro f4 w4 df2 sz2 old2 new2 hb
  replace bl0 := bl
  replace x2 := (old2 2 rfl).trans x2
  replace x3 := (old2 3 rfl).trans x3
  have x4 : f4.eval (.tmp 4) = .bool false := new2
  have lt_m2 := Ob.lt m2
  replace m2 := Ob.below m2 hb
  have lt_m3 := Ob.lt m3
  replace m3 := Ob.below m3 hb
  replace bl := (bl.trans (Below.mono hb bl.size))
  replace sz := sz2.trans sz
  replace df := df2.trans df
  clear df2 sz2 old2 new2 hb
  refine wpList_nil ?_
  show Code.wp _ _ _ _ _
  refine wp_seq ?_
  refine wp_seq ?_
  refine wp_all_seq [.eq (.pointer (some ⟨g3, 2, none⟩)), .eq (.slice pA (P).length pC), .eq (.int .i64 (((P).length : Nat) : Int)), .eq (.bool false), .eq (.bool false), .eq (.pointer (some ⟨g3, 1, none⟩)), .eq (.int .i64 (n)), .eq (.bool false), .eq (.bool false)] (by kernel_rfl) (by kernel_rfl) (by rw [sz]; kernel_rfl) (by kernel_rfl) ⟨fun hw ac u K => ?_, fun hw ac u K => ?_, fun hw ac u K => ?_, fun hw ac u K => ?_, fun hw ac u K => ?_, fun hw ac u K => ?_, fun hw ac u K => ?_, fun hw ac u K => ?_, fun hw ac u K => ?_, trivial⟩ ?_
  · exact st_field 26 2 (.tmp 3) rfl ((K.old 3 rfl).trans x3) (by kernel_rfl)
  · exact st_loadc 24 (.tmp 12) rfl (by kernel_rfl) (K.dep 0 12 rfl) (ob_cell_at (Ob.below m3 K.grow) (([.int .i64 (i), .int .i64 (n)] : List Value)) ((rt).map V) _ 2 (by simp) (by rfl))
  · exact st_lenc (.tmp 13) rfl ((P).length) rfl (fk_val (K.dep 1 13 rfl) (Fk.mono _ _ _ _ hv (bl.trans (Below.mono K.grow bl.size))))
  · exact st_gtr 3 (.tmp 14) (.const (.int .i64 80)) rfl .i64 ((((P).length : Nat) : Int)) (80) (K.dep 2 14 rfl) rfl _ (by rw [eq_comm, decide_eq_false_iff_not]; omega)
  · exact st_move (.tmp 15) rfl (K.dep 3 15 rfl)
  · exact st_field 26 1 (.tmp 3) rfl ((K.old 3 rfl).trans x3) (by kernel_rfl)
  · exact st_loadc 3 (.tmp 17) rfl (by kernel_rfl) (K.dep 5 17 rfl) (ob_cell_at (Ob.below m3 K.grow) (([.int .i64 (i)] : List Value)) (([.slice pA (P).length pC] : List Value) ++ ((rt).map V)) _ 1 (by simp) (by rfl))
  · exact st_gtr 3 (.tmp 18) (.const (.int .i64 1152921504606846976)) rfl .i64 ((n)) (1152921504606846976) (K.dep 6 18 rfl) rfl _ (by rw [eq_comm, decide_eq_false_iff_not]; omega)
  · exact st_pick_f' (.tmp 16) (.const (.bool true)) (.tmp 19) rfl (K.dep 4 16 rfl) (K.dep 7 19 rfl)
  intro f5 w5 A hb
  replace bl0 := bl
  replace x2 := (A.old 2 rfl).trans x2
  replace x3 := (A.old 3 rfl).trans x3
  replace x4 := (A.old 4 rfl).trans x4
  have x20 : f5.eval (.tmp 20) = .bool false := A.has 8 20 rfl
  have lt_m2 := Ob.lt m2
  replace m2 := Ob.below m2 hb
  have lt_m3 := Ob.lt m3
  replace m3 := Ob.below m3 hb
  replace bl := (bl.trans (Below.mono hb bl.size))
  replace sz := A.size.trans sz
  replace df := A.defs.trans df
  clear A hb
  show Code.wp _ _ _ _ _
  refine wp_cond_false x20 ?_
  refine wp_skip ?_
  show Code.wp _ _ _ _ _
  refine wp_seq ?_
  refine wp_region_seq [.eq (.agg ((leaf).map V).toArray), .eq (.pointer (some ⟨g3, 0, none⟩)), .eq (.int .i64 (i)), .eq (.pointer (some ⟨g3, 1, none⟩)), .eq (.int .i64 (n)), .eq (.pointer (some ⟨g3, 2, none⟩)), .eq (.slice pA (P).length pC), .eq (.tuple #[.agg ((hz).map V).toArray, .int .i64 11]), .eq (.tuple #[.agg ((hz).map V).toArray, .int .i64 11]), .eq (.agg ((hz).map V).toArray), .eq (.int .i64 11)] (by kernel_rfl) (by kernel_rfl) (by rw [sz]; kernel_rfl) (by kernel_rfl) ⟨fun hw ac u K => ?_, fun hw ac u K => ?_, fun hw ac u K => ?_, fun hw ac u K => ?_, fun hw ac u K => ?_, fun hw ac u K => ?_, fun hw ac u K => ?_, fun hw ac u K => ?_, fun hw ac u K => ?_, fun hw ac u K => ?_, fun hw ac u K => ?_, trivial⟩ ?_
  · exact st_load23 (.tmp 2) rfl (g2) (leaf) ((K.old 2 rfl).trans x2) hlf (Ob.below m2 K.grow)
  · exact st_field 26 0 (.tmp 3) rfl ((K.old 3 rfl).trans x3) (by kernel_rfl)
  · exact st_loadc 3 (.tmp 24) rfl (by kernel_rfl) (K.dep 1 24 rfl) (ob_cell_at (Ob.below m3 K.grow) (([] : List Value)) (([.int .i64 (n), .slice pA (P).length pC] : List Value) ++ ((rt).map V)) _ 0 (by simp) (by rfl))
  · exact st_field 26 1 (.tmp 3) rfl ((K.old 3 rfl).trans x3) (by kernel_rfl)
  · exact st_loadc 3 (.tmp 26) rfl (by kernel_rfl) (K.dep 3 26 rfl) (ob_cell_at (Ob.below m3 K.grow) (([.int .i64 (i)] : List Value)) (([.slice pA (P).length pC] : List Value) ++ ((rt).map V)) _ 1 (by simp) (by rfl))
  · exact st_field 26 2 (.tmp 3) rfl ((K.old 3 rfl).trans x3) (by kernel_rfl)
  · exact st_loadc 24 (.tmp 28) rfl (by kernel_rfl) (K.dep 5 28 rfl) (ob_cell_at (Ob.below m3 K.grow) (([.int .i64 (i), .int .i64 (n)] : List Value)) ((rt).map V) _ 2 (by simp) (by rfl))
  · exact st_call 9 (.func 9) _ _ #[.agg ((leaf).map V).toArray, .int .i64 (i), .int .i64 (n), .slice pA (P).length pC] rfl rfl (arg4 (K.dep 0 23 rfl) (K.dep 2 25 rfl) (K.dep 4 27 rfl) (K.dep 6 29 rfl)) Tryd.enter9 (fk_lead_no hlf h hn (Fk.mono _ _ _ _ hv (bl.trans (Below.mono K.grow bl.size))) (by omega) (hK.below (bl.trans (Below.mono K.grow bl.size))))
  · exact st_move (.tmp 30) rfl (K.dep 7 30 rfl)
  · exact st_ext0 (.tmp 22) rfl (K.dep 8 22 rfl) rfl
  · exact st_ext1 (.tmp 22) rfl (K.dep 8 22 rfl) rfl
  intro f6 w6 A hb
  replace bl0 := bl
  replace x2 := (A.old 2 rfl).trans x2
  replace x3 := (A.old 3 rfl).trans x3
  replace x4 := (A.old 4 rfl).trans x4
  replace x20 := (A.old 20 rfl).trans x20
  have x31 : f6.eval (.tmp 31) = .agg ((hz).map V).toArray := A.has 9 31 rfl
  have x32 : f6.eval (.tmp 32) = .int .i64 11 := A.has 10 32 rfl
  have lt_m2 := Ob.lt m2
  replace m2 := Ob.below m2 hb
  have lt_m3 := Ob.lt m3
  replace m3 := Ob.below m3 hb
  replace bl := (bl.trans (Below.mono hb bl.size))
  replace sz := A.size.trans sz
  replace df := A.defs.trans df
  clear A hb
  refine wl_one (.nw w6.heap.size 23 ((hz).map V)) rfl 5 rfl (by rw [sz]; decide) (st_alloc23 rfl _ (Nat.le_refl _)) ?_
  intro f7 w7 df2 sz2 old2 new2 hb
  replace bl0 := bl
  replace x2 := (old2 2 rfl).trans x2
  replace x3 := (old2 3 rfl).trans x3
  replace x4 := (old2 4 rfl).trans x4
  replace x20 := (old2 20 rfl).trans x20
  replace x31 := (old2 31 rfl).trans x31
  replace x32 := (old2 32 rfl).trans x32
  have x5 : Fk.f (.nw w6.heap.size 23 ((hz).map V)) (f7.eval (.tmp 5)) w7 := new2
  have lt_m2 := Ob.lt m2
  replace m2 := Ob.below m2 hb
  have lt_m3 := Ob.lt m3
  replace m3 := Ob.below m3 hb
  replace bl := (bl.trans (Below.mono hb bl.size))
  replace sz := sz2.trans sz
  replace df := df2.trans df
  clear df2 sz2 old2 new2 hb
  obtain ⟨g5, hg5, e5, m5⟩ := x5
  have x5 := e5
  clear e5
  have nm2_5 : g2 ≠ g5 := Nat.ne_of_lt (Nat.lt_of_lt_of_le lt_m2 hg5)
  have nm3_5 : g3 ≠ g5 := Nat.ne_of_lt (Nat.lt_of_lt_of_le lt_m3 hg5)
  have hw5 : w.heap.size ≤ g5 := Nat.le_trans bl0.size hg5
  refine wl_store rfl (.tmp 5) (.tmp 31) rfl rfl (g5) (hz) (hz) x5 x31 m5 hz_len hz_len ?_
  replace m2 : Ob (w7.setRow g5 ((hz).map V : List Value).toArray) (g2) 23 ((leaf).map V) := Ob.setRow_other m2 _ nm2_5
  replace m3 : Ob (w7.setRow g5 ((hz).map V : List Value).toArray) (g3) 26 (([.int .i64 (i), .int .i64 (n), .slice pA (P).length pC] : List Value) ++ ((rt).map V)) := Ob.setRow_other m3 _ nm3_5
  replace m5 : Ob (w7.setRow g5 ((hz).map V : List Value).toArray) (g5) 23 ((hz).map V) := Ob.setRow m5 ((hz).map V)
  replace bl : Below w.heap.size w (w7.setRow g5 ((hz).map V : List Value).toArray) := bl.trans (below_setRow _ _ _ _ hw5)
  generalize w7.setRow g5 ((hz).map V : List Value).toArray = w8b at bl m2 m3 m5 ⊢
  clear x31
  refine wl_one (.eq (.int .i64 11)) rfl 6 rfl (by rw [sz]; decide) (st_assign (.tmp 32) rfl x32) ?_
  intro f9 w9 df2 sz2 old2 new2 hb
  replace bl0 := bl
  replace x2 := (old2 2 rfl).trans x2
  replace x3 := (old2 3 rfl).trans x3
  replace x4 := (old2 4 rfl).trans x4
  replace x20 := (old2 20 rfl).trans x20
  replace x32 := (old2 32 rfl).trans x32
  replace x5 := (old2 5 rfl).trans x5
  have x6 : f9.eval (.tmp 6) = .int .i64 11 := new2
  have lt_m2 := Ob.lt m2
  replace m2 := Ob.below m2 hb
  have lt_m3 := Ob.lt m3
  replace m3 := Ob.below m3 hb
  have lt_m5 := Ob.lt m5
  replace m5 := Ob.below m5 hb
  replace bl := (bl.trans (Below.mono hb bl.size))
  replace sz := sz2.trans sz
  replace df := df2.trans df
  clear df2 sz2 old2 new2 hb
  refine wpList_nil ?_
  clear x32
  show Code.wp _ _ _ _ _
  refine wp_seq ?_
  refine wp_seq ?_
  by_cases hi0 : i < 0
  rotate_left
  · skip
    refine wp_all_seq [.eq (.pointer (some ⟨g3, 0, none⟩)), .eq (.int .i64 (i)), .eq (.bool false), .eq (.bool false), .eq (.pointer (some ⟨g3, 0, none⟩)), .eq (.int .i64 (i)), .eq (.pointer (some ⟨g3, 1, none⟩)), .eq (.int .i64 (n)), .eq (.bool true), .eq (.bool true)] (by kernel_rfl) (by kernel_rfl) (by rw [sz]; kernel_rfl) (by kernel_rfl) ⟨fun hw ac u K => ?_, fun hw ac u K => ?_, fun hw ac u K => ?_, fun hw ac u K => ?_, fun hw ac u K => ?_, fun hw ac u K => ?_, fun hw ac u K => ?_, fun hw ac u K => ?_, fun hw ac u K => ?_, fun hw ac u K => ?_, trivial⟩ ?_
    · exact st_field 26 0 (.tmp 3) rfl ((K.old 3 rfl).trans x3) (by kernel_rfl)
    · exact st_loadc 3 (.tmp 33) rfl (by kernel_rfl) (K.dep 0 33 rfl) (ob_cell_at (Ob.below m3 K.grow) (([] : List Value)) (([.int .i64 (n), .slice pA (P).length pC] : List Value) ++ ((rt).map V)) _ 0 (by simp) (by rfl))
    · exact st_lss 3 (.tmp 34) (.const (.int .i64 0)) rfl .i64 ((i)) (0) (K.dep 1 34 rfl) rfl _ (by rw [eq_comm, decide_eq_false_iff_not]; omega)
    · exact st_move (.tmp 35) rfl (K.dep 2 35 rfl)
    · exact st_field 26 0 (.tmp 3) rfl ((K.old 3 rfl).trans x3) (by kernel_rfl)
    · exact st_loadc 3 (.tmp 37) rfl (by kernel_rfl) (K.dep 4 37 rfl) (ob_cell_at (Ob.below m3 K.grow) (([] : List Value)) (([.int .i64 (n), .slice pA (P).length pC] : List Value) ++ ((rt).map V)) _ 0 (by simp) (by rfl))
    · exact st_field 26 1 (.tmp 3) rfl ((K.old 3 rfl).trans x3) (by kernel_rfl)
    · exact st_loadc 3 (.tmp 39) rfl (by kernel_rfl) (K.dep 6 39 rfl) (ob_cell_at (Ob.below m3 K.grow) (([.int .i64 (i)] : List Value)) (([.slice pA (P).length pC] : List Value) ++ ((rt).map V)) _ 1 (by simp) (by rfl))
    · exact st_geq 3 (.tmp 38) (.tmp 40) rfl .i64 ((i)) ((n)) (K.dep 5 38 rfl) (K.dep 7 40 rfl) _ (by rw [eq_comm, decide_eq_true_iff]; omega)
    · exact st_pick_f' (.tmp 36) (.const (.bool true)) (.tmp 41) rfl (K.dep 3 36 rfl) (K.dep 8 41 rfl)
    intro f10 w10 A hb
    replace bl0 := bl
    replace x2 := (A.old 2 rfl).trans x2
    replace x3 := (A.old 3 rfl).trans x3
    replace x4 := (A.old 4 rfl).trans x4
    replace x20 := (A.old 20 rfl).trans x20
    replace x5 := (A.old 5 rfl).trans x5
    replace x6 := (A.old 6 rfl).trans x6
    have x42 : f10.eval (.tmp 42) = .bool true := A.has 9 42 rfl
    have lt_m2 := Ob.lt m2
    replace m2 := Ob.below m2 hb
    have lt_m3 := Ob.lt m3
    replace m3 := Ob.below m3 hb
    have lt_m5 := Ob.lt m5
    replace m5 := Ob.below m5 hb
    replace bl := (bl.trans (Below.mono hb bl.size))
    replace sz := A.size.trans sz
    replace df := A.defs.trans df
    clear A hb
    show Code.wp _ _ _ _ _
    refine wp_cond_true x42 ?_
    refine wp_seq ?_
    refine wp_all_seq [.eq (.int .i64 11), .eq (.bool true), .eq (.bool true), .eq (.agg ((hz).map V).toArray), .eq (.agg ((hz).map V).toArray), .eq (.bool true), .eq (.bool true), .eq (.bool true), .eq (.pointer (some ⟨g3, 0, none⟩)), .eq (.int .i64 (i)), .eq (.pointer (some ⟨g3, 1, none⟩)), .eq (.int .i64 (n)), .eq (.int .i64 0), .eq (.bool true), .eq (.bool true), .eq (.bool true), .eq (.agg ((leaf).map V).toArray), .eq (.pointer (some ⟨g3, 0, none⟩)), .eq (.int .i64 (i)), .eq (.pointer (some ⟨g3, 1, none⟩)), .eq (.int .i64 (n)), .eq (.pointer (some ⟨g3, 2, none⟩)), .eq (.slice pA (P).length pC), .eq (.pointer (some ⟨g3, 3, none⟩)), .eq (.agg ((rt).map V).toArray), .eq (.int .i64 11), .eq (.bool true), .eq (.bool true), .eq (.bool true), .eq (.bool true), .eq (.bool true), .eq (.bool true)] (by kernel_rfl) (by kernel_rfl) (by rw [sz]; kernel_rfl) (by kernel_rfl) ⟨fun hw ac u K => ?_, fun hw ac u K => ?_, fun hw ac u K => ?_, fun hw ac u K => ?_, fun hw ac u K => ?_, fun hw ac u K => ?_, fun hw ac u K => ?_, fun hw ac u K => ?_, fun hw ac u K => ?_, fun hw ac u K => ?_, fun hw ac u K => ?_, fun hw ac u K => ?_, fun hw ac u K => ?_, fun hw ac u K => ?_, fun hw ac u K => ?_, fun hw ac u K => ?_, fun hw ac u K => ?_, fun hw ac u K => ?_, fun hw ac u K => ?_, fun hw ac u K => ?_, fun hw ac u K => ?_, fun hw ac u K => ?_, fun hw ac u K => ?_, fun hw ac u K => ?_, fun hw ac u K => ?_, fun hw ac u K => ?_, fun hw ac u K => ?_, fun hw ac u K => ?_, fun hw ac u K => ?_, fun hw ac u K => ?_, fun hw ac u K => ?_, fun hw ac u K => ?_, trivial⟩ ?_
    · exact st_move (.tmp 6) rfl ((K.old 6 rfl).trans x6)
    · exact st_eqi 28 (.tmp 43) (.const (.int .i64 11)) rfl .i64 (11) (11) (K.dep 0 43 rfl) rfl _ (by rfl)
    · exact st_move (.tmp 44) rfl (K.dep 1 44 rfl)
    · exact st_load23 (.tmp 5) rfl (g5) (hz) ((K.old 5 rfl).trans x5) hz_len (Ob.below m5 K.grow)
    · exact st_zero23 rfl
    · exact st_eqh (.tmp 46) (.tmp 47) rfl (hz) (hz) hz_len hz_len (K.dep 3 46 rfl) (K.dep 4 47 rfl) _ (by simp)
    · exact st_pick_t (.tmp 45) (.tmp 48) (.const (.bool false)) rfl (K.dep 2 45 rfl) (K.dep 5 48 rfl)
    · exact st_move (.tmp 49) rfl (K.dep 6 49 rfl)
    · exact st_field 26 0 (.tmp 3) rfl ((K.old 3 rfl).trans x3) (by kernel_rfl)
    · exact st_loadc 3 (.tmp 51) rfl (by kernel_rfl) (K.dep 8 51 rfl) (ob_cell_at (Ob.below m3 K.grow) (([] : List Value)) (([.int .i64 (n), .slice pA (P).length pC] : List Value) ++ ((rt).map V)) _ 0 (by simp) (by rfl))
    · exact st_field 26 1 (.tmp 3) rfl ((K.old 3 rfl).trans x3) (by kernel_rfl)
    · exact st_loadc 3 (.tmp 53) rfl (by kernel_rfl) (K.dep 10 53 rfl) (ob_cell_at (Ob.below m3 K.grow) (([.int .i64 (i)] : List Value)) (([.slice pA (P).length pC] : List Value) ++ ((rt).map V)) _ 1 (by simp) (by rfl))
    · exact st_call 10 (.func 10) _ _ #[.int .i64 (i), .int .i64 (n)] rfl rfl (arg2 (K.dep 9 52 rfl) (K.dep 11 54 rfl)) Tryd.enter10 (fk_len_no h hn)
    · exact st_eqi 3 (.tmp 55) (.const (.int .i64 0)) rfl .i64 (0) (0) (K.dep 12 55 rfl) rfl _ (by rfl)
    · exact st_pick_t (.tmp 50) (.tmp 56) (.const (.bool false)) rfl (K.dep 7 50 rfl) (K.dep 13 56 rfl)
    · exact st_move (.tmp 57) rfl (K.dep 14 57 rfl)
    · exact st_load23 (.tmp 2) rfl (g2) (leaf) ((K.old 2 rfl).trans x2) hlf (Ob.below m2 K.grow)
    · exact st_field 26 0 (.tmp 3) rfl ((K.old 3 rfl).trans x3) (by kernel_rfl)
    · exact st_loadc 3 (.tmp 60) rfl (by kernel_rfl) (K.dep 17 60 rfl) (ob_cell_at (Ob.below m3 K.grow) (([] : List Value)) (([.int .i64 (n), .slice pA (P).length pC] : List Value) ++ ((rt).map V)) _ 0 (by simp) (by rfl))
    · exact st_field 26 1 (.tmp 3) rfl ((K.old 3 rfl).trans x3) (by kernel_rfl)
    · exact st_loadc 3 (.tmp 62) rfl (by kernel_rfl) (K.dep 19 62 rfl) (ob_cell_at (Ob.below m3 K.grow) (([.int .i64 (i)] : List Value)) (([.slice pA (P).length pC] : List Value) ++ ((rt).map V)) _ 1 (by simp) (by rfl))
    · exact st_field 26 2 (.tmp 3) rfl ((K.old 3 rfl).trans x3) (by kernel_rfl)
    · exact st_loadc 24 (.tmp 64) rfl (by kernel_rfl) (K.dep 21 64 rfl) (ob_cell_at (Ob.below m3 K.grow) (([.int .i64 (i), .int .i64 (n)] : List Value)) ((rt).map V) _ 2 (by simp) (by rfl))
    · exact st_field 26 3 (.tmp 3) rfl ((K.old 3 rfl).trans x3) (by kernel_rfl)
    · exact st_loadz 23 (.tmp 66) rfl (g3) 3 ((rt).map V) (by kernel_rfl) (by rw [List.length_map, hrt]; kernel_rfl) (K.dep 23 66 rfl) (ob_range_at (Ob.below m3 K.grow) (([.int .i64 (i), .int .i64 (n), .slice pA (P).length pC] : List Value)) (([] : List Value)) _ 3 (by simp) (by rfl))
    · exact st_call 11 (.func 11) _ _ #[.agg ((leaf).map V).toArray, .int .i64 (i), .int .i64 (n), .slice pA (P).length pC, .agg ((rt).map V).toArray] rfl rfl (arg5 (K.dep 16 59 rfl) (K.dep 18 61 rfl) (K.dep 20 63 rfl) (K.dep 22 65 rfl) (K.dep 24 67 rfl)) Tryd.enter11 (fk_in_no hlf hrt h hn (Fk.mono _ _ _ _ hv (bl.trans (Below.mono K.grow bl.size))) (by omega) (hK.below (bl.trans (Below.mono K.grow bl.size))))
    · exact st_eqi 28 (.tmp 68) (.const (.int .i64 11)) rfl .i64 (11) (11) (K.dep 25 68 rfl) rfl _ (by rfl)
    · exact st_pick_t (.tmp 58) (.tmp 69) (.const (.bool false)) rfl (K.dep 15 58 rfl) (K.dep 26 69 rfl)
    · exact st_move (.tmp 70) rfl (K.dep 27 70 rfl)
    · exact st_call 8 (.func 8) _ _ #[] rfl rfl rfl Tryd.enter8 (fk_of (awake_any _ (hK.below (bl.trans (Below.mono K.grow bl.size)))))
    · exact st_pick_t (.tmp 71) (.tmp 72) (.const (.bool false)) rfl (K.dep 28 71 rfl) (K.dep 29 72 rfl)
    · exact st_assign (.tmp 73) rfl (K.dep 30 73 rfl)
    intro f11 w11 A hb
    replace bl0 := bl
    replace x2 := (A.old 2 rfl).trans x2
    replace x3 := (A.old 3 rfl).trans x3
    clear x4
    replace x20 := (A.old 20 rfl).trans x20
    replace x5 := (A.old 5 rfl).trans x5
    replace x6 := (A.old 6 rfl).trans x6
    replace x42 := (A.old 42 rfl).trans x42
    have x4 : f11.eval (.tmp 4) = .bool true := A.has 31 4 rfl
    have lt_m2 := Ob.lt m2
    replace m2 := Ob.below m2 hb
    have lt_m3 := Ob.lt m3
    replace m3 := Ob.below m3 hb
    have lt_m5 := Ob.lt m5
    replace m5 := Ob.below m5 hb
    replace bl := (bl.trans (Below.mono hb bl.size))
    replace sz := A.size.trans sz
    replace df := A.defs.trans df
    clear A hb
    show Code.wp _ _ _ _ _
    refine wp_ret ?_
    repeat (first | with_reducible refine then_ret ?_ | with_reducible refine block_ret ?_)
    exact bodyPost_ret (v := .bool true) (ret_slot rfl f11 _ x4 _ _) df ⟨rfl, bl⟩
  refine wp_all_seq [.eq (.pointer (some ⟨g3, 0, none⟩)), .eq (.int .i64 (i)), .eq (.bool true), .eq (.bool true), .any, .any, .any, .any, .any, .eq (.bool true)] (by kernel_rfl) (by kernel_rfl) (by rw [sz]; kernel_rfl) (by kernel_rfl) ⟨fun hw ac u K => ?_, fun hw ac u K => ?_, fun hw ac u K => ?_, fun hw ac u K => ?_, fun hw ac u K => ?_, fun hw ac u K => ?_, fun hw ac u K => ?_, fun hw ac u K => ?_, fun hw ac u K => ?_, fun hw ac u K => ?_, trivial⟩ ?_
  · exact st_field 26 0 (.tmp 3) rfl ((K.old 3 rfl).trans x3) (by kernel_rfl)
  · exact st_loadc 3 (.tmp 33) rfl (by kernel_rfl) (K.dep 0 33 rfl) (ob_cell_at (Ob.below m3 K.grow) (([] : List Value)) (([.int .i64 (n), .slice pA (P).length pC] : List Value) ++ ((rt).map V)) _ 0 (by simp) (by rfl))
  · exact st_lss 3 (.tmp 34) (.const (.int .i64 0)) rfl .i64 ((i)) (0) (K.dep 1 34 rfl) rfl _ (by rw [eq_comm, decide_eq_true_iff]; omega)
  · exact st_move (.tmp 35) rfl (K.dep 2 35 rfl)
  · exact (Bool.false_ne_true hw).elim
  · exact (Bool.false_ne_true hw).elim
  · exact (Bool.false_ne_true hw).elim
  · exact (Bool.false_ne_true hw).elim
  · exact (Bool.false_ne_true hw).elim
  · exact st_pick_t (.tmp 36) (.const (.bool true)) (.tmp 41) rfl (K.dep 3 36 rfl) rfl
  intro f10 w10 A hb
  replace bl0 := bl
  replace x2 := (A.old 2 rfl).trans x2
  replace x3 := (A.old 3 rfl).trans x3
  replace x4 := (A.old 4 rfl).trans x4
  replace x20 := (A.old 20 rfl).trans x20
  replace x5 := (A.old 5 rfl).trans x5
  replace x6 := (A.old 6 rfl).trans x6
  have x42 : f10.eval (.tmp 42) = .bool true := A.has 9 42 rfl
  have lt_m2 := Ob.lt m2
  replace m2 := Ob.below m2 hb
  have lt_m3 := Ob.lt m3
  replace m3 := Ob.below m3 hb
  have lt_m5 := Ob.lt m5
  replace m5 := Ob.below m5 hb
  replace bl := (bl.trans (Below.mono hb bl.size))
  replace sz := A.size.trans sz
  replace df := A.defs.trans df
  clear A hb
  show Code.wp _ _ _ _ _
  refine wp_cond_true x42 ?_
  refine wp_seq ?_
  refine wp_all_seq [.eq (.int .i64 11), .eq (.bool true), .eq (.bool true), .eq (.agg ((hz).map V).toArray), .eq (.agg ((hz).map V).toArray), .eq (.bool true), .eq (.bool true), .eq (.bool true), .eq (.pointer (some ⟨g3, 0, none⟩)), .eq (.int .i64 (i)), .eq (.pointer (some ⟨g3, 1, none⟩)), .eq (.int .i64 (n)), .eq (.int .i64 0), .eq (.bool true), .eq (.bool true), .eq (.bool true), .eq (.agg ((leaf).map V).toArray), .eq (.pointer (some ⟨g3, 0, none⟩)), .eq (.int .i64 (i)), .eq (.pointer (some ⟨g3, 1, none⟩)), .eq (.int .i64 (n)), .eq (.pointer (some ⟨g3, 2, none⟩)), .eq (.slice pA (P).length pC), .eq (.pointer (some ⟨g3, 3, none⟩)), .eq (.agg ((rt).map V).toArray), .eq (.int .i64 11), .eq (.bool true), .eq (.bool true), .eq (.bool true), .eq (.bool true), .eq (.bool true), .eq (.bool true)] (by kernel_rfl) (by kernel_rfl) (by rw [sz]; kernel_rfl) (by kernel_rfl) ⟨fun hw ac u K => ?_, fun hw ac u K => ?_, fun hw ac u K => ?_, fun hw ac u K => ?_, fun hw ac u K => ?_, fun hw ac u K => ?_, fun hw ac u K => ?_, fun hw ac u K => ?_, fun hw ac u K => ?_, fun hw ac u K => ?_, fun hw ac u K => ?_, fun hw ac u K => ?_, fun hw ac u K => ?_, fun hw ac u K => ?_, fun hw ac u K => ?_, fun hw ac u K => ?_, fun hw ac u K => ?_, fun hw ac u K => ?_, fun hw ac u K => ?_, fun hw ac u K => ?_, fun hw ac u K => ?_, fun hw ac u K => ?_, fun hw ac u K => ?_, fun hw ac u K => ?_, fun hw ac u K => ?_, fun hw ac u K => ?_, fun hw ac u K => ?_, fun hw ac u K => ?_, fun hw ac u K => ?_, fun hw ac u K => ?_, fun hw ac u K => ?_, fun hw ac u K => ?_, trivial⟩ ?_
  · exact st_move (.tmp 6) rfl ((K.old 6 rfl).trans x6)
  · exact st_eqi 28 (.tmp 43) (.const (.int .i64 11)) rfl .i64 (11) (11) (K.dep 0 43 rfl) rfl _ (by rfl)
  · exact st_move (.tmp 44) rfl (K.dep 1 44 rfl)
  · exact st_load23 (.tmp 5) rfl (g5) (hz) ((K.old 5 rfl).trans x5) hz_len (Ob.below m5 K.grow)
  · exact st_zero23 rfl
  · exact st_eqh (.tmp 46) (.tmp 47) rfl (hz) (hz) hz_len hz_len (K.dep 3 46 rfl) (K.dep 4 47 rfl) _ (by simp)
  · exact st_pick_t (.tmp 45) (.tmp 48) (.const (.bool false)) rfl (K.dep 2 45 rfl) (K.dep 5 48 rfl)
  · exact st_move (.tmp 49) rfl (K.dep 6 49 rfl)
  · exact st_field 26 0 (.tmp 3) rfl ((K.old 3 rfl).trans x3) (by kernel_rfl)
  · exact st_loadc 3 (.tmp 51) rfl (by kernel_rfl) (K.dep 8 51 rfl) (ob_cell_at (Ob.below m3 K.grow) (([] : List Value)) (([.int .i64 (n), .slice pA (P).length pC] : List Value) ++ ((rt).map V)) _ 0 (by simp) (by rfl))
  · exact st_field 26 1 (.tmp 3) rfl ((K.old 3 rfl).trans x3) (by kernel_rfl)
  · exact st_loadc 3 (.tmp 53) rfl (by kernel_rfl) (K.dep 10 53 rfl) (ob_cell_at (Ob.below m3 K.grow) (([.int .i64 (i)] : List Value)) (([.slice pA (P).length pC] : List Value) ++ ((rt).map V)) _ 1 (by simp) (by rfl))
  · exact st_call 10 (.func 10) _ _ #[.int .i64 (i), .int .i64 (n)] rfl rfl (arg2 (K.dep 9 52 rfl) (K.dep 11 54 rfl)) Tryd.enter10 (fk_len_no h hn)
  · exact st_eqi 3 (.tmp 55) (.const (.int .i64 0)) rfl .i64 (0) (0) (K.dep 12 55 rfl) rfl _ (by rfl)
  · exact st_pick_t (.tmp 50) (.tmp 56) (.const (.bool false)) rfl (K.dep 7 50 rfl) (K.dep 13 56 rfl)
  · exact st_move (.tmp 57) rfl (K.dep 14 57 rfl)
  · exact st_load23 (.tmp 2) rfl (g2) (leaf) ((K.old 2 rfl).trans x2) hlf (Ob.below m2 K.grow)
  · exact st_field 26 0 (.tmp 3) rfl ((K.old 3 rfl).trans x3) (by kernel_rfl)
  · exact st_loadc 3 (.tmp 60) rfl (by kernel_rfl) (K.dep 17 60 rfl) (ob_cell_at (Ob.below m3 K.grow) (([] : List Value)) (([.int .i64 (n), .slice pA (P).length pC] : List Value) ++ ((rt).map V)) _ 0 (by simp) (by rfl))
  · exact st_field 26 1 (.tmp 3) rfl ((K.old 3 rfl).trans x3) (by kernel_rfl)
  · exact st_loadc 3 (.tmp 62) rfl (by kernel_rfl) (K.dep 19 62 rfl) (ob_cell_at (Ob.below m3 K.grow) (([.int .i64 (i)] : List Value)) (([.slice pA (P).length pC] : List Value) ++ ((rt).map V)) _ 1 (by simp) (by rfl))
  · exact st_field 26 2 (.tmp 3) rfl ((K.old 3 rfl).trans x3) (by kernel_rfl)
  · exact st_loadc 24 (.tmp 64) rfl (by kernel_rfl) (K.dep 21 64 rfl) (ob_cell_at (Ob.below m3 K.grow) (([.int .i64 (i), .int .i64 (n)] : List Value)) ((rt).map V) _ 2 (by simp) (by rfl))
  · exact st_field 26 3 (.tmp 3) rfl ((K.old 3 rfl).trans x3) (by kernel_rfl)
  · exact st_loadz 23 (.tmp 66) rfl (g3) 3 ((rt).map V) (by kernel_rfl) (by rw [List.length_map, hrt]; kernel_rfl) (K.dep 23 66 rfl) (ob_range_at (Ob.below m3 K.grow) (([.int .i64 (i), .int .i64 (n), .slice pA (P).length pC] : List Value)) (([] : List Value)) _ 3 (by simp) (by rfl))
  · exact st_call 11 (.func 11) _ _ #[.agg ((leaf).map V).toArray, .int .i64 (i), .int .i64 (n), .slice pA (P).length pC, .agg ((rt).map V).toArray] rfl rfl (arg5 (K.dep 16 59 rfl) (K.dep 18 61 rfl) (K.dep 20 63 rfl) (K.dep 22 65 rfl) (K.dep 24 67 rfl)) Tryd.enter11 (fk_in_no hlf hrt h hn (Fk.mono _ _ _ _ hv (bl.trans (Below.mono K.grow bl.size))) (by omega) (hK.below (bl.trans (Below.mono K.grow bl.size))))
  · exact st_eqi 28 (.tmp 68) (.const (.int .i64 11)) rfl .i64 (11) (11) (K.dep 25 68 rfl) rfl _ (by rfl)
  · exact st_pick_t (.tmp 58) (.tmp 69) (.const (.bool false)) rfl (K.dep 15 58 rfl) (K.dep 26 69 rfl)
  · exact st_move (.tmp 70) rfl (K.dep 27 70 rfl)
  · exact st_call 8 (.func 8) _ _ #[] rfl rfl rfl Tryd.enter8 (fk_of (awake_any _ (hK.below (bl.trans (Below.mono K.grow bl.size)))))
  · exact st_pick_t (.tmp 71) (.tmp 72) (.const (.bool false)) rfl (K.dep 28 71 rfl) (K.dep 29 72 rfl)
  · exact st_assign (.tmp 73) rfl (K.dep 30 73 rfl)
  intro f11 w11 A hb
  replace bl0 := bl
  replace x2 := (A.old 2 rfl).trans x2
  replace x3 := (A.old 3 rfl).trans x3
  clear x4
  replace x20 := (A.old 20 rfl).trans x20
  replace x5 := (A.old 5 rfl).trans x5
  replace x6 := (A.old 6 rfl).trans x6
  replace x42 := (A.old 42 rfl).trans x42
  have x4 : f11.eval (.tmp 4) = .bool true := A.has 31 4 rfl
  have lt_m2 := Ob.lt m2
  replace m2 := Ob.below m2 hb
  have lt_m3 := Ob.lt m3
  replace m3 := Ob.below m3 hb
  have lt_m5 := Ob.lt m5
  replace m5 := Ob.below m5 hb
  replace bl := (bl.trans (Below.mono hb bl.size))
  replace sz := A.size.trans sz
  replace df := A.defs.trans df
  clear A hb
  show Code.wp _ _ _ _ _
  refine wp_ret ?_
  repeat (first | with_reducible refine then_ret ?_ | with_reducible refine block_ret ?_)
  exact bodyPost_ret (v := .bool true) (ret_slot rfl f11 _ x4 _ _) df ⟨rfl, bl⟩
set_option maxHeartbeats 1000000 in
theorem leads_bad {leaf rt : List (BitVec 8)} (hlf : leaf.length = 32) (hrt : rt.length = 32) {P : List (List (BitVec 8))} {pA : Option Addr} {pC : Nat} (w : World) (hK : Tab w) (hv : (Fk.hc P).f (.slice pA (P).length pC) w) {i n : Nat} (h80 : P.length ≤ 80) (hi : i < n) (hn : n ≤ 1152921504606846976) (hPS0 : P.length ≠ (sds i n).length) :
    Calls Tryd.prog 3 #[.agg ((leaf).map V).toArray, .agg (([.int .i64 ((i : Nat) : Int), .int .i64 ((n : Nat) : Int), .slice pA (P).length pC] : List Value) ++ ((rt).map V)).toArray] w fun e w' => e = .returned (.bool true) ∧ Below w.heap.size w w' := by
  have hvs := hc_hs hv
  obtain ⟨S, hS⟩ : ∃ S, sds i n = S := ⟨_, rfl⟩
  have hSl : S.length ≤ 60 := by rw [← hS]; exact sds_log n i 60 (by omega)
  have hPS : P.length ≠ S.length := by rw [← hS]; exact hPS0
  go_enter Tryd.func3, Tryd.ntmps3
  refine code_both (fun f w1 => f.tmps.size = 179 ∧ f.defers = [] ∧ f.eval (.tmp 0) = .agg ((leaf).map V).toArray ∧ f.eval (.tmp 1) = .agg (([.int .i64 ((i : Nat) : Int), .int .i64 ((n : Nat) : Int), .slice pA (P).length pC] : List Value) ++ ((rt).map V)).toArray ∧ Below w.heap.size w (w1)) ⟨rfl, rfl, rfl, rfl, Below.refl _ _⟩ ?_
  rintro f0 w0 ⟨sz, df, x0, x1, bl⟩
  have bl0 := bl
  refine wp_seq ?_
  refine wp_region_seq [] (by kernel_rfl) (by kernel_rfl) (by rw [sz]; kernel_rfl) (by kernel_rfl) trivial ?_
  intro f1 w1 A hb
  replace bl0 := bl
  replace x0 := (A.old 0 rfl).trans x0
  replace x1 := (A.old 1 rfl).trans x1
  replace bl := (bl.trans (Below.mono hb bl.size))
  replace sz := A.size.trans sz
  replace df := A.defs.trans df
  clear A hb
  refine wl_one (.nw w1.heap.size 23 ((leaf).map V)) rfl 2 rfl (by rw [sz]; decide) (st_box 23 (.tmp 0) rfl _ _ (by rw [show _ = _ from x0]; kernel_rfl) (Nat.le_refl _)) ?_
  intro f2 w2 df2 sz2 old2 new2 hb
  replace bl0 := bl
  replace x0 := (old2 0 rfl).trans x0
  replace x1 := (old2 1 rfl).trans x1
  have x2 : Fk.f (.nw w1.heap.size 23 ((leaf).map V)) (f2.eval (.tmp 2)) w2 := new2
  replace bl := (bl.trans (Below.mono hb bl.size))
  replace sz := sz2.trans sz
  replace df := df2.trans df
  clear df2 sz2 old2 new2 hb
  obtain ⟨g2, hg2, e2, m2⟩ := x2
  have x2 := e2
  clear e2
  have hw2 : w.heap.size ≤ g2 := Nat.le_trans bl0.size hg2
  clear x0
  refine wl_one (.nw w2.heap.size 26 (([.int .i64 ((i : Nat) : Int), .int .i64 ((n : Nat) : Int), .slice pA (P).length pC] : List Value) ++ ((rt).map V))) rfl 3 rfl (by rw [sz]; decide) (st_box 26 (.tmp 1) rfl _ _ (by rw [show _ = _ from x1]; kernel_rfl) (Nat.le_refl _)) ?_
  intro f3 w3 df2 sz2 old2 new2 hb
  replace bl0 := bl
  replace x1 := (old2 1 rfl).trans x1
  replace x2 := (old2 2 rfl).trans x2
  have x3 : Fk.f (.nw w2.heap.size 26 (([.int .i64 ((i : Nat) : Int), .int .i64 ((n : Nat) : Int), .slice pA (P).length pC] : List Value) ++ ((rt).map V))) (f3.eval (.tmp 3)) w3 := new2
  have lt_m2 := Ob.lt m2
  replace m2 := Ob.below m2 hb
  replace bl := (bl.trans (Below.mono hb bl.size))
  replace sz := sz2.trans sz
  replace df := df2.trans df
  clear df2 sz2 old2 new2 hb
  obtain ⟨g3, hg3, e3, m3⟩ := x3
  have x3 := e3
  clear e3
  have nm2_3 : g2 ≠ g3 := Nat.ne_of_lt (Nat.lt_of_lt_of_le lt_m2 hg3)
  have hw3 : w.heap.size ≤ g3 := Nat.le_trans bl0.size hg3
  clear x1
  refine wl_one (.eq (.bool false)) rfl 4 rfl (by rw [sz]; decide) (st_assign (.const (.bool false)) rfl rfl) ?_
  intro f4 w4 df2 sz2 old2 new2 hb
  replace bl0 := bl
  replace x2 := (old2 2 rfl).trans x2
  replace x3 := (old2 3 rfl).trans x3
  have x4 : f4.eval (.tmp 4) = .bool false := new2
  have lt_m2 := Ob.lt m2
  replace m2 := Ob.below m2 hb
  have lt_m3 := Ob.lt m3
  replace m3 := Ob.below m3 hb
  replace bl := (bl.trans (Below.mono hb bl.size))
  replace sz := sz2.trans sz
  replace df := df2.trans df
  clear df2 sz2 old2 new2 hb
  refine wpList_nil ?_
  show Code.wp _ _ _ _ _
  refine wp_seq ?_
  refine wp_seq ?_
  refine wp_all_seq [.eq (.pointer (some ⟨g3, 2, none⟩)), .eq (.slice pA (P).length pC), .eq (.int .i64 (((P).length : Nat) : Int)), .eq (.bool false), .eq (.bool false), .eq (.pointer (some ⟨g3, 1, none⟩)), .eq (.int .i64 ((n : Nat) : Int)), .eq (.bool false), .eq (.bool false)] (by kernel_rfl) (by kernel_rfl) (by rw [sz]; kernel_rfl) (by kernel_rfl) ⟨fun hw ac u K => ?_, fun hw ac u K => ?_, fun hw ac u K => ?_, fun hw ac u K => ?_, fun hw ac u K => ?_, fun hw ac u K => ?_, fun hw ac u K => ?_, fun hw ac u K => ?_, fun hw ac u K => ?_, trivial⟩ ?_
  · exact st_field 26 2 (.tmp 3) rfl ((K.old 3 rfl).trans x3) (by kernel_rfl)
  · exact st_loadc 24 (.tmp 12) rfl (by kernel_rfl) (K.dep 0 12 rfl) (ob_cell_at (Ob.below m3 K.grow) (([.int .i64 ((i : Nat) : Int), .int .i64 ((n : Nat) : Int)] : List Value)) ((rt).map V) _ 2 (by simp) (by rfl))
  · exact st_lenc (.tmp 13) rfl ((P).length) rfl (fk_val (K.dep 1 13 rfl) (Fk.mono _ _ _ _ hv (bl.trans (Below.mono K.grow bl.size))))
  · exact st_gtr 3 (.tmp 14) (.const (.int .i64 80)) rfl .i64 ((((P).length : Nat) : Int)) (80) (K.dep 2 14 rfl) rfl _ (by rw [eq_comm, decide_eq_false_iff_not]; omega)
  · exact st_move (.tmp 15) rfl (K.dep 3 15 rfl)
  · exact st_field 26 1 (.tmp 3) rfl ((K.old 3 rfl).trans x3) (by kernel_rfl)
  · exact st_loadc 3 (.tmp 17) rfl (by kernel_rfl) (K.dep 5 17 rfl) (ob_cell_at (Ob.below m3 K.grow) (([.int .i64 ((i : Nat) : Int)] : List Value)) (([.slice pA (P).length pC] : List Value) ++ ((rt).map V)) _ 1 (by simp) (by rfl))
  · exact st_gtr 3 (.tmp 18) (.const (.int .i64 1152921504606846976)) rfl .i64 (((n : Nat) : Int)) (1152921504606846976) (K.dep 6 18 rfl) rfl _ (by rw [eq_comm, decide_eq_false_iff_not]; omega)
  · exact st_pick_f' (.tmp 16) (.const (.bool true)) (.tmp 19) rfl (K.dep 4 16 rfl) (K.dep 7 19 rfl)
  intro f5 w5 A hb
  replace bl0 := bl
  replace x2 := (A.old 2 rfl).trans x2
  replace x3 := (A.old 3 rfl).trans x3
  replace x4 := (A.old 4 rfl).trans x4
  have x20 : f5.eval (.tmp 20) = .bool false := A.has 8 20 rfl
  have lt_m2 := Ob.lt m2
  replace m2 := Ob.below m2 hb
  have lt_m3 := Ob.lt m3
  replace m3 := Ob.below m3 hb
  replace bl := (bl.trans (Below.mono hb bl.size))
  replace sz := A.size.trans sz
  replace df := A.defs.trans df
  clear A hb
  show Code.wp _ _ _ _ _
  refine wp_cond_false x20 ?_
  refine wp_skip ?_
  show Code.wp _ _ _ _ _
  refine wp_seq ?_
  refine wp_region_seq [.eq (.agg ((leaf).map V).toArray), .eq (.pointer (some ⟨g3, 0, none⟩)), .eq (.int .i64 ((i : Nat) : Int)), .eq (.pointer (some ⟨g3, 1, none⟩)), .eq (.int .i64 ((n : Nat) : Int)), .eq (.pointer (some ⟨g3, 2, none⟩)), .eq (.slice pA (P).length pC), .eq (.tuple #[.agg ((hz).map V).toArray, .int .i64 22]), .eq (.tuple #[.agg ((hz).map V).toArray, .int .i64 22]), .eq (.agg ((hz).map V).toArray), .eq (.int .i64 22)] (by kernel_rfl) (by kernel_rfl) (by rw [sz]; kernel_rfl) (by kernel_rfl) ⟨fun hw ac u K => ?_, fun hw ac u K => ?_, fun hw ac u K => ?_, fun hw ac u K => ?_, fun hw ac u K => ?_, fun hw ac u K => ?_, fun hw ac u K => ?_, fun hw ac u K => ?_, fun hw ac u K => ?_, fun hw ac u K => ?_, fun hw ac u K => ?_, trivial⟩ ?_
  · exact st_load23 (.tmp 2) rfl (g2) (leaf) ((K.old 2 rfl).trans x2) hlf (Ob.below m2 K.grow)
  · exact st_field 26 0 (.tmp 3) rfl ((K.old 3 rfl).trans x3) (by kernel_rfl)
  · exact st_loadc 3 (.tmp 24) rfl (by kernel_rfl) (K.dep 1 24 rfl) (ob_cell_at (Ob.below m3 K.grow) (([] : List Value)) (([.int .i64 ((n : Nat) : Int), .slice pA (P).length pC] : List Value) ++ ((rt).map V)) _ 0 (by simp) (by rfl))
  · exact st_field 26 1 (.tmp 3) rfl ((K.old 3 rfl).trans x3) (by kernel_rfl)
  · exact st_loadc 3 (.tmp 26) rfl (by kernel_rfl) (K.dep 3 26 rfl) (ob_cell_at (Ob.below m3 K.grow) (([.int .i64 ((i : Nat) : Int)] : List Value)) (([.slice pA (P).length pC] : List Value) ++ ((rt).map V)) _ 1 (by simp) (by rfl))
  · exact st_field 26 2 (.tmp 3) rfl ((K.old 3 rfl).trans x3) (by kernel_rfl)
  · exact st_loadc 24 (.tmp 28) rfl (by kernel_rfl) (K.dep 5 28 rfl) (ob_cell_at (Ob.below m3 K.grow) (([.int .i64 ((i : Nat) : Int), .int .i64 ((n : Nat) : Int)] : List Value)) ((rt).map V) _ 2 (by simp) (by rfl))
  · exact st_call 9 (.func 9) _ _ #[.agg ((leaf).map V).toArray, .int .i64 ((i : Nat) : Int), .int .i64 ((n : Nat) : Int), .slice pA (P).length pC] rfl rfl (arg4 (K.dep 0 23 rfl) (K.dep 2 25 rfl) (K.dep 4 27 rfl) (K.dep 6 29 rfl)) Tryd.enter9 (fk_lead_bad hlf hi hn (Fk.mono _ _ _ _ hv (bl.trans (Below.mono K.grow bl.size))) (by omega) (hK.below (bl.trans (Below.mono K.grow bl.size))) hPS0)
  · exact st_move (.tmp 30) rfl (K.dep 7 30 rfl)
  · exact st_ext0 (.tmp 22) rfl (K.dep 8 22 rfl) rfl
  · exact st_ext1 (.tmp 22) rfl (K.dep 8 22 rfl) rfl
  intro f6 w6 A hb
  replace bl0 := bl
  replace x2 := (A.old 2 rfl).trans x2
  replace x3 := (A.old 3 rfl).trans x3
  replace x4 := (A.old 4 rfl).trans x4
  replace x20 := (A.old 20 rfl).trans x20
  have x31 : f6.eval (.tmp 31) = .agg ((hz).map V).toArray := A.has 9 31 rfl
  have x32 : f6.eval (.tmp 32) = .int .i64 22 := A.has 10 32 rfl
  have lt_m2 := Ob.lt m2
  replace m2 := Ob.below m2 hb
  have lt_m3 := Ob.lt m3
  replace m3 := Ob.below m3 hb
  replace bl := (bl.trans (Below.mono hb bl.size))
  replace sz := A.size.trans sz
  replace df := A.defs.trans df
  clear A hb
  refine wl_one (.nw w6.heap.size 23 ((hz).map V)) rfl 5 rfl (by rw [sz]; decide) (st_alloc23 rfl _ (Nat.le_refl _)) ?_
  intro f7 w7 df2 sz2 old2 new2 hb
  replace bl0 := bl
  replace x2 := (old2 2 rfl).trans x2
  replace x3 := (old2 3 rfl).trans x3
  replace x4 := (old2 4 rfl).trans x4
  replace x20 := (old2 20 rfl).trans x20
  replace x31 := (old2 31 rfl).trans x31
  replace x32 := (old2 32 rfl).trans x32
  have x5 : Fk.f (.nw w6.heap.size 23 ((hz).map V)) (f7.eval (.tmp 5)) w7 := new2
  have lt_m2 := Ob.lt m2
  replace m2 := Ob.below m2 hb
  have lt_m3 := Ob.lt m3
  replace m3 := Ob.below m3 hb
  replace bl := (bl.trans (Below.mono hb bl.size))
  replace sz := sz2.trans sz
  replace df := df2.trans df
  clear df2 sz2 old2 new2 hb
  obtain ⟨g5, hg5, e5, m5⟩ := x5
  have x5 := e5
  clear e5
  have nm2_5 : g2 ≠ g5 := Nat.ne_of_lt (Nat.lt_of_lt_of_le lt_m2 hg5)
  have nm3_5 : g3 ≠ g5 := Nat.ne_of_lt (Nat.lt_of_lt_of_le lt_m3 hg5)
  have hw5 : w.heap.size ≤ g5 := Nat.le_trans bl0.size hg5
  refine wl_store rfl (.tmp 5) (.tmp 31) rfl rfl (g5) (hz) (hz) x5 x31 m5 hz_len hz_len ?_
  replace m2 : Ob (w7.setRow g5 ((hz).map V : List Value).toArray) (g2) 23 ((leaf).map V) := Ob.setRow_other m2 _ nm2_5
  replace m3 : Ob (w7.setRow g5 ((hz).map V : List Value).toArray) (g3) 26 (([.int .i64 ((i : Nat) : Int), .int .i64 ((n : Nat) : Int), .slice pA (P).length pC] : List Value) ++ ((rt).map V)) := Ob.setRow_other m3 _ nm3_5
  replace m5 : Ob (w7.setRow g5 ((hz).map V : List Value).toArray) (g5) 23 ((hz).map V) := Ob.setRow m5 ((hz).map V)
  replace bl : Below w.heap.size w (w7.setRow g5 ((hz).map V : List Value).toArray) := bl.trans (below_setRow _ _ _ _ hw5)
  generalize w7.setRow g5 ((hz).map V : List Value).toArray = w8b at bl m2 m3 m5 ⊢
  clear x31
  refine wl_one (.eq (.int .i64 22)) rfl 6 rfl (by rw [sz]; decide) (st_assign (.tmp 32) rfl x32) ?_
  intro f9 w9 df2 sz2 old2 new2 hb
  replace bl0 := bl
  replace x2 := (old2 2 rfl).trans x2
  replace x3 := (old2 3 rfl).trans x3
  replace x4 := (old2 4 rfl).trans x4
  replace x20 := (old2 20 rfl).trans x20
  replace x32 := (old2 32 rfl).trans x32
  replace x5 := (old2 5 rfl).trans x5
  have x6 : f9.eval (.tmp 6) = .int .i64 22 := new2
  have lt_m2 := Ob.lt m2
  replace m2 := Ob.below m2 hb
  have lt_m3 := Ob.lt m3
  replace m3 := Ob.below m3 hb
  have lt_m5 := Ob.lt m5
  replace m5 := Ob.below m5 hb
  replace bl := (bl.trans (Below.mono hb bl.size))
  replace sz := sz2.trans sz
  replace df := df2.trans df
  clear df2 sz2 old2 new2 hb
  refine wpList_nil ?_
  clear x32
  show Code.wp _ _ _ _ _
  refine wp_seq ?_
  refine wp_seq ?_
  refine wp_all_seq [.eq (.pointer (some ⟨g3, 0, none⟩)), .eq (.int .i64 ((i : Nat) : Int)), .eq (.bool false), .eq (.bool false), .eq (.pointer (some ⟨g3, 0, none⟩)), .eq (.int .i64 ((i : Nat) : Int)), .eq (.pointer (some ⟨g3, 1, none⟩)), .eq (.int .i64 ((n : Nat) : Int)), .eq (.bool false), .eq (.bool false)] (by kernel_rfl) (by kernel_rfl) (by rw [sz]; kernel_rfl) (by kernel_rfl) ⟨fun hw ac u K => ?_, fun hw ac u K => ?_, fun hw ac u K => ?_, fun hw ac u K => ?_, fun hw ac u K => ?_, fun hw ac u K => ?_, fun hw ac u K => ?_, fun hw ac u K => ?_, fun hw ac u K => ?_, fun hw ac u K => ?_, trivial⟩ ?_
  · exact st_field 26 0 (.tmp 3) rfl ((K.old 3 rfl).trans x3) (by kernel_rfl)
  · exact st_loadc 3 (.tmp 33) rfl (by kernel_rfl) (K.dep 0 33 rfl) (ob_cell_at (Ob.below m3 K.grow) (([] : List Value)) (([.int .i64 ((n : Nat) : Int), .slice pA (P).length pC] : List Value) ++ ((rt).map V)) _ 0 (by simp) (by rfl))
  · exact st_lss 3 (.tmp 34) (.const (.int .i64 0)) rfl .i64 (((i : Nat) : Int)) (0) (K.dep 1 34 rfl) rfl _ (by rw [eq_comm, decide_eq_false_iff_not]; omega)
  · exact st_move (.tmp 35) rfl (K.dep 2 35 rfl)
  · exact st_field 26 0 (.tmp 3) rfl ((K.old 3 rfl).trans x3) (by kernel_rfl)
  · exact st_loadc 3 (.tmp 37) rfl (by kernel_rfl) (K.dep 4 37 rfl) (ob_cell_at (Ob.below m3 K.grow) (([] : List Value)) (([.int .i64 ((n : Nat) : Int), .slice pA (P).length pC] : List Value) ++ ((rt).map V)) _ 0 (by simp) (by rfl))
  · exact st_field 26 1 (.tmp 3) rfl ((K.old 3 rfl).trans x3) (by kernel_rfl)
  · exact st_loadc 3 (.tmp 39) rfl (by kernel_rfl) (K.dep 6 39 rfl) (ob_cell_at (Ob.below m3 K.grow) (([.int .i64 ((i : Nat) : Int)] : List Value)) (([.slice pA (P).length pC] : List Value) ++ ((rt).map V)) _ 1 (by simp) (by rfl))
  · exact st_geq 3 (.tmp 38) (.tmp 40) rfl .i64 (((i : Nat) : Int)) (((n : Nat) : Int)) (K.dep 5 38 rfl) (K.dep 7 40 rfl) _ (by rw [eq_comm, decide_eq_false_iff_not]; omega)
  · exact st_pick_f' (.tmp 36) (.const (.bool true)) (.tmp 41) rfl (K.dep 3 36 rfl) (K.dep 8 41 rfl)
  intro f10 w10 A hb
  replace bl0 := bl
  replace x2 := (A.old 2 rfl).trans x2
  replace x3 := (A.old 3 rfl).trans x3
  replace x4 := (A.old 4 rfl).trans x4
  replace x20 := (A.old 20 rfl).trans x20
  replace x5 := (A.old 5 rfl).trans x5
  replace x6 := (A.old 6 rfl).trans x6
  have x42 : f10.eval (.tmp 42) = .bool false := A.has 9 42 rfl
  have lt_m2 := Ob.lt m2
  replace m2 := Ob.below m2 hb
  have lt_m3 := Ob.lt m3
  replace m3 := Ob.below m3 hb
  have lt_m5 := Ob.lt m5
  replace m5 := Ob.below m5 hb
  replace bl := (bl.trans (Below.mono hb bl.size))
  replace sz := A.size.trans sz
  replace df := A.defs.trans df
  clear A hb
  show Code.wp _ _ _ _ _
  refine wp_cond_false x42 ?_
  refine wp_skip ?_
  show Code.wp _ _ _ _ _
  refine wp_seq ?_
  refine wp_all_seq [.eq (.pointer (some ⟨g3, 0, none⟩)), .eq (.int .i64 ((i : Nat) : Int)), .eq (.pointer (some ⟨g3, 1, none⟩)), .eq (.int .i64 ((n : Nat) : Int)), .ob w.heap.size (S), .ob w.heap.size (S)] (by kernel_rfl) (by kernel_rfl) (by rw [sz]; kernel_rfl) (by kernel_rfl) ⟨fun hw ac u K => ?_, fun hw ac u K => ?_, fun hw ac u K => ?_, fun hw ac u K => ?_, fun hw ac u K => ?_, fun hw ac u K => ?_, trivial⟩ ?_
  · exact st_field 26 0 (.tmp 3) rfl ((K.old 3 rfl).trans x3) (by kernel_rfl)
  · exact st_loadc 3 (.tmp 74) rfl (by kernel_rfl) (K.dep 0 74 rfl) (ob_cell_at (Ob.below m3 K.grow) (([] : List Value)) (([.int .i64 ((n : Nat) : Int), .slice pA (P).length pC] : List Value) ++ ((rt).map V)) _ 0 (by simp) (by rfl))
  · exact st_field 26 1 (.tmp 3) rfl ((K.old 3 rfl).trans x3) (by kernel_rfl)
  · exact st_loadc 3 (.tmp 76) rfl (by kernel_rfl) (K.dep 2 76 rfl) (ob_cell_at (Ob.below m3 K.grow) (([.int .i64 ((i : Nat) : Int)] : List Value)) (([.slice pA (P).length pC] : List Value) ++ ((rt).map V)) _ 1 (by simp) (by rfl))
  · exact st_call 12 (.func 12) _ _ #[.int .i64 ((i : Nat) : Int), .int .i64 ((n : Nat) : Int)] rfl rfl (arg2 (K.dep 1 75 rfl) (K.dep 3 77 rfl)) Tryd.enter12 (by rw [← hS]; exact fk_orw (bl.trans (Below.mono K.grow bl.size)).size (sides_any n i _ (by omega) hn hi))
  · exact st_assign (.tmp 78) rfl (K.dep 4 78 rfl)
  intro f11 w11 A hb
  replace bl0 := bl
  replace x2 := (A.old 2 rfl).trans x2
  replace x3 := (A.old 3 rfl).trans x3
  replace x4 := (A.old 4 rfl).trans x4
  replace x20 := (A.old 20 rfl).trans x20
  replace x5 := (A.old 5 rfl).trans x5
  replace x6 := (A.old 6 rfl).trans x6
  replace x42 := (A.old 42 rfl).trans x42
  have x7 : Fk.f (.ob w.heap.size (S)) (f11.eval (.tmp 7)) w11 := A.has 5 7 rfl
  have lt_m2 := Ob.lt m2
  replace m2 := Ob.below m2 hb
  have lt_m3 := Ob.lt m3
  replace m3 := Ob.below m3 hb
  have lt_m5 := Ob.lt m5
  replace m5 := Ob.below m5 hb
  replace bl := (bl.trans (Below.mono hb bl.size))
  replace sz := A.size.trans sz
  replace df := A.defs.trans df
  clear A hb
  obtain ⟨bA, bC, blb, blo, e7, hb7a, hb7b, hb7c⟩ := ob_bs x7
  have h7 : Fk.f (.bs (S)) (.slice bA (S).length bC) w11 := ⟨bA, bC, blb, blo, rfl, hb7a, hb7b, hb7c⟩
  have x7 : f11.eval (.tmp 7) = .slice bA (S).length bC := e7
  clear e7 hb7a hb7b hb7c
  show Code.wp _ _ _ _ _
  refine wp_seq ?_
  refine wp_seq ?_
  refine wp_all_seq [.eq (.pointer (some ⟨g3, 0, none⟩)), .eq (.int .i64 ((i : Nat) : Int)), .eq (.pointer (some ⟨g3, 1, none⟩)), .eq (.int .i64 ((n : Nat) : Int)), .eq (.int .i64 (((S).length : Nat) : Int)), .eq (.slice bA (S).length bC), .eq (.int .i64 (((S).length : Nat) : Int)), .eq (.bool false)] (by kernel_rfl) (by kernel_rfl) (by rw [sz]; kernel_rfl) (by kernel_rfl) ⟨fun hw ac u K => ?_, fun hw ac u K => ?_, fun hw ac u K => ?_, fun hw ac u K => ?_, fun hw ac u K => ?_, fun hw ac u K => ?_, fun hw ac u K => ?_, fun hw ac u K => ?_, trivial⟩ ?_
  · exact st_field 26 0 (.tmp 3) rfl ((K.old 3 rfl).trans x3) (by kernel_rfl)
  · exact st_loadc 3 (.tmp 79) rfl (by kernel_rfl) (K.dep 0 79 rfl) (ob_cell_at (Ob.below m3 K.grow) (([] : List Value)) (([.int .i64 ((n : Nat) : Int), .slice pA (P).length pC] : List Value) ++ ((rt).map V)) _ 0 (by simp) (by rfl))
  · exact st_field 26 1 (.tmp 3) rfl ((K.old 3 rfl).trans x3) (by kernel_rfl)
  · exact st_loadc 3 (.tmp 81) rfl (by kernel_rfl) (K.dep 2 81 rfl) (ob_cell_at (Ob.below m3 K.grow) (([.int .i64 ((i : Nat) : Int)] : List Value)) (([.slice pA (P).length pC] : List Value) ++ ((rt).map V)) _ 1 (by simp) (by rfl))
  · exact st_call 10 (.func 10) _ _ #[.int .i64 ((i : Nat) : Int), .int .i64 ((n : Nat) : Int)] rfl rfl (arg2 (K.dep 1 80 rfl) (K.dep 3 82 rfl)) Tryd.enter10 (by rw [← hS]; exact fk_len_ok hi hn)
  · exact st_move (.tmp 7) rfl ((K.old 7 rfl).trans x7)
  · exact st_lenbs (.tmp 84) rfl (fk_val (K.dep 5 84 rfl) (Fk.mono _ _ _ _ h7 K.grow))
  · exact st_neqi 3 (.tmp 83) (.tmp 85) rfl .i64 ((((S).length : Nat) : Int)) ((((S).length : Nat) : Int)) (K.dep 4 83 rfl) (K.dep 6 85 rfl) _ (by simp)
  intro f12 w12 A hb
  replace bl0 := bl
  replace x2 := (A.old 2 rfl).trans x2
  replace x3 := (A.old 3 rfl).trans x3
  replace x4 := (A.old 4 rfl).trans x4
  replace x20 := (A.old 20 rfl).trans x20
  replace x5 := (A.old 5 rfl).trans x5
  replace x6 := (A.old 6 rfl).trans x6
  replace x42 := (A.old 42 rfl).trans x42
  replace x7 := (A.old 7 rfl).trans x7
  have x86 : f12.eval (.tmp 86) = .bool false := A.has 7 86 rfl
  have lt_m2 := Ob.lt m2
  replace m2 := Ob.below m2 hb
  have lt_m3 := Ob.lt m3
  replace m3 := Ob.below m3 hb
  have lt_m5 := Ob.lt m5
  replace m5 := Ob.below m5 hb
  replace h7 := Fk.mono _ _ _ _ h7 hb
  replace bl := (bl.trans (Below.mono hb bl.size))
  replace sz := A.size.trans sz
  replace df := A.defs.trans df
  clear A hb
  show Code.wp _ _ _ _ _
  refine wp_cond_false x86 ?_
  refine wp_skip ?_
  show Code.wp _ _ _ _ _
  refine wp_seq ?_
  have blw := bl
  replace hv := Fk.mono _ _ _ _ hv bl
  replace hvs := Fk.mono _ _ _ _ hvs bl
  replace hK := hK.below bl
  replace bl := Below.refl w12.heap.size w12
  replace bl0 := bl
  refine wp_region_held_drew (S := fun W => Ob W g2 23 ((leaf).map V) ∧ Ob W g3 26 (([.int .i64 ((i : Nat) : Int), .int .i64 ((n : Nat) : Int), .slice pA (P).length pC] : List Value) ++ ((rt).map V))) Tryd.mixed ⟨Ob.below m2 bl.drew, Ob.below m3 bl.drew⟩ (fun hS0 => ?_)
  replace bl := bl.drew
  clear bl0
  generalize w12.drew = w13 at hS0 bl ⊢
  refine wh_take 0 87 (v := .agg ((leaf).map V).toArray) rfl rfl (by rw [sz]; decide) rfl (by kernel_rfl) (by kernel_rfl) (by kernel_rfl) (fun _ _ _ h => h) (run_ldh rfl hlf x2 (fun W hW => Ob.range hW.1 0 _ (fun j v hj => by simpa using hj))) hS0 ?_
  intro f14 df2 sz2 old2 new2
  replace x2 := (old2 2 rfl).trans x2
  replace x3 := (old2 3 rfl).trans x3
  replace x4 := (old2 4 rfl).trans x4
  replace x20 := (old2 20 rfl).trans x20
  replace x5 := (old2 5 rfl).trans x5
  replace x6 := (old2 6 rfl).trans x6
  replace x42 := (old2 42 rfl).trans x42
  replace x7 := (old2 7 rfl).trans x7
  replace x86 := (old2 86 rfl).trans x86
  have x87 : f14.eval (.tmp 87) = .agg ((leaf).map V).toArray := new2
  replace sz := sz2.trans sz
  replace df := df2.trans df
  clear df2 sz2 old2 new2
  refine wh_take 1 88 (v := .pointer (some ⟨g3, 2, none⟩)) rfl rfl (by rw [sz]; decide) rfl (by kernel_rfl) (by kernel_rfl) (by kernel_rfl) (fun _ _ _ h => h) (run_field rfl x3 (fun w => by kernel_rfl)) hS0 ?_
  intro f15 df2 sz2 old2 new2
  replace x2 := (old2 2 rfl).trans x2
  replace x3 := (old2 3 rfl).trans x3
  replace x4 := (old2 4 rfl).trans x4
  replace x20 := (old2 20 rfl).trans x20
  replace x5 := (old2 5 rfl).trans x5
  replace x6 := (old2 6 rfl).trans x6
  replace x42 := (old2 42 rfl).trans x42
  replace x7 := (old2 7 rfl).trans x7
  replace x86 := (old2 86 rfl).trans x86
  replace x87 := (old2 87 rfl).trans x87
  have x88 : f15.eval (.tmp 88) = .pointer (some ⟨g3, 2, none⟩) := new2
  replace sz := sz2.trans sz
  replace df := df2.trans df
  clear df2 sz2 old2 new2
  refine wh_take 2 89 (v := .slice pA (P).length pC) rfl rfl (by rw [sz]; decide) rfl (by kernel_rfl) (by kernel_rfl) (by kernel_rfl) (fun _ _ _ h => h) (run_loadc rfl (fun w => by kernel_rfl) x88 (fun W hW => Ob.cell hW.2 2 rfl)) hS0 ?_
  intro f16 df2 sz2 old2 new2
  replace x2 := (old2 2 rfl).trans x2
  replace x3 := (old2 3 rfl).trans x3
  replace x4 := (old2 4 rfl).trans x4
  replace x20 := (old2 20 rfl).trans x20
  replace x5 := (old2 5 rfl).trans x5
  replace x6 := (old2 6 rfl).trans x6
  replace x42 := (old2 42 rfl).trans x42
  replace x7 := (old2 7 rfl).trans x7
  replace x86 := (old2 86 rfl).trans x86
  replace x87 := (old2 87 rfl).trans x87
  replace x88 := (old2 88 rfl).trans x88
  have x89 : f16.eval (.tmp 89) = .slice pA (P).length pC := new2
  replace sz := sz2.trans sz
  replace df := df2.trans df
  clear df2 sz2 old2 new2
  refine wh_take 3 90 (v := .int .i64 (((P).length : Nat) : Int)) rfl rfl (by rw [sz]; decide) rfl (by kernel_rfl) (by kernel_rfl) (by kernel_rfl) (fun _ _ _ h => h) (run_lenT Tryd.under24' Tryd.elem24 rfl x89) hS0 ?_
  intro f17 df2 sz2 old2 new2
  replace x2 := (old2 2 rfl).trans x2
  replace x3 := (old2 3 rfl).trans x3
  replace x4 := (old2 4 rfl).trans x4
  replace x20 := (old2 20 rfl).trans x20
  replace x5 := (old2 5 rfl).trans x5
  replace x6 := (old2 6 rfl).trans x6
  replace x42 := (old2 42 rfl).trans x42
  replace x7 := (old2 7 rfl).trans x7
  replace x86 := (old2 86 rfl).trans x86
  replace x87 := (old2 87 rfl).trans x87
  replace x88 := (old2 88 rfl).trans x88
  replace x89 := (old2 89 rfl).trans x89
  have x90 : f17.eval (.tmp 90) = .int .i64 (((P).length : Nat) : Int) := new2
  replace sz := sz2.trans sz
  replace df := df2.trans df
  clear df2 sz2 old2 new2
  refine wh_take 4 91 (v := .slice bA (S).length bC) rfl rfl (by rw [sz]; decide) rfl (by kernel_rfl) (by kernel_rfl) (by kernel_rfl) (fun _ _ _ h => h) (run_mv rfl x7) hS0 ?_
  intro f18 df2 sz2 old2 new2
  replace x2 := (old2 2 rfl).trans x2
  replace x3 := (old2 3 rfl).trans x3
  replace x4 := (old2 4 rfl).trans x4
  replace x20 := (old2 20 rfl).trans x20
  replace x5 := (old2 5 rfl).trans x5
  replace x6 := (old2 6 rfl).trans x6
  replace x42 := (old2 42 rfl).trans x42
  replace x7 := (old2 7 rfl).trans x7
  replace x86 := (old2 86 rfl).trans x86
  replace x87 := (old2 87 rfl).trans x87
  replace x88 := (old2 88 rfl).trans x88
  replace x89 := (old2 89 rfl).trans x89
  replace x90 := (old2 90 rfl).trans x90
  have x91 : f18.eval (.tmp 91) = .slice bA (S).length bC := new2
  replace sz := sz2.trans sz
  replace df := df2.trans df
  clear df2 sz2 old2 new2
  refine wh_take 5 92 (v := .int .i64 (((S).length : Nat) : Int)) rfl rfl (by rw [sz]; decide) rfl (by kernel_rfl) (by kernel_rfl) (by kernel_rfl) (fun _ _ _ h => h) (run_lenT Tryd.under33z Tryd.elem33z rfl x91) hS0 ?_
  intro f19 df2 sz2 old2 new2
  replace x2 := (old2 2 rfl).trans x2
  replace x3 := (old2 3 rfl).trans x3
  replace x4 := (old2 4 rfl).trans x4
  replace x20 := (old2 20 rfl).trans x20
  replace x5 := (old2 5 rfl).trans x5
  replace x6 := (old2 6 rfl).trans x6
  replace x42 := (old2 42 rfl).trans x42
  replace x7 := (old2 7 rfl).trans x7
  replace x86 := (old2 86 rfl).trans x86
  replace x87 := (old2 87 rfl).trans x87
  replace x88 := (old2 88 rfl).trans x88
  replace x89 := (old2 89 rfl).trans x89
  replace x90 := (old2 90 rfl).trans x90
  replace x91 := (old2 91 rfl).trans x91
  have x92 : f19.eval (.tmp 92) = .int .i64 (((S).length : Nat) : Int) := new2
  replace sz := sz2.trans sz
  replace df := df2.trans df
  clear df2 sz2 old2 new2
  refine wh_take 6 93 (v := .bool false) rfl rfl (by rw [sz]; decide) rfl (by kernel_rfl) (by kernel_rfl) (by kernel_rfl) (fun _ _ _ h => h) (run_eqi rfl x90 x92 false (by rw [eq_comm, decide_eq_false_iff_not]; omega)) hS0 ?_
  intro f20 df2 sz2 old2 new2
  replace x2 := (old2 2 rfl).trans x2
  replace x3 := (old2 3 rfl).trans x3
  replace x4 := (old2 4 rfl).trans x4
  replace x20 := (old2 20 rfl).trans x20
  replace x5 := (old2 5 rfl).trans x5
  replace x6 := (old2 6 rfl).trans x6
  replace x42 := (old2 42 rfl).trans x42
  replace x7 := (old2 7 rfl).trans x7
  replace x86 := (old2 86 rfl).trans x86
  replace x87 := (old2 87 rfl).trans x87
  replace x88 := (old2 88 rfl).trans x88
  replace x89 := (old2 89 rfl).trans x89
  replace x90 := (old2 90 rfl).trans x90
  replace x91 := (old2 91 rfl).trans x91
  replace x92 := (old2 92 rfl).trans x92
  have x93 : f20.eval (.tmp 93) = .bool false := new2
  replace sz := sz2.trans sz
  replace df := df2.trans df
  clear df2 sz2 old2 new2
  have hal : Below w13.heap.size w13 (w13.alloc (.cells (hz.map V).toArray 23)) := (Below.refl _ _).alloc (Nat.le_refl _) _
  have hS1 := hS0
  replace hS1 := (show Ob (w13.alloc (.cells (hz.map V).toArray 23)) g2 23 ((leaf).map V) ∧ Ob (w13.alloc (.cells (hz.map V).toArray 23)) g3 26 (([.int .i64 ((i : Nat) : Int), .int .i64 ((n : Nat) : Int), .slice pA (P).length pC] : List Value) ++ ((rt).map V)) from ⟨Ob.below hS0.1 hal, Ob.below hS0.2 hal⟩)
  refine wh_alloc 7 8 rfl rfl (by rw [sz]; decide) rfl (by kernel_rfl) rfl hS1 ?_
  intro f21 df2 sz2 old2 new2
  replace x2 := (old2 2 rfl).trans x2
  replace x3 := (old2 3 rfl).trans x3
  replace x4 := (old2 4 rfl).trans x4
  replace x20 := (old2 20 rfl).trans x20
  replace x5 := (old2 5 rfl).trans x5
  replace x6 := (old2 6 rfl).trans x6
  replace x42 := (old2 42 rfl).trans x42
  replace x7 := (old2 7 rfl).trans x7
  replace x86 := (old2 86 rfl).trans x86
  replace x87 := (old2 87 rfl).trans x87
  replace x88 := (old2 88 rfl).trans x88
  replace x89 := (old2 89 rfl).trans x89
  replace x90 := (old2 90 rfl).trans x90
  replace x91 := (old2 91 rfl).trans x91
  replace x92 := (old2 92 rfl).trans x92
  replace x93 := (old2 93 rfl).trans x93
  obtain ⟨g8, hg8⟩ : ∃ g, w13.heap.size = g := ⟨_, rfl⟩
  have x8 : f21.eval (.tmp 8) = .pointer (some ⟨g8, 0, none⟩) := by rw [← hg8]; exact new2
  have lt2 := Ob.lt hS0.1
  have lt3 := Ob.lt hS0.2
  have lt5 := Nat.lt_of_lt_of_le (Ob.lt m5) bl.size
  have m8 : Ob (w13.alloc (.cells (hz.map V).toArray 23)) g8 23 ((hz).map V) := by rw [← hg8]; exact Ob.alloc _ _ _
  have hw8 : w12.heap.size ≤ g8 := by rw [← hg8]; exact bl.size
  replace bl := bl.trans (Below.mono hal bl.size)
  have nm2_8 : g2 ≠ g8 := by omega
  have nm3_8 : g3 ≠ g8 := by omega
  have nm5_8 : g5 ≠ g8 := by omega
  replace sz := sz2.trans sz
  replace df := df2.trans df
  clear df2 sz2 old2 new2 hal
  have hS2 : Ob ((w13.alloc (.cells (hz.map V).toArray 23)).setRow g8 ((leaf).map V : List Value).toArray) g2 23 ((leaf).map V) ∧ Ob ((w13.alloc (.cells (hz.map V).toArray 23)).setRow g8 ((leaf).map V : List Value).toArray) g3 26 (([.int .i64 ((i : Nat) : Int), .int .i64 ((n : Nat) : Int), .slice pA (P).length pC] : List Value) ++ ((rt).map V)) := ⟨Ob.setRow_other hS1.1 _ (by omega), Ob.setRow_other hS1.2 _ (by omega)⟩
  refine wh_store 8 rfl rfl rfl (by kernel_rfl) (.tmp 8) (.tmp 87) rfl g8 (leaf) (hz) x8 x87 m8 hz_len hlf hS2 ?_
  replace m8 : Ob ((w13.alloc (.cells (hz.map V).toArray 23)).setRow g8 ((leaf).map V : List Value).toArray) g8 23 ((leaf).map V) := Ob.setRow m8 ((leaf).map V)
  replace bl : Below w12.heap.size w12 ((w13.alloc (.cells (hz.map V).toArray 23)).setRow g8 ((leaf).map V : List Value).toArray) := bl.trans (below_setRow _ _ _ _ hw8)
  clear hS0 hS1 hg8
  generalize (w13.alloc (.cells (hz.map V).toArray 23)).setRow g8 ((leaf).map V : List Value).toArray = w22 at hS2 m8 bl ⊢
  refine wh_assign 9 9 rfl rfl (by rw [sz]; decide) rfl (by kernel_rfl) (.tmp 93) rfl hS2 ?_
  intro f23 df2 sz2 old2 new2
  have x9 : f23.eval (.tmp 9) = .bool false := new2.trans x93
  replace x2 := (old2 2 rfl).trans x2
  replace x3 := (old2 3 rfl).trans x3
  replace x4 := (old2 4 rfl).trans x4
  replace x20 := (old2 20 rfl).trans x20
  replace x5 := (old2 5 rfl).trans x5
  replace x6 := (old2 6 rfl).trans x6
  replace x42 := (old2 42 rfl).trans x42
  replace x7 := (old2 7 rfl).trans x7
  replace x86 := (old2 86 rfl).trans x86
  replace x87 := (old2 87 rfl).trans x87
  replace x88 := (old2 88 rfl).trans x88
  replace x89 := (old2 89 rfl).trans x89
  replace x90 := (old2 90 rfl).trans x90
  replace x91 := (old2 91 rfl).trans x91
  replace x92 := (old2 92 rfl).trans x92
  replace x93 := (old2 93 rfl).trans x93
  replace x8 := (old2 8 rfl).trans x8
  replace sz := sz2.trans sz
  replace df := df2.trans df
  clear df2 sz2 old2 new2
  refine wpAnyH_done (by kernel_rfl) ?_ _
  clear hS2
  have bl0 := bl
  clear x87
  clear x88
  clear x89
  clear x90
  clear x91
  clear x92
  clear x93
  show Code.wp _ _ _ _ _
  refine wp_seq ?_
  refine wp_seq ?_
  refine wp_all_seq [.eq (.int .i64 0)] (by kernel_rfl) (by kernel_rfl) (by rw [sz]; kernel_rfl) (by kernel_rfl) ⟨fun hw ac u K => ?_, trivial⟩ ?_
  · exact st_assign (.const (.int .i64 0)) rfl rfl
  intro f24 w24 A hb
  replace bl0 := bl
  replace x2 := (A.old 2 rfl).trans x2
  replace x3 := (A.old 3 rfl).trans x3
  replace x4 := (A.old 4 rfl).trans x4
  replace x20 := (A.old 20 rfl).trans x20
  replace x5 := (A.old 5 rfl).trans x5
  replace x6 := (A.old 6 rfl).trans x6
  replace x42 := (A.old 42 rfl).trans x42
  replace x7 := (A.old 7 rfl).trans x7
  replace x86 := (A.old 86 rfl).trans x86
  replace x8 := (A.old 8 rfl).trans x8
  replace x9 := (A.old 9 rfl).trans x9
  have x10 : f24.eval (.tmp 10) = .int .i64 0 := A.has 0 10 rfl
  have lt_m8 := Ob.lt m8
  replace m8 := Ob.below m8 hb
  replace bl := (bl.trans (Below.mono hb bl.size))
  replace sz := A.size.trans sz
  replace df := A.defs.trans df
  clear A hb
  show Code.wp _ _ _ _ _
  refine wp_block ?_
  refine wp_loop (fun f v1 => ∃ k : Nat, f.tmps.size = 179 ∧ f.defers = [] ∧ f.eval (.tmp 2) = .pointer (some ⟨g2, 0, none⟩) ∧ f.eval (.tmp 3) = .pointer (some ⟨g3, 0, none⟩) ∧ f.eval (.tmp 4) = .bool false ∧ f.eval (.tmp 20) = .bool false ∧ f.eval (.tmp 5) = .pointer (some ⟨g5, 0, none⟩) ∧ f.eval (.tmp 6) = .int .i64 22 ∧ f.eval (.tmp 42) = .bool false ∧ f.eval (.tmp 7) = .slice bA (S).length bC ∧ f.eval (.tmp 86) = .bool false ∧ f.eval (.tmp 8) = .pointer (some ⟨g8, 0, none⟩) ∧ f.eval (.tmp 9) = .bool false ∧ f.eval (.tmp 10) = .int .i64 0 ∧ Ob v1 (g8) 23 ((leaf).map V) ∧ Below w12.heap.size w12 (v1)) (fun f _ => 0) ⟨0, sz, df, x2, x3, x4, x20, x5, x6, x42, x7, x86, x8, x9, x10, m8, bl⟩ ?_
  intro f25 w25 hI
  clear sz df bl bl0 x2 x3 x4 x20 x5 x6 x42 x7 x86 x8 x9 x10 m8
  obtain ⟨k, sz, df, x2, x3, x4, x20, x5, x6, x42, x7, x86, x8, x9, x10, m8, bl⟩ := hI
  have bl0 := bl
  refine wp_seq ?_
  refine wp_seq ?_
  refine wp_all_seq [.eq (.bool false), .eq (.bool false), .any, .any, .any, .any, .eq (.bool false)] (by kernel_rfl) (by kernel_rfl) (by rw [sz]; kernel_rfl) (by kernel_rfl) ⟨fun hw ac u K => ?_, fun hw ac u K => ?_, fun hw ac u K => ?_, fun hw ac u K => ?_, fun hw ac u K => ?_, fun hw ac u K => ?_, fun hw ac u K => ?_, trivial⟩ ?_
  · exact st_move (.tmp 9) rfl ((K.old 9 rfl).trans x9)
  · exact st_move (.tmp 94) rfl (K.dep 0 94 rfl)
  · exact (Bool.false_ne_true hw).elim
  · exact (Bool.false_ne_true hw).elim
  · exact (Bool.false_ne_true hw).elim
  · exact (Bool.false_ne_true hw).elim
  · exact st_pick_f' (.tmp 95) (.tmp 99) (.const (.bool false)) rfl (K.dep 1 95 rfl) rfl
  intro f26 w26 A hb
  replace bl0 := bl
  replace x2 := (A.old 2 rfl).trans x2
  replace x3 := (A.old 3 rfl).trans x3
  replace x4 := (A.old 4 rfl).trans x4
  replace x20 := (A.old 20 rfl).trans x20
  replace x5 := (A.old 5 rfl).trans x5
  replace x6 := (A.old 6 rfl).trans x6
  replace x42 := (A.old 42 rfl).trans x42
  replace x7 := (A.old 7 rfl).trans x7
  replace x86 := (A.old 86 rfl).trans x86
  replace x8 := (A.old 8 rfl).trans x8
  replace x9 := (A.old 9 rfl).trans x9
  replace x10 := (A.old 10 rfl).trans x10
  have x100 : f26.eval (.tmp 100) = .bool false := A.has 6 100 rfl
  have lt_m8 := Ob.lt m8
  replace m8 := Ob.below m8 hb
  replace bl := (bl.trans (Below.mono hb bl.size))
  replace sz := A.size.trans sz
  replace df := A.defs.trans df
  clear A hb
  show Code.wp _ _ _ _ _
  refine wp_cond_false x100 ?_
  refine wp_exit ?_
  show Code.wp _ _ _ _ _
  refine wp_seq ?_
  refine wp_seq ?_
  refine wp_all_seq [.eq (.bool false), .eq (.bool true)] (by kernel_rfl) (by kernel_rfl) (by rw [sz]; kernel_rfl) (by kernel_rfl) ⟨fun hw ac u K => ?_, fun hw ac u K => ?_, trivial⟩ ?_
  · exact st_move (.tmp 9) rfl ((K.old 9 rfl).trans x9)
  · exact st_not (.tmp 114) rfl false (K.dep 0 114 rfl)
  intro f27 w27 A hb
  replace bl0 := bl
  replace x2 := (A.old 2 rfl).trans x2
  replace x3 := (A.old 3 rfl).trans x3
  replace x4 := (A.old 4 rfl).trans x4
  replace x20 := (A.old 20 rfl).trans x20
  replace x5 := (A.old 5 rfl).trans x5
  replace x6 := (A.old 6 rfl).trans x6
  replace x42 := (A.old 42 rfl).trans x42
  replace x7 := (A.old 7 rfl).trans x7
  replace x86 := (A.old 86 rfl).trans x86
  replace x8 := (A.old 8 rfl).trans x8
  replace x9 := (A.old 9 rfl).trans x9
  replace x10 := (A.old 10 rfl).trans x10
  replace x100 := (A.old 100 rfl).trans x100
  have x115 : f27.eval (.tmp 115) = .bool true := A.has 1 115 rfl
  have lt_m8 := Ob.lt m8
  replace m8 := Ob.below m8 hb
  replace bl := (bl.trans (Below.mono hb bl.size))
  replace sz := A.size.trans sz
  replace df := A.defs.trans df
  clear A hb
  show Code.wp _ _ _ _ _
  refine wp_cond_true x115 ?_
  refine wp_seq ?_
  refine wp_all_seq [.eq (.int .i64 22), .eq (.bool true), .eq (.bool true), .eq (.agg ((hz).map V).toArray), .eq (.agg ((hz).map V).toArray), .eq (.bool true), .eq (.bool true), .eq (.bool true), .eq (.agg ((leaf).map V).toArray), .eq (.pointer (some ⟨g3, 0, none⟩)), .eq (.int .i64 ((i : Nat) : Int)), .eq (.pointer (some ⟨g3, 1, none⟩)), .eq (.int .i64 ((n : Nat) : Int)), .eq (.pointer (some ⟨g3, 2, none⟩)), .eq (.slice pA (P).length pC), .eq (.pointer (some ⟨g3, 3, none⟩)), .eq (.agg ((rt).map V).toArray), .eq (.int .i64 22), .eq (.bool true), .eq (.bool true), .eq (.bool true), .eq (.bool true), .eq (.bool true), .eq (.bool true)] (by kernel_rfl) (by kernel_rfl) (by rw [sz]; kernel_rfl) (by kernel_rfl) ⟨fun hw ac u K => ?_, fun hw ac u K => ?_, fun hw ac u K => ?_, fun hw ac u K => ?_, fun hw ac u K => ?_, fun hw ac u K => ?_, fun hw ac u K => ?_, fun hw ac u K => ?_, fun hw ac u K => ?_, fun hw ac u K => ?_, fun hw ac u K => ?_, fun hw ac u K => ?_, fun hw ac u K => ?_, fun hw ac u K => ?_, fun hw ac u K => ?_, fun hw ac u K => ?_, fun hw ac u K => ?_, fun hw ac u K => ?_, fun hw ac u K => ?_, fun hw ac u K => ?_, fun hw ac u K => ?_, fun hw ac u K => ?_, fun hw ac u K => ?_, fun hw ac u K => ?_, trivial⟩ ?_
  · exact st_move (.tmp 6) rfl ((K.old 6 rfl).trans x6)
  · exact st_eqi 28 (.tmp 116) (.const (.int .i64 22)) rfl .i64 (22) (22) (K.dep 0 116 rfl) rfl _ (by rfl)
  · exact st_move (.tmp 117) rfl (K.dep 1 117 rfl)
  · exact st_load23 (.tmp 5) rfl (g5) (hz) ((K.old 5 rfl).trans x5) hz_len (Ob.below m5 (bl.trans (Below.mono K.grow bl.size)))
  · exact st_zero23 rfl
  · exact st_eqh (.tmp 119) (.tmp 120) rfl (hz) (hz) hz_len hz_len (K.dep 3 119 rfl) (K.dep 4 120 rfl) _ (by simp)
  · exact st_pick_t (.tmp 118) (.tmp 121) (.const (.bool false)) rfl (K.dep 2 118 rfl) (K.dep 5 121 rfl)
  · exact st_move (.tmp 122) rfl (K.dep 6 122 rfl)
  · exact st_load23 (.tmp 2) rfl (g2) (leaf) ((K.old 2 rfl).trans x2) hlf (Ob.below m2 (bl.trans (Below.mono K.grow bl.size)))
  · exact st_field 26 0 (.tmp 3) rfl ((K.old 3 rfl).trans x3) (by kernel_rfl)
  · exact st_loadc 3 (.tmp 125) rfl (by kernel_rfl) (K.dep 9 125 rfl) (ob_cell_at (Ob.below m3 (bl.trans (Below.mono K.grow bl.size))) (([] : List Value)) (([.int .i64 ((n : Nat) : Int), .slice pA (P).length pC] : List Value) ++ ((rt).map V)) _ 0 (by simp) (by rfl))
  · exact st_field 26 1 (.tmp 3) rfl ((K.old 3 rfl).trans x3) (by kernel_rfl)
  · exact st_loadc 3 (.tmp 127) rfl (by kernel_rfl) (K.dep 11 127 rfl) (ob_cell_at (Ob.below m3 (bl.trans (Below.mono K.grow bl.size))) (([.int .i64 ((i : Nat) : Int)] : List Value)) (([.slice pA (P).length pC] : List Value) ++ ((rt).map V)) _ 1 (by simp) (by rfl))
  · exact st_field 26 2 (.tmp 3) rfl ((K.old 3 rfl).trans x3) (by kernel_rfl)
  · exact st_loadc 24 (.tmp 129) rfl (by kernel_rfl) (K.dep 13 129 rfl) (ob_cell_at (Ob.below m3 (bl.trans (Below.mono K.grow bl.size))) (([.int .i64 ((i : Nat) : Int), .int .i64 ((n : Nat) : Int)] : List Value)) ((rt).map V) _ 2 (by simp) (by rfl))
  · exact st_field 26 3 (.tmp 3) rfl ((K.old 3 rfl).trans x3) (by kernel_rfl)
  · exact st_loadz 23 (.tmp 131) rfl (g3) 3 ((rt).map V) (by kernel_rfl) (by rw [List.length_map, hrt]; kernel_rfl) (K.dep 15 131 rfl) (ob_range_at (Ob.below m3 (bl.trans (Below.mono K.grow bl.size))) (([.int .i64 ((i : Nat) : Int), .int .i64 ((n : Nat) : Int), .slice pA (P).length pC] : List Value)) (([] : List Value)) _ 3 (by simp) (by rfl))
  · exact st_call 11 (.func 11) _ _ #[.agg ((leaf).map V).toArray, .int .i64 ((i : Nat) : Int), .int .i64 ((n : Nat) : Int), .slice pA (P).length pC, .agg ((rt).map V).toArray] rfl rfl (arg5 (K.dep 8 124 rfl) (K.dep 10 126 rfl) (K.dep 12 128 rfl) (K.dep 14 130 rfl) (K.dep 16 132 rfl)) Tryd.enter11 (fk_in_any hlf hrt hi hn (Fk.mono _ _ _ _ hv (bl.trans (Below.mono K.grow bl.size))) (by omega) (hK.below (bl.trans (Below.mono K.grow bl.size))) 22 (by rw [if_neg (fun h => hPS0 h.1)]))
  · exact st_eqi 28 (.tmp 133) (.const (.int .i64 22)) rfl .i64 (22) (22) (K.dep 17 133 rfl) rfl _ (by rfl)
  · exact st_pick_t (.tmp 123) (.tmp 134) (.const (.bool false)) rfl (K.dep 7 123 rfl) (K.dep 18 134 rfl)
  · exact st_move (.tmp 135) rfl (K.dep 19 135 rfl)
  · exact st_call 8 (.func 8) _ _ #[] rfl rfl rfl Tryd.enter8 (fk_of (awake_any _ (hK.below (bl.trans (Below.mono K.grow bl.size)))))
  · exact st_pick_t (.tmp 136) (.tmp 137) (.const (.bool false)) rfl (K.dep 20 136 rfl) (K.dep 21 137 rfl)
  · exact st_assign (.tmp 138) rfl (K.dep 22 138 rfl)
  intro f28 w28 A hb
  replace bl0 := bl
  replace x2 := (A.old 2 rfl).trans x2
  replace x3 := (A.old 3 rfl).trans x3
  clear x4
  replace x20 := (A.old 20 rfl).trans x20
  replace x5 := (A.old 5 rfl).trans x5
  replace x6 := (A.old 6 rfl).trans x6
  replace x42 := (A.old 42 rfl).trans x42
  replace x7 := (A.old 7 rfl).trans x7
  replace x86 := (A.old 86 rfl).trans x86
  replace x8 := (A.old 8 rfl).trans x8
  replace x9 := (A.old 9 rfl).trans x9
  replace x10 := (A.old 10 rfl).trans x10
  replace x100 := (A.old 100 rfl).trans x100
  replace x115 := (A.old 115 rfl).trans x115
  have x4 : f28.eval (.tmp 4) = .bool true := A.has 23 4 rfl
  have lt_m8 := Ob.lt m8
  replace m8 := Ob.below m8 hb
  replace bl := (bl.trans (Below.mono hb bl.size))
  replace sz := A.size.trans sz
  replace df := A.defs.trans df
  clear A hb
  show Code.wp _ _ _ _ _
  refine wp_ret ?_
  repeat (first | with_reducible refine then_ret ?_ | with_reducible refine block_ret ?_)
  exact bodyPost_ret (v := .bool true) (ret_slot rfl f28 _ x4 _ _) df ⟨rfl, (blw.trans (Below.mono bl blw.size))⟩
set_option maxHeartbeats 1000000 in
theorem leads_ok {leaf rt : List (BitVec 8)} (hlf : leaf.length = 32) (hrt : rt.length = 32) {P : List (List (BitVec 8))} {pA : Option Addr} {pC : Nat} (w : World) (hK : Tab w) (hv : (Fk.hc P).f (.slice pA (P).length pC) w) {i n : Nat} (hi : i < n) (hn : n ≤ 1152921504606846976) (hPS0 : P.length = (sds i n).length) :
    Calls Tryd.prog 3 #[.agg ((leaf).map V).toArray, .agg (([.int .i64 ((i : Nat) : Int), .int .i64 ((n : Nat) : Int), .slice pA (P).length pC] : List Value) ++ ((rt).map V)).toArray] w fun e w' => e = .returned (.bool true) ∧ Below w.heap.size w w' := by
  have hvs := hc_hs hv
  obtain ⟨S, hS⟩ : ∃ S, sds i n = S := ⟨_, rfl⟩
  have hSl : S.length ≤ 60 := by rw [← hS]; exact sds_log n i 60 (by omega)
  have hPS : P.length = S.length := by rw [← hS]; exact hPS0
  obtain ⟨y, ey⟩ : ∃ y, Box (ldt leaf P (sds i n) = y) := ⟨_, ⟨rfl⟩⟩
  have eyS : ldt leaf P S = y := by rw [← hS]; exact ey.out
  have hy : y.length = 32 := by rw [← eyS, ← lek_all leaf hPS]; exact lek_len hlf hPS _ (Nat.le_refl _)
  go_enter Tryd.func3, Tryd.ntmps3
  refine code_both (fun f w1 => f.tmps.size = 179 ∧ f.defers = [] ∧ f.eval (.tmp 0) = .agg ((leaf).map V).toArray ∧ f.eval (.tmp 1) = .agg (([.int .i64 ((i : Nat) : Int), .int .i64 ((n : Nat) : Int), .slice pA (P).length pC] : List Value) ++ ((rt).map V)).toArray ∧ Below w.heap.size w (w1)) ⟨rfl, rfl, rfl, rfl, Below.refl _ _⟩ ?_
  rintro f0 w0 ⟨sz, df, x0, x1, bl⟩
  have bl0 := bl
  refine wp_seq ?_
  refine wp_region_seq [] (by kernel_rfl) (by kernel_rfl) (by rw [sz]; kernel_rfl) (by kernel_rfl) trivial ?_
  intro f1 w1 A hb
  replace bl0 := bl
  replace x0 := (A.old 0 rfl).trans x0
  replace x1 := (A.old 1 rfl).trans x1
  replace bl := (bl.trans (Below.mono hb bl.size))
  replace sz := A.size.trans sz
  replace df := A.defs.trans df
  clear A hb
  refine wl_one (.nw w1.heap.size 23 ((leaf).map V)) rfl 2 rfl (by rw [sz]; decide) (st_box 23 (.tmp 0) rfl _ _ (by rw [show _ = _ from x0]; kernel_rfl) (Nat.le_refl _)) ?_
  intro f2 w2 df2 sz2 old2 new2 hb
  replace bl0 := bl
  replace x0 := (old2 0 rfl).trans x0
  replace x1 := (old2 1 rfl).trans x1
  have x2 : Fk.f (.nw w1.heap.size 23 ((leaf).map V)) (f2.eval (.tmp 2)) w2 := new2
  replace bl := (bl.trans (Below.mono hb bl.size))
  replace sz := sz2.trans sz
  replace df := df2.trans df
  clear df2 sz2 old2 new2 hb
  obtain ⟨g2, hg2, e2, m2⟩ := x2
  have x2 := e2
  clear e2
  have hw2 : w.heap.size ≤ g2 := Nat.le_trans bl0.size hg2
  clear x0
  refine wl_one (.nw w2.heap.size 26 (([.int .i64 ((i : Nat) : Int), .int .i64 ((n : Nat) : Int), .slice pA (P).length pC] : List Value) ++ ((rt).map V))) rfl 3 rfl (by rw [sz]; decide) (st_box 26 (.tmp 1) rfl _ _ (by rw [show _ = _ from x1]; kernel_rfl) (Nat.le_refl _)) ?_
  intro f3 w3 df2 sz2 old2 new2 hb
  replace bl0 := bl
  replace x1 := (old2 1 rfl).trans x1
  replace x2 := (old2 2 rfl).trans x2
  have x3 : Fk.f (.nw w2.heap.size 26 (([.int .i64 ((i : Nat) : Int), .int .i64 ((n : Nat) : Int), .slice pA (P).length pC] : List Value) ++ ((rt).map V))) (f3.eval (.tmp 3)) w3 := new2
  have lt_m2 := Ob.lt m2
  replace m2 := Ob.below m2 hb
  replace bl := (bl.trans (Below.mono hb bl.size))
  replace sz := sz2.trans sz
  replace df := df2.trans df
  clear df2 sz2 old2 new2 hb
  obtain ⟨g3, hg3, e3, m3⟩ := x3
  have x3 := e3
  clear e3
  have nm2_3 : g2 ≠ g3 := Nat.ne_of_lt (Nat.lt_of_lt_of_le lt_m2 hg3)
  have hw3 : w.heap.size ≤ g3 := Nat.le_trans bl0.size hg3
  clear x1
  refine wl_one (.eq (.bool false)) rfl 4 rfl (by rw [sz]; decide) (st_assign (.const (.bool false)) rfl rfl) ?_
  intro f4 w4 df2 sz2 old2 new2 hb
  replace bl0 := bl
  replace x2 := (old2 2 rfl).trans x2
  replace x3 := (old2 3 rfl).trans x3
  have x4 : f4.eval (.tmp 4) = .bool false := new2
  have lt_m2 := Ob.lt m2
  replace m2 := Ob.below m2 hb
  have lt_m3 := Ob.lt m3
  replace m3 := Ob.below m3 hb
  replace bl := (bl.trans (Below.mono hb bl.size))
  replace sz := sz2.trans sz
  replace df := df2.trans df
  clear df2 sz2 old2 new2 hb
  refine wpList_nil ?_
  show Code.wp _ _ _ _ _
  refine wp_seq ?_
  refine wp_seq ?_
  refine wp_all_seq [.eq (.pointer (some ⟨g3, 2, none⟩)), .eq (.slice pA (P).length pC), .eq (.int .i64 (((P).length : Nat) : Int)), .eq (.bool false), .eq (.bool false), .eq (.pointer (some ⟨g3, 1, none⟩)), .eq (.int .i64 ((n : Nat) : Int)), .eq (.bool false), .eq (.bool false)] (by kernel_rfl) (by kernel_rfl) (by rw [sz]; kernel_rfl) (by kernel_rfl) ⟨fun hw ac u K => ?_, fun hw ac u K => ?_, fun hw ac u K => ?_, fun hw ac u K => ?_, fun hw ac u K => ?_, fun hw ac u K => ?_, fun hw ac u K => ?_, fun hw ac u K => ?_, fun hw ac u K => ?_, trivial⟩ ?_
  · exact st_field 26 2 (.tmp 3) rfl ((K.old 3 rfl).trans x3) (by kernel_rfl)
  · exact st_loadc 24 (.tmp 12) rfl (by kernel_rfl) (K.dep 0 12 rfl) (ob_cell_at (Ob.below m3 K.grow) (([.int .i64 ((i : Nat) : Int), .int .i64 ((n : Nat) : Int)] : List Value)) ((rt).map V) _ 2 (by simp) (by rfl))
  · exact st_lenc (.tmp 13) rfl ((P).length) rfl (fk_val (K.dep 1 13 rfl) (Fk.mono _ _ _ _ hv (bl.trans (Below.mono K.grow bl.size))))
  · exact st_gtr 3 (.tmp 14) (.const (.int .i64 80)) rfl .i64 ((((P).length : Nat) : Int)) (80) (K.dep 2 14 rfl) rfl _ (by rw [eq_comm, decide_eq_false_iff_not]; omega)
  · exact st_move (.tmp 15) rfl (K.dep 3 15 rfl)
  · exact st_field 26 1 (.tmp 3) rfl ((K.old 3 rfl).trans x3) (by kernel_rfl)
  · exact st_loadc 3 (.tmp 17) rfl (by kernel_rfl) (K.dep 5 17 rfl) (ob_cell_at (Ob.below m3 K.grow) (([.int .i64 ((i : Nat) : Int)] : List Value)) (([.slice pA (P).length pC] : List Value) ++ ((rt).map V)) _ 1 (by simp) (by rfl))
  · exact st_gtr 3 (.tmp 18) (.const (.int .i64 1152921504606846976)) rfl .i64 (((n : Nat) : Int)) (1152921504606846976) (K.dep 6 18 rfl) rfl _ (by rw [eq_comm, decide_eq_false_iff_not]; omega)
  · exact st_pick_f' (.tmp 16) (.const (.bool true)) (.tmp 19) rfl (K.dep 4 16 rfl) (K.dep 7 19 rfl)
  intro f5 w5 A hb
  replace bl0 := bl
  replace x2 := (A.old 2 rfl).trans x2
  replace x3 := (A.old 3 rfl).trans x3
  replace x4 := (A.old 4 rfl).trans x4
  have x20 : f5.eval (.tmp 20) = .bool false := A.has 8 20 rfl
  have lt_m2 := Ob.lt m2
  replace m2 := Ob.below m2 hb
  have lt_m3 := Ob.lt m3
  replace m3 := Ob.below m3 hb
  replace bl := (bl.trans (Below.mono hb bl.size))
  replace sz := A.size.trans sz
  replace df := A.defs.trans df
  clear A hb
  show Code.wp _ _ _ _ _
  refine wp_cond_false x20 ?_
  refine wp_skip ?_
  show Code.wp _ _ _ _ _
  refine wp_seq ?_
  refine wp_region_seq [.eq (.agg ((leaf).map V).toArray), .eq (.pointer (some ⟨g3, 0, none⟩)), .eq (.int .i64 ((i : Nat) : Int)), .eq (.pointer (some ⟨g3, 1, none⟩)), .eq (.int .i64 ((n : Nat) : Int)), .eq (.pointer (some ⟨g3, 2, none⟩)), .eq (.slice pA (P).length pC), .eq (.tuple #[.agg ((y).map V).toArray, .int .i64 0]), .eq (.tuple #[.agg ((y).map V).toArray, .int .i64 0]), .eq (.agg ((y).map V).toArray), .eq (.int .i64 0)] (by kernel_rfl) (by kernel_rfl) (by rw [sz]; kernel_rfl) (by kernel_rfl) ⟨fun hw ac u K => ?_, fun hw ac u K => ?_, fun hw ac u K => ?_, fun hw ac u K => ?_, fun hw ac u K => ?_, fun hw ac u K => ?_, fun hw ac u K => ?_, fun hw ac u K => ?_, fun hw ac u K => ?_, fun hw ac u K => ?_, fun hw ac u K => ?_, trivial⟩ ?_
  · exact st_load23 (.tmp 2) rfl (g2) (leaf) ((K.old 2 rfl).trans x2) hlf (Ob.below m2 K.grow)
  · exact st_field 26 0 (.tmp 3) rfl ((K.old 3 rfl).trans x3) (by kernel_rfl)
  · exact st_loadc 3 (.tmp 24) rfl (by kernel_rfl) (K.dep 1 24 rfl) (ob_cell_at (Ob.below m3 K.grow) (([] : List Value)) (([.int .i64 ((n : Nat) : Int), .slice pA (P).length pC] : List Value) ++ ((rt).map V)) _ 0 (by simp) (by rfl))
  · exact st_field 26 1 (.tmp 3) rfl ((K.old 3 rfl).trans x3) (by kernel_rfl)
  · exact st_loadc 3 (.tmp 26) rfl (by kernel_rfl) (K.dep 3 26 rfl) (ob_cell_at (Ob.below m3 K.grow) (([.int .i64 ((i : Nat) : Int)] : List Value)) (([.slice pA (P).length pC] : List Value) ++ ((rt).map V)) _ 1 (by simp) (by rfl))
  · exact st_field 26 2 (.tmp 3) rfl ((K.old 3 rfl).trans x3) (by kernel_rfl)
  · exact st_loadc 24 (.tmp 28) rfl (by kernel_rfl) (K.dep 5 28 rfl) (ob_cell_at (Ob.below m3 K.grow) (([.int .i64 ((i : Nat) : Int), .int .i64 ((n : Nat) : Int)] : List Value)) ((rt).map V) _ 2 (by simp) (by rfl))
  · exact st_call 9 (.func 9) _ _ #[.agg ((leaf).map V).toArray, .int .i64 ((i : Nat) : Int), .int .i64 ((n : Nat) : Int), .slice pA (P).length pC] rfl rfl (arg4 (K.dep 0 23 rfl) (K.dep 2 25 rfl) (K.dep 4 27 rfl) (K.dep 6 29 rfl)) Tryd.enter9 (fk_lead_ok hlf hi hn (Fk.mono _ _ _ _ hv (bl.trans (Below.mono K.grow bl.size))) (by omega) (hK.below (bl.trans (Below.mono K.grow bl.size))) hPS0 ey)
  · exact st_move (.tmp 30) rfl (K.dep 7 30 rfl)
  · exact st_ext0 (.tmp 22) rfl (K.dep 8 22 rfl) rfl
  · exact st_ext1 (.tmp 22) rfl (K.dep 8 22 rfl) rfl
  intro f6 w6 A hb
  replace bl0 := bl
  replace x2 := (A.old 2 rfl).trans x2
  replace x3 := (A.old 3 rfl).trans x3
  replace x4 := (A.old 4 rfl).trans x4
  replace x20 := (A.old 20 rfl).trans x20
  have x31 : f6.eval (.tmp 31) = .agg ((y).map V).toArray := A.has 9 31 rfl
  have x32 : f6.eval (.tmp 32) = .int .i64 0 := A.has 10 32 rfl
  have lt_m2 := Ob.lt m2
  replace m2 := Ob.below m2 hb
  have lt_m3 := Ob.lt m3
  replace m3 := Ob.below m3 hb
  replace bl := (bl.trans (Below.mono hb bl.size))
  replace sz := A.size.trans sz
  replace df := A.defs.trans df
  clear A hb
  refine wl_one (.nw w6.heap.size 23 ((hz).map V)) rfl 5 rfl (by rw [sz]; decide) (st_alloc23 rfl _ (Nat.le_refl _)) ?_
  intro f7 w7 df2 sz2 old2 new2 hb
  replace bl0 := bl
  replace x2 := (old2 2 rfl).trans x2
  replace x3 := (old2 3 rfl).trans x3
  replace x4 := (old2 4 rfl).trans x4
  replace x20 := (old2 20 rfl).trans x20
  replace x31 := (old2 31 rfl).trans x31
  replace x32 := (old2 32 rfl).trans x32
  have x5 : Fk.f (.nw w6.heap.size 23 ((hz).map V)) (f7.eval (.tmp 5)) w7 := new2
  have lt_m2 := Ob.lt m2
  replace m2 := Ob.below m2 hb
  have lt_m3 := Ob.lt m3
  replace m3 := Ob.below m3 hb
  replace bl := (bl.trans (Below.mono hb bl.size))
  replace sz := sz2.trans sz
  replace df := df2.trans df
  clear df2 sz2 old2 new2 hb
  obtain ⟨g5, hg5, e5, m5⟩ := x5
  have x5 := e5
  clear e5
  have nm2_5 : g2 ≠ g5 := Nat.ne_of_lt (Nat.lt_of_lt_of_le lt_m2 hg5)
  have nm3_5 : g3 ≠ g5 := Nat.ne_of_lt (Nat.lt_of_lt_of_le lt_m3 hg5)
  have hw5 : w.heap.size ≤ g5 := Nat.le_trans bl0.size hg5
  refine wl_store rfl (.tmp 5) (.tmp 31) rfl rfl (g5) (y) (hz) x5 x31 m5 hz_len hy ?_
  replace m2 : Ob (w7.setRow g5 ((y).map V : List Value).toArray) (g2) 23 ((leaf).map V) := Ob.setRow_other m2 _ nm2_5
  replace m3 : Ob (w7.setRow g5 ((y).map V : List Value).toArray) (g3) 26 (([.int .i64 ((i : Nat) : Int), .int .i64 ((n : Nat) : Int), .slice pA (P).length pC] : List Value) ++ ((rt).map V)) := Ob.setRow_other m3 _ nm3_5
  replace m5 : Ob (w7.setRow g5 ((y).map V : List Value).toArray) (g5) 23 ((y).map V) := Ob.setRow m5 ((y).map V)
  replace bl : Below w.heap.size w (w7.setRow g5 ((y).map V : List Value).toArray) := bl.trans (below_setRow _ _ _ _ hw5)
  generalize w7.setRow g5 ((y).map V : List Value).toArray = w8b at bl m2 m3 m5 ⊢
  clear x31
  refine wl_one (.eq (.int .i64 0)) rfl 6 rfl (by rw [sz]; decide) (st_assign (.tmp 32) rfl x32) ?_
  intro f9 w9 df2 sz2 old2 new2 hb
  replace bl0 := bl
  replace x2 := (old2 2 rfl).trans x2
  replace x3 := (old2 3 rfl).trans x3
  replace x4 := (old2 4 rfl).trans x4
  replace x20 := (old2 20 rfl).trans x20
  replace x32 := (old2 32 rfl).trans x32
  replace x5 := (old2 5 rfl).trans x5
  have x6 : f9.eval (.tmp 6) = .int .i64 0 := new2
  have lt_m2 := Ob.lt m2
  replace m2 := Ob.below m2 hb
  have lt_m3 := Ob.lt m3
  replace m3 := Ob.below m3 hb
  have lt_m5 := Ob.lt m5
  replace m5 := Ob.below m5 hb
  replace bl := (bl.trans (Below.mono hb bl.size))
  replace sz := sz2.trans sz
  replace df := df2.trans df
  clear df2 sz2 old2 new2 hb
  refine wpList_nil ?_
  clear x32
  show Code.wp _ _ _ _ _
  refine wp_seq ?_
  refine wp_seq ?_
  refine wp_all_seq [.eq (.pointer (some ⟨g3, 0, none⟩)), .eq (.int .i64 ((i : Nat) : Int)), .eq (.bool false), .eq (.bool false), .eq (.pointer (some ⟨g3, 0, none⟩)), .eq (.int .i64 ((i : Nat) : Int)), .eq (.pointer (some ⟨g3, 1, none⟩)), .eq (.int .i64 ((n : Nat) : Int)), .eq (.bool false), .eq (.bool false)] (by kernel_rfl) (by kernel_rfl) (by rw [sz]; kernel_rfl) (by kernel_rfl) ⟨fun hw ac u K => ?_, fun hw ac u K => ?_, fun hw ac u K => ?_, fun hw ac u K => ?_, fun hw ac u K => ?_, fun hw ac u K => ?_, fun hw ac u K => ?_, fun hw ac u K => ?_, fun hw ac u K => ?_, fun hw ac u K => ?_, trivial⟩ ?_
  · exact st_field 26 0 (.tmp 3) rfl ((K.old 3 rfl).trans x3) (by kernel_rfl)
  · exact st_loadc 3 (.tmp 33) rfl (by kernel_rfl) (K.dep 0 33 rfl) (ob_cell_at (Ob.below m3 K.grow) (([] : List Value)) (([.int .i64 ((n : Nat) : Int), .slice pA (P).length pC] : List Value) ++ ((rt).map V)) _ 0 (by simp) (by rfl))
  · exact st_lss 3 (.tmp 34) (.const (.int .i64 0)) rfl .i64 (((i : Nat) : Int)) (0) (K.dep 1 34 rfl) rfl _ (by rw [eq_comm, decide_eq_false_iff_not]; omega)
  · exact st_move (.tmp 35) rfl (K.dep 2 35 rfl)
  · exact st_field 26 0 (.tmp 3) rfl ((K.old 3 rfl).trans x3) (by kernel_rfl)
  · exact st_loadc 3 (.tmp 37) rfl (by kernel_rfl) (K.dep 4 37 rfl) (ob_cell_at (Ob.below m3 K.grow) (([] : List Value)) (([.int .i64 ((n : Nat) : Int), .slice pA (P).length pC] : List Value) ++ ((rt).map V)) _ 0 (by simp) (by rfl))
  · exact st_field 26 1 (.tmp 3) rfl ((K.old 3 rfl).trans x3) (by kernel_rfl)
  · exact st_loadc 3 (.tmp 39) rfl (by kernel_rfl) (K.dep 6 39 rfl) (ob_cell_at (Ob.below m3 K.grow) (([.int .i64 ((i : Nat) : Int)] : List Value)) (([.slice pA (P).length pC] : List Value) ++ ((rt).map V)) _ 1 (by simp) (by rfl))
  · exact st_geq 3 (.tmp 38) (.tmp 40) rfl .i64 (((i : Nat) : Int)) (((n : Nat) : Int)) (K.dep 5 38 rfl) (K.dep 7 40 rfl) _ (by rw [eq_comm, decide_eq_false_iff_not]; omega)
  · exact st_pick_f' (.tmp 36) (.const (.bool true)) (.tmp 41) rfl (K.dep 3 36 rfl) (K.dep 8 41 rfl)
  intro f10 w10 A hb
  replace bl0 := bl
  replace x2 := (A.old 2 rfl).trans x2
  replace x3 := (A.old 3 rfl).trans x3
  replace x4 := (A.old 4 rfl).trans x4
  replace x20 := (A.old 20 rfl).trans x20
  replace x5 := (A.old 5 rfl).trans x5
  replace x6 := (A.old 6 rfl).trans x6
  have x42 : f10.eval (.tmp 42) = .bool false := A.has 9 42 rfl
  have lt_m2 := Ob.lt m2
  replace m2 := Ob.below m2 hb
  have lt_m3 := Ob.lt m3
  replace m3 := Ob.below m3 hb
  have lt_m5 := Ob.lt m5
  replace m5 := Ob.below m5 hb
  replace bl := (bl.trans (Below.mono hb bl.size))
  replace sz := A.size.trans sz
  replace df := A.defs.trans df
  clear A hb
  show Code.wp _ _ _ _ _
  refine wp_cond_false x42 ?_
  refine wp_skip ?_
  show Code.wp _ _ _ _ _
  refine wp_seq ?_
  refine wp_all_seq [.eq (.pointer (some ⟨g3, 0, none⟩)), .eq (.int .i64 ((i : Nat) : Int)), .eq (.pointer (some ⟨g3, 1, none⟩)), .eq (.int .i64 ((n : Nat) : Int)), .ob w.heap.size (S), .ob w.heap.size (S)] (by kernel_rfl) (by kernel_rfl) (by rw [sz]; kernel_rfl) (by kernel_rfl) ⟨fun hw ac u K => ?_, fun hw ac u K => ?_, fun hw ac u K => ?_, fun hw ac u K => ?_, fun hw ac u K => ?_, fun hw ac u K => ?_, trivial⟩ ?_
  · exact st_field 26 0 (.tmp 3) rfl ((K.old 3 rfl).trans x3) (by kernel_rfl)
  · exact st_loadc 3 (.tmp 74) rfl (by kernel_rfl) (K.dep 0 74 rfl) (ob_cell_at (Ob.below m3 K.grow) (([] : List Value)) (([.int .i64 ((n : Nat) : Int), .slice pA (P).length pC] : List Value) ++ ((rt).map V)) _ 0 (by simp) (by rfl))
  · exact st_field 26 1 (.tmp 3) rfl ((K.old 3 rfl).trans x3) (by kernel_rfl)
  · exact st_loadc 3 (.tmp 76) rfl (by kernel_rfl) (K.dep 2 76 rfl) (ob_cell_at (Ob.below m3 K.grow) (([.int .i64 ((i : Nat) : Int)] : List Value)) (([.slice pA (P).length pC] : List Value) ++ ((rt).map V)) _ 1 (by simp) (by rfl))
  · exact st_call 12 (.func 12) _ _ #[.int .i64 ((i : Nat) : Int), .int .i64 ((n : Nat) : Int)] rfl rfl (arg2 (K.dep 1 75 rfl) (K.dep 3 77 rfl)) Tryd.enter12 (by rw [← hS]; exact fk_orw (bl.trans (Below.mono K.grow bl.size)).size (sides_any n i _ (by omega) hn hi))
  · exact st_assign (.tmp 78) rfl (K.dep 4 78 rfl)
  intro f11 w11 A hb
  replace bl0 := bl
  replace x2 := (A.old 2 rfl).trans x2
  replace x3 := (A.old 3 rfl).trans x3
  replace x4 := (A.old 4 rfl).trans x4
  replace x20 := (A.old 20 rfl).trans x20
  replace x5 := (A.old 5 rfl).trans x5
  replace x6 := (A.old 6 rfl).trans x6
  replace x42 := (A.old 42 rfl).trans x42
  have x7 : Fk.f (.ob w.heap.size (S)) (f11.eval (.tmp 7)) w11 := A.has 5 7 rfl
  have lt_m2 := Ob.lt m2
  replace m2 := Ob.below m2 hb
  have lt_m3 := Ob.lt m3
  replace m3 := Ob.below m3 hb
  have lt_m5 := Ob.lt m5
  replace m5 := Ob.below m5 hb
  replace bl := (bl.trans (Below.mono hb bl.size))
  replace sz := A.size.trans sz
  replace df := A.defs.trans df
  clear A hb
  obtain ⟨bA, bC, blb, blo, e7, hb7a, hb7b, hb7c⟩ := ob_bs x7
  have h7 : Fk.f (.bs (S)) (.slice bA (S).length bC) w11 := ⟨bA, bC, blb, blo, rfl, hb7a, hb7b, hb7c⟩
  have x7 : f11.eval (.tmp 7) = .slice bA (S).length bC := e7
  clear e7 hb7a hb7b hb7c
  show Code.wp _ _ _ _ _
  refine wp_seq ?_
  refine wp_seq ?_
  refine wp_all_seq [.eq (.pointer (some ⟨g3, 0, none⟩)), .eq (.int .i64 ((i : Nat) : Int)), .eq (.pointer (some ⟨g3, 1, none⟩)), .eq (.int .i64 ((n : Nat) : Int)), .eq (.int .i64 (((S).length : Nat) : Int)), .eq (.slice bA (S).length bC), .eq (.int .i64 (((S).length : Nat) : Int)), .eq (.bool false)] (by kernel_rfl) (by kernel_rfl) (by rw [sz]; kernel_rfl) (by kernel_rfl) ⟨fun hw ac u K => ?_, fun hw ac u K => ?_, fun hw ac u K => ?_, fun hw ac u K => ?_, fun hw ac u K => ?_, fun hw ac u K => ?_, fun hw ac u K => ?_, fun hw ac u K => ?_, trivial⟩ ?_
  · exact st_field 26 0 (.tmp 3) rfl ((K.old 3 rfl).trans x3) (by kernel_rfl)
  · exact st_loadc 3 (.tmp 79) rfl (by kernel_rfl) (K.dep 0 79 rfl) (ob_cell_at (Ob.below m3 K.grow) (([] : List Value)) (([.int .i64 ((n : Nat) : Int), .slice pA (P).length pC] : List Value) ++ ((rt).map V)) _ 0 (by simp) (by rfl))
  · exact st_field 26 1 (.tmp 3) rfl ((K.old 3 rfl).trans x3) (by kernel_rfl)
  · exact st_loadc 3 (.tmp 81) rfl (by kernel_rfl) (K.dep 2 81 rfl) (ob_cell_at (Ob.below m3 K.grow) (([.int .i64 ((i : Nat) : Int)] : List Value)) (([.slice pA (P).length pC] : List Value) ++ ((rt).map V)) _ 1 (by simp) (by rfl))
  · exact st_call 10 (.func 10) _ _ #[.int .i64 ((i : Nat) : Int), .int .i64 ((n : Nat) : Int)] rfl rfl (arg2 (K.dep 1 80 rfl) (K.dep 3 82 rfl)) Tryd.enter10 (by rw [← hS]; exact fk_len_ok hi hn)
  · exact st_move (.tmp 7) rfl ((K.old 7 rfl).trans x7)
  · exact st_lenbs (.tmp 84) rfl (fk_val (K.dep 5 84 rfl) (Fk.mono _ _ _ _ h7 K.grow))
  · exact st_neqi 3 (.tmp 83) (.tmp 85) rfl .i64 ((((S).length : Nat) : Int)) ((((S).length : Nat) : Int)) (K.dep 4 83 rfl) (K.dep 6 85 rfl) _ (by simp)
  intro f12 w12 A hb
  replace bl0 := bl
  replace x2 := (A.old 2 rfl).trans x2
  replace x3 := (A.old 3 rfl).trans x3
  replace x4 := (A.old 4 rfl).trans x4
  replace x20 := (A.old 20 rfl).trans x20
  replace x5 := (A.old 5 rfl).trans x5
  replace x6 := (A.old 6 rfl).trans x6
  replace x42 := (A.old 42 rfl).trans x42
  replace x7 := (A.old 7 rfl).trans x7
  have x86 : f12.eval (.tmp 86) = .bool false := A.has 7 86 rfl
  have lt_m2 := Ob.lt m2
  replace m2 := Ob.below m2 hb
  have lt_m3 := Ob.lt m3
  replace m3 := Ob.below m3 hb
  have lt_m5 := Ob.lt m5
  replace m5 := Ob.below m5 hb
  replace h7 := Fk.mono _ _ _ _ h7 hb
  replace bl := (bl.trans (Below.mono hb bl.size))
  replace sz := A.size.trans sz
  replace df := A.defs.trans df
  clear A hb
  show Code.wp _ _ _ _ _
  refine wp_cond_false x86 ?_
  refine wp_skip ?_
  show Code.wp _ _ _ _ _
  refine wp_seq ?_
  have blw := bl
  replace hv := Fk.mono _ _ _ _ hv bl
  replace hvs := Fk.mono _ _ _ _ hvs bl
  replace hK := hK.below bl
  replace bl := Below.refl w12.heap.size w12
  replace bl0 := bl
  refine wp_region_held_drew (S := fun W => Ob W g2 23 ((leaf).map V) ∧ Ob W g3 26 (([.int .i64 ((i : Nat) : Int), .int .i64 ((n : Nat) : Int), .slice pA (P).length pC] : List Value) ++ ((rt).map V))) Tryd.mixed ⟨Ob.below m2 bl.drew, Ob.below m3 bl.drew⟩ (fun hS0 => ?_)
  replace bl := bl.drew
  clear bl0
  generalize w12.drew = w13 at hS0 bl ⊢
  refine wh_take 0 87 (v := .agg ((leaf).map V).toArray) rfl rfl (by rw [sz]; decide) rfl (by kernel_rfl) (by kernel_rfl) (by kernel_rfl) (fun _ _ _ h => h) (run_ldh rfl hlf x2 (fun W hW => Ob.range hW.1 0 _ (fun j v hj => by simpa using hj))) hS0 ?_
  intro f14 df2 sz2 old2 new2
  replace x2 := (old2 2 rfl).trans x2
  replace x3 := (old2 3 rfl).trans x3
  replace x4 := (old2 4 rfl).trans x4
  replace x20 := (old2 20 rfl).trans x20
  replace x5 := (old2 5 rfl).trans x5
  replace x6 := (old2 6 rfl).trans x6
  replace x42 := (old2 42 rfl).trans x42
  replace x7 := (old2 7 rfl).trans x7
  replace x86 := (old2 86 rfl).trans x86
  have x87 : f14.eval (.tmp 87) = .agg ((leaf).map V).toArray := new2
  replace sz := sz2.trans sz
  replace df := df2.trans df
  clear df2 sz2 old2 new2
  refine wh_take 1 88 (v := .pointer (some ⟨g3, 2, none⟩)) rfl rfl (by rw [sz]; decide) rfl (by kernel_rfl) (by kernel_rfl) (by kernel_rfl) (fun _ _ _ h => h) (run_field rfl x3 (fun w => by kernel_rfl)) hS0 ?_
  intro f15 df2 sz2 old2 new2
  replace x2 := (old2 2 rfl).trans x2
  replace x3 := (old2 3 rfl).trans x3
  replace x4 := (old2 4 rfl).trans x4
  replace x20 := (old2 20 rfl).trans x20
  replace x5 := (old2 5 rfl).trans x5
  replace x6 := (old2 6 rfl).trans x6
  replace x42 := (old2 42 rfl).trans x42
  replace x7 := (old2 7 rfl).trans x7
  replace x86 := (old2 86 rfl).trans x86
  replace x87 := (old2 87 rfl).trans x87
  have x88 : f15.eval (.tmp 88) = .pointer (some ⟨g3, 2, none⟩) := new2
  replace sz := sz2.trans sz
  replace df := df2.trans df
  clear df2 sz2 old2 new2
  refine wh_take 2 89 (v := .slice pA (P).length pC) rfl rfl (by rw [sz]; decide) rfl (by kernel_rfl) (by kernel_rfl) (by kernel_rfl) (fun _ _ _ h => h) (run_loadc rfl (fun w => by kernel_rfl) x88 (fun W hW => Ob.cell hW.2 2 rfl)) hS0 ?_
  intro f16 df2 sz2 old2 new2
  replace x2 := (old2 2 rfl).trans x2
  replace x3 := (old2 3 rfl).trans x3
  replace x4 := (old2 4 rfl).trans x4
  replace x20 := (old2 20 rfl).trans x20
  replace x5 := (old2 5 rfl).trans x5
  replace x6 := (old2 6 rfl).trans x6
  replace x42 := (old2 42 rfl).trans x42
  replace x7 := (old2 7 rfl).trans x7
  replace x86 := (old2 86 rfl).trans x86
  replace x87 := (old2 87 rfl).trans x87
  replace x88 := (old2 88 rfl).trans x88
  have x89 : f16.eval (.tmp 89) = .slice pA (P).length pC := new2
  replace sz := sz2.trans sz
  replace df := df2.trans df
  clear df2 sz2 old2 new2
  refine wh_take 3 90 (v := .int .i64 (((P).length : Nat) : Int)) rfl rfl (by rw [sz]; decide) rfl (by kernel_rfl) (by kernel_rfl) (by kernel_rfl) (fun _ _ _ h => h) (run_lenT Tryd.under24' Tryd.elem24 rfl x89) hS0 ?_
  intro f17 df2 sz2 old2 new2
  replace x2 := (old2 2 rfl).trans x2
  replace x3 := (old2 3 rfl).trans x3
  replace x4 := (old2 4 rfl).trans x4
  replace x20 := (old2 20 rfl).trans x20
  replace x5 := (old2 5 rfl).trans x5
  replace x6 := (old2 6 rfl).trans x6
  replace x42 := (old2 42 rfl).trans x42
  replace x7 := (old2 7 rfl).trans x7
  replace x86 := (old2 86 rfl).trans x86
  replace x87 := (old2 87 rfl).trans x87
  replace x88 := (old2 88 rfl).trans x88
  replace x89 := (old2 89 rfl).trans x89
  have x90 : f17.eval (.tmp 90) = .int .i64 (((P).length : Nat) : Int) := new2
  replace sz := sz2.trans sz
  replace df := df2.trans df
  clear df2 sz2 old2 new2
  refine wh_take 4 91 (v := .slice bA (S).length bC) rfl rfl (by rw [sz]; decide) rfl (by kernel_rfl) (by kernel_rfl) (by kernel_rfl) (fun _ _ _ h => h) (run_mv rfl x7) hS0 ?_
  intro f18 df2 sz2 old2 new2
  replace x2 := (old2 2 rfl).trans x2
  replace x3 := (old2 3 rfl).trans x3
  replace x4 := (old2 4 rfl).trans x4
  replace x20 := (old2 20 rfl).trans x20
  replace x5 := (old2 5 rfl).trans x5
  replace x6 := (old2 6 rfl).trans x6
  replace x42 := (old2 42 rfl).trans x42
  replace x7 := (old2 7 rfl).trans x7
  replace x86 := (old2 86 rfl).trans x86
  replace x87 := (old2 87 rfl).trans x87
  replace x88 := (old2 88 rfl).trans x88
  replace x89 := (old2 89 rfl).trans x89
  replace x90 := (old2 90 rfl).trans x90
  have x91 : f18.eval (.tmp 91) = .slice bA (S).length bC := new2
  replace sz := sz2.trans sz
  replace df := df2.trans df
  clear df2 sz2 old2 new2
  refine wh_take 5 92 (v := .int .i64 (((S).length : Nat) : Int)) rfl rfl (by rw [sz]; decide) rfl (by kernel_rfl) (by kernel_rfl) (by kernel_rfl) (fun _ _ _ h => h) (run_lenT Tryd.under33z Tryd.elem33z rfl x91) hS0 ?_
  intro f19 df2 sz2 old2 new2
  replace x2 := (old2 2 rfl).trans x2
  replace x3 := (old2 3 rfl).trans x3
  replace x4 := (old2 4 rfl).trans x4
  replace x20 := (old2 20 rfl).trans x20
  replace x5 := (old2 5 rfl).trans x5
  replace x6 := (old2 6 rfl).trans x6
  replace x42 := (old2 42 rfl).trans x42
  replace x7 := (old2 7 rfl).trans x7
  replace x86 := (old2 86 rfl).trans x86
  replace x87 := (old2 87 rfl).trans x87
  replace x88 := (old2 88 rfl).trans x88
  replace x89 := (old2 89 rfl).trans x89
  replace x90 := (old2 90 rfl).trans x90
  replace x91 := (old2 91 rfl).trans x91
  have x92 : f19.eval (.tmp 92) = .int .i64 (((S).length : Nat) : Int) := new2
  replace sz := sz2.trans sz
  replace df := df2.trans df
  clear df2 sz2 old2 new2
  refine wh_take 6 93 (v := .bool true) rfl rfl (by rw [sz]; decide) rfl (by kernel_rfl) (by kernel_rfl) (by kernel_rfl) (fun _ _ _ h => h) (run_eqi rfl x90 x92 true (by simp [hPS])) hS0 ?_
  intro f20 df2 sz2 old2 new2
  replace x2 := (old2 2 rfl).trans x2
  replace x3 := (old2 3 rfl).trans x3
  replace x4 := (old2 4 rfl).trans x4
  replace x20 := (old2 20 rfl).trans x20
  replace x5 := (old2 5 rfl).trans x5
  replace x6 := (old2 6 rfl).trans x6
  replace x42 := (old2 42 rfl).trans x42
  replace x7 := (old2 7 rfl).trans x7
  replace x86 := (old2 86 rfl).trans x86
  replace x87 := (old2 87 rfl).trans x87
  replace x88 := (old2 88 rfl).trans x88
  replace x89 := (old2 89 rfl).trans x89
  replace x90 := (old2 90 rfl).trans x90
  replace x91 := (old2 91 rfl).trans x91
  replace x92 := (old2 92 rfl).trans x92
  have x93 : f20.eval (.tmp 93) = .bool true := new2
  replace sz := sz2.trans sz
  replace df := df2.trans df
  clear df2 sz2 old2 new2
  have hal : Below w13.heap.size w13 (w13.alloc (.cells (hz.map V).toArray 23)) := (Below.refl _ _).alloc (Nat.le_refl _) _
  have hS1 := hS0
  replace hS1 := (show Ob (w13.alloc (.cells (hz.map V).toArray 23)) g2 23 ((leaf).map V) ∧ Ob (w13.alloc (.cells (hz.map V).toArray 23)) g3 26 (([.int .i64 ((i : Nat) : Int), .int .i64 ((n : Nat) : Int), .slice pA (P).length pC] : List Value) ++ ((rt).map V)) from ⟨Ob.below hS0.1 hal, Ob.below hS0.2 hal⟩)
  refine wh_alloc 7 8 rfl rfl (by rw [sz]; decide) rfl (by kernel_rfl) rfl hS1 ?_
  intro f21 df2 sz2 old2 new2
  replace x2 := (old2 2 rfl).trans x2
  replace x3 := (old2 3 rfl).trans x3
  replace x4 := (old2 4 rfl).trans x4
  replace x20 := (old2 20 rfl).trans x20
  replace x5 := (old2 5 rfl).trans x5
  replace x6 := (old2 6 rfl).trans x6
  replace x42 := (old2 42 rfl).trans x42
  replace x7 := (old2 7 rfl).trans x7
  replace x86 := (old2 86 rfl).trans x86
  replace x87 := (old2 87 rfl).trans x87
  replace x88 := (old2 88 rfl).trans x88
  replace x89 := (old2 89 rfl).trans x89
  replace x90 := (old2 90 rfl).trans x90
  replace x91 := (old2 91 rfl).trans x91
  replace x92 := (old2 92 rfl).trans x92
  replace x93 := (old2 93 rfl).trans x93
  obtain ⟨g8, hg8⟩ : ∃ g, w13.heap.size = g := ⟨_, rfl⟩
  have x8 : f21.eval (.tmp 8) = .pointer (some ⟨g8, 0, none⟩) := by rw [← hg8]; exact new2
  have lt2 := Ob.lt hS0.1
  have lt3 := Ob.lt hS0.2
  have lt5 := Nat.lt_of_lt_of_le (Ob.lt m5) bl.size
  have m8 : Ob (w13.alloc (.cells (hz.map V).toArray 23)) g8 23 ((hz).map V) := by rw [← hg8]; exact Ob.alloc _ _ _
  have hw8 : w12.heap.size ≤ g8 := by rw [← hg8]; exact bl.size
  replace bl := bl.trans (Below.mono hal bl.size)
  have nm2_8 : g2 ≠ g8 := by omega
  have nm3_8 : g3 ≠ g8 := by omega
  have nm5_8 : g5 ≠ g8 := by omega
  replace sz := sz2.trans sz
  replace df := df2.trans df
  clear df2 sz2 old2 new2 hal
  have hS2 : Ob ((w13.alloc (.cells (hz.map V).toArray 23)).setRow g8 ((leaf).map V : List Value).toArray) g2 23 ((leaf).map V) ∧ Ob ((w13.alloc (.cells (hz.map V).toArray 23)).setRow g8 ((leaf).map V : List Value).toArray) g3 26 (([.int .i64 ((i : Nat) : Int), .int .i64 ((n : Nat) : Int), .slice pA (P).length pC] : List Value) ++ ((rt).map V)) := ⟨Ob.setRow_other hS1.1 _ (by omega), Ob.setRow_other hS1.2 _ (by omega)⟩
  refine wh_store 8 rfl rfl rfl (by kernel_rfl) (.tmp 8) (.tmp 87) rfl g8 (leaf) (hz) x8 x87 m8 hz_len hlf hS2 ?_
  replace m8 : Ob ((w13.alloc (.cells (hz.map V).toArray 23)).setRow g8 ((leaf).map V : List Value).toArray) g8 23 ((leaf).map V) := Ob.setRow m8 ((leaf).map V)
  replace bl : Below w12.heap.size w12 ((w13.alloc (.cells (hz.map V).toArray 23)).setRow g8 ((leaf).map V : List Value).toArray) := bl.trans (below_setRow _ _ _ _ hw8)
  clear hS0 hS1 hg8
  generalize (w13.alloc (.cells (hz.map V).toArray 23)).setRow g8 ((leaf).map V : List Value).toArray = w22 at hS2 m8 bl ⊢
  refine wh_assign 9 9 rfl rfl (by rw [sz]; decide) rfl (by kernel_rfl) (.tmp 93) rfl hS2 ?_
  intro f23 df2 sz2 old2 new2
  have x9 : f23.eval (.tmp 9) = .bool true := new2.trans x93
  replace x2 := (old2 2 rfl).trans x2
  replace x3 := (old2 3 rfl).trans x3
  replace x4 := (old2 4 rfl).trans x4
  replace x20 := (old2 20 rfl).trans x20
  replace x5 := (old2 5 rfl).trans x5
  replace x6 := (old2 6 rfl).trans x6
  replace x42 := (old2 42 rfl).trans x42
  replace x7 := (old2 7 rfl).trans x7
  replace x86 := (old2 86 rfl).trans x86
  replace x87 := (old2 87 rfl).trans x87
  replace x88 := (old2 88 rfl).trans x88
  replace x89 := (old2 89 rfl).trans x89
  replace x90 := (old2 90 rfl).trans x90
  replace x91 := (old2 91 rfl).trans x91
  replace x92 := (old2 92 rfl).trans x92
  replace x93 := (old2 93 rfl).trans x93
  replace x8 := (old2 8 rfl).trans x8
  replace sz := sz2.trans sz
  replace df := df2.trans df
  clear df2 sz2 old2 new2
  refine wpAnyH_done (by kernel_rfl) ?_ _
  clear hS2
  have bl0 := bl
  clear x87
  clear x88
  clear x89
  clear x90
  clear x91
  clear x92
  clear x93
  show Code.wp _ _ _ _ _
  refine wp_seq ?_
  refine wp_seq ?_
  refine wp_all_seq [.eq (.int .i64 0)] (by kernel_rfl) (by kernel_rfl) (by rw [sz]; kernel_rfl) (by kernel_rfl) ⟨fun hw ac u K => ?_, trivial⟩ ?_
  · exact st_assign (.const (.int .i64 0)) rfl rfl
  intro f24 w24 A hb
  replace bl0 := bl
  replace x2 := (A.old 2 rfl).trans x2
  replace x3 := (A.old 3 rfl).trans x3
  replace x4 := (A.old 4 rfl).trans x4
  replace x20 := (A.old 20 rfl).trans x20
  replace x5 := (A.old 5 rfl).trans x5
  replace x6 := (A.old 6 rfl).trans x6
  replace x42 := (A.old 42 rfl).trans x42
  replace x7 := (A.old 7 rfl).trans x7
  replace x86 := (A.old 86 rfl).trans x86
  replace x8 := (A.old 8 rfl).trans x8
  replace x9 := (A.old 9 rfl).trans x9
  have x10 : f24.eval (.tmp 10) = .int .i64 0 := A.has 0 10 rfl
  have lt_m8 := Ob.lt m8
  replace m8 := Ob.below m8 hb
  replace bl := (bl.trans (Below.mono hb bl.size))
  replace sz := A.size.trans sz
  replace df := A.defs.trans df
  clear A hb
  show Code.wp _ _ _ _ _
  refine wp_block ?_
  refine wp_loop (fun f v1 => ∃ k : Nat, k ≤ (S).length ∧ f.tmps.size = 179 ∧ f.defers = [] ∧ f.eval (.tmp 2) = .pointer (some ⟨g2, 0, none⟩) ∧ f.eval (.tmp 3) = .pointer (some ⟨g3, 0, none⟩) ∧ f.eval (.tmp 4) = .bool false ∧ f.eval (.tmp 20) = .bool false ∧ f.eval (.tmp 5) = .pointer (some ⟨g5, 0, none⟩) ∧ f.eval (.tmp 6) = .int .i64 0 ∧ f.eval (.tmp 42) = .bool false ∧ f.eval (.tmp 7) = .slice bA (S).length bC ∧ f.eval (.tmp 86) = .bool false ∧ f.eval (.tmp 8) = .pointer (some ⟨g8, 0, none⟩) ∧ f.eval (.tmp 9) = .bool true ∧ f.eval (.tmp 10) = .int .i64 ((k : Nat) : Int) ∧ Ob v1 (g8) 23 ((lek leaf P S k).map V) ∧ Below w12.heap.size w12 (v1)) (fun f _ => (S).length - (intOf (f.eval (.tmp 10))).toNat) ⟨0, Nat.zero_le _, sz, df, x2, x3, x4, x20, x5, x6, x42, x7, x86, x8, x9, x10, (by rw [lek_zero]; exact m8), bl⟩ ?_
  intro f25 w25 hI
  clear sz df bl bl0 x2 x3 x4 x20 x5 x6 x42 x7 x86 x8 x9 x10 m8
  obtain ⟨k, hk, sz, df, x2, x3, x4, x20, x5, x6, x42, x7, x86, x8, x9, x10, m8, bl⟩ := hI
  have bl0 := bl
  have hcnt := x10
  refine wp_seq ?_
  refine wp_seq ?_
  by_cases hlt : k < (S).length
  rotate_left
  · skip
    refine wp_all_seq [.eq (.bool true), .eq (.bool true), .eq (.int .i64 ((k : Nat) : Int)), .eq (.slice bA (S).length bC), .eq (.int .i64 (((S).length : Nat) : Int)), .eq (.bool false), .eq (.bool false)] (by kernel_rfl) (by kernel_rfl) (by rw [sz]; kernel_rfl) (by kernel_rfl) ⟨fun hw ac u K => ?_, fun hw ac u K => ?_, fun hw ac u K => ?_, fun hw ac u K => ?_, fun hw ac u K => ?_, fun hw ac u K => ?_, fun hw ac u K => ?_, trivial⟩ ?_
    · exact st_move (.tmp 9) rfl ((K.old 9 rfl).trans x9)
    · exact st_move (.tmp 94) rfl (K.dep 0 94 rfl)
    · exact st_move (.tmp 10) rfl ((K.old 10 rfl).trans x10)
    · exact st_move (.tmp 7) rfl ((K.old 7 rfl).trans x7)
    · exact st_lenbs (.tmp 97) rfl (fk_val (K.dep 3 97 rfl) (Fk.mono _ _ _ _ h7 (bl.trans (Below.mono K.grow bl.size))))
    · exact st_lss 3 (.tmp 96) (.tmp 98) rfl .i64 (((k : Nat) : Int)) ((((S).length : Nat) : Int)) (K.dep 2 96 rfl) (K.dep 4 98 rfl) _ (by rw [eq_comm, decide_eq_false_iff_not]; exact fun h => hlt (Int.ofNat_lt.1 h))
    · exact st_pick_t (.tmp 95) (.tmp 99) (.const (.bool false)) rfl (K.dep 1 95 rfl) (K.dep 5 99 rfl)
    intro f26 w26 A hb
    replace bl0 := bl
    replace x2 := (A.old 2 rfl).trans x2
    replace x3 := (A.old 3 rfl).trans x3
    replace x4 := (A.old 4 rfl).trans x4
    replace x20 := (A.old 20 rfl).trans x20
    replace x5 := (A.old 5 rfl).trans x5
    replace x6 := (A.old 6 rfl).trans x6
    replace x42 := (A.old 42 rfl).trans x42
    replace x7 := (A.old 7 rfl).trans x7
    replace x86 := (A.old 86 rfl).trans x86
    replace x8 := (A.old 8 rfl).trans x8
    replace x9 := (A.old 9 rfl).trans x9
    replace x10 := (A.old 10 rfl).trans x10
    have x100 : f26.eval (.tmp 100) = .bool false := A.has 6 100 rfl
    have lt_m8 := Ob.lt m8
    replace m8 := Ob.below m8 hb
    replace bl := (bl.trans (Below.mono hb bl.size))
    replace sz := A.size.trans sz
    replace df := A.defs.trans df
    clear A hb
    show Code.wp _ _ _ _ _
    refine wp_cond_false x100 ?_
    refine wp_exit ?_
    show Code.wp _ _ _ _ _
    refine wp_seq ?_
    refine wp_seq ?_
    refine wp_all_seq [.eq (.bool true), .eq (.bool false)] (by kernel_rfl) (by kernel_rfl) (by rw [sz]; kernel_rfl) (by kernel_rfl) ⟨fun hw ac u K => ?_, fun hw ac u K => ?_, trivial⟩ ?_
    · exact st_move (.tmp 9) rfl ((K.old 9 rfl).trans x9)
    · exact st_not (.tmp 114) rfl true (K.dep 0 114 rfl)
    intro f27 w27 A hb
    replace bl0 := bl
    replace x2 := (A.old 2 rfl).trans x2
    replace x3 := (A.old 3 rfl).trans x3
    replace x4 := (A.old 4 rfl).trans x4
    replace x20 := (A.old 20 rfl).trans x20
    replace x5 := (A.old 5 rfl).trans x5
    replace x6 := (A.old 6 rfl).trans x6
    replace x42 := (A.old 42 rfl).trans x42
    replace x7 := (A.old 7 rfl).trans x7
    replace x86 := (A.old 86 rfl).trans x86
    replace x8 := (A.old 8 rfl).trans x8
    replace x9 := (A.old 9 rfl).trans x9
    replace x10 := (A.old 10 rfl).trans x10
    replace x100 := (A.old 100 rfl).trans x100
    have x115 : f27.eval (.tmp 115) = .bool false := A.has 1 115 rfl
    have lt_m8 := Ob.lt m8
    replace m8 := Ob.below m8 hb
    replace bl := (bl.trans (Below.mono hb bl.size))
    replace sz := A.size.trans sz
    replace df := A.defs.trans df
    clear A hb
    show Code.wp _ _ _ _ _
    refine wp_cond_false x115 ?_
    refine wp_skip ?_
    show Code.wp _ _ _ _ _
    refine wp_seq ?_
    refine wp_all_seq [.eq (.int .i64 0)] (by kernel_rfl) (by kernel_rfl) (by rw [sz]; kernel_rfl) (by kernel_rfl) ⟨fun hw ac u K => ?_, trivial⟩ ?_
    · exact st_assign (.const (.int .i64 0)) rfl rfl
    intro f28 w28 A hb
    replace bl0 := bl
    replace x2 := (A.old 2 rfl).trans x2
    replace x3 := (A.old 3 rfl).trans x3
    replace x4 := (A.old 4 rfl).trans x4
    replace x20 := (A.old 20 rfl).trans x20
    replace x5 := (A.old 5 rfl).trans x5
    replace x6 := (A.old 6 rfl).trans x6
    replace x42 := (A.old 42 rfl).trans x42
    replace x7 := (A.old 7 rfl).trans x7
    replace x86 := (A.old 86 rfl).trans x86
    replace x8 := (A.old 8 rfl).trans x8
    replace x9 := (A.old 9 rfl).trans x9
    replace x10 := (A.old 10 rfl).trans x10
    replace x100 := (A.old 100 rfl).trans x100
    replace x115 := (A.old 115 rfl).trans x115
    have x11 : f28.eval (.tmp 11) = .int .i64 0 := A.has 0 11 rfl
    have lt_m8 := Ob.lt m8
    replace m8 := Ob.below m8 hb
    replace bl := (bl.trans (Below.mono hb bl.size))
    replace sz := A.size.trans sz
    replace df := A.defs.trans df
    clear A hb
    show Code.wp _ _ _ _ _
    refine wp_seq ?_
    refine wp_seq ?_
    have hkS : k = (S).length := by omega
    rw [hkS, lek_all leaf hPS, eyS] at m8
    by_cases hyr : y = rt
    rotate_left
    · skip
      refine wp_all_seq [.eq (.agg ((y).map V).toArray), .eq (.pointer (some ⟨g3, 3, none⟩)), .eq (.agg ((rt).map V).toArray), .eq (.bool true)] (by kernel_rfl) (by kernel_rfl) (by rw [sz]; kernel_rfl) (by kernel_rfl) ⟨fun hw ac u K => ?_, fun hw ac u K => ?_, fun hw ac u K => ?_, fun hw ac u K => ?_, trivial⟩ ?_
      · exact st_load23 (.tmp 8) rfl (g8) (y) ((K.old 8 rfl).trans x8) hy (Ob.below m8 K.grow)
      · exact st_field 26 3 (.tmp 3) rfl ((K.old 3 rfl).trans x3) (by kernel_rfl)
      · exact st_loadz 23 (.tmp 140) rfl (g3) 3 ((rt).map V) (by kernel_rfl) (by rw [List.length_map, hrt]; kernel_rfl) (K.dep 1 140 rfl) (ob_range_at (Ob.below m3 (bl.trans (Below.mono K.grow bl.size))) (([.int .i64 ((i : Nat) : Int), .int .i64 ((n : Nat) : Int), .slice pA (P).length pC] : List Value)) (([] : List Value)) _ 3 (by simp) (by rfl))
      · exact st_neqh (.tmp 139) (.tmp 141) rfl (y) (rt) hy hrt (K.dep 0 139 rfl) (K.dep 2 141 rfl) _ (by simp [hyr])
      intro f29 w29 A hb
      replace bl0 := bl
      replace x2 := (A.old 2 rfl).trans x2
      replace x3 := (A.old 3 rfl).trans x3
      replace x4 := (A.old 4 rfl).trans x4
      replace x20 := (A.old 20 rfl).trans x20
      replace x5 := (A.old 5 rfl).trans x5
      replace x6 := (A.old 6 rfl).trans x6
      replace x42 := (A.old 42 rfl).trans x42
      replace x7 := (A.old 7 rfl).trans x7
      replace x86 := (A.old 86 rfl).trans x86
      replace x8 := (A.old 8 rfl).trans x8
      replace x9 := (A.old 9 rfl).trans x9
      replace x10 := (A.old 10 rfl).trans x10
      replace x100 := (A.old 100 rfl).trans x100
      replace x115 := (A.old 115 rfl).trans x115
      replace x11 := (A.old 11 rfl).trans x11
      have x142 : f29.eval (.tmp 142) = .bool true := A.has 3 142 rfl
      have lt_m8 := Ob.lt m8
      replace m8 := Ob.below m8 hb
      replace bl := (bl.trans (Below.mono hb bl.size))
      replace sz := A.size.trans sz
      replace df := A.defs.trans df
      clear A hb
      show Code.wp _ _ _ _ _
      refine wp_cond_true x142 ?_
      refine wp_all_seq [.eq (.int .i64 22)] (by kernel_rfl) (by kernel_rfl) (by rw [sz]; kernel_rfl) (by kernel_rfl) ⟨fun hw ac u K => ?_, trivial⟩ ?_
      · exact st_assign (.const (.int .i64 22)) rfl rfl
      intro f30 w30 A hb
      replace bl0 := bl
      replace x2 := (A.old 2 rfl).trans x2
      replace x3 := (A.old 3 rfl).trans x3
      replace x4 := (A.old 4 rfl).trans x4
      replace x20 := (A.old 20 rfl).trans x20
      replace x5 := (A.old 5 rfl).trans x5
      replace x6 := (A.old 6 rfl).trans x6
      replace x42 := (A.old 42 rfl).trans x42
      replace x7 := (A.old 7 rfl).trans x7
      replace x86 := (A.old 86 rfl).trans x86
      replace x8 := (A.old 8 rfl).trans x8
      replace x9 := (A.old 9 rfl).trans x9
      replace x10 := (A.old 10 rfl).trans x10
      replace x100 := (A.old 100 rfl).trans x100
      replace x115 := (A.old 115 rfl).trans x115
      clear x11
      replace x142 := (A.old 142 rfl).trans x142
      have x11 : f30.eval (.tmp 11) = .int .i64 22 := A.has 0 11 rfl
      have lt_m8 := Ob.lt m8
      replace m8 := Ob.below m8 hb
      replace bl := (bl.trans (Below.mono hb bl.size))
      replace sz := A.size.trans sz
      replace df := A.defs.trans df
      clear A hb
      show Code.wp _ _ _ _ _
      refine wp_seq ?_
      refine wp_all_seq [.eq (.int .i64 0), .eq (.bool true), .eq (.bool true), .eq (.agg ((y).map V).toArray), .eq (.agg ((y).map V).toArray), .eq (.bool true), .eq (.bool true), .eq (.bool true), .eq (.agg ((leaf).map V).toArray), .eq (.pointer (some ⟨g3, 0, none⟩)), .eq (.int .i64 ((i : Nat) : Int)), .eq (.pointer (some ⟨g3, 1, none⟩)), .eq (.int .i64 ((n : Nat) : Int)), .eq (.pointer (some ⟨g3, 2, none⟩)), .eq (.slice pA (P).length pC), .eq (.pointer (some ⟨g3, 3, none⟩)), .eq (.agg ((rt).map V).toArray), .eq (.int .i64 22), .eq (.int .i64 22), .eq (.bool true), .eq (.bool true), .eq (.bool true), .eq (.agg ((leaf).map V).toArray), .eq (.pointer (some ⟨g3, 0, none⟩)), .eq (.int .i64 ((i : Nat) : Int)), .eq (.pointer (some ⟨g3, 1, none⟩)), .eq (.int .i64 ((n : Nat) : Int)), .eq (.pointer (some ⟨g3, 2, none⟩)), .eq (.slice pA (P).length pC), .eq (.agg ((y).map V).toArray), .eq (.int .i64 0), .eq (.bool true), .eq (.bool true), .eq (.bool true), .eq (.bool true), .eq (.bool true), .eq (.bool true)] (by kernel_rfl) (by kernel_rfl) (by rw [sz]; kernel_rfl) (by kernel_rfl) ⟨fun hw ac u K => ?_, fun hw ac u K => ?_, fun hw ac u K => ?_, fun hw ac u K => ?_, fun hw ac u K => ?_, fun hw ac u K => ?_, fun hw ac u K => ?_, fun hw ac u K => ?_, fun hw ac u K => ?_, fun hw ac u K => ?_, fun hw ac u K => ?_, fun hw ac u K => ?_, fun hw ac u K => ?_, fun hw ac u K => ?_, fun hw ac u K => ?_, fun hw ac u K => ?_, fun hw ac u K => ?_, fun hw ac u K => ?_, fun hw ac u K => ?_, fun hw ac u K => ?_, fun hw ac u K => ?_, fun hw ac u K => ?_, fun hw ac u K => ?_, fun hw ac u K => ?_, fun hw ac u K => ?_, fun hw ac u K => ?_, fun hw ac u K => ?_, fun hw ac u K => ?_, fun hw ac u K => ?_, fun hw ac u K => ?_, fun hw ac u K => ?_, fun hw ac u K => ?_, fun hw ac u K => ?_, fun hw ac u K => ?_, fun hw ac u K => ?_, fun hw ac u K => ?_, fun hw ac u K => ?_, trivial⟩ ?_
      · exact st_move (.tmp 6) rfl ((K.old 6 rfl).trans x6)
      · exact st_eqi 28 (.tmp 143) (.const (.int .i64 0)) rfl .i64 (0) (0) (K.dep 0 143 rfl) rfl _ (by rfl)
      · exact st_move (.tmp 144) rfl (K.dep 1 144 rfl)
      · exact st_load23 (.tmp 5) rfl (g5) (y) ((K.old 5 rfl).trans x5) hy (Ob.below m5 (bl.trans (Below.mono K.grow bl.size)))
      · exact st_load23 (.tmp 8) rfl (g8) (y) ((K.old 8 rfl).trans x8) hy (Ob.below m8 K.grow)
      · exact st_eqh (.tmp 146) (.tmp 147) rfl (y) (y) hy hy (K.dep 3 146 rfl) (K.dep 4 147 rfl) _ (by simp)
      · exact st_pick_t (.tmp 145) (.tmp 148) (.const (.bool false)) rfl (K.dep 2 145 rfl) (K.dep 5 148 rfl)
      · exact st_move (.tmp 149) rfl (K.dep 6 149 rfl)
      · exact st_load23 (.tmp 2) rfl (g2) (leaf) ((K.old 2 rfl).trans x2) hlf (Ob.below m2 (bl.trans (Below.mono K.grow bl.size)))
      · exact st_field 26 0 (.tmp 3) rfl ((K.old 3 rfl).trans x3) (by kernel_rfl)
      · exact st_loadc 3 (.tmp 152) rfl (by kernel_rfl) (K.dep 9 152 rfl) (ob_cell_at (Ob.below m3 (bl.trans (Below.mono K.grow bl.size))) (([] : List Value)) (([.int .i64 ((n : Nat) : Int), .slice pA (P).length pC] : List Value) ++ ((rt).map V)) _ 0 (by simp) (by rfl))
      · exact st_field 26 1 (.tmp 3) rfl ((K.old 3 rfl).trans x3) (by kernel_rfl)
      · exact st_loadc 3 (.tmp 154) rfl (by kernel_rfl) (K.dep 11 154 rfl) (ob_cell_at (Ob.below m3 (bl.trans (Below.mono K.grow bl.size))) (([.int .i64 ((i : Nat) : Int)] : List Value)) (([.slice pA (P).length pC] : List Value) ++ ((rt).map V)) _ 1 (by simp) (by rfl))
      · exact st_field 26 2 (.tmp 3) rfl ((K.old 3 rfl).trans x3) (by kernel_rfl)
      · exact st_loadc 24 (.tmp 156) rfl (by kernel_rfl) (K.dep 13 156 rfl) (ob_cell_at (Ob.below m3 (bl.trans (Below.mono K.grow bl.size))) (([.int .i64 ((i : Nat) : Int), .int .i64 ((n : Nat) : Int)] : List Value)) ((rt).map V) _ 2 (by simp) (by rfl))
      · exact st_field 26 3 (.tmp 3) rfl ((K.old 3 rfl).trans x3) (by kernel_rfl)
      · exact st_loadz 23 (.tmp 158) rfl (g3) 3 ((rt).map V) (by kernel_rfl) (by rw [List.length_map, hrt]; kernel_rfl) (K.dep 15 158 rfl) (ob_range_at (Ob.below m3 (bl.trans (Below.mono K.grow bl.size))) (([.int .i64 ((i : Nat) : Int), .int .i64 ((n : Nat) : Int), .slice pA (P).length pC] : List Value)) (([] : List Value)) _ 3 (by simp) (by rfl))
      · exact st_call 11 (.func 11) _ _ #[.agg ((leaf).map V).toArray, .int .i64 ((i : Nat) : Int), .int .i64 ((n : Nat) : Int), .slice pA (P).length pC, .agg ((rt).map V).toArray] rfl rfl (arg5 (K.dep 8 151 rfl) (K.dep 10 153 rfl) (K.dep 12 155 rfl) (K.dep 14 157 rfl) (K.dep 16 159 rfl)) Tryd.enter11 (fk_in_any hlf hrt hi hn (Fk.mono _ _ _ _ hv (bl.trans (Below.mono K.grow bl.size))) (by omega) (hK.below (bl.trans (Below.mono K.grow bl.size))) 22 (by rw [if_neg (fun h => hyr (ey.out.symm.trans h.2))]))
      · exact st_move (.tmp 11) rfl ((K.old 11 rfl).trans x11)
      · exact st_eqi 28 (.tmp 160) (.tmp 161) rfl .i64 (22) (22) (K.dep 17 160 rfl) (K.dep 18 161 rfl) _ (by rfl)
      · exact st_pick_t (.tmp 150) (.tmp 162) (.const (.bool false)) rfl (K.dep 7 150 rfl) (K.dep 19 162 rfl)
      · exact st_move (.tmp 163) rfl (K.dep 20 163 rfl)
      · exact st_load23 (.tmp 2) rfl (g2) (leaf) ((K.old 2 rfl).trans x2) hlf (Ob.below m2 (bl.trans (Below.mono K.grow bl.size)))
      · exact st_field 26 0 (.tmp 3) rfl ((K.old 3 rfl).trans x3) (by kernel_rfl)
      · exact st_loadc 3 (.tmp 166) rfl (by kernel_rfl) (K.dep 23 166 rfl) (ob_cell_at (Ob.below m3 (bl.trans (Below.mono K.grow bl.size))) (([] : List Value)) (([.int .i64 ((n : Nat) : Int), .slice pA (P).length pC] : List Value) ++ ((rt).map V)) _ 0 (by simp) (by rfl))
      · exact st_field 26 1 (.tmp 3) rfl ((K.old 3 rfl).trans x3) (by kernel_rfl)
      · exact st_loadc 3 (.tmp 168) rfl (by kernel_rfl) (K.dep 25 168 rfl) (ob_cell_at (Ob.below m3 (bl.trans (Below.mono K.grow bl.size))) (([.int .i64 ((i : Nat) : Int)] : List Value)) (([.slice pA (P).length pC] : List Value) ++ ((rt).map V)) _ 1 (by simp) (by rfl))
      · exact st_field 26 2 (.tmp 3) rfl ((K.old 3 rfl).trans x3) (by kernel_rfl)
      · exact st_loadc 24 (.tmp 170) rfl (by kernel_rfl) (K.dep 27 170 rfl) (ob_cell_at (Ob.below m3 (bl.trans (Below.mono K.grow bl.size))) (([.int .i64 ((i : Nat) : Int), .int .i64 ((n : Nat) : Int)] : List Value)) ((rt).map V) _ 2 (by simp) (by rfl))
      · exact st_load23 (.tmp 8) rfl (g8) (y) ((K.old 8 rfl).trans x8) hy (Ob.below m8 K.grow)
      · exact st_call 11 (.func 11) _ _ #[.agg ((leaf).map V).toArray, .int .i64 ((i : Nat) : Int), .int .i64 ((n : Nat) : Int), .slice pA (P).length pC, .agg ((y).map V).toArray] rfl rfl (arg5 (K.dep 22 165 rfl) (K.dep 24 167 rfl) (K.dep 26 169 rfl) (K.dep 28 171 rfl) (K.dep 29 172 rfl)) Tryd.enter11 (fk_in_any hlf hy hi hn (Fk.mono _ _ _ _ hv (bl.trans (Below.mono K.grow bl.size))) (by omega) (hK.below (bl.trans (Below.mono K.grow bl.size))) 0 (by rw [if_pos ⟨hPS0, ey.out⟩]))
      · exact st_eqi 28 (.tmp 173) (.const (.int .i64 0)) rfl .i64 (0) (0) (K.dep 30 173 rfl) rfl _ (by rfl)
      · exact st_pick_t (.tmp 164) (.tmp 174) (.const (.bool false)) rfl (K.dep 21 164 rfl) (K.dep 31 174 rfl)
      · exact st_move (.tmp 175) rfl (K.dep 32 175 rfl)
      · exact st_call 8 (.func 8) _ _ #[] rfl rfl rfl Tryd.enter8 (fk_of (awake_any _ (hK.below (bl.trans (Below.mono K.grow bl.size)))))
      · exact st_pick_t (.tmp 176) (.tmp 177) (.const (.bool false)) rfl (K.dep 33 176 rfl) (K.dep 34 177 rfl)
      · exact st_assign (.tmp 178) rfl (K.dep 35 178 rfl)
      intro f31 w31 A hb
      replace bl0 := bl
      replace x2 := (A.old 2 rfl).trans x2
      replace x3 := (A.old 3 rfl).trans x3
      clear x4
      replace x20 := (A.old 20 rfl).trans x20
      replace x5 := (A.old 5 rfl).trans x5
      replace x6 := (A.old 6 rfl).trans x6
      replace x42 := (A.old 42 rfl).trans x42
      replace x7 := (A.old 7 rfl).trans x7
      replace x86 := (A.old 86 rfl).trans x86
      replace x8 := (A.old 8 rfl).trans x8
      replace x9 := (A.old 9 rfl).trans x9
      replace x10 := (A.old 10 rfl).trans x10
      replace x100 := (A.old 100 rfl).trans x100
      replace x115 := (A.old 115 rfl).trans x115
      replace x142 := (A.old 142 rfl).trans x142
      replace x11 := (A.old 11 rfl).trans x11
      have x4 : f31.eval (.tmp 4) = .bool true := A.has 36 4 rfl
      have lt_m8 := Ob.lt m8
      replace m8 := Ob.below m8 hb
      replace bl := (bl.trans (Below.mono hb bl.size))
      replace sz := A.size.trans sz
      replace df := A.defs.trans df
      clear A hb
      clear x11
      show Code.wp _ _ _ _ _
      refine wp_ret ?_
      repeat (first | with_reducible refine then_ret ?_ | with_reducible refine block_ret ?_)
      exact bodyPost_ret (v := .bool true) (ret_slot rfl f31 _ x4 _ _) df ⟨rfl, (blw.trans (Below.mono bl blw.size))⟩
    refine wp_all_seq [.eq (.agg ((y).map V).toArray), .eq (.pointer (some ⟨g3, 3, none⟩)), .eq (.agg ((rt).map V).toArray), .eq (.bool false)] (by kernel_rfl) (by kernel_rfl) (by rw [sz]; kernel_rfl) (by kernel_rfl) ⟨fun hw ac u K => ?_, fun hw ac u K => ?_, fun hw ac u K => ?_, fun hw ac u K => ?_, trivial⟩ ?_
    · exact st_load23 (.tmp 8) rfl (g8) (y) ((K.old 8 rfl).trans x8) hy (Ob.below m8 K.grow)
    · exact st_field 26 3 (.tmp 3) rfl ((K.old 3 rfl).trans x3) (by kernel_rfl)
    · exact st_loadz 23 (.tmp 140) rfl (g3) 3 ((rt).map V) (by kernel_rfl) (by rw [List.length_map, hrt]; kernel_rfl) (K.dep 1 140 rfl) (ob_range_at (Ob.below m3 (bl.trans (Below.mono K.grow bl.size))) (([.int .i64 ((i : Nat) : Int), .int .i64 ((n : Nat) : Int), .slice pA (P).length pC] : List Value)) (([] : List Value)) _ 3 (by simp) (by rfl))
    · exact st_neqh (.tmp 139) (.tmp 141) rfl (y) (rt) hy hrt (K.dep 0 139 rfl) (K.dep 2 141 rfl) _ (by simp [hyr])
    intro f29 w29 A hb
    replace bl0 := bl
    replace x2 := (A.old 2 rfl).trans x2
    replace x3 := (A.old 3 rfl).trans x3
    replace x4 := (A.old 4 rfl).trans x4
    replace x20 := (A.old 20 rfl).trans x20
    replace x5 := (A.old 5 rfl).trans x5
    replace x6 := (A.old 6 rfl).trans x6
    replace x42 := (A.old 42 rfl).trans x42
    replace x7 := (A.old 7 rfl).trans x7
    replace x86 := (A.old 86 rfl).trans x86
    replace x8 := (A.old 8 rfl).trans x8
    replace x9 := (A.old 9 rfl).trans x9
    replace x10 := (A.old 10 rfl).trans x10
    replace x100 := (A.old 100 rfl).trans x100
    replace x115 := (A.old 115 rfl).trans x115
    replace x11 := (A.old 11 rfl).trans x11
    have x142 : f29.eval (.tmp 142) = .bool false := A.has 3 142 rfl
    have lt_m8 := Ob.lt m8
    replace m8 := Ob.below m8 hb
    replace bl := (bl.trans (Below.mono hb bl.size))
    replace sz := A.size.trans sz
    replace df := A.defs.trans df
    clear A hb
    show Code.wp _ _ _ _ _
    refine wp_cond_false x142 ?_
    refine wp_skip ?_
    show Code.wp _ _ _ _ _
    refine wp_seq ?_
    refine wp_all_seq [.eq (.int .i64 0), .eq (.bool true), .eq (.bool true), .eq (.agg ((y).map V).toArray), .eq (.agg ((y).map V).toArray), .eq (.bool true), .eq (.bool true), .eq (.bool true), .eq (.agg ((leaf).map V).toArray), .eq (.pointer (some ⟨g3, 0, none⟩)), .eq (.int .i64 ((i : Nat) : Int)), .eq (.pointer (some ⟨g3, 1, none⟩)), .eq (.int .i64 ((n : Nat) : Int)), .eq (.pointer (some ⟨g3, 2, none⟩)), .eq (.slice pA (P).length pC), .eq (.pointer (some ⟨g3, 3, none⟩)), .eq (.agg ((rt).map V).toArray), .eq (.int .i64 0), .eq (.int .i64 0), .eq (.bool true), .eq (.bool true), .eq (.bool true), .eq (.agg ((leaf).map V).toArray), .eq (.pointer (some ⟨g3, 0, none⟩)), .eq (.int .i64 ((i : Nat) : Int)), .eq (.pointer (some ⟨g3, 1, none⟩)), .eq (.int .i64 ((n : Nat) : Int)), .eq (.pointer (some ⟨g3, 2, none⟩)), .eq (.slice pA (P).length pC), .eq (.agg ((y).map V).toArray), .eq (.int .i64 0), .eq (.bool true), .eq (.bool true), .eq (.bool true), .eq (.bool true), .eq (.bool true), .eq (.bool true)] (by kernel_rfl) (by kernel_rfl) (by rw [sz]; kernel_rfl) (by kernel_rfl) ⟨fun hw ac u K => ?_, fun hw ac u K => ?_, fun hw ac u K => ?_, fun hw ac u K => ?_, fun hw ac u K => ?_, fun hw ac u K => ?_, fun hw ac u K => ?_, fun hw ac u K => ?_, fun hw ac u K => ?_, fun hw ac u K => ?_, fun hw ac u K => ?_, fun hw ac u K => ?_, fun hw ac u K => ?_, fun hw ac u K => ?_, fun hw ac u K => ?_, fun hw ac u K => ?_, fun hw ac u K => ?_, fun hw ac u K => ?_, fun hw ac u K => ?_, fun hw ac u K => ?_, fun hw ac u K => ?_, fun hw ac u K => ?_, fun hw ac u K => ?_, fun hw ac u K => ?_, fun hw ac u K => ?_, fun hw ac u K => ?_, fun hw ac u K => ?_, fun hw ac u K => ?_, fun hw ac u K => ?_, fun hw ac u K => ?_, fun hw ac u K => ?_, fun hw ac u K => ?_, fun hw ac u K => ?_, fun hw ac u K => ?_, fun hw ac u K => ?_, fun hw ac u K => ?_, fun hw ac u K => ?_, trivial⟩ ?_
    · exact st_move (.tmp 6) rfl ((K.old 6 rfl).trans x6)
    · exact st_eqi 28 (.tmp 143) (.const (.int .i64 0)) rfl .i64 (0) (0) (K.dep 0 143 rfl) rfl _ (by rfl)
    · exact st_move (.tmp 144) rfl (K.dep 1 144 rfl)
    · exact st_load23 (.tmp 5) rfl (g5) (y) ((K.old 5 rfl).trans x5) hy (Ob.below m5 (bl.trans (Below.mono K.grow bl.size)))
    · exact st_load23 (.tmp 8) rfl (g8) (y) ((K.old 8 rfl).trans x8) hy (Ob.below m8 K.grow)
    · exact st_eqh (.tmp 146) (.tmp 147) rfl (y) (y) hy hy (K.dep 3 146 rfl) (K.dep 4 147 rfl) _ (by simp)
    · exact st_pick_t (.tmp 145) (.tmp 148) (.const (.bool false)) rfl (K.dep 2 145 rfl) (K.dep 5 148 rfl)
    · exact st_move (.tmp 149) rfl (K.dep 6 149 rfl)
    · exact st_load23 (.tmp 2) rfl (g2) (leaf) ((K.old 2 rfl).trans x2) hlf (Ob.below m2 (bl.trans (Below.mono K.grow bl.size)))
    · exact st_field 26 0 (.tmp 3) rfl ((K.old 3 rfl).trans x3) (by kernel_rfl)
    · exact st_loadc 3 (.tmp 152) rfl (by kernel_rfl) (K.dep 9 152 rfl) (ob_cell_at (Ob.below m3 (bl.trans (Below.mono K.grow bl.size))) (([] : List Value)) (([.int .i64 ((n : Nat) : Int), .slice pA (P).length pC] : List Value) ++ ((rt).map V)) _ 0 (by simp) (by rfl))
    · exact st_field 26 1 (.tmp 3) rfl ((K.old 3 rfl).trans x3) (by kernel_rfl)
    · exact st_loadc 3 (.tmp 154) rfl (by kernel_rfl) (K.dep 11 154 rfl) (ob_cell_at (Ob.below m3 (bl.trans (Below.mono K.grow bl.size))) (([.int .i64 ((i : Nat) : Int)] : List Value)) (([.slice pA (P).length pC] : List Value) ++ ((rt).map V)) _ 1 (by simp) (by rfl))
    · exact st_field 26 2 (.tmp 3) rfl ((K.old 3 rfl).trans x3) (by kernel_rfl)
    · exact st_loadc 24 (.tmp 156) rfl (by kernel_rfl) (K.dep 13 156 rfl) (ob_cell_at (Ob.below m3 (bl.trans (Below.mono K.grow bl.size))) (([.int .i64 ((i : Nat) : Int), .int .i64 ((n : Nat) : Int)] : List Value)) ((rt).map V) _ 2 (by simp) (by rfl))
    · exact st_field 26 3 (.tmp 3) rfl ((K.old 3 rfl).trans x3) (by kernel_rfl)
    · exact st_loadz 23 (.tmp 158) rfl (g3) 3 ((rt).map V) (by kernel_rfl) (by rw [List.length_map, hrt]; kernel_rfl) (K.dep 15 158 rfl) (ob_range_at (Ob.below m3 (bl.trans (Below.mono K.grow bl.size))) (([.int .i64 ((i : Nat) : Int), .int .i64 ((n : Nat) : Int), .slice pA (P).length pC] : List Value)) (([] : List Value)) _ 3 (by simp) (by rfl))
    · exact st_call 11 (.func 11) _ _ #[.agg ((leaf).map V).toArray, .int .i64 ((i : Nat) : Int), .int .i64 ((n : Nat) : Int), .slice pA (P).length pC, .agg ((rt).map V).toArray] rfl rfl (arg5 (K.dep 8 151 rfl) (K.dep 10 153 rfl) (K.dep 12 155 rfl) (K.dep 14 157 rfl) (K.dep 16 159 rfl)) Tryd.enter11 (fk_in_any hlf hrt hi hn (Fk.mono _ _ _ _ hv (bl.trans (Below.mono K.grow bl.size))) (by omega) (hK.below (bl.trans (Below.mono K.grow bl.size))) 0 (by rw [if_pos ⟨hPS0, by rw [ey.out, hyr]⟩]))
    · exact st_move (.tmp 11) rfl ((K.old 11 rfl).trans x11)
    · exact st_eqi 28 (.tmp 160) (.tmp 161) rfl .i64 (0) (0) (K.dep 17 160 rfl) (K.dep 18 161 rfl) _ (by rfl)
    · exact st_pick_t (.tmp 150) (.tmp 162) (.const (.bool false)) rfl (K.dep 7 150 rfl) (K.dep 19 162 rfl)
    · exact st_move (.tmp 163) rfl (K.dep 20 163 rfl)
    · exact st_load23 (.tmp 2) rfl (g2) (leaf) ((K.old 2 rfl).trans x2) hlf (Ob.below m2 (bl.trans (Below.mono K.grow bl.size)))
    · exact st_field 26 0 (.tmp 3) rfl ((K.old 3 rfl).trans x3) (by kernel_rfl)
    · exact st_loadc 3 (.tmp 166) rfl (by kernel_rfl) (K.dep 23 166 rfl) (ob_cell_at (Ob.below m3 (bl.trans (Below.mono K.grow bl.size))) (([] : List Value)) (([.int .i64 ((n : Nat) : Int), .slice pA (P).length pC] : List Value) ++ ((rt).map V)) _ 0 (by simp) (by rfl))
    · exact st_field 26 1 (.tmp 3) rfl ((K.old 3 rfl).trans x3) (by kernel_rfl)
    · exact st_loadc 3 (.tmp 168) rfl (by kernel_rfl) (K.dep 25 168 rfl) (ob_cell_at (Ob.below m3 (bl.trans (Below.mono K.grow bl.size))) (([.int .i64 ((i : Nat) : Int)] : List Value)) (([.slice pA (P).length pC] : List Value) ++ ((rt).map V)) _ 1 (by simp) (by rfl))
    · exact st_field 26 2 (.tmp 3) rfl ((K.old 3 rfl).trans x3) (by kernel_rfl)
    · exact st_loadc 24 (.tmp 170) rfl (by kernel_rfl) (K.dep 27 170 rfl) (ob_cell_at (Ob.below m3 (bl.trans (Below.mono K.grow bl.size))) (([.int .i64 ((i : Nat) : Int), .int .i64 ((n : Nat) : Int)] : List Value)) ((rt).map V) _ 2 (by simp) (by rfl))
    · exact st_load23 (.tmp 8) rfl (g8) (y) ((K.old 8 rfl).trans x8) hy (Ob.below m8 K.grow)
    · exact st_call 11 (.func 11) _ _ #[.agg ((leaf).map V).toArray, .int .i64 ((i : Nat) : Int), .int .i64 ((n : Nat) : Int), .slice pA (P).length pC, .agg ((y).map V).toArray] rfl rfl (arg5 (K.dep 22 165 rfl) (K.dep 24 167 rfl) (K.dep 26 169 rfl) (K.dep 28 171 rfl) (K.dep 29 172 rfl)) Tryd.enter11 (fk_in_any hlf hy hi hn (Fk.mono _ _ _ _ hv (bl.trans (Below.mono K.grow bl.size))) (by omega) (hK.below (bl.trans (Below.mono K.grow bl.size))) 0 (by rw [if_pos ⟨hPS0, ey.out⟩]))
    · exact st_eqi 28 (.tmp 173) (.const (.int .i64 0)) rfl .i64 (0) (0) (K.dep 30 173 rfl) rfl _ (by rfl)
    · exact st_pick_t (.tmp 164) (.tmp 174) (.const (.bool false)) rfl (K.dep 21 164 rfl) (K.dep 31 174 rfl)
    · exact st_move (.tmp 175) rfl (K.dep 32 175 rfl)
    · exact st_call 8 (.func 8) _ _ #[] rfl rfl rfl Tryd.enter8 (fk_of (awake_any _ (hK.below (bl.trans (Below.mono K.grow bl.size)))))
    · exact st_pick_t (.tmp 176) (.tmp 177) (.const (.bool false)) rfl (K.dep 33 176 rfl) (K.dep 34 177 rfl)
    · exact st_assign (.tmp 178) rfl (K.dep 35 178 rfl)
    intro f30 w30 A hb
    replace bl0 := bl
    replace x2 := (A.old 2 rfl).trans x2
    replace x3 := (A.old 3 rfl).trans x3
    clear x4
    replace x20 := (A.old 20 rfl).trans x20
    replace x5 := (A.old 5 rfl).trans x5
    replace x6 := (A.old 6 rfl).trans x6
    replace x42 := (A.old 42 rfl).trans x42
    replace x7 := (A.old 7 rfl).trans x7
    replace x86 := (A.old 86 rfl).trans x86
    replace x8 := (A.old 8 rfl).trans x8
    replace x9 := (A.old 9 rfl).trans x9
    replace x10 := (A.old 10 rfl).trans x10
    replace x100 := (A.old 100 rfl).trans x100
    replace x115 := (A.old 115 rfl).trans x115
    replace x11 := (A.old 11 rfl).trans x11
    replace x142 := (A.old 142 rfl).trans x142
    have x4 : f30.eval (.tmp 4) = .bool true := A.has 36 4 rfl
    have lt_m8 := Ob.lt m8
    replace m8 := Ob.below m8 hb
    replace bl := (bl.trans (Below.mono hb bl.size))
    replace sz := A.size.trans sz
    replace df := A.defs.trans df
    clear A hb
    clear x11
    show Code.wp _ _ _ _ _
    refine wp_ret ?_
    repeat (first | with_reducible refine then_ret ?_ | with_reducible refine block_ret ?_)
    exact bodyPost_ret (v := .bool true) (ret_slot rfl f30 _ x4 _ _) df ⟨rfl, (blw.trans (Below.mono bl blw.size))⟩
  obtain ⟨bb, hSk⟩ : ∃ b, S[k]? = some b := ⟨_, List.getElem?_eq_getElem hlt⟩
  obtain ⟨p, hPk⟩ : ∃ p, P[k]? = some p := ⟨_, List.getElem?_eq_getElem (by omega)⟩
  have hp : p.length = 32 := hs_len hvs hPk
  obtain ⟨y2, ey2⟩ : ∃ y, Box (jon (lek leaf P S k) (p, bb) = y) := ⟨_, ⟨rfl⟩⟩
  have hy2 : y2.length = 32 := by rw [← ey2.out]; exact jon_len _ _
  have hlk : lek leaf P S (k + 1) = y2 := by rw [lek_succ leaf hPk hSk]; exact ey2.out
  refine wp_all_seq [.eq (.bool true), .eq (.bool true), .eq (.int .i64 ((k : Nat) : Int)), .eq (.slice bA (S).length bC), .eq (.int .i64 (((S).length : Nat) : Int)), .eq (.bool true), .eq (.bool true)] (by kernel_rfl) (by kernel_rfl) (by rw [sz]; kernel_rfl) (by kernel_rfl) ⟨fun hw ac u K => ?_, fun hw ac u K => ?_, fun hw ac u K => ?_, fun hw ac u K => ?_, fun hw ac u K => ?_, fun hw ac u K => ?_, fun hw ac u K => ?_, trivial⟩ ?_
  · exact st_move (.tmp 9) rfl ((K.old 9 rfl).trans x9)
  · exact st_move (.tmp 94) rfl (K.dep 0 94 rfl)
  · exact st_move (.tmp 10) rfl ((K.old 10 rfl).trans x10)
  · exact st_move (.tmp 7) rfl ((K.old 7 rfl).trans x7)
  · exact st_lenbs (.tmp 97) rfl (fk_val (K.dep 3 97 rfl) (Fk.mono _ _ _ _ h7 (bl.trans (Below.mono K.grow bl.size))))
  · exact st_lss 3 (.tmp 96) (.tmp 98) rfl .i64 (((k : Nat) : Int)) ((((S).length : Nat) : Int)) (K.dep 2 96 rfl) (K.dep 4 98 rfl) _ (by rw [eq_comm, decide_eq_true_iff]; exact Int.ofNat_lt.2 hlt)
  · exact st_pick_t (.tmp 95) (.tmp 99) (.const (.bool false)) rfl (K.dep 1 95 rfl) (K.dep 5 99 rfl)
  intro f26 w26 A hb
  replace bl0 := bl
  replace x2 := (A.old 2 rfl).trans x2
  replace x3 := (A.old 3 rfl).trans x3
  replace x4 := (A.old 4 rfl).trans x4
  replace x20 := (A.old 20 rfl).trans x20
  replace x5 := (A.old 5 rfl).trans x5
  replace x6 := (A.old 6 rfl).trans x6
  replace x42 := (A.old 42 rfl).trans x42
  replace x7 := (A.old 7 rfl).trans x7
  replace x86 := (A.old 86 rfl).trans x86
  replace x8 := (A.old 8 rfl).trans x8
  replace x9 := (A.old 9 rfl).trans x9
  replace x10 := (A.old 10 rfl).trans x10
  have x100 : f26.eval (.tmp 100) = .bool true := A.has 6 100 rfl
  have lt_m8 := Ob.lt m8
  replace m8 := Ob.below m8 hb
  replace bl := (bl.trans (Below.mono hb bl.size))
  replace sz := A.size.trans sz
  replace df := A.defs.trans df
  clear A hb
  show Code.wp _ _ _ _ _
  refine wp_cond_true x100 ?_
  refine wp_skip ?_
  show Code.wp _ _ _ _ _
  refine wp_seq ?_
  refine wp_block ?_
  refine wp_region_tail [.eq (.agg ((lek leaf P S k).map V).toArray), .eq (.pointer (some ⟨g3, 2, none⟩)), .eq (.slice pA (P).length pC), .eq (.int .i64 ((k : Nat) : Int)), .ph (p), .eq (.agg ((p).map V).toArray), .eq (.slice bA (S).length bC), .eq (.int .i64 ((k : Nat) : Int)), .prg [.bool bb], .eq (.bool bb), .eq (.agg ((y2).map V).toArray)] [11] Tryd.mixed (by kernel_rfl) (by kernel_rfl) (by kernel_rfl) (by kernel_rfl) (by rw [sz]; kernel_rfl) (by kernel_rfl) ⟨fun hw ac u K => ?_, fun hw ac u K => ?_, fun hw ac u K => ?_, fun hw ac u K => ?_, fun hw ac u K => ?_, fun hw ac u K => ?_, fun hw ac u K => ?_, fun hw ac u K => ?_, fun hw ac u K => ?_, fun hw ac u K => ?_, fun hw ac u K => ?_, trivial⟩ ?_
  · exact st_load23 (.tmp 8) rfl (g8) (lek leaf P S k) ((K.old 8 rfl).trans x8) (lek_len hlf hPS k hk) (Ob.below m8 K.grow)
  · exact st_field 26 2 (.tmp 3) rfl ((K.old 3 rfl).trans x3) (by kernel_rfl)
  · exact st_loadc 24 (.tmp 104) rfl (by kernel_rfl) (K.dep 1 104 rfl) (ob_cell_at (Ob.below m3 (bl.trans (Below.mono K.grow bl.size))) (([.int .i64 ((i : Nat) : Int), .int .i64 ((n : Nat) : Int)] : List Value)) ((rt).map V) _ 2 (by simp) (by rfl))
  · exact st_move (.tmp 10) rfl ((K.old 10 rfl).trans x10)
  · exact st_idxh (.tmp 105) (.tmp 106) rfl (fk_val (K.dep 2 105 rfl) (Fk.mono _ _ _ _ hvs (bl.trans (Below.mono K.grow bl.size)))) (k) (p) (K.dep 3 106 rfl) hPk
  · exact st_loadh (.tmp 107) rfl (K.dep 4 107 rfl)
  · exact st_move (.tmp 7) rfl ((K.old 7 rfl).trans x7)
  · exact st_move (.tmp 10) rfl ((K.old 10 rfl).trans x10)
  · exact st_idxbs (.tmp 109) (.tmp 110) rfl (fk_val (K.dep 6 109 rfl) (Fk.mono _ _ _ _ h7 (bl.trans (Below.mono K.grow bl.size)))) k (K.dep 7 110 rfl) bb hSk
  · exact st_loadr1 4 (.tmp 111) rfl (by kernel_rfl) (K.dep 8 111 rfl)
  · exact st_call 13 (.func 13) _ _ #[.agg ((lek leaf P S k).map V).toArray, .agg ((p).map V).toArray, .bool bb] rfl rfl (arg3 (K.dep 0 103 rfl) (K.dep 5 108 rfl) (K.dep 9 112 rfl)) Tryd.enter13 (fk_of (join_any (lek_len hlf hPS k hk) hp bb _ (hK.below (bl.trans (Below.mono K.grow bl.size))) ey2))
  intro f27 w27 A hb
  replace bl0 := bl
  replace x2 := (A.old 2 rfl).trans x2
  replace x3 := (A.old 3 rfl).trans x3
  replace x4 := (A.old 4 rfl).trans x4
  replace x20 := (A.old 20 rfl).trans x20
  replace x5 := (A.old 5 rfl).trans x5
  replace x6 := (A.old 6 rfl).trans x6
  replace x42 := (A.old 42 rfl).trans x42
  replace x7 := (A.old 7 rfl).trans x7
  replace x86 := (A.old 86 rfl).trans x86
  replace x8 := (A.old 8 rfl).trans x8
  replace x9 := (A.old 9 rfl).trans x9
  replace x10 := (A.old 10 rfl).trans x10
  replace x100 := (A.old 100 rfl).trans x100
  have x113 : f27.eval (.tmp 113) = .agg ((y2).map V).toArray := A.has 10 113 rfl
  have lt_m8 := Ob.lt m8
  replace m8 := Ob.below m8 hb
  replace bl := (bl.trans (Below.mono hb bl.size))
  replace sz := A.size.trans sz
  replace df := A.defs.trans df
  clear A hb
  refine wl_store rfl (.tmp 8) (.tmp 113) rfl rfl (g8) (y2) (lek leaf P S k) x8 x113 m8 (lek_len hlf hPS k hk) hy2 ?_
  replace m8 : Ob (w27.setRow g8 ((y2).map V : List Value).toArray) (g8) 23 ((y2).map V) := Ob.setRow m8 ((y2).map V)
  replace bl : Below w12.heap.size w12 (w27.setRow g8 ((y2).map V : List Value).toArray) := bl.trans (below_setRow _ _ _ _ hw8)
  generalize w27.setRow g8 ((y2).map V : List Value).toArray = w28b at bl m8 ⊢
  refine wpList_nil ?_
  clear x113
  show Code.wp _ _ _ _ _
  refine wp_region_seq [.eq (.int .i64 ((k : Nat) : Int)), .eq (.int .i64 ((k + 1 : Nat) : Int))] (by kernel_rfl) (by kernel_rfl) (by rw [sz]; kernel_rfl) (by kernel_rfl) ⟨fun hw ac u K => ?_, fun hw ac u K => ?_, trivial⟩ ?_
  · exact st_move (.tmp 10) rfl ((K.old 10 rfl).trans x10)
  · exact st_add (.tmp 101) (.const (.int .i64 1)) rfl (k) (1) (k + 1) (K.dep 0 101 rfl) rfl (by omega) (by omega)
  intro f29 w29 A hb
  replace bl0 := bl
  replace x2 := (A.old 2 rfl).trans x2
  replace x3 := (A.old 3 rfl).trans x3
  replace x4 := (A.old 4 rfl).trans x4
  replace x20 := (A.old 20 rfl).trans x20
  replace x5 := (A.old 5 rfl).trans x5
  replace x6 := (A.old 6 rfl).trans x6
  replace x42 := (A.old 42 rfl).trans x42
  replace x7 := (A.old 7 rfl).trans x7
  replace x86 := (A.old 86 rfl).trans x86
  replace x8 := (A.old 8 rfl).trans x8
  replace x9 := (A.old 9 rfl).trans x9
  replace x10 := (A.old 10 rfl).trans x10
  replace x100 := (A.old 100 rfl).trans x100
  have x102 : f29.eval (.tmp 102) = .int .i64 ((k + 1 : Nat) : Int) := A.has 1 102 rfl
  have lt_m8 := Ob.lt m8
  replace m8 := Ob.below m8 hb
  replace bl := (bl.trans (Below.mono hb bl.size))
  replace sz := A.size.trans sz
  replace df := A.defs.trans df
  clear A hb
  refine wl_one (.eq (.int .i64 ((k + 1 : Nat) : Int))) rfl 10 rfl (by rw [sz]; decide) (st_assign (.tmp 102) rfl x102) ?_
  intro f30 w30 df2 sz2 old2 new2 hb
  replace bl0 := bl
  replace x2 := (old2 2 rfl).trans x2
  replace x3 := (old2 3 rfl).trans x3
  replace x4 := (old2 4 rfl).trans x4
  replace x20 := (old2 20 rfl).trans x20
  replace x5 := (old2 5 rfl).trans x5
  replace x6 := (old2 6 rfl).trans x6
  replace x42 := (old2 42 rfl).trans x42
  replace x7 := (old2 7 rfl).trans x7
  replace x86 := (old2 86 rfl).trans x86
  replace x8 := (old2 8 rfl).trans x8
  replace x9 := (old2 9 rfl).trans x9
  clear x10
  replace x100 := (old2 100 rfl).trans x100
  replace x102 := (old2 102 rfl).trans x102
  have x10 : f30.eval (.tmp 10) = .int .i64 ((k + 1 : Nat) : Int) := new2
  have lt_m8 := Ob.lt m8
  replace m8 := Ob.below m8 hb
  replace bl := (bl.trans (Below.mono hb bl.size))
  replace sz := sz2.trans sz
  replace df := df2.trans df
  clear df2 sz2 old2 new2 hb
  refine wpList_nil ?_
  clear x102
  show (∃ _, _) ∧ _
  refine ⟨⟨k + 1, by omega, sz, df, x2, x3, x4, x20, x5, x6, x42, x7, x86, x8, x9, x10, (by rw [hlk]; exact m8), bl⟩, ?_⟩
  rw [show f30.eval (.tmp 10) = _ from x10, show _ = _ from hcnt]
  simp [intOf]
  omega
end Go.Proofs.YthhnlemldpgbeaaDoor
