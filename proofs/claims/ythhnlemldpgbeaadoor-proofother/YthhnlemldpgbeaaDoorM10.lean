/- ProofOther. -/
import Derived.Test.YthhnlemldpgbeaaDoorM8
import Derived.Test.YthhnlemldpgbeaaDoorM9
import Derived.Test.YthhnlemldpgbeaaDoorM7
namespace Go.Proofs.YthhnlemldpgbeaaDoor
set_option maxRecDepth 100000
open Go.RowKit
theorem wp_join {P : Program} {c : Code} {F K : Act → World → Prop} {Q : Exit → Act → World → Prop} {a : Act} {w : World} (h : Code.wp P c (Exit.then F Q) a w) (hk : ∀ f v, F f v → K f v) : Code.wp P c (Exit.then K Q) a w :=
  Code.wp_mono (fun e f v h => by cases e <;> first | exact hk f v h | exact h) h
theorem range_below {w w' : World} {b o : Nat} {cs : List Value} (h : w.rangeAt b o cs) (hb : Below w.heap.size w w') : w'.rangeAt b o cs := fun j u hj => by
  have := h j u hj
  rw [hb.cell (block_lt_of_cell this)]
  exact this
theorem other_pass {l : List (List (BitVec 8))} {lA : Option Addr} {lC : Nat} {o : List (BitVec 8)} (ho : o.length = 32) (w : World) (hK : Tab w) (hv : (Fk.hc l).f (.slice lA (l).length lC) w) (z : Int) (h : 70 < l.length ∨ z < 0 ∨ (l.length : Int) ≤ z ∨ ∃ i : Nat, z = i ∧ l[i]? = some o) :
    Calls Tryd.prog 6 #[.slice lA (l).length lC, .int .i64 z, .agg ((o).map V).toArray] w fun e w' => e = .returned (.bool true) ∧ Below w.heap.size w w' := by
  have hvs := hc_hs hv
  go_enter Tryd.func6, Tryd.ntmps6
  refine code_both (fun f w1 => f.tmps.size = 124 ∧ f.defers = [] ∧ f.eval (.tmp 0) = .slice lA (l).length lC ∧ f.eval (.tmp 1) = .int .i64 (z) ∧ f.eval (.tmp 2) = .agg ((o).map V).toArray ∧ Below w.heap.size w (w1)) ⟨rfl, rfl, rfl, rfl, rfl, Below.refl _ _⟩ ?_
  rintro f0 w0 ⟨sz, df, x0, x1, x2, bl⟩
  have bl0 := bl
  refine wp_seq ?_
  refine wp_region_seq [] (by kernel_rfl) (by kernel_rfl) (by rw [sz]; kernel_rfl) (by kernel_rfl) trivial ?_
  intro f1 w1 A hb
  replace bl0 := bl
  replace x0 := (A.old 0 rfl).trans x0
  replace x1 := (A.old 1 rfl).trans x1
  replace x2 := (A.old 2 rfl).trans x2
  replace bl := (bl.trans (Below.mono hb bl.size))
  replace sz := A.size.trans sz
  replace df := A.defs.trans df
  clear A hb
  refine wl_one (.nw w1.heap.size 23 ((o).map V)) rfl 5 rfl (by rw [sz]; decide) (st_box 23 (.tmp 2) rfl _ _ (by rw [show _ = _ from x2]; kernel_rfl) (Nat.le_refl _)) ?_
  intro f2 w2 df2 sz2 old2 new2 hb
  replace bl0 := bl
  replace x0 := (old2 0 rfl).trans x0
  replace x1 := (old2 1 rfl).trans x1
  replace x2 := (old2 2 rfl).trans x2
  have x5 : Fk.f (.nw w1.heap.size 23 ((o).map V)) (f2.eval (.tmp 5)) w2 := new2
  replace bl := (bl.trans (Below.mono hb bl.size))
  replace sz := sz2.trans sz
  replace df := df2.trans df
  clear df2 sz2 old2 new2 hb
  obtain ⟨g5, hg5, e5, m5⟩ := x5
  have x5 := e5
  clear e5
  have hw5 : w.heap.size ≤ g5 := Nat.le_trans bl0.size hg5
  clear x2
  refine wl_one (.eq (.bool false)) rfl 6 rfl (by rw [sz]; decide) (st_assign (.const (.bool false)) rfl rfl) ?_
  intro f3 w3 df2 sz2 old2 new2 hb
  replace bl0 := bl
  replace x0 := (old2 0 rfl).trans x0
  replace x1 := (old2 1 rfl).trans x1
  replace x5 := (old2 5 rfl).trans x5
  have x6 : f3.eval (.tmp 6) = .bool false := new2
  have lt_m5 := Ob.lt m5
  replace m5 := Ob.below m5 hb
  replace bl := (bl.trans (Below.mono hb bl.size))
  replace sz := sz2.trans sz
  replace df := df2.trans df
  clear df2 sz2 old2 new2 hb
  refine wpList_nil ?_
  show Code.wp _ _ _ _ _
  refine wp_seq ?_
  refine wp_seq ?_
  by_cases h70 : 70 < l.length
  rotate_left
  · skip
    by_cases hz0 : z < 0
    rotate_left
    · skip
      by_cases hzl : (l.length : Int) ≤ z
      rotate_left
      · skip
        obtain ⟨i, rfl, hxi⟩ : ∃ i : Nat, z = i ∧ l[i]? = some o := by
          rcases h with h | h | h | h
          · omega
          · omega
          · omega
          · exact h
        refine wp_all [.eq (.slice lA (l).length lC), .eq (.int .i64 (((l).length : Nat) : Int)), .eq (.bool false), .eq (.bool false), .eq (.int .i64 ((i : Nat) : Int)), .eq (.bool false), .eq (.bool false), .eq (.bool false), .eq (.int .i64 ((i : Nat) : Int)), .eq (.slice lA (l).length lC), .eq (.int .i64 (((l).length : Nat) : Int)), .eq (.bool false), .eq (.bool false), .eq (.bool false), .eq (.agg ((o).map V).toArray), .eq (.slice lA (l).length lC), .eq (.int .i64 ((i : Nat) : Int)), .ph (o), .eq (.agg ((o).map V).toArray), .eq (.bool true), .eq (.bool true)] Tryd.mixed (by kernel_rfl) (by kernel_rfl) (by rw [sz]; kernel_rfl) (by kernel_rfl) ⟨fun hw ac u K => ?_, fun hw ac u K => ?_, fun hw ac u K => ?_, fun hw ac u K => ?_, fun hw ac u K => ?_, fun hw ac u K => ?_, fun hw ac u K => ?_, fun hw ac u K => ?_, fun hw ac u K => ?_, fun hw ac u K => ?_, fun hw ac u K => ?_, fun hw ac u K => ?_, fun hw ac u K => ?_, fun hw ac u K => ?_, fun hw ac u K => ?_, fun hw ac u K => ?_, fun hw ac u K => ?_, fun hw ac u K => ?_, fun hw ac u K => ?_, fun hw ac u K => ?_, fun hw ac u K => ?_, trivial⟩ ?_
        · exact st_move (.tmp 0) rfl ((K.old 0 rfl).trans x0)
        · exact st_lenc (.tmp 18) rfl ((l).length) rfl (fk_val (K.dep 0 18 rfl) (Fk.mono _ _ _ _ hv (bl.trans (Below.mono K.grow bl.size))))
        · exact st_gtr 3 (.tmp 19) (.const (.int .i64 70)) rfl .i64 ((((l).length : Nat) : Int)) (70) (K.dep 1 19 rfl) rfl _ (by rw [eq_comm, decide_eq_false_iff_not]; omega)
        · exact st_move (.tmp 20) rfl (K.dep 2 20 rfl)
        · exact st_move (.tmp 1) rfl ((K.old 1 rfl).trans x1)
        · exact st_lss 3 (.tmp 22) (.const (.int .i64 0)) rfl .i64 (((i : Nat) : Int)) (0) (K.dep 4 22 rfl) rfl _ (by rw [eq_comm, decide_eq_false_iff_not]; omega)
        · exact st_pick_f' (.tmp 21) (.const (.bool true)) (.tmp 23) rfl (K.dep 3 21 rfl) (K.dep 5 23 rfl)
        · exact st_move (.tmp 24) rfl (K.dep 6 24 rfl)
        · exact st_move (.tmp 1) rfl ((K.old 1 rfl).trans x1)
        · exact st_move (.tmp 0) rfl ((K.old 0 rfl).trans x0)
        · exact st_lenc (.tmp 27) rfl ((l).length) rfl (fk_val (K.dep 9 27 rfl) (Fk.mono _ _ _ _ hv (bl.trans (Below.mono K.grow bl.size))))
        · exact st_geq 3 (.tmp 26) (.tmp 28) rfl .i64 (((i : Nat) : Int)) ((((l).length : Nat) : Int)) (K.dep 8 26 rfl) (K.dep 10 28 rfl) _ (by rw [eq_comm, decide_eq_false_iff_not]; omega)
        · exact st_pick_f' (.tmp 25) (.const (.bool true)) (.tmp 29) rfl (K.dep 7 25 rfl) (K.dep 11 29 rfl)
        · exact st_move (.tmp 30) rfl (K.dep 12 30 rfl)
        · exact st_load23 (.tmp 5) rfl (g5) (o) ((K.old 5 rfl).trans x5) ho (Ob.below m5 K.grow)
        · exact st_move (.tmp 0) rfl ((K.old 0 rfl).trans x0)
        · exact st_move (.tmp 1) rfl ((K.old 1 rfl).trans x1)
        · exact st_idxh (.tmp 33) (.tmp 34) rfl (fk_val (K.dep 15 33 rfl) (Fk.mono _ _ _ _ hvs (bl.trans (Below.mono K.grow bl.size)))) (i) (o) (K.dep 16 34 rfl) hxi
        · exact st_loadh (.tmp 35) rfl (K.dep 17 35 rfl)
        · exact st_eqh (.tmp 32) (.tmp 36) rfl (o) (o) ho ho (K.dep 14 32 rfl) (K.dep 18 36 rfl) _ (by simp)
        · exact st_pick_f' (.tmp 31) (.const (.bool true)) (.tmp 37) rfl (K.dep 13 31 rfl) (K.dep 19 37 rfl)
        intro f4 w4 A hb
        replace bl0 := bl
        replace x0 := (A.old 0 rfl).trans x0
        replace x1 := (A.old 1 rfl).trans x1
        replace x5 := (A.old 5 rfl).trans x5
        replace x6 := (A.old 6 rfl).trans x6
        have x38 : f4.eval (.tmp 38) = .bool true := A.has 20 38 rfl
        have lt_m5 := Ob.lt m5
        replace m5 := Ob.below m5 hb
        replace bl := (bl.trans (Below.mono hb bl.size))
        replace sz := A.size.trans sz
        replace df := A.defs.trans df
        clear A hb
        show Code.wp _ _ _ _ _
        refine wp_cond_true x38 ?_
        refine wp_seq ?_
        refine wp_all_seq [.eq (.bool true), .eq (.bool true)] (by kernel_rfl) (by kernel_rfl) (by rw [sz]; kernel_rfl) (by kernel_rfl) ⟨fun hw ac u K => ?_, fun hw ac u K => ?_, trivial⟩ ?_
        · exact st_call 8 (.func 8) _ _ #[] rfl rfl rfl Tryd.enter8 (fk_of (awake_any _ (hK.below (bl.trans (Below.mono K.grow bl.size)))))
        · exact st_assign (.tmp 39) rfl (K.dep 0 39 rfl)
        intro f5 w5 A hb
        replace bl0 := bl
        replace x0 := (A.old 0 rfl).trans x0
        replace x1 := (A.old 1 rfl).trans x1
        replace x5 := (A.old 5 rfl).trans x5
        clear x6
        replace x38 := (A.old 38 rfl).trans x38
        have x6 : f5.eval (.tmp 6) = .bool true := A.has 1 6 rfl
        have lt_m5 := Ob.lt m5
        replace m5 := Ob.below m5 hb
        replace bl := (bl.trans (Below.mono hb bl.size))
        replace sz := A.size.trans sz
        replace df := A.defs.trans df
        clear A hb
        show Code.wp _ _ _ _ _
        refine wp_ret ?_
        repeat (first | with_reducible refine then_ret ?_ | with_reducible refine block_ret ?_)
        exact bodyPost_ret (v := .bool true) (ret_slot rfl f5 _ x6 _ _) df ⟨rfl, bl⟩
      refine wp_all [.eq (.slice lA (l).length lC), .eq (.int .i64 (((l).length : Nat) : Int)), .eq (.bool false), .eq (.bool false), .eq (.int .i64 (z)), .eq (.bool false), .eq (.bool false), .eq (.bool false), .eq (.int .i64 (z)), .eq (.slice lA (l).length lC), .eq (.int .i64 (((l).length : Nat) : Int)), .eq (.bool true), .eq (.bool true), .eq (.bool true), .any, .any, .any, .any, .any, .any, .eq (.bool true)] Tryd.mixed (by kernel_rfl) (by kernel_rfl) (by rw [sz]; kernel_rfl) (by kernel_rfl) ⟨fun hw ac u K => ?_, fun hw ac u K => ?_, fun hw ac u K => ?_, fun hw ac u K => ?_, fun hw ac u K => ?_, fun hw ac u K => ?_, fun hw ac u K => ?_, fun hw ac u K => ?_, fun hw ac u K => ?_, fun hw ac u K => ?_, fun hw ac u K => ?_, fun hw ac u K => ?_, fun hw ac u K => ?_, fun hw ac u K => ?_, fun hw ac u K => ?_, fun hw ac u K => ?_, fun hw ac u K => ?_, fun hw ac u K => ?_, fun hw ac u K => ?_, fun hw ac u K => ?_, fun hw ac u K => ?_, trivial⟩ ?_
      · exact st_move (.tmp 0) rfl ((K.old 0 rfl).trans x0)
      · exact st_lenc (.tmp 18) rfl ((l).length) rfl (fk_val (K.dep 0 18 rfl) (Fk.mono _ _ _ _ hv (bl.trans (Below.mono K.grow bl.size))))
      · exact st_gtr 3 (.tmp 19) (.const (.int .i64 70)) rfl .i64 ((((l).length : Nat) : Int)) (70) (K.dep 1 19 rfl) rfl _ (by rw [eq_comm, decide_eq_false_iff_not]; omega)
      · exact st_move (.tmp 20) rfl (K.dep 2 20 rfl)
      · exact st_move (.tmp 1) rfl ((K.old 1 rfl).trans x1)
      · exact st_lss 3 (.tmp 22) (.const (.int .i64 0)) rfl .i64 ((z)) (0) (K.dep 4 22 rfl) rfl _ (by rw [eq_comm, decide_eq_false_iff_not]; omega)
      · exact st_pick_f' (.tmp 21) (.const (.bool true)) (.tmp 23) rfl (K.dep 3 21 rfl) (K.dep 5 23 rfl)
      · exact st_move (.tmp 24) rfl (K.dep 6 24 rfl)
      · exact st_move (.tmp 1) rfl ((K.old 1 rfl).trans x1)
      · exact st_move (.tmp 0) rfl ((K.old 0 rfl).trans x0)
      · exact st_lenc (.tmp 27) rfl ((l).length) rfl (fk_val (K.dep 9 27 rfl) (Fk.mono _ _ _ _ hv (bl.trans (Below.mono K.grow bl.size))))
      · exact st_geq 3 (.tmp 26) (.tmp 28) rfl .i64 ((z)) ((((l).length : Nat) : Int)) (K.dep 8 26 rfl) (K.dep 10 28 rfl) _ (by rw [eq_comm, decide_eq_true_iff]; omega)
      · exact st_pick_f' (.tmp 25) (.const (.bool true)) (.tmp 29) rfl (K.dep 7 25 rfl) (K.dep 11 29 rfl)
      · exact st_move (.tmp 30) rfl (K.dep 12 30 rfl)
      · exact (Bool.false_ne_true hw).elim
      · exact (Bool.false_ne_true hw).elim
      · exact (Bool.false_ne_true hw).elim
      · exact (Bool.false_ne_true hw).elim
      · exact (Bool.false_ne_true hw).elim
      · exact (Bool.false_ne_true hw).elim
      · exact st_pick_t (.tmp 31) (.const (.bool true)) (.tmp 37) rfl (K.dep 13 31 rfl) rfl
      intro f4 w4 A hb
      replace bl0 := bl
      replace x0 := (A.old 0 rfl).trans x0
      replace x1 := (A.old 1 rfl).trans x1
      replace x5 := (A.old 5 rfl).trans x5
      replace x6 := (A.old 6 rfl).trans x6
      have x38 : f4.eval (.tmp 38) = .bool true := A.has 20 38 rfl
      have lt_m5 := Ob.lt m5
      replace m5 := Ob.below m5 hb
      replace bl := (bl.trans (Below.mono hb bl.size))
      replace sz := A.size.trans sz
      replace df := A.defs.trans df
      clear A hb
      show Code.wp _ _ _ _ _
      refine wp_cond_true x38 ?_
      refine wp_seq ?_
      refine wp_all_seq [.eq (.bool true), .eq (.bool true)] (by kernel_rfl) (by kernel_rfl) (by rw [sz]; kernel_rfl) (by kernel_rfl) ⟨fun hw ac u K => ?_, fun hw ac u K => ?_, trivial⟩ ?_
      · exact st_call 8 (.func 8) _ _ #[] rfl rfl rfl Tryd.enter8 (fk_of (awake_any _ (hK.below (bl.trans (Below.mono K.grow bl.size)))))
      · exact st_assign (.tmp 39) rfl (K.dep 0 39 rfl)
      intro f5 w5 A hb
      replace bl0 := bl
      replace x0 := (A.old 0 rfl).trans x0
      replace x1 := (A.old 1 rfl).trans x1
      replace x5 := (A.old 5 rfl).trans x5
      clear x6
      replace x38 := (A.old 38 rfl).trans x38
      have x6 : f5.eval (.tmp 6) = .bool true := A.has 1 6 rfl
      have lt_m5 := Ob.lt m5
      replace m5 := Ob.below m5 hb
      replace bl := (bl.trans (Below.mono hb bl.size))
      replace sz := A.size.trans sz
      replace df := A.defs.trans df
      clear A hb
      show Code.wp _ _ _ _ _
      refine wp_ret ?_
      repeat (first | with_reducible refine then_ret ?_ | with_reducible refine block_ret ?_)
      exact bodyPost_ret (v := .bool true) (ret_slot rfl f5 _ x6 _ _) df ⟨rfl, bl⟩
    refine wp_all [.eq (.slice lA (l).length lC), .eq (.int .i64 (((l).length : Nat) : Int)), .eq (.bool false), .eq (.bool false), .eq (.int .i64 (z)), .eq (.bool true), .eq (.bool true), .eq (.bool true), .any, .any, .any, .any, .eq (.bool true), .eq (.bool true), .any, .any, .any, .any, .any, .any, .eq (.bool true)] Tryd.mixed (by kernel_rfl) (by kernel_rfl) (by rw [sz]; kernel_rfl) (by kernel_rfl) ⟨fun hw ac u K => ?_, fun hw ac u K => ?_, fun hw ac u K => ?_, fun hw ac u K => ?_, fun hw ac u K => ?_, fun hw ac u K => ?_, fun hw ac u K => ?_, fun hw ac u K => ?_, fun hw ac u K => ?_, fun hw ac u K => ?_, fun hw ac u K => ?_, fun hw ac u K => ?_, fun hw ac u K => ?_, fun hw ac u K => ?_, fun hw ac u K => ?_, fun hw ac u K => ?_, fun hw ac u K => ?_, fun hw ac u K => ?_, fun hw ac u K => ?_, fun hw ac u K => ?_, fun hw ac u K => ?_, trivial⟩ ?_
    · exact st_move (.tmp 0) rfl ((K.old 0 rfl).trans x0)
    · exact st_lenc (.tmp 18) rfl ((l).length) rfl (fk_val (K.dep 0 18 rfl) (Fk.mono _ _ _ _ hv (bl.trans (Below.mono K.grow bl.size))))
    · exact st_gtr 3 (.tmp 19) (.const (.int .i64 70)) rfl .i64 ((((l).length : Nat) : Int)) (70) (K.dep 1 19 rfl) rfl _ (by rw [eq_comm, decide_eq_false_iff_not]; omega)
    · exact st_move (.tmp 20) rfl (K.dep 2 20 rfl)
    · exact st_move (.tmp 1) rfl ((K.old 1 rfl).trans x1)
    · exact st_lss 3 (.tmp 22) (.const (.int .i64 0)) rfl .i64 ((z)) (0) (K.dep 4 22 rfl) rfl _ (by rw [eq_comm, decide_eq_true_iff]; omega)
    · exact st_pick_f' (.tmp 21) (.const (.bool true)) (.tmp 23) rfl (K.dep 3 21 rfl) (K.dep 5 23 rfl)
    · exact st_move (.tmp 24) rfl (K.dep 6 24 rfl)
    · exact (Bool.false_ne_true hw).elim
    · exact (Bool.false_ne_true hw).elim
    · exact (Bool.false_ne_true hw).elim
    · exact (Bool.false_ne_true hw).elim
    · exact st_pick_t (.tmp 25) (.const (.bool true)) (.tmp 29) rfl (K.dep 7 25 rfl) rfl
    · exact st_move (.tmp 30) rfl (K.dep 12 30 rfl)
    · exact (Bool.false_ne_true hw).elim
    · exact (Bool.false_ne_true hw).elim
    · exact (Bool.false_ne_true hw).elim
    · exact (Bool.false_ne_true hw).elim
    · exact (Bool.false_ne_true hw).elim
    · exact (Bool.false_ne_true hw).elim
    · exact st_pick_t (.tmp 31) (.const (.bool true)) (.tmp 37) rfl (K.dep 13 31 rfl) rfl
    intro f4 w4 A hb
    replace bl0 := bl
    replace x0 := (A.old 0 rfl).trans x0
    replace x1 := (A.old 1 rfl).trans x1
    replace x5 := (A.old 5 rfl).trans x5
    replace x6 := (A.old 6 rfl).trans x6
    have x38 : f4.eval (.tmp 38) = .bool true := A.has 20 38 rfl
    have lt_m5 := Ob.lt m5
    replace m5 := Ob.below m5 hb
    replace bl := (bl.trans (Below.mono hb bl.size))
    replace sz := A.size.trans sz
    replace df := A.defs.trans df
    clear A hb
    show Code.wp _ _ _ _ _
    refine wp_cond_true x38 ?_
    refine wp_seq ?_
    refine wp_all_seq [.eq (.bool true), .eq (.bool true)] (by kernel_rfl) (by kernel_rfl) (by rw [sz]; kernel_rfl) (by kernel_rfl) ⟨fun hw ac u K => ?_, fun hw ac u K => ?_, trivial⟩ ?_
    · exact st_call 8 (.func 8) _ _ #[] rfl rfl rfl Tryd.enter8 (fk_of (awake_any _ (hK.below (bl.trans (Below.mono K.grow bl.size)))))
    · exact st_assign (.tmp 39) rfl (K.dep 0 39 rfl)
    intro f5 w5 A hb
    replace bl0 := bl
    replace x0 := (A.old 0 rfl).trans x0
    replace x1 := (A.old 1 rfl).trans x1
    replace x5 := (A.old 5 rfl).trans x5
    clear x6
    replace x38 := (A.old 38 rfl).trans x38
    have x6 : f5.eval (.tmp 6) = .bool true := A.has 1 6 rfl
    have lt_m5 := Ob.lt m5
    replace m5 := Ob.below m5 hb
    replace bl := (bl.trans (Below.mono hb bl.size))
    replace sz := A.size.trans sz
    replace df := A.defs.trans df
    clear A hb
    show Code.wp _ _ _ _ _
    refine wp_ret ?_
    repeat (first | with_reducible refine then_ret ?_ | with_reducible refine block_ret ?_)
    exact bodyPost_ret (v := .bool true) (ret_slot rfl f5 _ x6 _ _) df ⟨rfl, bl⟩
  refine wp_all [.eq (.slice lA (l).length lC), .eq (.int .i64 (((l).length : Nat) : Int)), .eq (.bool true), .eq (.bool true), .any, .any, .eq (.bool true), .eq (.bool true), .any, .any, .any, .any, .eq (.bool true), .eq (.bool true), .any, .any, .any, .any, .any, .any, .eq (.bool true)] Tryd.mixed (by kernel_rfl) (by kernel_rfl) (by rw [sz]; kernel_rfl) (by kernel_rfl) ⟨fun hw ac u K => ?_, fun hw ac u K => ?_, fun hw ac u K => ?_, fun hw ac u K => ?_, fun hw ac u K => ?_, fun hw ac u K => ?_, fun hw ac u K => ?_, fun hw ac u K => ?_, fun hw ac u K => ?_, fun hw ac u K => ?_, fun hw ac u K => ?_, fun hw ac u K => ?_, fun hw ac u K => ?_, fun hw ac u K => ?_, fun hw ac u K => ?_, fun hw ac u K => ?_, fun hw ac u K => ?_, fun hw ac u K => ?_, fun hw ac u K => ?_, fun hw ac u K => ?_, fun hw ac u K => ?_, trivial⟩ ?_
  · exact st_move (.tmp 0) rfl ((K.old 0 rfl).trans x0)
  · exact st_lenc (.tmp 18) rfl ((l).length) rfl (fk_val (K.dep 0 18 rfl) (Fk.mono _ _ _ _ hv (bl.trans (Below.mono K.grow bl.size))))
  · exact st_gtr 3 (.tmp 19) (.const (.int .i64 70)) rfl .i64 ((((l).length : Nat) : Int)) (70) (K.dep 1 19 rfl) rfl _ (by rw [eq_comm, decide_eq_true_iff]; omega)
  · exact st_move (.tmp 20) rfl (K.dep 2 20 rfl)
  · exact (Bool.false_ne_true hw).elim
  · exact (Bool.false_ne_true hw).elim
  · exact st_pick_t (.tmp 21) (.const (.bool true)) (.tmp 23) rfl (K.dep 3 21 rfl) rfl
  · exact st_move (.tmp 24) rfl (K.dep 6 24 rfl)
  · exact (Bool.false_ne_true hw).elim
  · exact (Bool.false_ne_true hw).elim
  · exact (Bool.false_ne_true hw).elim
  · exact (Bool.false_ne_true hw).elim
  · exact st_pick_t (.tmp 25) (.const (.bool true)) (.tmp 29) rfl (K.dep 7 25 rfl) rfl
  · exact st_move (.tmp 30) rfl (K.dep 12 30 rfl)
  · exact (Bool.false_ne_true hw).elim
  · exact (Bool.false_ne_true hw).elim
  · exact (Bool.false_ne_true hw).elim
  · exact (Bool.false_ne_true hw).elim
  · exact (Bool.false_ne_true hw).elim
  · exact (Bool.false_ne_true hw).elim
  · exact st_pick_t (.tmp 31) (.const (.bool true)) (.tmp 37) rfl (K.dep 13 31 rfl) rfl
  intro f4 w4 A hb
  replace bl0 := bl
  replace x0 := (A.old 0 rfl).trans x0
  replace x1 := (A.old 1 rfl).trans x1
  replace x5 := (A.old 5 rfl).trans x5
  replace x6 := (A.old 6 rfl).trans x6
  have x38 : f4.eval (.tmp 38) = .bool true := A.has 20 38 rfl
  have lt_m5 := Ob.lt m5
  replace m5 := Ob.below m5 hb
  replace bl := (bl.trans (Below.mono hb bl.size))
  replace sz := A.size.trans sz
  replace df := A.defs.trans df
  clear A hb
  show Code.wp _ _ _ _ _
  refine wp_cond_true x38 ?_
  refine wp_seq ?_
  refine wp_all_seq [.eq (.bool true), .eq (.bool true)] (by kernel_rfl) (by kernel_rfl) (by rw [sz]; kernel_rfl) (by kernel_rfl) ⟨fun hw ac u K => ?_, fun hw ac u K => ?_, trivial⟩ ?_
  · exact st_call 8 (.func 8) _ _ #[] rfl rfl rfl Tryd.enter8 (fk_of (awake_any _ (hK.below (bl.trans (Below.mono K.grow bl.size)))))
  · exact st_assign (.tmp 39) rfl (K.dep 0 39 rfl)
  intro f5 w5 A hb
  replace bl0 := bl
  replace x0 := (A.old 0 rfl).trans x0
  replace x1 := (A.old 1 rfl).trans x1
  replace x5 := (A.old 5 rfl).trans x5
  clear x6
  replace x38 := (A.old 38 rfl).trans x38
  have x6 : f5.eval (.tmp 6) = .bool true := A.has 1 6 rfl
  have lt_m5 := Ob.lt m5
  replace m5 := Ob.below m5 hb
  replace bl := (bl.trans (Below.mono hb bl.size))
  replace sz := A.size.trans sz
  replace df := A.defs.trans df
  clear A hb
  show Code.wp _ _ _ _ _
  refine wp_ret ?_
  repeat (first | with_reducible refine then_ret ?_ | with_reducible refine block_ret ?_)
  exact bodyPost_ret (v := .bool true) (ret_slot rfl f5 _ x6 _ _) df ⟨rfl, bl⟩
set_option maxHeartbeats 2000000 in
theorem other_main {l : List (List (BitVec 8))} {lA : Option Addr} {lC : Nat} {o : List (BitVec 8)} (ho : o.length = 32) (w : World) (hK : Tab w) (hv : (Fk.hc l).f (.slice lA (l).length lC) w) {i : Nat} {x : List (BitVec 8)} (h70 : l.length ≤ 70) (hxi : l[i]? = some x) (hxo : ¬o = x) :
    Calls Tryd.prog 6 #[.slice lA (l).length lC, .int .i64 ((i : Nat) : Int), .agg ((o).map V).toArray] w fun e w' => e = .returned (.bool true) ∧ Below w.heap.size w w' := by
  have hvs := hc_hs hv
  have hi : i < l.length := (List.getElem?_eq_some_iff.1 hxi).1
  have hx : x.length = 32 := hs_len hvs hxi
  obtain ⟨S, hSd⟩ : ∃ S, sds i l.length = S := ⟨_, rfl⟩
  obtain ⟨y, ey⟩ : ∃ y, Box (mroot l = y) := ⟨_, ⟨rfl⟩⟩
  have hy : y.length = 32 := by rw [← ey.out]; exact mroot_len (hc_len hv)
  obtain ⟨P, eP⟩ : ∃ P, Box (mpath l i = P) := ⟨_, ⟨rfl⟩⟩
  obtain ⟨hpl, hpr⟩ := path_sides l.length l i rfl hi
  have hld := hpr x hxi
  rw [eP.out, hSd] at hpl hld
  rw [ey.out] at hld
  have hSn := sds_len l.length i
  rw [hSd] at hSn
  go_enter Tryd.func6, Tryd.ntmps6
  refine code_both (fun f w1 => f.tmps.size = 124 ∧ f.defers = [] ∧ f.eval (.tmp 0) = .slice lA (l).length lC ∧ f.eval (.tmp 1) = .int .i64 ((i : Nat) : Int) ∧ f.eval (.tmp 2) = .agg ((o).map V).toArray ∧ Below w.heap.size w (w1)) ⟨rfl, rfl, rfl, rfl, rfl, Below.refl _ _⟩ ?_
  rintro f0 w0 ⟨sz, df, x0, x1, x2, bl⟩
  have bl0 := bl
  refine wp_seq ?_
  refine wp_region_seq [] (by kernel_rfl) (by kernel_rfl) (by rw [sz]; kernel_rfl) (by kernel_rfl) trivial ?_
  intro f1 w1 A hb
  replace bl0 := bl
  replace x0 := (A.old 0 rfl).trans x0
  replace x1 := (A.old 1 rfl).trans x1
  replace x2 := (A.old 2 rfl).trans x2
  replace bl := (bl.trans (Below.mono hb bl.size))
  replace sz := A.size.trans sz
  replace df := A.defs.trans df
  clear A hb
  refine wl_one (.nw w1.heap.size 23 ((o).map V)) rfl 5 rfl (by rw [sz]; decide) (st_box 23 (.tmp 2) rfl _ _ (by rw [show _ = _ from x2]; kernel_rfl) (Nat.le_refl _)) ?_
  intro f2 w2 df2 sz2 old2 new2 hb
  replace bl0 := bl
  replace x0 := (old2 0 rfl).trans x0
  replace x1 := (old2 1 rfl).trans x1
  replace x2 := (old2 2 rfl).trans x2
  have x5 : Fk.f (.nw w1.heap.size 23 ((o).map V)) (f2.eval (.tmp 5)) w2 := new2
  replace bl := (bl.trans (Below.mono hb bl.size))
  replace sz := sz2.trans sz
  replace df := df2.trans df
  clear df2 sz2 old2 new2 hb
  obtain ⟨g5, hg5, e5, m5⟩ := x5
  have x5 := e5
  clear e5
  have hw5 : w.heap.size ≤ g5 := Nat.le_trans bl0.size hg5
  clear x2
  refine wl_one (.eq (.bool false)) rfl 6 rfl (by rw [sz]; decide) (st_assign (.const (.bool false)) rfl rfl) ?_
  intro f3 w3 df2 sz2 old2 new2 hb
  replace bl0 := bl
  replace x0 := (old2 0 rfl).trans x0
  replace x1 := (old2 1 rfl).trans x1
  replace x5 := (old2 5 rfl).trans x5
  have x6 : f3.eval (.tmp 6) = .bool false := new2
  have lt_m5 := Ob.lt m5
  replace m5 := Ob.below m5 hb
  replace bl := (bl.trans (Below.mono hb bl.size))
  replace sz := sz2.trans sz
  replace df := df2.trans df
  clear df2 sz2 old2 new2 hb
  refine wpList_nil ?_
  show Code.wp _ _ _ _ _
  refine wp_seq ?_
  refine wp_seq ?_
  refine wp_all [.eq (.slice lA (l).length lC), .eq (.int .i64 (((l).length : Nat) : Int)), .eq (.bool false), .eq (.bool false), .eq (.int .i64 ((i : Nat) : Int)), .eq (.bool false), .eq (.bool false), .eq (.bool false), .eq (.int .i64 ((i : Nat) : Int)), .eq (.slice lA (l).length lC), .eq (.int .i64 (((l).length : Nat) : Int)), .eq (.bool false), .eq (.bool false), .eq (.bool false), .eq (.agg ((o).map V).toArray), .eq (.slice lA (l).length lC), .eq (.int .i64 ((i : Nat) : Int)), .ph (x), .eq (.agg ((x).map V).toArray), .eq (.bool false), .eq (.bool false)] Tryd.mixed (by kernel_rfl) (by kernel_rfl) (by rw [sz]; kernel_rfl) (by kernel_rfl) ⟨fun hw ac u K => ?_, fun hw ac u K => ?_, fun hw ac u K => ?_, fun hw ac u K => ?_, fun hw ac u K => ?_, fun hw ac u K => ?_, fun hw ac u K => ?_, fun hw ac u K => ?_, fun hw ac u K => ?_, fun hw ac u K => ?_, fun hw ac u K => ?_, fun hw ac u K => ?_, fun hw ac u K => ?_, fun hw ac u K => ?_, fun hw ac u K => ?_, fun hw ac u K => ?_, fun hw ac u K => ?_, fun hw ac u K => ?_, fun hw ac u K => ?_, fun hw ac u K => ?_, fun hw ac u K => ?_, trivial⟩ ?_
  · exact st_move (.tmp 0) rfl ((K.old 0 rfl).trans x0)
  · exact st_lenc (.tmp 18) rfl ((l).length) rfl (fk_val (K.dep 0 18 rfl) (Fk.mono _ _ _ _ hv (bl.trans (Below.mono K.grow bl.size))))
  · exact st_gtr 3 (.tmp 19) (.const (.int .i64 70)) rfl .i64 ((((l).length : Nat) : Int)) (70) (K.dep 1 19 rfl) rfl _ (by rw [eq_comm, decide_eq_false_iff_not]; omega)
  · exact st_move (.tmp 20) rfl (K.dep 2 20 rfl)
  · exact st_move (.tmp 1) rfl ((K.old 1 rfl).trans x1)
  · exact st_lss 3 (.tmp 22) (.const (.int .i64 0)) rfl .i64 (((i : Nat) : Int)) (0) (K.dep 4 22 rfl) rfl _ (by rw [eq_comm, decide_eq_false_iff_not]; omega)
  · exact st_pick_f' (.tmp 21) (.const (.bool true)) (.tmp 23) rfl (K.dep 3 21 rfl) (K.dep 5 23 rfl)
  · exact st_move (.tmp 24) rfl (K.dep 6 24 rfl)
  · exact st_move (.tmp 1) rfl ((K.old 1 rfl).trans x1)
  · exact st_move (.tmp 0) rfl ((K.old 0 rfl).trans x0)
  · exact st_lenc (.tmp 27) rfl ((l).length) rfl (fk_val (K.dep 9 27 rfl) (Fk.mono _ _ _ _ hv (bl.trans (Below.mono K.grow bl.size))))
  · exact st_geq 3 (.tmp 26) (.tmp 28) rfl .i64 (((i : Nat) : Int)) ((((l).length : Nat) : Int)) (K.dep 8 26 rfl) (K.dep 10 28 rfl) _ (by rw [eq_comm, decide_eq_false_iff_not]; omega)
  · exact st_pick_f' (.tmp 25) (.const (.bool true)) (.tmp 29) rfl (K.dep 7 25 rfl) (K.dep 11 29 rfl)
  · exact st_move (.tmp 30) rfl (K.dep 12 30 rfl)
  · exact st_load23 (.tmp 5) rfl (g5) (o) ((K.old 5 rfl).trans x5) ho (Ob.below m5 K.grow)
  · exact st_move (.tmp 0) rfl ((K.old 0 rfl).trans x0)
  · exact st_move (.tmp 1) rfl ((K.old 1 rfl).trans x1)
  · exact st_idxh (.tmp 33) (.tmp 34) rfl (fk_val (K.dep 15 33 rfl) (Fk.mono _ _ _ _ hvs (bl.trans (Below.mono K.grow bl.size)))) (i) (x) (K.dep 16 34 rfl) hxi
  · exact st_loadh (.tmp 35) rfl (K.dep 17 35 rfl)
  · exact st_eqh (.tmp 32) (.tmp 36) rfl (o) (x) ho hx (K.dep 14 32 rfl) (K.dep 18 36 rfl) _ (by rw [eq_comm, decide_eq_false_iff_not]; exact hxo)
  · exact st_pick_f' (.tmp 31) (.const (.bool true)) (.tmp 37) rfl (K.dep 13 31 rfl) (K.dep 19 37 rfl)
  intro f4 w4 A hb
  replace bl0 := bl
  replace x0 := (A.old 0 rfl).trans x0
  replace x1 := (A.old 1 rfl).trans x1
  replace x5 := (A.old 5 rfl).trans x5
  replace x6 := (A.old 6 rfl).trans x6
  have x38 : f4.eval (.tmp 38) = .bool false := A.has 20 38 rfl
  have lt_m5 := Ob.lt m5
  replace m5 := Ob.below m5 hb
  replace bl := (bl.trans (Below.mono hb bl.size))
  replace sz := A.size.trans sz
  replace df := A.defs.trans df
  clear A hb
  show Code.wp _ _ _ _ _
  refine wp_cond_false x38 ?_
  refine wp_skip ?_
  show Code.wp _ _ _ _ _
  refine wp_seq ?_
  refine wp_all_seq [.eq (.slice lA (l).length lC), .eq (.int .i64 ((i : Nat) : Int)), .t2 (.hc (P)) (.int .i64 0), .t2 (.hc (P)) (.int .i64 0), .hc (P), .eq (.int .i64 0), .hc (P), .eq (.int .i64 0)] (by kernel_rfl) (by kernel_rfl) (by rw [sz]; kernel_rfl) (by kernel_rfl) ⟨fun hw ac u K => ?_, fun hw ac u K => ?_, fun hw ac u K => ?_, fun hw ac u K => ?_, fun hw ac u K => ?_, fun hw ac u K => ?_, fun hw ac u K => ?_, fun hw ac u K => ?_, trivial⟩ ?_
  · exact st_move (.tmp 0) rfl ((K.old 0 rfl).trans x0)
  · exact st_move (.tmp 1) rfl ((K.old 1 rfl).trans x1)
  · exact st_call 19 (.func 19) _ _ #[.slice lA (l).length lC, .int .i64 ((i : Nat) : Int)] rfl rfl (arg2 (K.dep 0 41 rfl) (K.dep 1 42 rfl)) Tryd.enter19 (fk_pathc hi (by omega) (Fk.mono _ _ _ _ hv (bl.trans (Below.mono K.grow bl.size))) (hK.below (bl.trans (Below.mono K.grow bl.size))) eP)
  · exact st_move (.tmp 43) rfl (K.dep 2 43 rfl)
  · exact st_t2a (.tmp 40) rfl (K.dep 3 40 rfl)
  · exact st_t2b (.tmp 40) rfl (K.dep 3 40 rfl)
  · exact st_assign (.tmp 44) rfl (K.dep 4 44 rfl)
  · exact st_assign (.tmp 45) rfl (K.dep 5 45 rfl)
  intro f5 w5 A hb
  replace bl0 := bl
  replace x0 := (A.old 0 rfl).trans x0
  replace x1 := (A.old 1 rfl).trans x1
  replace x5 := (A.old 5 rfl).trans x5
  replace x6 := (A.old 6 rfl).trans x6
  replace x38 := (A.old 38 rfl).trans x38
  have x7 : Fk.f (.hc (P)) (f5.eval (.tmp 7)) w5 := A.has 6 7 rfl
  have x8 : f5.eval (.tmp 8) = .int .i64 0 := A.has 7 8 rfl
  have lt_m5 := Ob.lt m5
  replace m5 := Ob.below m5 hb
  replace bl := (bl.trans (Below.mono hb bl.size))
  replace sz := A.size.trans sz
  replace df := A.defs.trans df
  clear A hb
  obtain ⟨v7, e7⟩ : ∃ v, f5.eval (.tmp 7) = v := ⟨_, rfl⟩
  have h7 := x7
  rw [e7] at h7
  replace x7 := e7
  clear e7
  have h7s := hc_hs h7
  have blw := bl
  replace hv := Fk.mono _ _ _ _ hv bl
  replace hvs := Fk.mono _ _ _ _ hvs bl
  replace hK := hK.below bl
  replace bl := Below.refl w5.heap.size w5
  replace bl0 := bl
  show Code.wp _ _ _ _ _
  refine wp_seq ?_
  refine wp_seq ?_
  refine wp_all_seq [.eq (.int .i64 0), .eq (.bool false)] (by kernel_rfl) (by kernel_rfl) (by rw [sz]; kernel_rfl) (by kernel_rfl) ⟨fun hw ac u K => ?_, fun hw ac u K => ?_, trivial⟩ ?_
  · exact st_move (.tmp 8) rfl ((K.old 8 rfl).trans x8)
  · exact st_neqi 28 (.tmp 46) (.const (.int .i64 0)) rfl .i64 (0) (0) (K.dep 0 46 rfl) rfl _ (by rfl)
  intro f6 w6 A hb
  replace bl0 := bl
  replace x0 := (A.old 0 rfl).trans x0
  replace x1 := (A.old 1 rfl).trans x1
  replace x5 := (A.old 5 rfl).trans x5
  replace x6 := (A.old 6 rfl).trans x6
  replace x38 := (A.old 38 rfl).trans x38
  replace x7 := (A.old 7 rfl).trans x7
  replace x8 := (A.old 8 rfl).trans x8
  have x47 : f6.eval (.tmp 47) = .bool false := A.has 1 47 rfl
  replace bl := (bl.trans (Below.mono hb bl.size))
  replace sz := A.size.trans sz
  replace df := A.defs.trans df
  clear A hb
  clear x8
  show Code.wp _ _ _ _ _
  refine wp_cond_false x47 ?_
  refine wp_skip ?_
  show Code.wp _ _ _ _ _
  refine wp_seq ?_
  refine wp_seq ?_
  by_cases hin : ldt o P S = y
  rotate_left
  · skip
    refine wp_all [.eq (.agg ((o).map V).toArray), .eq (.int .i64 ((i : Nat) : Int)), .eq (.slice lA (l).length lC), .eq (.int .i64 (((l).length : Nat) : Int)), .eq (v7), .eq (.slice lA (l).length lC), .eq (.agg ((y).map V).toArray), .eq (.int .i64 22), .eq (.bool true)] Tryd.mixed (by kernel_rfl) (by kernel_rfl) (by rw [sz]; kernel_rfl) (by kernel_rfl) ⟨fun hw ac u K => ?_, fun hw ac u K => ?_, fun hw ac u K => ?_, fun hw ac u K => ?_, fun hw ac u K => ?_, fun hw ac u K => ?_, fun hw ac u K => ?_, fun hw ac u K => ?_, fun hw ac u K => ?_, trivial⟩ ?_
    · exact st_load23 (.tmp 5) rfl (g5) (o) ((K.old 5 rfl).trans x5) ho (Ob.below m5 (bl.trans (Below.mono K.grow bl.size)))
    · exact st_move (.tmp 1) rfl ((K.old 1 rfl).trans x1)
    · exact st_move (.tmp 0) rfl ((K.old 0 rfl).trans x0)
    · exact st_lenc (.tmp 50) rfl ((l).length) rfl (fk_val (K.dep 2 50 rfl) (Fk.mono _ _ _ _ hv (bl.trans (Below.mono K.grow bl.size))))
    · exact st_move (.tmp 7) rfl ((K.old 7 rfl).trans x7)
    · exact st_move (.tmp 0) rfl ((K.old 0 rfl).trans x0)
    · exact st_call 18 (.func 18) _ _ #[.slice lA (l).length lC] rfl rfl (one_arg (K.dep 5 53 rfl)) Tryd.enter18 (fk_of (root_any l _ _ (by omega) (Fk.mono _ _ _ _ hv (bl.trans (Below.mono K.grow bl.size))) (hK.below (bl.trans (Below.mono K.grow bl.size))) ey))
    · exact st_call 11 (.func 11) _ _ #[.agg ((o).map V).toArray, .int .i64 ((i : Nat) : Int), .int .i64 (((l).length : Nat) : Int), v7, .agg ((y).map V).toArray] rfl rfl (arg5 (K.dep 0 48 rfl) (K.dep 1 49 rfl) (K.dep 3 51 rfl) (K.dep 4 52 rfl) (K.dep 6 54 rfl)) Tryd.enter11 (fk_in_any ho hy hi (by omega) (Fk.mono _ _ _ _ h7 (bl.trans (Below.mono K.grow bl.size))) (by omega) (hK.below (bl.trans (Below.mono K.grow bl.size))) 22 (by rw [hSd, if_neg (fun h => hin h.2)]))
    · exact st_neqi 28 (.tmp 55) (.const (.int .i64 0)) rfl .i64 (22) (0) (K.dep 7 55 rfl) rfl _ (by rfl)
    intro f7 w7 A hb
    replace bl0 := bl
    replace x0 := (A.old 0 rfl).trans x0
    replace x1 := (A.old 1 rfl).trans x1
    replace x5 := (A.old 5 rfl).trans x5
    replace x6 := (A.old 6 rfl).trans x6
    replace x38 := (A.old 38 rfl).trans x38
    replace x7 := (A.old 7 rfl).trans x7
    replace x47 := (A.old 47 rfl).trans x47
    have x56 : f7.eval (.tmp 56) = .bool true := A.has 8 56 rfl
    replace bl := (bl.trans (Below.mono hb bl.size))
    replace sz := A.size.trans sz
    replace df := A.defs.trans df
    clear A hb
    show Code.wp _ _ _ _ _
    refine wp_cond_true x56 ?_
    refine wp_seq ?_
    refine wp_all_seq [.eq (.bool true), .eq (.bool true)] (by kernel_rfl) (by kernel_rfl) (by rw [sz]; kernel_rfl) (by kernel_rfl) ⟨fun hw ac u K => ?_, fun hw ac u K => ?_, trivial⟩ ?_
    · exact st_call 8 (.func 8) _ _ #[] rfl rfl rfl Tryd.enter8 (fk_of (awake_any _ (hK.below (bl.trans (Below.mono K.grow bl.size)))))
    · exact st_assign (.tmp 57) rfl (K.dep 0 57 rfl)
    intro f8 w8 A hb
    replace bl0 := bl
    replace x0 := (A.old 0 rfl).trans x0
    replace x1 := (A.old 1 rfl).trans x1
    replace x5 := (A.old 5 rfl).trans x5
    clear x6
    replace x38 := (A.old 38 rfl).trans x38
    replace x7 := (A.old 7 rfl).trans x7
    replace x47 := (A.old 47 rfl).trans x47
    replace x56 := (A.old 56 rfl).trans x56
    have x6 : f8.eval (.tmp 6) = .bool true := A.has 1 6 rfl
    replace bl := (bl.trans (Below.mono hb bl.size))
    replace sz := A.size.trans sz
    replace df := A.defs.trans df
    clear A hb
    show Code.wp _ _ _ _ _
    refine wp_ret ?_
    repeat (first | with_reducible refine then_ret ?_ | with_reducible refine block_ret ?_)
    exact bodyPost_ret (v := .bool true) (ret_slot rfl f8 _ x6 _ _) df ⟨rfl, (blw.trans (Below.mono bl blw.size))⟩
  refine wp_all [.eq (.agg ((o).map V).toArray), .eq (.int .i64 ((i : Nat) : Int)), .eq (.slice lA (l).length lC), .eq (.int .i64 (((l).length : Nat) : Int)), .eq (v7), .eq (.slice lA (l).length lC), .eq (.agg ((y).map V).toArray), .eq (.int .i64 0), .eq (.bool false)] Tryd.mixed (by kernel_rfl) (by kernel_rfl) (by rw [sz]; kernel_rfl) (by kernel_rfl) ⟨fun hw ac u K => ?_, fun hw ac u K => ?_, fun hw ac u K => ?_, fun hw ac u K => ?_, fun hw ac u K => ?_, fun hw ac u K => ?_, fun hw ac u K => ?_, fun hw ac u K => ?_, fun hw ac u K => ?_, trivial⟩ ?_
  · exact st_load23 (.tmp 5) rfl (g5) (o) ((K.old 5 rfl).trans x5) ho (Ob.below m5 (bl.trans (Below.mono K.grow bl.size)))
  · exact st_move (.tmp 1) rfl ((K.old 1 rfl).trans x1)
  · exact st_move (.tmp 0) rfl ((K.old 0 rfl).trans x0)
  · exact st_lenc (.tmp 50) rfl ((l).length) rfl (fk_val (K.dep 2 50 rfl) (Fk.mono _ _ _ _ hv (bl.trans (Below.mono K.grow bl.size))))
  · exact st_move (.tmp 7) rfl ((K.old 7 rfl).trans x7)
  · exact st_move (.tmp 0) rfl ((K.old 0 rfl).trans x0)
  · exact st_call 18 (.func 18) _ _ #[.slice lA (l).length lC] rfl rfl (one_arg (K.dep 5 53 rfl)) Tryd.enter18 (fk_of (root_any l _ _ (by omega) (Fk.mono _ _ _ _ hv (bl.trans (Below.mono K.grow bl.size))) (hK.below (bl.trans (Below.mono K.grow bl.size))) ey))
  · exact st_call 11 (.func 11) _ _ #[.agg ((o).map V).toArray, .int .i64 ((i : Nat) : Int), .int .i64 (((l).length : Nat) : Int), v7, .agg ((y).map V).toArray] rfl rfl (arg5 (K.dep 0 48 rfl) (K.dep 1 49 rfl) (K.dep 3 51 rfl) (K.dep 4 52 rfl) (K.dep 6 54 rfl)) Tryd.enter11 (fk_in_any ho hy hi (by omega) (Fk.mono _ _ _ _ h7 (bl.trans (Below.mono K.grow bl.size))) (by omega) (hK.below (bl.trans (Below.mono K.grow bl.size))) 0 (by rw [hSd, if_pos ⟨hpl, hin⟩]))
  · exact st_neqi 28 (.tmp 55) (.const (.int .i64 0)) rfl .i64 (0) (0) (K.dep 7 55 rfl) rfl _ (by rfl)
  intro f7 w7 A hb
  replace bl0 := bl
  replace x0 := (A.old 0 rfl).trans x0
  replace x1 := (A.old 1 rfl).trans x1
  replace x5 := (A.old 5 rfl).trans x5
  replace x6 := (A.old 6 rfl).trans x6
  replace x38 := (A.old 38 rfl).trans x38
  replace x7 := (A.old 7 rfl).trans x7
  replace x47 := (A.old 47 rfl).trans x47
  have x56 : f7.eval (.tmp 56) = .bool false := A.has 8 56 rfl
  replace bl := (bl.trans (Below.mono hb bl.size))
  replace sz := A.size.trans sz
  replace df := A.defs.trans df
  clear A hb
  show Code.wp _ _ _ _ _
  refine wp_cond_false x56 ?_
  refine wp_skip ?_
  show Code.wp _ _ _ _ _
  refine wp_seq ?_
  obtain ⟨lb, lo, hlA, hlb, hrg, hx32⟩ := hc_nth hv hxi
  have hSall : ∀ W : World, Below w5.heap.size w5 W → Ob W g5 23 ((o).map V) ∧ (W).rangeAt lb (lo + i * 32) ((x).map V) := fun W hb => ⟨Ob.below m5 hb, range_below hrg hb⟩
  refine wp_region_held_drew (S := fun W => Ob W g5 23 ((o).map V) ∧ (W).rangeAt lb (lo + i * 32) ((x).map V)) Tryd.mixed (hSall _ bl.drew) (fun hS0 => ?_)
  replace bl := bl.drew
  clear bl0
  generalize w7.drew = w8 at hS0 bl ⊢
  refine wh_take 0 58 (v := .slice lA (l).length lC) rfl rfl (by rw [sz]; decide) rfl (by kernel_rfl) (by kernel_rfl) (by kernel_rfl) (fun _ _ _ h => h) (run_mv rfl x0) hS0 ?_
  intro f9 df2 sz2 old2 new2
  replace x0 := (old2 0 rfl).trans x0
  replace x1 := (old2 1 rfl).trans x1
  replace x5 := (old2 5 rfl).trans x5
  replace x6 := (old2 6 rfl).trans x6
  replace x38 := (old2 38 rfl).trans x38
  replace x7 := (old2 7 rfl).trans x7
  replace x47 := (old2 47 rfl).trans x47
  replace x56 := (old2 56 rfl).trans x56
  have x58 : f9.eval (.tmp 58) = .slice lA (l).length lC := new2
  replace sz := sz2.trans sz
  replace df := df2.trans df
  clear df2 sz2 old2 new2
  refine wh_take 1 59 (v := .int .i64 ((i : Nat) : Int)) rfl rfl (by rw [sz]; decide) rfl (by kernel_rfl) (by kernel_rfl) (by kernel_rfl) (fun _ _ _ h => h) (run_mv rfl x1) hS0 ?_
  intro f10 df2 sz2 old2 new2
  replace x0 := (old2 0 rfl).trans x0
  replace x1 := (old2 1 rfl).trans x1
  replace x5 := (old2 5 rfl).trans x5
  replace x6 := (old2 6 rfl).trans x6
  replace x38 := (old2 38 rfl).trans x38
  replace x7 := (old2 7 rfl).trans x7
  replace x47 := (old2 47 rfl).trans x47
  replace x56 := (old2 56 rfl).trans x56
  replace x58 := (old2 58 rfl).trans x58
  have x59 : f10.eval (.tmp 59) = .int .i64 ((i : Nat) : Int) := new2
  replace sz := sz2.trans sz
  replace df := df2.trans df
  clear df2 sz2 old2 new2
  refine wh_take 2 60 (v := .pointer (some ⟨lb, lo + i * 32, none⟩)) rfl rfl (by rw [sz]; decide) rfl (by kernel_rfl) (by kernel_rfl) (by kernel_rfl) (fun _ _ _ h => h) (run_idxn rfl x58 hlA i x59 hi) hS0 ?_
  intro f11 df2 sz2 old2 new2
  replace x0 := (old2 0 rfl).trans x0
  replace x1 := (old2 1 rfl).trans x1
  replace x5 := (old2 5 rfl).trans x5
  replace x6 := (old2 6 rfl).trans x6
  replace x38 := (old2 38 rfl).trans x38
  replace x7 := (old2 7 rfl).trans x7
  replace x47 := (old2 47 rfl).trans x47
  replace x56 := (old2 56 rfl).trans x56
  replace x58 := (old2 58 rfl).trans x58
  replace x59 := (old2 59 rfl).trans x59
  have x60 : f11.eval (.tmp 60) = .pointer (some ⟨lb, lo + i * 32, none⟩) := new2
  replace sz := sz2.trans sz
  replace df := df2.trans df
  clear df2 sz2 old2 new2
  refine wh_take 3 61 (v := .agg ((x).map V).toArray) rfl rfl (by rw [sz]; decide) rfl (by kernel_rfl) (by kernel_rfl) (by kernel_rfl) (fun _ _ _ h => h) (run_ldh rfl hx32 x60 (fun W hW => hW.2)) hS0 ?_
  intro f12 df2 sz2 old2 new2
  replace x0 := (old2 0 rfl).trans x0
  replace x1 := (old2 1 rfl).trans x1
  replace x5 := (old2 5 rfl).trans x5
  replace x6 := (old2 6 rfl).trans x6
  replace x38 := (old2 38 rfl).trans x38
  replace x7 := (old2 7 rfl).trans x7
  replace x47 := (old2 47 rfl).trans x47
  replace x56 := (old2 56 rfl).trans x56
  replace x58 := (old2 58 rfl).trans x58
  replace x59 := (old2 59 rfl).trans x59
  replace x60 := (old2 60 rfl).trans x60
  have x61 : f12.eval (.tmp 61) = .agg ((x).map V).toArray := new2
  replace sz := sz2.trans sz
  replace df := df2.trans df
  clear df2 sz2 old2 new2
  refine wh_take 4 62 (v := .agg ((o).map V).toArray) rfl rfl (by rw [sz]; decide) rfl (by kernel_rfl) (by kernel_rfl) (by kernel_rfl) (fun _ _ _ h => h) (run_ldh rfl ho x5 (fun W hW => Ob.range hW.1 0 _ (fun j v hj => by simpa using hj))) hS0 ?_
  intro f13 df2 sz2 old2 new2
  replace x0 := (old2 0 rfl).trans x0
  replace x1 := (old2 1 rfl).trans x1
  replace x5 := (old2 5 rfl).trans x5
  replace x6 := (old2 6 rfl).trans x6
  replace x38 := (old2 38 rfl).trans x38
  replace x7 := (old2 7 rfl).trans x7
  replace x47 := (old2 47 rfl).trans x47
  replace x56 := (old2 56 rfl).trans x56
  replace x58 := (old2 58 rfl).trans x58
  replace x59 := (old2 59 rfl).trans x59
  replace x60 := (old2 60 rfl).trans x60
  replace x61 := (old2 61 rfl).trans x61
  have x62 : f13.eval (.tmp 62) = .agg ((o).map V).toArray := new2
  replace sz := sz2.trans sz
  replace df := df2.trans df
  clear df2 sz2 old2 new2
  refine wh_alloc2 5 6 9 10 rfl rfl rfl rfl (by rw [sz]; decide) (by rw [sz]; decide) (by decide) rfl rfl rfl rfl (by kernel_rfl) (by kernel_rfl) (by kernel_rfl) (by decide) (fun W hb => hSall _ (bl.trans (Below.mono hb bl.size))) ?_
  intro f14 w14 g9 g10 df2 sz2 old2 n9 n10 nm9_10 hg9 hg10 m9 m10 hb2
  replace x0 := (old2 0 rfl rfl).trans x0
  replace x1 := (old2 1 rfl rfl).trans x1
  replace x5 := (old2 5 rfl rfl).trans x5
  replace x6 := (old2 6 rfl rfl).trans x6
  replace x38 := (old2 38 rfl rfl).trans x38
  replace x7 := (old2 7 rfl rfl).trans x7
  replace x47 := (old2 47 rfl rfl).trans x47
  replace x56 := (old2 56 rfl rfl).trans x56
  replace x58 := (old2 58 rfl rfl).trans x58
  replace x59 := (old2 59 rfl rfl).trans x59
  replace x60 := (old2 60 rfl rfl).trans x60
  replace x61 := (old2 61 rfl rfl).trans x61
  replace x62 := (old2 62 rfl rfl).trans x62
  have x9 := n9
  have x10 := n10
  have hw9 : w5.heap.size ≤ g9 := Nat.le_trans bl.size hg9
  have hw10 : w5.heap.size ≤ g10 := Nat.le_trans bl.size hg10
  replace bl := bl.trans (Below.mono hb2 bl.size)
  replace sz := sz2.trans sz
  replace df := df2.trans df
  clear df2 sz2 old2 n9 n10 hb2 hS0
  have bl2 : Below w5.heap.size w5 (w14.setRow g9 ((x).map V : List Value).toArray) := bl.trans (below_setRow _ _ _ _ hw9)
  refine wh_store 7 rfl rfl rfl (by kernel_rfl) (.tmp 9) (.tmp 61) rfl g9 (x) (hz) x9 x61 m9 hz_len hx (hSall _ bl2) ?_
  replace m9 : Ob (w14.setRow g9 ((x).map V : List Value).toArray) (g9) 23 ((x).map V) := Ob.setRow m9 ((x).map V)
  replace m10 : Ob (w14.setRow g9 ((x).map V : List Value).toArray) (g10) 23 ((hz).map V) := Ob.setRow_other m10 _ nm9_10.symm
  replace bl := bl2
  clear bl2
  generalize w14.setRow g9 ((x).map V : List Value).toArray = w15 at m9 m10 bl ⊢
  have bl2 : Below w5.heap.size w5 (w15.setRow g10 ((o).map V : List Value).toArray) := bl.trans (below_setRow _ _ _ _ hw10)
  refine wh_store 8 rfl rfl rfl (by kernel_rfl) (.tmp 10) (.tmp 62) rfl g10 (o) (hz) x10 x62 m10 hz_len ho (hSall _ bl2) ?_
  replace m10 : Ob (w15.setRow g10 ((o).map V : List Value).toArray) (g10) 23 ((o).map V) := Ob.setRow m10 ((o).map V)
  replace m9 : Ob (w15.setRow g10 ((o).map V : List Value).toArray) (g9) 23 ((x).map V) := Ob.setRow_other m9 _ nm9_10
  replace bl := bl2
  clear bl2
  generalize w15.setRow g10 ((o).map V : List Value).toArray = w16 at m9 m10 bl ⊢
  refine wpAnyH_done (by kernel_rfl) ?_ _
  have bl0 := bl
  have nm5_9 : g5 ≠ g9 := Nat.ne_of_lt (Nat.lt_of_lt_of_le (Ob.lt m5) hw9)
  have nm5_10 : g5 ≠ g10 := Nat.ne_of_lt (Nat.lt_of_lt_of_le (Ob.lt m5) hw10)
  clear x58
  clear x59
  clear x60
  clear x61
  clear x62
  show Code.wp _ _ _ _ _
  refine wp_seq ?_
  refine wp_all_seq [.eq (.int .i64 ((i : Nat) : Int)), .eq (.slice lA (l).length lC), .eq (.int .i64 (((l).length : Nat) : Int)), .eq (.int .i64 ((((l).length) - 1 : Nat) : Int)), .eq (.int .i64 ((i : Nat) : Int)), .eq (.int .i64 ((((l).length) - 1 : Nat) : Int))] (by kernel_rfl) (by kernel_rfl) (by rw [sz]; kernel_rfl) (by kernel_rfl) ⟨fun hw ac u K => ?_, fun hw ac u K => ?_, fun hw ac u K => ?_, fun hw ac u K => ?_, fun hw ac u K => ?_, fun hw ac u K => ?_, trivial⟩ ?_
  · exact st_move (.tmp 1) rfl ((K.old 1 rfl).trans x1)
  · exact st_move (.tmp 0) rfl ((K.old 0 rfl).trans x0)
  · exact st_lenc (.tmp 64) rfl ((l).length) rfl (fk_val (K.dep 1 64 rfl) (Fk.mono _ _ _ _ hv (bl.trans (Below.mono K.grow bl.size))))
  · exact st_sub (.tmp 65) (.const (.int .i64 1)) rfl ((l).length) (1) (((l).length) - 1) (K.dep 2 65 rfl) rfl (by omega) (by omega)
  · exact st_assign (.tmp 63) rfl (K.dep 0 63 rfl)
  · exact st_assign (.tmp 66) rfl (K.dep 3 66 rfl)
  intro f17 w17 A hb
  replace bl0 := bl
  replace x0 := (A.old 0 rfl).trans x0
  replace x1 := (A.old 1 rfl).trans x1
  replace x5 := (A.old 5 rfl).trans x5
  replace x6 := (A.old 6 rfl).trans x6
  replace x38 := (A.old 38 rfl).trans x38
  replace x7 := (A.old 7 rfl).trans x7
  replace x47 := (A.old 47 rfl).trans x47
  replace x56 := (A.old 56 rfl).trans x56
  replace x9 := (A.old 9 rfl).trans x9
  replace x10 := (A.old 10 rfl).trans x10
  have x11 : f17.eval (.tmp 11) = .int .i64 ((i : Nat) : Int) := A.has 4 11 rfl
  have x12 : f17.eval (.tmp 12) = .int .i64 ((((l).length) - 1 : Nat) : Int) := A.has 5 12 rfl
  have lt_m9 := Ob.lt m9
  replace m9 := Ob.below m9 hb
  have lt_m10 := Ob.lt m10
  replace m10 := Ob.below m10 hb
  replace bl := (bl.trans (Below.mono hb bl.size))
  replace sz := A.size.trans sz
  replace df := A.defs.trans df
  clear A hb
  show Code.wp _ _ _ _ _
  refine wp_seq ?_
  refine wp_seq ?_
  refine wp_all_seq [.eq (v7), .eq (.int .i64 (((P).length : Nat) : Int)), .eq (.int .i64 0)] (by kernel_rfl) (by kernel_rfl) (by rw [sz]; kernel_rfl) (by kernel_rfl) ⟨fun hw ac u K => ?_, fun hw ac u K => ?_, fun hw ac u K => ?_, trivial⟩ ?_
  · exact st_move (.tmp 7) rfl ((K.old 7 rfl).trans x7)
  · exact st_lenc (.tmp 67) rfl ((P).length) rfl (fk_val (K.dep 0 67 rfl) (Fk.mono _ _ _ _ h7 (bl.trans (Below.mono K.grow bl.size))))
  · exact st_move (.const (.int .i64 0)) rfl rfl
  intro f18 w18 A hb
  replace bl0 := bl
  replace x0 := (A.old 0 rfl).trans x0
  replace x1 := (A.old 1 rfl).trans x1
  replace x5 := (A.old 5 rfl).trans x5
  replace x6 := (A.old 6 rfl).trans x6
  replace x38 := (A.old 38 rfl).trans x38
  replace x7 := (A.old 7 rfl).trans x7
  replace x47 := (A.old 47 rfl).trans x47
  replace x56 := (A.old 56 rfl).trans x56
  replace x9 := (A.old 9 rfl).trans x9
  replace x10 := (A.old 10 rfl).trans x10
  replace x11 := (A.old 11 rfl).trans x11
  replace x12 := (A.old 12 rfl).trans x12
  have x67 : f18.eval (.tmp 67) = v7 := A.has 0 67 rfl
  have x68 : f18.eval (.tmp 68) = .int .i64 (((P).length : Nat) : Int) := A.has 1 68 rfl
  have x69 : f18.eval (.tmp 69) = .int .i64 0 := A.has 2 69 rfl
  have lt_m9 := Ob.lt m9
  replace m9 := Ob.below m9 hb
  have lt_m10 := Ob.lt m10
  replace m10 := Ob.below m10 hb
  replace bl := (bl.trans (Below.mono hb bl.size))
  replace sz := A.size.trans sz
  replace df := A.defs.trans df
  clear A hb
  show Code.wp _ _ _ _ _
  refine wp_block ?_
  refine wp_loop (fun f v1 => ∃ k : Nat, k ≤ (P).length ∧ lek x P S k ≠ lek o P S k ∧ f.tmps.size = 124 ∧ f.defers = [] ∧ f.eval (.tmp 0) = .slice lA (l).length lC ∧ f.eval (.tmp 1) = .int .i64 ((i : Nat) : Int) ∧ f.eval (.tmp 5) = .pointer (some ⟨g5, 0, none⟩) ∧ f.eval (.tmp 6) = .bool false ∧ f.eval (.tmp 38) = .bool false ∧ f.eval (.tmp 7) = v7 ∧ f.eval (.tmp 47) = .bool false ∧ f.eval (.tmp 56) = .bool false ∧ f.eval (.tmp 9) = .pointer (some ⟨g9, 0, none⟩) ∧ f.eval (.tmp 10) = .pointer (some ⟨g10, 0, none⟩) ∧ f.eval (.tmp 67) = v7 ∧ f.eval (.tmp 68) = .int .i64 (((P).length : Nat) : Int) ∧ f.eval (.tmp 69) = .int .i64 ((k : Nat) : Int) ∧ f.eval (.tmp 11) = .int .i64 (((itA k (i, l.length - 1)).1 : Nat) : Int) ∧ f.eval (.tmp 12) = .int .i64 (((itA k (i, l.length - 1)).2 : Nat) : Int) ∧ Ob v1 (g9) 23 ((lek x P S k).map V) ∧ Ob v1 (g10) 23 ((lek o P S k).map V) ∧ Below w5.heap.size w5 (v1)) (fun f _ => (P).length - (intOf (f.eval (.tmp 69))).toNat) ⟨0, Nat.zero_le _, (by rw [lek_zero, lek_zero]; exact fun h => hxo h.symm), sz, df, x0, x1, x5, x6, x38, x7, x47, x56, x9, x10, x67, x68, x69, x11, x12, (by rw [lek_zero]; exact m9), (by rw [lek_zero]; exact m10), bl⟩ ?_
  intro f19 w19 hI
  clear sz df bl bl0 x0 x1 x5 x6 x38 x7 x47 x56 x9 x10 x11 x12 x67 x68 x69 m9 m10
  obtain ⟨k, hk, hne, sz, df, x0, x1, x5, x6, x38, x7, x47, x56, x9, x10, x67, x68, x69, x11, x12, m9, m10, bl⟩ := hI
  have bl0 := bl
  have hcnt := x69
  refine wp_seq ?_
  by_cases hlt : k < (P).length
  rotate_left
  · skip
    have hkS : k = S.length := by omega
    rw [hkS, lek_all x hpl, lek_all o hpl, hld, hin] at hne
    exact absurd rfl hne
  obtain ⟨bb, hSk⟩ : ∃ b, S[k]? = some b := ⟨_, List.getElem?_eq_getElem (by omega)⟩
  obtain ⟨p, hPk⟩ : ∃ p, P[k]? = some p := ⟨_, List.getElem?_eq_getElem hlt⟩
  have hp : p.length = 32 := hc_len h7 p (List.mem_of_getElem? hPk)
  have hlx : (lek x P S k).length = 32 := lek_len hx hpl k (by omega)
  have hlo : (lek o P S k).length = 32 := lek_len ho hpl k (by omega)
  have hls := lek_succ x hPk hSk
  have hlt2 := lek_succ o hPk hSk
  have hal := itA_le (i, l.length - 1) k
  have hbb := alg_sides hi h70 (k := k) (by rw [hSd]; omega)
  rw [hSd, hSk] at hbb
  obtain ⟨⟨aa, ll⟩, hit⟩ : ∃ s, itA k (i, l.length - 1) = s := ⟨_, rfl⟩
  have hit3 : itA (k + 1) (i, l.length - 1) = stA (aa, ll) := by rw [← hit]; rfl
  rw [hit] at hal hbb x11 x12
  dsimp only at hal x11 x12
  replace hbb := Option.some.inj hbb
  refine wp_all_seq [.eq (.bool true)] (by kernel_rfl) (by kernel_rfl) (by rw [sz]; kernel_rfl) (by kernel_rfl) ⟨fun hw ac u K => ?_, trivial⟩ ?_
  · exact st_lss 3 (.tmp 69) (.tmp 68) rfl .i64 (((k : Nat) : Int)) ((((P).length : Nat) : Int)) ((K.old 69 rfl).trans x69) ((K.old 68 rfl).trans x68) _ (by rw [eq_comm, decide_eq_true_iff]; exact Int.ofNat_lt.2 hlt)
  intro f20 w20 A hb
  replace bl0 := bl
  replace x0 := (A.old 0 rfl).trans x0
  replace x1 := (A.old 1 rfl).trans x1
  replace x5 := (A.old 5 rfl).trans x5
  replace x6 := (A.old 6 rfl).trans x6
  replace x38 := (A.old 38 rfl).trans x38
  replace x7 := (A.old 7 rfl).trans x7
  replace x47 := (A.old 47 rfl).trans x47
  replace x56 := (A.old 56 rfl).trans x56
  replace x9 := (A.old 9 rfl).trans x9
  replace x10 := (A.old 10 rfl).trans x10
  replace x11 := (A.old 11 rfl).trans x11
  replace x12 := (A.old 12 rfl).trans x12
  replace x67 := (A.old 67 rfl).trans x67
  replace x68 := (A.old 68 rfl).trans x68
  replace x69 := (A.old 69 rfl).trans x69
  have x70 : f20.eval (.tmp 70) = .bool true := A.has 0 70 rfl
  have lt_m9 := Ob.lt m9
  replace m9 := Ob.below m9 hb
  have lt_m10 := Ob.lt m10
  replace m10 := Ob.below m10 hb
  replace bl := (bl.trans (Below.mono hb bl.size))
  replace sz := A.size.trans sz
  replace df := A.defs.trans df
  clear A hb
  show Code.wp _ _ _ _ _
  refine wp_seq ?_
  refine wp_cond_true x70 ?_
  refine wp_skip ?_
  show Code.wp _ _ _ _ _
  refine wp_seq ?_
  refine wp_block ?_
  refine wp_seq ?_
  refine wp_region_seq [.ph (p), .eq (.agg ((p).map V).toArray), .nw w20.heap.size 23 ((hz).map V)] (by kernel_rfl) (by kernel_rfl) (by rw [sz]; kernel_rfl) (by kernel_rfl) ⟨fun hw ac u K => ?_, fun hw ac u K => ?_, fun hw ac u K => ?_, trivial⟩ ?_
  · exact st_idxh (.tmp 67) (.tmp 69) rfl (fk_val ((K.old 67 rfl).trans x67) (Fk.mono _ _ _ _ h7s (bl.trans (Below.mono K.grow bl.size)))) (k) (p) ((K.old 69 rfl).trans x69) hPk
  · exact st_loadh (.tmp 71) rfl (K.dep 0 71 rfl)
  · exact st_alloc23 rfl _ K.grow.size
  intro f21 w21 A hb
  replace bl0 := bl
  replace x0 := (A.old 0 rfl).trans x0
  replace x1 := (A.old 1 rfl).trans x1
  replace x5 := (A.old 5 rfl).trans x5
  replace x6 := (A.old 6 rfl).trans x6
  replace x38 := (A.old 38 rfl).trans x38
  replace x7 := (A.old 7 rfl).trans x7
  replace x47 := (A.old 47 rfl).trans x47
  replace x56 := (A.old 56 rfl).trans x56
  replace x9 := (A.old 9 rfl).trans x9
  replace x10 := (A.old 10 rfl).trans x10
  replace x11 := (A.old 11 rfl).trans x11
  replace x12 := (A.old 12 rfl).trans x12
  replace x67 := (A.old 67 rfl).trans x67
  replace x68 := (A.old 68 rfl).trans x68
  replace x69 := (A.old 69 rfl).trans x69
  replace x70 := (A.old 70 rfl).trans x70
  have x14 : Fk.f (.nw w20.heap.size 23 ((hz).map V)) (f21.eval (.tmp 14)) w21 := A.has 2 14 rfl
  have x72 : f21.eval (.tmp 72) = .agg ((p).map V).toArray := A.has 1 72 rfl
  have lt_m9 := Ob.lt m9
  replace m9 := Ob.below m9 hb
  have lt_m10 := Ob.lt m10
  replace m10 := Ob.below m10 hb
  replace bl := (bl.trans (Below.mono hb bl.size))
  replace sz := A.size.trans sz
  replace df := A.defs.trans df
  clear A hb
  obtain ⟨g14, hg14, e14, m14⟩ := x14
  have x14 := e14
  clear e14
  have nm5_14 : g5 ≠ g14 := Nat.ne_of_lt (Nat.lt_of_lt_of_le (Ob.lt m5) (Nat.le_trans bl0.size hg14))
  have nm9_14 : g9 ≠ g14 := Nat.ne_of_lt (Nat.lt_of_lt_of_le lt_m9 hg14)
  have nm10_14 : g10 ≠ g14 := Nat.ne_of_lt (Nat.lt_of_lt_of_le lt_m10 hg14)
  have hw14 : w5.heap.size ≤ g14 := Nat.le_trans bl0.size hg14
  refine wl_store rfl (.tmp 14) (.tmp 72) rfl rfl (g14) (p) (hz) x14 x72 m14 hz_len hp ?_
  replace m9 : Ob (w21.setRow g14 ((p).map V : List Value).toArray) (g9) 23 ((lek x P S k).map V) := Ob.setRow_other m9 _ nm9_14
  replace m10 : Ob (w21.setRow g14 ((p).map V : List Value).toArray) (g10) 23 ((lek o P S k).map V) := Ob.setRow_other m10 _ nm10_14
  replace m14 : Ob (w21.setRow g14 ((p).map V : List Value).toArray) (g14) 23 ((p).map V) := Ob.setRow m14 ((p).map V)
  replace bl : Below w5.heap.size w5 (w21.setRow g14 ((p).map V : List Value).toArray) := bl.trans (below_setRow _ _ _ _ hw14)
  generalize w21.setRow g14 ((p).map V : List Value).toArray = w22b at bl m9 m10 m14 ⊢
  refine wpList_nil ?_
  clear x72
  show Code.wp _ _ _ _ _
  refine wp_seq ?_
  by_cases hr : aa % 2 = 1 ∨ aa = ll
  rotate_left
  · skip
    obtain rfl : bb = false := by rw [hbb]; simp only [rgt, Bool.or_eq_false_iff, beq_eq_false_iff_ne]; exact ⟨fun h => hr (.inl h), fun h => hr (.inr h)⟩
    obtain ⟨T1, hT1⟩ : ∃ t, aa = t := ⟨_, rfl⟩
    obtain ⟨T2, hT2⟩ : ∃ t, ll = t := ⟨_, rfl⟩
    have hit2 : itA (k + 1) (i, l.length - 1) = (T1 / 2, T2 / 2) := by rw [hit3]; unfold stA; rw [← hbb, ← hT1, ← hT2]; rfl
    have hT70 : T1 ≤ aa ∧ T2 ≤ ll := ⟨by omega, by omega⟩
    obtain ⟨z1, ez1⟩ : ∃ y, Box (nd (lek x P S k) p = y) := ⟨_, ⟨rfl⟩⟩
    have hz1 : z1.length = 32 := by rw [← ez1.out]; exact nd_len _ _
    obtain ⟨z2, ez2⟩ : ∃ y, Box (nd (lek o P S k) p = y) := ⟨_, ⟨rfl⟩⟩
    have hz2 : z2.length = 32 := by rw [← ez2.out]; exact nd_len _ _
    have hlx2 : lek x P S (k + 1) = z1 := by rw [hls]; exact ez1.out
    have hlo2 : lek o P S (k + 1) = z2 := by rw [hlt2]; exact ez2.out
    refine wp_all_seq [.eq (.int .i64 ((aa : Nat) : Int)), .eq (.int .i64 ((aa % 2 : Nat) : Int)), .eq (.bool false), .eq (.bool false), .eq (.int .i64 ((aa : Nat) : Int)), .eq (.int .i64 ((ll : Nat) : Int)), .eq (.bool false), .eq (.bool false), .eq (.bool false)] (by kernel_rfl) (by kernel_rfl) (by rw [sz]; kernel_rfl) (by kernel_rfl) ⟨fun hw ac u K => ?_, fun hw ac u K => ?_, fun hw ac u K => ?_, fun hw ac u K => ?_, fun hw ac u K => ?_, fun hw ac u K => ?_, fun hw ac u K => ?_, fun hw ac u K => ?_, fun hw ac u K => ?_, trivial⟩ ?_
    · exact st_move (.tmp 11) rfl ((K.old 11 rfl).trans x11)
    · exact st_rem2 (.tmp 73) (.const (.int .i64 2)) rfl (aa) (K.dep 0 73 rfl) rfl
    · exact st_eqi 3 (.tmp 74) (.const (.int .i64 1)) rfl .i64 (((aa % 2 : Nat) : Int)) (1) (K.dep 1 74 rfl) rfl _ (by rw [eq_comm, decide_eq_false_iff_not]; omega)
    · exact st_move (.tmp 75) rfl (K.dep 2 75 rfl)
    · exact st_move (.tmp 11) rfl ((K.old 11 rfl).trans x11)
    · exact st_move (.tmp 12) rfl ((K.old 12 rfl).trans x12)
    · exact st_eqi 3 (.tmp 77) (.tmp 78) rfl .i64 (((aa : Nat) : Int)) (((ll : Nat) : Int)) (K.dep 4 77 rfl) (K.dep 5 78 rfl) _ (by rw [eq_comm, decide_eq_false_iff_not]; omega)
    · exact st_pick_f' (.tmp 76) (.const (.bool true)) (.tmp 79) rfl (K.dep 3 76 rfl) (K.dep 6 79 rfl)
    · exact st_assign (.tmp 80) rfl (K.dep 7 80 rfl)
    intro f23 w23 A hb
    replace bl0 := bl
    replace x0 := (A.old 0 rfl).trans x0
    replace x1 := (A.old 1 rfl).trans x1
    replace x5 := (A.old 5 rfl).trans x5
    replace x6 := (A.old 6 rfl).trans x6
    replace x38 := (A.old 38 rfl).trans x38
    replace x7 := (A.old 7 rfl).trans x7
    replace x47 := (A.old 47 rfl).trans x47
    replace x56 := (A.old 56 rfl).trans x56
    replace x9 := (A.old 9 rfl).trans x9
    replace x10 := (A.old 10 rfl).trans x10
    replace x11 := (A.old 11 rfl).trans x11
    replace x12 := (A.old 12 rfl).trans x12
    replace x67 := (A.old 67 rfl).trans x67
    replace x68 := (A.old 68 rfl).trans x68
    replace x69 := (A.old 69 rfl).trans x69
    replace x70 := (A.old 70 rfl).trans x70
    replace x14 := (A.old 14 rfl).trans x14
    have x15 : f23.eval (.tmp 15) = .bool false := A.has 8 15 rfl
    have lt_m9 := Ob.lt m9
    replace m9 := Ob.below m9 hb
    have lt_m10 := Ob.lt m10
    replace m10 := Ob.below m10 hb
    have lt_m14 := Ob.lt m14
    replace m14 := Ob.below m14 hb
    replace bl := (bl.trans (Below.mono hb bl.size))
    replace sz := A.size.trans sz
    replace df := A.defs.trans df
    clear A hb
    show Code.wp _ _ _ _ _
    refine wp_seq ?_
    obtain ⟨jF, hjF⟩ : ∃ F : Act → World → Prop, F = fun f v1 => f.tmps.size = 124 ∧ f.defers = [] ∧ f.eval (.tmp 0) = .slice lA (l).length lC ∧ f.eval (.tmp 1) = .int .i64 ((i : Nat) : Int) ∧ f.eval (.tmp 5) = .pointer (some ⟨g5, 0, none⟩) ∧ f.eval (.tmp 6) = .bool false ∧ f.eval (.tmp 38) = .bool false ∧ f.eval (.tmp 7) = v7 ∧ f.eval (.tmp 47) = .bool false ∧ f.eval (.tmp 56) = .bool false ∧ f.eval (.tmp 9) = .pointer (some ⟨g9, 0, none⟩) ∧ f.eval (.tmp 10) = .pointer (some ⟨g10, 0, none⟩) ∧ f.eval (.tmp 67) = v7 ∧ f.eval (.tmp 68) = .int .i64 (((P).length : Nat) : Int) ∧ f.eval (.tmp 69) = .int .i64 ((k : Nat) : Int) ∧ f.eval (.tmp 70) = .bool true ∧ f.eval (.tmp 14) = .pointer (some ⟨g14, 0, none⟩) ∧ f.eval (.tmp 15) = .bool false ∧ f.eval (.tmp 90) = .bool false ∧ f.eval (.tmp 11) = .int .i64 ((T1 : Nat) : Int) ∧ f.eval (.tmp 12) = .int .i64 ((T2 : Nat) : Int) ∧ Ob v1 (g9) 23 ((lek x P S k).map V) ∧ Ob v1 (g10) 23 ((lek o P S k).map V) ∧ Ob v1 (g14) 23 ((p).map V) ∧ Below w5.heap.size w5 (v1) := ⟨_, rfl⟩
    refine wp_join (F := jF) ?_ (fun f24 w24 hI => ?_)
    · refine wp_block ?_
      refine wp_loop (fun f v1 => ∃ q : Nat, f.tmps.size = 124 ∧ f.defers = [] ∧ f.eval (.tmp 0) = .slice lA (l).length lC ∧ f.eval (.tmp 1) = .int .i64 ((i : Nat) : Int) ∧ f.eval (.tmp 5) = .pointer (some ⟨g5, 0, none⟩) ∧ f.eval (.tmp 6) = .bool false ∧ f.eval (.tmp 38) = .bool false ∧ f.eval (.tmp 7) = v7 ∧ f.eval (.tmp 47) = .bool false ∧ f.eval (.tmp 56) = .bool false ∧ f.eval (.tmp 9) = .pointer (some ⟨g9, 0, none⟩) ∧ f.eval (.tmp 10) = .pointer (some ⟨g10, 0, none⟩) ∧ f.eval (.tmp 11) = .int .i64 ((aa : Nat) : Int) ∧ f.eval (.tmp 12) = .int .i64 ((ll : Nat) : Int) ∧ f.eval (.tmp 67) = v7 ∧ f.eval (.tmp 68) = .int .i64 (((P).length : Nat) : Int) ∧ f.eval (.tmp 69) = .int .i64 ((k : Nat) : Int) ∧ f.eval (.tmp 70) = .bool true ∧ f.eval (.tmp 14) = .pointer (some ⟨g14, 0, none⟩) ∧ f.eval (.tmp 15) = .bool false ∧ Ob v1 (g9) 23 ((lek x P S k).map V) ∧ Ob v1 (g10) 23 ((lek o P S k).map V) ∧ Ob v1 (g14) 23 ((p).map V) ∧ Below w5.heap.size w5 (v1)) (fun f _ => 0) ⟨0, sz, df, x0, x1, x5, x6, x38, x7, x47, x56, x9, x10, x11, x12, x67, x68, x69, x70, x14, x15, m9, m10, m14, bl⟩ ?_
      intro f24 w24 hI
      clear sz df bl bl0 x0 x1 x5 x6 x38 x7 x47 x56 x9 x10 x11 x12 x67 x68 x69 x70 x14 x15 m9 m10 m14
      obtain ⟨q, sz, df, x0, x1, x5, x6, x38, x7, x47, x56, x9, x10, x11, x12, x67, x68, x69, x70, x14, x15, m9, m10, m14, bl⟩ := hI
      have bl0 := bl
      refine wp_seq ?_
      refine wp_seq ?_
      refine wp_all_seq [.eq (.bool false), .eq (.bool false), .any, .any, .any, .eq (.bool false), .eq (.bool false), .any, .any, .eq (.bool false)] (by kernel_rfl) (by kernel_rfl) (by rw [sz]; kernel_rfl) (by kernel_rfl) ⟨fun hw ac u K => ?_, fun hw ac u K => ?_, fun hw ac u K => ?_, fun hw ac u K => ?_, fun hw ac u K => ?_, fun hw ac u K => ?_, fun hw ac u K => ?_, fun hw ac u K => ?_, fun hw ac u K => ?_, fun hw ac u K => ?_, trivial⟩ ?_
      · exact st_move (.tmp 15) rfl ((K.old 15 rfl).trans x15)
      · exact st_move (.tmp 81) rfl (K.dep 0 81 rfl)
      · exact (Bool.false_ne_true hw).elim
      · exact (Bool.false_ne_true hw).elim
      · exact (Bool.false_ne_true hw).elim
      · exact st_pick_f' (.tmp 82) (.tmp 85) (.const (.bool false)) rfl (K.dep 1 82 rfl) rfl
      · exact st_move (.tmp 86) rfl (K.dep 5 86 rfl)
      · exact (Bool.false_ne_true hw).elim
      · exact (Bool.false_ne_true hw).elim
      · exact st_pick_f' (.tmp 87) (.tmp 89) (.const (.bool false)) rfl (K.dep 6 87 rfl) rfl
      intro f25 w25 A hb
      replace bl0 := bl
      replace x0 := (A.old 0 rfl).trans x0
      replace x1 := (A.old 1 rfl).trans x1
      replace x5 := (A.old 5 rfl).trans x5
      replace x6 := (A.old 6 rfl).trans x6
      replace x38 := (A.old 38 rfl).trans x38
      replace x7 := (A.old 7 rfl).trans x7
      replace x47 := (A.old 47 rfl).trans x47
      replace x56 := (A.old 56 rfl).trans x56
      replace x9 := (A.old 9 rfl).trans x9
      replace x10 := (A.old 10 rfl).trans x10
      replace x11 := (A.old 11 rfl).trans x11
      replace x12 := (A.old 12 rfl).trans x12
      replace x67 := (A.old 67 rfl).trans x67
      replace x68 := (A.old 68 rfl).trans x68
      replace x69 := (A.old 69 rfl).trans x69
      replace x70 := (A.old 70 rfl).trans x70
      replace x14 := (A.old 14 rfl).trans x14
      replace x15 := (A.old 15 rfl).trans x15
      have x90 : f25.eval (.tmp 90) = .bool false := A.has 9 90 rfl
      have lt_m9 := Ob.lt m9
      replace m9 := Ob.below m9 hb
      have lt_m10 := Ob.lt m10
      replace m10 := Ob.below m10 hb
      have lt_m14 := Ob.lt m14
      replace m14 := Ob.below m14 hb
      replace bl := (bl.trans (Below.mono hb bl.size))
      replace sz := A.size.trans sz
      replace df := A.defs.trans df
      clear A hb
      show Code.wp _ _ _ _ _
      refine wp_cond_false x90 ?_
      refine wp_exit ?_
      rw [hT1] at x11
      rw [hT2] at x12
      show jF f25 w25
      rw [hjF]
      exact ⟨sz, df, x0, x1, x5, x6, x38, x7, x47, x56, x9, x10, x67, x68, x69, x70, x14, x15, x90, x11, x12, m9, m10, m14, bl⟩
    clear sz df bl bl0 x0 x1 x5 x6 x38 x7 x47 x56 x9 x10 x11 x12 x67 x68 x69 x70 x14 x15 m9 m10 m14
    rw [hjF] at hI
    clear hjF
    obtain ⟨sz, df, x0, x1, x5, x6, x38, x7, x47, x56, x9, x10, x67, x68, x69, x70, x14, x15, x90, x11, x12, m9, m10, m14, bl⟩ := hI
    have bl0 := bl
    show Code.wp _ _ _ _ _
    refine wp_seq ?_
    refine wp_region_new [.eq (.agg ((lek x P S k).map V).toArray), .eq (.agg ((p).map V).toArray), .eq (.agg ((z1).map V).toArray), .eq (.agg ((lek o P S k).map V).toArray), .eq (.agg ((p).map V).toArray), .eq (.agg ((z2).map V).toArray), .pn w24.heap.size hz, .pn w24.heap.size hz] [8, 9] [(6, 16), (7, 17)] (by kernel_rfl) (by intro x hx; simp only [List.mem_cons, List.not_mem_nil, or_false] at hx; rcases hx with rfl | rfl <;> rfl) (by kernel_rfl) (by kernel_rfl) (by kernel_rfl) (by kernel_rfl) (by rw [sz]; kernel_rfl) (by kernel_rfl) ⟨fun hw ac u K => ?_, fun hw ac u K => ?_, fun hw ac u K => ?_, fun hw ac u K => ?_, fun hw ac u K => ?_, fun hw ac u K => ?_, fun hw ac u K => ?_, fun hw ac u K => ?_, trivial⟩ ?_
    · exact st_load23 (.tmp 9) rfl (g9) (lek x P S k) ((K.old 9 rfl).trans x9) hlx (Ob.below m9 K.grow)
    · exact st_load23 (.tmp 14) rfl (g14) (p) ((K.old 14 rfl).trans x14) hp (Ob.below m14 K.grow)
    · exact st_call 21 (.func 21) _ _ #[.agg ((lek x P S k).map V).toArray, .agg ((p).map V).toArray] rfl rfl (arg2 (K.dep 0 95 rfl) (K.dep 1 96 rfl)) Tryd.enter21 (fk_node hlx hp (hK.below (bl.trans (Below.mono K.grow bl.size))) ez1)
    · exact st_load23 (.tmp 10) rfl (g10) (lek o P S k) ((K.old 10 rfl).trans x10) hlo (Ob.below m10 K.grow)
    · exact st_load23 (.tmp 14) rfl (g14) (p) ((K.old 14 rfl).trans x14) hp (Ob.below m14 K.grow)
    · exact st_call 21 (.func 21) _ _ #[.agg ((lek o P S k).map V).toArray, .agg ((p).map V).toArray] rfl rfl (arg2 (K.dep 3 98 rfl) (K.dep 4 99 rfl)) Tryd.enter21 (fk_node hlo hp (hK.below (bl.trans (Below.mono K.grow bl.size))) ez2)
    · exact st_alloc23 rfl _ K.grow.size
    · exact st_alloc23 rfl _ K.grow.size
    intro f25 w25 A hap hb
    replace bl0 := bl
    replace x0 := (A.old 0 rfl).trans x0
    replace x1 := (A.old 1 rfl).trans x1
    replace x5 := (A.old 5 rfl).trans x5
    replace x6 := (A.old 6 rfl).trans x6
    replace x38 := (A.old 38 rfl).trans x38
    replace x7 := (A.old 7 rfl).trans x7
    replace x47 := (A.old 47 rfl).trans x47
    replace x56 := (A.old 56 rfl).trans x56
    replace x9 := (A.old 9 rfl).trans x9
    replace x10 := (A.old 10 rfl).trans x10
    replace x67 := (A.old 67 rfl).trans x67
    replace x68 := (A.old 68 rfl).trans x68
    replace x69 := (A.old 69 rfl).trans x69
    replace x70 := (A.old 70 rfl).trans x70
    replace x14 := (A.old 14 rfl).trans x14
    replace x15 := (A.old 15 rfl).trans x15
    replace x90 := (A.old 90 rfl).trans x90
    replace x11 := (A.old 11 rfl).trans x11
    replace x12 := (A.old 12 rfl).trans x12
    have x16 : Fk.f (.pn w24.heap.size hz) (f25.eval (.tmp 16)) w25 := A.has 6 16 rfl
    have x17 : Fk.f (.pn w24.heap.size hz) (f25.eval (.tmp 17)) w25 := A.has 7 17 rfl
    have x97 : f25.eval (.tmp 97) = .agg ((z1).map V).toArray := A.has 2 97 rfl
    have x100 : f25.eval (.tmp 100) = .agg ((z2).map V).toArray := A.has 5 100 rfl
    have lt_m9 := Ob.lt m9
    replace m9 := Ob.below m9 hb
    have lt_m10 := Ob.lt m10
    replace m10 := Ob.below m10 hb
    have lt_m14 := Ob.lt m14
    replace m14 := Ob.below m14 hb
    replace bl := (bl.trans (Below.mono hb bl.size))
    replace sz := A.size.trans sz
    replace df := A.defs.trans df
    clear A hb
    obtain ⟨g16, hg16, e16, m16⟩ := x16
    have x16 := e16
    clear e16
    have nm5_16 : g5 ≠ g16 := Nat.ne_of_lt (Nat.lt_of_lt_of_le (Ob.lt m5) (Nat.le_trans bl0.size hg16))
    have nm9_16 : g9 ≠ g16 := Nat.ne_of_lt (Nat.lt_of_lt_of_le lt_m9 hg16)
    have nm10_16 : g10 ≠ g16 := Nat.ne_of_lt (Nat.lt_of_lt_of_le lt_m10 hg16)
    have nm14_16 : g14 ≠ g16 := Nat.ne_of_lt (Nat.lt_of_lt_of_le lt_m14 hg16)
    have hw16 : w5.heap.size ≤ g16 := Nat.le_trans bl0.size hg16
    obtain ⟨g17, hg17, e17, m17⟩ := x17
    have x17 := e17
    clear e17
    have nm5_17 : g5 ≠ g17 := Nat.ne_of_lt (Nat.lt_of_lt_of_le (Ob.lt m5) (Nat.le_trans bl0.size hg17))
    have nm9_17 : g9 ≠ g17 := Nat.ne_of_lt (Nat.lt_of_lt_of_le lt_m9 hg17)
    have nm10_17 : g10 ≠ g17 := Nat.ne_of_lt (Nat.lt_of_lt_of_le lt_m10 hg17)
    have nm14_17 : g14 ≠ g17 := Nat.ne_of_lt (Nat.lt_of_lt_of_le lt_m14 hg17)
    have nm16_17 : g16 ≠ g17 := fun e => hap (6, 16) (by simp) (7, 17) (by simp) (by decide) (by rw [x16, x17, e])
    have hw17 : w5.heap.size ≤ g17 := Nat.le_trans bl0.size hg17
    refine wl_store rfl (.tmp 16) (.tmp 97) rfl rfl (g16) (z1) (hz) x16 x97 m16 hz_len hz1 ?_
    replace m9 : Ob (w25.setRow g16 ((z1).map V : List Value).toArray) (g9) 23 ((lek x P S k).map V) := Ob.setRow_other m9 _ nm9_16
    replace m10 : Ob (w25.setRow g16 ((z1).map V : List Value).toArray) (g10) 23 ((lek o P S k).map V) := Ob.setRow_other m10 _ nm10_16
    replace m14 : Ob (w25.setRow g16 ((z1).map V : List Value).toArray) (g14) 23 ((p).map V) := Ob.setRow_other m14 _ nm14_16
    replace m16 : Ob (w25.setRow g16 ((z1).map V : List Value).toArray) (g16) 23 ((z1).map V) := Ob.setRow m16 ((z1).map V)
    replace m17 : Ob (w25.setRow g16 ((z1).map V : List Value).toArray) (g17) 23 ((hz).map V) := Ob.setRow_other m17 _ nm16_17.symm
    replace bl : Below w5.heap.size w5 (w25.setRow g16 ((z1).map V : List Value).toArray) := bl.trans (below_setRow _ _ _ _ hw16)
    generalize w25.setRow g16 ((z1).map V : List Value).toArray = w26b at bl m9 m10 m14 m16 m17 ⊢
    clear x97
    refine wl_store rfl (.tmp 17) (.tmp 100) rfl rfl (g17) (z2) (hz) x17 x100 m17 hz_len hz2 ?_
    replace m9 : Ob (w26b.setRow g17 ((z2).map V : List Value).toArray) (g9) 23 ((lek x P S k).map V) := Ob.setRow_other m9 _ nm9_17
    replace m10 : Ob (w26b.setRow g17 ((z2).map V : List Value).toArray) (g10) 23 ((lek o P S k).map V) := Ob.setRow_other m10 _ nm10_17
    replace m14 : Ob (w26b.setRow g17 ((z2).map V : List Value).toArray) (g14) 23 ((p).map V) := Ob.setRow_other m14 _ nm14_17
    replace m16 : Ob (w26b.setRow g17 ((z2).map V : List Value).toArray) (g16) 23 ((z1).map V) := Ob.setRow_other m16 _ nm16_17
    replace m17 : Ob (w26b.setRow g17 ((z2).map V : List Value).toArray) (g17) 23 ((z2).map V) := Ob.setRow m17 ((z2).map V)
    replace bl : Below w5.heap.size w5 (w26b.setRow g17 ((z2).map V : List Value).toArray) := bl.trans (below_setRow _ _ _ _ hw17)
    generalize w26b.setRow g17 ((z2).map V : List Value).toArray = w27b at bl m9 m10 m14 m16 m17 ⊢
    refine wpList_nil ?_
    clear x100
    show Code.wp _ _ _ _ _
    refine wp_seq ?_
    refine wp_seq ?_
    refine wp_all_seq [.eq (.bool false)] (by kernel_rfl) (by kernel_rfl) (by rw [sz]; kernel_rfl) (by kernel_rfl) ⟨fun hw ac u K => ?_, trivial⟩ ?_
    · exact st_move (.tmp 15) rfl ((K.old 15 rfl).trans x15)
    intro f28 w28 A hb
    replace bl0 := bl
    replace x0 := (A.old 0 rfl).trans x0
    replace x1 := (A.old 1 rfl).trans x1
    replace x5 := (A.old 5 rfl).trans x5
    replace x6 := (A.old 6 rfl).trans x6
    replace x38 := (A.old 38 rfl).trans x38
    replace x7 := (A.old 7 rfl).trans x7
    replace x47 := (A.old 47 rfl).trans x47
    replace x56 := (A.old 56 rfl).trans x56
    replace x9 := (A.old 9 rfl).trans x9
    replace x10 := (A.old 10 rfl).trans x10
    replace x67 := (A.old 67 rfl).trans x67
    replace x68 := (A.old 68 rfl).trans x68
    replace x69 := (A.old 69 rfl).trans x69
    replace x70 := (A.old 70 rfl).trans x70
    replace x14 := (A.old 14 rfl).trans x14
    replace x15 := (A.old 15 rfl).trans x15
    replace x90 := (A.old 90 rfl).trans x90
    replace x11 := (A.old 11 rfl).trans x11
    replace x12 := (A.old 12 rfl).trans x12
    replace x16 := (A.old 16 rfl).trans x16
    replace x17 := (A.old 17 rfl).trans x17
    have x101 : f28.eval (.tmp 101) = .bool false := A.has 0 101 rfl
    have lt_m9 := Ob.lt m9
    replace m9 := Ob.below m9 hb
    have lt_m10 := Ob.lt m10
    replace m10 := Ob.below m10 hb
    have lt_m14 := Ob.lt m14
    replace m14 := Ob.below m14 hb
    have lt_m16 := Ob.lt m16
    replace m16 := Ob.below m16 hb
    have lt_m17 := Ob.lt m17
    replace m17 := Ob.below m17 hb
    replace bl := (bl.trans (Below.mono hb bl.size))
    replace sz := A.size.trans sz
    replace df := A.defs.trans df
    clear A hb
    show Code.wp _ _ _ _ _
    refine wp_cond_false x101 ?_
    refine wp_skip ?_
    show Code.wp _ _ _ _ _
    refine wp_seq ?_
    refine wp_seq ?_
    by_cases hyy : z1 = z2
    rotate_left
    · skip
      refine wp_all_seq [.eq (.agg ((z1).map V).toArray), .eq (.agg ((z2).map V).toArray), .eq (.bool false)] (by kernel_rfl) (by kernel_rfl) (by rw [sz]; kernel_rfl) (by kernel_rfl) ⟨fun hw ac u K => ?_, fun hw ac u K => ?_, fun hw ac u K => ?_, trivial⟩ ?_
      · exact st_load23 (.tmp 16) rfl (g16) (z1) ((K.old 16 rfl).trans x16) hz1 (Ob.below m16 K.grow)
      · exact st_load23 (.tmp 17) rfl (g17) (z2) ((K.old 17 rfl).trans x17) hz2 (Ob.below m17 K.grow)
      · exact st_eqh (.tmp 108) (.tmp 109) rfl (z1) (z2) hz1 hz2 (K.dep 0 108 rfl) (K.dep 1 109 rfl) _ (by rw [eq_comm, decide_eq_false_iff_not]; exact hyy)
      intro f29 w29 A hb
      replace bl0 := bl
      replace x0 := (A.old 0 rfl).trans x0
      replace x1 := (A.old 1 rfl).trans x1
      replace x5 := (A.old 5 rfl).trans x5
      replace x6 := (A.old 6 rfl).trans x6
      replace x38 := (A.old 38 rfl).trans x38
      replace x7 := (A.old 7 rfl).trans x7
      replace x47 := (A.old 47 rfl).trans x47
      replace x56 := (A.old 56 rfl).trans x56
      replace x9 := (A.old 9 rfl).trans x9
      replace x10 := (A.old 10 rfl).trans x10
      replace x67 := (A.old 67 rfl).trans x67
      replace x68 := (A.old 68 rfl).trans x68
      replace x69 := (A.old 69 rfl).trans x69
      replace x70 := (A.old 70 rfl).trans x70
      replace x14 := (A.old 14 rfl).trans x14
      replace x15 := (A.old 15 rfl).trans x15
      replace x90 := (A.old 90 rfl).trans x90
      replace x11 := (A.old 11 rfl).trans x11
      replace x12 := (A.old 12 rfl).trans x12
      replace x16 := (A.old 16 rfl).trans x16
      replace x17 := (A.old 17 rfl).trans x17
      replace x101 := (A.old 101 rfl).trans x101
      have x110 : f29.eval (.tmp 110) = .bool false := A.has 2 110 rfl
      have lt_m9 := Ob.lt m9
      replace m9 := Ob.below m9 hb
      have lt_m10 := Ob.lt m10
      replace m10 := Ob.below m10 hb
      have lt_m14 := Ob.lt m14
      replace m14 := Ob.below m14 hb
      have lt_m16 := Ob.lt m16
      replace m16 := Ob.below m16 hb
      have lt_m17 := Ob.lt m17
      replace m17 := Ob.below m17 hb
      replace bl := (bl.trans (Below.mono hb bl.size))
      replace sz := A.size.trans sz
      replace df := A.defs.trans df
      clear A hb
      show Code.wp _ _ _ _ _
      refine wp_cond_false x110 ?_
      refine wp_skip ?_
      show Code.wp _ _ _ _ _
      refine wp_seq ?_
      clear m5
      clear m14
      refine wp_region_held_drew (S := fun W => Ob (W) g16 23 ((z1).map V) ∧ Ob (W) g17 23 ((z2).map V)) Tryd.mixed ⟨m16, m17⟩ (fun hS0 => ?_)
      replace m9 : Ob w29.drew g9 23 ((lek x P S k).map V) := m9
      replace m10 : Ob w29.drew g10 23 ((lek o P S k).map V) := m10
      replace bl := bl.drew
      clear bl0 m16 m17
      generalize w29.drew = w30 at hS0 m9 m10 bl ⊢
      refine wh_take 0 117 (v := .agg ((z1).map V).toArray) rfl rfl (by rw [sz]; decide) rfl (by kernel_rfl) (by kernel_rfl) (by kernel_rfl) (fun _ _ _ h => h) (run_ldh rfl hz1 x16 (fun W hW => Ob.range hW.1 0 _ (fun j v hj => by simpa using hj))) hS0 ?_
      intro f31 df2 sz2 old2 new2
      replace x0 := (old2 0 rfl).trans x0
      replace x1 := (old2 1 rfl).trans x1
      replace x5 := (old2 5 rfl).trans x5
      replace x6 := (old2 6 rfl).trans x6
      replace x38 := (old2 38 rfl).trans x38
      replace x7 := (old2 7 rfl).trans x7
      replace x47 := (old2 47 rfl).trans x47
      replace x56 := (old2 56 rfl).trans x56
      replace x9 := (old2 9 rfl).trans x9
      replace x10 := (old2 10 rfl).trans x10
      replace x67 := (old2 67 rfl).trans x67
      replace x68 := (old2 68 rfl).trans x68
      replace x69 := (old2 69 rfl).trans x69
      replace x70 := (old2 70 rfl).trans x70
      replace x14 := (old2 14 rfl).trans x14
      replace x15 := (old2 15 rfl).trans x15
      replace x90 := (old2 90 rfl).trans x90
      replace x11 := (old2 11 rfl).trans x11
      replace x12 := (old2 12 rfl).trans x12
      replace x16 := (old2 16 rfl).trans x16
      replace x17 := (old2 17 rfl).trans x17
      replace x101 := (old2 101 rfl).trans x101
      replace x110 := (old2 110 rfl).trans x110
      have x117 : f31.eval (.tmp 117) = .agg ((z1).map V).toArray := new2
      replace sz := sz2.trans sz
      replace df := df2.trans df
      clear df2 sz2 old2 new2
      refine wh_take 1 118 (v := .agg ((z2).map V).toArray) rfl rfl (by rw [sz]; decide) rfl (by kernel_rfl) (by kernel_rfl) (by kernel_rfl) (fun _ _ _ h => h) (run_ldh rfl hz2 x17 (fun W hW => Ob.range hW.2 0 _ (fun j v hj => by simpa using hj))) hS0 ?_
      intro f32 df2 sz2 old2 new2
      replace x0 := (old2 0 rfl).trans x0
      replace x1 := (old2 1 rfl).trans x1
      replace x5 := (old2 5 rfl).trans x5
      replace x6 := (old2 6 rfl).trans x6
      replace x38 := (old2 38 rfl).trans x38
      replace x7 := (old2 7 rfl).trans x7
      replace x47 := (old2 47 rfl).trans x47
      replace x56 := (old2 56 rfl).trans x56
      replace x9 := (old2 9 rfl).trans x9
      replace x10 := (old2 10 rfl).trans x10
      replace x67 := (old2 67 rfl).trans x67
      replace x68 := (old2 68 rfl).trans x68
      replace x69 := (old2 69 rfl).trans x69
      replace x70 := (old2 70 rfl).trans x70
      replace x14 := (old2 14 rfl).trans x14
      replace x15 := (old2 15 rfl).trans x15
      replace x90 := (old2 90 rfl).trans x90
      replace x11 := (old2 11 rfl).trans x11
      replace x12 := (old2 12 rfl).trans x12
      replace x16 := (old2 16 rfl).trans x16
      replace x17 := (old2 17 rfl).trans x17
      replace x101 := (old2 101 rfl).trans x101
      replace x110 := (old2 110 rfl).trans x110
      replace x117 := (old2 117 rfl).trans x117
      have x118 : f32.eval (.tmp 118) = .agg ((z2).map V).toArray := new2
      replace sz := sz2.trans sz
      replace df := df2.trans df
      clear df2 sz2 old2 new2
      have hS1 : Ob (w30.setRow g9 ((z1).map V : List Value).toArray) g16 23 ((z1).map V) ∧ Ob (w30.setRow g9 ((z1).map V : List Value).toArray) g17 23 ((z2).map V) := ⟨Ob.setRow_other hS0.1 _ nm9_16.symm, Ob.setRow_other hS0.2 _ nm9_17.symm⟩
      refine wh_store 2 rfl rfl rfl (by kernel_rfl) (.tmp 9) (.tmp 117) rfl g9 (z1) (lek x P S k) x9 x117 m9 hlx hz1 hS1 ?_
      replace m9 : Ob (w30.setRow g9 ((z1).map V : List Value).toArray) (g9) 23 ((z1).map V) := Ob.setRow m9 ((z1).map V)
      replace m10 : Ob (w30.setRow g9 ((z1).map V : List Value).toArray) (g10) 23 ((lek o P S k).map V) := Ob.setRow_other m10 _ nm9_10.symm
      replace bl : Below w5.heap.size w5 (w30.setRow g9 ((z1).map V : List Value).toArray) := bl.trans (below_setRow _ _ _ _ hw9)
      replace hS0 := hS1
      clear hS1
      generalize w30.setRow g9 ((z1).map V : List Value).toArray = w33 at hS0 m9 m10 bl ⊢
      have hS1 : Ob (w33.setRow g10 ((z2).map V : List Value).toArray) g16 23 ((z1).map V) ∧ Ob (w33.setRow g10 ((z2).map V : List Value).toArray) g17 23 ((z2).map V) := ⟨Ob.setRow_other hS0.1 _ nm10_16.symm, Ob.setRow_other hS0.2 _ nm10_17.symm⟩
      refine wh_store 3 rfl rfl rfl (by kernel_rfl) (.tmp 10) (.tmp 118) rfl g10 (z2) (lek o P S k) x10 x118 m10 hlo hz2 hS1 ?_
      replace m9 : Ob (w33.setRow g10 ((z2).map V : List Value).toArray) (g9) 23 ((z1).map V) := Ob.setRow_other m9 _ nm9_10
      replace m10 : Ob (w33.setRow g10 ((z2).map V : List Value).toArray) (g10) 23 ((z2).map V) := Ob.setRow m10 ((z2).map V)
      replace bl : Below w5.heap.size w5 (w33.setRow g10 ((z2).map V : List Value).toArray) := bl.trans (below_setRow _ _ _ _ hw10)
      replace hS0 := hS1
      clear hS1
      generalize w33.setRow g10 ((z2).map V : List Value).toArray = w34 at hS0 m9 m10 bl ⊢
      refine wpAnyH_done (by kernel_rfl) ?_ _
      have m16 := hS0.1
      have m17 := hS0.2
      have bl0 := bl
      clear hS0
      clear x117
      clear x118
      show Code.wp _ _ _ _ _
      refine wp_region_seq [.eq (.int .i64 ((T1 : Nat) : Int)), .eq (.int .i64 ((T1 / 2 : Nat) : Int)), .eq (.int .i64 ((T2 : Nat) : Int)), .eq (.int .i64 ((T2 / 2 : Nat) : Int))] (by kernel_rfl) (by kernel_rfl) (by rw [sz]; kernel_rfl) (by kernel_rfl) ⟨fun hw ac u K => ?_, fun hw ac u K => ?_, fun hw ac u K => ?_, fun hw ac u K => ?_, trivial⟩ ?_
      · exact st_move (.tmp 11) rfl ((K.old 11 rfl).trans x11)
      · exact st_half (.tmp 119) (.const (.int .i64 2)) rfl (T1) _ rfl (by omega) (K.dep 0 119 rfl) rfl
      · exact st_move (.tmp 12) rfl ((K.old 12 rfl).trans x12)
      · exact st_half (.tmp 121) (.const (.int .i64 2)) rfl (T2) _ rfl (by omega) (K.dep 2 121 rfl) rfl
      intro f35 w35 A hb
      replace bl0 := bl
      replace x0 := (A.old 0 rfl).trans x0
      replace x1 := (A.old 1 rfl).trans x1
      replace x5 := (A.old 5 rfl).trans x5
      replace x6 := (A.old 6 rfl).trans x6
      replace x38 := (A.old 38 rfl).trans x38
      replace x7 := (A.old 7 rfl).trans x7
      replace x47 := (A.old 47 rfl).trans x47
      replace x56 := (A.old 56 rfl).trans x56
      replace x9 := (A.old 9 rfl).trans x9
      replace x10 := (A.old 10 rfl).trans x10
      replace x67 := (A.old 67 rfl).trans x67
      replace x68 := (A.old 68 rfl).trans x68
      replace x69 := (A.old 69 rfl).trans x69
      replace x70 := (A.old 70 rfl).trans x70
      replace x14 := (A.old 14 rfl).trans x14
      replace x15 := (A.old 15 rfl).trans x15
      replace x90 := (A.old 90 rfl).trans x90
      replace x11 := (A.old 11 rfl).trans x11
      replace x12 := (A.old 12 rfl).trans x12
      replace x16 := (A.old 16 rfl).trans x16
      replace x17 := (A.old 17 rfl).trans x17
      replace x101 := (A.old 101 rfl).trans x101
      replace x110 := (A.old 110 rfl).trans x110
      have x120 : f35.eval (.tmp 120) = .int .i64 ((T1 / 2 : Nat) : Int) := A.has 1 120 rfl
      have x122 : f35.eval (.tmp 122) = .int .i64 ((T2 / 2 : Nat) : Int) := A.has 3 122 rfl
      have lt_m9 := Ob.lt m9
      replace m9 := Ob.below m9 hb
      have lt_m10 := Ob.lt m10
      replace m10 := Ob.below m10 hb
      have lt_m16 := Ob.lt m16
      replace m16 := Ob.below m16 hb
      have lt_m17 := Ob.lt m17
      replace m17 := Ob.below m17 hb
      replace bl := (bl.trans (Below.mono hb bl.size))
      replace sz := A.size.trans sz
      replace df := A.defs.trans df
      clear A hb
      refine wl_one (.eq (.int .i64 ((T1 / 2 : Nat) : Int))) rfl 11 rfl (by rw [sz]; decide) (st_assign (.tmp 120) rfl x120) ?_
      intro f36 w36 df2 sz2 old2 new2 hb
      replace bl0 := bl
      replace x0 := (old2 0 rfl).trans x0
      replace x1 := (old2 1 rfl).trans x1
      replace x5 := (old2 5 rfl).trans x5
      replace x6 := (old2 6 rfl).trans x6
      replace x38 := (old2 38 rfl).trans x38
      replace x7 := (old2 7 rfl).trans x7
      replace x47 := (old2 47 rfl).trans x47
      replace x56 := (old2 56 rfl).trans x56
      replace x9 := (old2 9 rfl).trans x9
      replace x10 := (old2 10 rfl).trans x10
      replace x67 := (old2 67 rfl).trans x67
      replace x68 := (old2 68 rfl).trans x68
      replace x69 := (old2 69 rfl).trans x69
      replace x70 := (old2 70 rfl).trans x70
      replace x14 := (old2 14 rfl).trans x14
      replace x15 := (old2 15 rfl).trans x15
      replace x90 := (old2 90 rfl).trans x90
      clear x11
      replace x12 := (old2 12 rfl).trans x12
      replace x16 := (old2 16 rfl).trans x16
      replace x17 := (old2 17 rfl).trans x17
      replace x101 := (old2 101 rfl).trans x101
      replace x110 := (old2 110 rfl).trans x110
      replace x120 := (old2 120 rfl).trans x120
      replace x122 := (old2 122 rfl).trans x122
      have x11 : f36.eval (.tmp 11) = .int .i64 ((T1 / 2 : Nat) : Int) := new2
      have lt_m9 := Ob.lt m9
      replace m9 := Ob.below m9 hb
      have lt_m10 := Ob.lt m10
      replace m10 := Ob.below m10 hb
      have lt_m16 := Ob.lt m16
      replace m16 := Ob.below m16 hb
      have lt_m17 := Ob.lt m17
      replace m17 := Ob.below m17 hb
      replace bl := (bl.trans (Below.mono hb bl.size))
      replace sz := sz2.trans sz
      replace df := df2.trans df
      clear df2 sz2 old2 new2 hb
      clear x120
      refine wl_one (.eq (.int .i64 ((T2 / 2 : Nat) : Int))) rfl 12 rfl (by rw [sz]; decide) (st_assign (.tmp 122) rfl x122) ?_
      intro f37 w37 df2 sz2 old2 new2 hb
      replace bl0 := bl
      replace x0 := (old2 0 rfl).trans x0
      replace x1 := (old2 1 rfl).trans x1
      replace x5 := (old2 5 rfl).trans x5
      replace x6 := (old2 6 rfl).trans x6
      replace x38 := (old2 38 rfl).trans x38
      replace x7 := (old2 7 rfl).trans x7
      replace x47 := (old2 47 rfl).trans x47
      replace x56 := (old2 56 rfl).trans x56
      replace x9 := (old2 9 rfl).trans x9
      replace x10 := (old2 10 rfl).trans x10
      replace x67 := (old2 67 rfl).trans x67
      replace x68 := (old2 68 rfl).trans x68
      replace x69 := (old2 69 rfl).trans x69
      replace x70 := (old2 70 rfl).trans x70
      replace x14 := (old2 14 rfl).trans x14
      replace x15 := (old2 15 rfl).trans x15
      replace x90 := (old2 90 rfl).trans x90
      clear x12
      replace x16 := (old2 16 rfl).trans x16
      replace x17 := (old2 17 rfl).trans x17
      replace x101 := (old2 101 rfl).trans x101
      replace x110 := (old2 110 rfl).trans x110
      replace x122 := (old2 122 rfl).trans x122
      replace x11 := (old2 11 rfl).trans x11
      have x12 : f37.eval (.tmp 12) = .int .i64 ((T2 / 2 : Nat) : Int) := new2
      have lt_m9 := Ob.lt m9
      replace m9 := Ob.below m9 hb
      have lt_m10 := Ob.lt m10
      replace m10 := Ob.below m10 hb
      have lt_m16 := Ob.lt m16
      replace m16 := Ob.below m16 hb
      have lt_m17 := Ob.lt m17
      replace m17 := Ob.below m17 hb
      replace bl := (bl.trans (Below.mono hb bl.size))
      replace sz := sz2.trans sz
      replace df := df2.trans df
      clear df2 sz2 old2 new2 hb
      refine wpList_nil ?_
      clear x122
      show Code.wp _ _ _ _ _
      refine wp_region_seq [.eq (.int .i64 ((k + 1 : Nat) : Int))] (by kernel_rfl) (by kernel_rfl) (by rw [sz]; kernel_rfl) (by kernel_rfl) ⟨fun hw ac u K => ?_, trivial⟩ ?_
      · exact st_add (.tmp 69) (.const (.int .i64 1)) rfl (k) (1) (k + 1) ((K.old 69 rfl).trans x69) rfl (by omega) (by omega)
      intro f38 w38 A hb
      replace bl0 := bl
      replace x0 := (A.old 0 rfl).trans x0
      replace x1 := (A.old 1 rfl).trans x1
      replace x5 := (A.old 5 rfl).trans x5
      replace x6 := (A.old 6 rfl).trans x6
      replace x38 := (A.old 38 rfl).trans x38
      replace x7 := (A.old 7 rfl).trans x7
      replace x47 := (A.old 47 rfl).trans x47
      replace x56 := (A.old 56 rfl).trans x56
      replace x9 := (A.old 9 rfl).trans x9
      replace x10 := (A.old 10 rfl).trans x10
      replace x67 := (A.old 67 rfl).trans x67
      replace x68 := (A.old 68 rfl).trans x68
      replace x69 := (A.old 69 rfl).trans x69
      replace x70 := (A.old 70 rfl).trans x70
      replace x14 := (A.old 14 rfl).trans x14
      replace x15 := (A.old 15 rfl).trans x15
      replace x90 := (A.old 90 rfl).trans x90
      replace x16 := (A.old 16 rfl).trans x16
      replace x17 := (A.old 17 rfl).trans x17
      replace x101 := (A.old 101 rfl).trans x101
      replace x110 := (A.old 110 rfl).trans x110
      replace x11 := (A.old 11 rfl).trans x11
      replace x12 := (A.old 12 rfl).trans x12
      have x123 : f38.eval (.tmp 123) = .int .i64 ((k + 1 : Nat) : Int) := A.has 0 123 rfl
      have lt_m9 := Ob.lt m9
      replace m9 := Ob.below m9 hb
      have lt_m10 := Ob.lt m10
      replace m10 := Ob.below m10 hb
      have lt_m16 := Ob.lt m16
      replace m16 := Ob.below m16 hb
      have lt_m17 := Ob.lt m17
      replace m17 := Ob.below m17 hb
      replace bl := (bl.trans (Below.mono hb bl.size))
      replace sz := A.size.trans sz
      replace df := A.defs.trans df
      clear A hb
      refine wl_one (.eq (.int .i64 ((k + 1 : Nat) : Int))) rfl 69 rfl (by rw [sz]; decide) (st_move (.tmp 123) rfl x123) ?_
      intro f39 w39 df2 sz2 old2 new2 hb
      replace bl0 := bl
      replace x0 := (old2 0 rfl).trans x0
      replace x1 := (old2 1 rfl).trans x1
      replace x5 := (old2 5 rfl).trans x5
      replace x6 := (old2 6 rfl).trans x6
      replace x38 := (old2 38 rfl).trans x38
      replace x7 := (old2 7 rfl).trans x7
      replace x47 := (old2 47 rfl).trans x47
      replace x56 := (old2 56 rfl).trans x56
      replace x9 := (old2 9 rfl).trans x9
      replace x10 := (old2 10 rfl).trans x10
      replace x67 := (old2 67 rfl).trans x67
      replace x68 := (old2 68 rfl).trans x68
      clear x69
      replace x70 := (old2 70 rfl).trans x70
      replace x14 := (old2 14 rfl).trans x14
      replace x15 := (old2 15 rfl).trans x15
      replace x90 := (old2 90 rfl).trans x90
      replace x16 := (old2 16 rfl).trans x16
      replace x17 := (old2 17 rfl).trans x17
      replace x101 := (old2 101 rfl).trans x101
      replace x110 := (old2 110 rfl).trans x110
      replace x11 := (old2 11 rfl).trans x11
      replace x12 := (old2 12 rfl).trans x12
      replace x123 := (old2 123 rfl).trans x123
      have x69 : f39.eval (.tmp 69) = .int .i64 ((k + 1 : Nat) : Int) := new2
      have lt_m9 := Ob.lt m9
      replace m9 := Ob.below m9 hb
      have lt_m10 := Ob.lt m10
      replace m10 := Ob.below m10 hb
      have lt_m16 := Ob.lt m16
      replace m16 := Ob.below m16 hb
      have lt_m17 := Ob.lt m17
      replace m17 := Ob.below m17 hb
      replace bl := (bl.trans (Below.mono hb bl.size))
      replace sz := sz2.trans sz
      replace df := df2.trans df
      clear df2 sz2 old2 new2 hb
      refine wpList_nil ?_
      clear x123
      show (∃ _, _) ∧ _
      replace x11 : Fk.f (.eq (.int .i64 (((itA (k + 1) (i, l.length - 1)).1 : Nat) : Int))) (f39.eval (.tmp 11)) w39 := (by rw [hit2]; exact x11)
      replace x12 : Fk.f (.eq (.int .i64 (((itA (k + 1) (i, l.length - 1)).2 : Nat) : Int))) (f39.eval (.tmp 12)) w39 := (by rw [hit2]; exact x12)
      refine ⟨⟨k + 1, by omega, (by rw [hlx2, hlo2]; exact hyy), sz, df, x0, x1, x5, x6, x38, x7, x47, x56, x9, x10, x67, x68, x69, x11, x12, (by rw [hlx2]; exact m9), (by rw [hlo2]; exact m10), bl⟩, ?_⟩
      rw [show f39.eval (.tmp 69) = _ from x69, show _ = _ from hcnt]
      simp [intOf]
      omega
    refine wp_all_seq [.eq (.agg ((z1).map V).toArray), .eq (.agg ((z2).map V).toArray), .eq (.bool true)] (by kernel_rfl) (by kernel_rfl) (by rw [sz]; kernel_rfl) (by kernel_rfl) ⟨fun hw ac u K => ?_, fun hw ac u K => ?_, fun hw ac u K => ?_, trivial⟩ ?_
    · exact st_load23 (.tmp 16) rfl (g16) (z1) ((K.old 16 rfl).trans x16) hz1 (Ob.below m16 K.grow)
    · exact st_load23 (.tmp 17) rfl (g17) (z2) ((K.old 17 rfl).trans x17) hz2 (Ob.below m17 K.grow)
    · exact st_eqh (.tmp 108) (.tmp 109) rfl (z1) (z2) hz1 hz2 (K.dep 0 108 rfl) (K.dep 1 109 rfl) _ (by rw [eq_comm, decide_eq_true_iff]; exact hyy)
    intro f29 w29 A hb
    replace bl0 := bl
    replace x0 := (A.old 0 rfl).trans x0
    replace x1 := (A.old 1 rfl).trans x1
    replace x5 := (A.old 5 rfl).trans x5
    replace x6 := (A.old 6 rfl).trans x6
    replace x38 := (A.old 38 rfl).trans x38
    replace x7 := (A.old 7 rfl).trans x7
    replace x47 := (A.old 47 rfl).trans x47
    replace x56 := (A.old 56 rfl).trans x56
    replace x9 := (A.old 9 rfl).trans x9
    replace x10 := (A.old 10 rfl).trans x10
    replace x67 := (A.old 67 rfl).trans x67
    replace x68 := (A.old 68 rfl).trans x68
    replace x69 := (A.old 69 rfl).trans x69
    replace x70 := (A.old 70 rfl).trans x70
    replace x14 := (A.old 14 rfl).trans x14
    replace x15 := (A.old 15 rfl).trans x15
    replace x90 := (A.old 90 rfl).trans x90
    replace x11 := (A.old 11 rfl).trans x11
    replace x12 := (A.old 12 rfl).trans x12
    replace x16 := (A.old 16 rfl).trans x16
    replace x17 := (A.old 17 rfl).trans x17
    replace x101 := (A.old 101 rfl).trans x101
    have x110 : f29.eval (.tmp 110) = .bool true := A.has 2 110 rfl
    have lt_m9 := Ob.lt m9
    replace m9 := Ob.below m9 hb
    have lt_m10 := Ob.lt m10
    replace m10 := Ob.below m10 hb
    have lt_m14 := Ob.lt m14
    replace m14 := Ob.below m14 hb
    have lt_m16 := Ob.lt m16
    replace m16 := Ob.below m16 hb
    have lt_m17 := Ob.lt m17
    replace m17 := Ob.below m17 hb
    replace bl := (bl.trans (Below.mono hb bl.size))
    replace sz := A.size.trans sz
    replace df := A.defs.trans df
    clear A hb
    show Code.wp _ _ _ _ _
    refine wp_cond_true x110 ?_
    refine wp_seq ?_
    refine wp_all_seq [.eq (.agg ((lek x P S k).map V).toArray), .eq (.agg ((lek o P S k).map V).toArray), .eq (.bool true), .eq (.bool true), .eq (.bool true), .eq (.bool true), .eq (.bool true)] (by kernel_rfl) (by kernel_rfl) (by rw [sz]; kernel_rfl) (by kernel_rfl) ⟨fun hw ac u K => ?_, fun hw ac u K => ?_, fun hw ac u K => ?_, fun hw ac u K => ?_, fun hw ac u K => ?_, fun hw ac u K => ?_, fun hw ac u K => ?_, trivial⟩ ?_
    · exact st_load23 (.tmp 9) rfl (g9) (lek x P S k) ((K.old 9 rfl).trans x9) hlx (Ob.below m9 K.grow)
    · exact st_load23 (.tmp 10) rfl (g10) (lek o P S k) ((K.old 10 rfl).trans x10) hlo (Ob.below m10 K.grow)
    · exact st_neqh (.tmp 111) (.tmp 112) rfl (lek x P S k) (lek o P S k) hlx hlo (K.dep 0 111 rfl) (K.dep 1 112 rfl) _ (by rw [eq_comm, decide_eq_true_iff]; exact hne)
    · exact st_move (.tmp 113) rfl (K.dep 2 113 rfl)
    · exact st_call 8 (.func 8) _ _ #[] rfl rfl rfl Tryd.enter8 (fk_of (awake_any _ (hK.below (bl.trans (Below.mono K.grow bl.size)))))
    · exact st_pick_t (.tmp 114) (.tmp 115) (.const (.bool false)) rfl (K.dep 3 114 rfl) (K.dep 4 115 rfl)
    · exact st_assign (.tmp 116) rfl (K.dep 5 116 rfl)
    intro f30 w30 A hb
    replace bl0 := bl
    replace x0 := (A.old 0 rfl).trans x0
    replace x1 := (A.old 1 rfl).trans x1
    replace x5 := (A.old 5 rfl).trans x5
    clear x6
    replace x38 := (A.old 38 rfl).trans x38
    replace x7 := (A.old 7 rfl).trans x7
    replace x47 := (A.old 47 rfl).trans x47
    replace x56 := (A.old 56 rfl).trans x56
    replace x9 := (A.old 9 rfl).trans x9
    replace x10 := (A.old 10 rfl).trans x10
    replace x67 := (A.old 67 rfl).trans x67
    replace x68 := (A.old 68 rfl).trans x68
    replace x69 := (A.old 69 rfl).trans x69
    replace x70 := (A.old 70 rfl).trans x70
    replace x14 := (A.old 14 rfl).trans x14
    replace x15 := (A.old 15 rfl).trans x15
    replace x90 := (A.old 90 rfl).trans x90
    replace x11 := (A.old 11 rfl).trans x11
    replace x12 := (A.old 12 rfl).trans x12
    replace x16 := (A.old 16 rfl).trans x16
    replace x17 := (A.old 17 rfl).trans x17
    replace x101 := (A.old 101 rfl).trans x101
    replace x110 := (A.old 110 rfl).trans x110
    have x6 : f30.eval (.tmp 6) = .bool true := A.has 6 6 rfl
    have lt_m9 := Ob.lt m9
    replace m9 := Ob.below m9 hb
    have lt_m10 := Ob.lt m10
    replace m10 := Ob.below m10 hb
    have lt_m14 := Ob.lt m14
    replace m14 := Ob.below m14 hb
    have lt_m16 := Ob.lt m16
    replace m16 := Ob.below m16 hb
    have lt_m17 := Ob.lt m17
    replace m17 := Ob.below m17 hb
    replace bl := (bl.trans (Below.mono hb bl.size))
    replace sz := A.size.trans sz
    replace df := A.defs.trans df
    clear A hb
    show Code.wp _ _ _ _ _
    refine wp_ret ?_
    repeat (first | with_reducible refine then_ret ?_ | with_reducible refine block_ret ?_)
    exact bodyPost_ret (v := .bool true) (ret_slot rfl f30 _ x6 _ _) df ⟨rfl, (blw.trans (Below.mono bl blw.size))⟩
  obtain rfl : bb = true := by rw [hbb]; rcases hr with h | h <;> simp [rgt, h]
  obtain ⟨⟨T1, T2⟩, hT⟩ : ∃ s, skp 8 (aa, ll) = s := ⟨_, rfl⟩
  have hT70 := skp_le 8 (aa, ll)
  rw [hT] at hT70
  dsimp only at hT70
  have hit2 : itA (k + 1) (i, l.length - 1) = (T1 / 2, T2 / 2) := by rw [hit3]; unfold stA; rw [← hbb]; simp only [if_true]; rw [hT]
  obtain ⟨z1, ez1⟩ : ∃ y, Box (nd (lek x P S k) p = y) := ⟨_, ⟨rfl⟩⟩
  have hz1 : z1.length = 32 := by rw [← ez1.out]; exact nd_len _ _
  obtain ⟨z2, ez2⟩ : ∃ y, Box (nd (lek o P S k) p = y) := ⟨_, ⟨rfl⟩⟩
  have hz2 : z2.length = 32 := by rw [← ez2.out]; exact nd_len _ _
  obtain ⟨y1, ey1⟩ : ∃ y, Box (nd p (lek x P S k) = y) := ⟨_, ⟨rfl⟩⟩
  have hy1 : y1.length = 32 := by rw [← ey1.out]; exact nd_len _ _
  obtain ⟨y2, ey2⟩ : ∃ y, Box (nd p (lek o P S k) = y) := ⟨_, ⟨rfl⟩⟩
  have hy2 : y2.length = 32 := by rw [← ey2.out]; exact nd_len _ _
  have hlx2 : lek x P S (k + 1) = y1 := by rw [hls]; exact ey1.out
  have hlo2 : lek o P S (k + 1) = y2 := by rw [hlt2]; exact ey2.out
  by_cases ha1 : aa % 2 = 1
  rotate_left
  · skip
    refine wp_all_seq [.eq (.int .i64 ((aa : Nat) : Int)), .eq (.int .i64 ((aa % 2 : Nat) : Int)), .eq (.bool false), .eq (.bool false), .eq (.int .i64 ((aa : Nat) : Int)), .eq (.int .i64 ((ll : Nat) : Int)), .eq (.bool true), .eq (.bool true), .eq (.bool true)] (by kernel_rfl) (by kernel_rfl) (by rw [sz]; kernel_rfl) (by kernel_rfl) ⟨fun hw ac u K => ?_, fun hw ac u K => ?_, fun hw ac u K => ?_, fun hw ac u K => ?_, fun hw ac u K => ?_, fun hw ac u K => ?_, fun hw ac u K => ?_, fun hw ac u K => ?_, fun hw ac u K => ?_, trivial⟩ ?_
    · exact st_move (.tmp 11) rfl ((K.old 11 rfl).trans x11)
    · exact st_rem2 (.tmp 73) (.const (.int .i64 2)) rfl (aa) (K.dep 0 73 rfl) rfl
    · exact st_eqi 3 (.tmp 74) (.const (.int .i64 1)) rfl .i64 (((aa % 2 : Nat) : Int)) (1) (K.dep 1 74 rfl) rfl _ (by rw [eq_comm, decide_eq_false_iff_not]; omega)
    · exact st_move (.tmp 75) rfl (K.dep 2 75 rfl)
    · exact st_move (.tmp 11) rfl ((K.old 11 rfl).trans x11)
    · exact st_move (.tmp 12) rfl ((K.old 12 rfl).trans x12)
    · exact st_eqi 3 (.tmp 77) (.tmp 78) rfl .i64 (((aa : Nat) : Int)) (((ll : Nat) : Int)) (K.dep 4 77 rfl) (K.dep 5 78 rfl) _ (by rw [eq_comm, decide_eq_true_iff]; omega)
    · exact st_pick_f' (.tmp 76) (.const (.bool true)) (.tmp 79) rfl (K.dep 3 76 rfl) (K.dep 6 79 rfl)
    · exact st_assign (.tmp 80) rfl (K.dep 7 80 rfl)
    intro f23 w23 A hb
    replace bl0 := bl
    replace x0 := (A.old 0 rfl).trans x0
    replace x1 := (A.old 1 rfl).trans x1
    replace x5 := (A.old 5 rfl).trans x5
    replace x6 := (A.old 6 rfl).trans x6
    replace x38 := (A.old 38 rfl).trans x38
    replace x7 := (A.old 7 rfl).trans x7
    replace x47 := (A.old 47 rfl).trans x47
    replace x56 := (A.old 56 rfl).trans x56
    replace x9 := (A.old 9 rfl).trans x9
    replace x10 := (A.old 10 rfl).trans x10
    replace x11 := (A.old 11 rfl).trans x11
    replace x12 := (A.old 12 rfl).trans x12
    replace x67 := (A.old 67 rfl).trans x67
    replace x68 := (A.old 68 rfl).trans x68
    replace x69 := (A.old 69 rfl).trans x69
    replace x70 := (A.old 70 rfl).trans x70
    replace x14 := (A.old 14 rfl).trans x14
    have x15 : f23.eval (.tmp 15) = .bool true := A.has 8 15 rfl
    have lt_m9 := Ob.lt m9
    replace m9 := Ob.below m9 hb
    have lt_m10 := Ob.lt m10
    replace m10 := Ob.below m10 hb
    have lt_m14 := Ob.lt m14
    replace m14 := Ob.below m14 hb
    replace bl := (bl.trans (Below.mono hb bl.size))
    replace sz := A.size.trans sz
    replace df := A.defs.trans df
    clear A hb
    show Code.wp _ _ _ _ _
    refine wp_seq ?_
    obtain ⟨jF, hjF⟩ : ∃ F : Act → World → Prop, F = fun f v1 => f.tmps.size = 124 ∧ f.defers = [] ∧ f.eval (.tmp 0) = .slice lA (l).length lC ∧ f.eval (.tmp 1) = .int .i64 ((i : Nat) : Int) ∧ f.eval (.tmp 5) = .pointer (some ⟨g5, 0, none⟩) ∧ f.eval (.tmp 6) = .bool false ∧ f.eval (.tmp 38) = .bool false ∧ f.eval (.tmp 7) = v7 ∧ f.eval (.tmp 47) = .bool false ∧ f.eval (.tmp 56) = .bool false ∧ f.eval (.tmp 9) = .pointer (some ⟨g9, 0, none⟩) ∧ f.eval (.tmp 10) = .pointer (some ⟨g10, 0, none⟩) ∧ f.eval (.tmp 67) = v7 ∧ f.eval (.tmp 68) = .int .i64 (((P).length : Nat) : Int) ∧ f.eval (.tmp 69) = .int .i64 ((k : Nat) : Int) ∧ f.eval (.tmp 70) = .bool true ∧ f.eval (.tmp 14) = .pointer (some ⟨g14, 0, none⟩) ∧ f.eval (.tmp 15) = .bool true ∧ f.eval (.tmp 90) = .bool false ∧ f.eval (.tmp 11) = .int .i64 ((T1 : Nat) : Int) ∧ f.eval (.tmp 12) = .int .i64 ((T2 : Nat) : Int) ∧ Ob v1 (g9) 23 ((lek x P S k).map V) ∧ Ob v1 (g10) 23 ((lek o P S k).map V) ∧ Ob v1 (g14) 23 ((p).map V) ∧ Below w5.heap.size w5 (v1) := ⟨_, rfl⟩
    refine wp_join (F := jF) ?_ (fun f24 w24 hI => ?_)
    · refine wp_block ?_
      refine wp_loop (fun f v1 => ∃ (fu a2 l2 : Nat), skp fu (a2, l2) = (T1, T2) ∧ a2 < 2 ^ fu ∧ a2 ≤ 70 ∧ l2 ≤ 70 ∧ f.tmps.size = 124 ∧ f.defers = [] ∧ f.eval (.tmp 0) = .slice lA (l).length lC ∧ f.eval (.tmp 1) = .int .i64 ((i : Nat) : Int) ∧ f.eval (.tmp 5) = .pointer (some ⟨g5, 0, none⟩) ∧ f.eval (.tmp 6) = .bool false ∧ f.eval (.tmp 38) = .bool false ∧ f.eval (.tmp 7) = v7 ∧ f.eval (.tmp 47) = .bool false ∧ f.eval (.tmp 56) = .bool false ∧ f.eval (.tmp 9) = .pointer (some ⟨g9, 0, none⟩) ∧ f.eval (.tmp 10) = .pointer (some ⟨g10, 0, none⟩) ∧ f.eval (.tmp 67) = v7 ∧ f.eval (.tmp 68) = .int .i64 (((P).length : Nat) : Int) ∧ f.eval (.tmp 69) = .int .i64 ((k : Nat) : Int) ∧ f.eval (.tmp 70) = .bool true ∧ f.eval (.tmp 14) = .pointer (some ⟨g14, 0, none⟩) ∧ f.eval (.tmp 15) = .bool true ∧ f.eval (.tmp 11) = .int .i64 ((a2 : Nat) : Int) ∧ f.eval (.tmp 12) = .int .i64 ((l2 : Nat) : Int) ∧ Ob v1 (g9) 23 ((lek x P S k).map V) ∧ Ob v1 (g10) 23 ((lek o P S k).map V) ∧ Ob v1 (g14) 23 ((p).map V) ∧ Below w5.heap.size w5 (v1)) (fun f _ => (intOf (f.eval (.tmp 11))).toNat) ⟨8, aa, ll, hT, (by rw [show (2 : Nat) ^ 8 = 256 from rfl]; omega), (by omega), (by omega), sz, df, x0, x1, x5, x6, x38, x7, x47, x56, x9, x10, x67, x68, x69, x70, x14, x15, x11, x12, m9, m10, m14, bl⟩ ?_
      intro f24 w24 hI
      clear sz df bl bl0 x0 x1 x5 x6 x38 x7 x47 x56 x9 x10 x11 x12 x67 x68 x69 x70 x14 x15 m9 m10 m14
      obtain ⟨fu, a2, l2, hf, hfu, ha2, hl2, sz, df, x0, x1, x5, x6, x38, x7, x47, x56, x9, x10, x67, x68, x69, x70, x14, x15, x11, x12, m9, m10, m14, bl⟩ := hI
      have bl0 := bl
      refine wp_seq ?_
      refine wp_seq ?_
      have hcnt2 := x11
      by_cases hgo : a2 % 2 = 0 ∧ 0 < a2
      rotate_left
      · skip
        by_cases ha2e : a2 % 2 = 0
        rotate_left
        · skip
          refine wp_all_seq [.eq (.bool true), .eq (.bool true), .eq (.int .i64 ((a2 : Nat) : Int)), .eq (.int .i64 ((a2 % 2 : Nat) : Int)), .eq (.bool false), .eq (.bool false), .eq (.bool false), .any, .any, .eq (.bool false)] (by kernel_rfl) (by kernel_rfl) (by rw [sz]; kernel_rfl) (by kernel_rfl) ⟨fun hw ac u K => ?_, fun hw ac u K => ?_, fun hw ac u K => ?_, fun hw ac u K => ?_, fun hw ac u K => ?_, fun hw ac u K => ?_, fun hw ac u K => ?_, fun hw ac u K => ?_, fun hw ac u K => ?_, fun hw ac u K => ?_, trivial⟩ ?_
          · exact st_move (.tmp 15) rfl ((K.old 15 rfl).trans x15)
          · exact st_move (.tmp 81) rfl (K.dep 0 81 rfl)
          · exact st_move (.tmp 11) rfl ((K.old 11 rfl).trans x11)
          · exact st_rem2 (.tmp 83) (.const (.int .i64 2)) rfl (a2) (K.dep 2 83 rfl) rfl
          · exact st_eqi 3 (.tmp 84) (.const (.int .i64 0)) rfl .i64 (((a2 % 2 : Nat) : Int)) (0) (K.dep 3 84 rfl) rfl _ (by rw [eq_comm, decide_eq_false_iff_not]; omega)
          · exact st_pick_t (.tmp 82) (.tmp 85) (.const (.bool false)) rfl (K.dep 1 82 rfl) (K.dep 4 85 rfl)
          · exact st_move (.tmp 86) rfl (K.dep 5 86 rfl)
          · exact (Bool.false_ne_true hw).elim
          · exact (Bool.false_ne_true hw).elim
          · exact st_pick_f' (.tmp 87) (.tmp 89) (.const (.bool false)) rfl (K.dep 6 87 rfl) rfl
          intro f25 w25 A hb
          replace bl0 := bl
          replace x0 := (A.old 0 rfl).trans x0
          replace x1 := (A.old 1 rfl).trans x1
          replace x5 := (A.old 5 rfl).trans x5
          replace x6 := (A.old 6 rfl).trans x6
          replace x38 := (A.old 38 rfl).trans x38
          replace x7 := (A.old 7 rfl).trans x7
          replace x47 := (A.old 47 rfl).trans x47
          replace x56 := (A.old 56 rfl).trans x56
          replace x9 := (A.old 9 rfl).trans x9
          replace x10 := (A.old 10 rfl).trans x10
          replace x11 := (A.old 11 rfl).trans x11
          replace x12 := (A.old 12 rfl).trans x12
          replace x67 := (A.old 67 rfl).trans x67
          replace x68 := (A.old 68 rfl).trans x68
          replace x69 := (A.old 69 rfl).trans x69
          replace x70 := (A.old 70 rfl).trans x70
          replace x14 := (A.old 14 rfl).trans x14
          replace x15 := (A.old 15 rfl).trans x15
          have x90 : f25.eval (.tmp 90) = .bool false := A.has 9 90 rfl
          have lt_m9 := Ob.lt m9
          replace m9 := Ob.below m9 hb
          have lt_m10 := Ob.lt m10
          replace m10 := Ob.below m10 hb
          have lt_m14 := Ob.lt m14
          replace m14 := Ob.below m14 hb
          replace bl := (bl.trans (Below.mono hb bl.size))
          replace sz := A.size.trans sz
          replace df := A.defs.trans df
          clear A hb
          show Code.wp _ _ _ _ _
          refine wp_cond_false x90 ?_
          refine wp_exit ?_
          have hTT : a2 = T1 ∧ l2 = T2 := by rw [skp_end hgo] at hf; exact Prod.mk.inj hf
          rw [hTT.1] at x11
          rw [hTT.2] at x12
          show jF f25 w25
          rw [hjF]
          exact ⟨sz, df, x0, x1, x5, x6, x38, x7, x47, x56, x9, x10, x67, x68, x69, x70, x14, x15, x90, x11, x12, m9, m10, m14, bl⟩
        refine wp_all_seq [.eq (.bool true), .eq (.bool true), .eq (.int .i64 ((a2 : Nat) : Int)), .eq (.int .i64 ((a2 % 2 : Nat) : Int)), .eq (.bool true), .eq (.bool true), .eq (.bool true), .eq (.int .i64 ((a2 : Nat) : Int)), .eq (.bool false), .eq (.bool false)] (by kernel_rfl) (by kernel_rfl) (by rw [sz]; kernel_rfl) (by kernel_rfl) ⟨fun hw ac u K => ?_, fun hw ac u K => ?_, fun hw ac u K => ?_, fun hw ac u K => ?_, fun hw ac u K => ?_, fun hw ac u K => ?_, fun hw ac u K => ?_, fun hw ac u K => ?_, fun hw ac u K => ?_, fun hw ac u K => ?_, trivial⟩ ?_
        · exact st_move (.tmp 15) rfl ((K.old 15 rfl).trans x15)
        · exact st_move (.tmp 81) rfl (K.dep 0 81 rfl)
        · exact st_move (.tmp 11) rfl ((K.old 11 rfl).trans x11)
        · exact st_rem2 (.tmp 83) (.const (.int .i64 2)) rfl (a2) (K.dep 2 83 rfl) rfl
        · exact st_eqi 3 (.tmp 84) (.const (.int .i64 0)) rfl .i64 (((a2 % 2 : Nat) : Int)) (0) (K.dep 3 84 rfl) rfl _ (by rw [eq_comm, decide_eq_true_iff]; omega)
        · exact st_pick_t (.tmp 82) (.tmp 85) (.const (.bool false)) rfl (K.dep 1 82 rfl) (K.dep 4 85 rfl)
        · exact st_move (.tmp 86) rfl (K.dep 5 86 rfl)
        · exact st_move (.tmp 11) rfl ((K.old 11 rfl).trans x11)
        · exact st_gtr 3 (.tmp 88) (.const (.int .i64 0)) rfl .i64 (((a2 : Nat) : Int)) (0) (K.dep 7 88 rfl) rfl _ (by rw [eq_comm, decide_eq_false_iff_not]; omega)
        · exact st_pick_t (.tmp 87) (.tmp 89) (.const (.bool false)) rfl (K.dep 6 87 rfl) (K.dep 8 89 rfl)
        intro f25 w25 A hb
        replace bl0 := bl
        replace x0 := (A.old 0 rfl).trans x0
        replace x1 := (A.old 1 rfl).trans x1
        replace x5 := (A.old 5 rfl).trans x5
        replace x6 := (A.old 6 rfl).trans x6
        replace x38 := (A.old 38 rfl).trans x38
        replace x7 := (A.old 7 rfl).trans x7
        replace x47 := (A.old 47 rfl).trans x47
        replace x56 := (A.old 56 rfl).trans x56
        replace x9 := (A.old 9 rfl).trans x9
        replace x10 := (A.old 10 rfl).trans x10
        replace x11 := (A.old 11 rfl).trans x11
        replace x12 := (A.old 12 rfl).trans x12
        replace x67 := (A.old 67 rfl).trans x67
        replace x68 := (A.old 68 rfl).trans x68
        replace x69 := (A.old 69 rfl).trans x69
        replace x70 := (A.old 70 rfl).trans x70
        replace x14 := (A.old 14 rfl).trans x14
        replace x15 := (A.old 15 rfl).trans x15
        have x90 : f25.eval (.tmp 90) = .bool false := A.has 9 90 rfl
        have lt_m9 := Ob.lt m9
        replace m9 := Ob.below m9 hb
        have lt_m10 := Ob.lt m10
        replace m10 := Ob.below m10 hb
        have lt_m14 := Ob.lt m14
        replace m14 := Ob.below m14 hb
        replace bl := (bl.trans (Below.mono hb bl.size))
        replace sz := A.size.trans sz
        replace df := A.defs.trans df
        clear A hb
        show Code.wp _ _ _ _ _
        refine wp_cond_false x90 ?_
        refine wp_exit ?_
        have hTT : a2 = T1 ∧ l2 = T2 := by rw [skp_end hgo] at hf; exact Prod.mk.inj hf
        rw [hTT.1] at x11
        rw [hTT.2] at x12
        show jF f25 w25
        rw [hjF]
        exact ⟨sz, df, x0, x1, x5, x6, x38, x7, x47, x56, x9, x10, x67, x68, x69, x70, x14, x15, x90, x11, x12, m9, m10, m14, bl⟩
      obtain ⟨f2, rfl⟩ : ∃ f2, fu = f2 + 1 := by
        cases fu with
        | zero => rw [Nat.pow_zero] at hfu; omega
        | succ f2 => exact ⟨f2, rfl⟩
      refine wp_all_seq [.eq (.bool true), .eq (.bool true), .eq (.int .i64 ((a2 : Nat) : Int)), .eq (.int .i64 ((a2 % 2 : Nat) : Int)), .eq (.bool true), .eq (.bool true), .eq (.bool true), .eq (.int .i64 ((a2 : Nat) : Int)), .eq (.bool true), .eq (.bool true)] (by kernel_rfl) (by kernel_rfl) (by rw [sz]; kernel_rfl) (by kernel_rfl) ⟨fun hw ac u K => ?_, fun hw ac u K => ?_, fun hw ac u K => ?_, fun hw ac u K => ?_, fun hw ac u K => ?_, fun hw ac u K => ?_, fun hw ac u K => ?_, fun hw ac u K => ?_, fun hw ac u K => ?_, fun hw ac u K => ?_, trivial⟩ ?_
      · exact st_move (.tmp 15) rfl ((K.old 15 rfl).trans x15)
      · exact st_move (.tmp 81) rfl (K.dep 0 81 rfl)
      · exact st_move (.tmp 11) rfl ((K.old 11 rfl).trans x11)
      · exact st_rem2 (.tmp 83) (.const (.int .i64 2)) rfl (a2) (K.dep 2 83 rfl) rfl
      · exact st_eqi 3 (.tmp 84) (.const (.int .i64 0)) rfl .i64 (((a2 % 2 : Nat) : Int)) (0) (K.dep 3 84 rfl) rfl _ (by rw [eq_comm, decide_eq_true_iff]; omega)
      · exact st_pick_t (.tmp 82) (.tmp 85) (.const (.bool false)) rfl (K.dep 1 82 rfl) (K.dep 4 85 rfl)
      · exact st_move (.tmp 86) rfl (K.dep 5 86 rfl)
      · exact st_move (.tmp 11) rfl ((K.old 11 rfl).trans x11)
      · exact st_gtr 3 (.tmp 88) (.const (.int .i64 0)) rfl .i64 (((a2 : Nat) : Int)) (0) (K.dep 7 88 rfl) rfl _ (by rw [eq_comm, decide_eq_true_iff]; omega)
      · exact st_pick_t (.tmp 87) (.tmp 89) (.const (.bool false)) rfl (K.dep 6 87 rfl) (K.dep 8 89 rfl)
      intro f25 w25 A hb
      replace bl0 := bl
      replace x0 := (A.old 0 rfl).trans x0
      replace x1 := (A.old 1 rfl).trans x1
      replace x5 := (A.old 5 rfl).trans x5
      replace x6 := (A.old 6 rfl).trans x6
      replace x38 := (A.old 38 rfl).trans x38
      replace x7 := (A.old 7 rfl).trans x7
      replace x47 := (A.old 47 rfl).trans x47
      replace x56 := (A.old 56 rfl).trans x56
      replace x9 := (A.old 9 rfl).trans x9
      replace x10 := (A.old 10 rfl).trans x10
      replace x11 := (A.old 11 rfl).trans x11
      replace x12 := (A.old 12 rfl).trans x12
      replace x67 := (A.old 67 rfl).trans x67
      replace x68 := (A.old 68 rfl).trans x68
      replace x69 := (A.old 69 rfl).trans x69
      replace x70 := (A.old 70 rfl).trans x70
      replace x14 := (A.old 14 rfl).trans x14
      replace x15 := (A.old 15 rfl).trans x15
      have x90 : f25.eval (.tmp 90) = .bool true := A.has 9 90 rfl
      have lt_m9 := Ob.lt m9
      replace m9 := Ob.below m9 hb
      have lt_m10 := Ob.lt m10
      replace m10 := Ob.below m10 hb
      have lt_m14 := Ob.lt m14
      replace m14 := Ob.below m14 hb
      replace bl := (bl.trans (Below.mono hb bl.size))
      replace sz := A.size.trans sz
      replace df := A.defs.trans df
      clear A hb
      show Code.wp _ _ _ _ _
      refine wp_cond_true x90 ?_
      refine wp_skip ?_
      show Code.wp _ _ _ _ _
      refine wp_block ?_
      refine wp_region_seq [.eq (.int .i64 ((a2 : Nat) : Int)), .eq (.int .i64 ((a2 / 2 : Nat) : Int)), .eq (.int .i64 ((l2 : Nat) : Int)), .eq (.int .i64 ((l2 / 2 : Nat) : Int))] (by kernel_rfl) (by kernel_rfl) (by rw [sz]; kernel_rfl) (by kernel_rfl) ⟨fun hw ac u K => ?_, fun hw ac u K => ?_, fun hw ac u K => ?_, fun hw ac u K => ?_, trivial⟩ ?_
      · exact st_move (.tmp 11) rfl ((K.old 11 rfl).trans x11)
      · exact st_half (.tmp 91) (.const (.int .i64 2)) rfl (a2) _ rfl (by omega) (K.dep 0 91 rfl) rfl
      · exact st_move (.tmp 12) rfl ((K.old 12 rfl).trans x12)
      · exact st_half (.tmp 93) (.const (.int .i64 2)) rfl (l2) _ rfl (by omega) (K.dep 2 93 rfl) rfl
      intro f26 w26 A hb
      replace bl0 := bl
      replace x0 := (A.old 0 rfl).trans x0
      replace x1 := (A.old 1 rfl).trans x1
      replace x5 := (A.old 5 rfl).trans x5
      replace x6 := (A.old 6 rfl).trans x6
      replace x38 := (A.old 38 rfl).trans x38
      replace x7 := (A.old 7 rfl).trans x7
      replace x47 := (A.old 47 rfl).trans x47
      replace x56 := (A.old 56 rfl).trans x56
      replace x9 := (A.old 9 rfl).trans x9
      replace x10 := (A.old 10 rfl).trans x10
      replace x11 := (A.old 11 rfl).trans x11
      replace x12 := (A.old 12 rfl).trans x12
      replace x67 := (A.old 67 rfl).trans x67
      replace x68 := (A.old 68 rfl).trans x68
      replace x69 := (A.old 69 rfl).trans x69
      replace x70 := (A.old 70 rfl).trans x70
      replace x14 := (A.old 14 rfl).trans x14
      replace x15 := (A.old 15 rfl).trans x15
      replace x90 := (A.old 90 rfl).trans x90
      have x92 : f26.eval (.tmp 92) = .int .i64 ((a2 / 2 : Nat) : Int) := A.has 1 92 rfl
      have x94 : f26.eval (.tmp 94) = .int .i64 ((l2 / 2 : Nat) : Int) := A.has 3 94 rfl
      have lt_m9 := Ob.lt m9
      replace m9 := Ob.below m9 hb
      have lt_m10 := Ob.lt m10
      replace m10 := Ob.below m10 hb
      have lt_m14 := Ob.lt m14
      replace m14 := Ob.below m14 hb
      replace bl := (bl.trans (Below.mono hb bl.size))
      replace sz := A.size.trans sz
      replace df := A.defs.trans df
      clear A hb
      refine wl_one (.eq (.int .i64 ((a2 / 2 : Nat) : Int))) rfl 11 rfl (by rw [sz]; decide) (st_assign (.tmp 92) rfl x92) ?_
      intro f27 w27 df2 sz2 old2 new2 hb
      replace bl0 := bl
      replace x0 := (old2 0 rfl).trans x0
      replace x1 := (old2 1 rfl).trans x1
      replace x5 := (old2 5 rfl).trans x5
      replace x6 := (old2 6 rfl).trans x6
      replace x38 := (old2 38 rfl).trans x38
      replace x7 := (old2 7 rfl).trans x7
      replace x47 := (old2 47 rfl).trans x47
      replace x56 := (old2 56 rfl).trans x56
      replace x9 := (old2 9 rfl).trans x9
      replace x10 := (old2 10 rfl).trans x10
      clear x11
      replace x12 := (old2 12 rfl).trans x12
      replace x67 := (old2 67 rfl).trans x67
      replace x68 := (old2 68 rfl).trans x68
      replace x69 := (old2 69 rfl).trans x69
      replace x70 := (old2 70 rfl).trans x70
      replace x14 := (old2 14 rfl).trans x14
      replace x15 := (old2 15 rfl).trans x15
      replace x90 := (old2 90 rfl).trans x90
      replace x92 := (old2 92 rfl).trans x92
      replace x94 := (old2 94 rfl).trans x94
      have x11 : f27.eval (.tmp 11) = .int .i64 ((a2 / 2 : Nat) : Int) := new2
      have lt_m9 := Ob.lt m9
      replace m9 := Ob.below m9 hb
      have lt_m10 := Ob.lt m10
      replace m10 := Ob.below m10 hb
      have lt_m14 := Ob.lt m14
      replace m14 := Ob.below m14 hb
      replace bl := (bl.trans (Below.mono hb bl.size))
      replace sz := sz2.trans sz
      replace df := df2.trans df
      clear df2 sz2 old2 new2 hb
      clear x92
      refine wl_one (.eq (.int .i64 ((l2 / 2 : Nat) : Int))) rfl 12 rfl (by rw [sz]; decide) (st_assign (.tmp 94) rfl x94) ?_
      intro f28 w28 df2 sz2 old2 new2 hb
      replace bl0 := bl
      replace x0 := (old2 0 rfl).trans x0
      replace x1 := (old2 1 rfl).trans x1
      replace x5 := (old2 5 rfl).trans x5
      replace x6 := (old2 6 rfl).trans x6
      replace x38 := (old2 38 rfl).trans x38
      replace x7 := (old2 7 rfl).trans x7
      replace x47 := (old2 47 rfl).trans x47
      replace x56 := (old2 56 rfl).trans x56
      replace x9 := (old2 9 rfl).trans x9
      replace x10 := (old2 10 rfl).trans x10
      clear x12
      replace x67 := (old2 67 rfl).trans x67
      replace x68 := (old2 68 rfl).trans x68
      replace x69 := (old2 69 rfl).trans x69
      replace x70 := (old2 70 rfl).trans x70
      replace x14 := (old2 14 rfl).trans x14
      replace x15 := (old2 15 rfl).trans x15
      replace x90 := (old2 90 rfl).trans x90
      replace x94 := (old2 94 rfl).trans x94
      replace x11 := (old2 11 rfl).trans x11
      have x12 : f28.eval (.tmp 12) = .int .i64 ((l2 / 2 : Nat) : Int) := new2
      have lt_m9 := Ob.lt m9
      replace m9 := Ob.below m9 hb
      have lt_m10 := Ob.lt m10
      replace m10 := Ob.below m10 hb
      have lt_m14 := Ob.lt m14
      replace m14 := Ob.below m14 hb
      replace bl := (bl.trans (Below.mono hb bl.size))
      replace sz := sz2.trans sz
      replace df := df2.trans df
      clear df2 sz2 old2 new2 hb
      refine wpList_nil ?_
      clear x94
      show (∃ _, _) ∧ _
      refine ⟨⟨f2, a2 / 2, l2 / 2, (by rw [skp_go hgo.1 hgo.2] at hf; exact hf), (by rw [Nat.pow_succ] at hfu; omega), (by omega), (by omega), sz, df, x0, x1, x5, x6, x38, x7, x47, x56, x9, x10, x67, x68, x69, x70, x14, x15, x11, x12, m9, m10, m14, bl⟩, ?_⟩
      rw [show f28.eval (.tmp 11) = _ from x11, show _ = _ from hcnt2]
      simp only [intOf, Int.toNat_natCast]
      omega
    clear sz df bl bl0 x0 x1 x5 x6 x38 x7 x47 x56 x9 x10 x11 x12 x67 x68 x69 x70 x14 x15 m9 m10 m14
    rw [hjF] at hI
    clear hjF
    obtain ⟨sz, df, x0, x1, x5, x6, x38, x7, x47, x56, x9, x10, x67, x68, x69, x70, x14, x15, x90, x11, x12, m9, m10, m14, bl⟩ := hI
    have bl0 := bl
    show Code.wp _ _ _ _ _
    refine wp_seq ?_
    refine wp_region_new [.eq (.agg ((lek x P S k).map V).toArray), .eq (.agg ((p).map V).toArray), .eq (.agg ((z1).map V).toArray), .eq (.agg ((lek o P S k).map V).toArray), .eq (.agg ((p).map V).toArray), .eq (.agg ((z2).map V).toArray), .pn w24.heap.size hz, .pn w24.heap.size hz] [8, 9] [(6, 16), (7, 17)] (by kernel_rfl) (by intro x hx; simp only [List.mem_cons, List.not_mem_nil, or_false] at hx; rcases hx with rfl | rfl <;> rfl) (by kernel_rfl) (by kernel_rfl) (by kernel_rfl) (by kernel_rfl) (by rw [sz]; kernel_rfl) (by kernel_rfl) ⟨fun hw ac u K => ?_, fun hw ac u K => ?_, fun hw ac u K => ?_, fun hw ac u K => ?_, fun hw ac u K => ?_, fun hw ac u K => ?_, fun hw ac u K => ?_, fun hw ac u K => ?_, trivial⟩ ?_
    · exact st_load23 (.tmp 9) rfl (g9) (lek x P S k) ((K.old 9 rfl).trans x9) hlx (Ob.below m9 K.grow)
    · exact st_load23 (.tmp 14) rfl (g14) (p) ((K.old 14 rfl).trans x14) hp (Ob.below m14 K.grow)
    · exact st_call 21 (.func 21) _ _ #[.agg ((lek x P S k).map V).toArray, .agg ((p).map V).toArray] rfl rfl (arg2 (K.dep 0 95 rfl) (K.dep 1 96 rfl)) Tryd.enter21 (fk_node hlx hp (hK.below (bl.trans (Below.mono K.grow bl.size))) ez1)
    · exact st_load23 (.tmp 10) rfl (g10) (lek o P S k) ((K.old 10 rfl).trans x10) hlo (Ob.below m10 K.grow)
    · exact st_load23 (.tmp 14) rfl (g14) (p) ((K.old 14 rfl).trans x14) hp (Ob.below m14 K.grow)
    · exact st_call 21 (.func 21) _ _ #[.agg ((lek o P S k).map V).toArray, .agg ((p).map V).toArray] rfl rfl (arg2 (K.dep 3 98 rfl) (K.dep 4 99 rfl)) Tryd.enter21 (fk_node hlo hp (hK.below (bl.trans (Below.mono K.grow bl.size))) ez2)
    · exact st_alloc23 rfl _ K.grow.size
    · exact st_alloc23 rfl _ K.grow.size
    intro f25 w25 A hap hb
    replace bl0 := bl
    replace x0 := (A.old 0 rfl).trans x0
    replace x1 := (A.old 1 rfl).trans x1
    replace x5 := (A.old 5 rfl).trans x5
    replace x6 := (A.old 6 rfl).trans x6
    replace x38 := (A.old 38 rfl).trans x38
    replace x7 := (A.old 7 rfl).trans x7
    replace x47 := (A.old 47 rfl).trans x47
    replace x56 := (A.old 56 rfl).trans x56
    replace x9 := (A.old 9 rfl).trans x9
    replace x10 := (A.old 10 rfl).trans x10
    replace x67 := (A.old 67 rfl).trans x67
    replace x68 := (A.old 68 rfl).trans x68
    replace x69 := (A.old 69 rfl).trans x69
    replace x70 := (A.old 70 rfl).trans x70
    replace x14 := (A.old 14 rfl).trans x14
    replace x15 := (A.old 15 rfl).trans x15
    replace x90 := (A.old 90 rfl).trans x90
    replace x11 := (A.old 11 rfl).trans x11
    replace x12 := (A.old 12 rfl).trans x12
    have x16 : Fk.f (.pn w24.heap.size hz) (f25.eval (.tmp 16)) w25 := A.has 6 16 rfl
    have x17 : Fk.f (.pn w24.heap.size hz) (f25.eval (.tmp 17)) w25 := A.has 7 17 rfl
    have x97 : f25.eval (.tmp 97) = .agg ((z1).map V).toArray := A.has 2 97 rfl
    have x100 : f25.eval (.tmp 100) = .agg ((z2).map V).toArray := A.has 5 100 rfl
    have lt_m9 := Ob.lt m9
    replace m9 := Ob.below m9 hb
    have lt_m10 := Ob.lt m10
    replace m10 := Ob.below m10 hb
    have lt_m14 := Ob.lt m14
    replace m14 := Ob.below m14 hb
    replace bl := (bl.trans (Below.mono hb bl.size))
    replace sz := A.size.trans sz
    replace df := A.defs.trans df
    clear A hb
    obtain ⟨g16, hg16, e16, m16⟩ := x16
    have x16 := e16
    clear e16
    have nm5_16 : g5 ≠ g16 := Nat.ne_of_lt (Nat.lt_of_lt_of_le (Ob.lt m5) (Nat.le_trans bl0.size hg16))
    have nm9_16 : g9 ≠ g16 := Nat.ne_of_lt (Nat.lt_of_lt_of_le lt_m9 hg16)
    have nm10_16 : g10 ≠ g16 := Nat.ne_of_lt (Nat.lt_of_lt_of_le lt_m10 hg16)
    have nm14_16 : g14 ≠ g16 := Nat.ne_of_lt (Nat.lt_of_lt_of_le lt_m14 hg16)
    have hw16 : w5.heap.size ≤ g16 := Nat.le_trans bl0.size hg16
    obtain ⟨g17, hg17, e17, m17⟩ := x17
    have x17 := e17
    clear e17
    have nm5_17 : g5 ≠ g17 := Nat.ne_of_lt (Nat.lt_of_lt_of_le (Ob.lt m5) (Nat.le_trans bl0.size hg17))
    have nm9_17 : g9 ≠ g17 := Nat.ne_of_lt (Nat.lt_of_lt_of_le lt_m9 hg17)
    have nm10_17 : g10 ≠ g17 := Nat.ne_of_lt (Nat.lt_of_lt_of_le lt_m10 hg17)
    have nm14_17 : g14 ≠ g17 := Nat.ne_of_lt (Nat.lt_of_lt_of_le lt_m14 hg17)
    have nm16_17 : g16 ≠ g17 := fun e => hap (6, 16) (by simp) (7, 17) (by simp) (by decide) (by rw [x16, x17, e])
    have hw17 : w5.heap.size ≤ g17 := Nat.le_trans bl0.size hg17
    refine wl_store rfl (.tmp 16) (.tmp 97) rfl rfl (g16) (z1) (hz) x16 x97 m16 hz_len hz1 ?_
    replace m9 : Ob (w25.setRow g16 ((z1).map V : List Value).toArray) (g9) 23 ((lek x P S k).map V) := Ob.setRow_other m9 _ nm9_16
    replace m10 : Ob (w25.setRow g16 ((z1).map V : List Value).toArray) (g10) 23 ((lek o P S k).map V) := Ob.setRow_other m10 _ nm10_16
    replace m14 : Ob (w25.setRow g16 ((z1).map V : List Value).toArray) (g14) 23 ((p).map V) := Ob.setRow_other m14 _ nm14_16
    replace m16 : Ob (w25.setRow g16 ((z1).map V : List Value).toArray) (g16) 23 ((z1).map V) := Ob.setRow m16 ((z1).map V)
    replace m17 : Ob (w25.setRow g16 ((z1).map V : List Value).toArray) (g17) 23 ((hz).map V) := Ob.setRow_other m17 _ nm16_17.symm
    replace bl : Below w5.heap.size w5 (w25.setRow g16 ((z1).map V : List Value).toArray) := bl.trans (below_setRow _ _ _ _ hw16)
    generalize w25.setRow g16 ((z1).map V : List Value).toArray = w26b at bl m9 m10 m14 m16 m17 ⊢
    clear x97
    refine wl_store rfl (.tmp 17) (.tmp 100) rfl rfl (g17) (z2) (hz) x17 x100 m17 hz_len hz2 ?_
    replace m9 : Ob (w26b.setRow g17 ((z2).map V : List Value).toArray) (g9) 23 ((lek x P S k).map V) := Ob.setRow_other m9 _ nm9_17
    replace m10 : Ob (w26b.setRow g17 ((z2).map V : List Value).toArray) (g10) 23 ((lek o P S k).map V) := Ob.setRow_other m10 _ nm10_17
    replace m14 : Ob (w26b.setRow g17 ((z2).map V : List Value).toArray) (g14) 23 ((p).map V) := Ob.setRow_other m14 _ nm14_17
    replace m16 : Ob (w26b.setRow g17 ((z2).map V : List Value).toArray) (g16) 23 ((z1).map V) := Ob.setRow_other m16 _ nm16_17
    replace m17 : Ob (w26b.setRow g17 ((z2).map V : List Value).toArray) (g17) 23 ((z2).map V) := Ob.setRow m17 ((z2).map V)
    replace bl : Below w5.heap.size w5 (w26b.setRow g17 ((z2).map V : List Value).toArray) := bl.trans (below_setRow _ _ _ _ hw17)
    generalize w26b.setRow g17 ((z2).map V : List Value).toArray = w27b at bl m9 m10 m14 m16 m17 ⊢
    refine wpList_nil ?_
    clear x100
    show Code.wp _ _ _ _ _
    refine wp_seq ?_
    refine wp_seq ?_
    refine wp_all_seq [.eq (.bool true)] (by kernel_rfl) (by kernel_rfl) (by rw [sz]; kernel_rfl) (by kernel_rfl) ⟨fun hw ac u K => ?_, trivial⟩ ?_
    · exact st_move (.tmp 15) rfl ((K.old 15 rfl).trans x15)
    intro f28 w28 A hb
    replace bl0 := bl
    replace x0 := (A.old 0 rfl).trans x0
    replace x1 := (A.old 1 rfl).trans x1
    replace x5 := (A.old 5 rfl).trans x5
    replace x6 := (A.old 6 rfl).trans x6
    replace x38 := (A.old 38 rfl).trans x38
    replace x7 := (A.old 7 rfl).trans x7
    replace x47 := (A.old 47 rfl).trans x47
    replace x56 := (A.old 56 rfl).trans x56
    replace x9 := (A.old 9 rfl).trans x9
    replace x10 := (A.old 10 rfl).trans x10
    replace x67 := (A.old 67 rfl).trans x67
    replace x68 := (A.old 68 rfl).trans x68
    replace x69 := (A.old 69 rfl).trans x69
    replace x70 := (A.old 70 rfl).trans x70
    replace x14 := (A.old 14 rfl).trans x14
    replace x15 := (A.old 15 rfl).trans x15
    replace x90 := (A.old 90 rfl).trans x90
    replace x11 := (A.old 11 rfl).trans x11
    replace x12 := (A.old 12 rfl).trans x12
    replace x16 := (A.old 16 rfl).trans x16
    replace x17 := (A.old 17 rfl).trans x17
    have x101 : f28.eval (.tmp 101) = .bool true := A.has 0 101 rfl
    have lt_m9 := Ob.lt m9
    replace m9 := Ob.below m9 hb
    have lt_m10 := Ob.lt m10
    replace m10 := Ob.below m10 hb
    have lt_m14 := Ob.lt m14
    replace m14 := Ob.below m14 hb
    have lt_m16 := Ob.lt m16
    replace m16 := Ob.below m16 hb
    have lt_m17 := Ob.lt m17
    replace m17 := Ob.below m17 hb
    replace bl := (bl.trans (Below.mono hb bl.size))
    replace sz := A.size.trans sz
    replace df := A.defs.trans df
    clear A hb
    show Code.wp _ _ _ _ _
    refine wp_cond_true x101 ?_
    refine wp_region_tail [.eq (.agg ((p).map V).toArray), .eq (.agg ((lek x P S k).map V).toArray), .eq (.agg ((y1).map V).toArray), .eq (.agg ((p).map V).toArray), .eq (.agg ((lek o P S k).map V).toArray), .eq (.agg ((y2).map V).toArray)] [6, 7] Tryd.mixed (by kernel_rfl) (by kernel_rfl) (by kernel_rfl) (by kernel_rfl) (by rw [sz]; kernel_rfl) (by kernel_rfl) ⟨fun hw ac u K => ?_, fun hw ac u K => ?_, fun hw ac u K => ?_, fun hw ac u K => ?_, fun hw ac u K => ?_, fun hw ac u K => ?_, trivial⟩ ?_
    · exact st_load23 (.tmp 14) rfl (g14) (p) ((K.old 14 rfl).trans x14) hp (Ob.below m14 K.grow)
    · exact st_load23 (.tmp 9) rfl (g9) (lek x P S k) ((K.old 9 rfl).trans x9) hlx (Ob.below m9 K.grow)
    · exact st_call 21 (.func 21) _ _ #[.agg ((p).map V).toArray, .agg ((lek x P S k).map V).toArray] rfl rfl (arg2 (K.dep 0 102 rfl) (K.dep 1 103 rfl)) Tryd.enter21 (fk_node hp hlx (hK.below (bl.trans (Below.mono K.grow bl.size))) ey1)
    · exact st_load23 (.tmp 14) rfl (g14) (p) ((K.old 14 rfl).trans x14) hp (Ob.below m14 K.grow)
    · exact st_load23 (.tmp 10) rfl (g10) (lek o P S k) ((K.old 10 rfl).trans x10) hlo (Ob.below m10 K.grow)
    · exact st_call 21 (.func 21) _ _ #[.agg ((p).map V).toArray, .agg ((lek o P S k).map V).toArray] rfl rfl (arg2 (K.dep 3 105 rfl) (K.dep 4 106 rfl)) Tryd.enter21 (fk_node hp hlo (hK.below (bl.trans (Below.mono K.grow bl.size))) ey2)
    intro f29 w29 A hb
    replace bl0 := bl
    replace x0 := (A.old 0 rfl).trans x0
    replace x1 := (A.old 1 rfl).trans x1
    replace x5 := (A.old 5 rfl).trans x5
    replace x6 := (A.old 6 rfl).trans x6
    replace x38 := (A.old 38 rfl).trans x38
    replace x7 := (A.old 7 rfl).trans x7
    replace x47 := (A.old 47 rfl).trans x47
    replace x56 := (A.old 56 rfl).trans x56
    replace x9 := (A.old 9 rfl).trans x9
    replace x10 := (A.old 10 rfl).trans x10
    replace x67 := (A.old 67 rfl).trans x67
    replace x68 := (A.old 68 rfl).trans x68
    replace x69 := (A.old 69 rfl).trans x69
    replace x70 := (A.old 70 rfl).trans x70
    replace x14 := (A.old 14 rfl).trans x14
    replace x15 := (A.old 15 rfl).trans x15
    replace x90 := (A.old 90 rfl).trans x90
    replace x11 := (A.old 11 rfl).trans x11
    replace x12 := (A.old 12 rfl).trans x12
    replace x16 := (A.old 16 rfl).trans x16
    replace x17 := (A.old 17 rfl).trans x17
    replace x101 := (A.old 101 rfl).trans x101
    have x104 : f29.eval (.tmp 104) = .agg ((y1).map V).toArray := A.has 2 104 rfl
    have x107 : f29.eval (.tmp 107) = .agg ((y2).map V).toArray := A.has 5 107 rfl
    have lt_m9 := Ob.lt m9
    replace m9 := Ob.below m9 hb
    have lt_m10 := Ob.lt m10
    replace m10 := Ob.below m10 hb
    have lt_m14 := Ob.lt m14
    replace m14 := Ob.below m14 hb
    have lt_m16 := Ob.lt m16
    replace m16 := Ob.below m16 hb
    have lt_m17 := Ob.lt m17
    replace m17 := Ob.below m17 hb
    replace bl := (bl.trans (Below.mono hb bl.size))
    replace sz := A.size.trans sz
    replace df := A.defs.trans df
    clear A hb
    refine wl_store rfl (.tmp 16) (.tmp 104) rfl rfl (g16) (y1) (z1) x16 x104 m16 hz1 hy1 ?_
    replace m9 : Ob (w29.setRow g16 ((y1).map V : List Value).toArray) (g9) 23 ((lek x P S k).map V) := Ob.setRow_other m9 _ nm9_16
    replace m10 : Ob (w29.setRow g16 ((y1).map V : List Value).toArray) (g10) 23 ((lek o P S k).map V) := Ob.setRow_other m10 _ nm10_16
    replace m14 : Ob (w29.setRow g16 ((y1).map V : List Value).toArray) (g14) 23 ((p).map V) := Ob.setRow_other m14 _ nm14_16
    replace m16 : Ob (w29.setRow g16 ((y1).map V : List Value).toArray) (g16) 23 ((y1).map V) := Ob.setRow m16 ((y1).map V)
    replace m17 : Ob (w29.setRow g16 ((y1).map V : List Value).toArray) (g17) 23 ((z2).map V) := Ob.setRow_other m17 _ nm16_17.symm
    replace bl : Below w5.heap.size w5 (w29.setRow g16 ((y1).map V : List Value).toArray) := bl.trans (below_setRow _ _ _ _ hw16)
    generalize w29.setRow g16 ((y1).map V : List Value).toArray = w30b at bl m9 m10 m14 m16 m17 ⊢
    clear x104
    refine wl_store rfl (.tmp 17) (.tmp 107) rfl rfl (g17) (y2) (z2) x17 x107 m17 hz2 hy2 ?_
    replace m9 : Ob (w30b.setRow g17 ((y2).map V : List Value).toArray) (g9) 23 ((lek x P S k).map V) := Ob.setRow_other m9 _ nm9_17
    replace m10 : Ob (w30b.setRow g17 ((y2).map V : List Value).toArray) (g10) 23 ((lek o P S k).map V) := Ob.setRow_other m10 _ nm10_17
    replace m14 : Ob (w30b.setRow g17 ((y2).map V : List Value).toArray) (g14) 23 ((p).map V) := Ob.setRow_other m14 _ nm14_17
    replace m16 : Ob (w30b.setRow g17 ((y2).map V : List Value).toArray) (g16) 23 ((y1).map V) := Ob.setRow_other m16 _ nm16_17
    replace m17 : Ob (w30b.setRow g17 ((y2).map V : List Value).toArray) (g17) 23 ((y2).map V) := Ob.setRow m17 ((y2).map V)
    replace bl : Below w5.heap.size w5 (w30b.setRow g17 ((y2).map V : List Value).toArray) := bl.trans (below_setRow _ _ _ _ hw17)
    generalize w30b.setRow g17 ((y2).map V : List Value).toArray = w31b at bl m9 m10 m14 m16 m17 ⊢
    refine wpList_nil ?_
    clear x107
    show Code.wp _ _ _ _ _
    refine wp_seq ?_
    refine wp_seq ?_
    by_cases hyy : y1 = y2
    rotate_left
    · skip
      refine wp_all_seq [.eq (.agg ((y1).map V).toArray), .eq (.agg ((y2).map V).toArray), .eq (.bool false)] (by kernel_rfl) (by kernel_rfl) (by rw [sz]; kernel_rfl) (by kernel_rfl) ⟨fun hw ac u K => ?_, fun hw ac u K => ?_, fun hw ac u K => ?_, trivial⟩ ?_
      · exact st_load23 (.tmp 16) rfl (g16) (y1) ((K.old 16 rfl).trans x16) hy1 (Ob.below m16 K.grow)
      · exact st_load23 (.tmp 17) rfl (g17) (y2) ((K.old 17 rfl).trans x17) hy2 (Ob.below m17 K.grow)
      · exact st_eqh (.tmp 108) (.tmp 109) rfl (y1) (y2) hy1 hy2 (K.dep 0 108 rfl) (K.dep 1 109 rfl) _ (by rw [eq_comm, decide_eq_false_iff_not]; exact hyy)
      intro f32 w32 A hb
      replace bl0 := bl
      replace x0 := (A.old 0 rfl).trans x0
      replace x1 := (A.old 1 rfl).trans x1
      replace x5 := (A.old 5 rfl).trans x5
      replace x6 := (A.old 6 rfl).trans x6
      replace x38 := (A.old 38 rfl).trans x38
      replace x7 := (A.old 7 rfl).trans x7
      replace x47 := (A.old 47 rfl).trans x47
      replace x56 := (A.old 56 rfl).trans x56
      replace x9 := (A.old 9 rfl).trans x9
      replace x10 := (A.old 10 rfl).trans x10
      replace x67 := (A.old 67 rfl).trans x67
      replace x68 := (A.old 68 rfl).trans x68
      replace x69 := (A.old 69 rfl).trans x69
      replace x70 := (A.old 70 rfl).trans x70
      replace x14 := (A.old 14 rfl).trans x14
      replace x15 := (A.old 15 rfl).trans x15
      replace x90 := (A.old 90 rfl).trans x90
      replace x11 := (A.old 11 rfl).trans x11
      replace x12 := (A.old 12 rfl).trans x12
      replace x16 := (A.old 16 rfl).trans x16
      replace x17 := (A.old 17 rfl).trans x17
      replace x101 := (A.old 101 rfl).trans x101
      have x110 : f32.eval (.tmp 110) = .bool false := A.has 2 110 rfl
      have lt_m9 := Ob.lt m9
      replace m9 := Ob.below m9 hb
      have lt_m10 := Ob.lt m10
      replace m10 := Ob.below m10 hb
      have lt_m14 := Ob.lt m14
      replace m14 := Ob.below m14 hb
      have lt_m16 := Ob.lt m16
      replace m16 := Ob.below m16 hb
      have lt_m17 := Ob.lt m17
      replace m17 := Ob.below m17 hb
      replace bl := (bl.trans (Below.mono hb bl.size))
      replace sz := A.size.trans sz
      replace df := A.defs.trans df
      clear A hb
      show Code.wp _ _ _ _ _
      refine wp_cond_false x110 ?_
      refine wp_skip ?_
      show Code.wp _ _ _ _ _
      refine wp_seq ?_
      clear m5
      clear m14
      refine wp_region_held_drew (S := fun W => Ob (W) g16 23 ((y1).map V) ∧ Ob (W) g17 23 ((y2).map V)) Tryd.mixed ⟨m16, m17⟩ (fun hS0 => ?_)
      replace m9 : Ob w32.drew g9 23 ((lek x P S k).map V) := m9
      replace m10 : Ob w32.drew g10 23 ((lek o P S k).map V) := m10
      replace bl := bl.drew
      clear bl0 m16 m17
      generalize w32.drew = w33 at hS0 m9 m10 bl ⊢
      refine wh_take 0 117 (v := .agg ((y1).map V).toArray) rfl rfl (by rw [sz]; decide) rfl (by kernel_rfl) (by kernel_rfl) (by kernel_rfl) (fun _ _ _ h => h) (run_ldh rfl hy1 x16 (fun W hW => Ob.range hW.1 0 _ (fun j v hj => by simpa using hj))) hS0 ?_
      intro f34 df2 sz2 old2 new2
      replace x0 := (old2 0 rfl).trans x0
      replace x1 := (old2 1 rfl).trans x1
      replace x5 := (old2 5 rfl).trans x5
      replace x6 := (old2 6 rfl).trans x6
      replace x38 := (old2 38 rfl).trans x38
      replace x7 := (old2 7 rfl).trans x7
      replace x47 := (old2 47 rfl).trans x47
      replace x56 := (old2 56 rfl).trans x56
      replace x9 := (old2 9 rfl).trans x9
      replace x10 := (old2 10 rfl).trans x10
      replace x67 := (old2 67 rfl).trans x67
      replace x68 := (old2 68 rfl).trans x68
      replace x69 := (old2 69 rfl).trans x69
      replace x70 := (old2 70 rfl).trans x70
      replace x14 := (old2 14 rfl).trans x14
      replace x15 := (old2 15 rfl).trans x15
      replace x90 := (old2 90 rfl).trans x90
      replace x11 := (old2 11 rfl).trans x11
      replace x12 := (old2 12 rfl).trans x12
      replace x16 := (old2 16 rfl).trans x16
      replace x17 := (old2 17 rfl).trans x17
      replace x101 := (old2 101 rfl).trans x101
      replace x110 := (old2 110 rfl).trans x110
      have x117 : f34.eval (.tmp 117) = .agg ((y1).map V).toArray := new2
      replace sz := sz2.trans sz
      replace df := df2.trans df
      clear df2 sz2 old2 new2
      refine wh_take 1 118 (v := .agg ((y2).map V).toArray) rfl rfl (by rw [sz]; decide) rfl (by kernel_rfl) (by kernel_rfl) (by kernel_rfl) (fun _ _ _ h => h) (run_ldh rfl hy2 x17 (fun W hW => Ob.range hW.2 0 _ (fun j v hj => by simpa using hj))) hS0 ?_
      intro f35 df2 sz2 old2 new2
      replace x0 := (old2 0 rfl).trans x0
      replace x1 := (old2 1 rfl).trans x1
      replace x5 := (old2 5 rfl).trans x5
      replace x6 := (old2 6 rfl).trans x6
      replace x38 := (old2 38 rfl).trans x38
      replace x7 := (old2 7 rfl).trans x7
      replace x47 := (old2 47 rfl).trans x47
      replace x56 := (old2 56 rfl).trans x56
      replace x9 := (old2 9 rfl).trans x9
      replace x10 := (old2 10 rfl).trans x10
      replace x67 := (old2 67 rfl).trans x67
      replace x68 := (old2 68 rfl).trans x68
      replace x69 := (old2 69 rfl).trans x69
      replace x70 := (old2 70 rfl).trans x70
      replace x14 := (old2 14 rfl).trans x14
      replace x15 := (old2 15 rfl).trans x15
      replace x90 := (old2 90 rfl).trans x90
      replace x11 := (old2 11 rfl).trans x11
      replace x12 := (old2 12 rfl).trans x12
      replace x16 := (old2 16 rfl).trans x16
      replace x17 := (old2 17 rfl).trans x17
      replace x101 := (old2 101 rfl).trans x101
      replace x110 := (old2 110 rfl).trans x110
      replace x117 := (old2 117 rfl).trans x117
      have x118 : f35.eval (.tmp 118) = .agg ((y2).map V).toArray := new2
      replace sz := sz2.trans sz
      replace df := df2.trans df
      clear df2 sz2 old2 new2
      have hS1 : Ob (w33.setRow g9 ((y1).map V : List Value).toArray) g16 23 ((y1).map V) ∧ Ob (w33.setRow g9 ((y1).map V : List Value).toArray) g17 23 ((y2).map V) := ⟨Ob.setRow_other hS0.1 _ nm9_16.symm, Ob.setRow_other hS0.2 _ nm9_17.symm⟩
      refine wh_store 2 rfl rfl rfl (by kernel_rfl) (.tmp 9) (.tmp 117) rfl g9 (y1) (lek x P S k) x9 x117 m9 hlx hy1 hS1 ?_
      replace m9 : Ob (w33.setRow g9 ((y1).map V : List Value).toArray) (g9) 23 ((y1).map V) := Ob.setRow m9 ((y1).map V)
      replace m10 : Ob (w33.setRow g9 ((y1).map V : List Value).toArray) (g10) 23 ((lek o P S k).map V) := Ob.setRow_other m10 _ nm9_10.symm
      replace bl : Below w5.heap.size w5 (w33.setRow g9 ((y1).map V : List Value).toArray) := bl.trans (below_setRow _ _ _ _ hw9)
      replace hS0 := hS1
      clear hS1
      generalize w33.setRow g9 ((y1).map V : List Value).toArray = w36 at hS0 m9 m10 bl ⊢
      have hS1 : Ob (w36.setRow g10 ((y2).map V : List Value).toArray) g16 23 ((y1).map V) ∧ Ob (w36.setRow g10 ((y2).map V : List Value).toArray) g17 23 ((y2).map V) := ⟨Ob.setRow_other hS0.1 _ nm10_16.symm, Ob.setRow_other hS0.2 _ nm10_17.symm⟩
      refine wh_store 3 rfl rfl rfl (by kernel_rfl) (.tmp 10) (.tmp 118) rfl g10 (y2) (lek o P S k) x10 x118 m10 hlo hy2 hS1 ?_
      replace m9 : Ob (w36.setRow g10 ((y2).map V : List Value).toArray) (g9) 23 ((y1).map V) := Ob.setRow_other m9 _ nm9_10
      replace m10 : Ob (w36.setRow g10 ((y2).map V : List Value).toArray) (g10) 23 ((y2).map V) := Ob.setRow m10 ((y2).map V)
      replace bl : Below w5.heap.size w5 (w36.setRow g10 ((y2).map V : List Value).toArray) := bl.trans (below_setRow _ _ _ _ hw10)
      replace hS0 := hS1
      clear hS1
      generalize w36.setRow g10 ((y2).map V : List Value).toArray = w37 at hS0 m9 m10 bl ⊢
      refine wpAnyH_done (by kernel_rfl) ?_ _
      have m16 := hS0.1
      have m17 := hS0.2
      have bl0 := bl
      clear hS0
      clear x117
      clear x118
      show Code.wp _ _ _ _ _
      refine wp_region_seq [.eq (.int .i64 ((T1 : Nat) : Int)), .eq (.int .i64 ((T1 / 2 : Nat) : Int)), .eq (.int .i64 ((T2 : Nat) : Int)), .eq (.int .i64 ((T2 / 2 : Nat) : Int))] (by kernel_rfl) (by kernel_rfl) (by rw [sz]; kernel_rfl) (by kernel_rfl) ⟨fun hw ac u K => ?_, fun hw ac u K => ?_, fun hw ac u K => ?_, fun hw ac u K => ?_, trivial⟩ ?_
      · exact st_move (.tmp 11) rfl ((K.old 11 rfl).trans x11)
      · exact st_half (.tmp 119) (.const (.int .i64 2)) rfl (T1) _ rfl (by omega) (K.dep 0 119 rfl) rfl
      · exact st_move (.tmp 12) rfl ((K.old 12 rfl).trans x12)
      · exact st_half (.tmp 121) (.const (.int .i64 2)) rfl (T2) _ rfl (by omega) (K.dep 2 121 rfl) rfl
      intro f38 w38 A hb
      replace bl0 := bl
      replace x0 := (A.old 0 rfl).trans x0
      replace x1 := (A.old 1 rfl).trans x1
      replace x5 := (A.old 5 rfl).trans x5
      replace x6 := (A.old 6 rfl).trans x6
      replace x38 := (A.old 38 rfl).trans x38
      replace x7 := (A.old 7 rfl).trans x7
      replace x47 := (A.old 47 rfl).trans x47
      replace x56 := (A.old 56 rfl).trans x56
      replace x9 := (A.old 9 rfl).trans x9
      replace x10 := (A.old 10 rfl).trans x10
      replace x67 := (A.old 67 rfl).trans x67
      replace x68 := (A.old 68 rfl).trans x68
      replace x69 := (A.old 69 rfl).trans x69
      replace x70 := (A.old 70 rfl).trans x70
      replace x14 := (A.old 14 rfl).trans x14
      replace x15 := (A.old 15 rfl).trans x15
      replace x90 := (A.old 90 rfl).trans x90
      replace x11 := (A.old 11 rfl).trans x11
      replace x12 := (A.old 12 rfl).trans x12
      replace x16 := (A.old 16 rfl).trans x16
      replace x17 := (A.old 17 rfl).trans x17
      replace x101 := (A.old 101 rfl).trans x101
      replace x110 := (A.old 110 rfl).trans x110
      have x120 : f38.eval (.tmp 120) = .int .i64 ((T1 / 2 : Nat) : Int) := A.has 1 120 rfl
      have x122 : f38.eval (.tmp 122) = .int .i64 ((T2 / 2 : Nat) : Int) := A.has 3 122 rfl
      have lt_m9 := Ob.lt m9
      replace m9 := Ob.below m9 hb
      have lt_m10 := Ob.lt m10
      replace m10 := Ob.below m10 hb
      have lt_m16 := Ob.lt m16
      replace m16 := Ob.below m16 hb
      have lt_m17 := Ob.lt m17
      replace m17 := Ob.below m17 hb
      replace bl := (bl.trans (Below.mono hb bl.size))
      replace sz := A.size.trans sz
      replace df := A.defs.trans df
      clear A hb
      refine wl_one (.eq (.int .i64 ((T1 / 2 : Nat) : Int))) rfl 11 rfl (by rw [sz]; decide) (st_assign (.tmp 120) rfl x120) ?_
      intro f39 w39 df2 sz2 old2 new2 hb
      replace bl0 := bl
      replace x0 := (old2 0 rfl).trans x0
      replace x1 := (old2 1 rfl).trans x1
      replace x5 := (old2 5 rfl).trans x5
      replace x6 := (old2 6 rfl).trans x6
      replace x38 := (old2 38 rfl).trans x38
      replace x7 := (old2 7 rfl).trans x7
      replace x47 := (old2 47 rfl).trans x47
      replace x56 := (old2 56 rfl).trans x56
      replace x9 := (old2 9 rfl).trans x9
      replace x10 := (old2 10 rfl).trans x10
      replace x67 := (old2 67 rfl).trans x67
      replace x68 := (old2 68 rfl).trans x68
      replace x69 := (old2 69 rfl).trans x69
      replace x70 := (old2 70 rfl).trans x70
      replace x14 := (old2 14 rfl).trans x14
      replace x15 := (old2 15 rfl).trans x15
      replace x90 := (old2 90 rfl).trans x90
      clear x11
      replace x12 := (old2 12 rfl).trans x12
      replace x16 := (old2 16 rfl).trans x16
      replace x17 := (old2 17 rfl).trans x17
      replace x101 := (old2 101 rfl).trans x101
      replace x110 := (old2 110 rfl).trans x110
      replace x120 := (old2 120 rfl).trans x120
      replace x122 := (old2 122 rfl).trans x122
      have x11 : f39.eval (.tmp 11) = .int .i64 ((T1 / 2 : Nat) : Int) := new2
      have lt_m9 := Ob.lt m9
      replace m9 := Ob.below m9 hb
      have lt_m10 := Ob.lt m10
      replace m10 := Ob.below m10 hb
      have lt_m16 := Ob.lt m16
      replace m16 := Ob.below m16 hb
      have lt_m17 := Ob.lt m17
      replace m17 := Ob.below m17 hb
      replace bl := (bl.trans (Below.mono hb bl.size))
      replace sz := sz2.trans sz
      replace df := df2.trans df
      clear df2 sz2 old2 new2 hb
      clear x120
      refine wl_one (.eq (.int .i64 ((T2 / 2 : Nat) : Int))) rfl 12 rfl (by rw [sz]; decide) (st_assign (.tmp 122) rfl x122) ?_
      intro f40 w40 df2 sz2 old2 new2 hb
      replace bl0 := bl
      replace x0 := (old2 0 rfl).trans x0
      replace x1 := (old2 1 rfl).trans x1
      replace x5 := (old2 5 rfl).trans x5
      replace x6 := (old2 6 rfl).trans x6
      replace x38 := (old2 38 rfl).trans x38
      replace x7 := (old2 7 rfl).trans x7
      replace x47 := (old2 47 rfl).trans x47
      replace x56 := (old2 56 rfl).trans x56
      replace x9 := (old2 9 rfl).trans x9
      replace x10 := (old2 10 rfl).trans x10
      replace x67 := (old2 67 rfl).trans x67
      replace x68 := (old2 68 rfl).trans x68
      replace x69 := (old2 69 rfl).trans x69
      replace x70 := (old2 70 rfl).trans x70
      replace x14 := (old2 14 rfl).trans x14
      replace x15 := (old2 15 rfl).trans x15
      replace x90 := (old2 90 rfl).trans x90
      clear x12
      replace x16 := (old2 16 rfl).trans x16
      replace x17 := (old2 17 rfl).trans x17
      replace x101 := (old2 101 rfl).trans x101
      replace x110 := (old2 110 rfl).trans x110
      replace x122 := (old2 122 rfl).trans x122
      replace x11 := (old2 11 rfl).trans x11
      have x12 : f40.eval (.tmp 12) = .int .i64 ((T2 / 2 : Nat) : Int) := new2
      have lt_m9 := Ob.lt m9
      replace m9 := Ob.below m9 hb
      have lt_m10 := Ob.lt m10
      replace m10 := Ob.below m10 hb
      have lt_m16 := Ob.lt m16
      replace m16 := Ob.below m16 hb
      have lt_m17 := Ob.lt m17
      replace m17 := Ob.below m17 hb
      replace bl := (bl.trans (Below.mono hb bl.size))
      replace sz := sz2.trans sz
      replace df := df2.trans df
      clear df2 sz2 old2 new2 hb
      refine wpList_nil ?_
      clear x122
      show Code.wp _ _ _ _ _
      refine wp_region_seq [.eq (.int .i64 ((k + 1 : Nat) : Int))] (by kernel_rfl) (by kernel_rfl) (by rw [sz]; kernel_rfl) (by kernel_rfl) ⟨fun hw ac u K => ?_, trivial⟩ ?_
      · exact st_add (.tmp 69) (.const (.int .i64 1)) rfl (k) (1) (k + 1) ((K.old 69 rfl).trans x69) rfl (by omega) (by omega)
      intro f41 w41 A hb
      replace bl0 := bl
      replace x0 := (A.old 0 rfl).trans x0
      replace x1 := (A.old 1 rfl).trans x1
      replace x5 := (A.old 5 rfl).trans x5
      replace x6 := (A.old 6 rfl).trans x6
      replace x38 := (A.old 38 rfl).trans x38
      replace x7 := (A.old 7 rfl).trans x7
      replace x47 := (A.old 47 rfl).trans x47
      replace x56 := (A.old 56 rfl).trans x56
      replace x9 := (A.old 9 rfl).trans x9
      replace x10 := (A.old 10 rfl).trans x10
      replace x67 := (A.old 67 rfl).trans x67
      replace x68 := (A.old 68 rfl).trans x68
      replace x69 := (A.old 69 rfl).trans x69
      replace x70 := (A.old 70 rfl).trans x70
      replace x14 := (A.old 14 rfl).trans x14
      replace x15 := (A.old 15 rfl).trans x15
      replace x90 := (A.old 90 rfl).trans x90
      replace x16 := (A.old 16 rfl).trans x16
      replace x17 := (A.old 17 rfl).trans x17
      replace x101 := (A.old 101 rfl).trans x101
      replace x110 := (A.old 110 rfl).trans x110
      replace x11 := (A.old 11 rfl).trans x11
      replace x12 := (A.old 12 rfl).trans x12
      have x123 : f41.eval (.tmp 123) = .int .i64 ((k + 1 : Nat) : Int) := A.has 0 123 rfl
      have lt_m9 := Ob.lt m9
      replace m9 := Ob.below m9 hb
      have lt_m10 := Ob.lt m10
      replace m10 := Ob.below m10 hb
      have lt_m16 := Ob.lt m16
      replace m16 := Ob.below m16 hb
      have lt_m17 := Ob.lt m17
      replace m17 := Ob.below m17 hb
      replace bl := (bl.trans (Below.mono hb bl.size))
      replace sz := A.size.trans sz
      replace df := A.defs.trans df
      clear A hb
      refine wl_one (.eq (.int .i64 ((k + 1 : Nat) : Int))) rfl 69 rfl (by rw [sz]; decide) (st_move (.tmp 123) rfl x123) ?_
      intro f42 w42 df2 sz2 old2 new2 hb
      replace bl0 := bl
      replace x0 := (old2 0 rfl).trans x0
      replace x1 := (old2 1 rfl).trans x1
      replace x5 := (old2 5 rfl).trans x5
      replace x6 := (old2 6 rfl).trans x6
      replace x38 := (old2 38 rfl).trans x38
      replace x7 := (old2 7 rfl).trans x7
      replace x47 := (old2 47 rfl).trans x47
      replace x56 := (old2 56 rfl).trans x56
      replace x9 := (old2 9 rfl).trans x9
      replace x10 := (old2 10 rfl).trans x10
      replace x67 := (old2 67 rfl).trans x67
      replace x68 := (old2 68 rfl).trans x68
      clear x69
      replace x70 := (old2 70 rfl).trans x70
      replace x14 := (old2 14 rfl).trans x14
      replace x15 := (old2 15 rfl).trans x15
      replace x90 := (old2 90 rfl).trans x90
      replace x16 := (old2 16 rfl).trans x16
      replace x17 := (old2 17 rfl).trans x17
      replace x101 := (old2 101 rfl).trans x101
      replace x110 := (old2 110 rfl).trans x110
      replace x11 := (old2 11 rfl).trans x11
      replace x12 := (old2 12 rfl).trans x12
      replace x123 := (old2 123 rfl).trans x123
      have x69 : f42.eval (.tmp 69) = .int .i64 ((k + 1 : Nat) : Int) := new2
      have lt_m9 := Ob.lt m9
      replace m9 := Ob.below m9 hb
      have lt_m10 := Ob.lt m10
      replace m10 := Ob.below m10 hb
      have lt_m16 := Ob.lt m16
      replace m16 := Ob.below m16 hb
      have lt_m17 := Ob.lt m17
      replace m17 := Ob.below m17 hb
      replace bl := (bl.trans (Below.mono hb bl.size))
      replace sz := sz2.trans sz
      replace df := df2.trans df
      clear df2 sz2 old2 new2 hb
      refine wpList_nil ?_
      clear x123
      show (∃ _, _) ∧ _
      replace x11 : Fk.f (.eq (.int .i64 (((itA (k + 1) (i, l.length - 1)).1 : Nat) : Int))) (f42.eval (.tmp 11)) w42 := (by rw [hit2]; exact x11)
      replace x12 : Fk.f (.eq (.int .i64 (((itA (k + 1) (i, l.length - 1)).2 : Nat) : Int))) (f42.eval (.tmp 12)) w42 := (by rw [hit2]; exact x12)
      refine ⟨⟨k + 1, by omega, (by rw [hlx2, hlo2]; exact hyy), sz, df, x0, x1, x5, x6, x38, x7, x47, x56, x9, x10, x67, x68, x69, x11, x12, (by rw [hlx2]; exact m9), (by rw [hlo2]; exact m10), bl⟩, ?_⟩
      rw [show f42.eval (.tmp 69) = _ from x69, show _ = _ from hcnt]
      simp [intOf]
      omega
    refine wp_all_seq [.eq (.agg ((y1).map V).toArray), .eq (.agg ((y2).map V).toArray), .eq (.bool true)] (by kernel_rfl) (by kernel_rfl) (by rw [sz]; kernel_rfl) (by kernel_rfl) ⟨fun hw ac u K => ?_, fun hw ac u K => ?_, fun hw ac u K => ?_, trivial⟩ ?_
    · exact st_load23 (.tmp 16) rfl (g16) (y1) ((K.old 16 rfl).trans x16) hy1 (Ob.below m16 K.grow)
    · exact st_load23 (.tmp 17) rfl (g17) (y2) ((K.old 17 rfl).trans x17) hy2 (Ob.below m17 K.grow)
    · exact st_eqh (.tmp 108) (.tmp 109) rfl (y1) (y2) hy1 hy2 (K.dep 0 108 rfl) (K.dep 1 109 rfl) _ (by rw [eq_comm, decide_eq_true_iff]; exact hyy)
    intro f32 w32 A hb
    replace bl0 := bl
    replace x0 := (A.old 0 rfl).trans x0
    replace x1 := (A.old 1 rfl).trans x1
    replace x5 := (A.old 5 rfl).trans x5
    replace x6 := (A.old 6 rfl).trans x6
    replace x38 := (A.old 38 rfl).trans x38
    replace x7 := (A.old 7 rfl).trans x7
    replace x47 := (A.old 47 rfl).trans x47
    replace x56 := (A.old 56 rfl).trans x56
    replace x9 := (A.old 9 rfl).trans x9
    replace x10 := (A.old 10 rfl).trans x10
    replace x67 := (A.old 67 rfl).trans x67
    replace x68 := (A.old 68 rfl).trans x68
    replace x69 := (A.old 69 rfl).trans x69
    replace x70 := (A.old 70 rfl).trans x70
    replace x14 := (A.old 14 rfl).trans x14
    replace x15 := (A.old 15 rfl).trans x15
    replace x90 := (A.old 90 rfl).trans x90
    replace x11 := (A.old 11 rfl).trans x11
    replace x12 := (A.old 12 rfl).trans x12
    replace x16 := (A.old 16 rfl).trans x16
    replace x17 := (A.old 17 rfl).trans x17
    replace x101 := (A.old 101 rfl).trans x101
    have x110 : f32.eval (.tmp 110) = .bool true := A.has 2 110 rfl
    have lt_m9 := Ob.lt m9
    replace m9 := Ob.below m9 hb
    have lt_m10 := Ob.lt m10
    replace m10 := Ob.below m10 hb
    have lt_m14 := Ob.lt m14
    replace m14 := Ob.below m14 hb
    have lt_m16 := Ob.lt m16
    replace m16 := Ob.below m16 hb
    have lt_m17 := Ob.lt m17
    replace m17 := Ob.below m17 hb
    replace bl := (bl.trans (Below.mono hb bl.size))
    replace sz := A.size.trans sz
    replace df := A.defs.trans df
    clear A hb
    show Code.wp _ _ _ _ _
    refine wp_cond_true x110 ?_
    refine wp_seq ?_
    refine wp_all_seq [.eq (.agg ((lek x P S k).map V).toArray), .eq (.agg ((lek o P S k).map V).toArray), .eq (.bool true), .eq (.bool true), .eq (.bool true), .eq (.bool true), .eq (.bool true)] (by kernel_rfl) (by kernel_rfl) (by rw [sz]; kernel_rfl) (by kernel_rfl) ⟨fun hw ac u K => ?_, fun hw ac u K => ?_, fun hw ac u K => ?_, fun hw ac u K => ?_, fun hw ac u K => ?_, fun hw ac u K => ?_, fun hw ac u K => ?_, trivial⟩ ?_
    · exact st_load23 (.tmp 9) rfl (g9) (lek x P S k) ((K.old 9 rfl).trans x9) hlx (Ob.below m9 K.grow)
    · exact st_load23 (.tmp 10) rfl (g10) (lek o P S k) ((K.old 10 rfl).trans x10) hlo (Ob.below m10 K.grow)
    · exact st_neqh (.tmp 111) (.tmp 112) rfl (lek x P S k) (lek o P S k) hlx hlo (K.dep 0 111 rfl) (K.dep 1 112 rfl) _ (by rw [eq_comm, decide_eq_true_iff]; exact hne)
    · exact st_move (.tmp 113) rfl (K.dep 2 113 rfl)
    · exact st_call 8 (.func 8) _ _ #[] rfl rfl rfl Tryd.enter8 (fk_of (awake_any _ (hK.below (bl.trans (Below.mono K.grow bl.size)))))
    · exact st_pick_t (.tmp 114) (.tmp 115) (.const (.bool false)) rfl (K.dep 3 114 rfl) (K.dep 4 115 rfl)
    · exact st_assign (.tmp 116) rfl (K.dep 5 116 rfl)
    intro f33 w33 A hb
    replace bl0 := bl
    replace x0 := (A.old 0 rfl).trans x0
    replace x1 := (A.old 1 rfl).trans x1
    replace x5 := (A.old 5 rfl).trans x5
    clear x6
    replace x38 := (A.old 38 rfl).trans x38
    replace x7 := (A.old 7 rfl).trans x7
    replace x47 := (A.old 47 rfl).trans x47
    replace x56 := (A.old 56 rfl).trans x56
    replace x9 := (A.old 9 rfl).trans x9
    replace x10 := (A.old 10 rfl).trans x10
    replace x67 := (A.old 67 rfl).trans x67
    replace x68 := (A.old 68 rfl).trans x68
    replace x69 := (A.old 69 rfl).trans x69
    replace x70 := (A.old 70 rfl).trans x70
    replace x14 := (A.old 14 rfl).trans x14
    replace x15 := (A.old 15 rfl).trans x15
    replace x90 := (A.old 90 rfl).trans x90
    replace x11 := (A.old 11 rfl).trans x11
    replace x12 := (A.old 12 rfl).trans x12
    replace x16 := (A.old 16 rfl).trans x16
    replace x17 := (A.old 17 rfl).trans x17
    replace x101 := (A.old 101 rfl).trans x101
    replace x110 := (A.old 110 rfl).trans x110
    have x6 : f33.eval (.tmp 6) = .bool true := A.has 6 6 rfl
    have lt_m9 := Ob.lt m9
    replace m9 := Ob.below m9 hb
    have lt_m10 := Ob.lt m10
    replace m10 := Ob.below m10 hb
    have lt_m14 := Ob.lt m14
    replace m14 := Ob.below m14 hb
    have lt_m16 := Ob.lt m16
    replace m16 := Ob.below m16 hb
    have lt_m17 := Ob.lt m17
    replace m17 := Ob.below m17 hb
    replace bl := (bl.trans (Below.mono hb bl.size))
    replace sz := A.size.trans sz
    replace df := A.defs.trans df
    clear A hb
    show Code.wp _ _ _ _ _
    refine wp_ret ?_
    repeat (first | with_reducible refine then_ret ?_ | with_reducible refine block_ret ?_)
    exact bodyPost_ret (v := .bool true) (ret_slot rfl f33 _ x6 _ _) df ⟨rfl, (blw.trans (Below.mono bl blw.size))⟩
  refine wp_all_seq [.eq (.int .i64 ((aa : Nat) : Int)), .eq (.int .i64 ((aa % 2 : Nat) : Int)), .eq (.bool true), .eq (.bool true), .any, .any, .any, .eq (.bool true), .eq (.bool true)] (by kernel_rfl) (by kernel_rfl) (by rw [sz]; kernel_rfl) (by kernel_rfl) ⟨fun hw ac u K => ?_, fun hw ac u K => ?_, fun hw ac u K => ?_, fun hw ac u K => ?_, fun hw ac u K => ?_, fun hw ac u K => ?_, fun hw ac u K => ?_, fun hw ac u K => ?_, fun hw ac u K => ?_, trivial⟩ ?_
  · exact st_move (.tmp 11) rfl ((K.old 11 rfl).trans x11)
  · exact st_rem2 (.tmp 73) (.const (.int .i64 2)) rfl (aa) (K.dep 0 73 rfl) rfl
  · exact st_eqi 3 (.tmp 74) (.const (.int .i64 1)) rfl .i64 (((aa % 2 : Nat) : Int)) (1) (K.dep 1 74 rfl) rfl _ (by rw [eq_comm, decide_eq_true_iff]; omega)
  · exact st_move (.tmp 75) rfl (K.dep 2 75 rfl)
  · exact (Bool.false_ne_true hw).elim
  · exact (Bool.false_ne_true hw).elim
  · exact (Bool.false_ne_true hw).elim
  · exact st_pick_t (.tmp 76) (.const (.bool true)) (.tmp 79) rfl (K.dep 3 76 rfl) rfl
  · exact st_assign (.tmp 80) rfl (K.dep 7 80 rfl)
  intro f23 w23 A hb
  replace bl0 := bl
  replace x0 := (A.old 0 rfl).trans x0
  replace x1 := (A.old 1 rfl).trans x1
  replace x5 := (A.old 5 rfl).trans x5
  replace x6 := (A.old 6 rfl).trans x6
  replace x38 := (A.old 38 rfl).trans x38
  replace x7 := (A.old 7 rfl).trans x7
  replace x47 := (A.old 47 rfl).trans x47
  replace x56 := (A.old 56 rfl).trans x56
  replace x9 := (A.old 9 rfl).trans x9
  replace x10 := (A.old 10 rfl).trans x10
  replace x11 := (A.old 11 rfl).trans x11
  replace x12 := (A.old 12 rfl).trans x12
  replace x67 := (A.old 67 rfl).trans x67
  replace x68 := (A.old 68 rfl).trans x68
  replace x69 := (A.old 69 rfl).trans x69
  replace x70 := (A.old 70 rfl).trans x70
  replace x14 := (A.old 14 rfl).trans x14
  have x15 : f23.eval (.tmp 15) = .bool true := A.has 8 15 rfl
  have lt_m9 := Ob.lt m9
  replace m9 := Ob.below m9 hb
  have lt_m10 := Ob.lt m10
  replace m10 := Ob.below m10 hb
  have lt_m14 := Ob.lt m14
  replace m14 := Ob.below m14 hb
  replace bl := (bl.trans (Below.mono hb bl.size))
  replace sz := A.size.trans sz
  replace df := A.defs.trans df
  clear A hb
  show Code.wp _ _ _ _ _
  refine wp_seq ?_
  obtain ⟨jF, hjF⟩ : ∃ F : Act → World → Prop, F = fun f v1 => f.tmps.size = 124 ∧ f.defers = [] ∧ f.eval (.tmp 0) = .slice lA (l).length lC ∧ f.eval (.tmp 1) = .int .i64 ((i : Nat) : Int) ∧ f.eval (.tmp 5) = .pointer (some ⟨g5, 0, none⟩) ∧ f.eval (.tmp 6) = .bool false ∧ f.eval (.tmp 38) = .bool false ∧ f.eval (.tmp 7) = v7 ∧ f.eval (.tmp 47) = .bool false ∧ f.eval (.tmp 56) = .bool false ∧ f.eval (.tmp 9) = .pointer (some ⟨g9, 0, none⟩) ∧ f.eval (.tmp 10) = .pointer (some ⟨g10, 0, none⟩) ∧ f.eval (.tmp 67) = v7 ∧ f.eval (.tmp 68) = .int .i64 (((P).length : Nat) : Int) ∧ f.eval (.tmp 69) = .int .i64 ((k : Nat) : Int) ∧ f.eval (.tmp 70) = .bool true ∧ f.eval (.tmp 14) = .pointer (some ⟨g14, 0, none⟩) ∧ f.eval (.tmp 15) = .bool true ∧ f.eval (.tmp 90) = .bool false ∧ f.eval (.tmp 11) = .int .i64 ((T1 : Nat) : Int) ∧ f.eval (.tmp 12) = .int .i64 ((T2 : Nat) : Int) ∧ Ob v1 (g9) 23 ((lek x P S k).map V) ∧ Ob v1 (g10) 23 ((lek o P S k).map V) ∧ Ob v1 (g14) 23 ((p).map V) ∧ Below w5.heap.size w5 (v1) := ⟨_, rfl⟩
  refine wp_join (F := jF) ?_ (fun f24 w24 hI => ?_)
  · refine wp_block ?_
    refine wp_loop (fun f v1 => ∃ (fu a2 l2 : Nat), skp fu (a2, l2) = (T1, T2) ∧ a2 < 2 ^ fu ∧ a2 ≤ 70 ∧ l2 ≤ 70 ∧ f.tmps.size = 124 ∧ f.defers = [] ∧ f.eval (.tmp 0) = .slice lA (l).length lC ∧ f.eval (.tmp 1) = .int .i64 ((i : Nat) : Int) ∧ f.eval (.tmp 5) = .pointer (some ⟨g5, 0, none⟩) ∧ f.eval (.tmp 6) = .bool false ∧ f.eval (.tmp 38) = .bool false ∧ f.eval (.tmp 7) = v7 ∧ f.eval (.tmp 47) = .bool false ∧ f.eval (.tmp 56) = .bool false ∧ f.eval (.tmp 9) = .pointer (some ⟨g9, 0, none⟩) ∧ f.eval (.tmp 10) = .pointer (some ⟨g10, 0, none⟩) ∧ f.eval (.tmp 67) = v7 ∧ f.eval (.tmp 68) = .int .i64 (((P).length : Nat) : Int) ∧ f.eval (.tmp 69) = .int .i64 ((k : Nat) : Int) ∧ f.eval (.tmp 70) = .bool true ∧ f.eval (.tmp 14) = .pointer (some ⟨g14, 0, none⟩) ∧ f.eval (.tmp 15) = .bool true ∧ f.eval (.tmp 11) = .int .i64 ((a2 : Nat) : Int) ∧ f.eval (.tmp 12) = .int .i64 ((l2 : Nat) : Int) ∧ Ob v1 (g9) 23 ((lek x P S k).map V) ∧ Ob v1 (g10) 23 ((lek o P S k).map V) ∧ Ob v1 (g14) 23 ((p).map V) ∧ Below w5.heap.size w5 (v1)) (fun f _ => (intOf (f.eval (.tmp 11))).toNat) ⟨8, aa, ll, hT, (by rw [show (2 : Nat) ^ 8 = 256 from rfl]; omega), (by omega), (by omega), sz, df, x0, x1, x5, x6, x38, x7, x47, x56, x9, x10, x67, x68, x69, x70, x14, x15, x11, x12, m9, m10, m14, bl⟩ ?_
    intro f24 w24 hI
    clear sz df bl bl0 x0 x1 x5 x6 x38 x7 x47 x56 x9 x10 x11 x12 x67 x68 x69 x70 x14 x15 m9 m10 m14
    obtain ⟨fu, a2, l2, hf, hfu, ha2, hl2, sz, df, x0, x1, x5, x6, x38, x7, x47, x56, x9, x10, x67, x68, x69, x70, x14, x15, x11, x12, m9, m10, m14, bl⟩ := hI
    have bl0 := bl
    refine wp_seq ?_
    refine wp_seq ?_
    have hcnt2 := x11
    by_cases hgo : a2 % 2 = 0 ∧ 0 < a2
    rotate_left
    · skip
      by_cases ha2e : a2 % 2 = 0
      rotate_left
      · skip
        refine wp_all_seq [.eq (.bool true), .eq (.bool true), .eq (.int .i64 ((a2 : Nat) : Int)), .eq (.int .i64 ((a2 % 2 : Nat) : Int)), .eq (.bool false), .eq (.bool false), .eq (.bool false), .any, .any, .eq (.bool false)] (by kernel_rfl) (by kernel_rfl) (by rw [sz]; kernel_rfl) (by kernel_rfl) ⟨fun hw ac u K => ?_, fun hw ac u K => ?_, fun hw ac u K => ?_, fun hw ac u K => ?_, fun hw ac u K => ?_, fun hw ac u K => ?_, fun hw ac u K => ?_, fun hw ac u K => ?_, fun hw ac u K => ?_, fun hw ac u K => ?_, trivial⟩ ?_
        · exact st_move (.tmp 15) rfl ((K.old 15 rfl).trans x15)
        · exact st_move (.tmp 81) rfl (K.dep 0 81 rfl)
        · exact st_move (.tmp 11) rfl ((K.old 11 rfl).trans x11)
        · exact st_rem2 (.tmp 83) (.const (.int .i64 2)) rfl (a2) (K.dep 2 83 rfl) rfl
        · exact st_eqi 3 (.tmp 84) (.const (.int .i64 0)) rfl .i64 (((a2 % 2 : Nat) : Int)) (0) (K.dep 3 84 rfl) rfl _ (by rw [eq_comm, decide_eq_false_iff_not]; omega)
        · exact st_pick_t (.tmp 82) (.tmp 85) (.const (.bool false)) rfl (K.dep 1 82 rfl) (K.dep 4 85 rfl)
        · exact st_move (.tmp 86) rfl (K.dep 5 86 rfl)
        · exact (Bool.false_ne_true hw).elim
        · exact (Bool.false_ne_true hw).elim
        · exact st_pick_f' (.tmp 87) (.tmp 89) (.const (.bool false)) rfl (K.dep 6 87 rfl) rfl
        intro f25 w25 A hb
        replace bl0 := bl
        replace x0 := (A.old 0 rfl).trans x0
        replace x1 := (A.old 1 rfl).trans x1
        replace x5 := (A.old 5 rfl).trans x5
        replace x6 := (A.old 6 rfl).trans x6
        replace x38 := (A.old 38 rfl).trans x38
        replace x7 := (A.old 7 rfl).trans x7
        replace x47 := (A.old 47 rfl).trans x47
        replace x56 := (A.old 56 rfl).trans x56
        replace x9 := (A.old 9 rfl).trans x9
        replace x10 := (A.old 10 rfl).trans x10
        replace x11 := (A.old 11 rfl).trans x11
        replace x12 := (A.old 12 rfl).trans x12
        replace x67 := (A.old 67 rfl).trans x67
        replace x68 := (A.old 68 rfl).trans x68
        replace x69 := (A.old 69 rfl).trans x69
        replace x70 := (A.old 70 rfl).trans x70
        replace x14 := (A.old 14 rfl).trans x14
        replace x15 := (A.old 15 rfl).trans x15
        have x90 : f25.eval (.tmp 90) = .bool false := A.has 9 90 rfl
        have lt_m9 := Ob.lt m9
        replace m9 := Ob.below m9 hb
        have lt_m10 := Ob.lt m10
        replace m10 := Ob.below m10 hb
        have lt_m14 := Ob.lt m14
        replace m14 := Ob.below m14 hb
        replace bl := (bl.trans (Below.mono hb bl.size))
        replace sz := A.size.trans sz
        replace df := A.defs.trans df
        clear A hb
        show Code.wp _ _ _ _ _
        refine wp_cond_false x90 ?_
        refine wp_exit ?_
        have hTT : a2 = T1 ∧ l2 = T2 := by rw [skp_end hgo] at hf; exact Prod.mk.inj hf
        rw [hTT.1] at x11
        rw [hTT.2] at x12
        show jF f25 w25
        rw [hjF]
        exact ⟨sz, df, x0, x1, x5, x6, x38, x7, x47, x56, x9, x10, x67, x68, x69, x70, x14, x15, x90, x11, x12, m9, m10, m14, bl⟩
      refine wp_all_seq [.eq (.bool true), .eq (.bool true), .eq (.int .i64 ((a2 : Nat) : Int)), .eq (.int .i64 ((a2 % 2 : Nat) : Int)), .eq (.bool true), .eq (.bool true), .eq (.bool true), .eq (.int .i64 ((a2 : Nat) : Int)), .eq (.bool false), .eq (.bool false)] (by kernel_rfl) (by kernel_rfl) (by rw [sz]; kernel_rfl) (by kernel_rfl) ⟨fun hw ac u K => ?_, fun hw ac u K => ?_, fun hw ac u K => ?_, fun hw ac u K => ?_, fun hw ac u K => ?_, fun hw ac u K => ?_, fun hw ac u K => ?_, fun hw ac u K => ?_, fun hw ac u K => ?_, fun hw ac u K => ?_, trivial⟩ ?_
      · exact st_move (.tmp 15) rfl ((K.old 15 rfl).trans x15)
      · exact st_move (.tmp 81) rfl (K.dep 0 81 rfl)
      · exact st_move (.tmp 11) rfl ((K.old 11 rfl).trans x11)
      · exact st_rem2 (.tmp 83) (.const (.int .i64 2)) rfl (a2) (K.dep 2 83 rfl) rfl
      · exact st_eqi 3 (.tmp 84) (.const (.int .i64 0)) rfl .i64 (((a2 % 2 : Nat) : Int)) (0) (K.dep 3 84 rfl) rfl _ (by rw [eq_comm, decide_eq_true_iff]; omega)
      · exact st_pick_t (.tmp 82) (.tmp 85) (.const (.bool false)) rfl (K.dep 1 82 rfl) (K.dep 4 85 rfl)
      · exact st_move (.tmp 86) rfl (K.dep 5 86 rfl)
      · exact st_move (.tmp 11) rfl ((K.old 11 rfl).trans x11)
      · exact st_gtr 3 (.tmp 88) (.const (.int .i64 0)) rfl .i64 (((a2 : Nat) : Int)) (0) (K.dep 7 88 rfl) rfl _ (by rw [eq_comm, decide_eq_false_iff_not]; omega)
      · exact st_pick_t (.tmp 87) (.tmp 89) (.const (.bool false)) rfl (K.dep 6 87 rfl) (K.dep 8 89 rfl)
      intro f25 w25 A hb
      replace bl0 := bl
      replace x0 := (A.old 0 rfl).trans x0
      replace x1 := (A.old 1 rfl).trans x1
      replace x5 := (A.old 5 rfl).trans x5
      replace x6 := (A.old 6 rfl).trans x6
      replace x38 := (A.old 38 rfl).trans x38
      replace x7 := (A.old 7 rfl).trans x7
      replace x47 := (A.old 47 rfl).trans x47
      replace x56 := (A.old 56 rfl).trans x56
      replace x9 := (A.old 9 rfl).trans x9
      replace x10 := (A.old 10 rfl).trans x10
      replace x11 := (A.old 11 rfl).trans x11
      replace x12 := (A.old 12 rfl).trans x12
      replace x67 := (A.old 67 rfl).trans x67
      replace x68 := (A.old 68 rfl).trans x68
      replace x69 := (A.old 69 rfl).trans x69
      replace x70 := (A.old 70 rfl).trans x70
      replace x14 := (A.old 14 rfl).trans x14
      replace x15 := (A.old 15 rfl).trans x15
      have x90 : f25.eval (.tmp 90) = .bool false := A.has 9 90 rfl
      have lt_m9 := Ob.lt m9
      replace m9 := Ob.below m9 hb
      have lt_m10 := Ob.lt m10
      replace m10 := Ob.below m10 hb
      have lt_m14 := Ob.lt m14
      replace m14 := Ob.below m14 hb
      replace bl := (bl.trans (Below.mono hb bl.size))
      replace sz := A.size.trans sz
      replace df := A.defs.trans df
      clear A hb
      show Code.wp _ _ _ _ _
      refine wp_cond_false x90 ?_
      refine wp_exit ?_
      have hTT : a2 = T1 ∧ l2 = T2 := by rw [skp_end hgo] at hf; exact Prod.mk.inj hf
      rw [hTT.1] at x11
      rw [hTT.2] at x12
      show jF f25 w25
      rw [hjF]
      exact ⟨sz, df, x0, x1, x5, x6, x38, x7, x47, x56, x9, x10, x67, x68, x69, x70, x14, x15, x90, x11, x12, m9, m10, m14, bl⟩
    obtain ⟨f2, rfl⟩ : ∃ f2, fu = f2 + 1 := by
      cases fu with
      | zero => rw [Nat.pow_zero] at hfu; omega
      | succ f2 => exact ⟨f2, rfl⟩
    refine wp_all_seq [.eq (.bool true), .eq (.bool true), .eq (.int .i64 ((a2 : Nat) : Int)), .eq (.int .i64 ((a2 % 2 : Nat) : Int)), .eq (.bool true), .eq (.bool true), .eq (.bool true), .eq (.int .i64 ((a2 : Nat) : Int)), .eq (.bool true), .eq (.bool true)] (by kernel_rfl) (by kernel_rfl) (by rw [sz]; kernel_rfl) (by kernel_rfl) ⟨fun hw ac u K => ?_, fun hw ac u K => ?_, fun hw ac u K => ?_, fun hw ac u K => ?_, fun hw ac u K => ?_, fun hw ac u K => ?_, fun hw ac u K => ?_, fun hw ac u K => ?_, fun hw ac u K => ?_, fun hw ac u K => ?_, trivial⟩ ?_
    · exact st_move (.tmp 15) rfl ((K.old 15 rfl).trans x15)
    · exact st_move (.tmp 81) rfl (K.dep 0 81 rfl)
    · exact st_move (.tmp 11) rfl ((K.old 11 rfl).trans x11)
    · exact st_rem2 (.tmp 83) (.const (.int .i64 2)) rfl (a2) (K.dep 2 83 rfl) rfl
    · exact st_eqi 3 (.tmp 84) (.const (.int .i64 0)) rfl .i64 (((a2 % 2 : Nat) : Int)) (0) (K.dep 3 84 rfl) rfl _ (by rw [eq_comm, decide_eq_true_iff]; omega)
    · exact st_pick_t (.tmp 82) (.tmp 85) (.const (.bool false)) rfl (K.dep 1 82 rfl) (K.dep 4 85 rfl)
    · exact st_move (.tmp 86) rfl (K.dep 5 86 rfl)
    · exact st_move (.tmp 11) rfl ((K.old 11 rfl).trans x11)
    · exact st_gtr 3 (.tmp 88) (.const (.int .i64 0)) rfl .i64 (((a2 : Nat) : Int)) (0) (K.dep 7 88 rfl) rfl _ (by rw [eq_comm, decide_eq_true_iff]; omega)
    · exact st_pick_t (.tmp 87) (.tmp 89) (.const (.bool false)) rfl (K.dep 6 87 rfl) (K.dep 8 89 rfl)
    intro f25 w25 A hb
    replace bl0 := bl
    replace x0 := (A.old 0 rfl).trans x0
    replace x1 := (A.old 1 rfl).trans x1
    replace x5 := (A.old 5 rfl).trans x5
    replace x6 := (A.old 6 rfl).trans x6
    replace x38 := (A.old 38 rfl).trans x38
    replace x7 := (A.old 7 rfl).trans x7
    replace x47 := (A.old 47 rfl).trans x47
    replace x56 := (A.old 56 rfl).trans x56
    replace x9 := (A.old 9 rfl).trans x9
    replace x10 := (A.old 10 rfl).trans x10
    replace x11 := (A.old 11 rfl).trans x11
    replace x12 := (A.old 12 rfl).trans x12
    replace x67 := (A.old 67 rfl).trans x67
    replace x68 := (A.old 68 rfl).trans x68
    replace x69 := (A.old 69 rfl).trans x69
    replace x70 := (A.old 70 rfl).trans x70
    replace x14 := (A.old 14 rfl).trans x14
    replace x15 := (A.old 15 rfl).trans x15
    have x90 : f25.eval (.tmp 90) = .bool true := A.has 9 90 rfl
    have lt_m9 := Ob.lt m9
    replace m9 := Ob.below m9 hb
    have lt_m10 := Ob.lt m10
    replace m10 := Ob.below m10 hb
    have lt_m14 := Ob.lt m14
    replace m14 := Ob.below m14 hb
    replace bl := (bl.trans (Below.mono hb bl.size))
    replace sz := A.size.trans sz
    replace df := A.defs.trans df
    clear A hb
    show Code.wp _ _ _ _ _
    refine wp_cond_true x90 ?_
    refine wp_skip ?_
    show Code.wp _ _ _ _ _
    refine wp_block ?_
    refine wp_region_seq [.eq (.int .i64 ((a2 : Nat) : Int)), .eq (.int .i64 ((a2 / 2 : Nat) : Int)), .eq (.int .i64 ((l2 : Nat) : Int)), .eq (.int .i64 ((l2 / 2 : Nat) : Int))] (by kernel_rfl) (by kernel_rfl) (by rw [sz]; kernel_rfl) (by kernel_rfl) ⟨fun hw ac u K => ?_, fun hw ac u K => ?_, fun hw ac u K => ?_, fun hw ac u K => ?_, trivial⟩ ?_
    · exact st_move (.tmp 11) rfl ((K.old 11 rfl).trans x11)
    · exact st_half (.tmp 91) (.const (.int .i64 2)) rfl (a2) _ rfl (by omega) (K.dep 0 91 rfl) rfl
    · exact st_move (.tmp 12) rfl ((K.old 12 rfl).trans x12)
    · exact st_half (.tmp 93) (.const (.int .i64 2)) rfl (l2) _ rfl (by omega) (K.dep 2 93 rfl) rfl
    intro f26 w26 A hb
    replace bl0 := bl
    replace x0 := (A.old 0 rfl).trans x0
    replace x1 := (A.old 1 rfl).trans x1
    replace x5 := (A.old 5 rfl).trans x5
    replace x6 := (A.old 6 rfl).trans x6
    replace x38 := (A.old 38 rfl).trans x38
    replace x7 := (A.old 7 rfl).trans x7
    replace x47 := (A.old 47 rfl).trans x47
    replace x56 := (A.old 56 rfl).trans x56
    replace x9 := (A.old 9 rfl).trans x9
    replace x10 := (A.old 10 rfl).trans x10
    replace x11 := (A.old 11 rfl).trans x11
    replace x12 := (A.old 12 rfl).trans x12
    replace x67 := (A.old 67 rfl).trans x67
    replace x68 := (A.old 68 rfl).trans x68
    replace x69 := (A.old 69 rfl).trans x69
    replace x70 := (A.old 70 rfl).trans x70
    replace x14 := (A.old 14 rfl).trans x14
    replace x15 := (A.old 15 rfl).trans x15
    replace x90 := (A.old 90 rfl).trans x90
    have x92 : f26.eval (.tmp 92) = .int .i64 ((a2 / 2 : Nat) : Int) := A.has 1 92 rfl
    have x94 : f26.eval (.tmp 94) = .int .i64 ((l2 / 2 : Nat) : Int) := A.has 3 94 rfl
    have lt_m9 := Ob.lt m9
    replace m9 := Ob.below m9 hb
    have lt_m10 := Ob.lt m10
    replace m10 := Ob.below m10 hb
    have lt_m14 := Ob.lt m14
    replace m14 := Ob.below m14 hb
    replace bl := (bl.trans (Below.mono hb bl.size))
    replace sz := A.size.trans sz
    replace df := A.defs.trans df
    clear A hb
    refine wl_one (.eq (.int .i64 ((a2 / 2 : Nat) : Int))) rfl 11 rfl (by rw [sz]; decide) (st_assign (.tmp 92) rfl x92) ?_
    intro f27 w27 df2 sz2 old2 new2 hb
    replace bl0 := bl
    replace x0 := (old2 0 rfl).trans x0
    replace x1 := (old2 1 rfl).trans x1
    replace x5 := (old2 5 rfl).trans x5
    replace x6 := (old2 6 rfl).trans x6
    replace x38 := (old2 38 rfl).trans x38
    replace x7 := (old2 7 rfl).trans x7
    replace x47 := (old2 47 rfl).trans x47
    replace x56 := (old2 56 rfl).trans x56
    replace x9 := (old2 9 rfl).trans x9
    replace x10 := (old2 10 rfl).trans x10
    clear x11
    replace x12 := (old2 12 rfl).trans x12
    replace x67 := (old2 67 rfl).trans x67
    replace x68 := (old2 68 rfl).trans x68
    replace x69 := (old2 69 rfl).trans x69
    replace x70 := (old2 70 rfl).trans x70
    replace x14 := (old2 14 rfl).trans x14
    replace x15 := (old2 15 rfl).trans x15
    replace x90 := (old2 90 rfl).trans x90
    replace x92 := (old2 92 rfl).trans x92
    replace x94 := (old2 94 rfl).trans x94
    have x11 : f27.eval (.tmp 11) = .int .i64 ((a2 / 2 : Nat) : Int) := new2
    have lt_m9 := Ob.lt m9
    replace m9 := Ob.below m9 hb
    have lt_m10 := Ob.lt m10
    replace m10 := Ob.below m10 hb
    have lt_m14 := Ob.lt m14
    replace m14 := Ob.below m14 hb
    replace bl := (bl.trans (Below.mono hb bl.size))
    replace sz := sz2.trans sz
    replace df := df2.trans df
    clear df2 sz2 old2 new2 hb
    clear x92
    refine wl_one (.eq (.int .i64 ((l2 / 2 : Nat) : Int))) rfl 12 rfl (by rw [sz]; decide) (st_assign (.tmp 94) rfl x94) ?_
    intro f28 w28 df2 sz2 old2 new2 hb
    replace bl0 := bl
    replace x0 := (old2 0 rfl).trans x0
    replace x1 := (old2 1 rfl).trans x1
    replace x5 := (old2 5 rfl).trans x5
    replace x6 := (old2 6 rfl).trans x6
    replace x38 := (old2 38 rfl).trans x38
    replace x7 := (old2 7 rfl).trans x7
    replace x47 := (old2 47 rfl).trans x47
    replace x56 := (old2 56 rfl).trans x56
    replace x9 := (old2 9 rfl).trans x9
    replace x10 := (old2 10 rfl).trans x10
    clear x12
    replace x67 := (old2 67 rfl).trans x67
    replace x68 := (old2 68 rfl).trans x68
    replace x69 := (old2 69 rfl).trans x69
    replace x70 := (old2 70 rfl).trans x70
    replace x14 := (old2 14 rfl).trans x14
    replace x15 := (old2 15 rfl).trans x15
    replace x90 := (old2 90 rfl).trans x90
    replace x94 := (old2 94 rfl).trans x94
    replace x11 := (old2 11 rfl).trans x11
    have x12 : f28.eval (.tmp 12) = .int .i64 ((l2 / 2 : Nat) : Int) := new2
    have lt_m9 := Ob.lt m9
    replace m9 := Ob.below m9 hb
    have lt_m10 := Ob.lt m10
    replace m10 := Ob.below m10 hb
    have lt_m14 := Ob.lt m14
    replace m14 := Ob.below m14 hb
    replace bl := (bl.trans (Below.mono hb bl.size))
    replace sz := sz2.trans sz
    replace df := df2.trans df
    clear df2 sz2 old2 new2 hb
    refine wpList_nil ?_
    clear x94
    show (∃ _, _) ∧ _
    refine ⟨⟨f2, a2 / 2, l2 / 2, (by rw [skp_go hgo.1 hgo.2] at hf; exact hf), (by rw [Nat.pow_succ] at hfu; omega), (by omega), (by omega), sz, df, x0, x1, x5, x6, x38, x7, x47, x56, x9, x10, x67, x68, x69, x70, x14, x15, x11, x12, m9, m10, m14, bl⟩, ?_⟩
    rw [show f28.eval (.tmp 11) = _ from x11, show _ = _ from hcnt2]
    simp only [intOf, Int.toNat_natCast]
    omega
  clear sz df bl bl0 x0 x1 x5 x6 x38 x7 x47 x56 x9 x10 x11 x12 x67 x68 x69 x70 x14 x15 m9 m10 m14
  rw [hjF] at hI
  clear hjF
  obtain ⟨sz, df, x0, x1, x5, x6, x38, x7, x47, x56, x9, x10, x67, x68, x69, x70, x14, x15, x90, x11, x12, m9, m10, m14, bl⟩ := hI
  have bl0 := bl
  show Code.wp _ _ _ _ _
  refine wp_seq ?_
  refine wp_region_new [.eq (.agg ((lek x P S k).map V).toArray), .eq (.agg ((p).map V).toArray), .eq (.agg ((z1).map V).toArray), .eq (.agg ((lek o P S k).map V).toArray), .eq (.agg ((p).map V).toArray), .eq (.agg ((z2).map V).toArray), .pn w24.heap.size hz, .pn w24.heap.size hz] [8, 9] [(6, 16), (7, 17)] (by kernel_rfl) (by intro x hx; simp only [List.mem_cons, List.not_mem_nil, or_false] at hx; rcases hx with rfl | rfl <;> rfl) (by kernel_rfl) (by kernel_rfl) (by kernel_rfl) (by kernel_rfl) (by rw [sz]; kernel_rfl) (by kernel_rfl) ⟨fun hw ac u K => ?_, fun hw ac u K => ?_, fun hw ac u K => ?_, fun hw ac u K => ?_, fun hw ac u K => ?_, fun hw ac u K => ?_, fun hw ac u K => ?_, fun hw ac u K => ?_, trivial⟩ ?_
  · exact st_load23 (.tmp 9) rfl (g9) (lek x P S k) ((K.old 9 rfl).trans x9) hlx (Ob.below m9 K.grow)
  · exact st_load23 (.tmp 14) rfl (g14) (p) ((K.old 14 rfl).trans x14) hp (Ob.below m14 K.grow)
  · exact st_call 21 (.func 21) _ _ #[.agg ((lek x P S k).map V).toArray, .agg ((p).map V).toArray] rfl rfl (arg2 (K.dep 0 95 rfl) (K.dep 1 96 rfl)) Tryd.enter21 (fk_node hlx hp (hK.below (bl.trans (Below.mono K.grow bl.size))) ez1)
  · exact st_load23 (.tmp 10) rfl (g10) (lek o P S k) ((K.old 10 rfl).trans x10) hlo (Ob.below m10 K.grow)
  · exact st_load23 (.tmp 14) rfl (g14) (p) ((K.old 14 rfl).trans x14) hp (Ob.below m14 K.grow)
  · exact st_call 21 (.func 21) _ _ #[.agg ((lek o P S k).map V).toArray, .agg ((p).map V).toArray] rfl rfl (arg2 (K.dep 3 98 rfl) (K.dep 4 99 rfl)) Tryd.enter21 (fk_node hlo hp (hK.below (bl.trans (Below.mono K.grow bl.size))) ez2)
  · exact st_alloc23 rfl _ K.grow.size
  · exact st_alloc23 rfl _ K.grow.size
  intro f25 w25 A hap hb
  replace bl0 := bl
  replace x0 := (A.old 0 rfl).trans x0
  replace x1 := (A.old 1 rfl).trans x1
  replace x5 := (A.old 5 rfl).trans x5
  replace x6 := (A.old 6 rfl).trans x6
  replace x38 := (A.old 38 rfl).trans x38
  replace x7 := (A.old 7 rfl).trans x7
  replace x47 := (A.old 47 rfl).trans x47
  replace x56 := (A.old 56 rfl).trans x56
  replace x9 := (A.old 9 rfl).trans x9
  replace x10 := (A.old 10 rfl).trans x10
  replace x67 := (A.old 67 rfl).trans x67
  replace x68 := (A.old 68 rfl).trans x68
  replace x69 := (A.old 69 rfl).trans x69
  replace x70 := (A.old 70 rfl).trans x70
  replace x14 := (A.old 14 rfl).trans x14
  replace x15 := (A.old 15 rfl).trans x15
  replace x90 := (A.old 90 rfl).trans x90
  replace x11 := (A.old 11 rfl).trans x11
  replace x12 := (A.old 12 rfl).trans x12
  have x16 : Fk.f (.pn w24.heap.size hz) (f25.eval (.tmp 16)) w25 := A.has 6 16 rfl
  have x17 : Fk.f (.pn w24.heap.size hz) (f25.eval (.tmp 17)) w25 := A.has 7 17 rfl
  have x97 : f25.eval (.tmp 97) = .agg ((z1).map V).toArray := A.has 2 97 rfl
  have x100 : f25.eval (.tmp 100) = .agg ((z2).map V).toArray := A.has 5 100 rfl
  have lt_m9 := Ob.lt m9
  replace m9 := Ob.below m9 hb
  have lt_m10 := Ob.lt m10
  replace m10 := Ob.below m10 hb
  have lt_m14 := Ob.lt m14
  replace m14 := Ob.below m14 hb
  replace bl := (bl.trans (Below.mono hb bl.size))
  replace sz := A.size.trans sz
  replace df := A.defs.trans df
  clear A hb
  obtain ⟨g16, hg16, e16, m16⟩ := x16
  have x16 := e16
  clear e16
  have nm5_16 : g5 ≠ g16 := Nat.ne_of_lt (Nat.lt_of_lt_of_le (Ob.lt m5) (Nat.le_trans bl0.size hg16))
  have nm9_16 : g9 ≠ g16 := Nat.ne_of_lt (Nat.lt_of_lt_of_le lt_m9 hg16)
  have nm10_16 : g10 ≠ g16 := Nat.ne_of_lt (Nat.lt_of_lt_of_le lt_m10 hg16)
  have nm14_16 : g14 ≠ g16 := Nat.ne_of_lt (Nat.lt_of_lt_of_le lt_m14 hg16)
  have hw16 : w5.heap.size ≤ g16 := Nat.le_trans bl0.size hg16
  obtain ⟨g17, hg17, e17, m17⟩ := x17
  have x17 := e17
  clear e17
  have nm5_17 : g5 ≠ g17 := Nat.ne_of_lt (Nat.lt_of_lt_of_le (Ob.lt m5) (Nat.le_trans bl0.size hg17))
  have nm9_17 : g9 ≠ g17 := Nat.ne_of_lt (Nat.lt_of_lt_of_le lt_m9 hg17)
  have nm10_17 : g10 ≠ g17 := Nat.ne_of_lt (Nat.lt_of_lt_of_le lt_m10 hg17)
  have nm14_17 : g14 ≠ g17 := Nat.ne_of_lt (Nat.lt_of_lt_of_le lt_m14 hg17)
  have nm16_17 : g16 ≠ g17 := fun e => hap (6, 16) (by simp) (7, 17) (by simp) (by decide) (by rw [x16, x17, e])
  have hw17 : w5.heap.size ≤ g17 := Nat.le_trans bl0.size hg17
  refine wl_store rfl (.tmp 16) (.tmp 97) rfl rfl (g16) (z1) (hz) x16 x97 m16 hz_len hz1 ?_
  replace m9 : Ob (w25.setRow g16 ((z1).map V : List Value).toArray) (g9) 23 ((lek x P S k).map V) := Ob.setRow_other m9 _ nm9_16
  replace m10 : Ob (w25.setRow g16 ((z1).map V : List Value).toArray) (g10) 23 ((lek o P S k).map V) := Ob.setRow_other m10 _ nm10_16
  replace m14 : Ob (w25.setRow g16 ((z1).map V : List Value).toArray) (g14) 23 ((p).map V) := Ob.setRow_other m14 _ nm14_16
  replace m16 : Ob (w25.setRow g16 ((z1).map V : List Value).toArray) (g16) 23 ((z1).map V) := Ob.setRow m16 ((z1).map V)
  replace m17 : Ob (w25.setRow g16 ((z1).map V : List Value).toArray) (g17) 23 ((hz).map V) := Ob.setRow_other m17 _ nm16_17.symm
  replace bl : Below w5.heap.size w5 (w25.setRow g16 ((z1).map V : List Value).toArray) := bl.trans (below_setRow _ _ _ _ hw16)
  generalize w25.setRow g16 ((z1).map V : List Value).toArray = w26b at bl m9 m10 m14 m16 m17 ⊢
  clear x97
  refine wl_store rfl (.tmp 17) (.tmp 100) rfl rfl (g17) (z2) (hz) x17 x100 m17 hz_len hz2 ?_
  replace m9 : Ob (w26b.setRow g17 ((z2).map V : List Value).toArray) (g9) 23 ((lek x P S k).map V) := Ob.setRow_other m9 _ nm9_17
  replace m10 : Ob (w26b.setRow g17 ((z2).map V : List Value).toArray) (g10) 23 ((lek o P S k).map V) := Ob.setRow_other m10 _ nm10_17
  replace m14 : Ob (w26b.setRow g17 ((z2).map V : List Value).toArray) (g14) 23 ((p).map V) := Ob.setRow_other m14 _ nm14_17
  replace m16 : Ob (w26b.setRow g17 ((z2).map V : List Value).toArray) (g16) 23 ((z1).map V) := Ob.setRow_other m16 _ nm16_17
  replace m17 : Ob (w26b.setRow g17 ((z2).map V : List Value).toArray) (g17) 23 ((z2).map V) := Ob.setRow m17 ((z2).map V)
  replace bl : Below w5.heap.size w5 (w26b.setRow g17 ((z2).map V : List Value).toArray) := bl.trans (below_setRow _ _ _ _ hw17)
  generalize w26b.setRow g17 ((z2).map V : List Value).toArray = w27b at bl m9 m10 m14 m16 m17 ⊢
  refine wpList_nil ?_
  clear x100
  show Code.wp _ _ _ _ _
  refine wp_seq ?_
  refine wp_seq ?_
  refine wp_all_seq [.eq (.bool true)] (by kernel_rfl) (by kernel_rfl) (by rw [sz]; kernel_rfl) (by kernel_rfl) ⟨fun hw ac u K => ?_, trivial⟩ ?_
  · exact st_move (.tmp 15) rfl ((K.old 15 rfl).trans x15)
  intro f28 w28 A hb
  replace bl0 := bl
  replace x0 := (A.old 0 rfl).trans x0
  replace x1 := (A.old 1 rfl).trans x1
  replace x5 := (A.old 5 rfl).trans x5
  replace x6 := (A.old 6 rfl).trans x6
  replace x38 := (A.old 38 rfl).trans x38
  replace x7 := (A.old 7 rfl).trans x7
  replace x47 := (A.old 47 rfl).trans x47
  replace x56 := (A.old 56 rfl).trans x56
  replace x9 := (A.old 9 rfl).trans x9
  replace x10 := (A.old 10 rfl).trans x10
  replace x67 := (A.old 67 rfl).trans x67
  replace x68 := (A.old 68 rfl).trans x68
  replace x69 := (A.old 69 rfl).trans x69
  replace x70 := (A.old 70 rfl).trans x70
  replace x14 := (A.old 14 rfl).trans x14
  replace x15 := (A.old 15 rfl).trans x15
  replace x90 := (A.old 90 rfl).trans x90
  replace x11 := (A.old 11 rfl).trans x11
  replace x12 := (A.old 12 rfl).trans x12
  replace x16 := (A.old 16 rfl).trans x16
  replace x17 := (A.old 17 rfl).trans x17
  have x101 : f28.eval (.tmp 101) = .bool true := A.has 0 101 rfl
  have lt_m9 := Ob.lt m9
  replace m9 := Ob.below m9 hb
  have lt_m10 := Ob.lt m10
  replace m10 := Ob.below m10 hb
  have lt_m14 := Ob.lt m14
  replace m14 := Ob.below m14 hb
  have lt_m16 := Ob.lt m16
  replace m16 := Ob.below m16 hb
  have lt_m17 := Ob.lt m17
  replace m17 := Ob.below m17 hb
  replace bl := (bl.trans (Below.mono hb bl.size))
  replace sz := A.size.trans sz
  replace df := A.defs.trans df
  clear A hb
  show Code.wp _ _ _ _ _
  refine wp_cond_true x101 ?_
  refine wp_region_tail [.eq (.agg ((p).map V).toArray), .eq (.agg ((lek x P S k).map V).toArray), .eq (.agg ((y1).map V).toArray), .eq (.agg ((p).map V).toArray), .eq (.agg ((lek o P S k).map V).toArray), .eq (.agg ((y2).map V).toArray)] [6, 7] Tryd.mixed (by kernel_rfl) (by kernel_rfl) (by kernel_rfl) (by kernel_rfl) (by rw [sz]; kernel_rfl) (by kernel_rfl) ⟨fun hw ac u K => ?_, fun hw ac u K => ?_, fun hw ac u K => ?_, fun hw ac u K => ?_, fun hw ac u K => ?_, fun hw ac u K => ?_, trivial⟩ ?_
  · exact st_load23 (.tmp 14) rfl (g14) (p) ((K.old 14 rfl).trans x14) hp (Ob.below m14 K.grow)
  · exact st_load23 (.tmp 9) rfl (g9) (lek x P S k) ((K.old 9 rfl).trans x9) hlx (Ob.below m9 K.grow)
  · exact st_call 21 (.func 21) _ _ #[.agg ((p).map V).toArray, .agg ((lek x P S k).map V).toArray] rfl rfl (arg2 (K.dep 0 102 rfl) (K.dep 1 103 rfl)) Tryd.enter21 (fk_node hp hlx (hK.below (bl.trans (Below.mono K.grow bl.size))) ey1)
  · exact st_load23 (.tmp 14) rfl (g14) (p) ((K.old 14 rfl).trans x14) hp (Ob.below m14 K.grow)
  · exact st_load23 (.tmp 10) rfl (g10) (lek o P S k) ((K.old 10 rfl).trans x10) hlo (Ob.below m10 K.grow)
  · exact st_call 21 (.func 21) _ _ #[.agg ((p).map V).toArray, .agg ((lek o P S k).map V).toArray] rfl rfl (arg2 (K.dep 3 105 rfl) (K.dep 4 106 rfl)) Tryd.enter21 (fk_node hp hlo (hK.below (bl.trans (Below.mono K.grow bl.size))) ey2)
  intro f29 w29 A hb
  replace bl0 := bl
  replace x0 := (A.old 0 rfl).trans x0
  replace x1 := (A.old 1 rfl).trans x1
  replace x5 := (A.old 5 rfl).trans x5
  replace x6 := (A.old 6 rfl).trans x6
  replace x38 := (A.old 38 rfl).trans x38
  replace x7 := (A.old 7 rfl).trans x7
  replace x47 := (A.old 47 rfl).trans x47
  replace x56 := (A.old 56 rfl).trans x56
  replace x9 := (A.old 9 rfl).trans x9
  replace x10 := (A.old 10 rfl).trans x10
  replace x67 := (A.old 67 rfl).trans x67
  replace x68 := (A.old 68 rfl).trans x68
  replace x69 := (A.old 69 rfl).trans x69
  replace x70 := (A.old 70 rfl).trans x70
  replace x14 := (A.old 14 rfl).trans x14
  replace x15 := (A.old 15 rfl).trans x15
  replace x90 := (A.old 90 rfl).trans x90
  replace x11 := (A.old 11 rfl).trans x11
  replace x12 := (A.old 12 rfl).trans x12
  replace x16 := (A.old 16 rfl).trans x16
  replace x17 := (A.old 17 rfl).trans x17
  replace x101 := (A.old 101 rfl).trans x101
  have x104 : f29.eval (.tmp 104) = .agg ((y1).map V).toArray := A.has 2 104 rfl
  have x107 : f29.eval (.tmp 107) = .agg ((y2).map V).toArray := A.has 5 107 rfl
  have lt_m9 := Ob.lt m9
  replace m9 := Ob.below m9 hb
  have lt_m10 := Ob.lt m10
  replace m10 := Ob.below m10 hb
  have lt_m14 := Ob.lt m14
  replace m14 := Ob.below m14 hb
  have lt_m16 := Ob.lt m16
  replace m16 := Ob.below m16 hb
  have lt_m17 := Ob.lt m17
  replace m17 := Ob.below m17 hb
  replace bl := (bl.trans (Below.mono hb bl.size))
  replace sz := A.size.trans sz
  replace df := A.defs.trans df
  clear A hb
  refine wl_store rfl (.tmp 16) (.tmp 104) rfl rfl (g16) (y1) (z1) x16 x104 m16 hz1 hy1 ?_
  replace m9 : Ob (w29.setRow g16 ((y1).map V : List Value).toArray) (g9) 23 ((lek x P S k).map V) := Ob.setRow_other m9 _ nm9_16
  replace m10 : Ob (w29.setRow g16 ((y1).map V : List Value).toArray) (g10) 23 ((lek o P S k).map V) := Ob.setRow_other m10 _ nm10_16
  replace m14 : Ob (w29.setRow g16 ((y1).map V : List Value).toArray) (g14) 23 ((p).map V) := Ob.setRow_other m14 _ nm14_16
  replace m16 : Ob (w29.setRow g16 ((y1).map V : List Value).toArray) (g16) 23 ((y1).map V) := Ob.setRow m16 ((y1).map V)
  replace m17 : Ob (w29.setRow g16 ((y1).map V : List Value).toArray) (g17) 23 ((z2).map V) := Ob.setRow_other m17 _ nm16_17.symm
  replace bl : Below w5.heap.size w5 (w29.setRow g16 ((y1).map V : List Value).toArray) := bl.trans (below_setRow _ _ _ _ hw16)
  generalize w29.setRow g16 ((y1).map V : List Value).toArray = w30b at bl m9 m10 m14 m16 m17 ⊢
  clear x104
  refine wl_store rfl (.tmp 17) (.tmp 107) rfl rfl (g17) (y2) (z2) x17 x107 m17 hz2 hy2 ?_
  replace m9 : Ob (w30b.setRow g17 ((y2).map V : List Value).toArray) (g9) 23 ((lek x P S k).map V) := Ob.setRow_other m9 _ nm9_17
  replace m10 : Ob (w30b.setRow g17 ((y2).map V : List Value).toArray) (g10) 23 ((lek o P S k).map V) := Ob.setRow_other m10 _ nm10_17
  replace m14 : Ob (w30b.setRow g17 ((y2).map V : List Value).toArray) (g14) 23 ((p).map V) := Ob.setRow_other m14 _ nm14_17
  replace m16 : Ob (w30b.setRow g17 ((y2).map V : List Value).toArray) (g16) 23 ((y1).map V) := Ob.setRow_other m16 _ nm16_17
  replace m17 : Ob (w30b.setRow g17 ((y2).map V : List Value).toArray) (g17) 23 ((y2).map V) := Ob.setRow m17 ((y2).map V)
  replace bl : Below w5.heap.size w5 (w30b.setRow g17 ((y2).map V : List Value).toArray) := bl.trans (below_setRow _ _ _ _ hw17)
  generalize w30b.setRow g17 ((y2).map V : List Value).toArray = w31b at bl m9 m10 m14 m16 m17 ⊢
  refine wpList_nil ?_
  clear x107
  show Code.wp _ _ _ _ _
  refine wp_seq ?_
  refine wp_seq ?_
  by_cases hyy : y1 = y2
  rotate_left
  · skip
    refine wp_all_seq [.eq (.agg ((y1).map V).toArray), .eq (.agg ((y2).map V).toArray), .eq (.bool false)] (by kernel_rfl) (by kernel_rfl) (by rw [sz]; kernel_rfl) (by kernel_rfl) ⟨fun hw ac u K => ?_, fun hw ac u K => ?_, fun hw ac u K => ?_, trivial⟩ ?_
    · exact st_load23 (.tmp 16) rfl (g16) (y1) ((K.old 16 rfl).trans x16) hy1 (Ob.below m16 K.grow)
    · exact st_load23 (.tmp 17) rfl (g17) (y2) ((K.old 17 rfl).trans x17) hy2 (Ob.below m17 K.grow)
    · exact st_eqh (.tmp 108) (.tmp 109) rfl (y1) (y2) hy1 hy2 (K.dep 0 108 rfl) (K.dep 1 109 rfl) _ (by rw [eq_comm, decide_eq_false_iff_not]; exact hyy)
    intro f32 w32 A hb
    replace bl0 := bl
    replace x0 := (A.old 0 rfl).trans x0
    replace x1 := (A.old 1 rfl).trans x1
    replace x5 := (A.old 5 rfl).trans x5
    replace x6 := (A.old 6 rfl).trans x6
    replace x38 := (A.old 38 rfl).trans x38
    replace x7 := (A.old 7 rfl).trans x7
    replace x47 := (A.old 47 rfl).trans x47
    replace x56 := (A.old 56 rfl).trans x56
    replace x9 := (A.old 9 rfl).trans x9
    replace x10 := (A.old 10 rfl).trans x10
    replace x67 := (A.old 67 rfl).trans x67
    replace x68 := (A.old 68 rfl).trans x68
    replace x69 := (A.old 69 rfl).trans x69
    replace x70 := (A.old 70 rfl).trans x70
    replace x14 := (A.old 14 rfl).trans x14
    replace x15 := (A.old 15 rfl).trans x15
    replace x90 := (A.old 90 rfl).trans x90
    replace x11 := (A.old 11 rfl).trans x11
    replace x12 := (A.old 12 rfl).trans x12
    replace x16 := (A.old 16 rfl).trans x16
    replace x17 := (A.old 17 rfl).trans x17
    replace x101 := (A.old 101 rfl).trans x101
    have x110 : f32.eval (.tmp 110) = .bool false := A.has 2 110 rfl
    have lt_m9 := Ob.lt m9
    replace m9 := Ob.below m9 hb
    have lt_m10 := Ob.lt m10
    replace m10 := Ob.below m10 hb
    have lt_m14 := Ob.lt m14
    replace m14 := Ob.below m14 hb
    have lt_m16 := Ob.lt m16
    replace m16 := Ob.below m16 hb
    have lt_m17 := Ob.lt m17
    replace m17 := Ob.below m17 hb
    replace bl := (bl.trans (Below.mono hb bl.size))
    replace sz := A.size.trans sz
    replace df := A.defs.trans df
    clear A hb
    show Code.wp _ _ _ _ _
    refine wp_cond_false x110 ?_
    refine wp_skip ?_
    show Code.wp _ _ _ _ _
    refine wp_seq ?_
    clear m5
    clear m14
    refine wp_region_held_drew (S := fun W => Ob (W) g16 23 ((y1).map V) ∧ Ob (W) g17 23 ((y2).map V)) Tryd.mixed ⟨m16, m17⟩ (fun hS0 => ?_)
    replace m9 : Ob w32.drew g9 23 ((lek x P S k).map V) := m9
    replace m10 : Ob w32.drew g10 23 ((lek o P S k).map V) := m10
    replace bl := bl.drew
    clear bl0 m16 m17
    generalize w32.drew = w33 at hS0 m9 m10 bl ⊢
    refine wh_take 0 117 (v := .agg ((y1).map V).toArray) rfl rfl (by rw [sz]; decide) rfl (by kernel_rfl) (by kernel_rfl) (by kernel_rfl) (fun _ _ _ h => h) (run_ldh rfl hy1 x16 (fun W hW => Ob.range hW.1 0 _ (fun j v hj => by simpa using hj))) hS0 ?_
    intro f34 df2 sz2 old2 new2
    replace x0 := (old2 0 rfl).trans x0
    replace x1 := (old2 1 rfl).trans x1
    replace x5 := (old2 5 rfl).trans x5
    replace x6 := (old2 6 rfl).trans x6
    replace x38 := (old2 38 rfl).trans x38
    replace x7 := (old2 7 rfl).trans x7
    replace x47 := (old2 47 rfl).trans x47
    replace x56 := (old2 56 rfl).trans x56
    replace x9 := (old2 9 rfl).trans x9
    replace x10 := (old2 10 rfl).trans x10
    replace x67 := (old2 67 rfl).trans x67
    replace x68 := (old2 68 rfl).trans x68
    replace x69 := (old2 69 rfl).trans x69
    replace x70 := (old2 70 rfl).trans x70
    replace x14 := (old2 14 rfl).trans x14
    replace x15 := (old2 15 rfl).trans x15
    replace x90 := (old2 90 rfl).trans x90
    replace x11 := (old2 11 rfl).trans x11
    replace x12 := (old2 12 rfl).trans x12
    replace x16 := (old2 16 rfl).trans x16
    replace x17 := (old2 17 rfl).trans x17
    replace x101 := (old2 101 rfl).trans x101
    replace x110 := (old2 110 rfl).trans x110
    have x117 : f34.eval (.tmp 117) = .agg ((y1).map V).toArray := new2
    replace sz := sz2.trans sz
    replace df := df2.trans df
    clear df2 sz2 old2 new2
    refine wh_take 1 118 (v := .agg ((y2).map V).toArray) rfl rfl (by rw [sz]; decide) rfl (by kernel_rfl) (by kernel_rfl) (by kernel_rfl) (fun _ _ _ h => h) (run_ldh rfl hy2 x17 (fun W hW => Ob.range hW.2 0 _ (fun j v hj => by simpa using hj))) hS0 ?_
    intro f35 df2 sz2 old2 new2
    replace x0 := (old2 0 rfl).trans x0
    replace x1 := (old2 1 rfl).trans x1
    replace x5 := (old2 5 rfl).trans x5
    replace x6 := (old2 6 rfl).trans x6
    replace x38 := (old2 38 rfl).trans x38
    replace x7 := (old2 7 rfl).trans x7
    replace x47 := (old2 47 rfl).trans x47
    replace x56 := (old2 56 rfl).trans x56
    replace x9 := (old2 9 rfl).trans x9
    replace x10 := (old2 10 rfl).trans x10
    replace x67 := (old2 67 rfl).trans x67
    replace x68 := (old2 68 rfl).trans x68
    replace x69 := (old2 69 rfl).trans x69
    replace x70 := (old2 70 rfl).trans x70
    replace x14 := (old2 14 rfl).trans x14
    replace x15 := (old2 15 rfl).trans x15
    replace x90 := (old2 90 rfl).trans x90
    replace x11 := (old2 11 rfl).trans x11
    replace x12 := (old2 12 rfl).trans x12
    replace x16 := (old2 16 rfl).trans x16
    replace x17 := (old2 17 rfl).trans x17
    replace x101 := (old2 101 rfl).trans x101
    replace x110 := (old2 110 rfl).trans x110
    replace x117 := (old2 117 rfl).trans x117
    have x118 : f35.eval (.tmp 118) = .agg ((y2).map V).toArray := new2
    replace sz := sz2.trans sz
    replace df := df2.trans df
    clear df2 sz2 old2 new2
    have hS1 : Ob (w33.setRow g9 ((y1).map V : List Value).toArray) g16 23 ((y1).map V) ∧ Ob (w33.setRow g9 ((y1).map V : List Value).toArray) g17 23 ((y2).map V) := ⟨Ob.setRow_other hS0.1 _ nm9_16.symm, Ob.setRow_other hS0.2 _ nm9_17.symm⟩
    refine wh_store 2 rfl rfl rfl (by kernel_rfl) (.tmp 9) (.tmp 117) rfl g9 (y1) (lek x P S k) x9 x117 m9 hlx hy1 hS1 ?_
    replace m9 : Ob (w33.setRow g9 ((y1).map V : List Value).toArray) (g9) 23 ((y1).map V) := Ob.setRow m9 ((y1).map V)
    replace m10 : Ob (w33.setRow g9 ((y1).map V : List Value).toArray) (g10) 23 ((lek o P S k).map V) := Ob.setRow_other m10 _ nm9_10.symm
    replace bl : Below w5.heap.size w5 (w33.setRow g9 ((y1).map V : List Value).toArray) := bl.trans (below_setRow _ _ _ _ hw9)
    replace hS0 := hS1
    clear hS1
    generalize w33.setRow g9 ((y1).map V : List Value).toArray = w36 at hS0 m9 m10 bl ⊢
    have hS1 : Ob (w36.setRow g10 ((y2).map V : List Value).toArray) g16 23 ((y1).map V) ∧ Ob (w36.setRow g10 ((y2).map V : List Value).toArray) g17 23 ((y2).map V) := ⟨Ob.setRow_other hS0.1 _ nm10_16.symm, Ob.setRow_other hS0.2 _ nm10_17.symm⟩
    refine wh_store 3 rfl rfl rfl (by kernel_rfl) (.tmp 10) (.tmp 118) rfl g10 (y2) (lek o P S k) x10 x118 m10 hlo hy2 hS1 ?_
    replace m9 : Ob (w36.setRow g10 ((y2).map V : List Value).toArray) (g9) 23 ((y1).map V) := Ob.setRow_other m9 _ nm9_10
    replace m10 : Ob (w36.setRow g10 ((y2).map V : List Value).toArray) (g10) 23 ((y2).map V) := Ob.setRow m10 ((y2).map V)
    replace bl : Below w5.heap.size w5 (w36.setRow g10 ((y2).map V : List Value).toArray) := bl.trans (below_setRow _ _ _ _ hw10)
    replace hS0 := hS1
    clear hS1
    generalize w36.setRow g10 ((y2).map V : List Value).toArray = w37 at hS0 m9 m10 bl ⊢
    refine wpAnyH_done (by kernel_rfl) ?_ _
    have m16 := hS0.1
    have m17 := hS0.2
    have bl0 := bl
    clear hS0
    clear x117
    clear x118
    show Code.wp _ _ _ _ _
    refine wp_region_seq [.eq (.int .i64 ((T1 : Nat) : Int)), .eq (.int .i64 ((T1 / 2 : Nat) : Int)), .eq (.int .i64 ((T2 : Nat) : Int)), .eq (.int .i64 ((T2 / 2 : Nat) : Int))] (by kernel_rfl) (by kernel_rfl) (by rw [sz]; kernel_rfl) (by kernel_rfl) ⟨fun hw ac u K => ?_, fun hw ac u K => ?_, fun hw ac u K => ?_, fun hw ac u K => ?_, trivial⟩ ?_
    · exact st_move (.tmp 11) rfl ((K.old 11 rfl).trans x11)
    · exact st_half (.tmp 119) (.const (.int .i64 2)) rfl (T1) _ rfl (by omega) (K.dep 0 119 rfl) rfl
    · exact st_move (.tmp 12) rfl ((K.old 12 rfl).trans x12)
    · exact st_half (.tmp 121) (.const (.int .i64 2)) rfl (T2) _ rfl (by omega) (K.dep 2 121 rfl) rfl
    intro f38 w38 A hb
    replace bl0 := bl
    replace x0 := (A.old 0 rfl).trans x0
    replace x1 := (A.old 1 rfl).trans x1
    replace x5 := (A.old 5 rfl).trans x5
    replace x6 := (A.old 6 rfl).trans x6
    replace x38 := (A.old 38 rfl).trans x38
    replace x7 := (A.old 7 rfl).trans x7
    replace x47 := (A.old 47 rfl).trans x47
    replace x56 := (A.old 56 rfl).trans x56
    replace x9 := (A.old 9 rfl).trans x9
    replace x10 := (A.old 10 rfl).trans x10
    replace x67 := (A.old 67 rfl).trans x67
    replace x68 := (A.old 68 rfl).trans x68
    replace x69 := (A.old 69 rfl).trans x69
    replace x70 := (A.old 70 rfl).trans x70
    replace x14 := (A.old 14 rfl).trans x14
    replace x15 := (A.old 15 rfl).trans x15
    replace x90 := (A.old 90 rfl).trans x90
    replace x11 := (A.old 11 rfl).trans x11
    replace x12 := (A.old 12 rfl).trans x12
    replace x16 := (A.old 16 rfl).trans x16
    replace x17 := (A.old 17 rfl).trans x17
    replace x101 := (A.old 101 rfl).trans x101
    replace x110 := (A.old 110 rfl).trans x110
    have x120 : f38.eval (.tmp 120) = .int .i64 ((T1 / 2 : Nat) : Int) := A.has 1 120 rfl
    have x122 : f38.eval (.tmp 122) = .int .i64 ((T2 / 2 : Nat) : Int) := A.has 3 122 rfl
    have lt_m9 := Ob.lt m9
    replace m9 := Ob.below m9 hb
    have lt_m10 := Ob.lt m10
    replace m10 := Ob.below m10 hb
    have lt_m16 := Ob.lt m16
    replace m16 := Ob.below m16 hb
    have lt_m17 := Ob.lt m17
    replace m17 := Ob.below m17 hb
    replace bl := (bl.trans (Below.mono hb bl.size))
    replace sz := A.size.trans sz
    replace df := A.defs.trans df
    clear A hb
    refine wl_one (.eq (.int .i64 ((T1 / 2 : Nat) : Int))) rfl 11 rfl (by rw [sz]; decide) (st_assign (.tmp 120) rfl x120) ?_
    intro f39 w39 df2 sz2 old2 new2 hb
    replace bl0 := bl
    replace x0 := (old2 0 rfl).trans x0
    replace x1 := (old2 1 rfl).trans x1
    replace x5 := (old2 5 rfl).trans x5
    replace x6 := (old2 6 rfl).trans x6
    replace x38 := (old2 38 rfl).trans x38
    replace x7 := (old2 7 rfl).trans x7
    replace x47 := (old2 47 rfl).trans x47
    replace x56 := (old2 56 rfl).trans x56
    replace x9 := (old2 9 rfl).trans x9
    replace x10 := (old2 10 rfl).trans x10
    replace x67 := (old2 67 rfl).trans x67
    replace x68 := (old2 68 rfl).trans x68
    replace x69 := (old2 69 rfl).trans x69
    replace x70 := (old2 70 rfl).trans x70
    replace x14 := (old2 14 rfl).trans x14
    replace x15 := (old2 15 rfl).trans x15
    replace x90 := (old2 90 rfl).trans x90
    clear x11
    replace x12 := (old2 12 rfl).trans x12
    replace x16 := (old2 16 rfl).trans x16
    replace x17 := (old2 17 rfl).trans x17
    replace x101 := (old2 101 rfl).trans x101
    replace x110 := (old2 110 rfl).trans x110
    replace x120 := (old2 120 rfl).trans x120
    replace x122 := (old2 122 rfl).trans x122
    have x11 : f39.eval (.tmp 11) = .int .i64 ((T1 / 2 : Nat) : Int) := new2
    have lt_m9 := Ob.lt m9
    replace m9 := Ob.below m9 hb
    have lt_m10 := Ob.lt m10
    replace m10 := Ob.below m10 hb
    have lt_m16 := Ob.lt m16
    replace m16 := Ob.below m16 hb
    have lt_m17 := Ob.lt m17
    replace m17 := Ob.below m17 hb
    replace bl := (bl.trans (Below.mono hb bl.size))
    replace sz := sz2.trans sz
    replace df := df2.trans df
    clear df2 sz2 old2 new2 hb
    clear x120
    refine wl_one (.eq (.int .i64 ((T2 / 2 : Nat) : Int))) rfl 12 rfl (by rw [sz]; decide) (st_assign (.tmp 122) rfl x122) ?_
    intro f40 w40 df2 sz2 old2 new2 hb
    replace bl0 := bl
    replace x0 := (old2 0 rfl).trans x0
    replace x1 := (old2 1 rfl).trans x1
    replace x5 := (old2 5 rfl).trans x5
    replace x6 := (old2 6 rfl).trans x6
    replace x38 := (old2 38 rfl).trans x38
    replace x7 := (old2 7 rfl).trans x7
    replace x47 := (old2 47 rfl).trans x47
    replace x56 := (old2 56 rfl).trans x56
    replace x9 := (old2 9 rfl).trans x9
    replace x10 := (old2 10 rfl).trans x10
    replace x67 := (old2 67 rfl).trans x67
    replace x68 := (old2 68 rfl).trans x68
    replace x69 := (old2 69 rfl).trans x69
    replace x70 := (old2 70 rfl).trans x70
    replace x14 := (old2 14 rfl).trans x14
    replace x15 := (old2 15 rfl).trans x15
    replace x90 := (old2 90 rfl).trans x90
    clear x12
    replace x16 := (old2 16 rfl).trans x16
    replace x17 := (old2 17 rfl).trans x17
    replace x101 := (old2 101 rfl).trans x101
    replace x110 := (old2 110 rfl).trans x110
    replace x122 := (old2 122 rfl).trans x122
    replace x11 := (old2 11 rfl).trans x11
    have x12 : f40.eval (.tmp 12) = .int .i64 ((T2 / 2 : Nat) : Int) := new2
    have lt_m9 := Ob.lt m9
    replace m9 := Ob.below m9 hb
    have lt_m10 := Ob.lt m10
    replace m10 := Ob.below m10 hb
    have lt_m16 := Ob.lt m16
    replace m16 := Ob.below m16 hb
    have lt_m17 := Ob.lt m17
    replace m17 := Ob.below m17 hb
    replace bl := (bl.trans (Below.mono hb bl.size))
    replace sz := sz2.trans sz
    replace df := df2.trans df
    clear df2 sz2 old2 new2 hb
    refine wpList_nil ?_
    clear x122
    show Code.wp _ _ _ _ _
    refine wp_region_seq [.eq (.int .i64 ((k + 1 : Nat) : Int))] (by kernel_rfl) (by kernel_rfl) (by rw [sz]; kernel_rfl) (by kernel_rfl) ⟨fun hw ac u K => ?_, trivial⟩ ?_
    · exact st_add (.tmp 69) (.const (.int .i64 1)) rfl (k) (1) (k + 1) ((K.old 69 rfl).trans x69) rfl (by omega) (by omega)
    intro f41 w41 A hb
    replace bl0 := bl
    replace x0 := (A.old 0 rfl).trans x0
    replace x1 := (A.old 1 rfl).trans x1
    replace x5 := (A.old 5 rfl).trans x5
    replace x6 := (A.old 6 rfl).trans x6
    replace x38 := (A.old 38 rfl).trans x38
    replace x7 := (A.old 7 rfl).trans x7
    replace x47 := (A.old 47 rfl).trans x47
    replace x56 := (A.old 56 rfl).trans x56
    replace x9 := (A.old 9 rfl).trans x9
    replace x10 := (A.old 10 rfl).trans x10
    replace x67 := (A.old 67 rfl).trans x67
    replace x68 := (A.old 68 rfl).trans x68
    replace x69 := (A.old 69 rfl).trans x69
    replace x70 := (A.old 70 rfl).trans x70
    replace x14 := (A.old 14 rfl).trans x14
    replace x15 := (A.old 15 rfl).trans x15
    replace x90 := (A.old 90 rfl).trans x90
    replace x16 := (A.old 16 rfl).trans x16
    replace x17 := (A.old 17 rfl).trans x17
    replace x101 := (A.old 101 rfl).trans x101
    replace x110 := (A.old 110 rfl).trans x110
    replace x11 := (A.old 11 rfl).trans x11
    replace x12 := (A.old 12 rfl).trans x12
    have x123 : f41.eval (.tmp 123) = .int .i64 ((k + 1 : Nat) : Int) := A.has 0 123 rfl
    have lt_m9 := Ob.lt m9
    replace m9 := Ob.below m9 hb
    have lt_m10 := Ob.lt m10
    replace m10 := Ob.below m10 hb
    have lt_m16 := Ob.lt m16
    replace m16 := Ob.below m16 hb
    have lt_m17 := Ob.lt m17
    replace m17 := Ob.below m17 hb
    replace bl := (bl.trans (Below.mono hb bl.size))
    replace sz := A.size.trans sz
    replace df := A.defs.trans df
    clear A hb
    refine wl_one (.eq (.int .i64 ((k + 1 : Nat) : Int))) rfl 69 rfl (by rw [sz]; decide) (st_move (.tmp 123) rfl x123) ?_
    intro f42 w42 df2 sz2 old2 new2 hb
    replace bl0 := bl
    replace x0 := (old2 0 rfl).trans x0
    replace x1 := (old2 1 rfl).trans x1
    replace x5 := (old2 5 rfl).trans x5
    replace x6 := (old2 6 rfl).trans x6
    replace x38 := (old2 38 rfl).trans x38
    replace x7 := (old2 7 rfl).trans x7
    replace x47 := (old2 47 rfl).trans x47
    replace x56 := (old2 56 rfl).trans x56
    replace x9 := (old2 9 rfl).trans x9
    replace x10 := (old2 10 rfl).trans x10
    replace x67 := (old2 67 rfl).trans x67
    replace x68 := (old2 68 rfl).trans x68
    clear x69
    replace x70 := (old2 70 rfl).trans x70
    replace x14 := (old2 14 rfl).trans x14
    replace x15 := (old2 15 rfl).trans x15
    replace x90 := (old2 90 rfl).trans x90
    replace x16 := (old2 16 rfl).trans x16
    replace x17 := (old2 17 rfl).trans x17
    replace x101 := (old2 101 rfl).trans x101
    replace x110 := (old2 110 rfl).trans x110
    replace x11 := (old2 11 rfl).trans x11
    replace x12 := (old2 12 rfl).trans x12
    replace x123 := (old2 123 rfl).trans x123
    have x69 : f42.eval (.tmp 69) = .int .i64 ((k + 1 : Nat) : Int) := new2
    have lt_m9 := Ob.lt m9
    replace m9 := Ob.below m9 hb
    have lt_m10 := Ob.lt m10
    replace m10 := Ob.below m10 hb
    have lt_m16 := Ob.lt m16
    replace m16 := Ob.below m16 hb
    have lt_m17 := Ob.lt m17
    replace m17 := Ob.below m17 hb
    replace bl := (bl.trans (Below.mono hb bl.size))
    replace sz := sz2.trans sz
    replace df := df2.trans df
    clear df2 sz2 old2 new2 hb
    refine wpList_nil ?_
    clear x123
    show (∃ _, _) ∧ _
    replace x11 : Fk.f (.eq (.int .i64 (((itA (k + 1) (i, l.length - 1)).1 : Nat) : Int))) (f42.eval (.tmp 11)) w42 := (by rw [hit2]; exact x11)
    replace x12 : Fk.f (.eq (.int .i64 (((itA (k + 1) (i, l.length - 1)).2 : Nat) : Int))) (f42.eval (.tmp 12)) w42 := (by rw [hit2]; exact x12)
    refine ⟨⟨k + 1, by omega, (by rw [hlx2, hlo2]; exact hyy), sz, df, x0, x1, x5, x6, x38, x7, x47, x56, x9, x10, x67, x68, x69, x11, x12, (by rw [hlx2]; exact m9), (by rw [hlo2]; exact m10), bl⟩, ?_⟩
    rw [show f42.eval (.tmp 69) = _ from x69, show _ = _ from hcnt]
    simp [intOf]
    omega
  refine wp_all_seq [.eq (.agg ((y1).map V).toArray), .eq (.agg ((y2).map V).toArray), .eq (.bool true)] (by kernel_rfl) (by kernel_rfl) (by rw [sz]; kernel_rfl) (by kernel_rfl) ⟨fun hw ac u K => ?_, fun hw ac u K => ?_, fun hw ac u K => ?_, trivial⟩ ?_
  · exact st_load23 (.tmp 16) rfl (g16) (y1) ((K.old 16 rfl).trans x16) hy1 (Ob.below m16 K.grow)
  · exact st_load23 (.tmp 17) rfl (g17) (y2) ((K.old 17 rfl).trans x17) hy2 (Ob.below m17 K.grow)
  · exact st_eqh (.tmp 108) (.tmp 109) rfl (y1) (y2) hy1 hy2 (K.dep 0 108 rfl) (K.dep 1 109 rfl) _ (by rw [eq_comm, decide_eq_true_iff]; exact hyy)
  intro f32 w32 A hb
  replace bl0 := bl
  replace x0 := (A.old 0 rfl).trans x0
  replace x1 := (A.old 1 rfl).trans x1
  replace x5 := (A.old 5 rfl).trans x5
  replace x6 := (A.old 6 rfl).trans x6
  replace x38 := (A.old 38 rfl).trans x38
  replace x7 := (A.old 7 rfl).trans x7
  replace x47 := (A.old 47 rfl).trans x47
  replace x56 := (A.old 56 rfl).trans x56
  replace x9 := (A.old 9 rfl).trans x9
  replace x10 := (A.old 10 rfl).trans x10
  replace x67 := (A.old 67 rfl).trans x67
  replace x68 := (A.old 68 rfl).trans x68
  replace x69 := (A.old 69 rfl).trans x69
  replace x70 := (A.old 70 rfl).trans x70
  replace x14 := (A.old 14 rfl).trans x14
  replace x15 := (A.old 15 rfl).trans x15
  replace x90 := (A.old 90 rfl).trans x90
  replace x11 := (A.old 11 rfl).trans x11
  replace x12 := (A.old 12 rfl).trans x12
  replace x16 := (A.old 16 rfl).trans x16
  replace x17 := (A.old 17 rfl).trans x17
  replace x101 := (A.old 101 rfl).trans x101
  have x110 : f32.eval (.tmp 110) = .bool true := A.has 2 110 rfl
  have lt_m9 := Ob.lt m9
  replace m9 := Ob.below m9 hb
  have lt_m10 := Ob.lt m10
  replace m10 := Ob.below m10 hb
  have lt_m14 := Ob.lt m14
  replace m14 := Ob.below m14 hb
  have lt_m16 := Ob.lt m16
  replace m16 := Ob.below m16 hb
  have lt_m17 := Ob.lt m17
  replace m17 := Ob.below m17 hb
  replace bl := (bl.trans (Below.mono hb bl.size))
  replace sz := A.size.trans sz
  replace df := A.defs.trans df
  clear A hb
  show Code.wp _ _ _ _ _
  refine wp_cond_true x110 ?_
  refine wp_seq ?_
  refine wp_all_seq [.eq (.agg ((lek x P S k).map V).toArray), .eq (.agg ((lek o P S k).map V).toArray), .eq (.bool true), .eq (.bool true), .eq (.bool true), .eq (.bool true), .eq (.bool true)] (by kernel_rfl) (by kernel_rfl) (by rw [sz]; kernel_rfl) (by kernel_rfl) ⟨fun hw ac u K => ?_, fun hw ac u K => ?_, fun hw ac u K => ?_, fun hw ac u K => ?_, fun hw ac u K => ?_, fun hw ac u K => ?_, fun hw ac u K => ?_, trivial⟩ ?_
  · exact st_load23 (.tmp 9) rfl (g9) (lek x P S k) ((K.old 9 rfl).trans x9) hlx (Ob.below m9 K.grow)
  · exact st_load23 (.tmp 10) rfl (g10) (lek o P S k) ((K.old 10 rfl).trans x10) hlo (Ob.below m10 K.grow)
  · exact st_neqh (.tmp 111) (.tmp 112) rfl (lek x P S k) (lek o P S k) hlx hlo (K.dep 0 111 rfl) (K.dep 1 112 rfl) _ (by rw [eq_comm, decide_eq_true_iff]; exact hne)
  · exact st_move (.tmp 113) rfl (K.dep 2 113 rfl)
  · exact st_call 8 (.func 8) _ _ #[] rfl rfl rfl Tryd.enter8 (fk_of (awake_any _ (hK.below (bl.trans (Below.mono K.grow bl.size)))))
  · exact st_pick_t (.tmp 114) (.tmp 115) (.const (.bool false)) rfl (K.dep 3 114 rfl) (K.dep 4 115 rfl)
  · exact st_assign (.tmp 116) rfl (K.dep 5 116 rfl)
  intro f33 w33 A hb
  replace bl0 := bl
  replace x0 := (A.old 0 rfl).trans x0
  replace x1 := (A.old 1 rfl).trans x1
  replace x5 := (A.old 5 rfl).trans x5
  clear x6
  replace x38 := (A.old 38 rfl).trans x38
  replace x7 := (A.old 7 rfl).trans x7
  replace x47 := (A.old 47 rfl).trans x47
  replace x56 := (A.old 56 rfl).trans x56
  replace x9 := (A.old 9 rfl).trans x9
  replace x10 := (A.old 10 rfl).trans x10
  replace x67 := (A.old 67 rfl).trans x67
  replace x68 := (A.old 68 rfl).trans x68
  replace x69 := (A.old 69 rfl).trans x69
  replace x70 := (A.old 70 rfl).trans x70
  replace x14 := (A.old 14 rfl).trans x14
  replace x15 := (A.old 15 rfl).trans x15
  replace x90 := (A.old 90 rfl).trans x90
  replace x11 := (A.old 11 rfl).trans x11
  replace x12 := (A.old 12 rfl).trans x12
  replace x16 := (A.old 16 rfl).trans x16
  replace x17 := (A.old 17 rfl).trans x17
  replace x101 := (A.old 101 rfl).trans x101
  replace x110 := (A.old 110 rfl).trans x110
  have x6 : f33.eval (.tmp 6) = .bool true := A.has 6 6 rfl
  have lt_m9 := Ob.lt m9
  replace m9 := Ob.below m9 hb
  have lt_m10 := Ob.lt m10
  replace m10 := Ob.below m10 hb
  have lt_m14 := Ob.lt m14
  replace m14 := Ob.below m14 hb
  have lt_m16 := Ob.lt m16
  replace m16 := Ob.below m16 hb
  have lt_m17 := Ob.lt m17
  replace m17 := Ob.below m17 hb
  replace bl := (bl.trans (Below.mono hb bl.size))
  replace sz := A.size.trans sz
  replace df := A.defs.trans df
  clear A hb
  show Code.wp _ _ _ _ _
  refine wp_ret ?_
  repeat (first | with_reducible refine then_ret ?_ | with_reducible refine block_ret ?_)
  exact bodyPost_ret (v := .bool true) (ret_slot rfl f33 _ x6 _ _) df ⟨rfl, (blw.trans (Below.mono bl blw.size))⟩
theorem other_law {l : List (List (BitVec 8))} {o : List (BitVec 8)} (ho : o.length = 32) (z : Int) (w : World) (hK : Tab w) {v : Value} (hv : (Fk.hc l).f v w) :
    Calls Tryd.prog 6 #[v, .int .i64 z, .agg (o.map V).toArray] w fun e w' => e = .returned (.bool true) ∧ Below w.heap.size w w' := by
  obtain ⟨A, C, lb, lo, rfl, hc, hl⟩ := hv
  have hv : (Fk.hc l).f (.slice A l.length C) w := ⟨A, C, lb, lo, rfl, hc, hl⟩
  by_cases h : 70 < l.length ∨ z < 0 ∨ (l.length : Int) ≤ z ∨ ∃ i : Nat, z = i ∧ l[i]? = some o
  · exact other_pass ho w hK hv z h
  · obtain ⟨i, rfl⟩ := Int.eq_ofNat_of_zero_le (show 0 ≤ z by omega)
    have hi : i < l.length := by omega
    have hxi : l[i]? = some l[i] := List.getElem?_eq_getElem hi
    exact other_main ho w hK hv (by omega) hxi (fun e => h (.inr (.inr (.inr ⟨i, rfl, by rw [e]; exact hxi⟩))))
end Go.Proofs.YthhnlemldpgbeaaDoor
