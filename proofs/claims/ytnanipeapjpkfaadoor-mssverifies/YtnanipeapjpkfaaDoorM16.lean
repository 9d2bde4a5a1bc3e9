/- The walk of MssVerifies. -/
import Derived.Test.YtnanipeapjpkfaaDoorM14
import Derived.Test.YtnanipeapjpkfaaDoorM15
namespace Go.Proofs.YtnanipeapjpkfaaDoor
set_option maxRecDepth 100000
open Go.RowKit
theorem fk_bn {f : FuncId} {args : Array Value} {w : World} {g0 : Nat} {S : List Bool} (hg : g0 ≤ w.heap.size) (h : Calls Tryd.prog f args w fun e w' => ∃ u, e = .returned u ∧ (Fk.bn w.heap.size S).f u w' ∧ Below w.heap.size w w') :
    Calls Tryd.prog f args w fun e w' => ∃ u, e = .returned u ∧ (Fk.bn g0 S).f u w' ∧ Below w.heap.size w w' := by
  refine h.mono ?_
  rintro e w' ⟨u, rfl, ⟨A, C, b, o, e, h1, h2⟩, h3⟩
  exact ⟨u, rfl, ⟨A, C, b, o, e, fun h => Nat.le_trans hg (h1 h), h2⟩, h3⟩
theorem st_lenbn {Q : Exit → Act → World → Prop} {o : Oper} {a : Act} {w : World} (x : Operand) (ho : o.op = .call { callee := .builtin .len, args := #[x], argTypes := #[53] }) {g0 : Nat} {B : List Bool} (h : (Fk.bn g0 B).f (a.eval x) w) : o.wp Tryd.prog a w (Ends a o.dst w (Fk.eq (.int .i64 ((B.length : Nat) : Int))).f) Q := by
  obtain ⟨A, C, b, so, e, _, _⟩ := h
  exact st_lenbl x ho e
set_option maxHeartbeats 4000000 in
theorem verifies_law {S P : List (List (BitVec 8))} {sA pA : Option Addr} {sC pC : Nat} {pb : List (BitVec 8)} (hpb : pb.length = 32) (kind height sk si : Int) {msg : List (BitVec 8)} (mv : Value) (w : World) (hK : Tab w) (vm : (Fk.sl msg).f mv w) (vS : (Fk.hs S).f (.slice sA (S).length sC) w) (vP : (Fk.hs P).f (.slice pA (P).length pC) w) :
    Calls Tryd.prog 4 #[.agg ((pb).map V ++ ([.int .i64 (kind), .int .i64 (height), mv, .int .i64 (sk), .int .i64 (si), .slice sA (S).length sC, .slice pA (P).length pC] : List Value)).toArray] w fun e w' => e = .returned (.bool true) ∧ Below w.heap.size w w' := by
  go_enter Tryd.func4, Tryd.ntmps4
  refine code_both (fun f w1 => f.tmps.size = 165 ∧ f.defers = [] ∧ f.eval (.tmp 0) = .agg ((pb).map V ++ ([.int .i64 (kind), .int .i64 (height), mv, .int .i64 (sk), .int .i64 (si), .slice sA (S).length sC, .slice pA (P).length pC] : List Value)).toArray ∧ Below w.heap.size w (w1)) ⟨rfl, rfl, rfl, Below.refl _ _⟩ ?_
  rintro f0 w0 ⟨sz, df, x0, bl⟩
  have bl0 := bl
  refine wp_seq ?_
  -- R0
  refine wp_region_seq [] (by kernel_rfl) (by kernel_rfl) (by rw [sz]; kernel_rfl) (by kernel_rfl) trivial ?_
  intro f1 w1 A hb
  replace bl0 := bl
  replace x0 := (A.old 0 rfl).trans x0
  replace bl := (bl.trans (Below.mono hb bl.size))
  replace sz := A.size.trans sz
  replace df := A.defs.trans df
  clear A hb
  refine wl_one (.nw w1.heap.size 50 ((pb).map V ++ ([.int .i64 (kind), .int .i64 (height), mv, .int .i64 (sk), .int .i64 (si), .slice sA (S).length sC, .slice pA (P).length pC] : List Value))) rfl 1 rfl (by rw [sz]; decide) (st_box 50 (.tmp 0) rfl _ _ (by rw [show _ = _ from x0]; kernel_rfl) (Nat.le_refl _)) ?_
  intro f2 w2 df2 sz2 old2 new2 hb
  replace bl0 := bl
  replace x0 := (old2 0 rfl).trans x0
  have x1 : Fk.f (.nw w1.heap.size 50 ((pb).map V ++ ([.int .i64 (kind), .int .i64 (height), mv, .int .i64 (sk), .int .i64 (si), .slice sA (S).length sC, .slice pA (P).length pC] : List Value))) (f2.eval (.tmp 1)) w2 := new2
  replace bl := (bl.trans (Below.mono hb bl.size))
  replace sz := sz2.trans sz
  replace df := df2.trans df
  clear df2 sz2 old2 new2 hb
  obtain ⟨g1, hg1, e1, m1⟩ := x1
  have x1 := e1
  clear e1
  have hw1 : w.heap.size ≤ g1 := Nat.le_trans bl0.size hg1
  clear x0
  refine wl_one (.eq (.bool false)) rfl 2 rfl (by rw [sz]; decide) (st_assign (.const (.bool false)) rfl rfl) ?_
  intro f3 w3 df2 sz2 old2 new2 hb
  replace bl0 := bl
  replace x1 := (old2 1 rfl).trans x1
  have x2 : f3.eval (.tmp 2) = .bool false := new2
  have lt_m1 := Ob.lt m1
  replace m1 := Ob.below m1 hb
  replace bl := (bl.trans (Below.mono hb bl.size))
  replace sz := sz2.trans sz
  replace df := df2.trans df
  clear df2 sz2 old2 new2 hb
  refine wpList_nil ?_
  show Code.wp _ _ _ _ _
  refine wp_seq ?_
  -- R1
  refine wp_region_seq [.eq (.pointer (some ⟨g1, 35, none⟩)), .eq (.agg ([.int .i64 (sk), .int .i64 (si), .slice sA (S).length sC, .slice pA (P).length pC] : List Value).toArray), .nw w3.heap.size 38 [.int .i64 0, .int .i64 0, .slice none 0 0, .slice none 0 0]] (by kernel_rfl) (by kernel_rfl) (by rw [sz]; kernel_rfl) (by kernel_rfl) ⟨fun hw ac u K => ?_, fun hw ac u K => ?_, fun hw ac u K => ?_, trivial⟩ ?_
  · exact st_field 50 4 (.tmp 1) rfl ((K.old 1 rfl).trans x1) (by kernel_rfl)
  · exact st_loadz 38 (.tmp 12) rfl (g1) 35 [.int .i64 (sk), .int .i64 (si), .slice sA (S).length sC, .slice pA (P).length pC] (by kernel_rfl) (by kernel_rfl) (K.dep 0 12 rfl) (Ob.range (Ob.below m1 K.grow) 35 _ (range_of_head hpb 3 _ _ rfl))
  · exact st_alloc 38 rfl _ _ (by kernel_rfl) K.grow.size
  intro f4 w4 A hb
  replace bl0 := bl
  replace x1 := (A.old 1 rfl).trans x1
  replace x2 := (A.old 2 rfl).trans x2
  have x3 : Fk.f (.nw w3.heap.size 38 [.int .i64 0, .int .i64 0, .slice none 0 0, .slice none 0 0]) (f4.eval (.tmp 3)) w4 := A.has 2 3 rfl
  have x13 : f4.eval (.tmp 13) = .agg ([.int .i64 (sk), .int .i64 (si), .slice sA (S).length sC, .slice pA (P).length pC] : List Value).toArray := A.has 1 13 rfl
  have lt_m1 := Ob.lt m1
  replace m1 := Ob.below m1 hb
  replace bl := (bl.trans (Below.mono hb bl.size))
  replace sz := A.size.trans sz
  replace df := A.defs.trans df
  clear A hb
  obtain ⟨g3, hg3, e3, m3⟩ := x3
  have x3 := e3
  clear e3
  have nm1_3 : g1 ≠ g3 := Nat.ne_of_lt (Nat.lt_of_lt_of_le lt_m1 hg3)
  have hw3 : w.heap.size ≤ g3 := Nat.le_trans bl0.size hg3
  refine wl_str rfl 38 (.tmp 3) (.tmp 13) rfl rfl (g3) ([.int .i64 (sk), .int .i64 (si), .slice sA (S).length sC, .slice pA (P).length pC] : List Value).toArray x3 x13 38 _ m3 (by kernel_rfl) (by kernel_rfl) (by kernel_rfl) ?_
  replace m1 : Ob (w4.setRow g3 ([.int .i64 (sk), .int .i64 (si), .slice sA (S).length sC, .slice pA (P).length pC] : List Value).toArray) (g1) 50 ((pb).map V ++ ([.int .i64 (kind), .int .i64 (height), mv, .int .i64 (sk), .int .i64 (si), .slice sA (S).length sC, .slice pA (P).length pC] : List Value)) := Ob.setRow_other m1 _ nm1_3
  replace m3 : Ob (w4.setRow g3 ([.int .i64 (sk), .int .i64 (si), .slice sA (S).length sC, .slice pA (P).length pC] : List Value).toArray) (g3) 38 ([.int .i64 (sk), .int .i64 (si), .slice sA (S).length sC, .slice pA (P).length pC]) := Ob.setRow m3 ([.int .i64 (sk), .int .i64 (si), .slice sA (S).length sC, .slice pA (P).length pC])
  replace bl : Below w.heap.size w (w4.setRow g3 ([.int .i64 (sk), .int .i64 (si), .slice sA (S).length sC, .slice pA (P).length pC] : List Value).toArray) := bl.trans (below_setRow _ _ _ _ hw3)
  generalize w4.setRow g3 ([.int .i64 (sk), .int .i64 (si), .slice sA (S).length sC, .slice pA (P).length pC] : List Value).toArray = w5b at bl m1 m3 ⊢
  refine wpList_nil ?_
  clear x13
  show Code.wp _ _ _ _ _
  refine wp_seq ?_
  refine wp_seq ?_
  by_cases hm3 : msg.length ≤ 300
  rotate_left
  · skip
    -- R2
    refine wp_all_seq [.eq (.pointer (some ⟨g1, 34, none⟩)), .eq (mv), .eq (.int .i64 (((msg).length : Nat) : Int)), .eq (.bool true), .eq (.bool true), .any, .any, .any, .any, .eq (.bool true), .eq (.bool true), .any, .any, .any, .any, .eq (.bool true)] (by kernel_rfl) (by kernel_rfl) (by rw [sz]; kernel_rfl) (by kernel_rfl) ⟨fun hw ac u K => ?_, fun hw ac u K => ?_, fun hw ac u K => ?_, fun hw ac u K => ?_, fun hw ac u K => ?_, fun hw ac u K => ?_, fun hw ac u K => ?_, fun hw ac u K => ?_, fun hw ac u K => ?_, fun hw ac u K => ?_, fun hw ac u K => ?_, fun hw ac u K => ?_, fun hw ac u K => ?_, fun hw ac u K => ?_, fun hw ac u K => ?_, fun hw ac u K => ?_, trivial⟩ ?_
    · exact st_field 50 3 (.tmp 1) rfl ((K.old 1 rfl).trans x1) (by kernel_rfl)
    · exact st_loadc 36 (.tmp 14) rfl (by kernel_rfl) (K.dep 0 14 rfl) (Ob.cell (Ob.below m1 K.grow) 34 ((at_head hpb 2 _).trans rfl))
    · exact st_lenb (.tmp 15) rfl (fk_val (K.dep 1 15 rfl) (Fk.mono _ _ _ _ vm (bl.trans (Below.mono K.grow bl.size))))
    · exact st_gtr 3 (.tmp 16) (.const (.int .i64 300)) rfl .i64 ((((msg).length : Nat) : Int)) (300) (K.dep 2 16 rfl) rfl _ (by rw [eq_comm, decide_eq_true_iff]; omega)
    · exact st_move (.tmp 17) rfl (K.dep 3 17 rfl)
    · exact (Bool.false_ne_true hw).elim
    · exact (Bool.false_ne_true hw).elim
    · exact (Bool.false_ne_true hw).elim
    · exact (Bool.false_ne_true hw).elim
    · exact st_pick_t (.tmp 18) (.const (.bool true)) (.tmp 22) rfl (K.dep 4 18 rfl) rfl
    · exact st_move (.tmp 23) rfl (K.dep 9 23 rfl)
    · exact (Bool.false_ne_true hw).elim
    · exact (Bool.false_ne_true hw).elim
    · exact (Bool.false_ne_true hw).elim
    · exact (Bool.false_ne_true hw).elim
    · exact st_pick_t (.tmp 24) (.const (.bool true)) (.tmp 28) rfl (K.dep 10 24 rfl) rfl
    intro f6 w6 A hb
    replace bl0 := bl
    replace x1 := (A.old 1 rfl).trans x1
    replace x2 := (A.old 2 rfl).trans x2
    replace x3 := (A.old 3 rfl).trans x3
    have x29 : f6.eval (.tmp 29) = .bool true := A.has 15 29 rfl
    have lt_m1 := Ob.lt m1
    replace m1 := Ob.below m1 hb
    have lt_m3 := Ob.lt m3
    replace m3 := Ob.below m3 hb
    replace bl := (bl.trans (Below.mono hb bl.size))
    replace sz := A.size.trans sz
    replace df := A.defs.trans df
    clear A hb
    show Code.wp _ _ _ _ _
    refine wp_cond_true x29 ?_
    refine wp_seq ?_
    -- R3
    refine wp_all_seq [.eq (.bool true), .eq (.bool true)] (by kernel_rfl) (by kernel_rfl) (by rw [sz]; kernel_rfl) (by kernel_rfl) ⟨fun hw ac u K => ?_, fun hw ac u K => ?_, trivial⟩ ?_
    · exact st_call 8 (.func 8) _ _ #[] rfl rfl rfl Tryd.enter8 (fk_of (awake_any _ (hK.below (bl.trans (Below.mono K.grow bl.size)))))
    · exact st_assign (.tmp 30) rfl (K.dep 0 30 rfl)
    intro f7 w7 A hb
    replace bl0 := bl
    replace x1 := (A.old 1 rfl).trans x1
    clear x2
    replace x3 := (A.old 3 rfl).trans x3
    replace x29 := (A.old 29 rfl).trans x29
    have x2 : f7.eval (.tmp 2) = .bool true := A.has 1 2 rfl
    have lt_m1 := Ob.lt m1
    replace m1 := Ob.below m1 hb
    have lt_m3 := Ob.lt m3
    replace m3 := Ob.below m3 hb
    replace bl := (bl.trans (Below.mono hb bl.size))
    replace sz := A.size.trans sz
    replace df := A.defs.trans df
    clear A hb
    show Code.wp _ _ _ _ _
    refine wp_ret ?_
    repeat (first | with_reducible refine then_ret ?_ | with_reducible refine block_ret ?_)
    exact bodyPost_ret (v := .bool true) (ret_slot rfl f7 _ x2 _ _) df ⟨rfl, bl⟩
  by_cases hS6 : S.length ≤ 600
  rotate_left
  · skip
    -- R2
    refine wp_all_seq [.eq (.pointer (some ⟨g1, 34, none⟩)), .eq (mv), .eq (.int .i64 (((msg).length : Nat) : Int)), .eq (.bool false), .eq (.bool false), .eq (.pointer (some ⟨g3, 2, none⟩)), .eq (.slice sA (S).length sC), .eq (.int .i64 (((S).length : Nat) : Int)), .eq (.bool true), .eq (.bool true), .eq (.bool true), .any, .any, .any, .any, .eq (.bool true)] (by kernel_rfl) (by kernel_rfl) (by rw [sz]; kernel_rfl) (by kernel_rfl) ⟨fun hw ac u K => ?_, fun hw ac u K => ?_, fun hw ac u K => ?_, fun hw ac u K => ?_, fun hw ac u K => ?_, fun hw ac u K => ?_, fun hw ac u K => ?_, fun hw ac u K => ?_, fun hw ac u K => ?_, fun hw ac u K => ?_, fun hw ac u K => ?_, fun hw ac u K => ?_, fun hw ac u K => ?_, fun hw ac u K => ?_, fun hw ac u K => ?_, fun hw ac u K => ?_, trivial⟩ ?_
    · exact st_field 50 3 (.tmp 1) rfl ((K.old 1 rfl).trans x1) (by kernel_rfl)
    · exact st_loadc 36 (.tmp 14) rfl (by kernel_rfl) (K.dep 0 14 rfl) (Ob.cell (Ob.below m1 K.grow) 34 ((at_head hpb 2 _).trans rfl))
    · exact st_lenb (.tmp 15) rfl (fk_val (K.dep 1 15 rfl) (Fk.mono _ _ _ _ vm (bl.trans (Below.mono K.grow bl.size))))
    · exact st_gtr 3 (.tmp 16) (.const (.int .i64 300)) rfl .i64 ((((msg).length : Nat) : Int)) (300) (K.dep 2 16 rfl) rfl _ (by rw [eq_comm, decide_eq_false_iff_not]; omega)
    · exact st_move (.tmp 17) rfl (K.dep 3 17 rfl)
    · exact st_field 38 2 (.tmp 3) rfl ((K.old 3 rfl).trans x3) (by kernel_rfl)
    · exact st_loadc 32 (.tmp 19) rfl (by kernel_rfl) (K.dep 5 19 rfl) (Ob.cell (Ob.below m3 K.grow) 2 rfl)
    · exact st_lenh (.tmp 20) rfl (fk_val (K.dep 6 20 rfl) (Fk.mono _ _ _ _ vS (bl.trans (Below.mono K.grow bl.size))))
    · exact st_gtr 3 (.tmp 21) (.const (.int .i64 600)) rfl .i64 ((((S).length : Nat) : Int)) (600) (K.dep 7 21 rfl) rfl _ (by rw [eq_comm, decide_eq_true_iff]; omega)
    · exact st_pick_f' (.tmp 18) (.const (.bool true)) (.tmp 22) rfl (K.dep 4 18 rfl) (K.dep 8 22 rfl)
    · exact st_move (.tmp 23) rfl (K.dep 9 23 rfl)
    · exact (Bool.false_ne_true hw).elim
    · exact (Bool.false_ne_true hw).elim
    · exact (Bool.false_ne_true hw).elim
    · exact (Bool.false_ne_true hw).elim
    · exact st_pick_t (.tmp 24) (.const (.bool true)) (.tmp 28) rfl (K.dep 10 24 rfl) rfl
    intro f6 w6 A hb
    replace bl0 := bl
    replace x1 := (A.old 1 rfl).trans x1
    replace x2 := (A.old 2 rfl).trans x2
    replace x3 := (A.old 3 rfl).trans x3
    have x29 : f6.eval (.tmp 29) = .bool true := A.has 15 29 rfl
    have lt_m1 := Ob.lt m1
    replace m1 := Ob.below m1 hb
    have lt_m3 := Ob.lt m3
    replace m3 := Ob.below m3 hb
    replace bl := (bl.trans (Below.mono hb bl.size))
    replace sz := A.size.trans sz
    replace df := A.defs.trans df
    clear A hb
    show Code.wp _ _ _ _ _
    refine wp_cond_true x29 ?_
    refine wp_seq ?_
    -- R3
    refine wp_all_seq [.eq (.bool true), .eq (.bool true)] (by kernel_rfl) (by kernel_rfl) (by rw [sz]; kernel_rfl) (by kernel_rfl) ⟨fun hw ac u K => ?_, fun hw ac u K => ?_, trivial⟩ ?_
    · exact st_call 8 (.func 8) _ _ #[] rfl rfl rfl Tryd.enter8 (fk_of (awake_any _ (hK.below (bl.trans (Below.mono K.grow bl.size)))))
    · exact st_assign (.tmp 30) rfl (K.dep 0 30 rfl)
    intro f7 w7 A hb
    replace bl0 := bl
    replace x1 := (A.old 1 rfl).trans x1
    clear x2
    replace x3 := (A.old 3 rfl).trans x3
    replace x29 := (A.old 29 rfl).trans x29
    have x2 : f7.eval (.tmp 2) = .bool true := A.has 1 2 rfl
    have lt_m1 := Ob.lt m1
    replace m1 := Ob.below m1 hb
    have lt_m3 := Ob.lt m3
    replace m3 := Ob.below m3 hb
    replace bl := (bl.trans (Below.mono hb bl.size))
    replace sz := A.size.trans sz
    replace df := A.defs.trans df
    clear A hb
    show Code.wp _ _ _ _ _
    refine wp_ret ?_
    repeat (first | with_reducible refine then_ret ?_ | with_reducible refine block_ret ?_)
    exact bodyPost_ret (v := .bool true) (ret_slot rfl f7 _ x2 _ _) df ⟨rfl, bl⟩
  by_cases hP2 : P.length ≤ 20
  rotate_left
  · skip
    -- R2
    refine wp_all_seq [.eq (.pointer (some ⟨g1, 34, none⟩)), .eq (mv), .eq (.int .i64 (((msg).length : Nat) : Int)), .eq (.bool false), .eq (.bool false), .eq (.pointer (some ⟨g3, 2, none⟩)), .eq (.slice sA (S).length sC), .eq (.int .i64 (((S).length : Nat) : Int)), .eq (.bool false), .eq (.bool false), .eq (.bool false), .eq (.pointer (some ⟨g3, 3, none⟩)), .eq (.slice pA (P).length pC), .eq (.int .i64 (((P).length : Nat) : Int)), .eq (.bool true), .eq (.bool true)] (by kernel_rfl) (by kernel_rfl) (by rw [sz]; kernel_rfl) (by kernel_rfl) ⟨fun hw ac u K => ?_, fun hw ac u K => ?_, fun hw ac u K => ?_, fun hw ac u K => ?_, fun hw ac u K => ?_, fun hw ac u K => ?_, fun hw ac u K => ?_, fun hw ac u K => ?_, fun hw ac u K => ?_, fun hw ac u K => ?_, fun hw ac u K => ?_, fun hw ac u K => ?_, fun hw ac u K => ?_, fun hw ac u K => ?_, fun hw ac u K => ?_, fun hw ac u K => ?_, trivial⟩ ?_
    · exact st_field 50 3 (.tmp 1) rfl ((K.old 1 rfl).trans x1) (by kernel_rfl)
    · exact st_loadc 36 (.tmp 14) rfl (by kernel_rfl) (K.dep 0 14 rfl) (Ob.cell (Ob.below m1 K.grow) 34 ((at_head hpb 2 _).trans rfl))
    · exact st_lenb (.tmp 15) rfl (fk_val (K.dep 1 15 rfl) (Fk.mono _ _ _ _ vm (bl.trans (Below.mono K.grow bl.size))))
    · exact st_gtr 3 (.tmp 16) (.const (.int .i64 300)) rfl .i64 ((((msg).length : Nat) : Int)) (300) (K.dep 2 16 rfl) rfl _ (by rw [eq_comm, decide_eq_false_iff_not]; omega)
    · exact st_move (.tmp 17) rfl (K.dep 3 17 rfl)
    · exact st_field 38 2 (.tmp 3) rfl ((K.old 3 rfl).trans x3) (by kernel_rfl)
    · exact st_loadc 32 (.tmp 19) rfl (by kernel_rfl) (K.dep 5 19 rfl) (Ob.cell (Ob.below m3 K.grow) 2 rfl)
    · exact st_lenh (.tmp 20) rfl (fk_val (K.dep 6 20 rfl) (Fk.mono _ _ _ _ vS (bl.trans (Below.mono K.grow bl.size))))
    · exact st_gtr 3 (.tmp 21) (.const (.int .i64 600)) rfl .i64 ((((S).length : Nat) : Int)) (600) (K.dep 7 21 rfl) rfl _ (by rw [eq_comm, decide_eq_false_iff_not]; omega)
    · exact st_pick_f' (.tmp 18) (.const (.bool true)) (.tmp 22) rfl (K.dep 4 18 rfl) (K.dep 8 22 rfl)
    · exact st_move (.tmp 23) rfl (K.dep 9 23 rfl)
    · exact st_field 38 3 (.tmp 3) rfl ((K.old 3 rfl).trans x3) (by kernel_rfl)
    · exact st_loadc 32 (.tmp 25) rfl (by kernel_rfl) (K.dep 11 25 rfl) (Ob.cell (Ob.below m3 K.grow) 3 rfl)
    · exact st_lenh (.tmp 26) rfl (fk_val (K.dep 12 26 rfl) (Fk.mono _ _ _ _ vP (bl.trans (Below.mono K.grow bl.size))))
    · exact st_gtr 3 (.tmp 27) (.const (.int .i64 20)) rfl .i64 ((((P).length : Nat) : Int)) (20) (K.dep 13 27 rfl) rfl _ (by rw [eq_comm, decide_eq_true_iff]; omega)
    · exact st_pick_f' (.tmp 24) (.const (.bool true)) (.tmp 28) rfl (K.dep 10 24 rfl) (K.dep 14 28 rfl)
    intro f6 w6 A hb
    replace bl0 := bl
    replace x1 := (A.old 1 rfl).trans x1
    replace x2 := (A.old 2 rfl).trans x2
    replace x3 := (A.old 3 rfl).trans x3
    have x29 : f6.eval (.tmp 29) = .bool true := A.has 15 29 rfl
    have lt_m1 := Ob.lt m1
    replace m1 := Ob.below m1 hb
    have lt_m3 := Ob.lt m3
    replace m3 := Ob.below m3 hb
    replace bl := (bl.trans (Below.mono hb bl.size))
    replace sz := A.size.trans sz
    replace df := A.defs.trans df
    clear A hb
    show Code.wp _ _ _ _ _
    refine wp_cond_true x29 ?_
    refine wp_seq ?_
    -- R3
    refine wp_all_seq [.eq (.bool true), .eq (.bool true)] (by kernel_rfl) (by kernel_rfl) (by rw [sz]; kernel_rfl) (by kernel_rfl) ⟨fun hw ac u K => ?_, fun hw ac u K => ?_, trivial⟩ ?_
    · exact st_call 8 (.func 8) _ _ #[] rfl rfl rfl Tryd.enter8 (fk_of (awake_any _ (hK.below (bl.trans (Below.mono K.grow bl.size)))))
    · exact st_assign (.tmp 30) rfl (K.dep 0 30 rfl)
    intro f7 w7 A hb
    replace bl0 := bl
    replace x1 := (A.old 1 rfl).trans x1
    clear x2
    replace x3 := (A.old 3 rfl).trans x3
    replace x29 := (A.old 29 rfl).trans x29
    have x2 : f7.eval (.tmp 2) = .bool true := A.has 1 2 rfl
    have lt_m1 := Ob.lt m1
    replace m1 := Ob.below m1 hb
    have lt_m3 := Ob.lt m3
    replace m3 := Ob.below m3 hb
    replace bl := (bl.trans (Below.mono hb bl.size))
    replace sz := A.size.trans sz
    replace df := A.defs.trans df
    clear A hb
    show Code.wp _ _ _ _ _
    refine wp_ret ?_
    repeat (first | with_reducible refine then_ret ?_ | with_reducible refine block_ret ?_)
    exact bodyPost_ret (v := .bool true) (ret_slot rfl f7 _ x2 _ _) df ⟨rfl, bl⟩
  -- R2
  refine wp_all_seq [.eq (.pointer (some ⟨g1, 34, none⟩)), .eq (mv), .eq (.int .i64 (((msg).length : Nat) : Int)), .eq (.bool false), .eq (.bool false), .eq (.pointer (some ⟨g3, 2, none⟩)), .eq (.slice sA (S).length sC), .eq (.int .i64 (((S).length : Nat) : Int)), .eq (.bool false), .eq (.bool false), .eq (.bool false), .eq (.pointer (some ⟨g3, 3, none⟩)), .eq (.slice pA (P).length pC), .eq (.int .i64 (((P).length : Nat) : Int)), .eq (.bool false), .eq (.bool false)] (by kernel_rfl) (by kernel_rfl) (by rw [sz]; kernel_rfl) (by kernel_rfl) ⟨fun hw ac u K => ?_, fun hw ac u K => ?_, fun hw ac u K => ?_, fun hw ac u K => ?_, fun hw ac u K => ?_, fun hw ac u K => ?_, fun hw ac u K => ?_, fun hw ac u K => ?_, fun hw ac u K => ?_, fun hw ac u K => ?_, fun hw ac u K => ?_, fun hw ac u K => ?_, fun hw ac u K => ?_, fun hw ac u K => ?_, fun hw ac u K => ?_, fun hw ac u K => ?_, trivial⟩ ?_
  · exact st_field 50 3 (.tmp 1) rfl ((K.old 1 rfl).trans x1) (by kernel_rfl)
  · exact st_loadc 36 (.tmp 14) rfl (by kernel_rfl) (K.dep 0 14 rfl) (Ob.cell (Ob.below m1 K.grow) 34 ((at_head hpb 2 _).trans rfl))
  · exact st_lenb (.tmp 15) rfl (fk_val (K.dep 1 15 rfl) (Fk.mono _ _ _ _ vm (bl.trans (Below.mono K.grow bl.size))))
  · exact st_gtr 3 (.tmp 16) (.const (.int .i64 300)) rfl .i64 ((((msg).length : Nat) : Int)) (300) (K.dep 2 16 rfl) rfl _ (by rw [eq_comm, decide_eq_false_iff_not]; omega)
  · exact st_move (.tmp 17) rfl (K.dep 3 17 rfl)
  · exact st_field 38 2 (.tmp 3) rfl ((K.old 3 rfl).trans x3) (by kernel_rfl)
  · exact st_loadc 32 (.tmp 19) rfl (by kernel_rfl) (K.dep 5 19 rfl) (Ob.cell (Ob.below m3 K.grow) 2 rfl)
  · exact st_lenh (.tmp 20) rfl (fk_val (K.dep 6 20 rfl) (Fk.mono _ _ _ _ vS (bl.trans (Below.mono K.grow bl.size))))
  · exact st_gtr 3 (.tmp 21) (.const (.int .i64 600)) rfl .i64 ((((S).length : Nat) : Int)) (600) (K.dep 7 21 rfl) rfl _ (by rw [eq_comm, decide_eq_false_iff_not]; omega)
  · exact st_pick_f' (.tmp 18) (.const (.bool true)) (.tmp 22) rfl (K.dep 4 18 rfl) (K.dep 8 22 rfl)
  · exact st_move (.tmp 23) rfl (K.dep 9 23 rfl)
  · exact st_field 38 3 (.tmp 3) rfl ((K.old 3 rfl).trans x3) (by kernel_rfl)
  · exact st_loadc 32 (.tmp 25) rfl (by kernel_rfl) (K.dep 11 25 rfl) (Ob.cell (Ob.below m3 K.grow) 3 rfl)
  · exact st_lenh (.tmp 26) rfl (fk_val (K.dep 12 26 rfl) (Fk.mono _ _ _ _ vP (bl.trans (Below.mono K.grow bl.size))))
  · exact st_gtr 3 (.tmp 27) (.const (.int .i64 20)) rfl .i64 ((((P).length : Nat) : Int)) (20) (K.dep 13 27 rfl) rfl _ (by rw [eq_comm, decide_eq_false_iff_not]; omega)
  · exact st_pick_f' (.tmp 24) (.const (.bool true)) (.tmp 28) rfl (K.dep 10 24 rfl) (K.dep 14 28 rfl)
  intro f6 w6 A hb
  replace bl0 := bl
  replace x1 := (A.old 1 rfl).trans x1
  replace x2 := (A.old 2 rfl).trans x2
  replace x3 := (A.old 3 rfl).trans x3
  have x29 : f6.eval (.tmp 29) = .bool false := A.has 15 29 rfl
  have lt_m1 := Ob.lt m1
  replace m1 := Ob.below m1 hb
  have lt_m3 := Ob.lt m3
  replace m3 := Ob.below m3 hb
  replace bl := (bl.trans (Below.mono hb bl.size))
  replace sz := A.size.trans sz
  replace df := A.defs.trans df
  clear A hb
  show Code.wp _ _ _ _ _
  refine wp_cond_false x29 ?_
  refine wp_skip ?_
  show Code.wp _ _ _ _ _
  refine wp_seq ?_
  by_cases hc : kind < 1 ∨ 2 < kind ∨ height < 0 ∨ 8 < height
  rotate_left
  · skip
    obtain ⟨kd, rfl⟩ := Int.eq_ofNat_of_zero_le (show 0 ≤ kind by omega)
    obtain ⟨ht, rfl⟩ := Int.eq_ofNat_of_zero_le (show 0 ≤ height by omega)
    have h1 : 1 ≤ kd := by omega
    have h2 : kd ≤ 2 := by omega
    have h3 : ht ≤ 8 := by omega
    clear hc
    have hpw := pow_le h3
    by_cases hb0 : sk ≠ kd ∨ si < 0 ∨ ((2 ^ ht : Nat) : Int) ≤ si ∨ P.length ≠ ht
    rotate_left
    · skip
      obtain rfl : sk = kd := by omega
      obtain ⟨i, rfl⟩ := Int.eq_ofNat_of_zero_le (show 0 ≤ si by omega)
      have hi : i < 2 ^ ht := by omega
      have hP : P.length = ht := by omega
      clear hb0
      have hi3 : i ≤ 1000000 := by omega
      obtain ⟨h, eh⟩ : ∃ h, Box (ms msg = h) := ⟨_, ⟨rfl⟩⟩
      have hh : h.length = 32 := by rw [← eh.out]; exact ms_len _
      by_cases hl : S.length = npt kd
      rotate_left
      · skip
        -- R4
        refine wp_all_seq [.eq (.pointer (some ⟨g1, 0, none⟩)), .eq (.agg ((pb).map V).toArray), .eq (.pointer (some ⟨g1, 32, none⟩)), .eq (.int .i64 ((kd : Nat) : Int)), .eq (.pointer (some ⟨g1, 33, none⟩)), .eq (.int .i64 ((ht : Nat) : Int)), .eq (.pointer (some ⟨g1, 34, none⟩)), .eq (mv), .eq (.agg ([.int .i64 ((kd : Nat) : Int), .int .i64 ((i : Nat) : Int), .slice sA (S).length sC, .slice pA (P).length pC] : List Value).toArray), .eq (.int .i64 21), .eq (.int .i64 21)] (by kernel_rfl) (by kernel_rfl) (by rw [sz]; kernel_rfl) (by kernel_rfl) ⟨fun hw ac u K => ?_, fun hw ac u K => ?_, fun hw ac u K => ?_, fun hw ac u K => ?_, fun hw ac u K => ?_, fun hw ac u K => ?_, fun hw ac u K => ?_, fun hw ac u K => ?_, fun hw ac u K => ?_, fun hw ac u K => ?_, fun hw ac u K => ?_, trivial⟩ ?_
        · exact st_field 50 0 (.tmp 1) rfl ((K.old 1 rfl).trans x1) (by kernel_rfl)
        · exact st_loadhd (.tmp 31) rfl (g1) (pb) (K.dep 0 31 rfl) hpb (Ob.below m1 K.grow)
        · exact st_field 50 1 (.tmp 1) rfl ((K.old 1 rfl).trans x1) (by kernel_rfl)
        · exact st_loadc 3 (.tmp 33) rfl (by kernel_rfl) (K.dep 2 33 rfl) (Ob.cell (Ob.below m1 K.grow) 32 ((at_head hpb 0 _).trans rfl))
        · exact st_field 50 2 (.tmp 1) rfl ((K.old 1 rfl).trans x1) (by kernel_rfl)
        · exact st_loadc 3 (.tmp 35) rfl (by kernel_rfl) (K.dep 4 35 rfl) (Ob.cell (Ob.below m1 K.grow) 33 ((at_head hpb 1 _).trans rfl))
        · exact st_field 50 3 (.tmp 1) rfl ((K.old 1 rfl).trans x1) (by kernel_rfl)
        · exact st_loadc 36 (.tmp 37) rfl (by kernel_rfl) (K.dep 6 37 rfl) (Ob.cell (Ob.below m1 K.grow) 34 ((at_head hpb 2 _).trans rfl))
        · exact st_loadz 38 (.tmp 3) rfl (g3) 0 [.int .i64 ((kd : Nat) : Int), .int .i64 ((i : Nat) : Int), .slice sA (S).length sC, .slice pA (P).length pC] (by kernel_rfl) (by kernel_rfl) ((K.old 3 rfl).trans x3) (Ob.range (Ob.below m3 K.grow) 0 _ (fun j v hj => by simpa using hj))
        · exact st_call 21 (.func 21) _ _ #[.agg ((pb).map V).toArray, .int .i64 ((kd : Nat) : Int), .int .i64 ((ht : Nat) : Int), mv, .agg ([.int .i64 ((kd : Nat) : Int), .int .i64 ((i : Nat) : Int), .slice sA (S).length sC, .slice pA (P).length pC] : List Value).toArray] rfl rfl (arg5 (K.dep 1 32 rfl) (K.dep 3 34 rfl) (K.dep 5 36 rfl) (K.dep 7 38 rfl) (K.dep 8 39 rfl)) Tryd.enter21 (fk_of (verify_parts h1 h2 h3 i hi hpb hP _ _ (by omega) (Fk.mono _ _ _ _ vm (bl.trans (Below.mono K.grow bl.size))) (hK.below (bl.trans (Below.mono K.grow bl.size))) (Fk.mono _ _ _ _ vS (bl.trans (Below.mono K.grow bl.size))) (Fk.mono _ _ _ _ vP (bl.trans (Below.mono K.grow bl.size))) eh hl))
        · exact st_assign (.tmp 40) rfl (K.dep 9 40 rfl)
        intro f7 w7 A hb
        replace bl0 := bl
        replace x1 := (A.old 1 rfl).trans x1
        replace x2 := (A.old 2 rfl).trans x2
        replace x3 := (A.old 3 rfl).trans x3
        replace x29 := (A.old 29 rfl).trans x29
        have x4 : f7.eval (.tmp 4) = .int .i64 21 := A.has 10 4 rfl
        have lt_m1 := Ob.lt m1
        replace m1 := Ob.below m1 hb
        have lt_m3 := Ob.lt m3
        replace m3 := Ob.below m3 hb
        replace bl := (bl.trans (Below.mono hb bl.size))
        replace sz := A.size.trans sz
        replace df := A.defs.trans df
        clear A hb
        show Code.wp _ _ _ _ _
        refine wp_seq ?_
        refine wp_seq ?_
        -- R5
        refine wp_all_seq [.eq (.pointer (some ⟨g1, 32, none⟩)), .eq (.int .i64 ((kd : Nat) : Int)), .eq (.bool false), .eq (.bool false), .eq (.pointer (some ⟨g1, 32, none⟩)), .eq (.int .i64 ((kd : Nat) : Int)), .eq (.bool false), .eq (.bool false), .eq (.bool false), .eq (.pointer (some ⟨g1, 33, none⟩)), .eq (.int .i64 ((ht : Nat) : Int)), .eq (.bool false), .eq (.bool false), .eq (.bool false), .eq (.pointer (some ⟨g1, 33, none⟩)), .eq (.int .i64 ((ht : Nat) : Int)), .eq (.bool false), .eq (.bool false)] (by kernel_rfl) (by kernel_rfl) (by rw [sz]; kernel_rfl) (by kernel_rfl) ⟨fun hw ac u K => ?_, fun hw ac u K => ?_, fun hw ac u K => ?_, fun hw ac u K => ?_, fun hw ac u K => ?_, fun hw ac u K => ?_, fun hw ac u K => ?_, fun hw ac u K => ?_, fun hw ac u K => ?_, fun hw ac u K => ?_, fun hw ac u K => ?_, fun hw ac u K => ?_, fun hw ac u K => ?_, fun hw ac u K => ?_, fun hw ac u K => ?_, fun hw ac u K => ?_, fun hw ac u K => ?_, fun hw ac u K => ?_, trivial⟩ ?_
        · exact st_field 50 1 (.tmp 1) rfl ((K.old 1 rfl).trans x1) (by kernel_rfl)
        · exact st_loadc 3 (.tmp 41) rfl (by kernel_rfl) (K.dep 0 41 rfl) (Ob.cell (Ob.below m1 K.grow) 32 ((at_head hpb 0 _).trans rfl))
        · exact st_lss 3 (.tmp 42) (.const (.int .i64 1)) rfl .i64 (((kd : Nat) : Int)) (1) (K.dep 1 42 rfl) rfl _ (by rw [eq_comm, decide_eq_false_iff_not]; omega)
        · exact st_move (.tmp 43) rfl (K.dep 2 43 rfl)
        · exact st_field 50 1 (.tmp 1) rfl ((K.old 1 rfl).trans x1) (by kernel_rfl)
        · exact st_loadc 3 (.tmp 45) rfl (by kernel_rfl) (K.dep 4 45 rfl) (Ob.cell (Ob.below m1 K.grow) 32 ((at_head hpb 0 _).trans rfl))
        · exact st_gtr 3 (.tmp 46) (.const (.int .i64 2)) rfl .i64 (((kd : Nat) : Int)) (2) (K.dep 5 46 rfl) rfl _ (by rw [eq_comm, decide_eq_false_iff_not]; omega)
        · exact st_pick_f' (.tmp 44) (.const (.bool true)) (.tmp 47) rfl (K.dep 3 44 rfl) (K.dep 6 47 rfl)
        · exact st_move (.tmp 48) rfl (K.dep 7 48 rfl)
        · exact st_field 50 2 (.tmp 1) rfl ((K.old 1 rfl).trans x1) (by kernel_rfl)
        · exact st_loadc 3 (.tmp 50) rfl (by kernel_rfl) (K.dep 9 50 rfl) (Ob.cell (Ob.below m1 K.grow) 33 ((at_head hpb 1 _).trans rfl))
        · exact st_lss 3 (.tmp 51) (.const (.int .i64 0)) rfl .i64 (((ht : Nat) : Int)) (0) (K.dep 10 51 rfl) rfl _ (by rw [eq_comm, decide_eq_false_iff_not]; omega)
        · exact st_pick_f' (.tmp 49) (.const (.bool true)) (.tmp 52) rfl (K.dep 8 49 rfl) (K.dep 11 52 rfl)
        · exact st_move (.tmp 53) rfl (K.dep 12 53 rfl)
        · exact st_field 50 2 (.tmp 1) rfl ((K.old 1 rfl).trans x1) (by kernel_rfl)
        · exact st_loadc 3 (.tmp 55) rfl (by kernel_rfl) (K.dep 14 55 rfl) (Ob.cell (Ob.below m1 K.grow) 33 ((at_head hpb 1 _).trans rfl))
        · exact st_gtr 3 (.tmp 56) (.const (.int .i64 8)) rfl .i64 (((ht : Nat) : Int)) (8) (K.dep 15 56 rfl) rfl _ (by rw [eq_comm, decide_eq_false_iff_not]; omega)
        · exact st_pick_f' (.tmp 54) (.const (.bool true)) (.tmp 57) rfl (K.dep 13 54 rfl) (K.dep 16 57 rfl)
        intro f8 w8 A hb
        replace bl0 := bl
        replace x1 := (A.old 1 rfl).trans x1
        replace x2 := (A.old 2 rfl).trans x2
        replace x3 := (A.old 3 rfl).trans x3
        replace x29 := (A.old 29 rfl).trans x29
        replace x4 := (A.old 4 rfl).trans x4
        have x58 : f8.eval (.tmp 58) = .bool false := A.has 17 58 rfl
        have lt_m1 := Ob.lt m1
        replace m1 := Ob.below m1 hb
        have lt_m3 := Ob.lt m3
        replace m3 := Ob.below m3 hb
        replace bl := (bl.trans (Below.mono hb bl.size))
        replace sz := A.size.trans sz
        replace df := A.defs.trans df
        clear A hb
        show Code.wp _ _ _ _ _
        refine wp_cond_false x58 ?_
        refine wp_skip ?_
        show Code.wp _ _ _ _ _
        refine wp_seq ?_
        -- R7
        refine wp_all_seq [.eq (.int .i64 67)] (by kernel_rfl) (by kernel_rfl) (by rw [sz]; kernel_rfl) (by kernel_rfl) ⟨fun hw ac u K => ?_, trivial⟩ ?_
        · exact st_assign (.const (.int .i64 67)) rfl rfl
        intro f9 w9 A hb
        replace bl0 := bl
        replace x1 := (A.old 1 rfl).trans x1
        replace x2 := (A.old 2 rfl).trans x2
        replace x3 := (A.old 3 rfl).trans x3
        replace x29 := (A.old 29 rfl).trans x29
        replace x4 := (A.old 4 rfl).trans x4
        replace x58 := (A.old 58 rfl).trans x58
        have x5 : f9.eval (.tmp 5) = .int .i64 67 := A.has 0 5 rfl
        have lt_m1 := Ob.lt m1
        replace m1 := Ob.below m1 hb
        have lt_m3 := Ob.lt m3
        replace m3 := Ob.below m3 hb
        replace bl := (bl.trans (Below.mono hb bl.size))
        replace sz := A.size.trans sz
        replace df := A.defs.trans df
        clear A hb
        show Code.wp _ _ _ _ _
        refine wp_seq ?_
        refine wp_seq ?_
        rcases (show kd = 1 ∨ kd = 2 by omega) with hkd | hkd
        rotate_left
        · skip
          have hnp : npt kd = 512 := by rw [hkd]; rfl
          -- R8
          refine wp_all_seq [.eq (.pointer (some ⟨g1, 32, none⟩)), .eq (.int .i64 ((kd : Nat) : Int)), .eq (.bool true)] (by kernel_rfl) (by kernel_rfl) (by rw [sz]; kernel_rfl) (by kernel_rfl) ⟨fun hw ac u K => ?_, fun hw ac u K => ?_, fun hw ac u K => ?_, trivial⟩ ?_
          · exact st_field 50 1 (.tmp 1) rfl ((K.old 1 rfl).trans x1) (by kernel_rfl)
          · exact st_loadc 3 (.tmp 64) rfl (by kernel_rfl) (K.dep 0 64 rfl) (Ob.cell (Ob.below m1 K.grow) 32 ((at_head hpb 0 _).trans rfl))
          · exact st_eqi 3 (.tmp 65) (.const (.int .i64 2)) rfl .i64 (((kd : Nat) : Int)) (2) (K.dep 1 65 rfl) rfl _ (by simp [hkd])
          intro f10 w10 A hb
          replace bl0 := bl
          replace x1 := (A.old 1 rfl).trans x1
          replace x2 := (A.old 2 rfl).trans x2
          replace x3 := (A.old 3 rfl).trans x3
          replace x29 := (A.old 29 rfl).trans x29
          replace x4 := (A.old 4 rfl).trans x4
          replace x58 := (A.old 58 rfl).trans x58
          replace x5 := (A.old 5 rfl).trans x5
          have x66 : f10.eval (.tmp 66) = .bool true := A.has 2 66 rfl
          have lt_m1 := Ob.lt m1
          replace m1 := Ob.below m1 hb
          have lt_m3 := Ob.lt m3
          replace m3 := Ob.below m3 hb
          replace bl := (bl.trans (Below.mono hb bl.size))
          replace sz := A.size.trans sz
          replace df := A.defs.trans df
          clear A hb
          show Code.wp _ _ _ _ _
          refine wp_cond_true x66 ?_
          -- R9
          refine wp_all_seq [.eq (.int .i64 512)] (by kernel_rfl) (by kernel_rfl) (by rw [sz]; kernel_rfl) (by kernel_rfl) ⟨fun hw ac u K => ?_, trivial⟩ ?_
          · exact st_assign (.const (.int .i64 512)) rfl rfl
          intro f11 w11 A hb
          replace bl0 := bl
          replace x1 := (A.old 1 rfl).trans x1
          replace x2 := (A.old 2 rfl).trans x2
          replace x3 := (A.old 3 rfl).trans x3
          replace x29 := (A.old 29 rfl).trans x29
          replace x4 := (A.old 4 rfl).trans x4
          replace x58 := (A.old 58 rfl).trans x58
          clear x5
          replace x66 := (A.old 66 rfl).trans x66
          have x5 : f11.eval (.tmp 5) = .int .i64 512 := A.has 0 5 rfl
          have lt_m1 := Ob.lt m1
          replace m1 := Ob.below m1 hb
          have lt_m3 := Ob.lt m3
          replace m3 := Ob.below m3 hb
          replace bl := (bl.trans (Below.mono hb bl.size))
          replace sz := A.size.trans sz
          replace df := A.defs.trans df
          clear A hb
          show Code.wp _ _ _ _ _
          refine wp_seq ?_
          refine wp_seq ?_
          -- R10
          refine wp_all [.eq (.pointer (some ⟨g3, 0, none⟩)), .eq (.int .i64 ((kd : Nat) : Int)), .eq (.pointer (some ⟨g1, 32, none⟩)), .eq (.int .i64 ((kd : Nat) : Int)), .eq (.bool false), .eq (.bool false), .eq (.pointer (some ⟨g3, 1, none⟩)), .eq (.int .i64 ((i : Nat) : Int)), .eq (.bool false), .eq (.bool false), .eq (.bool false), .eq (.pointer (some ⟨g3, 1, none⟩)), .eq (.int .i64 ((i : Nat) : Int)), .eq (.pointer (some ⟨g1, 33, none⟩)), .eq (.int .i64 ((ht : Nat) : Int)), .eq (.int .i64 ((2 ^ ht : Nat) : Int)), .eq (.bool false), .eq (.bool false), .eq (.bool false), .eq (.pointer (some ⟨g3, 3, none⟩)), .eq (.slice pA (P).length pC), .eq (.int .i64 (((P).length : Nat) : Int)), .eq (.pointer (some ⟨g1, 33, none⟩)), .eq (.int .i64 ((ht : Nat) : Int)), .eq (.bool false), .eq (.bool false), .eq (.bool false), .eq (.pointer (some ⟨g3, 2, none⟩)), .eq (.slice sA (S).length sC), .eq (.int .i64 (((S).length : Nat) : Int)), .eq (.int .i64 512), .eq (.bool true), .eq (.bool true)] Tryd.mixed (by kernel_rfl) (by kernel_rfl) (by rw [sz]; kernel_rfl) (by kernel_rfl) ⟨fun hw ac u K => ?_, fun hw ac u K => ?_, fun hw ac u K => ?_, fun hw ac u K => ?_, fun hw ac u K => ?_, fun hw ac u K => ?_, fun hw ac u K => ?_, fun hw ac u K => ?_, fun hw ac u K => ?_, fun hw ac u K => ?_, fun hw ac u K => ?_, fun hw ac u K => ?_, fun hw ac u K => ?_, fun hw ac u K => ?_, fun hw ac u K => ?_, fun hw ac u K => ?_, fun hw ac u K => ?_, fun hw ac u K => ?_, fun hw ac u K => ?_, fun hw ac u K => ?_, fun hw ac u K => ?_, fun hw ac u K => ?_, fun hw ac u K => ?_, fun hw ac u K => ?_, fun hw ac u K => ?_, fun hw ac u K => ?_, fun hw ac u K => ?_, fun hw ac u K => ?_, fun hw ac u K => ?_, fun hw ac u K => ?_, fun hw ac u K => ?_, fun hw ac u K => ?_, fun hw ac u K => ?_, trivial⟩ ?_
          · exact st_field 38 0 (.tmp 3) rfl ((K.old 3 rfl).trans x3) (by kernel_rfl)
          · exact st_loadc 3 (.tmp 67) rfl (by kernel_rfl) (K.dep 0 67 rfl) (Ob.cell (Ob.below m3 K.grow) 0 rfl)
          · exact st_field 50 1 (.tmp 1) rfl ((K.old 1 rfl).trans x1) (by kernel_rfl)
          · exact st_loadc 3 (.tmp 69) rfl (by kernel_rfl) (K.dep 2 69 rfl) (Ob.cell (Ob.below m1 K.grow) 32 ((at_head hpb 0 _).trans rfl))
          · exact st_neqi 3 (.tmp 68) (.tmp 70) rfl .i64 (((kd : Nat) : Int)) (((kd : Nat) : Int)) (K.dep 1 68 rfl) (K.dep 3 70 rfl) _ (by simp)
          · exact st_move (.tmp 71) rfl (K.dep 4 71 rfl)
          · exact st_field 38 1 (.tmp 3) rfl ((K.old 3 rfl).trans x3) (by kernel_rfl)
          · exact st_loadc 3 (.tmp 73) rfl (by kernel_rfl) (K.dep 6 73 rfl) (Ob.cell (Ob.below m3 K.grow) 1 rfl)
          · exact st_lss 3 (.tmp 74) (.const (.int .i64 0)) rfl .i64 (((i : Nat) : Int)) (0) (K.dep 7 74 rfl) rfl _ (by first | (simp; done) | (simp; omega))
          · exact st_pick_f' (.tmp 72) (.const (.bool true)) (.tmp 75) rfl (K.dep 5 72 rfl) (K.dep 8 75 rfl)
          · exact st_move (.tmp 76) rfl (K.dep 9 76 rfl)
          · exact st_field 38 1 (.tmp 3) rfl ((K.old 3 rfl).trans x3) (by kernel_rfl)
          · exact st_loadc 3 (.tmp 78) rfl (by kernel_rfl) (K.dep 11 78 rfl) (Ob.cell (Ob.below m3 K.grow) 1 rfl)
          · exact st_field 50 2 (.tmp 1) rfl ((K.old 1 rfl).trans x1) (by kernel_rfl)
          · exact st_loadc 3 (.tmp 80) rfl (by kernel_rfl) (K.dep 13 80 rfl) (Ob.cell (Ob.below m1 K.grow) 33 ((at_head hpb 1 _).trans rfl))
          · exact st_shl 3 3 (.const (.int .i64 1)) (.tmp 81) rfl (1) (ht) rfl (K.dep 14 81 rfl) (2 ^ ht) (by simp) hpw (by omega)
          · exact st_geq 3 (.tmp 79) (.tmp 82) rfl .i64 (((i : Nat) : Int)) (((2 ^ ht : Nat) : Int)) (K.dep 12 79 rfl) (K.dep 15 82 rfl) _ (by rw [eq_comm, decide_eq_false_iff_not]; omega)
          · exact st_pick_f' (.tmp 77) (.const (.bool true)) (.tmp 83) rfl (K.dep 10 77 rfl) (K.dep 16 83 rfl)
          · exact st_move (.tmp 84) rfl (K.dep 17 84 rfl)
          · exact st_field 38 3 (.tmp 3) rfl ((K.old 3 rfl).trans x3) (by kernel_rfl)
          · exact st_loadc 32 (.tmp 86) rfl (by kernel_rfl) (K.dep 19 86 rfl) (Ob.cell (Ob.below m3 K.grow) 3 rfl)
          · exact st_lenh (.tmp 87) rfl (fk_val (K.dep 20 87 rfl) (Fk.mono _ _ _ _ vP (bl.trans (Below.mono K.grow bl.size))))
          · exact st_field 50 2 (.tmp 1) rfl ((K.old 1 rfl).trans x1) (by kernel_rfl)
          · exact st_loadc 3 (.tmp 89) rfl (by kernel_rfl) (K.dep 22 89 rfl) (Ob.cell (Ob.below m1 K.grow) 33 ((at_head hpb 1 _).trans rfl))
          · exact st_neqi 3 (.tmp 88) (.tmp 90) rfl .i64 ((((P).length : Nat) : Int)) (((ht : Nat) : Int)) (K.dep 21 88 rfl) (K.dep 23 90 rfl) _ (by simp [hP])
          · exact st_pick_f' (.tmp 85) (.const (.bool true)) (.tmp 91) rfl (K.dep 18 85 rfl) (K.dep 24 91 rfl)
          · exact st_move (.tmp 92) rfl (K.dep 25 92 rfl)
          · exact st_field 38 2 (.tmp 3) rfl ((K.old 3 rfl).trans x3) (by kernel_rfl)
          · exact st_loadc 32 (.tmp 94) rfl (by kernel_rfl) (K.dep 27 94 rfl) (Ob.cell (Ob.below m3 K.grow) 2 rfl)
          · exact st_lenh (.tmp 95) rfl (fk_val (K.dep 28 95 rfl) (Fk.mono _ _ _ _ vS (bl.trans (Below.mono K.grow bl.size))))
          · exact st_move (.tmp 5) rfl ((K.old 5 rfl).trans x5)
          · exact st_neqi 3 (.tmp 96) (.tmp 97) rfl .i64 ((((S).length : Nat) : Int)) (512) (K.dep 29 96 rfl) (K.dep 30 97 rfl) _ (by rw [eq_comm, decide_eq_true_iff]; omega)
          · exact st_pick_f' (.tmp 93) (.const (.bool true)) (.tmp 98) rfl (K.dep 26 93 rfl) (K.dep 31 98 rfl)
          intro f12 w12 A hb
          replace bl0 := bl
          replace x1 := (A.old 1 rfl).trans x1
          replace x2 := (A.old 2 rfl).trans x2
          replace x3 := (A.old 3 rfl).trans x3
          replace x29 := (A.old 29 rfl).trans x29
          replace x4 := (A.old 4 rfl).trans x4
          replace x58 := (A.old 58 rfl).trans x58
          replace x66 := (A.old 66 rfl).trans x66
          replace x5 := (A.old 5 rfl).trans x5
          have x99 : f12.eval (.tmp 99) = .bool true := A.has 32 99 rfl
          have lt_m1 := Ob.lt m1
          replace m1 := Ob.below m1 hb
          have lt_m3 := Ob.lt m3
          replace m3 := Ob.below m3 hb
          replace bl := (bl.trans (Below.mono hb bl.size))
          replace sz := A.size.trans sz
          replace df := A.defs.trans df
          clear A hb
          clear x5
          show Code.wp _ _ _ _ _
          refine wp_cond_true x99 ?_
          refine wp_seq ?_
          -- R11
          refine wp_all_seq [.eq (.int .i64 21), .eq (.bool true), .eq (.bool true), .eq (.bool true), .eq (.bool true), .eq (.bool true)] (by kernel_rfl) (by kernel_rfl) (by rw [sz]; kernel_rfl) (by kernel_rfl) ⟨fun hw ac u K => ?_, fun hw ac u K => ?_, fun hw ac u K => ?_, fun hw ac u K => ?_, fun hw ac u K => ?_, fun hw ac u K => ?_, trivial⟩ ?_
          · exact st_move (.tmp 4) rfl ((K.old 4 rfl).trans x4)
          · exact st_eqi 29 (.tmp 100) (.const (.int .i64 21)) rfl .i64 (21) (21) (K.dep 0 100 rfl) rfl _ (by rfl)
          · exact st_move (.tmp 101) rfl (K.dep 1 101 rfl)
          · exact st_call 8 (.func 8) _ _ #[] rfl rfl rfl Tryd.enter8 (fk_of (awake_any _ (hK.below (bl.trans (Below.mono K.grow bl.size)))))
          · exact st_pick_t (.tmp 102) (.tmp 103) (.const (.bool false)) rfl (K.dep 2 102 rfl) (K.dep 3 103 rfl)
          · exact st_assign (.tmp 104) rfl (K.dep 4 104 rfl)
          intro f13 w13 A hb
          replace bl0 := bl
          replace x1 := (A.old 1 rfl).trans x1
          clear x2
          replace x3 := (A.old 3 rfl).trans x3
          replace x29 := (A.old 29 rfl).trans x29
          replace x4 := (A.old 4 rfl).trans x4
          replace x58 := (A.old 58 rfl).trans x58
          replace x66 := (A.old 66 rfl).trans x66
          replace x99 := (A.old 99 rfl).trans x99
          have x2 : f13.eval (.tmp 2) = .bool true := A.has 5 2 rfl
          have lt_m1 := Ob.lt m1
          replace m1 := Ob.below m1 hb
          have lt_m3 := Ob.lt m3
          replace m3 := Ob.below m3 hb
          replace bl := (bl.trans (Below.mono hb bl.size))
          replace sz := A.size.trans sz
          replace df := A.defs.trans df
          clear A hb
          show Code.wp _ _ _ _ _
          refine wp_ret ?_
          repeat (first | with_reducible refine then_ret ?_ | with_reducible refine block_ret ?_)
          exact bodyPost_ret (v := .bool true) (ret_slot rfl f13 _ x2 _ _) df ⟨rfl, bl⟩
        have hnp : npt kd = 67 := by rw [hkd]; rfl
        -- R8
        refine wp_all_seq [.eq (.pointer (some ⟨g1, 32, none⟩)), .eq (.int .i64 ((kd : Nat) : Int)), .eq (.bool false)] (by kernel_rfl) (by kernel_rfl) (by rw [sz]; kernel_rfl) (by kernel_rfl) ⟨fun hw ac u K => ?_, fun hw ac u K => ?_, fun hw ac u K => ?_, trivial⟩ ?_
        · exact st_field 50 1 (.tmp 1) rfl ((K.old 1 rfl).trans x1) (by kernel_rfl)
        · exact st_loadc 3 (.tmp 64) rfl (by kernel_rfl) (K.dep 0 64 rfl) (Ob.cell (Ob.below m1 K.grow) 32 ((at_head hpb 0 _).trans rfl))
        · exact st_eqi 3 (.tmp 65) (.const (.int .i64 2)) rfl .i64 (((kd : Nat) : Int)) (2) (K.dep 1 65 rfl) rfl _ (by simp [hkd])
        intro f10 w10 A hb
        replace bl0 := bl
        replace x1 := (A.old 1 rfl).trans x1
        replace x2 := (A.old 2 rfl).trans x2
        replace x3 := (A.old 3 rfl).trans x3
        replace x29 := (A.old 29 rfl).trans x29
        replace x4 := (A.old 4 rfl).trans x4
        replace x58 := (A.old 58 rfl).trans x58
        replace x5 := (A.old 5 rfl).trans x5
        have x66 : f10.eval (.tmp 66) = .bool false := A.has 2 66 rfl
        have lt_m1 := Ob.lt m1
        replace m1 := Ob.below m1 hb
        have lt_m3 := Ob.lt m3
        replace m3 := Ob.below m3 hb
        replace bl := (bl.trans (Below.mono hb bl.size))
        replace sz := A.size.trans sz
        replace df := A.defs.trans df
        clear A hb
        show Code.wp _ _ _ _ _
        refine wp_cond_false x66 ?_
        refine wp_skip ?_
        show Code.wp _ _ _ _ _
        refine wp_seq ?_
        refine wp_seq ?_
        -- R10
        refine wp_all [.eq (.pointer (some ⟨g3, 0, none⟩)), .eq (.int .i64 ((kd : Nat) : Int)), .eq (.pointer (some ⟨g1, 32, none⟩)), .eq (.int .i64 ((kd : Nat) : Int)), .eq (.bool false), .eq (.bool false), .eq (.pointer (some ⟨g3, 1, none⟩)), .eq (.int .i64 ((i : Nat) : Int)), .eq (.bool false), .eq (.bool false), .eq (.bool false), .eq (.pointer (some ⟨g3, 1, none⟩)), .eq (.int .i64 ((i : Nat) : Int)), .eq (.pointer (some ⟨g1, 33, none⟩)), .eq (.int .i64 ((ht : Nat) : Int)), .eq (.int .i64 ((2 ^ ht : Nat) : Int)), .eq (.bool false), .eq (.bool false), .eq (.bool false), .eq (.pointer (some ⟨g3, 3, none⟩)), .eq (.slice pA (P).length pC), .eq (.int .i64 (((P).length : Nat) : Int)), .eq (.pointer (some ⟨g1, 33, none⟩)), .eq (.int .i64 ((ht : Nat) : Int)), .eq (.bool false), .eq (.bool false), .eq (.bool false), .eq (.pointer (some ⟨g3, 2, none⟩)), .eq (.slice sA (S).length sC), .eq (.int .i64 (((S).length : Nat) : Int)), .eq (.int .i64 67), .eq (.bool true), .eq (.bool true)] Tryd.mixed (by kernel_rfl) (by kernel_rfl) (by rw [sz]; kernel_rfl) (by kernel_rfl) ⟨fun hw ac u K => ?_, fun hw ac u K => ?_, fun hw ac u K => ?_, fun hw ac u K => ?_, fun hw ac u K => ?_, fun hw ac u K => ?_, fun hw ac u K => ?_, fun hw ac u K => ?_, fun hw ac u K => ?_, fun hw ac u K => ?_, fun hw ac u K => ?_, fun hw ac u K => ?_, fun hw ac u K => ?_, fun hw ac u K => ?_, fun hw ac u K => ?_, fun hw ac u K => ?_, fun hw ac u K => ?_, fun hw ac u K => ?_, fun hw ac u K => ?_, fun hw ac u K => ?_, fun hw ac u K => ?_, fun hw ac u K => ?_, fun hw ac u K => ?_, fun hw ac u K => ?_, fun hw ac u K => ?_, fun hw ac u K => ?_, fun hw ac u K => ?_, fun hw ac u K => ?_, fun hw ac u K => ?_, fun hw ac u K => ?_, fun hw ac u K => ?_, fun hw ac u K => ?_, fun hw ac u K => ?_, trivial⟩ ?_
        · exact st_field 38 0 (.tmp 3) rfl ((K.old 3 rfl).trans x3) (by kernel_rfl)
        · exact st_loadc 3 (.tmp 67) rfl (by kernel_rfl) (K.dep 0 67 rfl) (Ob.cell (Ob.below m3 K.grow) 0 rfl)
        · exact st_field 50 1 (.tmp 1) rfl ((K.old 1 rfl).trans x1) (by kernel_rfl)
        · exact st_loadc 3 (.tmp 69) rfl (by kernel_rfl) (K.dep 2 69 rfl) (Ob.cell (Ob.below m1 K.grow) 32 ((at_head hpb 0 _).trans rfl))
        · exact st_neqi 3 (.tmp 68) (.tmp 70) rfl .i64 (((kd : Nat) : Int)) (((kd : Nat) : Int)) (K.dep 1 68 rfl) (K.dep 3 70 rfl) _ (by simp)
        · exact st_move (.tmp 71) rfl (K.dep 4 71 rfl)
        · exact st_field 38 1 (.tmp 3) rfl ((K.old 3 rfl).trans x3) (by kernel_rfl)
        · exact st_loadc 3 (.tmp 73) rfl (by kernel_rfl) (K.dep 6 73 rfl) (Ob.cell (Ob.below m3 K.grow) 1 rfl)
        · exact st_lss 3 (.tmp 74) (.const (.int .i64 0)) rfl .i64 (((i : Nat) : Int)) (0) (K.dep 7 74 rfl) rfl _ (by first | (simp; done) | (simp; omega))
        · exact st_pick_f' (.tmp 72) (.const (.bool true)) (.tmp 75) rfl (K.dep 5 72 rfl) (K.dep 8 75 rfl)
        · exact st_move (.tmp 76) rfl (K.dep 9 76 rfl)
        · exact st_field 38 1 (.tmp 3) rfl ((K.old 3 rfl).trans x3) (by kernel_rfl)
        · exact st_loadc 3 (.tmp 78) rfl (by kernel_rfl) (K.dep 11 78 rfl) (Ob.cell (Ob.below m3 K.grow) 1 rfl)
        · exact st_field 50 2 (.tmp 1) rfl ((K.old 1 rfl).trans x1) (by kernel_rfl)
        · exact st_loadc 3 (.tmp 80) rfl (by kernel_rfl) (K.dep 13 80 rfl) (Ob.cell (Ob.below m1 K.grow) 33 ((at_head hpb 1 _).trans rfl))
        · exact st_shl 3 3 (.const (.int .i64 1)) (.tmp 81) rfl (1) (ht) rfl (K.dep 14 81 rfl) (2 ^ ht) (by simp) hpw (by omega)
        · exact st_geq 3 (.tmp 79) (.tmp 82) rfl .i64 (((i : Nat) : Int)) (((2 ^ ht : Nat) : Int)) (K.dep 12 79 rfl) (K.dep 15 82 rfl) _ (by rw [eq_comm, decide_eq_false_iff_not]; omega)
        · exact st_pick_f' (.tmp 77) (.const (.bool true)) (.tmp 83) rfl (K.dep 10 77 rfl) (K.dep 16 83 rfl)
        · exact st_move (.tmp 84) rfl (K.dep 17 84 rfl)
        · exact st_field 38 3 (.tmp 3) rfl ((K.old 3 rfl).trans x3) (by kernel_rfl)
        · exact st_loadc 32 (.tmp 86) rfl (by kernel_rfl) (K.dep 19 86 rfl) (Ob.cell (Ob.below m3 K.grow) 3 rfl)
        · exact st_lenh (.tmp 87) rfl (fk_val (K.dep 20 87 rfl) (Fk.mono _ _ _ _ vP (bl.trans (Below.mono K.grow bl.size))))
        · exact st_field 50 2 (.tmp 1) rfl ((K.old 1 rfl).trans x1) (by kernel_rfl)
        · exact st_loadc 3 (.tmp 89) rfl (by kernel_rfl) (K.dep 22 89 rfl) (Ob.cell (Ob.below m1 K.grow) 33 ((at_head hpb 1 _).trans rfl))
        · exact st_neqi 3 (.tmp 88) (.tmp 90) rfl .i64 ((((P).length : Nat) : Int)) (((ht : Nat) : Int)) (K.dep 21 88 rfl) (K.dep 23 90 rfl) _ (by simp [hP])
        · exact st_pick_f' (.tmp 85) (.const (.bool true)) (.tmp 91) rfl (K.dep 18 85 rfl) (K.dep 24 91 rfl)
        · exact st_move (.tmp 92) rfl (K.dep 25 92 rfl)
        · exact st_field 38 2 (.tmp 3) rfl ((K.old 3 rfl).trans x3) (by kernel_rfl)
        · exact st_loadc 32 (.tmp 94) rfl (by kernel_rfl) (K.dep 27 94 rfl) (Ob.cell (Ob.below m3 K.grow) 2 rfl)
        · exact st_lenh (.tmp 95) rfl (fk_val (K.dep 28 95 rfl) (Fk.mono _ _ _ _ vS (bl.trans (Below.mono K.grow bl.size))))
        · exact st_move (.tmp 5) rfl ((K.old 5 rfl).trans x5)
        · exact st_neqi 3 (.tmp 96) (.tmp 97) rfl .i64 ((((S).length : Nat) : Int)) (67) (K.dep 29 96 rfl) (K.dep 30 97 rfl) _ (by rw [eq_comm, decide_eq_true_iff]; omega)
        · exact st_pick_f' (.tmp 93) (.const (.bool true)) (.tmp 98) rfl (K.dep 26 93 rfl) (K.dep 31 98 rfl)
        intro f11 w11 A hb
        replace bl0 := bl
        replace x1 := (A.old 1 rfl).trans x1
        replace x2 := (A.old 2 rfl).trans x2
        replace x3 := (A.old 3 rfl).trans x3
        replace x29 := (A.old 29 rfl).trans x29
        replace x4 := (A.old 4 rfl).trans x4
        replace x58 := (A.old 58 rfl).trans x58
        replace x5 := (A.old 5 rfl).trans x5
        replace x66 := (A.old 66 rfl).trans x66
        have x99 : f11.eval (.tmp 99) = .bool true := A.has 32 99 rfl
        have lt_m1 := Ob.lt m1
        replace m1 := Ob.below m1 hb
        have lt_m3 := Ob.lt m3
        replace m3 := Ob.below m3 hb
        replace bl := (bl.trans (Below.mono hb bl.size))
        replace sz := A.size.trans sz
        replace df := A.defs.trans df
        clear A hb
        clear x5
        show Code.wp _ _ _ _ _
        refine wp_cond_true x99 ?_
        refine wp_seq ?_
        -- R11
        refine wp_all_seq [.eq (.int .i64 21), .eq (.bool true), .eq (.bool true), .eq (.bool true), .eq (.bool true), .eq (.bool true)] (by kernel_rfl) (by kernel_rfl) (by rw [sz]; kernel_rfl) (by kernel_rfl) ⟨fun hw ac u K => ?_, fun hw ac u K => ?_, fun hw ac u K => ?_, fun hw ac u K => ?_, fun hw ac u K => ?_, fun hw ac u K => ?_, trivial⟩ ?_
        · exact st_move (.tmp 4) rfl ((K.old 4 rfl).trans x4)
        · exact st_eqi 29 (.tmp 100) (.const (.int .i64 21)) rfl .i64 (21) (21) (K.dep 0 100 rfl) rfl _ (by rfl)
        · exact st_move (.tmp 101) rfl (K.dep 1 101 rfl)
        · exact st_call 8 (.func 8) _ _ #[] rfl rfl rfl Tryd.enter8 (fk_of (awake_any _ (hK.below (bl.trans (Below.mono K.grow bl.size)))))
        · exact st_pick_t (.tmp 102) (.tmp 103) (.const (.bool false)) rfl (K.dep 2 102 rfl) (K.dep 3 103 rfl)
        · exact st_assign (.tmp 104) rfl (K.dep 4 104 rfl)
        intro f12 w12 A hb
        replace bl0 := bl
        replace x1 := (A.old 1 rfl).trans x1
        clear x2
        replace x3 := (A.old 3 rfl).trans x3
        replace x29 := (A.old 29 rfl).trans x29
        replace x4 := (A.old 4 rfl).trans x4
        replace x58 := (A.old 58 rfl).trans x58
        replace x66 := (A.old 66 rfl).trans x66
        replace x99 := (A.old 99 rfl).trans x99
        have x2 : f12.eval (.tmp 2) = .bool true := A.has 5 2 rfl
        have lt_m1 := Ob.lt m1
        replace m1 := Ob.below m1 hb
        have lt_m3 := Ob.lt m3
        replace m3 := Ob.below m3 hb
        replace bl := (bl.trans (Below.mono hb bl.size))
        replace sz := A.size.trans sz
        replace df := A.defs.trans df
        clear A hb
        show Code.wp _ _ _ _ _
        refine wp_ret ?_
        repeat (first | with_reducible refine then_ret ?_ | with_reducible refine block_ret ?_)
        exact bodyPost_ret (v := .bool true) (ret_slot rfl f12 _ x2 _ _) df ⟨rfl, bl⟩
      obtain ⟨y, er⟩ : ∃ y, Box (rcv kd h S = y) := ⟨_, ⟨rfl⟩⟩
      have hy : y.length = 32 := by rw [← er.out]; exact rcv_len _ _ _
      obtain ⟨z, ez⟩ : ∃ z, Box (lf y = z) := ⟨_, ⟨rfl⟩⟩
      have hz1 : z.length = 32 := by rw [← ez.out]; exact lf_len _
      obtain ⟨vr, hvr⟩ : ∃ vr : Int, vr = if up i P z P.length = pb then 0 else 21 := ⟨_, rfl⟩
      -- R4
      refine wp_all_seq [.eq (.pointer (some ⟨g1, 0, none⟩)), .eq (.agg ((pb).map V).toArray), .eq (.pointer (some ⟨g1, 32, none⟩)), .eq (.int .i64 ((kd : Nat) : Int)), .eq (.pointer (some ⟨g1, 33, none⟩)), .eq (.int .i64 ((ht : Nat) : Int)), .eq (.pointer (some ⟨g1, 34, none⟩)), .eq (mv), .eq (.agg ([.int .i64 ((kd : Nat) : Int), .int .i64 ((i : Nat) : Int), .slice sA (S).length sC, .slice pA (P).length pC] : List Value).toArray), .eq (.int .i64 (vr)), .eq (.int .i64 (vr))] (by kernel_rfl) (by kernel_rfl) (by rw [sz]; kernel_rfl) (by kernel_rfl) ⟨fun hw ac u K => ?_, fun hw ac u K => ?_, fun hw ac u K => ?_, fun hw ac u K => ?_, fun hw ac u K => ?_, fun hw ac u K => ?_, fun hw ac u K => ?_, fun hw ac u K => ?_, fun hw ac u K => ?_, fun hw ac u K => ?_, fun hw ac u K => ?_, trivial⟩ ?_
      · exact st_field 50 0 (.tmp 1) rfl ((K.old 1 rfl).trans x1) (by kernel_rfl)
      · exact st_loadhd (.tmp 31) rfl (g1) (pb) (K.dep 0 31 rfl) hpb (Ob.below m1 K.grow)
      · exact st_field 50 1 (.tmp 1) rfl ((K.old 1 rfl).trans x1) (by kernel_rfl)
      · exact st_loadc 3 (.tmp 33) rfl (by kernel_rfl) (K.dep 2 33 rfl) (Ob.cell (Ob.below m1 K.grow) 32 ((at_head hpb 0 _).trans rfl))
      · exact st_field 50 2 (.tmp 1) rfl ((K.old 1 rfl).trans x1) (by kernel_rfl)
      · exact st_loadc 3 (.tmp 35) rfl (by kernel_rfl) (K.dep 4 35 rfl) (Ob.cell (Ob.below m1 K.grow) 33 ((at_head hpb 1 _).trans rfl))
      · exact st_field 50 3 (.tmp 1) rfl ((K.old 1 rfl).trans x1) (by kernel_rfl)
      · exact st_loadc 36 (.tmp 37) rfl (by kernel_rfl) (K.dep 6 37 rfl) (Ob.cell (Ob.below m1 K.grow) 34 ((at_head hpb 2 _).trans rfl))
      · exact st_loadz 38 (.tmp 3) rfl (g3) 0 [.int .i64 ((kd : Nat) : Int), .int .i64 ((i : Nat) : Int), .slice sA (S).length sC, .slice pA (P).length pC] (by kernel_rfl) (by kernel_rfl) ((K.old 3 rfl).trans x3) (Ob.range (Ob.below m3 K.grow) 0 _ (fun j v hj => by simpa using hj))
      · exact st_call 21 (.func 21) _ _ #[.agg ((pb).map V).toArray, .int .i64 ((kd : Nat) : Int), .int .i64 ((ht : Nat) : Int), mv, .agg ([.int .i64 ((kd : Nat) : Int), .int .i64 ((i : Nat) : Int), .slice sA (S).length sC, .slice pA (P).length pC] : List Value).toArray] rfl rfl (arg5 (K.dep 1 32 rfl) (K.dep 3 34 rfl) (K.dep 5 36 rfl) (K.dep 7 38 rfl) (K.dep 8 39 rfl)) Tryd.enter21 (fk_of (verify_any h1 h2 h3 i hi hpb hP _ _ (by omega) (Fk.mono _ _ _ _ vm (bl.trans (Below.mono K.grow bl.size))) (hK.below (bl.trans (Below.mono K.grow bl.size))) (Fk.mono _ _ _ _ vS (bl.trans (Below.mono K.grow bl.size))) (Fk.mono _ _ _ _ vP (bl.trans (Below.mono K.grow bl.size))) eh hl vr (by rw [er.out, ez.out]; exact hvr)))
      · exact st_assign (.tmp 40) rfl (K.dep 9 40 rfl)
      intro f7 w7 A hb
      replace bl0 := bl
      replace x1 := (A.old 1 rfl).trans x1
      replace x2 := (A.old 2 rfl).trans x2
      replace x3 := (A.old 3 rfl).trans x3
      replace x29 := (A.old 29 rfl).trans x29
      have x4 : f7.eval (.tmp 4) = .int .i64 (vr) := A.has 10 4 rfl
      have lt_m1 := Ob.lt m1
      replace m1 := Ob.below m1 hb
      have lt_m3 := Ob.lt m3
      replace m3 := Ob.below m3 hb
      replace bl := (bl.trans (Below.mono hb bl.size))
      replace sz := A.size.trans sz
      replace df := A.defs.trans df
      clear A hb
      show Code.wp _ _ _ _ _
      refine wp_seq ?_
      refine wp_seq ?_
      -- R5
      refine wp_all_seq [.eq (.pointer (some ⟨g1, 32, none⟩)), .eq (.int .i64 ((kd : Nat) : Int)), .eq (.bool false), .eq (.bool false), .eq (.pointer (some ⟨g1, 32, none⟩)), .eq (.int .i64 ((kd : Nat) : Int)), .eq (.bool false), .eq (.bool false), .eq (.bool false), .eq (.pointer (some ⟨g1, 33, none⟩)), .eq (.int .i64 ((ht : Nat) : Int)), .eq (.bool false), .eq (.bool false), .eq (.bool false), .eq (.pointer (some ⟨g1, 33, none⟩)), .eq (.int .i64 ((ht : Nat) : Int)), .eq (.bool false), .eq (.bool false)] (by kernel_rfl) (by kernel_rfl) (by rw [sz]; kernel_rfl) (by kernel_rfl) ⟨fun hw ac u K => ?_, fun hw ac u K => ?_, fun hw ac u K => ?_, fun hw ac u K => ?_, fun hw ac u K => ?_, fun hw ac u K => ?_, fun hw ac u K => ?_, fun hw ac u K => ?_, fun hw ac u K => ?_, fun hw ac u K => ?_, fun hw ac u K => ?_, fun hw ac u K => ?_, fun hw ac u K => ?_, fun hw ac u K => ?_, fun hw ac u K => ?_, fun hw ac u K => ?_, fun hw ac u K => ?_, fun hw ac u K => ?_, trivial⟩ ?_
      · exact st_field 50 1 (.tmp 1) rfl ((K.old 1 rfl).trans x1) (by kernel_rfl)
      · exact st_loadc 3 (.tmp 41) rfl (by kernel_rfl) (K.dep 0 41 rfl) (Ob.cell (Ob.below m1 K.grow) 32 ((at_head hpb 0 _).trans rfl))
      · exact st_lss 3 (.tmp 42) (.const (.int .i64 1)) rfl .i64 (((kd : Nat) : Int)) (1) (K.dep 1 42 rfl) rfl _ (by rw [eq_comm, decide_eq_false_iff_not]; omega)
      · exact st_move (.tmp 43) rfl (K.dep 2 43 rfl)
      · exact st_field 50 1 (.tmp 1) rfl ((K.old 1 rfl).trans x1) (by kernel_rfl)
      · exact st_loadc 3 (.tmp 45) rfl (by kernel_rfl) (K.dep 4 45 rfl) (Ob.cell (Ob.below m1 K.grow) 32 ((at_head hpb 0 _).trans rfl))
      · exact st_gtr 3 (.tmp 46) (.const (.int .i64 2)) rfl .i64 (((kd : Nat) : Int)) (2) (K.dep 5 46 rfl) rfl _ (by rw [eq_comm, decide_eq_false_iff_not]; omega)
      · exact st_pick_f' (.tmp 44) (.const (.bool true)) (.tmp 47) rfl (K.dep 3 44 rfl) (K.dep 6 47 rfl)
      · exact st_move (.tmp 48) rfl (K.dep 7 48 rfl)
      · exact st_field 50 2 (.tmp 1) rfl ((K.old 1 rfl).trans x1) (by kernel_rfl)
      · exact st_loadc 3 (.tmp 50) rfl (by kernel_rfl) (K.dep 9 50 rfl) (Ob.cell (Ob.below m1 K.grow) 33 ((at_head hpb 1 _).trans rfl))
      · exact st_lss 3 (.tmp 51) (.const (.int .i64 0)) rfl .i64 (((ht : Nat) : Int)) (0) (K.dep 10 51 rfl) rfl _ (by rw [eq_comm, decide_eq_false_iff_not]; omega)
      · exact st_pick_f' (.tmp 49) (.const (.bool true)) (.tmp 52) rfl (K.dep 8 49 rfl) (K.dep 11 52 rfl)
      · exact st_move (.tmp 53) rfl (K.dep 12 53 rfl)
      · exact st_field 50 2 (.tmp 1) rfl ((K.old 1 rfl).trans x1) (by kernel_rfl)
      · exact st_loadc 3 (.tmp 55) rfl (by kernel_rfl) (K.dep 14 55 rfl) (Ob.cell (Ob.below m1 K.grow) 33 ((at_head hpb 1 _).trans rfl))
      · exact st_gtr 3 (.tmp 56) (.const (.int .i64 8)) rfl .i64 (((ht : Nat) : Int)) (8) (K.dep 15 56 rfl) rfl _ (by rw [eq_comm, decide_eq_false_iff_not]; omega)
      · exact st_pick_f' (.tmp 54) (.const (.bool true)) (.tmp 57) rfl (K.dep 13 54 rfl) (K.dep 16 57 rfl)
      intro f8 w8 A hb
      replace bl0 := bl
      replace x1 := (A.old 1 rfl).trans x1
      replace x2 := (A.old 2 rfl).trans x2
      replace x3 := (A.old 3 rfl).trans x3
      replace x29 := (A.old 29 rfl).trans x29
      replace x4 := (A.old 4 rfl).trans x4
      have x58 : f8.eval (.tmp 58) = .bool false := A.has 17 58 rfl
      have lt_m1 := Ob.lt m1
      replace m1 := Ob.below m1 hb
      have lt_m3 := Ob.lt m3
      replace m3 := Ob.below m3 hb
      replace bl := (bl.trans (Below.mono hb bl.size))
      replace sz := A.size.trans sz
      replace df := A.defs.trans df
      clear A hb
      show Code.wp _ _ _ _ _
      refine wp_cond_false x58 ?_
      refine wp_skip ?_
      show Code.wp _ _ _ _ _
      refine wp_seq ?_
      -- R7
      refine wp_all_seq [.eq (.int .i64 67)] (by kernel_rfl) (by kernel_rfl) (by rw [sz]; kernel_rfl) (by kernel_rfl) ⟨fun hw ac u K => ?_, trivial⟩ ?_
      · exact st_assign (.const (.int .i64 67)) rfl rfl
      intro f9 w9 A hb
      replace bl0 := bl
      replace x1 := (A.old 1 rfl).trans x1
      replace x2 := (A.old 2 rfl).trans x2
      replace x3 := (A.old 3 rfl).trans x3
      replace x29 := (A.old 29 rfl).trans x29
      replace x4 := (A.old 4 rfl).trans x4
      replace x58 := (A.old 58 rfl).trans x58
      have x5 : f9.eval (.tmp 5) = .int .i64 67 := A.has 0 5 rfl
      have lt_m1 := Ob.lt m1
      replace m1 := Ob.below m1 hb
      have lt_m3 := Ob.lt m3
      replace m3 := Ob.below m3 hb
      replace bl := (bl.trans (Below.mono hb bl.size))
      replace sz := A.size.trans sz
      replace df := A.defs.trans df
      clear A hb
      show Code.wp _ _ _ _ _
      refine wp_seq ?_
      refine wp_seq ?_
      rcases (show kd = 1 ∨ kd = 2 by omega) with hkd | hkd
      rotate_left
      · skip
        have hnp : npt kd = 512 := by rw [hkd]; rfl
        have er1 : Box (pub (all512 (rcOf h S)) = y) := ⟨by rw [← er.out]; unfold rcv; rw [if_neg (by omega)]⟩
        -- R8
        refine wp_all_seq [.eq (.pointer (some ⟨g1, 32, none⟩)), .eq (.int .i64 ((kd : Nat) : Int)), .eq (.bool true)] (by kernel_rfl) (by kernel_rfl) (by rw [sz]; kernel_rfl) (by kernel_rfl) ⟨fun hw ac u K => ?_, fun hw ac u K => ?_, fun hw ac u K => ?_, trivial⟩ ?_
        · exact st_field 50 1 (.tmp 1) rfl ((K.old 1 rfl).trans x1) (by kernel_rfl)
        · exact st_loadc 3 (.tmp 64) rfl (by kernel_rfl) (K.dep 0 64 rfl) (Ob.cell (Ob.below m1 K.grow) 32 ((at_head hpb 0 _).trans rfl))
        · exact st_eqi 3 (.tmp 65) (.const (.int .i64 2)) rfl .i64 (((kd : Nat) : Int)) (2) (K.dep 1 65 rfl) rfl _ (by simp [hkd])
        intro f10 w10 A hb
        replace bl0 := bl
        replace x1 := (A.old 1 rfl).trans x1
        replace x2 := (A.old 2 rfl).trans x2
        replace x3 := (A.old 3 rfl).trans x3
        replace x29 := (A.old 29 rfl).trans x29
        replace x4 := (A.old 4 rfl).trans x4
        replace x58 := (A.old 58 rfl).trans x58
        replace x5 := (A.old 5 rfl).trans x5
        have x66 : f10.eval (.tmp 66) = .bool true := A.has 2 66 rfl
        have lt_m1 := Ob.lt m1
        replace m1 := Ob.below m1 hb
        have lt_m3 := Ob.lt m3
        replace m3 := Ob.below m3 hb
        replace bl := (bl.trans (Below.mono hb bl.size))
        replace sz := A.size.trans sz
        replace df := A.defs.trans df
        clear A hb
        show Code.wp _ _ _ _ _
        refine wp_cond_true x66 ?_
        -- R9
        refine wp_all_seq [.eq (.int .i64 512)] (by kernel_rfl) (by kernel_rfl) (by rw [sz]; kernel_rfl) (by kernel_rfl) ⟨fun hw ac u K => ?_, trivial⟩ ?_
        · exact st_assign (.const (.int .i64 512)) rfl rfl
        intro f11 w11 A hb
        replace bl0 := bl
        replace x1 := (A.old 1 rfl).trans x1
        replace x2 := (A.old 2 rfl).trans x2
        replace x3 := (A.old 3 rfl).trans x3
        replace x29 := (A.old 29 rfl).trans x29
        replace x4 := (A.old 4 rfl).trans x4
        replace x58 := (A.old 58 rfl).trans x58
        clear x5
        replace x66 := (A.old 66 rfl).trans x66
        have x5 : f11.eval (.tmp 5) = .int .i64 512 := A.has 0 5 rfl
        have lt_m1 := Ob.lt m1
        replace m1 := Ob.below m1 hb
        have lt_m3 := Ob.lt m3
        replace m3 := Ob.below m3 hb
        replace bl := (bl.trans (Below.mono hb bl.size))
        replace sz := A.size.trans sz
        replace df := A.defs.trans df
        clear A hb
        show Code.wp _ _ _ _ _
        refine wp_seq ?_
        refine wp_seq ?_
        -- R10
        refine wp_all [.eq (.pointer (some ⟨g3, 0, none⟩)), .eq (.int .i64 ((kd : Nat) : Int)), .eq (.pointer (some ⟨g1, 32, none⟩)), .eq (.int .i64 ((kd : Nat) : Int)), .eq (.bool false), .eq (.bool false), .eq (.pointer (some ⟨g3, 1, none⟩)), .eq (.int .i64 ((i : Nat) : Int)), .eq (.bool false), .eq (.bool false), .eq (.bool false), .eq (.pointer (some ⟨g3, 1, none⟩)), .eq (.int .i64 ((i : Nat) : Int)), .eq (.pointer (some ⟨g1, 33, none⟩)), .eq (.int .i64 ((ht : Nat) : Int)), .eq (.int .i64 ((2 ^ ht : Nat) : Int)), .eq (.bool false), .eq (.bool false), .eq (.bool false), .eq (.pointer (some ⟨g3, 3, none⟩)), .eq (.slice pA (P).length pC), .eq (.int .i64 (((P).length : Nat) : Int)), .eq (.pointer (some ⟨g1, 33, none⟩)), .eq (.int .i64 ((ht : Nat) : Int)), .eq (.bool false), .eq (.bool false), .eq (.bool false), .eq (.pointer (some ⟨g3, 2, none⟩)), .eq (.slice sA (S).length sC), .eq (.int .i64 (((S).length : Nat) : Int)), .eq (.int .i64 512), .eq (.bool false), .eq (.bool false)] Tryd.mixed (by kernel_rfl) (by kernel_rfl) (by rw [sz]; kernel_rfl) (by kernel_rfl) ⟨fun hw ac u K => ?_, fun hw ac u K => ?_, fun hw ac u K => ?_, fun hw ac u K => ?_, fun hw ac u K => ?_, fun hw ac u K => ?_, fun hw ac u K => ?_, fun hw ac u K => ?_, fun hw ac u K => ?_, fun hw ac u K => ?_, fun hw ac u K => ?_, fun hw ac u K => ?_, fun hw ac u K => ?_, fun hw ac u K => ?_, fun hw ac u K => ?_, fun hw ac u K => ?_, fun hw ac u K => ?_, fun hw ac u K => ?_, fun hw ac u K => ?_, fun hw ac u K => ?_, fun hw ac u K => ?_, fun hw ac u K => ?_, fun hw ac u K => ?_, fun hw ac u K => ?_, fun hw ac u K => ?_, fun hw ac u K => ?_, fun hw ac u K => ?_, fun hw ac u K => ?_, fun hw ac u K => ?_, fun hw ac u K => ?_, fun hw ac u K => ?_, fun hw ac u K => ?_, fun hw ac u K => ?_, trivial⟩ ?_
        · exact st_field 38 0 (.tmp 3) rfl ((K.old 3 rfl).trans x3) (by kernel_rfl)
        · exact st_loadc 3 (.tmp 67) rfl (by kernel_rfl) (K.dep 0 67 rfl) (Ob.cell (Ob.below m3 K.grow) 0 rfl)
        · exact st_field 50 1 (.tmp 1) rfl ((K.old 1 rfl).trans x1) (by kernel_rfl)
        · exact st_loadc 3 (.tmp 69) rfl (by kernel_rfl) (K.dep 2 69 rfl) (Ob.cell (Ob.below m1 K.grow) 32 ((at_head hpb 0 _).trans rfl))
        · exact st_neqi 3 (.tmp 68) (.tmp 70) rfl .i64 (((kd : Nat) : Int)) (((kd : Nat) : Int)) (K.dep 1 68 rfl) (K.dep 3 70 rfl) _ (by simp)
        · exact st_move (.tmp 71) rfl (K.dep 4 71 rfl)
        · exact st_field 38 1 (.tmp 3) rfl ((K.old 3 rfl).trans x3) (by kernel_rfl)
        · exact st_loadc 3 (.tmp 73) rfl (by kernel_rfl) (K.dep 6 73 rfl) (Ob.cell (Ob.below m3 K.grow) 1 rfl)
        · exact st_lss 3 (.tmp 74) (.const (.int .i64 0)) rfl .i64 (((i : Nat) : Int)) (0) (K.dep 7 74 rfl) rfl _ (by first | (simp; done) | (simp; omega))
        · exact st_pick_f' (.tmp 72) (.const (.bool true)) (.tmp 75) rfl (K.dep 5 72 rfl) (K.dep 8 75 rfl)
        · exact st_move (.tmp 76) rfl (K.dep 9 76 rfl)
        · exact st_field 38 1 (.tmp 3) rfl ((K.old 3 rfl).trans x3) (by kernel_rfl)
        · exact st_loadc 3 (.tmp 78) rfl (by kernel_rfl) (K.dep 11 78 rfl) (Ob.cell (Ob.below m3 K.grow) 1 rfl)
        · exact st_field 50 2 (.tmp 1) rfl ((K.old 1 rfl).trans x1) (by kernel_rfl)
        · exact st_loadc 3 (.tmp 80) rfl (by kernel_rfl) (K.dep 13 80 rfl) (Ob.cell (Ob.below m1 K.grow) 33 ((at_head hpb 1 _).trans rfl))
        · exact st_shl 3 3 (.const (.int .i64 1)) (.tmp 81) rfl (1) (ht) rfl (K.dep 14 81 rfl) (2 ^ ht) (by simp) hpw (by omega)
        · exact st_geq 3 (.tmp 79) (.tmp 82) rfl .i64 (((i : Nat) : Int)) (((2 ^ ht : Nat) : Int)) (K.dep 12 79 rfl) (K.dep 15 82 rfl) _ (by rw [eq_comm, decide_eq_false_iff_not]; omega)
        · exact st_pick_f' (.tmp 77) (.const (.bool true)) (.tmp 83) rfl (K.dep 10 77 rfl) (K.dep 16 83 rfl)
        · exact st_move (.tmp 84) rfl (K.dep 17 84 rfl)
        · exact st_field 38 3 (.tmp 3) rfl ((K.old 3 rfl).trans x3) (by kernel_rfl)
        · exact st_loadc 32 (.tmp 86) rfl (by kernel_rfl) (K.dep 19 86 rfl) (Ob.cell (Ob.below m3 K.grow) 3 rfl)
        · exact st_lenh (.tmp 87) rfl (fk_val (K.dep 20 87 rfl) (Fk.mono _ _ _ _ vP (bl.trans (Below.mono K.grow bl.size))))
        · exact st_field 50 2 (.tmp 1) rfl ((K.old 1 rfl).trans x1) (by kernel_rfl)
        · exact st_loadc 3 (.tmp 89) rfl (by kernel_rfl) (K.dep 22 89 rfl) (Ob.cell (Ob.below m1 K.grow) 33 ((at_head hpb 1 _).trans rfl))
        · exact st_neqi 3 (.tmp 88) (.tmp 90) rfl .i64 ((((P).length : Nat) : Int)) (((ht : Nat) : Int)) (K.dep 21 88 rfl) (K.dep 23 90 rfl) _ (by simp [hP])
        · exact st_pick_f' (.tmp 85) (.const (.bool true)) (.tmp 91) rfl (K.dep 18 85 rfl) (K.dep 24 91 rfl)
        · exact st_move (.tmp 92) rfl (K.dep 25 92 rfl)
        · exact st_field 38 2 (.tmp 3) rfl ((K.old 3 rfl).trans x3) (by kernel_rfl)
        · exact st_loadc 32 (.tmp 94) rfl (by kernel_rfl) (K.dep 27 94 rfl) (Ob.cell (Ob.below m3 K.grow) 2 rfl)
        · exact st_lenh (.tmp 95) rfl (fk_val (K.dep 28 95 rfl) (Fk.mono _ _ _ _ vS (bl.trans (Below.mono K.grow bl.size))))
        · exact st_move (.tmp 5) rfl ((K.old 5 rfl).trans x5)
        · exact st_neqi 3 (.tmp 96) (.tmp 97) rfl .i64 ((((S).length : Nat) : Int)) (512) (K.dep 29 96 rfl) (K.dep 30 97 rfl) _ (by rw [eq_comm, decide_eq_false_iff_not]; omega)
        · exact st_pick_f' (.tmp 93) (.const (.bool true)) (.tmp 98) rfl (K.dep 26 93 rfl) (K.dep 31 98 rfl)
        intro f12 w12 A hb
        replace bl0 := bl
        replace x1 := (A.old 1 rfl).trans x1
        replace x2 := (A.old 2 rfl).trans x2
        replace x3 := (A.old 3 rfl).trans x3
        replace x29 := (A.old 29 rfl).trans x29
        replace x4 := (A.old 4 rfl).trans x4
        replace x58 := (A.old 58 rfl).trans x58
        replace x66 := (A.old 66 rfl).trans x66
        replace x5 := (A.old 5 rfl).trans x5
        have x99 : f12.eval (.tmp 99) = .bool false := A.has 32 99 rfl
        have lt_m1 := Ob.lt m1
        replace m1 := Ob.below m1 hb
        have lt_m3 := Ob.lt m3
        replace m3 := Ob.below m3 hb
        replace bl := (bl.trans (Below.mono hb bl.size))
        replace sz := A.size.trans sz
        replace df := A.defs.trans df
        clear A hb
        clear x5
        show Code.wp _ _ _ _ _
        refine wp_cond_false x99 ?_
        refine wp_skip ?_
        show Code.wp _ _ _ _ _
        refine wp_seq ?_
        -- R12
        refine wp_region_late [.eq (.pointer (some ⟨g1, 34, none⟩)), .eq (mv), .eq (.agg ((h).map V).toArray), .eq (.pointer (some ⟨g3, 2, none⟩)), .eq (.slice sA (S).length sC), .eq (.tuple #[.agg ((hz).map V).toArray, .int .i64 10]), .eq (.tuple #[.agg ((hz).map V).toArray, .int .i64 10]), .eq (.agg ((hz).map V).toArray), .eq (.int .i64 10), .nw w12.heap.size 23 ((hz).map V)] 8 113 _ _ [11] Tryd.mixed (by kernel_rfl) (by kernel_rfl) (by kernel_rfl) (by kernel_rfl) (by kernel_rfl) rfl rfl (by kernel_rfl) rfl (by kernel_rfl) rfl (by rw [sz]; kernel_rfl) (by kernel_rfl) (fun ac u K => ⟨_, late_ext rfl (K.dep 6 105 rfl) rfl, rfl⟩) ⟨fun hw ac u K => ?_, fun hw ac u K => ?_, fun hw ac u K => ?_, fun hw ac u K => ?_, fun hw ac u K => ?_, fun hw ac u K => ?_, fun hw ac u K => ?_, fun hw ac u K => ?_, fun hw ac u K => ?_, fun hw ac u K => ?_, trivial⟩ ?_
        · exact st_field 50 3 (.tmp 1) rfl ((K.old 1 rfl).trans x1) (by kernel_rfl)
        · exact st_loadc 36 (.tmp 106) rfl (by kernel_rfl) (K.dep 0 106 rfl) (Ob.cell (Ob.below m1 K.grow) 34 ((at_head hpb 2 _).trans rfl))
        · exact st_call 17 (.func 17) _ _ #[mv] rfl rfl (one_arg (K.dep 1 107 rfl)) Tryd.enter17 (fk_message (by omega) (hK.below (bl.trans (Below.mono K.grow bl.size))) (Fk.mono _ _ _ _ vm (bl.trans (Below.mono K.grow bl.size))) eh)
        · exact st_field 38 2 (.tmp 3) rfl ((K.old 3 rfl).trans x3) (by kernel_rfl)
        · exact st_loadc 32 (.tmp 109) rfl (by kernel_rfl) (K.dep 3 109 rfl) (Ob.cell (Ob.below m3 K.grow) 2 rfl)
        · exact st_call 22 (.func 22) _ _ #[.agg ((h).map V).toArray, .slice sA (S).length sC] rfl rfl (arg2 (K.dep 2 108 rfl) (K.dep 4 110 rfl)) Tryd.enter22 (fk_recover_no (by omega) (Fk.mono _ _ _ _ vS (bl.trans (Below.mono K.grow bl.size))))
        · exact st_move (.tmp 111) rfl (K.dep 5 111 rfl)
        · exact st_ext0 (.tmp 105) rfl (K.dep 6 105 rfl) rfl
        · exact st_ext1 (.tmp 105) rfl (K.dep 6 105 rfl) rfl
        · exact st_alloc23 rfl _ K.grow.size
        intro f13 w13 A hb
        replace bl0 := bl
        replace x1 := (A.old 1 rfl).trans x1
        replace x2 := (A.old 2 rfl).trans x2
        replace x3 := (A.old 3 rfl).trans x3
        replace x29 := (A.old 29 rfl).trans x29
        replace x4 := (A.old 4 rfl).trans x4
        replace x58 := (A.old 58 rfl).trans x58
        replace x66 := (A.old 66 rfl).trans x66
        replace x99 := (A.old 99 rfl).trans x99
        have x6 : Fk.f (.nw w12.heap.size 23 ((hz).map V)) (f13.eval (.tmp 6)) w13 := A.has 9 6 rfl
        have x112 : f13.eval (.tmp 112) = .agg ((hz).map V).toArray := A.has 7 112 rfl
        have x113 : f13.eval (.tmp 113) = .int .i64 10 := A.has 8 113 rfl
        have lt_m1 := Ob.lt m1
        replace m1 := Ob.below m1 hb
        have lt_m3 := Ob.lt m3
        replace m3 := Ob.below m3 hb
        replace bl := (bl.trans (Below.mono hb bl.size))
        replace sz := A.size.trans sz
        replace df := A.defs.trans df
        clear A hb
        obtain ⟨g6, hg6, e6, m6⟩ := x6
        have x6 := e6
        clear e6
        have nm1_6 : g1 ≠ g6 := Nat.ne_of_lt (Nat.lt_of_lt_of_le lt_m1 hg6)
        have nm3_6 : g3 ≠ g6 := Nat.ne_of_lt (Nat.lt_of_lt_of_le lt_m3 hg6)
        have hw6 : w.heap.size ≤ g6 := Nat.le_trans bl0.size hg6
        refine ⟨_, run_store23 (.tmp 6) (.tmp 112) rfl (g6) (hz) (hz) x6 x112 m6 hz_len hz_len, ?_⟩
        replace m1 : Ob (w13.setRow g6 ((hz).map V : List Value).toArray) (g1) 50 ((pb).map V ++ ([.int .i64 ((kd : Nat) : Int), .int .i64 ((ht : Nat) : Int), mv, .int .i64 ((kd : Nat) : Int), .int .i64 ((i : Nat) : Int), .slice sA (S).length sC, .slice pA (P).length pC] : List Value)) := Ob.setRow_other m1 _ nm1_6
        replace m3 : Ob (w13.setRow g6 ((hz).map V : List Value).toArray) (g3) 38 ([.int .i64 ((kd : Nat) : Int), .int .i64 ((i : Nat) : Int), .slice sA (S).length sC, .slice pA (P).length pC]) := Ob.setRow_other m3 _ nm3_6
        replace m6 : Ob (w13.setRow g6 ((hz).map V : List Value).toArray) (g6) 23 ((hz).map V) := Ob.setRow m6 ((hz).map V)
        replace bl : Below w.heap.size w (w13.setRow g6 ((hz).map V : List Value).toArray) := bl.trans (below_setRow _ _ _ _ hw6)
        generalize w13.setRow g6 ((hz).map V : List Value).toArray = w14b at bl m1 m3 m6 ⊢
        clear x112
        refine wl_one (.eq (.int .i64 10)) rfl 7 rfl (by rw [sz]; decide) (st_assign (.tmp 113) rfl x113) ?_
        intro f15 w15 df2 sz2 old2 new2 hb
        replace bl0 := bl
        replace x1 := (old2 1 rfl).trans x1
        replace x2 := (old2 2 rfl).trans x2
        replace x3 := (old2 3 rfl).trans x3
        replace x29 := (old2 29 rfl).trans x29
        replace x4 := (old2 4 rfl).trans x4
        replace x58 := (old2 58 rfl).trans x58
        replace x66 := (old2 66 rfl).trans x66
        replace x99 := (old2 99 rfl).trans x99
        replace x6 := (old2 6 rfl).trans x6
        replace x113 := (old2 113 rfl).trans x113
        have x7 : f15.eval (.tmp 7) = .int .i64 10 := new2
        have lt_m1 := Ob.lt m1
        replace m1 := Ob.below m1 hb
        have lt_m3 := Ob.lt m3
        replace m3 := Ob.below m3 hb
        have lt_m6 := Ob.lt m6
        replace m6 := Ob.below m6 hb
        replace bl := (bl.trans (Below.mono hb bl.size))
        replace sz := sz2.trans sz
        replace df := df2.trans df
        clear df2 sz2 old2 new2 hb
        refine wpList_nil ?_
        clear x113
        clear x7
        show Code.wp _ _ _ _ _
        refine wp_seq ?_
        refine wp_seq ?_
        -- R13
        refine wp_all_seq [.eq (.pointer (some ⟨g1, 32, none⟩)), .eq (.int .i64 ((kd : Nat) : Int)), .eq (.bool true)] (by kernel_rfl) (by kernel_rfl) (by rw [sz]; kernel_rfl) (by kernel_rfl) ⟨fun hw ac u K => ?_, fun hw ac u K => ?_, fun hw ac u K => ?_, trivial⟩ ?_
        · exact st_field 50 1 (.tmp 1) rfl ((K.old 1 rfl).trans x1) (by kernel_rfl)
        · exact st_loadc 3 (.tmp 114) rfl (by kernel_rfl) (K.dep 0 114 rfl) (Ob.cell (Ob.below m1 K.grow) 32 ((at_head hpb 0 _).trans rfl))
        · exact st_eqi 3 (.tmp 115) (.const (.int .i64 2)) rfl .i64 (((kd : Nat) : Int)) (2) (K.dep 1 115 rfl) rfl _ (by simp [hkd])
        intro f16 w16 A hb
        replace bl0 := bl
        replace x1 := (A.old 1 rfl).trans x1
        replace x2 := (A.old 2 rfl).trans x2
        replace x3 := (A.old 3 rfl).trans x3
        replace x29 := (A.old 29 rfl).trans x29
        replace x4 := (A.old 4 rfl).trans x4
        replace x58 := (A.old 58 rfl).trans x58
        replace x66 := (A.old 66 rfl).trans x66
        replace x99 := (A.old 99 rfl).trans x99
        replace x6 := (A.old 6 rfl).trans x6
        have x116 : f16.eval (.tmp 116) = .bool true := A.has 2 116 rfl
        have lt_m1 := Ob.lt m1
        replace m1 := Ob.below m1 hb
        have lt_m3 := Ob.lt m3
        replace m3 := Ob.below m3 hb
        have lt_m6 := Ob.lt m6
        replace m6 := Ob.below m6 hb
        replace bl := (bl.trans (Below.mono hb bl.size))
        replace sz := A.size.trans sz
        replace df := A.defs.trans df
        clear A hb
        show Code.wp _ _ _ _ _
        refine wp_cond_true x116 ?_
        -- R14
        refine wp_region_late [.eq (.pointer (some ⟨g1, 34, none⟩)), .eq (mv), .eq (.agg ((h).map V).toArray), .eq (.pointer (some ⟨g3, 2, none⟩)), .eq (.slice sA (S).length sC), .eq (.tuple #[.agg ((y).map V).toArray, .int .i64 0]), .eq (.tuple #[.agg ((y).map V).toArray, .int .i64 0]), .eq (.agg ((y).map V).toArray), .eq (.int .i64 0)] 8 125 _ _ [] Tryd.mixed (by kernel_rfl) (by kernel_rfl) (by kernel_rfl) (by kernel_rfl) (by kernel_rfl) rfl rfl (by kernel_rfl) rfl (by kernel_rfl) rfl (by rw [sz]; kernel_rfl) (by kernel_rfl) (fun ac u K => ⟨_, late_ext rfl (K.dep 6 117 rfl) rfl, rfl⟩) ⟨fun hw ac u K => ?_, fun hw ac u K => ?_, fun hw ac u K => ?_, fun hw ac u K => ?_, fun hw ac u K => ?_, fun hw ac u K => ?_, fun hw ac u K => ?_, fun hw ac u K => ?_, fun hw ac u K => ?_, trivial⟩ ?_
        · exact st_field 50 3 (.tmp 1) rfl ((K.old 1 rfl).trans x1) (by kernel_rfl)
        · exact st_loadc 36 (.tmp 118) rfl (by kernel_rfl) (K.dep 0 118 rfl) (Ob.cell (Ob.below m1 K.grow) 34 ((at_head hpb 2 _).trans rfl))
        · exact st_call 17 (.func 17) _ _ #[mv] rfl rfl (one_arg (K.dep 1 119 rfl)) Tryd.enter17 (fk_message (by omega) (hK.below (bl.trans (Below.mono K.grow bl.size))) (Fk.mono _ _ _ _ vm (bl.trans (Below.mono K.grow bl.size))) eh)
        · exact st_field 38 2 (.tmp 3) rfl ((K.old 3 rfl).trans x3) (by kernel_rfl)
        · exact st_loadc 32 (.tmp 121) rfl (by kernel_rfl) (K.dep 3 121 rfl) (Ob.cell (Ob.below m3 K.grow) 2 rfl)
        · exact st_call 23 (.func 23) _ _ #[.agg ((h).map V).toArray, .slice sA (S).length sC] rfl rfl (arg2 (K.dep 2 120 rfl) (K.dep 4 122 rfl)) Tryd.enter23 (fk_recover_okL hh (by omega) (hK.below (bl.trans (Below.mono K.grow bl.size))) (Fk.mono _ _ _ _ vS (bl.trans (Below.mono K.grow bl.size))) er1)
        · exact st_move (.tmp 123) rfl (K.dep 5 123 rfl)
        · exact st_ext0 (.tmp 117) rfl (K.dep 6 117 rfl) rfl
        · exact st_ext1 (.tmp 117) rfl (K.dep 6 117 rfl) rfl
        intro f17 w17 A hb
        replace bl0 := bl
        replace x1 := (A.old 1 rfl).trans x1
        replace x2 := (A.old 2 rfl).trans x2
        replace x3 := (A.old 3 rfl).trans x3
        replace x29 := (A.old 29 rfl).trans x29
        replace x4 := (A.old 4 rfl).trans x4
        replace x58 := (A.old 58 rfl).trans x58
        replace x66 := (A.old 66 rfl).trans x66
        replace x99 := (A.old 99 rfl).trans x99
        replace x6 := (A.old 6 rfl).trans x6
        replace x116 := (A.old 116 rfl).trans x116
        have x124 : f17.eval (.tmp 124) = .agg ((y).map V).toArray := A.has 7 124 rfl
        have lt_m1 := Ob.lt m1
        replace m1 := Ob.below m1 hb
        have lt_m3 := Ob.lt m3
        replace m3 := Ob.below m3 hb
        have lt_m6 := Ob.lt m6
        replace m6 := Ob.below m6 hb
        replace bl := (bl.trans (Below.mono hb bl.size))
        replace sz := A.size.trans sz
        replace df := A.defs.trans df
        clear A hb
        refine ⟨_, run_store23 (.tmp 6) (.tmp 124) rfl (g6) (y) (hz) x6 x124 m6 hz_len hy, ?_⟩
        replace m1 : Ob (w17.setRow g6 ((y).map V : List Value).toArray) (g1) 50 ((pb).map V ++ ([.int .i64 ((kd : Nat) : Int), .int .i64 ((ht : Nat) : Int), mv, .int .i64 ((kd : Nat) : Int), .int .i64 ((i : Nat) : Int), .slice sA (S).length sC, .slice pA (P).length pC] : List Value)) := Ob.setRow_other m1 _ nm1_6
        replace m3 : Ob (w17.setRow g6 ((y).map V : List Value).toArray) (g3) 38 ([.int .i64 ((kd : Nat) : Int), .int .i64 ((i : Nat) : Int), .slice sA (S).length sC, .slice pA (P).length pC]) := Ob.setRow_other m3 _ nm3_6
        replace m6 : Ob (w17.setRow g6 ((y).map V : List Value).toArray) (g6) 23 ((y).map V) := Ob.setRow m6 ((y).map V)
        replace bl : Below w.heap.size w (w17.setRow g6 ((y).map V : List Value).toArray) := bl.trans (below_setRow _ _ _ _ hw6)
        generalize w17.setRow g6 ((y).map V : List Value).toArray = w18b at bl m1 m3 m6 ⊢
        refine wpList_nil ?_
        clear x124
        show Code.wp _ _ _ _ _
        refine wp_seq ?_
        -- R15
        refine wp_region_seq [.sl (y), .eq (.agg ((z).map V).toArray), .nw w18b.heap.size 23 ((hz).map V)] (by kernel_rfl) (by kernel_rfl) (by rw [sz]; kernel_rfl) (by kernel_rfl) ⟨fun hw ac u K => ?_, fun hw ac u K => ?_, fun hw ac u K => ?_, trivial⟩ ?_
        · exact st_slice23 (.tmp 6) rfl (g6) 0 (y) ((K.old 6 rfl).trans x6) hy (Ob.lt (Ob.below m6 K.grow)) (HasV.bytes (Ob.below m6 K.grow))
        · exact st_call 24 (.func 24) _ _ #[ac.eval (.tmp 126)] rfl rfl (one_arg rfl) Tryd.enter24 (fk_leaf (by rw [hy]; omega) (hK.below (bl.trans (Below.mono K.grow bl.size))) (K.dep 0 126 rfl) ez)
        · exact st_alloc23 rfl _ K.grow.size
        intro f19 w19 A hb
        replace bl0 := bl
        replace x1 := (A.old 1 rfl).trans x1
        replace x2 := (A.old 2 rfl).trans x2
        replace x3 := (A.old 3 rfl).trans x3
        replace x29 := (A.old 29 rfl).trans x29
        replace x4 := (A.old 4 rfl).trans x4
        replace x58 := (A.old 58 rfl).trans x58
        replace x66 := (A.old 66 rfl).trans x66
        replace x99 := (A.old 99 rfl).trans x99
        replace x6 := (A.old 6 rfl).trans x6
        replace x116 := (A.old 116 rfl).trans x116
        have x8 : Fk.f (.nw w18b.heap.size 23 ((hz).map V)) (f19.eval (.tmp 8)) w19 := A.has 2 8 rfl
        have x127 : f19.eval (.tmp 127) = .agg ((z).map V).toArray := A.has 1 127 rfl
        have lt_m1 := Ob.lt m1
        replace m1 := Ob.below m1 hb
        have lt_m3 := Ob.lt m3
        replace m3 := Ob.below m3 hb
        have lt_m6 := Ob.lt m6
        replace m6 := Ob.below m6 hb
        replace bl := (bl.trans (Below.mono hb bl.size))
        replace sz := A.size.trans sz
        replace df := A.defs.trans df
        clear A hb
        obtain ⟨g8, hg8, e8, m8⟩ := x8
        have x8 := e8
        clear e8
        have nm1_8 : g1 ≠ g8 := Nat.ne_of_lt (Nat.lt_of_lt_of_le lt_m1 hg8)
        have nm3_8 : g3 ≠ g8 := Nat.ne_of_lt (Nat.lt_of_lt_of_le lt_m3 hg8)
        have nm6_8 : g6 ≠ g8 := Nat.ne_of_lt (Nat.lt_of_lt_of_le lt_m6 hg8)
        have hw8 : w.heap.size ≤ g8 := Nat.le_trans bl0.size hg8
        refine wl_store rfl (.tmp 8) (.tmp 127) rfl rfl (g8) (z) (hz) x8 x127 m8 hz_len hz1 ?_
        replace m1 : Ob (w19.setRow g8 ((z).map V : List Value).toArray) (g1) 50 ((pb).map V ++ ([.int .i64 ((kd : Nat) : Int), .int .i64 ((ht : Nat) : Int), mv, .int .i64 ((kd : Nat) : Int), .int .i64 ((i : Nat) : Int), .slice sA (S).length sC, .slice pA (P).length pC] : List Value)) := Ob.setRow_other m1 _ nm1_8
        replace m3 : Ob (w19.setRow g8 ((z).map V : List Value).toArray) (g3) 38 ([.int .i64 ((kd : Nat) : Int), .int .i64 ((i : Nat) : Int), .slice sA (S).length sC, .slice pA (P).length pC]) := Ob.setRow_other m3 _ nm3_8
        replace m6 : Ob (w19.setRow g8 ((z).map V : List Value).toArray) (g6) 23 ((y).map V) := Ob.setRow_other m6 _ nm6_8
        replace m8 : Ob (w19.setRow g8 ((z).map V : List Value).toArray) (g8) 23 ((z).map V) := Ob.setRow m8 ((z).map V)
        replace bl : Below w.heap.size w (w19.setRow g8 ((z).map V : List Value).toArray) := bl.trans (below_setRow _ _ _ _ hw8)
        generalize w19.setRow g8 ((z).map V : List Value).toArray = w20b at bl m1 m3 m6 m8 ⊢
        refine wpList_nil ?_
        clear x127
        show Code.wp _ _ _ _ _
        refine wp_seq ?_
        refine wp_seq ?_
        obtain ⟨B, eBs⟩ : ∃ B, Box (sds i ht = B) := ⟨_, ⟨rfl⟩⟩
        have hBl : B.length = ht := by rw [← eBs.out, sds_len]
        -- R16
        refine wp_all_seq [.eq (.pointer (some ⟨g3, 1, none⟩)), .eq (.int .i64 ((i : Nat) : Int)), .eq (.pointer (some ⟨g1, 33, none⟩)), .eq (.int .i64 ((ht : Nat) : Int)), .bn w20b.heap.size (B), .eq (.int .i64 ((B.length : Nat) : Int)), .eq (.int .i64 0)] (by kernel_rfl) (by kernel_rfl) (by rw [sz]; kernel_rfl) (by kernel_rfl) ⟨fun hw ac u K => ?_, fun hw ac u K => ?_, fun hw ac u K => ?_, fun hw ac u K => ?_, fun hw ac u K => ?_, fun hw ac u K => ?_, fun hw ac u K => ?_, trivial⟩ ?_
        · exact st_field 38 1 (.tmp 3) rfl ((K.old 3 rfl).trans x3) (by kernel_rfl)
        · exact st_loadc 3 (.tmp 128) rfl (by kernel_rfl) (K.dep 0 128 rfl) (Ob.cell (Ob.below m3 K.grow) 1 rfl)
        · exact st_field 50 2 (.tmp 1) rfl ((K.old 1 rfl).trans x1) (by kernel_rfl)
        · exact st_loadc 3 (.tmp 130) rfl (by kernel_rfl) (K.dep 2 130 rfl) (Ob.cell (Ob.below m1 K.grow) 33 ((at_head hpb 1 _).trans rfl))
        · exact st_call 25 (.func 25) _ _ #[.int .i64 ((i : Nat) : Int), .int .i64 ((ht : Nat) : Int)] rfl rfl (arg2 (K.dep 1 129 rfl) (K.dep 3 131 rfl)) Tryd.enter25 (by have h := fk_bn K.grow.size (sides_any i ht hi3 (by omega) _); rw [eBs.out] at h; exact h)
        · exact st_lenbn (.tmp 132) rfl (K.dep 4 132 rfl)
        · exact st_move (.const (.int .i64 0)) rfl rfl
        intro f21 w21 A hb
        replace bl0 := bl
        replace x1 := (A.old 1 rfl).trans x1
        replace x2 := (A.old 2 rfl).trans x2
        replace x3 := (A.old 3 rfl).trans x3
        replace x29 := (A.old 29 rfl).trans x29
        replace x4 := (A.old 4 rfl).trans x4
        replace x58 := (A.old 58 rfl).trans x58
        replace x66 := (A.old 66 rfl).trans x66
        replace x99 := (A.old 99 rfl).trans x99
        replace x6 := (A.old 6 rfl).trans x6
        replace x116 := (A.old 116 rfl).trans x116
        replace x8 := (A.old 8 rfl).trans x8
        have x132 : Fk.f (.bn w20b.heap.size (B)) (f21.eval (.tmp 132)) w21 := A.has 4 132 rfl
        have x133 : f21.eval (.tmp 133) = .int .i64 ((B.length : Nat) : Int) := A.has 5 133 rfl
        have x134 : f21.eval (.tmp 134) = .int .i64 0 := A.has 6 134 rfl
        have lt_m1 := Ob.lt m1
        replace m1 := Ob.below m1 hb
        have lt_m3 := Ob.lt m3
        replace m3 := Ob.below m3 hb
        have lt_m6 := Ob.lt m6
        replace m6 := Ob.below m6 hb
        have lt_m8 := Ob.lt m8
        replace m8 := Ob.below m8 hb
        replace bl := (bl.trans (Below.mono hb bl.size))
        replace sz := A.size.trans sz
        replace df := A.defs.trans df
        clear A hb
        obtain ⟨bA, bC, bb, bo, e132, hgb, qB⟩ := x132
        have x132 : Fk.f (.eq (.slice bA (B).length bC)) (f21.eval (.tmp 132)) w21 := e132
        clear e132
        have nB8 : 0 < B.length → bb ≠ g8 := fun h => Nat.ne_of_gt (Nat.lt_of_lt_of_le lt_m8 (hgb h))
        show Code.wp _ _ _ _ _
        refine wp_block ?_
        refine wp_loop (fun f v1 => ∃ k : Nat, k ≤ ht ∧ f.tmps.size = 165 ∧ f.defers = [] ∧ f.eval (.tmp 1) = .pointer (some ⟨g1, 0, none⟩) ∧ f.eval (.tmp 2) = .bool false ∧ f.eval (.tmp 3) = .pointer (some ⟨g3, 0, none⟩) ∧ f.eval (.tmp 29) = .bool false ∧ f.eval (.tmp 4) = .int .i64 (vr) ∧ f.eval (.tmp 58) = .bool false ∧ f.eval (.tmp 66) = .bool true ∧ f.eval (.tmp 99) = .bool false ∧ f.eval (.tmp 6) = .pointer (some ⟨g6, 0, none⟩) ∧ f.eval (.tmp 116) = .bool true ∧ f.eval (.tmp 8) = .pointer (some ⟨g8, 0, none⟩) ∧ f.eval (.tmp 132) = .slice bA (B).length bC ∧ f.eval (.tmp 133) = .int .i64 ((B.length : Nat) : Int) ∧ f.eval (.tmp 134) = .int .i64 ((k : Nat) : Int) ∧ Ob v1 (g1) 50 ((pb).map V ++ ([.int .i64 ((kd : Nat) : Int), .int .i64 ((ht : Nat) : Int), mv, .int .i64 ((kd : Nat) : Int), .int .i64 ((i : Nat) : Int), .slice sA (S).length sC, .slice pA (P).length pC] : List Value)) ∧ Ob v1 (g3) 38 ([.int .i64 ((kd : Nat) : Int), .int .i64 ((i : Nat) : Int), .slice sA (S).length sC, .slice pA (P).length pC]) ∧ Ob v1 (g6) 23 ((y).map V) ∧ Ob v1 (g8) 23 ((up i P z k).map V) ∧ Bl v1 bA bb bo B ∧ Below w.heap.size w (v1)) (fun f _ => ht - (intOf (f.eval (.tmp 134))).toNat) ⟨0, Nat.zero_le _, sz, df, x1, x2, x3, x29, x4, x58, x66, x99, x6, x116, x8, x132, x133, x134, m1, m3, m6, m8, qB, bl⟩ ?_
        intro f22 w22 hI
        clear sz df bl bl0 x1 x2 x3 x29 x4 x58 x66 x99 x6 x116 x8 x132 x133 x134 m1 m3 m6 m8 qB
        obtain ⟨k, hk, sz, df, x1, x2, x3, x29, x4, x58, x66, x99, x6, x116, x8, x132, x133, x134, m1, m3, m6, m8, qB, bl⟩ := hI
        have bl0 := bl
        have hcnt := x134
        obtain ⟨un, eu⟩ : ∃ u, Box (up i P z k = u) := ⟨_, ⟨rfl⟩⟩
        have hul : un.length = 32 := by rw [← eu.out]; exact up_len _ _ _ hz1 _
        rw [eu.out] at m8
        refine wp_seq ?_
        by_cases hlt : k < ht
        rotate_left
        · skip
          obtain rfl : k = ht := by omega
          -- R17
          refine wp_all_seq [.eq (.bool false)] (by kernel_rfl) (by kernel_rfl) (by rw [sz]; kernel_rfl) (by kernel_rfl) ⟨fun hw ac u K => ?_, trivial⟩ ?_
          · exact st_lss 3 (.tmp 134) (.tmp 133) rfl .i64 (((k : Nat) : Int)) (((B.length : Nat) : Int)) ((K.old 134 rfl).trans x134) ((K.old 133 rfl).trans x133) _ (by first | (simp; done) | (simp; omega))
          intro f23 w23 A hb
          replace bl0 := bl
          replace x1 := (A.old 1 rfl).trans x1
          replace x2 := (A.old 2 rfl).trans x2
          replace x3 := (A.old 3 rfl).trans x3
          replace x29 := (A.old 29 rfl).trans x29
          replace x4 := (A.old 4 rfl).trans x4
          replace x58 := (A.old 58 rfl).trans x58
          replace x66 := (A.old 66 rfl).trans x66
          replace x99 := (A.old 99 rfl).trans x99
          replace x6 := (A.old 6 rfl).trans x6
          replace x116 := (A.old 116 rfl).trans x116
          replace x8 := (A.old 8 rfl).trans x8
          replace x132 := (A.old 132 rfl).trans x132
          replace x133 := (A.old 133 rfl).trans x133
          replace x134 := (A.old 134 rfl).trans x134
          have x135 : f23.eval (.tmp 135) = .bool false := A.has 0 135 rfl
          have lt_m1 := Ob.lt m1
          replace m1 := Ob.below m1 hb
          have lt_m3 := Ob.lt m3
          replace m3 := Ob.below m3 hb
          have lt_m6 := Ob.lt m6
          replace m6 := Ob.below m6 hb
          have lt_m8 := Ob.lt m8
          replace m8 := Ob.below m8 hb
          replace qB := Bl.below qB hb
          replace bl := (bl.trans (Below.mono hb bl.size))
          replace sz := A.size.trans sz
          replace df := A.defs.trans df
          clear A hb
          show Code.wp _ _ _ _ _
          refine wp_seq ?_
          refine wp_cond_false x135 ?_
          refine wp_exit ?_
          show Code.wp _ _ _ _ _
          refine wp_seq ?_
          -- R23
          refine wp_all_seq [.eq (.int .i64 0)] (by kernel_rfl) (by kernel_rfl) (by rw [sz]; kernel_rfl) (by kernel_rfl) ⟨fun hw ac u K => ?_, trivial⟩ ?_
          · exact st_assign (.const (.int .i64 0)) rfl rfl
          intro f24 w24 A hb
          replace bl0 := bl
          replace x1 := (A.old 1 rfl).trans x1
          replace x2 := (A.old 2 rfl).trans x2
          replace x3 := (A.old 3 rfl).trans x3
          replace x29 := (A.old 29 rfl).trans x29
          replace x4 := (A.old 4 rfl).trans x4
          replace x58 := (A.old 58 rfl).trans x58
          replace x66 := (A.old 66 rfl).trans x66
          replace x99 := (A.old 99 rfl).trans x99
          replace x6 := (A.old 6 rfl).trans x6
          replace x116 := (A.old 116 rfl).trans x116
          replace x8 := (A.old 8 rfl).trans x8
          replace x132 := (A.old 132 rfl).trans x132
          replace x133 := (A.old 133 rfl).trans x133
          replace x134 := (A.old 134 rfl).trans x134
          replace x135 := (A.old 135 rfl).trans x135
          have x11 : f24.eval (.tmp 11) = .int .i64 0 := A.has 0 11 rfl
          have lt_m1 := Ob.lt m1
          replace m1 := Ob.below m1 hb
          have lt_m3 := Ob.lt m3
          replace m3 := Ob.below m3 hb
          have lt_m6 := Ob.lt m6
          replace m6 := Ob.below m6 hb
          have lt_m8 := Ob.lt m8
          replace m8 := Ob.below m8 hb
          replace qB := Bl.below qB hb
          replace bl := (bl.trans (Below.mono hb bl.size))
          replace sz := A.size.trans sz
          replace df := A.defs.trans df
          clear A hb
          show Code.wp _ _ _ _ _
          refine wp_seq ?_
          refine wp_seq ?_
          by_cases hup : up i P z P.length = pb
          rotate_left
          · skip
            rw [if_neg hup] at hvr
            rw [hP] at hup
            -- R24
            refine wp_all_seq [.eq (.agg ((un).map V).toArray), .eq (.pointer (some ⟨g1, 0, none⟩)), .eq (.agg ((pb).map V).toArray), .eq (.bool true)] (by kernel_rfl) (by kernel_rfl) (by rw [sz]; kernel_rfl) (by kernel_rfl) ⟨fun hw ac u K => ?_, fun hw ac u K => ?_, fun hw ac u K => ?_, fun hw ac u K => ?_, trivial⟩ ?_
            · exact st_load23 (.tmp 8) rfl (g8) (un) ((K.old 8 rfl).trans x8) hul (Ob.below m8 K.grow)
            · exact st_field 50 0 (.tmp 1) rfl ((K.old 1 rfl).trans x1) (by kernel_rfl)
            · exact st_loadhd (.tmp 156) rfl (g1) (pb) (K.dep 1 156 rfl) hpb (Ob.below m1 K.grow)
            · exact st_neqh (.tmp 155) (.tmp 157) rfl (un) (pb) hul hpb (K.dep 0 155 rfl) (K.dep 2 157 rfl) _ (by rw [← eu.out]; simp [hup])
            intro f25 w25 A hb
            replace bl0 := bl
            replace x1 := (A.old 1 rfl).trans x1
            replace x2 := (A.old 2 rfl).trans x2
            replace x3 := (A.old 3 rfl).trans x3
            replace x29 := (A.old 29 rfl).trans x29
            replace x4 := (A.old 4 rfl).trans x4
            replace x58 := (A.old 58 rfl).trans x58
            replace x66 := (A.old 66 rfl).trans x66
            replace x99 := (A.old 99 rfl).trans x99
            replace x6 := (A.old 6 rfl).trans x6
            replace x116 := (A.old 116 rfl).trans x116
            replace x8 := (A.old 8 rfl).trans x8
            replace x132 := (A.old 132 rfl).trans x132
            replace x133 := (A.old 133 rfl).trans x133
            replace x134 := (A.old 134 rfl).trans x134
            replace x135 := (A.old 135 rfl).trans x135
            replace x11 := (A.old 11 rfl).trans x11
            have x158 : f25.eval (.tmp 158) = .bool true := A.has 3 158 rfl
            have lt_m1 := Ob.lt m1
            replace m1 := Ob.below m1 hb
            have lt_m3 := Ob.lt m3
            replace m3 := Ob.below m3 hb
            have lt_m6 := Ob.lt m6
            replace m6 := Ob.below m6 hb
            have lt_m8 := Ob.lt m8
            replace m8 := Ob.below m8 hb
            replace qB := Bl.below qB hb
            replace bl := (bl.trans (Below.mono hb bl.size))
            replace sz := A.size.trans sz
            replace df := A.defs.trans df
            clear A hb
            show Code.wp _ _ _ _ _
            refine wp_cond_true x158 ?_
            -- R25
            refine wp_all_seq [.eq (.int .i64 21)] (by kernel_rfl) (by kernel_rfl) (by rw [sz]; kernel_rfl) (by kernel_rfl) ⟨fun hw ac u K => ?_, trivial⟩ ?_
            · exact st_assign (.const (.int .i64 21)) rfl rfl
            intro f26 w26 A hb
            replace bl0 := bl
            replace x1 := (A.old 1 rfl).trans x1
            replace x2 := (A.old 2 rfl).trans x2
            replace x3 := (A.old 3 rfl).trans x3
            replace x29 := (A.old 29 rfl).trans x29
            replace x4 := (A.old 4 rfl).trans x4
            replace x58 := (A.old 58 rfl).trans x58
            replace x66 := (A.old 66 rfl).trans x66
            replace x99 := (A.old 99 rfl).trans x99
            replace x6 := (A.old 6 rfl).trans x6
            replace x116 := (A.old 116 rfl).trans x116
            replace x8 := (A.old 8 rfl).trans x8
            replace x132 := (A.old 132 rfl).trans x132
            replace x133 := (A.old 133 rfl).trans x133
            replace x134 := (A.old 134 rfl).trans x134
            replace x135 := (A.old 135 rfl).trans x135
            clear x11
            replace x158 := (A.old 158 rfl).trans x158
            have x11 : f26.eval (.tmp 11) = .int .i64 21 := A.has 0 11 rfl
            have lt_m1 := Ob.lt m1
            replace m1 := Ob.below m1 hb
            have lt_m3 := Ob.lt m3
            replace m3 := Ob.below m3 hb
            have lt_m6 := Ob.lt m6
            replace m6 := Ob.below m6 hb
            have lt_m8 := Ob.lt m8
            replace m8 := Ob.below m8 hb
            replace qB := Bl.below qB hb
            replace bl := (bl.trans (Below.mono hb bl.size))
            replace sz := A.size.trans sz
            replace df := A.defs.trans df
            clear A hb
            show Code.wp _ _ _ _ _
            refine wp_seq ?_
            -- R26
            refine wp_all_seq [.eq (.int .i64 (vr)), .eq (.int .i64 21), .eq (.bool true), .eq (.bool true), .eq (.bool true), .eq (.bool true), .eq (.bool true)] (by kernel_rfl) (by kernel_rfl) (by rw [sz]; kernel_rfl) (by kernel_rfl) ⟨fun hw ac u K => ?_, fun hw ac u K => ?_, fun hw ac u K => ?_, fun hw ac u K => ?_, fun hw ac u K => ?_, fun hw ac u K => ?_, fun hw ac u K => ?_, trivial⟩ ?_
            · exact st_move (.tmp 4) rfl ((K.old 4 rfl).trans x4)
            · exact st_move (.tmp 11) rfl ((K.old 11 rfl).trans x11)
            · exact st_eqi 29 (.tmp 159) (.tmp 160) rfl .i64 ((vr)) (21) (K.dep 0 159 rfl) (K.dep 1 160 rfl) _ (by simp [hvr])
            · exact st_move (.tmp 161) rfl (K.dep 2 161 rfl)
            · exact st_call 8 (.func 8) _ _ #[] rfl rfl rfl Tryd.enter8 (fk_of (awake_any _ (hK.below (bl.trans (Below.mono K.grow bl.size)))))
            · exact st_pick_t (.tmp 162) (.tmp 163) (.const (.bool false)) rfl (K.dep 3 162 rfl) (K.dep 4 163 rfl)
            · exact st_assign (.tmp 164) rfl (K.dep 5 164 rfl)
            intro f27 w27 A hb
            replace bl0 := bl
            replace x1 := (A.old 1 rfl).trans x1
            clear x2
            replace x3 := (A.old 3 rfl).trans x3
            replace x29 := (A.old 29 rfl).trans x29
            replace x4 := (A.old 4 rfl).trans x4
            replace x58 := (A.old 58 rfl).trans x58
            replace x66 := (A.old 66 rfl).trans x66
            replace x99 := (A.old 99 rfl).trans x99
            replace x6 := (A.old 6 rfl).trans x6
            replace x116 := (A.old 116 rfl).trans x116
            replace x8 := (A.old 8 rfl).trans x8
            replace x132 := (A.old 132 rfl).trans x132
            replace x133 := (A.old 133 rfl).trans x133
            replace x134 := (A.old 134 rfl).trans x134
            replace x135 := (A.old 135 rfl).trans x135
            replace x158 := (A.old 158 rfl).trans x158
            replace x11 := (A.old 11 rfl).trans x11
            have x2 : f27.eval (.tmp 2) = .bool true := A.has 6 2 rfl
            have lt_m1 := Ob.lt m1
            replace m1 := Ob.below m1 hb
            have lt_m3 := Ob.lt m3
            replace m3 := Ob.below m3 hb
            have lt_m6 := Ob.lt m6
            replace m6 := Ob.below m6 hb
            have lt_m8 := Ob.lt m8
            replace m8 := Ob.below m8 hb
            replace qB := Bl.below qB hb
            replace bl := (bl.trans (Below.mono hb bl.size))
            replace sz := A.size.trans sz
            replace df := A.defs.trans df
            clear A hb
            clear x11
            show Code.wp _ _ _ _ _
            refine wp_ret ?_
            repeat (first | with_reducible refine then_ret ?_ | with_reducible refine block_ret ?_)
            exact bodyPost_ret (v := .bool true) (ret_slot rfl f27 _ x2 _ _) df ⟨rfl, bl⟩
          rw [if_pos hup] at hvr
          rw [hP] at hup
          -- R24
          refine wp_all_seq [.eq (.agg ((un).map V).toArray), .eq (.pointer (some ⟨g1, 0, none⟩)), .eq (.agg ((pb).map V).toArray), .eq (.bool false)] (by kernel_rfl) (by kernel_rfl) (by rw [sz]; kernel_rfl) (by kernel_rfl) ⟨fun hw ac u K => ?_, fun hw ac u K => ?_, fun hw ac u K => ?_, fun hw ac u K => ?_, trivial⟩ ?_
          · exact st_load23 (.tmp 8) rfl (g8) (un) ((K.old 8 rfl).trans x8) hul (Ob.below m8 K.grow)
          · exact st_field 50 0 (.tmp 1) rfl ((K.old 1 rfl).trans x1) (by kernel_rfl)
          · exact st_loadhd (.tmp 156) rfl (g1) (pb) (K.dep 1 156 rfl) hpb (Ob.below m1 K.grow)
          · exact st_neqh (.tmp 155) (.tmp 157) rfl (un) (pb) hul hpb (K.dep 0 155 rfl) (K.dep 2 157 rfl) _ (by rw [← eu.out]; simp [hup])
          intro f25 w25 A hb
          replace bl0 := bl
          replace x1 := (A.old 1 rfl).trans x1
          replace x2 := (A.old 2 rfl).trans x2
          replace x3 := (A.old 3 rfl).trans x3
          replace x29 := (A.old 29 rfl).trans x29
          replace x4 := (A.old 4 rfl).trans x4
          replace x58 := (A.old 58 rfl).trans x58
          replace x66 := (A.old 66 rfl).trans x66
          replace x99 := (A.old 99 rfl).trans x99
          replace x6 := (A.old 6 rfl).trans x6
          replace x116 := (A.old 116 rfl).trans x116
          replace x8 := (A.old 8 rfl).trans x8
          replace x132 := (A.old 132 rfl).trans x132
          replace x133 := (A.old 133 rfl).trans x133
          replace x134 := (A.old 134 rfl).trans x134
          replace x135 := (A.old 135 rfl).trans x135
          replace x11 := (A.old 11 rfl).trans x11
          have x158 : f25.eval (.tmp 158) = .bool false := A.has 3 158 rfl
          have lt_m1 := Ob.lt m1
          replace m1 := Ob.below m1 hb
          have lt_m3 := Ob.lt m3
          replace m3 := Ob.below m3 hb
          have lt_m6 := Ob.lt m6
          replace m6 := Ob.below m6 hb
          have lt_m8 := Ob.lt m8
          replace m8 := Ob.below m8 hb
          replace qB := Bl.below qB hb
          replace bl := (bl.trans (Below.mono hb bl.size))
          replace sz := A.size.trans sz
          replace df := A.defs.trans df
          clear A hb
          show Code.wp _ _ _ _ _
          refine wp_cond_false x158 ?_
          refine wp_skip ?_
          show Code.wp _ _ _ _ _
          refine wp_seq ?_
          -- R26
          refine wp_all_seq [.eq (.int .i64 (vr)), .eq (.int .i64 0), .eq (.bool true), .eq (.bool true), .eq (.bool true), .eq (.bool true), .eq (.bool true)] (by kernel_rfl) (by kernel_rfl) (by rw [sz]; kernel_rfl) (by kernel_rfl) ⟨fun hw ac u K => ?_, fun hw ac u K => ?_, fun hw ac u K => ?_, fun hw ac u K => ?_, fun hw ac u K => ?_, fun hw ac u K => ?_, fun hw ac u K => ?_, trivial⟩ ?_
          · exact st_move (.tmp 4) rfl ((K.old 4 rfl).trans x4)
          · exact st_move (.tmp 11) rfl ((K.old 11 rfl).trans x11)
          · exact st_eqi 29 (.tmp 159) (.tmp 160) rfl .i64 ((vr)) (0) (K.dep 0 159 rfl) (K.dep 1 160 rfl) _ (by simp [hvr])
          · exact st_move (.tmp 161) rfl (K.dep 2 161 rfl)
          · exact st_call 8 (.func 8) _ _ #[] rfl rfl rfl Tryd.enter8 (fk_of (awake_any _ (hK.below (bl.trans (Below.mono K.grow bl.size)))))
          · exact st_pick_t (.tmp 162) (.tmp 163) (.const (.bool false)) rfl (K.dep 3 162 rfl) (K.dep 4 163 rfl)
          · exact st_assign (.tmp 164) rfl (K.dep 5 164 rfl)
          intro f26 w26 A hb
          replace bl0 := bl
          replace x1 := (A.old 1 rfl).trans x1
          clear x2
          replace x3 := (A.old 3 rfl).trans x3
          replace x29 := (A.old 29 rfl).trans x29
          replace x4 := (A.old 4 rfl).trans x4
          replace x58 := (A.old 58 rfl).trans x58
          replace x66 := (A.old 66 rfl).trans x66
          replace x99 := (A.old 99 rfl).trans x99
          replace x6 := (A.old 6 rfl).trans x6
          replace x116 := (A.old 116 rfl).trans x116
          replace x8 := (A.old 8 rfl).trans x8
          replace x132 := (A.old 132 rfl).trans x132
          replace x133 := (A.old 133 rfl).trans x133
          replace x134 := (A.old 134 rfl).trans x134
          replace x135 := (A.old 135 rfl).trans x135
          replace x11 := (A.old 11 rfl).trans x11
          replace x158 := (A.old 158 rfl).trans x158
          have x2 : f26.eval (.tmp 2) = .bool true := A.has 6 2 rfl
          have lt_m1 := Ob.lt m1
          replace m1 := Ob.below m1 hb
          have lt_m3 := Ob.lt m3
          replace m3 := Ob.below m3 hb
          have lt_m6 := Ob.lt m6
          replace m6 := Ob.below m6 hb
          have lt_m8 := Ob.lt m8
          replace m8 := Ob.below m8 hb
          replace qB := Bl.below qB hb
          replace bl := (bl.trans (Below.mono hb bl.size))
          replace sz := A.size.trans sz
          replace df := A.defs.trans df
          clear A hb
          clear x11
          show Code.wp _ _ _ _ _
          refine wp_ret ?_
          repeat (first | with_reducible refine then_ret ?_ | with_reducible refine block_ret ?_)
          exact bodyPost_ret (v := .bool true) (ret_slot rfl f26 _ x2 _ _) df ⟨rfl, bl⟩
        obtain ⟨p, hpk⟩ : ∃ p, P[k]? = some p := ⟨_, List.getElem?_eq_getElem (by omega)⟩
        have hp : p.length = 32 := hs_len vP hpk
        have hpg : P.getD k [] = p := by rw [List.getD_eq_getElem?_getD, hpk]; rfl
        have nb8 := nB8 (by omega)
        -- R17
        refine wp_all_seq [.eq (.bool true)] (by kernel_rfl) (by kernel_rfl) (by rw [sz]; kernel_rfl) (by kernel_rfl) ⟨fun hw ac u K => ?_, trivial⟩ ?_
        · exact st_lss 3 (.tmp 134) (.tmp 133) rfl .i64 (((k : Nat) : Int)) (((B.length : Nat) : Int)) ((K.old 134 rfl).trans x134) ((K.old 133 rfl).trans x133) _ (by first | (simp; done) | (simp; omega))
        intro f23 w23 A hb
        replace bl0 := bl
        replace x1 := (A.old 1 rfl).trans x1
        replace x2 := (A.old 2 rfl).trans x2
        replace x3 := (A.old 3 rfl).trans x3
        replace x29 := (A.old 29 rfl).trans x29
        replace x4 := (A.old 4 rfl).trans x4
        replace x58 := (A.old 58 rfl).trans x58
        replace x66 := (A.old 66 rfl).trans x66
        replace x99 := (A.old 99 rfl).trans x99
        replace x6 := (A.old 6 rfl).trans x6
        replace x116 := (A.old 116 rfl).trans x116
        replace x8 := (A.old 8 rfl).trans x8
        replace x132 := (A.old 132 rfl).trans x132
        replace x133 := (A.old 133 rfl).trans x133
        replace x134 := (A.old 134 rfl).trans x134
        have x135 : f23.eval (.tmp 135) = .bool true := A.has 0 135 rfl
        have lt_m1 := Ob.lt m1
        replace m1 := Ob.below m1 hb
        have lt_m3 := Ob.lt m3
        replace m3 := Ob.below m3 hb
        have lt_m6 := Ob.lt m6
        replace m6 := Ob.below m6 hb
        have lt_m8 := Ob.lt m8
        replace m8 := Ob.below m8 hb
        replace qB := Bl.below qB hb
        replace bl := (bl.trans (Below.mono hb bl.size))
        replace sz := A.size.trans sz
        replace df := A.defs.trans df
        clear A hb
        show Code.wp _ _ _ _ _
        refine wp_seq ?_
        refine wp_cond_true x135 ?_
        refine wp_skip ?_
        show Code.wp _ _ _ _ _
        refine wp_seq ?_
        refine wp_block ?_
        refine wp_seq ?_
        by_cases hev : i / 2 ^ k % 2 = 0
        rotate_left
        · skip
          have hBk : B[k]? = some true := by rw [← eBs.out, sds_at _ _ _ hlt]; simp; omega
          obtain ⟨u2, eu2⟩ : ∃ q, Box (nd p un = q) := ⟨_, ⟨rfl⟩⟩
          have hu2 : u2.length = 32 := by rw [← eu2.out]; exact nd_len _ _
          have eup : up i P z (k + 1) = u2 := by rw [up_odd hev, eu.out, hpg, eu2.out]
          -- R18
          refine wp_all_seq [.eq (.int .i64 ((k : Nat) : Int)), .pv (.bool true), .eq (.bool true), .eq (.int .i64 ((k : Nat) : Int)), .eq (.bool true)] (by kernel_rfl) (by kernel_rfl) (by rw [sz]; kernel_rfl) (by kernel_rfl) ⟨fun hw ac u K => ?_, fun hw ac u K => ?_, fun hw ac u K => ?_, fun hw ac u K => ?_, fun hw ac u K => ?_, trivial⟩ ?_
          · exact st_move (.tmp 134) rfl ((K.old 134 rfl).trans x134)
          · exact st_idxbl (.tmp 132) (.tmp 134) rfl (Bl.below qB K.grow) ((K.old 132 rfl).trans x132) k true ((K.old 134 rfl).trans x134) hBk
          · exact st_loadbl (.tmp 137) rfl (K.dep 1 137 rfl)
          · exact st_assign (.tmp 136) rfl (K.dep 0 136 rfl)
          · exact st_assign (.tmp 138) rfl (K.dep 2 138 rfl)
          intro f24 w24 A hb
          replace bl0 := bl
          replace x1 := (A.old 1 rfl).trans x1
          replace x2 := (A.old 2 rfl).trans x2
          replace x3 := (A.old 3 rfl).trans x3
          replace x29 := (A.old 29 rfl).trans x29
          replace x4 := (A.old 4 rfl).trans x4
          replace x58 := (A.old 58 rfl).trans x58
          replace x66 := (A.old 66 rfl).trans x66
          replace x99 := (A.old 99 rfl).trans x99
          replace x6 := (A.old 6 rfl).trans x6
          replace x116 := (A.old 116 rfl).trans x116
          replace x8 := (A.old 8 rfl).trans x8
          replace x132 := (A.old 132 rfl).trans x132
          replace x133 := (A.old 133 rfl).trans x133
          replace x134 := (A.old 134 rfl).trans x134
          replace x135 := (A.old 135 rfl).trans x135
          have x9 : f24.eval (.tmp 9) = .int .i64 ((k : Nat) : Int) := A.has 3 9 rfl
          have x10 : f24.eval (.tmp 10) = .bool true := A.has 4 10 rfl
          have lt_m1 := Ob.lt m1
          replace m1 := Ob.below m1 hb
          have lt_m3 := Ob.lt m3
          replace m3 := Ob.below m3 hb
          have lt_m6 := Ob.lt m6
          replace m6 := Ob.below m6 hb
          have lt_m8 := Ob.lt m8
          replace m8 := Ob.below m8 hb
          replace qB := Bl.below qB hb
          replace bl := (bl.trans (Below.mono hb bl.size))
          replace sz := A.size.trans sz
          replace df := A.defs.trans df
          clear A hb
          show Code.wp _ _ _ _ _
          refine wp_seq ?_
          -- R19
          refine wp_all_seq [.eq (.bool true)] (by kernel_rfl) (by kernel_rfl) (by rw [sz]; kernel_rfl) (by kernel_rfl) ⟨fun hw ac u K => ?_, trivial⟩ ?_
          · exact st_move (.tmp 10) rfl ((K.old 10 rfl).trans x10)
          intro f25 w25 A hb
          replace bl0 := bl
          replace x1 := (A.old 1 rfl).trans x1
          replace x2 := (A.old 2 rfl).trans x2
          replace x3 := (A.old 3 rfl).trans x3
          replace x29 := (A.old 29 rfl).trans x29
          replace x4 := (A.old 4 rfl).trans x4
          replace x58 := (A.old 58 rfl).trans x58
          replace x66 := (A.old 66 rfl).trans x66
          replace x99 := (A.old 99 rfl).trans x99
          replace x6 := (A.old 6 rfl).trans x6
          replace x116 := (A.old 116 rfl).trans x116
          replace x8 := (A.old 8 rfl).trans x8
          replace x132 := (A.old 132 rfl).trans x132
          replace x133 := (A.old 133 rfl).trans x133
          replace x134 := (A.old 134 rfl).trans x134
          replace x135 := (A.old 135 rfl).trans x135
          replace x9 := (A.old 9 rfl).trans x9
          replace x10 := (A.old 10 rfl).trans x10
          have x139 : f25.eval (.tmp 139) = .bool true := A.has 0 139 rfl
          have lt_m1 := Ob.lt m1
          replace m1 := Ob.below m1 hb
          have lt_m3 := Ob.lt m3
          replace m3 := Ob.below m3 hb
          have lt_m6 := Ob.lt m6
          replace m6 := Ob.below m6 hb
          have lt_m8 := Ob.lt m8
          replace m8 := Ob.below m8 hb
          replace qB := Bl.below qB hb
          replace bl := (bl.trans (Below.mono hb bl.size))
          replace sz := A.size.trans sz
          replace df := A.defs.trans df
          clear A hb
          clear x10
          show Code.wp _ _ _ _ _
          refine wp_cond_true x139 ?_
          -- R20
          refine wp_region_tail [.eq (.pointer (some ⟨g3, 3, none⟩)), .eq (.slice pA (P).length pC), .eq (.int .i64 ((k : Nat) : Int)), .ph (p), .eq (.agg ((p).map V).toArray), .eq (.agg ((un).map V).toArray), .eq (.agg ((u2).map V).toArray)] [7] Tryd.mixed (by kernel_rfl) (by kernel_rfl) (by kernel_rfl) (by kernel_rfl) (by rw [sz]; kernel_rfl) (by kernel_rfl) ⟨fun hw ac u K => ?_, fun hw ac u K => ?_, fun hw ac u K => ?_, fun hw ac u K => ?_, fun hw ac u K => ?_, fun hw ac u K => ?_, fun hw ac u K => ?_, trivial⟩ ?_
          · exact st_field 38 3 (.tmp 3) rfl ((K.old 3 rfl).trans x3) (by kernel_rfl)
          · exact st_loadc 32 (.tmp 140) rfl (by kernel_rfl) (K.dep 0 140 rfl) (Ob.cell (Ob.below m3 K.grow) 3 rfl)
          · exact st_move (.tmp 9) rfl ((K.old 9 rfl).trans x9)
          · exact st_idxh (.tmp 141) (.tmp 142) rfl (fk_val (K.dep 1 141 rfl) (Fk.mono _ _ _ _ vP (bl.trans (Below.mono K.grow bl.size)))) (k) (p) (K.dep 2 142 rfl) hpk
          · exact st_loadh (.tmp 143) rfl (K.dep 3 143 rfl)
          · exact st_load23 (.tmp 8) rfl (g8) (un) ((K.old 8 rfl).trans x8) hul (Ob.below m8 K.grow)
          · exact st_call 26 (.func 26) _ _ #[.agg ((p).map V).toArray, .agg ((un).map V).toArray] rfl rfl (arg2 (K.dep 4 144 rfl) (K.dep 5 145 rfl)) Tryd.enter26 (fk_node hp hul (hK.below (bl.trans (Below.mono K.grow bl.size))) eu2)
          intro f26 w26 A hb
          replace bl0 := bl
          replace x1 := (A.old 1 rfl).trans x1
          replace x2 := (A.old 2 rfl).trans x2
          replace x3 := (A.old 3 rfl).trans x3
          replace x29 := (A.old 29 rfl).trans x29
          replace x4 := (A.old 4 rfl).trans x4
          replace x58 := (A.old 58 rfl).trans x58
          replace x66 := (A.old 66 rfl).trans x66
          replace x99 := (A.old 99 rfl).trans x99
          replace x6 := (A.old 6 rfl).trans x6
          replace x116 := (A.old 116 rfl).trans x116
          replace x8 := (A.old 8 rfl).trans x8
          replace x132 := (A.old 132 rfl).trans x132
          replace x133 := (A.old 133 rfl).trans x133
          replace x134 := (A.old 134 rfl).trans x134
          replace x135 := (A.old 135 rfl).trans x135
          replace x9 := (A.old 9 rfl).trans x9
          replace x139 := (A.old 139 rfl).trans x139
          have x146 : f26.eval (.tmp 146) = .agg ((u2).map V).toArray := A.has 6 146 rfl
          have lt_m1 := Ob.lt m1
          replace m1 := Ob.below m1 hb
          have lt_m3 := Ob.lt m3
          replace m3 := Ob.below m3 hb
          have lt_m6 := Ob.lt m6
          replace m6 := Ob.below m6 hb
          have lt_m8 := Ob.lt m8
          replace m8 := Ob.below m8 hb
          replace qB := Bl.below qB hb
          replace bl := (bl.trans (Below.mono hb bl.size))
          replace sz := A.size.trans sz
          replace df := A.defs.trans df
          clear A hb
          refine wl_store rfl (.tmp 8) (.tmp 146) rfl rfl (g8) (u2) (un) x8 x146 m8 hul hu2 ?_
          replace qB := Bl.onlyN qB ((Only.refl g8 _).setRow ((u2).map V : List Value).toArray) nb8
          replace m1 : Ob (w26.setRow g8 ((u2).map V : List Value).toArray) (g1) 50 ((pb).map V ++ ([.int .i64 ((kd : Nat) : Int), .int .i64 ((ht : Nat) : Int), mv, .int .i64 ((kd : Nat) : Int), .int .i64 ((i : Nat) : Int), .slice sA (S).length sC, .slice pA (P).length pC] : List Value)) := Ob.setRow_other m1 _ nm1_8
          replace m3 : Ob (w26.setRow g8 ((u2).map V : List Value).toArray) (g3) 38 ([.int .i64 ((kd : Nat) : Int), .int .i64 ((i : Nat) : Int), .slice sA (S).length sC, .slice pA (P).length pC]) := Ob.setRow_other m3 _ nm3_8
          replace m6 : Ob (w26.setRow g8 ((u2).map V : List Value).toArray) (g6) 23 ((y).map V) := Ob.setRow_other m6 _ nm6_8
          replace m8 : Ob (w26.setRow g8 ((u2).map V : List Value).toArray) (g8) 23 ((u2).map V) := Ob.setRow m8 ((u2).map V)
          replace bl : Below w.heap.size w (w26.setRow g8 ((u2).map V : List Value).toArray) := bl.trans (below_setRow _ _ _ _ hw8)
          generalize w26.setRow g8 ((u2).map V : List Value).toArray = w27b at bl m1 m3 m6 m8 qB ⊢
          refine wpList_nil ?_
          clear x146
          show Code.wp _ _ _ _ _
          -- R22
          refine wp_region_seq [.eq (.int .i64 ((k + 1 : Nat) : Int))] (by kernel_rfl) (by kernel_rfl) (by rw [sz]; kernel_rfl) (by kernel_rfl) ⟨fun hw ac u K => ?_, trivial⟩ ?_
          · exact st_add (.tmp 134) (.const (.int .i64 1)) rfl (k) (1) (k + 1) ((K.old 134 rfl).trans x134) rfl (by omega) (by omega)
          intro f28 w28 A hb
          replace bl0 := bl
          replace x1 := (A.old 1 rfl).trans x1
          replace x2 := (A.old 2 rfl).trans x2
          replace x3 := (A.old 3 rfl).trans x3
          replace x29 := (A.old 29 rfl).trans x29
          replace x4 := (A.old 4 rfl).trans x4
          replace x58 := (A.old 58 rfl).trans x58
          replace x66 := (A.old 66 rfl).trans x66
          replace x99 := (A.old 99 rfl).trans x99
          replace x6 := (A.old 6 rfl).trans x6
          replace x116 := (A.old 116 rfl).trans x116
          replace x8 := (A.old 8 rfl).trans x8
          replace x132 := (A.old 132 rfl).trans x132
          replace x133 := (A.old 133 rfl).trans x133
          replace x134 := (A.old 134 rfl).trans x134
          replace x135 := (A.old 135 rfl).trans x135
          replace x9 := (A.old 9 rfl).trans x9
          replace x139 := (A.old 139 rfl).trans x139
          have x154 : f28.eval (.tmp 154) = .int .i64 ((k + 1 : Nat) : Int) := A.has 0 154 rfl
          have lt_m1 := Ob.lt m1
          replace m1 := Ob.below m1 hb
          have lt_m3 := Ob.lt m3
          replace m3 := Ob.below m3 hb
          have lt_m6 := Ob.lt m6
          replace m6 := Ob.below m6 hb
          have lt_m8 := Ob.lt m8
          replace m8 := Ob.below m8 hb
          replace qB := Bl.below qB hb
          replace bl := (bl.trans (Below.mono hb bl.size))
          replace sz := A.size.trans sz
          replace df := A.defs.trans df
          clear A hb
          refine wl_one (.eq (.int .i64 ((k + 1 : Nat) : Int))) rfl 134 rfl (by rw [sz]; decide) (st_move (.tmp 154) rfl x154) ?_
          intro f29 w29 df2 sz2 old2 new2 hb
          replace bl0 := bl
          replace x1 := (old2 1 rfl).trans x1
          replace x2 := (old2 2 rfl).trans x2
          replace x3 := (old2 3 rfl).trans x3
          replace x29 := (old2 29 rfl).trans x29
          replace x4 := (old2 4 rfl).trans x4
          replace x58 := (old2 58 rfl).trans x58
          replace x66 := (old2 66 rfl).trans x66
          replace x99 := (old2 99 rfl).trans x99
          replace x6 := (old2 6 rfl).trans x6
          replace x116 := (old2 116 rfl).trans x116
          replace x8 := (old2 8 rfl).trans x8
          replace x132 := (old2 132 rfl).trans x132
          replace x133 := (old2 133 rfl).trans x133
          clear x134
          replace x135 := (old2 135 rfl).trans x135
          replace x9 := (old2 9 rfl).trans x9
          replace x139 := (old2 139 rfl).trans x139
          replace x154 := (old2 154 rfl).trans x154
          have x134 : f29.eval (.tmp 134) = .int .i64 ((k + 1 : Nat) : Int) := new2
          have lt_m1 := Ob.lt m1
          replace m1 := Ob.below m1 hb
          have lt_m3 := Ob.lt m3
          replace m3 := Ob.below m3 hb
          have lt_m6 := Ob.lt m6
          replace m6 := Ob.below m6 hb
          have lt_m8 := Ob.lt m8
          replace m8 := Ob.below m8 hb
          replace qB := Bl.below qB hb
          replace bl := (bl.trans (Below.mono hb bl.size))
          replace sz := sz2.trans sz
          replace df := df2.trans df
          clear df2 sz2 old2 new2 hb
          refine wpList_nil ?_
          clear x154
          show (∃ _, _) ∧ _
          refine ⟨⟨k + 1, by omega, sz, df, x1, x2, x3, x29, x4, x58, x66, x99, x6, x116, x8, x132, x133, x134, m1, m3, m6, (by rw [eup]; exact m8), qB, bl⟩, ?_⟩
          rw [show f29.eval (.tmp 134) = _ from x134, show _ = _ from hcnt]
          simp [intOf]
          omega
        have hBk : B[k]? = some false := by rw [← eBs.out, sds_at _ _ _ hlt]; simp; omega
        obtain ⟨u2, eu2⟩ : ∃ q, Box (nd un p = q) := ⟨_, ⟨rfl⟩⟩
        have hu2 : u2.length = 32 := by rw [← eu2.out]; exact nd_len _ _
        have eup : up i P z (k + 1) = u2 := by rw [up_even hev, eu.out, hpg, eu2.out]
        -- R18
        refine wp_all_seq [.eq (.int .i64 ((k : Nat) : Int)), .pv (.bool false), .eq (.bool false), .eq (.int .i64 ((k : Nat) : Int)), .eq (.bool false)] (by kernel_rfl) (by kernel_rfl) (by rw [sz]; kernel_rfl) (by kernel_rfl) ⟨fun hw ac u K => ?_, fun hw ac u K => ?_, fun hw ac u K => ?_, fun hw ac u K => ?_, fun hw ac u K => ?_, trivial⟩ ?_
        · exact st_move (.tmp 134) rfl ((K.old 134 rfl).trans x134)
        · exact st_idxbl (.tmp 132) (.tmp 134) rfl (Bl.below qB K.grow) ((K.old 132 rfl).trans x132) k false ((K.old 134 rfl).trans x134) hBk
        · exact st_loadbl (.tmp 137) rfl (K.dep 1 137 rfl)
        · exact st_assign (.tmp 136) rfl (K.dep 0 136 rfl)
        · exact st_assign (.tmp 138) rfl (K.dep 2 138 rfl)
        intro f24 w24 A hb
        replace bl0 := bl
        replace x1 := (A.old 1 rfl).trans x1
        replace x2 := (A.old 2 rfl).trans x2
        replace x3 := (A.old 3 rfl).trans x3
        replace x29 := (A.old 29 rfl).trans x29
        replace x4 := (A.old 4 rfl).trans x4
        replace x58 := (A.old 58 rfl).trans x58
        replace x66 := (A.old 66 rfl).trans x66
        replace x99 := (A.old 99 rfl).trans x99
        replace x6 := (A.old 6 rfl).trans x6
        replace x116 := (A.old 116 rfl).trans x116
        replace x8 := (A.old 8 rfl).trans x8
        replace x132 := (A.old 132 rfl).trans x132
        replace x133 := (A.old 133 rfl).trans x133
        replace x134 := (A.old 134 rfl).trans x134
        replace x135 := (A.old 135 rfl).trans x135
        have x9 : f24.eval (.tmp 9) = .int .i64 ((k : Nat) : Int) := A.has 3 9 rfl
        have x10 : f24.eval (.tmp 10) = .bool false := A.has 4 10 rfl
        have lt_m1 := Ob.lt m1
        replace m1 := Ob.below m1 hb
        have lt_m3 := Ob.lt m3
        replace m3 := Ob.below m3 hb
        have lt_m6 := Ob.lt m6
        replace m6 := Ob.below m6 hb
        have lt_m8 := Ob.lt m8
        replace m8 := Ob.below m8 hb
        replace qB := Bl.below qB hb
        replace bl := (bl.trans (Below.mono hb bl.size))
        replace sz := A.size.trans sz
        replace df := A.defs.trans df
        clear A hb
        show Code.wp _ _ _ _ _
        refine wp_seq ?_
        -- R19
        refine wp_all_seq [.eq (.bool false)] (by kernel_rfl) (by kernel_rfl) (by rw [sz]; kernel_rfl) (by kernel_rfl) ⟨fun hw ac u K => ?_, trivial⟩ ?_
        · exact st_move (.tmp 10) rfl ((K.old 10 rfl).trans x10)
        intro f25 w25 A hb
        replace bl0 := bl
        replace x1 := (A.old 1 rfl).trans x1
        replace x2 := (A.old 2 rfl).trans x2
        replace x3 := (A.old 3 rfl).trans x3
        replace x29 := (A.old 29 rfl).trans x29
        replace x4 := (A.old 4 rfl).trans x4
        replace x58 := (A.old 58 rfl).trans x58
        replace x66 := (A.old 66 rfl).trans x66
        replace x99 := (A.old 99 rfl).trans x99
        replace x6 := (A.old 6 rfl).trans x6
        replace x116 := (A.old 116 rfl).trans x116
        replace x8 := (A.old 8 rfl).trans x8
        replace x132 := (A.old 132 rfl).trans x132
        replace x133 := (A.old 133 rfl).trans x133
        replace x134 := (A.old 134 rfl).trans x134
        replace x135 := (A.old 135 rfl).trans x135
        replace x9 := (A.old 9 rfl).trans x9
        replace x10 := (A.old 10 rfl).trans x10
        have x139 : f25.eval (.tmp 139) = .bool false := A.has 0 139 rfl
        have lt_m1 := Ob.lt m1
        replace m1 := Ob.below m1 hb
        have lt_m3 := Ob.lt m3
        replace m3 := Ob.below m3 hb
        have lt_m6 := Ob.lt m6
        replace m6 := Ob.below m6 hb
        have lt_m8 := Ob.lt m8
        replace m8 := Ob.below m8 hb
        replace qB := Bl.below qB hb
        replace bl := (bl.trans (Below.mono hb bl.size))
        replace sz := A.size.trans sz
        replace df := A.defs.trans df
        clear A hb
        clear x10
        show Code.wp _ _ _ _ _
        refine wp_cond_false x139 ?_
        -- R21
        refine wp_region_tail [.eq (.agg ((un).map V).toArray), .eq (.pointer (some ⟨g3, 3, none⟩)), .eq (.slice pA (P).length pC), .eq (.int .i64 ((k : Nat) : Int)), .ph (p), .eq (.agg ((p).map V).toArray), .eq (.agg ((u2).map V).toArray)] [7] Tryd.mixed (by kernel_rfl) (by kernel_rfl) (by kernel_rfl) (by kernel_rfl) (by rw [sz]; kernel_rfl) (by kernel_rfl) ⟨fun hw ac u K => ?_, fun hw ac u K => ?_, fun hw ac u K => ?_, fun hw ac u K => ?_, fun hw ac u K => ?_, fun hw ac u K => ?_, fun hw ac u K => ?_, trivial⟩ ?_
        · exact st_load23 (.tmp 8) rfl (g8) (un) ((K.old 8 rfl).trans x8) hul (Ob.below m8 K.grow)
        · exact st_field 38 3 (.tmp 3) rfl ((K.old 3 rfl).trans x3) (by kernel_rfl)
        · exact st_loadc 32 (.tmp 148) rfl (by kernel_rfl) (K.dep 1 148 rfl) (Ob.cell (Ob.below m3 K.grow) 3 rfl)
        · exact st_move (.tmp 9) rfl ((K.old 9 rfl).trans x9)
        · exact st_idxh (.tmp 149) (.tmp 150) rfl (fk_val (K.dep 2 149 rfl) (Fk.mono _ _ _ _ vP (bl.trans (Below.mono K.grow bl.size)))) (k) (p) (K.dep 3 150 rfl) hpk
        · exact st_loadh (.tmp 151) rfl (K.dep 4 151 rfl)
        · exact st_call 26 (.func 26) _ _ #[.agg ((un).map V).toArray, .agg ((p).map V).toArray] rfl rfl (arg2 (K.dep 0 147 rfl) (K.dep 5 152 rfl)) Tryd.enter26 (fk_node hul hp (hK.below (bl.trans (Below.mono K.grow bl.size))) eu2)
        intro f26 w26 A hb
        replace bl0 := bl
        replace x1 := (A.old 1 rfl).trans x1
        replace x2 := (A.old 2 rfl).trans x2
        replace x3 := (A.old 3 rfl).trans x3
        replace x29 := (A.old 29 rfl).trans x29
        replace x4 := (A.old 4 rfl).trans x4
        replace x58 := (A.old 58 rfl).trans x58
        replace x66 := (A.old 66 rfl).trans x66
        replace x99 := (A.old 99 rfl).trans x99
        replace x6 := (A.old 6 rfl).trans x6
        replace x116 := (A.old 116 rfl).trans x116
        replace x8 := (A.old 8 rfl).trans x8
        replace x132 := (A.old 132 rfl).trans x132
        replace x133 := (A.old 133 rfl).trans x133
        replace x134 := (A.old 134 rfl).trans x134
        replace x135 := (A.old 135 rfl).trans x135
        replace x9 := (A.old 9 rfl).trans x9
        replace x139 := (A.old 139 rfl).trans x139
        have x153 : f26.eval (.tmp 153) = .agg ((u2).map V).toArray := A.has 6 153 rfl
        have lt_m1 := Ob.lt m1
        replace m1 := Ob.below m1 hb
        have lt_m3 := Ob.lt m3
        replace m3 := Ob.below m3 hb
        have lt_m6 := Ob.lt m6
        replace m6 := Ob.below m6 hb
        have lt_m8 := Ob.lt m8
        replace m8 := Ob.below m8 hb
        replace qB := Bl.below qB hb
        replace bl := (bl.trans (Below.mono hb bl.size))
        replace sz := A.size.trans sz
        replace df := A.defs.trans df
        clear A hb
        refine wl_store rfl (.tmp 8) (.tmp 153) rfl rfl (g8) (u2) (un) x8 x153 m8 hul hu2 ?_
        replace qB := Bl.onlyN qB ((Only.refl g8 _).setRow ((u2).map V : List Value).toArray) nb8
        replace m1 : Ob (w26.setRow g8 ((u2).map V : List Value).toArray) (g1) 50 ((pb).map V ++ ([.int .i64 ((kd : Nat) : Int), .int .i64 ((ht : Nat) : Int), mv, .int .i64 ((kd : Nat) : Int), .int .i64 ((i : Nat) : Int), .slice sA (S).length sC, .slice pA (P).length pC] : List Value)) := Ob.setRow_other m1 _ nm1_8
        replace m3 : Ob (w26.setRow g8 ((u2).map V : List Value).toArray) (g3) 38 ([.int .i64 ((kd : Nat) : Int), .int .i64 ((i : Nat) : Int), .slice sA (S).length sC, .slice pA (P).length pC]) := Ob.setRow_other m3 _ nm3_8
        replace m6 : Ob (w26.setRow g8 ((u2).map V : List Value).toArray) (g6) 23 ((y).map V) := Ob.setRow_other m6 _ nm6_8
        replace m8 : Ob (w26.setRow g8 ((u2).map V : List Value).toArray) (g8) 23 ((u2).map V) := Ob.setRow m8 ((u2).map V)
        replace bl : Below w.heap.size w (w26.setRow g8 ((u2).map V : List Value).toArray) := bl.trans (below_setRow _ _ _ _ hw8)
        generalize w26.setRow g8 ((u2).map V : List Value).toArray = w27b at bl m1 m3 m6 m8 qB ⊢
        refine wpList_nil ?_
        clear x153
        show Code.wp _ _ _ _ _
        -- R22
        refine wp_region_seq [.eq (.int .i64 ((k + 1 : Nat) : Int))] (by kernel_rfl) (by kernel_rfl) (by rw [sz]; kernel_rfl) (by kernel_rfl) ⟨fun hw ac u K => ?_, trivial⟩ ?_
        · exact st_add (.tmp 134) (.const (.int .i64 1)) rfl (k) (1) (k + 1) ((K.old 134 rfl).trans x134) rfl (by omega) (by omega)
        intro f28 w28 A hb
        replace bl0 := bl
        replace x1 := (A.old 1 rfl).trans x1
        replace x2 := (A.old 2 rfl).trans x2
        replace x3 := (A.old 3 rfl).trans x3
        replace x29 := (A.old 29 rfl).trans x29
        replace x4 := (A.old 4 rfl).trans x4
        replace x58 := (A.old 58 rfl).trans x58
        replace x66 := (A.old 66 rfl).trans x66
        replace x99 := (A.old 99 rfl).trans x99
        replace x6 := (A.old 6 rfl).trans x6
        replace x116 := (A.old 116 rfl).trans x116
        replace x8 := (A.old 8 rfl).trans x8
        replace x132 := (A.old 132 rfl).trans x132
        replace x133 := (A.old 133 rfl).trans x133
        replace x134 := (A.old 134 rfl).trans x134
        replace x135 := (A.old 135 rfl).trans x135
        replace x9 := (A.old 9 rfl).trans x9
        replace x139 := (A.old 139 rfl).trans x139
        have x154 : f28.eval (.tmp 154) = .int .i64 ((k + 1 : Nat) : Int) := A.has 0 154 rfl
        have lt_m1 := Ob.lt m1
        replace m1 := Ob.below m1 hb
        have lt_m3 := Ob.lt m3
        replace m3 := Ob.below m3 hb
        have lt_m6 := Ob.lt m6
        replace m6 := Ob.below m6 hb
        have lt_m8 := Ob.lt m8
        replace m8 := Ob.below m8 hb
        replace qB := Bl.below qB hb
        replace bl := (bl.trans (Below.mono hb bl.size))
        replace sz := A.size.trans sz
        replace df := A.defs.trans df
        clear A hb
        refine wl_one (.eq (.int .i64 ((k + 1 : Nat) : Int))) rfl 134 rfl (by rw [sz]; decide) (st_move (.tmp 154) rfl x154) ?_
        intro f29 w29 df2 sz2 old2 new2 hb
        replace bl0 := bl
        replace x1 := (old2 1 rfl).trans x1
        replace x2 := (old2 2 rfl).trans x2
        replace x3 := (old2 3 rfl).trans x3
        replace x29 := (old2 29 rfl).trans x29
        replace x4 := (old2 4 rfl).trans x4
        replace x58 := (old2 58 rfl).trans x58
        replace x66 := (old2 66 rfl).trans x66
        replace x99 := (old2 99 rfl).trans x99
        replace x6 := (old2 6 rfl).trans x6
        replace x116 := (old2 116 rfl).trans x116
        replace x8 := (old2 8 rfl).trans x8
        replace x132 := (old2 132 rfl).trans x132
        replace x133 := (old2 133 rfl).trans x133
        clear x134
        replace x135 := (old2 135 rfl).trans x135
        replace x9 := (old2 9 rfl).trans x9
        replace x139 := (old2 139 rfl).trans x139
        replace x154 := (old2 154 rfl).trans x154
        have x134 : f29.eval (.tmp 134) = .int .i64 ((k + 1 : Nat) : Int) := new2
        have lt_m1 := Ob.lt m1
        replace m1 := Ob.below m1 hb
        have lt_m3 := Ob.lt m3
        replace m3 := Ob.below m3 hb
        have lt_m6 := Ob.lt m6
        replace m6 := Ob.below m6 hb
        have lt_m8 := Ob.lt m8
        replace m8 := Ob.below m8 hb
        replace qB := Bl.below qB hb
        replace bl := (bl.trans (Below.mono hb bl.size))
        replace sz := sz2.trans sz
        replace df := df2.trans df
        clear df2 sz2 old2 new2 hb
        refine wpList_nil ?_
        clear x154
        show (∃ _, _) ∧ _
        refine ⟨⟨k + 1, by omega, sz, df, x1, x2, x3, x29, x4, x58, x66, x99, x6, x116, x8, x132, x133, x134, m1, m3, m6, (by rw [eup]; exact m8), qB, bl⟩, ?_⟩
        rw [show f29.eval (.tmp 134) = _ from x134, show _ = _ from hcnt]
        simp [intOf]
        omega
      have hnp : npt kd = 67 := by rw [hkd]; rfl
      have er1 : Box (pub (all67 (recOf h S)) = y) := ⟨by rw [← er.out]; unfold rcv; rw [if_pos hkd]⟩
      -- R8
      refine wp_all_seq [.eq (.pointer (some ⟨g1, 32, none⟩)), .eq (.int .i64 ((kd : Nat) : Int)), .eq (.bool false)] (by kernel_rfl) (by kernel_rfl) (by rw [sz]; kernel_rfl) (by kernel_rfl) ⟨fun hw ac u K => ?_, fun hw ac u K => ?_, fun hw ac u K => ?_, trivial⟩ ?_
      · exact st_field 50 1 (.tmp 1) rfl ((K.old 1 rfl).trans x1) (by kernel_rfl)
      · exact st_loadc 3 (.tmp 64) rfl (by kernel_rfl) (K.dep 0 64 rfl) (Ob.cell (Ob.below m1 K.grow) 32 ((at_head hpb 0 _).trans rfl))
      · exact st_eqi 3 (.tmp 65) (.const (.int .i64 2)) rfl .i64 (((kd : Nat) : Int)) (2) (K.dep 1 65 rfl) rfl _ (by simp [hkd])
      intro f10 w10 A hb
      replace bl0 := bl
      replace x1 := (A.old 1 rfl).trans x1
      replace x2 := (A.old 2 rfl).trans x2
      replace x3 := (A.old 3 rfl).trans x3
      replace x29 := (A.old 29 rfl).trans x29
      replace x4 := (A.old 4 rfl).trans x4
      replace x58 := (A.old 58 rfl).trans x58
      replace x5 := (A.old 5 rfl).trans x5
      have x66 : f10.eval (.tmp 66) = .bool false := A.has 2 66 rfl
      have lt_m1 := Ob.lt m1
      replace m1 := Ob.below m1 hb
      have lt_m3 := Ob.lt m3
      replace m3 := Ob.below m3 hb
      replace bl := (bl.trans (Below.mono hb bl.size))
      replace sz := A.size.trans sz
      replace df := A.defs.trans df
      clear A hb
      show Code.wp _ _ _ _ _
      refine wp_cond_false x66 ?_
      refine wp_skip ?_
      show Code.wp _ _ _ _ _
      refine wp_seq ?_
      refine wp_seq ?_
      -- R10
      refine wp_all [.eq (.pointer (some ⟨g3, 0, none⟩)), .eq (.int .i64 ((kd : Nat) : Int)), .eq (.pointer (some ⟨g1, 32, none⟩)), .eq (.int .i64 ((kd : Nat) : Int)), .eq (.bool false), .eq (.bool false), .eq (.pointer (some ⟨g3, 1, none⟩)), .eq (.int .i64 ((i : Nat) : Int)), .eq (.bool false), .eq (.bool false), .eq (.bool false), .eq (.pointer (some ⟨g3, 1, none⟩)), .eq (.int .i64 ((i : Nat) : Int)), .eq (.pointer (some ⟨g1, 33, none⟩)), .eq (.int .i64 ((ht : Nat) : Int)), .eq (.int .i64 ((2 ^ ht : Nat) : Int)), .eq (.bool false), .eq (.bool false), .eq (.bool false), .eq (.pointer (some ⟨g3, 3, none⟩)), .eq (.slice pA (P).length pC), .eq (.int .i64 (((P).length : Nat) : Int)), .eq (.pointer (some ⟨g1, 33, none⟩)), .eq (.int .i64 ((ht : Nat) : Int)), .eq (.bool false), .eq (.bool false), .eq (.bool false), .eq (.pointer (some ⟨g3, 2, none⟩)), .eq (.slice sA (S).length sC), .eq (.int .i64 (((S).length : Nat) : Int)), .eq (.int .i64 67), .eq (.bool false), .eq (.bool false)] Tryd.mixed (by kernel_rfl) (by kernel_rfl) (by rw [sz]; kernel_rfl) (by kernel_rfl) ⟨fun hw ac u K => ?_, fun hw ac u K => ?_, fun hw ac u K => ?_, fun hw ac u K => ?_, fun hw ac u K => ?_, fun hw ac u K => ?_, fun hw ac u K => ?_, fun hw ac u K => ?_, fun hw ac u K => ?_, fun hw ac u K => ?_, fun hw ac u K => ?_, fun hw ac u K => ?_, fun hw ac u K => ?_, fun hw ac u K => ?_, fun hw ac u K => ?_, fun hw ac u K => ?_, fun hw ac u K => ?_, fun hw ac u K => ?_, fun hw ac u K => ?_, fun hw ac u K => ?_, fun hw ac u K => ?_, fun hw ac u K => ?_, fun hw ac u K => ?_, fun hw ac u K => ?_, fun hw ac u K => ?_, fun hw ac u K => ?_, fun hw ac u K => ?_, fun hw ac u K => ?_, fun hw ac u K => ?_, fun hw ac u K => ?_, fun hw ac u K => ?_, fun hw ac u K => ?_, fun hw ac u K => ?_, trivial⟩ ?_
      · exact st_field 38 0 (.tmp 3) rfl ((K.old 3 rfl).trans x3) (by kernel_rfl)
      · exact st_loadc 3 (.tmp 67) rfl (by kernel_rfl) (K.dep 0 67 rfl) (Ob.cell (Ob.below m3 K.grow) 0 rfl)
      · exact st_field 50 1 (.tmp 1) rfl ((K.old 1 rfl).trans x1) (by kernel_rfl)
      · exact st_loadc 3 (.tmp 69) rfl (by kernel_rfl) (K.dep 2 69 rfl) (Ob.cell (Ob.below m1 K.grow) 32 ((at_head hpb 0 _).trans rfl))
      · exact st_neqi 3 (.tmp 68) (.tmp 70) rfl .i64 (((kd : Nat) : Int)) (((kd : Nat) : Int)) (K.dep 1 68 rfl) (K.dep 3 70 rfl) _ (by simp)
      · exact st_move (.tmp 71) rfl (K.dep 4 71 rfl)
      · exact st_field 38 1 (.tmp 3) rfl ((K.old 3 rfl).trans x3) (by kernel_rfl)
      · exact st_loadc 3 (.tmp 73) rfl (by kernel_rfl) (K.dep 6 73 rfl) (Ob.cell (Ob.below m3 K.grow) 1 rfl)
      · exact st_lss 3 (.tmp 74) (.const (.int .i64 0)) rfl .i64 (((i : Nat) : Int)) (0) (K.dep 7 74 rfl) rfl _ (by first | (simp; done) | (simp; omega))
      · exact st_pick_f' (.tmp 72) (.const (.bool true)) (.tmp 75) rfl (K.dep 5 72 rfl) (K.dep 8 75 rfl)
      · exact st_move (.tmp 76) rfl (K.dep 9 76 rfl)
      · exact st_field 38 1 (.tmp 3) rfl ((K.old 3 rfl).trans x3) (by kernel_rfl)
      · exact st_loadc 3 (.tmp 78) rfl (by kernel_rfl) (K.dep 11 78 rfl) (Ob.cell (Ob.below m3 K.grow) 1 rfl)
      · exact st_field 50 2 (.tmp 1) rfl ((K.old 1 rfl).trans x1) (by kernel_rfl)
      · exact st_loadc 3 (.tmp 80) rfl (by kernel_rfl) (K.dep 13 80 rfl) (Ob.cell (Ob.below m1 K.grow) 33 ((at_head hpb 1 _).trans rfl))
      · exact st_shl 3 3 (.const (.int .i64 1)) (.tmp 81) rfl (1) (ht) rfl (K.dep 14 81 rfl) (2 ^ ht) (by simp) hpw (by omega)
      · exact st_geq 3 (.tmp 79) (.tmp 82) rfl .i64 (((i : Nat) : Int)) (((2 ^ ht : Nat) : Int)) (K.dep 12 79 rfl) (K.dep 15 82 rfl) _ (by rw [eq_comm, decide_eq_false_iff_not]; omega)
      · exact st_pick_f' (.tmp 77) (.const (.bool true)) (.tmp 83) rfl (K.dep 10 77 rfl) (K.dep 16 83 rfl)
      · exact st_move (.tmp 84) rfl (K.dep 17 84 rfl)
      · exact st_field 38 3 (.tmp 3) rfl ((K.old 3 rfl).trans x3) (by kernel_rfl)
      · exact st_loadc 32 (.tmp 86) rfl (by kernel_rfl) (K.dep 19 86 rfl) (Ob.cell (Ob.below m3 K.grow) 3 rfl)
      · exact st_lenh (.tmp 87) rfl (fk_val (K.dep 20 87 rfl) (Fk.mono _ _ _ _ vP (bl.trans (Below.mono K.grow bl.size))))
      · exact st_field 50 2 (.tmp 1) rfl ((K.old 1 rfl).trans x1) (by kernel_rfl)
      · exact st_loadc 3 (.tmp 89) rfl (by kernel_rfl) (K.dep 22 89 rfl) (Ob.cell (Ob.below m1 K.grow) 33 ((at_head hpb 1 _).trans rfl))
      · exact st_neqi 3 (.tmp 88) (.tmp 90) rfl .i64 ((((P).length : Nat) : Int)) (((ht : Nat) : Int)) (K.dep 21 88 rfl) (K.dep 23 90 rfl) _ (by simp [hP])
      · exact st_pick_f' (.tmp 85) (.const (.bool true)) (.tmp 91) rfl (K.dep 18 85 rfl) (K.dep 24 91 rfl)
      · exact st_move (.tmp 92) rfl (K.dep 25 92 rfl)
      · exact st_field 38 2 (.tmp 3) rfl ((K.old 3 rfl).trans x3) (by kernel_rfl)
      · exact st_loadc 32 (.tmp 94) rfl (by kernel_rfl) (K.dep 27 94 rfl) (Ob.cell (Ob.below m3 K.grow) 2 rfl)
      · exact st_lenh (.tmp 95) rfl (fk_val (K.dep 28 95 rfl) (Fk.mono _ _ _ _ vS (bl.trans (Below.mono K.grow bl.size))))
      · exact st_move (.tmp 5) rfl ((K.old 5 rfl).trans x5)
      · exact st_neqi 3 (.tmp 96) (.tmp 97) rfl .i64 ((((S).length : Nat) : Int)) (67) (K.dep 29 96 rfl) (K.dep 30 97 rfl) _ (by rw [eq_comm, decide_eq_false_iff_not]; omega)
      · exact st_pick_f' (.tmp 93) (.const (.bool true)) (.tmp 98) rfl (K.dep 26 93 rfl) (K.dep 31 98 rfl)
      intro f11 w11 A hb
      replace bl0 := bl
      replace x1 := (A.old 1 rfl).trans x1
      replace x2 := (A.old 2 rfl).trans x2
      replace x3 := (A.old 3 rfl).trans x3
      replace x29 := (A.old 29 rfl).trans x29
      replace x4 := (A.old 4 rfl).trans x4
      replace x58 := (A.old 58 rfl).trans x58
      replace x5 := (A.old 5 rfl).trans x5
      replace x66 := (A.old 66 rfl).trans x66
      have x99 : f11.eval (.tmp 99) = .bool false := A.has 32 99 rfl
      have lt_m1 := Ob.lt m1
      replace m1 := Ob.below m1 hb
      have lt_m3 := Ob.lt m3
      replace m3 := Ob.below m3 hb
      replace bl := (bl.trans (Below.mono hb bl.size))
      replace sz := A.size.trans sz
      replace df := A.defs.trans df
      clear A hb
      clear x5
      show Code.wp _ _ _ _ _
      refine wp_cond_false x99 ?_
      refine wp_skip ?_
      show Code.wp _ _ _ _ _
      refine wp_seq ?_
      -- R12
      refine wp_region_late [.eq (.pointer (some ⟨g1, 34, none⟩)), .eq (mv), .eq (.agg ((h).map V).toArray), .eq (.pointer (some ⟨g3, 2, none⟩)), .eq (.slice sA (S).length sC), .eq (.tuple #[.agg ((y).map V).toArray, .int .i64 0]), .eq (.tuple #[.agg ((y).map V).toArray, .int .i64 0]), .eq (.agg ((y).map V).toArray), .eq (.int .i64 0), .nw w11.heap.size 23 ((hz).map V)] 8 113 _ _ [11] Tryd.mixed (by kernel_rfl) (by kernel_rfl) (by kernel_rfl) (by kernel_rfl) (by kernel_rfl) rfl rfl (by kernel_rfl) rfl (by kernel_rfl) rfl (by rw [sz]; kernel_rfl) (by kernel_rfl) (fun ac u K => ⟨_, late_ext rfl (K.dep 6 105 rfl) rfl, rfl⟩) ⟨fun hw ac u K => ?_, fun hw ac u K => ?_, fun hw ac u K => ?_, fun hw ac u K => ?_, fun hw ac u K => ?_, fun hw ac u K => ?_, fun hw ac u K => ?_, fun hw ac u K => ?_, fun hw ac u K => ?_, fun hw ac u K => ?_, trivial⟩ ?_
      · exact st_field 50 3 (.tmp 1) rfl ((K.old 1 rfl).trans x1) (by kernel_rfl)
      · exact st_loadc 36 (.tmp 106) rfl (by kernel_rfl) (K.dep 0 106 rfl) (Ob.cell (Ob.below m1 K.grow) 34 ((at_head hpb 2 _).trans rfl))
      · exact st_call 17 (.func 17) _ _ #[mv] rfl rfl (one_arg (K.dep 1 107 rfl)) Tryd.enter17 (fk_message (by omega) (hK.below (bl.trans (Below.mono K.grow bl.size))) (Fk.mono _ _ _ _ vm (bl.trans (Below.mono K.grow bl.size))) eh)
      · exact st_field 38 2 (.tmp 3) rfl ((K.old 3 rfl).trans x3) (by kernel_rfl)
      · exact st_loadc 32 (.tmp 109) rfl (by kernel_rfl) (K.dep 3 109 rfl) (Ob.cell (Ob.below m3 K.grow) 2 rfl)
      · exact st_call 22 (.func 22) _ _ #[.agg ((h).map V).toArray, .slice sA (S).length sC] rfl rfl (arg2 (K.dep 2 108 rfl) (K.dep 4 110 rfl)) Tryd.enter22 (fk_recover_ok hh (by omega) (hK.below (bl.trans (Below.mono K.grow bl.size))) (Fk.mono _ _ _ _ vS (bl.trans (Below.mono K.grow bl.size))) er1)
      · exact st_move (.tmp 111) rfl (K.dep 5 111 rfl)
      · exact st_ext0 (.tmp 105) rfl (K.dep 6 105 rfl) rfl
      · exact st_ext1 (.tmp 105) rfl (K.dep 6 105 rfl) rfl
      · exact st_alloc23 rfl _ K.grow.size
      intro f12 w12 A hb
      replace bl0 := bl
      replace x1 := (A.old 1 rfl).trans x1
      replace x2 := (A.old 2 rfl).trans x2
      replace x3 := (A.old 3 rfl).trans x3
      replace x29 := (A.old 29 rfl).trans x29
      replace x4 := (A.old 4 rfl).trans x4
      replace x58 := (A.old 58 rfl).trans x58
      replace x66 := (A.old 66 rfl).trans x66
      replace x99 := (A.old 99 rfl).trans x99
      have x6 : Fk.f (.nw w11.heap.size 23 ((hz).map V)) (f12.eval (.tmp 6)) w12 := A.has 9 6 rfl
      have x112 : f12.eval (.tmp 112) = .agg ((y).map V).toArray := A.has 7 112 rfl
      have x113 : f12.eval (.tmp 113) = .int .i64 0 := A.has 8 113 rfl
      have lt_m1 := Ob.lt m1
      replace m1 := Ob.below m1 hb
      have lt_m3 := Ob.lt m3
      replace m3 := Ob.below m3 hb
      replace bl := (bl.trans (Below.mono hb bl.size))
      replace sz := A.size.trans sz
      replace df := A.defs.trans df
      clear A hb
      obtain ⟨g6, hg6, e6, m6⟩ := x6
      have x6 := e6
      clear e6
      have nm1_6 : g1 ≠ g6 := Nat.ne_of_lt (Nat.lt_of_lt_of_le lt_m1 hg6)
      have nm3_6 : g3 ≠ g6 := Nat.ne_of_lt (Nat.lt_of_lt_of_le lt_m3 hg6)
      have hw6 : w.heap.size ≤ g6 := Nat.le_trans bl0.size hg6
      refine ⟨_, run_store23 (.tmp 6) (.tmp 112) rfl (g6) (y) (hz) x6 x112 m6 hz_len hy, ?_⟩
      replace m1 : Ob (w12.setRow g6 ((y).map V : List Value).toArray) (g1) 50 ((pb).map V ++ ([.int .i64 ((kd : Nat) : Int), .int .i64 ((ht : Nat) : Int), mv, .int .i64 ((kd : Nat) : Int), .int .i64 ((i : Nat) : Int), .slice sA (S).length sC, .slice pA (P).length pC] : List Value)) := Ob.setRow_other m1 _ nm1_6
      replace m3 : Ob (w12.setRow g6 ((y).map V : List Value).toArray) (g3) 38 ([.int .i64 ((kd : Nat) : Int), .int .i64 ((i : Nat) : Int), .slice sA (S).length sC, .slice pA (P).length pC]) := Ob.setRow_other m3 _ nm3_6
      replace m6 : Ob (w12.setRow g6 ((y).map V : List Value).toArray) (g6) 23 ((y).map V) := Ob.setRow m6 ((y).map V)
      replace bl : Below w.heap.size w (w12.setRow g6 ((y).map V : List Value).toArray) := bl.trans (below_setRow _ _ _ _ hw6)
      generalize w12.setRow g6 ((y).map V : List Value).toArray = w13b at bl m1 m3 m6 ⊢
      clear x112
      refine wl_one (.eq (.int .i64 0)) rfl 7 rfl (by rw [sz]; decide) (st_assign (.tmp 113) rfl x113) ?_
      intro f14 w14 df2 sz2 old2 new2 hb
      replace bl0 := bl
      replace x1 := (old2 1 rfl).trans x1
      replace x2 := (old2 2 rfl).trans x2
      replace x3 := (old2 3 rfl).trans x3
      replace x29 := (old2 29 rfl).trans x29
      replace x4 := (old2 4 rfl).trans x4
      replace x58 := (old2 58 rfl).trans x58
      replace x66 := (old2 66 rfl).trans x66
      replace x99 := (old2 99 rfl).trans x99
      replace x6 := (old2 6 rfl).trans x6
      replace x113 := (old2 113 rfl).trans x113
      have x7 : f14.eval (.tmp 7) = .int .i64 0 := new2
      have lt_m1 := Ob.lt m1
      replace m1 := Ob.below m1 hb
      have lt_m3 := Ob.lt m3
      replace m3 := Ob.below m3 hb
      have lt_m6 := Ob.lt m6
      replace m6 := Ob.below m6 hb
      replace bl := (bl.trans (Below.mono hb bl.size))
      replace sz := sz2.trans sz
      replace df := df2.trans df
      clear df2 sz2 old2 new2 hb
      refine wpList_nil ?_
      clear x113
      clear x7
      show Code.wp _ _ _ _ _
      refine wp_seq ?_
      refine wp_seq ?_
      -- R13
      refine wp_all_seq [.eq (.pointer (some ⟨g1, 32, none⟩)), .eq (.int .i64 ((kd : Nat) : Int)), .eq (.bool false)] (by kernel_rfl) (by kernel_rfl) (by rw [sz]; kernel_rfl) (by kernel_rfl) ⟨fun hw ac u K => ?_, fun hw ac u K => ?_, fun hw ac u K => ?_, trivial⟩ ?_
      · exact st_field 50 1 (.tmp 1) rfl ((K.old 1 rfl).trans x1) (by kernel_rfl)
      · exact st_loadc 3 (.tmp 114) rfl (by kernel_rfl) (K.dep 0 114 rfl) (Ob.cell (Ob.below m1 K.grow) 32 ((at_head hpb 0 _).trans rfl))
      · exact st_eqi 3 (.tmp 115) (.const (.int .i64 2)) rfl .i64 (((kd : Nat) : Int)) (2) (K.dep 1 115 rfl) rfl _ (by simp [hkd])
      intro f15 w15 A hb
      replace bl0 := bl
      replace x1 := (A.old 1 rfl).trans x1
      replace x2 := (A.old 2 rfl).trans x2
      replace x3 := (A.old 3 rfl).trans x3
      replace x29 := (A.old 29 rfl).trans x29
      replace x4 := (A.old 4 rfl).trans x4
      replace x58 := (A.old 58 rfl).trans x58
      replace x66 := (A.old 66 rfl).trans x66
      replace x99 := (A.old 99 rfl).trans x99
      replace x6 := (A.old 6 rfl).trans x6
      have x116 : f15.eval (.tmp 116) = .bool false := A.has 2 116 rfl
      have lt_m1 := Ob.lt m1
      replace m1 := Ob.below m1 hb
      have lt_m3 := Ob.lt m3
      replace m3 := Ob.below m3 hb
      have lt_m6 := Ob.lt m6
      replace m6 := Ob.below m6 hb
      replace bl := (bl.trans (Below.mono hb bl.size))
      replace sz := A.size.trans sz
      replace df := A.defs.trans df
      clear A hb
      show Code.wp _ _ _ _ _
      refine wp_cond_false x116 ?_
      refine wp_skip ?_
      show Code.wp _ _ _ _ _
      refine wp_seq ?_
      -- R15
      refine wp_region_seq [.sl (y), .eq (.agg ((z).map V).toArray), .nw w15.heap.size 23 ((hz).map V)] (by kernel_rfl) (by kernel_rfl) (by rw [sz]; kernel_rfl) (by kernel_rfl) ⟨fun hw ac u K => ?_, fun hw ac u K => ?_, fun hw ac u K => ?_, trivial⟩ ?_
      · exact st_slice23 (.tmp 6) rfl (g6) 0 (y) ((K.old 6 rfl).trans x6) hy (Ob.lt (Ob.below m6 K.grow)) (HasV.bytes (Ob.below m6 K.grow))
      · exact st_call 24 (.func 24) _ _ #[ac.eval (.tmp 126)] rfl rfl (one_arg rfl) Tryd.enter24 (fk_leaf (by rw [hy]; omega) (hK.below (bl.trans (Below.mono K.grow bl.size))) (K.dep 0 126 rfl) ez)
      · exact st_alloc23 rfl _ K.grow.size
      intro f16 w16 A hb
      replace bl0 := bl
      replace x1 := (A.old 1 rfl).trans x1
      replace x2 := (A.old 2 rfl).trans x2
      replace x3 := (A.old 3 rfl).trans x3
      replace x29 := (A.old 29 rfl).trans x29
      replace x4 := (A.old 4 rfl).trans x4
      replace x58 := (A.old 58 rfl).trans x58
      replace x66 := (A.old 66 rfl).trans x66
      replace x99 := (A.old 99 rfl).trans x99
      replace x6 := (A.old 6 rfl).trans x6
      replace x116 := (A.old 116 rfl).trans x116
      have x8 : Fk.f (.nw w15.heap.size 23 ((hz).map V)) (f16.eval (.tmp 8)) w16 := A.has 2 8 rfl
      have x127 : f16.eval (.tmp 127) = .agg ((z).map V).toArray := A.has 1 127 rfl
      have lt_m1 := Ob.lt m1
      replace m1 := Ob.below m1 hb
      have lt_m3 := Ob.lt m3
      replace m3 := Ob.below m3 hb
      have lt_m6 := Ob.lt m6
      replace m6 := Ob.below m6 hb
      replace bl := (bl.trans (Below.mono hb bl.size))
      replace sz := A.size.trans sz
      replace df := A.defs.trans df
      clear A hb
      obtain ⟨g8, hg8, e8, m8⟩ := x8
      have x8 := e8
      clear e8
      have nm1_8 : g1 ≠ g8 := Nat.ne_of_lt (Nat.lt_of_lt_of_le lt_m1 hg8)
      have nm3_8 : g3 ≠ g8 := Nat.ne_of_lt (Nat.lt_of_lt_of_le lt_m3 hg8)
      have nm6_8 : g6 ≠ g8 := Nat.ne_of_lt (Nat.lt_of_lt_of_le lt_m6 hg8)
      have hw8 : w.heap.size ≤ g8 := Nat.le_trans bl0.size hg8
      refine wl_store rfl (.tmp 8) (.tmp 127) rfl rfl (g8) (z) (hz) x8 x127 m8 hz_len hz1 ?_
      replace m1 : Ob (w16.setRow g8 ((z).map V : List Value).toArray) (g1) 50 ((pb).map V ++ ([.int .i64 ((kd : Nat) : Int), .int .i64 ((ht : Nat) : Int), mv, .int .i64 ((kd : Nat) : Int), .int .i64 ((i : Nat) : Int), .slice sA (S).length sC, .slice pA (P).length pC] : List Value)) := Ob.setRow_other m1 _ nm1_8
      replace m3 : Ob (w16.setRow g8 ((z).map V : List Value).toArray) (g3) 38 ([.int .i64 ((kd : Nat) : Int), .int .i64 ((i : Nat) : Int), .slice sA (S).length sC, .slice pA (P).length pC]) := Ob.setRow_other m3 _ nm3_8
      replace m6 : Ob (w16.setRow g8 ((z).map V : List Value).toArray) (g6) 23 ((y).map V) := Ob.setRow_other m6 _ nm6_8
      replace m8 : Ob (w16.setRow g8 ((z).map V : List Value).toArray) (g8) 23 ((z).map V) := Ob.setRow m8 ((z).map V)
      replace bl : Below w.heap.size w (w16.setRow g8 ((z).map V : List Value).toArray) := bl.trans (below_setRow _ _ _ _ hw8)
      generalize w16.setRow g8 ((z).map V : List Value).toArray = w17b at bl m1 m3 m6 m8 ⊢
      refine wpList_nil ?_
      clear x127
      show Code.wp _ _ _ _ _
      refine wp_seq ?_
      refine wp_seq ?_
      obtain ⟨B, eBs⟩ : ∃ B, Box (sds i ht = B) := ⟨_, ⟨rfl⟩⟩
      have hBl : B.length = ht := by rw [← eBs.out, sds_len]
      -- R16
      refine wp_all_seq [.eq (.pointer (some ⟨g3, 1, none⟩)), .eq (.int .i64 ((i : Nat) : Int)), .eq (.pointer (some ⟨g1, 33, none⟩)), .eq (.int .i64 ((ht : Nat) : Int)), .bn w17b.heap.size (B), .eq (.int .i64 ((B.length : Nat) : Int)), .eq (.int .i64 0)] (by kernel_rfl) (by kernel_rfl) (by rw [sz]; kernel_rfl) (by kernel_rfl) ⟨fun hw ac u K => ?_, fun hw ac u K => ?_, fun hw ac u K => ?_, fun hw ac u K => ?_, fun hw ac u K => ?_, fun hw ac u K => ?_, fun hw ac u K => ?_, trivial⟩ ?_
      · exact st_field 38 1 (.tmp 3) rfl ((K.old 3 rfl).trans x3) (by kernel_rfl)
      · exact st_loadc 3 (.tmp 128) rfl (by kernel_rfl) (K.dep 0 128 rfl) (Ob.cell (Ob.below m3 K.grow) 1 rfl)
      · exact st_field 50 2 (.tmp 1) rfl ((K.old 1 rfl).trans x1) (by kernel_rfl)
      · exact st_loadc 3 (.tmp 130) rfl (by kernel_rfl) (K.dep 2 130 rfl) (Ob.cell (Ob.below m1 K.grow) 33 ((at_head hpb 1 _).trans rfl))
      · exact st_call 25 (.func 25) _ _ #[.int .i64 ((i : Nat) : Int), .int .i64 ((ht : Nat) : Int)] rfl rfl (arg2 (K.dep 1 129 rfl) (K.dep 3 131 rfl)) Tryd.enter25 (by have h := fk_bn K.grow.size (sides_any i ht hi3 (by omega) _); rw [eBs.out] at h; exact h)
      · exact st_lenbn (.tmp 132) rfl (K.dep 4 132 rfl)
      · exact st_move (.const (.int .i64 0)) rfl rfl
      intro f18 w18 A hb
      replace bl0 := bl
      replace x1 := (A.old 1 rfl).trans x1
      replace x2 := (A.old 2 rfl).trans x2
      replace x3 := (A.old 3 rfl).trans x3
      replace x29 := (A.old 29 rfl).trans x29
      replace x4 := (A.old 4 rfl).trans x4
      replace x58 := (A.old 58 rfl).trans x58
      replace x66 := (A.old 66 rfl).trans x66
      replace x99 := (A.old 99 rfl).trans x99
      replace x6 := (A.old 6 rfl).trans x6
      replace x116 := (A.old 116 rfl).trans x116
      replace x8 := (A.old 8 rfl).trans x8
      have x132 : Fk.f (.bn w17b.heap.size (B)) (f18.eval (.tmp 132)) w18 := A.has 4 132 rfl
      have x133 : f18.eval (.tmp 133) = .int .i64 ((B.length : Nat) : Int) := A.has 5 133 rfl
      have x134 : f18.eval (.tmp 134) = .int .i64 0 := A.has 6 134 rfl
      have lt_m1 := Ob.lt m1
      replace m1 := Ob.below m1 hb
      have lt_m3 := Ob.lt m3
      replace m3 := Ob.below m3 hb
      have lt_m6 := Ob.lt m6
      replace m6 := Ob.below m6 hb
      have lt_m8 := Ob.lt m8
      replace m8 := Ob.below m8 hb
      replace bl := (bl.trans (Below.mono hb bl.size))
      replace sz := A.size.trans sz
      replace df := A.defs.trans df
      clear A hb
      obtain ⟨bA, bC, bb, bo, e132, hgb, qB⟩ := x132
      have x132 : Fk.f (.eq (.slice bA (B).length bC)) (f18.eval (.tmp 132)) w18 := e132
      clear e132
      have nB8 : 0 < B.length → bb ≠ g8 := fun h => Nat.ne_of_gt (Nat.lt_of_lt_of_le lt_m8 (hgb h))
      show Code.wp _ _ _ _ _
      refine wp_block ?_
      refine wp_loop (fun f v1 => ∃ k : Nat, k ≤ ht ∧ f.tmps.size = 165 ∧ f.defers = [] ∧ f.eval (.tmp 1) = .pointer (some ⟨g1, 0, none⟩) ∧ f.eval (.tmp 2) = .bool false ∧ f.eval (.tmp 3) = .pointer (some ⟨g3, 0, none⟩) ∧ f.eval (.tmp 29) = .bool false ∧ f.eval (.tmp 4) = .int .i64 (vr) ∧ f.eval (.tmp 58) = .bool false ∧ f.eval (.tmp 66) = .bool false ∧ f.eval (.tmp 99) = .bool false ∧ f.eval (.tmp 6) = .pointer (some ⟨g6, 0, none⟩) ∧ f.eval (.tmp 116) = .bool false ∧ f.eval (.tmp 8) = .pointer (some ⟨g8, 0, none⟩) ∧ f.eval (.tmp 132) = .slice bA (B).length bC ∧ f.eval (.tmp 133) = .int .i64 ((B.length : Nat) : Int) ∧ f.eval (.tmp 134) = .int .i64 ((k : Nat) : Int) ∧ Ob v1 (g1) 50 ((pb).map V ++ ([.int .i64 ((kd : Nat) : Int), .int .i64 ((ht : Nat) : Int), mv, .int .i64 ((kd : Nat) : Int), .int .i64 ((i : Nat) : Int), .slice sA (S).length sC, .slice pA (P).length pC] : List Value)) ∧ Ob v1 (g3) 38 ([.int .i64 ((kd : Nat) : Int), .int .i64 ((i : Nat) : Int), .slice sA (S).length sC, .slice pA (P).length pC]) ∧ Ob v1 (g6) 23 ((y).map V) ∧ Ob v1 (g8) 23 ((up i P z k).map V) ∧ Bl v1 bA bb bo B ∧ Below w.heap.size w (v1)) (fun f _ => ht - (intOf (f.eval (.tmp 134))).toNat) ⟨0, Nat.zero_le _, sz, df, x1, x2, x3, x29, x4, x58, x66, x99, x6, x116, x8, x132, x133, x134, m1, m3, m6, m8, qB, bl⟩ ?_
      intro f19 w19 hI
      clear sz df bl bl0 x1 x2 x3 x29 x4 x58 x66 x99 x6 x116 x8 x132 x133 x134 m1 m3 m6 m8 qB
      obtain ⟨k, hk, sz, df, x1, x2, x3, x29, x4, x58, x66, x99, x6, x116, x8, x132, x133, x134, m1, m3, m6, m8, qB, bl⟩ := hI
      have bl0 := bl
      have hcnt := x134
      obtain ⟨un, eu⟩ : ∃ u, Box (up i P z k = u) := ⟨_, ⟨rfl⟩⟩
      have hul : un.length = 32 := by rw [← eu.out]; exact up_len _ _ _ hz1 _
      rw [eu.out] at m8
      refine wp_seq ?_
      by_cases hlt : k < ht
      rotate_left
      · skip
        obtain rfl : k = ht := by omega
        -- R17
        refine wp_all_seq [.eq (.bool false)] (by kernel_rfl) (by kernel_rfl) (by rw [sz]; kernel_rfl) (by kernel_rfl) ⟨fun hw ac u K => ?_, trivial⟩ ?_
        · exact st_lss 3 (.tmp 134) (.tmp 133) rfl .i64 (((k : Nat) : Int)) (((B.length : Nat) : Int)) ((K.old 134 rfl).trans x134) ((K.old 133 rfl).trans x133) _ (by first | (simp; done) | (simp; omega))
        intro f20 w20 A hb
        replace bl0 := bl
        replace x1 := (A.old 1 rfl).trans x1
        replace x2 := (A.old 2 rfl).trans x2
        replace x3 := (A.old 3 rfl).trans x3
        replace x29 := (A.old 29 rfl).trans x29
        replace x4 := (A.old 4 rfl).trans x4
        replace x58 := (A.old 58 rfl).trans x58
        replace x66 := (A.old 66 rfl).trans x66
        replace x99 := (A.old 99 rfl).trans x99
        replace x6 := (A.old 6 rfl).trans x6
        replace x116 := (A.old 116 rfl).trans x116
        replace x8 := (A.old 8 rfl).trans x8
        replace x132 := (A.old 132 rfl).trans x132
        replace x133 := (A.old 133 rfl).trans x133
        replace x134 := (A.old 134 rfl).trans x134
        have x135 : f20.eval (.tmp 135) = .bool false := A.has 0 135 rfl
        have lt_m1 := Ob.lt m1
        replace m1 := Ob.below m1 hb
        have lt_m3 := Ob.lt m3
        replace m3 := Ob.below m3 hb
        have lt_m6 := Ob.lt m6
        replace m6 := Ob.below m6 hb
        have lt_m8 := Ob.lt m8
        replace m8 := Ob.below m8 hb
        replace qB := Bl.below qB hb
        replace bl := (bl.trans (Below.mono hb bl.size))
        replace sz := A.size.trans sz
        replace df := A.defs.trans df
        clear A hb
        show Code.wp _ _ _ _ _
        refine wp_seq ?_
        refine wp_cond_false x135 ?_
        refine wp_exit ?_
        show Code.wp _ _ _ _ _
        refine wp_seq ?_
        -- R23
        refine wp_all_seq [.eq (.int .i64 0)] (by kernel_rfl) (by kernel_rfl) (by rw [sz]; kernel_rfl) (by kernel_rfl) ⟨fun hw ac u K => ?_, trivial⟩ ?_
        · exact st_assign (.const (.int .i64 0)) rfl rfl
        intro f21 w21 A hb
        replace bl0 := bl
        replace x1 := (A.old 1 rfl).trans x1
        replace x2 := (A.old 2 rfl).trans x2
        replace x3 := (A.old 3 rfl).trans x3
        replace x29 := (A.old 29 rfl).trans x29
        replace x4 := (A.old 4 rfl).trans x4
        replace x58 := (A.old 58 rfl).trans x58
        replace x66 := (A.old 66 rfl).trans x66
        replace x99 := (A.old 99 rfl).trans x99
        replace x6 := (A.old 6 rfl).trans x6
        replace x116 := (A.old 116 rfl).trans x116
        replace x8 := (A.old 8 rfl).trans x8
        replace x132 := (A.old 132 rfl).trans x132
        replace x133 := (A.old 133 rfl).trans x133
        replace x134 := (A.old 134 rfl).trans x134
        replace x135 := (A.old 135 rfl).trans x135
        have x11 : f21.eval (.tmp 11) = .int .i64 0 := A.has 0 11 rfl
        have lt_m1 := Ob.lt m1
        replace m1 := Ob.below m1 hb
        have lt_m3 := Ob.lt m3
        replace m3 := Ob.below m3 hb
        have lt_m6 := Ob.lt m6
        replace m6 := Ob.below m6 hb
        have lt_m8 := Ob.lt m8
        replace m8 := Ob.below m8 hb
        replace qB := Bl.below qB hb
        replace bl := (bl.trans (Below.mono hb bl.size))
        replace sz := A.size.trans sz
        replace df := A.defs.trans df
        clear A hb
        show Code.wp _ _ _ _ _
        refine wp_seq ?_
        refine wp_seq ?_
        by_cases hup : up i P z P.length = pb
        rotate_left
        · skip
          rw [if_neg hup] at hvr
          rw [hP] at hup
          -- R24
          refine wp_all_seq [.eq (.agg ((un).map V).toArray), .eq (.pointer (some ⟨g1, 0, none⟩)), .eq (.agg ((pb).map V).toArray), .eq (.bool true)] (by kernel_rfl) (by kernel_rfl) (by rw [sz]; kernel_rfl) (by kernel_rfl) ⟨fun hw ac u K => ?_, fun hw ac u K => ?_, fun hw ac u K => ?_, fun hw ac u K => ?_, trivial⟩ ?_
          · exact st_load23 (.tmp 8) rfl (g8) (un) ((K.old 8 rfl).trans x8) hul (Ob.below m8 K.grow)
          · exact st_field 50 0 (.tmp 1) rfl ((K.old 1 rfl).trans x1) (by kernel_rfl)
          · exact st_loadhd (.tmp 156) rfl (g1) (pb) (K.dep 1 156 rfl) hpb (Ob.below m1 K.grow)
          · exact st_neqh (.tmp 155) (.tmp 157) rfl (un) (pb) hul hpb (K.dep 0 155 rfl) (K.dep 2 157 rfl) _ (by rw [← eu.out]; simp [hup])
          intro f22 w22 A hb
          replace bl0 := bl
          replace x1 := (A.old 1 rfl).trans x1
          replace x2 := (A.old 2 rfl).trans x2
          replace x3 := (A.old 3 rfl).trans x3
          replace x29 := (A.old 29 rfl).trans x29
          replace x4 := (A.old 4 rfl).trans x4
          replace x58 := (A.old 58 rfl).trans x58
          replace x66 := (A.old 66 rfl).trans x66
          replace x99 := (A.old 99 rfl).trans x99
          replace x6 := (A.old 6 rfl).trans x6
          replace x116 := (A.old 116 rfl).trans x116
          replace x8 := (A.old 8 rfl).trans x8
          replace x132 := (A.old 132 rfl).trans x132
          replace x133 := (A.old 133 rfl).trans x133
          replace x134 := (A.old 134 rfl).trans x134
          replace x135 := (A.old 135 rfl).trans x135
          replace x11 := (A.old 11 rfl).trans x11
          have x158 : f22.eval (.tmp 158) = .bool true := A.has 3 158 rfl
          have lt_m1 := Ob.lt m1
          replace m1 := Ob.below m1 hb
          have lt_m3 := Ob.lt m3
          replace m3 := Ob.below m3 hb
          have lt_m6 := Ob.lt m6
          replace m6 := Ob.below m6 hb
          have lt_m8 := Ob.lt m8
          replace m8 := Ob.below m8 hb
          replace qB := Bl.below qB hb
          replace bl := (bl.trans (Below.mono hb bl.size))
          replace sz := A.size.trans sz
          replace df := A.defs.trans df
          clear A hb
          show Code.wp _ _ _ _ _
          refine wp_cond_true x158 ?_
          -- R25
          refine wp_all_seq [.eq (.int .i64 21)] (by kernel_rfl) (by kernel_rfl) (by rw [sz]; kernel_rfl) (by kernel_rfl) ⟨fun hw ac u K => ?_, trivial⟩ ?_
          · exact st_assign (.const (.int .i64 21)) rfl rfl
          intro f23 w23 A hb
          replace bl0 := bl
          replace x1 := (A.old 1 rfl).trans x1
          replace x2 := (A.old 2 rfl).trans x2
          replace x3 := (A.old 3 rfl).trans x3
          replace x29 := (A.old 29 rfl).trans x29
          replace x4 := (A.old 4 rfl).trans x4
          replace x58 := (A.old 58 rfl).trans x58
          replace x66 := (A.old 66 rfl).trans x66
          replace x99 := (A.old 99 rfl).trans x99
          replace x6 := (A.old 6 rfl).trans x6
          replace x116 := (A.old 116 rfl).trans x116
          replace x8 := (A.old 8 rfl).trans x8
          replace x132 := (A.old 132 rfl).trans x132
          replace x133 := (A.old 133 rfl).trans x133
          replace x134 := (A.old 134 rfl).trans x134
          replace x135 := (A.old 135 rfl).trans x135
          clear x11
          replace x158 := (A.old 158 rfl).trans x158
          have x11 : f23.eval (.tmp 11) = .int .i64 21 := A.has 0 11 rfl
          have lt_m1 := Ob.lt m1
          replace m1 := Ob.below m1 hb
          have lt_m3 := Ob.lt m3
          replace m3 := Ob.below m3 hb
          have lt_m6 := Ob.lt m6
          replace m6 := Ob.below m6 hb
          have lt_m8 := Ob.lt m8
          replace m8 := Ob.below m8 hb
          replace qB := Bl.below qB hb
          replace bl := (bl.trans (Below.mono hb bl.size))
          replace sz := A.size.trans sz
          replace df := A.defs.trans df
          clear A hb
          show Code.wp _ _ _ _ _
          refine wp_seq ?_
          -- R26
          refine wp_all_seq [.eq (.int .i64 (vr)), .eq (.int .i64 21), .eq (.bool true), .eq (.bool true), .eq (.bool true), .eq (.bool true), .eq (.bool true)] (by kernel_rfl) (by kernel_rfl) (by rw [sz]; kernel_rfl) (by kernel_rfl) ⟨fun hw ac u K => ?_, fun hw ac u K => ?_, fun hw ac u K => ?_, fun hw ac u K => ?_, fun hw ac u K => ?_, fun hw ac u K => ?_, fun hw ac u K => ?_, trivial⟩ ?_
          · exact st_move (.tmp 4) rfl ((K.old 4 rfl).trans x4)
          · exact st_move (.tmp 11) rfl ((K.old 11 rfl).trans x11)
          · exact st_eqi 29 (.tmp 159) (.tmp 160) rfl .i64 ((vr)) (21) (K.dep 0 159 rfl) (K.dep 1 160 rfl) _ (by simp [hvr])
          · exact st_move (.tmp 161) rfl (K.dep 2 161 rfl)
          · exact st_call 8 (.func 8) _ _ #[] rfl rfl rfl Tryd.enter8 (fk_of (awake_any _ (hK.below (bl.trans (Below.mono K.grow bl.size)))))
          · exact st_pick_t (.tmp 162) (.tmp 163) (.const (.bool false)) rfl (K.dep 3 162 rfl) (K.dep 4 163 rfl)
          · exact st_assign (.tmp 164) rfl (K.dep 5 164 rfl)
          intro f24 w24 A hb
          replace bl0 := bl
          replace x1 := (A.old 1 rfl).trans x1
          clear x2
          replace x3 := (A.old 3 rfl).trans x3
          replace x29 := (A.old 29 rfl).trans x29
          replace x4 := (A.old 4 rfl).trans x4
          replace x58 := (A.old 58 rfl).trans x58
          replace x66 := (A.old 66 rfl).trans x66
          replace x99 := (A.old 99 rfl).trans x99
          replace x6 := (A.old 6 rfl).trans x6
          replace x116 := (A.old 116 rfl).trans x116
          replace x8 := (A.old 8 rfl).trans x8
          replace x132 := (A.old 132 rfl).trans x132
          replace x133 := (A.old 133 rfl).trans x133
          replace x134 := (A.old 134 rfl).trans x134
          replace x135 := (A.old 135 rfl).trans x135
          replace x158 := (A.old 158 rfl).trans x158
          replace x11 := (A.old 11 rfl).trans x11
          have x2 : f24.eval (.tmp 2) = .bool true := A.has 6 2 rfl
          have lt_m1 := Ob.lt m1
          replace m1 := Ob.below m1 hb
          have lt_m3 := Ob.lt m3
          replace m3 := Ob.below m3 hb
          have lt_m6 := Ob.lt m6
          replace m6 := Ob.below m6 hb
          have lt_m8 := Ob.lt m8
          replace m8 := Ob.below m8 hb
          replace qB := Bl.below qB hb
          replace bl := (bl.trans (Below.mono hb bl.size))
          replace sz := A.size.trans sz
          replace df := A.defs.trans df
          clear A hb
          clear x11
          show Code.wp _ _ _ _ _
          refine wp_ret ?_
          repeat (first | with_reducible refine then_ret ?_ | with_reducible refine block_ret ?_)
          exact bodyPost_ret (v := .bool true) (ret_slot rfl f24 _ x2 _ _) df ⟨rfl, bl⟩
        rw [if_pos hup] at hvr
        rw [hP] at hup
        -- R24
        refine wp_all_seq [.eq (.agg ((un).map V).toArray), .eq (.pointer (some ⟨g1, 0, none⟩)), .eq (.agg ((pb).map V).toArray), .eq (.bool false)] (by kernel_rfl) (by kernel_rfl) (by rw [sz]; kernel_rfl) (by kernel_rfl) ⟨fun hw ac u K => ?_, fun hw ac u K => ?_, fun hw ac u K => ?_, fun hw ac u K => ?_, trivial⟩ ?_
        · exact st_load23 (.tmp 8) rfl (g8) (un) ((K.old 8 rfl).trans x8) hul (Ob.below m8 K.grow)
        · exact st_field 50 0 (.tmp 1) rfl ((K.old 1 rfl).trans x1) (by kernel_rfl)
        · exact st_loadhd (.tmp 156) rfl (g1) (pb) (K.dep 1 156 rfl) hpb (Ob.below m1 K.grow)
        · exact st_neqh (.tmp 155) (.tmp 157) rfl (un) (pb) hul hpb (K.dep 0 155 rfl) (K.dep 2 157 rfl) _ (by rw [← eu.out]; simp [hup])
        intro f22 w22 A hb
        replace bl0 := bl
        replace x1 := (A.old 1 rfl).trans x1
        replace x2 := (A.old 2 rfl).trans x2
        replace x3 := (A.old 3 rfl).trans x3
        replace x29 := (A.old 29 rfl).trans x29
        replace x4 := (A.old 4 rfl).trans x4
        replace x58 := (A.old 58 rfl).trans x58
        replace x66 := (A.old 66 rfl).trans x66
        replace x99 := (A.old 99 rfl).trans x99
        replace x6 := (A.old 6 rfl).trans x6
        replace x116 := (A.old 116 rfl).trans x116
        replace x8 := (A.old 8 rfl).trans x8
        replace x132 := (A.old 132 rfl).trans x132
        replace x133 := (A.old 133 rfl).trans x133
        replace x134 := (A.old 134 rfl).trans x134
        replace x135 := (A.old 135 rfl).trans x135
        replace x11 := (A.old 11 rfl).trans x11
        have x158 : f22.eval (.tmp 158) = .bool false := A.has 3 158 rfl
        have lt_m1 := Ob.lt m1
        replace m1 := Ob.below m1 hb
        have lt_m3 := Ob.lt m3
        replace m3 := Ob.below m3 hb
        have lt_m6 := Ob.lt m6
        replace m6 := Ob.below m6 hb
        have lt_m8 := Ob.lt m8
        replace m8 := Ob.below m8 hb
        replace qB := Bl.below qB hb
        replace bl := (bl.trans (Below.mono hb bl.size))
        replace sz := A.size.trans sz
        replace df := A.defs.trans df
        clear A hb
        show Code.wp _ _ _ _ _
        refine wp_cond_false x158 ?_
        refine wp_skip ?_
        show Code.wp _ _ _ _ _
        refine wp_seq ?_
        -- R26
        refine wp_all_seq [.eq (.int .i64 (vr)), .eq (.int .i64 0), .eq (.bool true), .eq (.bool true), .eq (.bool true), .eq (.bool true), .eq (.bool true)] (by kernel_rfl) (by kernel_rfl) (by rw [sz]; kernel_rfl) (by kernel_rfl) ⟨fun hw ac u K => ?_, fun hw ac u K => ?_, fun hw ac u K => ?_, fun hw ac u K => ?_, fun hw ac u K => ?_, fun hw ac u K => ?_, fun hw ac u K => ?_, trivial⟩ ?_
        · exact st_move (.tmp 4) rfl ((K.old 4 rfl).trans x4)
        · exact st_move (.tmp 11) rfl ((K.old 11 rfl).trans x11)
        · exact st_eqi 29 (.tmp 159) (.tmp 160) rfl .i64 ((vr)) (0) (K.dep 0 159 rfl) (K.dep 1 160 rfl) _ (by simp [hvr])
        · exact st_move (.tmp 161) rfl (K.dep 2 161 rfl)
        · exact st_call 8 (.func 8) _ _ #[] rfl rfl rfl Tryd.enter8 (fk_of (awake_any _ (hK.below (bl.trans (Below.mono K.grow bl.size)))))
        · exact st_pick_t (.tmp 162) (.tmp 163) (.const (.bool false)) rfl (K.dep 3 162 rfl) (K.dep 4 163 rfl)
        · exact st_assign (.tmp 164) rfl (K.dep 5 164 rfl)
        intro f23 w23 A hb
        replace bl0 := bl
        replace x1 := (A.old 1 rfl).trans x1
        clear x2
        replace x3 := (A.old 3 rfl).trans x3
        replace x29 := (A.old 29 rfl).trans x29
        replace x4 := (A.old 4 rfl).trans x4
        replace x58 := (A.old 58 rfl).trans x58
        replace x66 := (A.old 66 rfl).trans x66
        replace x99 := (A.old 99 rfl).trans x99
        replace x6 := (A.old 6 rfl).trans x6
        replace x116 := (A.old 116 rfl).trans x116
        replace x8 := (A.old 8 rfl).trans x8
        replace x132 := (A.old 132 rfl).trans x132
        replace x133 := (A.old 133 rfl).trans x133
        replace x134 := (A.old 134 rfl).trans x134
        replace x135 := (A.old 135 rfl).trans x135
        replace x11 := (A.old 11 rfl).trans x11
        replace x158 := (A.old 158 rfl).trans x158
        have x2 : f23.eval (.tmp 2) = .bool true := A.has 6 2 rfl
        have lt_m1 := Ob.lt m1
        replace m1 := Ob.below m1 hb
        have lt_m3 := Ob.lt m3
        replace m3 := Ob.below m3 hb
        have lt_m6 := Ob.lt m6
        replace m6 := Ob.below m6 hb
        have lt_m8 := Ob.lt m8
        replace m8 := Ob.below m8 hb
        replace qB := Bl.below qB hb
        replace bl := (bl.trans (Below.mono hb bl.size))
        replace sz := A.size.trans sz
        replace df := A.defs.trans df
        clear A hb
        clear x11
        show Code.wp _ _ _ _ _
        refine wp_ret ?_
        repeat (first | with_reducible refine then_ret ?_ | with_reducible refine block_ret ?_)
        exact bodyPost_ret (v := .bool true) (ret_slot rfl f23 _ x2 _ _) df ⟨rfl, bl⟩
      obtain ⟨p, hpk⟩ : ∃ p, P[k]? = some p := ⟨_, List.getElem?_eq_getElem (by omega)⟩
      have hp : p.length = 32 := hs_len vP hpk
      have hpg : P.getD k [] = p := by rw [List.getD_eq_getElem?_getD, hpk]; rfl
      have nb8 := nB8 (by omega)
      -- R17
      refine wp_all_seq [.eq (.bool true)] (by kernel_rfl) (by kernel_rfl) (by rw [sz]; kernel_rfl) (by kernel_rfl) ⟨fun hw ac u K => ?_, trivial⟩ ?_
      · exact st_lss 3 (.tmp 134) (.tmp 133) rfl .i64 (((k : Nat) : Int)) (((B.length : Nat) : Int)) ((K.old 134 rfl).trans x134) ((K.old 133 rfl).trans x133) _ (by first | (simp; done) | (simp; omega))
      intro f20 w20 A hb
      replace bl0 := bl
      replace x1 := (A.old 1 rfl).trans x1
      replace x2 := (A.old 2 rfl).trans x2
      replace x3 := (A.old 3 rfl).trans x3
      replace x29 := (A.old 29 rfl).trans x29
      replace x4 := (A.old 4 rfl).trans x4
      replace x58 := (A.old 58 rfl).trans x58
      replace x66 := (A.old 66 rfl).trans x66
      replace x99 := (A.old 99 rfl).trans x99
      replace x6 := (A.old 6 rfl).trans x6
      replace x116 := (A.old 116 rfl).trans x116
      replace x8 := (A.old 8 rfl).trans x8
      replace x132 := (A.old 132 rfl).trans x132
      replace x133 := (A.old 133 rfl).trans x133
      replace x134 := (A.old 134 rfl).trans x134
      have x135 : f20.eval (.tmp 135) = .bool true := A.has 0 135 rfl
      have lt_m1 := Ob.lt m1
      replace m1 := Ob.below m1 hb
      have lt_m3 := Ob.lt m3
      replace m3 := Ob.below m3 hb
      have lt_m6 := Ob.lt m6
      replace m6 := Ob.below m6 hb
      have lt_m8 := Ob.lt m8
      replace m8 := Ob.below m8 hb
      replace qB := Bl.below qB hb
      replace bl := (bl.trans (Below.mono hb bl.size))
      replace sz := A.size.trans sz
      replace df := A.defs.trans df
      clear A hb
      show Code.wp _ _ _ _ _
      refine wp_seq ?_
      refine wp_cond_true x135 ?_
      refine wp_skip ?_
      show Code.wp _ _ _ _ _
      refine wp_seq ?_
      refine wp_block ?_
      refine wp_seq ?_
      by_cases hev : i / 2 ^ k % 2 = 0
      rotate_left
      · skip
        have hBk : B[k]? = some true := by rw [← eBs.out, sds_at _ _ _ hlt]; simp; omega
        obtain ⟨u2, eu2⟩ : ∃ q, Box (nd p un = q) := ⟨_, ⟨rfl⟩⟩
        have hu2 : u2.length = 32 := by rw [← eu2.out]; exact nd_len _ _
        have eup : up i P z (k + 1) = u2 := by rw [up_odd hev, eu.out, hpg, eu2.out]
        -- R18
        refine wp_all_seq [.eq (.int .i64 ((k : Nat) : Int)), .pv (.bool true), .eq (.bool true), .eq (.int .i64 ((k : Nat) : Int)), .eq (.bool true)] (by kernel_rfl) (by kernel_rfl) (by rw [sz]; kernel_rfl) (by kernel_rfl) ⟨fun hw ac u K => ?_, fun hw ac u K => ?_, fun hw ac u K => ?_, fun hw ac u K => ?_, fun hw ac u K => ?_, trivial⟩ ?_
        · exact st_move (.tmp 134) rfl ((K.old 134 rfl).trans x134)
        · exact st_idxbl (.tmp 132) (.tmp 134) rfl (Bl.below qB K.grow) ((K.old 132 rfl).trans x132) k true ((K.old 134 rfl).trans x134) hBk
        · exact st_loadbl (.tmp 137) rfl (K.dep 1 137 rfl)
        · exact st_assign (.tmp 136) rfl (K.dep 0 136 rfl)
        · exact st_assign (.tmp 138) rfl (K.dep 2 138 rfl)
        intro f21 w21 A hb
        replace bl0 := bl
        replace x1 := (A.old 1 rfl).trans x1
        replace x2 := (A.old 2 rfl).trans x2
        replace x3 := (A.old 3 rfl).trans x3
        replace x29 := (A.old 29 rfl).trans x29
        replace x4 := (A.old 4 rfl).trans x4
        replace x58 := (A.old 58 rfl).trans x58
        replace x66 := (A.old 66 rfl).trans x66
        replace x99 := (A.old 99 rfl).trans x99
        replace x6 := (A.old 6 rfl).trans x6
        replace x116 := (A.old 116 rfl).trans x116
        replace x8 := (A.old 8 rfl).trans x8
        replace x132 := (A.old 132 rfl).trans x132
        replace x133 := (A.old 133 rfl).trans x133
        replace x134 := (A.old 134 rfl).trans x134
        replace x135 := (A.old 135 rfl).trans x135
        have x9 : f21.eval (.tmp 9) = .int .i64 ((k : Nat) : Int) := A.has 3 9 rfl
        have x10 : f21.eval (.tmp 10) = .bool true := A.has 4 10 rfl
        have lt_m1 := Ob.lt m1
        replace m1 := Ob.below m1 hb
        have lt_m3 := Ob.lt m3
        replace m3 := Ob.below m3 hb
        have lt_m6 := Ob.lt m6
        replace m6 := Ob.below m6 hb
        have lt_m8 := Ob.lt m8
        replace m8 := Ob.below m8 hb
        replace qB := Bl.below qB hb
        replace bl := (bl.trans (Below.mono hb bl.size))
        replace sz := A.size.trans sz
        replace df := A.defs.trans df
        clear A hb
        show Code.wp _ _ _ _ _
        refine wp_seq ?_
        -- R19
        refine wp_all_seq [.eq (.bool true)] (by kernel_rfl) (by kernel_rfl) (by rw [sz]; kernel_rfl) (by kernel_rfl) ⟨fun hw ac u K => ?_, trivial⟩ ?_
        · exact st_move (.tmp 10) rfl ((K.old 10 rfl).trans x10)
        intro f22 w22 A hb
        replace bl0 := bl
        replace x1 := (A.old 1 rfl).trans x1
        replace x2 := (A.old 2 rfl).trans x2
        replace x3 := (A.old 3 rfl).trans x3
        replace x29 := (A.old 29 rfl).trans x29
        replace x4 := (A.old 4 rfl).trans x4
        replace x58 := (A.old 58 rfl).trans x58
        replace x66 := (A.old 66 rfl).trans x66
        replace x99 := (A.old 99 rfl).trans x99
        replace x6 := (A.old 6 rfl).trans x6
        replace x116 := (A.old 116 rfl).trans x116
        replace x8 := (A.old 8 rfl).trans x8
        replace x132 := (A.old 132 rfl).trans x132
        replace x133 := (A.old 133 rfl).trans x133
        replace x134 := (A.old 134 rfl).trans x134
        replace x135 := (A.old 135 rfl).trans x135
        replace x9 := (A.old 9 rfl).trans x9
        replace x10 := (A.old 10 rfl).trans x10
        have x139 : f22.eval (.tmp 139) = .bool true := A.has 0 139 rfl
        have lt_m1 := Ob.lt m1
        replace m1 := Ob.below m1 hb
        have lt_m3 := Ob.lt m3
        replace m3 := Ob.below m3 hb
        have lt_m6 := Ob.lt m6
        replace m6 := Ob.below m6 hb
        have lt_m8 := Ob.lt m8
        replace m8 := Ob.below m8 hb
        replace qB := Bl.below qB hb
        replace bl := (bl.trans (Below.mono hb bl.size))
        replace sz := A.size.trans sz
        replace df := A.defs.trans df
        clear A hb
        clear x10
        show Code.wp _ _ _ _ _
        refine wp_cond_true x139 ?_
        -- R20
        refine wp_region_tail [.eq (.pointer (some ⟨g3, 3, none⟩)), .eq (.slice pA (P).length pC), .eq (.int .i64 ((k : Nat) : Int)), .ph (p), .eq (.agg ((p).map V).toArray), .eq (.agg ((un).map V).toArray), .eq (.agg ((u2).map V).toArray)] [7] Tryd.mixed (by kernel_rfl) (by kernel_rfl) (by kernel_rfl) (by kernel_rfl) (by rw [sz]; kernel_rfl) (by kernel_rfl) ⟨fun hw ac u K => ?_, fun hw ac u K => ?_, fun hw ac u K => ?_, fun hw ac u K => ?_, fun hw ac u K => ?_, fun hw ac u K => ?_, fun hw ac u K => ?_, trivial⟩ ?_
        · exact st_field 38 3 (.tmp 3) rfl ((K.old 3 rfl).trans x3) (by kernel_rfl)
        · exact st_loadc 32 (.tmp 140) rfl (by kernel_rfl) (K.dep 0 140 rfl) (Ob.cell (Ob.below m3 K.grow) 3 rfl)
        · exact st_move (.tmp 9) rfl ((K.old 9 rfl).trans x9)
        · exact st_idxh (.tmp 141) (.tmp 142) rfl (fk_val (K.dep 1 141 rfl) (Fk.mono _ _ _ _ vP (bl.trans (Below.mono K.grow bl.size)))) (k) (p) (K.dep 2 142 rfl) hpk
        · exact st_loadh (.tmp 143) rfl (K.dep 3 143 rfl)
        · exact st_load23 (.tmp 8) rfl (g8) (un) ((K.old 8 rfl).trans x8) hul (Ob.below m8 K.grow)
        · exact st_call 26 (.func 26) _ _ #[.agg ((p).map V).toArray, .agg ((un).map V).toArray] rfl rfl (arg2 (K.dep 4 144 rfl) (K.dep 5 145 rfl)) Tryd.enter26 (fk_node hp hul (hK.below (bl.trans (Below.mono K.grow bl.size))) eu2)
        intro f23 w23 A hb
        replace bl0 := bl
        replace x1 := (A.old 1 rfl).trans x1
        replace x2 := (A.old 2 rfl).trans x2
        replace x3 := (A.old 3 rfl).trans x3
        replace x29 := (A.old 29 rfl).trans x29
        replace x4 := (A.old 4 rfl).trans x4
        replace x58 := (A.old 58 rfl).trans x58
        replace x66 := (A.old 66 rfl).trans x66
        replace x99 := (A.old 99 rfl).trans x99
        replace x6 := (A.old 6 rfl).trans x6
        replace x116 := (A.old 116 rfl).trans x116
        replace x8 := (A.old 8 rfl).trans x8
        replace x132 := (A.old 132 rfl).trans x132
        replace x133 := (A.old 133 rfl).trans x133
        replace x134 := (A.old 134 rfl).trans x134
        replace x135 := (A.old 135 rfl).trans x135
        replace x9 := (A.old 9 rfl).trans x9
        replace x139 := (A.old 139 rfl).trans x139
        have x146 : f23.eval (.tmp 146) = .agg ((u2).map V).toArray := A.has 6 146 rfl
        have lt_m1 := Ob.lt m1
        replace m1 := Ob.below m1 hb
        have lt_m3 := Ob.lt m3
        replace m3 := Ob.below m3 hb
        have lt_m6 := Ob.lt m6
        replace m6 := Ob.below m6 hb
        have lt_m8 := Ob.lt m8
        replace m8 := Ob.below m8 hb
        replace qB := Bl.below qB hb
        replace bl := (bl.trans (Below.mono hb bl.size))
        replace sz := A.size.trans sz
        replace df := A.defs.trans df
        clear A hb
        refine wl_store rfl (.tmp 8) (.tmp 146) rfl rfl (g8) (u2) (un) x8 x146 m8 hul hu2 ?_
        replace qB := Bl.onlyN qB ((Only.refl g8 _).setRow ((u2).map V : List Value).toArray) nb8
        replace m1 : Ob (w23.setRow g8 ((u2).map V : List Value).toArray) (g1) 50 ((pb).map V ++ ([.int .i64 ((kd : Nat) : Int), .int .i64 ((ht : Nat) : Int), mv, .int .i64 ((kd : Nat) : Int), .int .i64 ((i : Nat) : Int), .slice sA (S).length sC, .slice pA (P).length pC] : List Value)) := Ob.setRow_other m1 _ nm1_8
        replace m3 : Ob (w23.setRow g8 ((u2).map V : List Value).toArray) (g3) 38 ([.int .i64 ((kd : Nat) : Int), .int .i64 ((i : Nat) : Int), .slice sA (S).length sC, .slice pA (P).length pC]) := Ob.setRow_other m3 _ nm3_8
        replace m6 : Ob (w23.setRow g8 ((u2).map V : List Value).toArray) (g6) 23 ((y).map V) := Ob.setRow_other m6 _ nm6_8
        replace m8 : Ob (w23.setRow g8 ((u2).map V : List Value).toArray) (g8) 23 ((u2).map V) := Ob.setRow m8 ((u2).map V)
        replace bl : Below w.heap.size w (w23.setRow g8 ((u2).map V : List Value).toArray) := bl.trans (below_setRow _ _ _ _ hw8)
        generalize w23.setRow g8 ((u2).map V : List Value).toArray = w24b at bl m1 m3 m6 m8 qB ⊢
        refine wpList_nil ?_
        clear x146
        show Code.wp _ _ _ _ _
        -- R22
        refine wp_region_seq [.eq (.int .i64 ((k + 1 : Nat) : Int))] (by kernel_rfl) (by kernel_rfl) (by rw [sz]; kernel_rfl) (by kernel_rfl) ⟨fun hw ac u K => ?_, trivial⟩ ?_
        · exact st_add (.tmp 134) (.const (.int .i64 1)) rfl (k) (1) (k + 1) ((K.old 134 rfl).trans x134) rfl (by omega) (by omega)
        intro f25 w25 A hb
        replace bl0 := bl
        replace x1 := (A.old 1 rfl).trans x1
        replace x2 := (A.old 2 rfl).trans x2
        replace x3 := (A.old 3 rfl).trans x3
        replace x29 := (A.old 29 rfl).trans x29
        replace x4 := (A.old 4 rfl).trans x4
        replace x58 := (A.old 58 rfl).trans x58
        replace x66 := (A.old 66 rfl).trans x66
        replace x99 := (A.old 99 rfl).trans x99
        replace x6 := (A.old 6 rfl).trans x6
        replace x116 := (A.old 116 rfl).trans x116
        replace x8 := (A.old 8 rfl).trans x8
        replace x132 := (A.old 132 rfl).trans x132
        replace x133 := (A.old 133 rfl).trans x133
        replace x134 := (A.old 134 rfl).trans x134
        replace x135 := (A.old 135 rfl).trans x135
        replace x9 := (A.old 9 rfl).trans x9
        replace x139 := (A.old 139 rfl).trans x139
        have x154 : f25.eval (.tmp 154) = .int .i64 ((k + 1 : Nat) : Int) := A.has 0 154 rfl
        have lt_m1 := Ob.lt m1
        replace m1 := Ob.below m1 hb
        have lt_m3 := Ob.lt m3
        replace m3 := Ob.below m3 hb
        have lt_m6 := Ob.lt m6
        replace m6 := Ob.below m6 hb
        have lt_m8 := Ob.lt m8
        replace m8 := Ob.below m8 hb
        replace qB := Bl.below qB hb
        replace bl := (bl.trans (Below.mono hb bl.size))
        replace sz := A.size.trans sz
        replace df := A.defs.trans df
        clear A hb
        refine wl_one (.eq (.int .i64 ((k + 1 : Nat) : Int))) rfl 134 rfl (by rw [sz]; decide) (st_move (.tmp 154) rfl x154) ?_
        intro f26 w26 df2 sz2 old2 new2 hb
        replace bl0 := bl
        replace x1 := (old2 1 rfl).trans x1
        replace x2 := (old2 2 rfl).trans x2
        replace x3 := (old2 3 rfl).trans x3
        replace x29 := (old2 29 rfl).trans x29
        replace x4 := (old2 4 rfl).trans x4
        replace x58 := (old2 58 rfl).trans x58
        replace x66 := (old2 66 rfl).trans x66
        replace x99 := (old2 99 rfl).trans x99
        replace x6 := (old2 6 rfl).trans x6
        replace x116 := (old2 116 rfl).trans x116
        replace x8 := (old2 8 rfl).trans x8
        replace x132 := (old2 132 rfl).trans x132
        replace x133 := (old2 133 rfl).trans x133
        clear x134
        replace x135 := (old2 135 rfl).trans x135
        replace x9 := (old2 9 rfl).trans x9
        replace x139 := (old2 139 rfl).trans x139
        replace x154 := (old2 154 rfl).trans x154
        have x134 : f26.eval (.tmp 134) = .int .i64 ((k + 1 : Nat) : Int) := new2
        have lt_m1 := Ob.lt m1
        replace m1 := Ob.below m1 hb
        have lt_m3 := Ob.lt m3
        replace m3 := Ob.below m3 hb
        have lt_m6 := Ob.lt m6
        replace m6 := Ob.below m6 hb
        have lt_m8 := Ob.lt m8
        replace m8 := Ob.below m8 hb
        replace qB := Bl.below qB hb
        replace bl := (bl.trans (Below.mono hb bl.size))
        replace sz := sz2.trans sz
        replace df := df2.trans df
        clear df2 sz2 old2 new2 hb
        refine wpList_nil ?_
        clear x154
        show (∃ _, _) ∧ _
        refine ⟨⟨k + 1, by omega, sz, df, x1, x2, x3, x29, x4, x58, x66, x99, x6, x116, x8, x132, x133, x134, m1, m3, m6, (by rw [eup]; exact m8), qB, bl⟩, ?_⟩
        rw [show f26.eval (.tmp 134) = _ from x134, show _ = _ from hcnt]
        simp [intOf]
        omega
      have hBk : B[k]? = some false := by rw [← eBs.out, sds_at _ _ _ hlt]; simp; omega
      obtain ⟨u2, eu2⟩ : ∃ q, Box (nd un p = q) := ⟨_, ⟨rfl⟩⟩
      have hu2 : u2.length = 32 := by rw [← eu2.out]; exact nd_len _ _
      have eup : up i P z (k + 1) = u2 := by rw [up_even hev, eu.out, hpg, eu2.out]
      -- R18
      refine wp_all_seq [.eq (.int .i64 ((k : Nat) : Int)), .pv (.bool false), .eq (.bool false), .eq (.int .i64 ((k : Nat) : Int)), .eq (.bool false)] (by kernel_rfl) (by kernel_rfl) (by rw [sz]; kernel_rfl) (by kernel_rfl) ⟨fun hw ac u K => ?_, fun hw ac u K => ?_, fun hw ac u K => ?_, fun hw ac u K => ?_, fun hw ac u K => ?_, trivial⟩ ?_
      · exact st_move (.tmp 134) rfl ((K.old 134 rfl).trans x134)
      · exact st_idxbl (.tmp 132) (.tmp 134) rfl (Bl.below qB K.grow) ((K.old 132 rfl).trans x132) k false ((K.old 134 rfl).trans x134) hBk
      · exact st_loadbl (.tmp 137) rfl (K.dep 1 137 rfl)
      · exact st_assign (.tmp 136) rfl (K.dep 0 136 rfl)
      · exact st_assign (.tmp 138) rfl (K.dep 2 138 rfl)
      intro f21 w21 A hb
      replace bl0 := bl
      replace x1 := (A.old 1 rfl).trans x1
      replace x2 := (A.old 2 rfl).trans x2
      replace x3 := (A.old 3 rfl).trans x3
      replace x29 := (A.old 29 rfl).trans x29
      replace x4 := (A.old 4 rfl).trans x4
      replace x58 := (A.old 58 rfl).trans x58
      replace x66 := (A.old 66 rfl).trans x66
      replace x99 := (A.old 99 rfl).trans x99
      replace x6 := (A.old 6 rfl).trans x6
      replace x116 := (A.old 116 rfl).trans x116
      replace x8 := (A.old 8 rfl).trans x8
      replace x132 := (A.old 132 rfl).trans x132
      replace x133 := (A.old 133 rfl).trans x133
      replace x134 := (A.old 134 rfl).trans x134
      replace x135 := (A.old 135 rfl).trans x135
      have x9 : f21.eval (.tmp 9) = .int .i64 ((k : Nat) : Int) := A.has 3 9 rfl
      have x10 : f21.eval (.tmp 10) = .bool false := A.has 4 10 rfl
      have lt_m1 := Ob.lt m1
      replace m1 := Ob.below m1 hb
      have lt_m3 := Ob.lt m3
      replace m3 := Ob.below m3 hb
      have lt_m6 := Ob.lt m6
      replace m6 := Ob.below m6 hb
      have lt_m8 := Ob.lt m8
      replace m8 := Ob.below m8 hb
      replace qB := Bl.below qB hb
      replace bl := (bl.trans (Below.mono hb bl.size))
      replace sz := A.size.trans sz
      replace df := A.defs.trans df
      clear A hb
      show Code.wp _ _ _ _ _
      refine wp_seq ?_
      -- R19
      refine wp_all_seq [.eq (.bool false)] (by kernel_rfl) (by kernel_rfl) (by rw [sz]; kernel_rfl) (by kernel_rfl) ⟨fun hw ac u K => ?_, trivial⟩ ?_
      · exact st_move (.tmp 10) rfl ((K.old 10 rfl).trans x10)
      intro f22 w22 A hb
      replace bl0 := bl
      replace x1 := (A.old 1 rfl).trans x1
      replace x2 := (A.old 2 rfl).trans x2
      replace x3 := (A.old 3 rfl).trans x3
      replace x29 := (A.old 29 rfl).trans x29
      replace x4 := (A.old 4 rfl).trans x4
      replace x58 := (A.old 58 rfl).trans x58
      replace x66 := (A.old 66 rfl).trans x66
      replace x99 := (A.old 99 rfl).trans x99
      replace x6 := (A.old 6 rfl).trans x6
      replace x116 := (A.old 116 rfl).trans x116
      replace x8 := (A.old 8 rfl).trans x8
      replace x132 := (A.old 132 rfl).trans x132
      replace x133 := (A.old 133 rfl).trans x133
      replace x134 := (A.old 134 rfl).trans x134
      replace x135 := (A.old 135 rfl).trans x135
      replace x9 := (A.old 9 rfl).trans x9
      replace x10 := (A.old 10 rfl).trans x10
      have x139 : f22.eval (.tmp 139) = .bool false := A.has 0 139 rfl
      have lt_m1 := Ob.lt m1
      replace m1 := Ob.below m1 hb
      have lt_m3 := Ob.lt m3
      replace m3 := Ob.below m3 hb
      have lt_m6 := Ob.lt m6
      replace m6 := Ob.below m6 hb
      have lt_m8 := Ob.lt m8
      replace m8 := Ob.below m8 hb
      replace qB := Bl.below qB hb
      replace bl := (bl.trans (Below.mono hb bl.size))
      replace sz := A.size.trans sz
      replace df := A.defs.trans df
      clear A hb
      clear x10
      show Code.wp _ _ _ _ _
      refine wp_cond_false x139 ?_
      -- R21
      refine wp_region_tail [.eq (.agg ((un).map V).toArray), .eq (.pointer (some ⟨g3, 3, none⟩)), .eq (.slice pA (P).length pC), .eq (.int .i64 ((k : Nat) : Int)), .ph (p), .eq (.agg ((p).map V).toArray), .eq (.agg ((u2).map V).toArray)] [7] Tryd.mixed (by kernel_rfl) (by kernel_rfl) (by kernel_rfl) (by kernel_rfl) (by rw [sz]; kernel_rfl) (by kernel_rfl) ⟨fun hw ac u K => ?_, fun hw ac u K => ?_, fun hw ac u K => ?_, fun hw ac u K => ?_, fun hw ac u K => ?_, fun hw ac u K => ?_, fun hw ac u K => ?_, trivial⟩ ?_
      · exact st_load23 (.tmp 8) rfl (g8) (un) ((K.old 8 rfl).trans x8) hul (Ob.below m8 K.grow)
      · exact st_field 38 3 (.tmp 3) rfl ((K.old 3 rfl).trans x3) (by kernel_rfl)
      · exact st_loadc 32 (.tmp 148) rfl (by kernel_rfl) (K.dep 1 148 rfl) (Ob.cell (Ob.below m3 K.grow) 3 rfl)
      · exact st_move (.tmp 9) rfl ((K.old 9 rfl).trans x9)
      · exact st_idxh (.tmp 149) (.tmp 150) rfl (fk_val (K.dep 2 149 rfl) (Fk.mono _ _ _ _ vP (bl.trans (Below.mono K.grow bl.size)))) (k) (p) (K.dep 3 150 rfl) hpk
      · exact st_loadh (.tmp 151) rfl (K.dep 4 151 rfl)
      · exact st_call 26 (.func 26) _ _ #[.agg ((un).map V).toArray, .agg ((p).map V).toArray] rfl rfl (arg2 (K.dep 0 147 rfl) (K.dep 5 152 rfl)) Tryd.enter26 (fk_node hul hp (hK.below (bl.trans (Below.mono K.grow bl.size))) eu2)
      intro f23 w23 A hb
      replace bl0 := bl
      replace x1 := (A.old 1 rfl).trans x1
      replace x2 := (A.old 2 rfl).trans x2
      replace x3 := (A.old 3 rfl).trans x3
      replace x29 := (A.old 29 rfl).trans x29
      replace x4 := (A.old 4 rfl).trans x4
      replace x58 := (A.old 58 rfl).trans x58
      replace x66 := (A.old 66 rfl).trans x66
      replace x99 := (A.old 99 rfl).trans x99
      replace x6 := (A.old 6 rfl).trans x6
      replace x116 := (A.old 116 rfl).trans x116
      replace x8 := (A.old 8 rfl).trans x8
      replace x132 := (A.old 132 rfl).trans x132
      replace x133 := (A.old 133 rfl).trans x133
      replace x134 := (A.old 134 rfl).trans x134
      replace x135 := (A.old 135 rfl).trans x135
      replace x9 := (A.old 9 rfl).trans x9
      replace x139 := (A.old 139 rfl).trans x139
      have x153 : f23.eval (.tmp 153) = .agg ((u2).map V).toArray := A.has 6 153 rfl
      have lt_m1 := Ob.lt m1
      replace m1 := Ob.below m1 hb
      have lt_m3 := Ob.lt m3
      replace m3 := Ob.below m3 hb
      have lt_m6 := Ob.lt m6
      replace m6 := Ob.below m6 hb
      have lt_m8 := Ob.lt m8
      replace m8 := Ob.below m8 hb
      replace qB := Bl.below qB hb
      replace bl := (bl.trans (Below.mono hb bl.size))
      replace sz := A.size.trans sz
      replace df := A.defs.trans df
      clear A hb
      refine wl_store rfl (.tmp 8) (.tmp 153) rfl rfl (g8) (u2) (un) x8 x153 m8 hul hu2 ?_
      replace qB := Bl.onlyN qB ((Only.refl g8 _).setRow ((u2).map V : List Value).toArray) nb8
      replace m1 : Ob (w23.setRow g8 ((u2).map V : List Value).toArray) (g1) 50 ((pb).map V ++ ([.int .i64 ((kd : Nat) : Int), .int .i64 ((ht : Nat) : Int), mv, .int .i64 ((kd : Nat) : Int), .int .i64 ((i : Nat) : Int), .slice sA (S).length sC, .slice pA (P).length pC] : List Value)) := Ob.setRow_other m1 _ nm1_8
      replace m3 : Ob (w23.setRow g8 ((u2).map V : List Value).toArray) (g3) 38 ([.int .i64 ((kd : Nat) : Int), .int .i64 ((i : Nat) : Int), .slice sA (S).length sC, .slice pA (P).length pC]) := Ob.setRow_other m3 _ nm3_8
      replace m6 : Ob (w23.setRow g8 ((u2).map V : List Value).toArray) (g6) 23 ((y).map V) := Ob.setRow_other m6 _ nm6_8
      replace m8 : Ob (w23.setRow g8 ((u2).map V : List Value).toArray) (g8) 23 ((u2).map V) := Ob.setRow m8 ((u2).map V)
      replace bl : Below w.heap.size w (w23.setRow g8 ((u2).map V : List Value).toArray) := bl.trans (below_setRow _ _ _ _ hw8)
      generalize w23.setRow g8 ((u2).map V : List Value).toArray = w24b at bl m1 m3 m6 m8 qB ⊢
      refine wpList_nil ?_
      clear x153
      show Code.wp _ _ _ _ _
      -- R22
      refine wp_region_seq [.eq (.int .i64 ((k + 1 : Nat) : Int))] (by kernel_rfl) (by kernel_rfl) (by rw [sz]; kernel_rfl) (by kernel_rfl) ⟨fun hw ac u K => ?_, trivial⟩ ?_
      · exact st_add (.tmp 134) (.const (.int .i64 1)) rfl (k) (1) (k + 1) ((K.old 134 rfl).trans x134) rfl (by omega) (by omega)
      intro f25 w25 A hb
      replace bl0 := bl
      replace x1 := (A.old 1 rfl).trans x1
      replace x2 := (A.old 2 rfl).trans x2
      replace x3 := (A.old 3 rfl).trans x3
      replace x29 := (A.old 29 rfl).trans x29
      replace x4 := (A.old 4 rfl).trans x4
      replace x58 := (A.old 58 rfl).trans x58
      replace x66 := (A.old 66 rfl).trans x66
      replace x99 := (A.old 99 rfl).trans x99
      replace x6 := (A.old 6 rfl).trans x6
      replace x116 := (A.old 116 rfl).trans x116
      replace x8 := (A.old 8 rfl).trans x8
      replace x132 := (A.old 132 rfl).trans x132
      replace x133 := (A.old 133 rfl).trans x133
      replace x134 := (A.old 134 rfl).trans x134
      replace x135 := (A.old 135 rfl).trans x135
      replace x9 := (A.old 9 rfl).trans x9
      replace x139 := (A.old 139 rfl).trans x139
      have x154 : f25.eval (.tmp 154) = .int .i64 ((k + 1 : Nat) : Int) := A.has 0 154 rfl
      have lt_m1 := Ob.lt m1
      replace m1 := Ob.below m1 hb
      have lt_m3 := Ob.lt m3
      replace m3 := Ob.below m3 hb
      have lt_m6 := Ob.lt m6
      replace m6 := Ob.below m6 hb
      have lt_m8 := Ob.lt m8
      replace m8 := Ob.below m8 hb
      replace qB := Bl.below qB hb
      replace bl := (bl.trans (Below.mono hb bl.size))
      replace sz := A.size.trans sz
      replace df := A.defs.trans df
      clear A hb
      refine wl_one (.eq (.int .i64 ((k + 1 : Nat) : Int))) rfl 134 rfl (by rw [sz]; decide) (st_move (.tmp 154) rfl x154) ?_
      intro f26 w26 df2 sz2 old2 new2 hb
      replace bl0 := bl
      replace x1 := (old2 1 rfl).trans x1
      replace x2 := (old2 2 rfl).trans x2
      replace x3 := (old2 3 rfl).trans x3
      replace x29 := (old2 29 rfl).trans x29
      replace x4 := (old2 4 rfl).trans x4
      replace x58 := (old2 58 rfl).trans x58
      replace x66 := (old2 66 rfl).trans x66
      replace x99 := (old2 99 rfl).trans x99
      replace x6 := (old2 6 rfl).trans x6
      replace x116 := (old2 116 rfl).trans x116
      replace x8 := (old2 8 rfl).trans x8
      replace x132 := (old2 132 rfl).trans x132
      replace x133 := (old2 133 rfl).trans x133
      clear x134
      replace x135 := (old2 135 rfl).trans x135
      replace x9 := (old2 9 rfl).trans x9
      replace x139 := (old2 139 rfl).trans x139
      replace x154 := (old2 154 rfl).trans x154
      have x134 : f26.eval (.tmp 134) = .int .i64 ((k + 1 : Nat) : Int) := new2
      have lt_m1 := Ob.lt m1
      replace m1 := Ob.below m1 hb
      have lt_m3 := Ob.lt m3
      replace m3 := Ob.below m3 hb
      have lt_m6 := Ob.lt m6
      replace m6 := Ob.below m6 hb
      have lt_m8 := Ob.lt m8
      replace m8 := Ob.below m8 hb
      replace qB := Bl.below qB hb
      replace bl := (bl.trans (Below.mono hb bl.size))
      replace sz := sz2.trans sz
      replace df := df2.trans df
      clear df2 sz2 old2 new2 hb
      refine wpList_nil ?_
      clear x154
      show (∃ _, _) ∧ _
      refine ⟨⟨k + 1, by omega, sz, df, x1, x2, x3, x29, x4, x58, x66, x99, x6, x116, x8, x132, x133, x134, m1, m3, m6, (by rw [eup]; exact m8), qB, bl⟩, ?_⟩
      rw [show f26.eval (.tmp 134) = _ from x134, show _ = _ from hcnt]
      simp [intOf]
      omega
    -- R4
    refine wp_all_seq [.eq (.pointer (some ⟨g1, 0, none⟩)), .eq (.agg ((pb).map V).toArray), .eq (.pointer (some ⟨g1, 32, none⟩)), .eq (.int .i64 ((kd : Nat) : Int)), .eq (.pointer (some ⟨g1, 33, none⟩)), .eq (.int .i64 ((ht : Nat) : Int)), .eq (.pointer (some ⟨g1, 34, none⟩)), .eq (mv), .eq (.agg ([.int .i64 (sk), .int .i64 (si), .slice sA (S).length sC, .slice pA (P).length pC] : List Value).toArray), .eq (.int .i64 21), .eq (.int .i64 21)] (by kernel_rfl) (by kernel_rfl) (by rw [sz]; kernel_rfl) (by kernel_rfl) ⟨fun hw ac u K => ?_, fun hw ac u K => ?_, fun hw ac u K => ?_, fun hw ac u K => ?_, fun hw ac u K => ?_, fun hw ac u K => ?_, fun hw ac u K => ?_, fun hw ac u K => ?_, fun hw ac u K => ?_, fun hw ac u K => ?_, fun hw ac u K => ?_, trivial⟩ ?_
    · exact st_field 50 0 (.tmp 1) rfl ((K.old 1 rfl).trans x1) (by kernel_rfl)
    · exact st_loadhd (.tmp 31) rfl (g1) (pb) (K.dep 0 31 rfl) hpb (Ob.below m1 K.grow)
    · exact st_field 50 1 (.tmp 1) rfl ((K.old 1 rfl).trans x1) (by kernel_rfl)
    · exact st_loadc 3 (.tmp 33) rfl (by kernel_rfl) (K.dep 2 33 rfl) (Ob.cell (Ob.below m1 K.grow) 32 ((at_head hpb 0 _).trans rfl))
    · exact st_field 50 2 (.tmp 1) rfl ((K.old 1 rfl).trans x1) (by kernel_rfl)
    · exact st_loadc 3 (.tmp 35) rfl (by kernel_rfl) (K.dep 4 35 rfl) (Ob.cell (Ob.below m1 K.grow) 33 ((at_head hpb 1 _).trans rfl))
    · exact st_field 50 3 (.tmp 1) rfl ((K.old 1 rfl).trans x1) (by kernel_rfl)
    · exact st_loadc 36 (.tmp 37) rfl (by kernel_rfl) (K.dep 6 37 rfl) (Ob.cell (Ob.below m1 K.grow) 34 ((at_head hpb 2 _).trans rfl))
    · exact st_loadz 38 (.tmp 3) rfl (g3) 0 [.int .i64 (sk), .int .i64 (si), .slice sA (S).length sC, .slice pA (P).length pC] (by kernel_rfl) (by kernel_rfl) ((K.old 3 rfl).trans x3) (Ob.range (Ob.below m3 K.grow) 0 _ (fun j v hj => by simpa using hj))
    · exact st_call 21 (.func 21) _ _ #[.agg ((pb).map V).toArray, .int .i64 ((kd : Nat) : Int), .int .i64 ((ht : Nat) : Int), mv, .agg ([.int .i64 (sk), .int .i64 (si), .slice sA (S).length sC, .slice pA (P).length pC] : List Value).toArray] rfl rfl (arg5 (K.dep 1 32 rfl) (K.dep 3 34 rfl) (K.dep 5 36 rfl) (K.dep 7 38 rfl) (K.dep 8 39 rfl)) Tryd.enter21 (fk_of (verify_bad h1 h2 h3 sk si hpb hb0 _ _ (Fk.mono _ _ _ _ vP (bl.trans (Below.mono K.grow bl.size)))))
    · exact st_assign (.tmp 40) rfl (K.dep 9 40 rfl)
    intro f7 w7 A hb
    replace bl0 := bl
    replace x1 := (A.old 1 rfl).trans x1
    replace x2 := (A.old 2 rfl).trans x2
    replace x3 := (A.old 3 rfl).trans x3
    replace x29 := (A.old 29 rfl).trans x29
    have x4 : f7.eval (.tmp 4) = .int .i64 21 := A.has 10 4 rfl
    have lt_m1 := Ob.lt m1
    replace m1 := Ob.below m1 hb
    have lt_m3 := Ob.lt m3
    replace m3 := Ob.below m3 hb
    replace bl := (bl.trans (Below.mono hb bl.size))
    replace sz := A.size.trans sz
    replace df := A.defs.trans df
    clear A hb
    show Code.wp _ _ _ _ _
    refine wp_seq ?_
    refine wp_seq ?_
    -- R5
    refine wp_all_seq [.eq (.pointer (some ⟨g1, 32, none⟩)), .eq (.int .i64 ((kd : Nat) : Int)), .eq (.bool false), .eq (.bool false), .eq (.pointer (some ⟨g1, 32, none⟩)), .eq (.int .i64 ((kd : Nat) : Int)), .eq (.bool false), .eq (.bool false), .eq (.bool false), .eq (.pointer (some ⟨g1, 33, none⟩)), .eq (.int .i64 ((ht : Nat) : Int)), .eq (.bool false), .eq (.bool false), .eq (.bool false), .eq (.pointer (some ⟨g1, 33, none⟩)), .eq (.int .i64 ((ht : Nat) : Int)), .eq (.bool false), .eq (.bool false)] (by kernel_rfl) (by kernel_rfl) (by rw [sz]; kernel_rfl) (by kernel_rfl) ⟨fun hw ac u K => ?_, fun hw ac u K => ?_, fun hw ac u K => ?_, fun hw ac u K => ?_, fun hw ac u K => ?_, fun hw ac u K => ?_, fun hw ac u K => ?_, fun hw ac u K => ?_, fun hw ac u K => ?_, fun hw ac u K => ?_, fun hw ac u K => ?_, fun hw ac u K => ?_, fun hw ac u K => ?_, fun hw ac u K => ?_, fun hw ac u K => ?_, fun hw ac u K => ?_, fun hw ac u K => ?_, fun hw ac u K => ?_, trivial⟩ ?_
    · exact st_field 50 1 (.tmp 1) rfl ((K.old 1 rfl).trans x1) (by kernel_rfl)
    · exact st_loadc 3 (.tmp 41) rfl (by kernel_rfl) (K.dep 0 41 rfl) (Ob.cell (Ob.below m1 K.grow) 32 ((at_head hpb 0 _).trans rfl))
    · exact st_lss 3 (.tmp 42) (.const (.int .i64 1)) rfl .i64 (((kd : Nat) : Int)) (1) (K.dep 1 42 rfl) rfl _ (by rw [eq_comm, decide_eq_false_iff_not]; omega)
    · exact st_move (.tmp 43) rfl (K.dep 2 43 rfl)
    · exact st_field 50 1 (.tmp 1) rfl ((K.old 1 rfl).trans x1) (by kernel_rfl)
    · exact st_loadc 3 (.tmp 45) rfl (by kernel_rfl) (K.dep 4 45 rfl) (Ob.cell (Ob.below m1 K.grow) 32 ((at_head hpb 0 _).trans rfl))
    · exact st_gtr 3 (.tmp 46) (.const (.int .i64 2)) rfl .i64 (((kd : Nat) : Int)) (2) (K.dep 5 46 rfl) rfl _ (by rw [eq_comm, decide_eq_false_iff_not]; omega)
    · exact st_pick_f' (.tmp 44) (.const (.bool true)) (.tmp 47) rfl (K.dep 3 44 rfl) (K.dep 6 47 rfl)
    · exact st_move (.tmp 48) rfl (K.dep 7 48 rfl)
    · exact st_field 50 2 (.tmp 1) rfl ((K.old 1 rfl).trans x1) (by kernel_rfl)
    · exact st_loadc 3 (.tmp 50) rfl (by kernel_rfl) (K.dep 9 50 rfl) (Ob.cell (Ob.below m1 K.grow) 33 ((at_head hpb 1 _).trans rfl))
    · exact st_lss 3 (.tmp 51) (.const (.int .i64 0)) rfl .i64 (((ht : Nat) : Int)) (0) (K.dep 10 51 rfl) rfl _ (by rw [eq_comm, decide_eq_false_iff_not]; omega)
    · exact st_pick_f' (.tmp 49) (.const (.bool true)) (.tmp 52) rfl (K.dep 8 49 rfl) (K.dep 11 52 rfl)
    · exact st_move (.tmp 53) rfl (K.dep 12 53 rfl)
    · exact st_field 50 2 (.tmp 1) rfl ((K.old 1 rfl).trans x1) (by kernel_rfl)
    · exact st_loadc 3 (.tmp 55) rfl (by kernel_rfl) (K.dep 14 55 rfl) (Ob.cell (Ob.below m1 K.grow) 33 ((at_head hpb 1 _).trans rfl))
    · exact st_gtr 3 (.tmp 56) (.const (.int .i64 8)) rfl .i64 (((ht : Nat) : Int)) (8) (K.dep 15 56 rfl) rfl _ (by rw [eq_comm, decide_eq_false_iff_not]; omega)
    · exact st_pick_f' (.tmp 54) (.const (.bool true)) (.tmp 57) rfl (K.dep 13 54 rfl) (K.dep 16 57 rfl)
    intro f8 w8 A hb
    replace bl0 := bl
    replace x1 := (A.old 1 rfl).trans x1
    replace x2 := (A.old 2 rfl).trans x2
    replace x3 := (A.old 3 rfl).trans x3
    replace x29 := (A.old 29 rfl).trans x29
    replace x4 := (A.old 4 rfl).trans x4
    have x58 : f8.eval (.tmp 58) = .bool false := A.has 17 58 rfl
    have lt_m1 := Ob.lt m1
    replace m1 := Ob.below m1 hb
    have lt_m3 := Ob.lt m3
    replace m3 := Ob.below m3 hb
    replace bl := (bl.trans (Below.mono hb bl.size))
    replace sz := A.size.trans sz
    replace df := A.defs.trans df
    clear A hb
    show Code.wp _ _ _ _ _
    refine wp_cond_false x58 ?_
    refine wp_skip ?_
    show Code.wp _ _ _ _ _
    refine wp_seq ?_
    -- R7
    refine wp_all_seq [.eq (.int .i64 67)] (by kernel_rfl) (by kernel_rfl) (by rw [sz]; kernel_rfl) (by kernel_rfl) ⟨fun hw ac u K => ?_, trivial⟩ ?_
    · exact st_assign (.const (.int .i64 67)) rfl rfl
    intro f9 w9 A hb
    replace bl0 := bl
    replace x1 := (A.old 1 rfl).trans x1
    replace x2 := (A.old 2 rfl).trans x2
    replace x3 := (A.old 3 rfl).trans x3
    replace x29 := (A.old 29 rfl).trans x29
    replace x4 := (A.old 4 rfl).trans x4
    replace x58 := (A.old 58 rfl).trans x58
    have x5 : f9.eval (.tmp 5) = .int .i64 67 := A.has 0 5 rfl
    have lt_m1 := Ob.lt m1
    replace m1 := Ob.below m1 hb
    have lt_m3 := Ob.lt m3
    replace m3 := Ob.below m3 hb
    replace bl := (bl.trans (Below.mono hb bl.size))
    replace sz := A.size.trans sz
    replace df := A.defs.trans df
    clear A hb
    show Code.wp _ _ _ _ _
    refine wp_seq ?_
    refine wp_seq ?_
    rcases (show kd = 1 ∨ kd = 2 by omega) with hkd | hkd
    rotate_left
    · skip
      have hnp : npt kd = 512 := by rw [hkd]; rfl
      -- R8
      refine wp_all_seq [.eq (.pointer (some ⟨g1, 32, none⟩)), .eq (.int .i64 ((kd : Nat) : Int)), .eq (.bool true)] (by kernel_rfl) (by kernel_rfl) (by rw [sz]; kernel_rfl) (by kernel_rfl) ⟨fun hw ac u K => ?_, fun hw ac u K => ?_, fun hw ac u K => ?_, trivial⟩ ?_
      · exact st_field 50 1 (.tmp 1) rfl ((K.old 1 rfl).trans x1) (by kernel_rfl)
      · exact st_loadc 3 (.tmp 64) rfl (by kernel_rfl) (K.dep 0 64 rfl) (Ob.cell (Ob.below m1 K.grow) 32 ((at_head hpb 0 _).trans rfl))
      · exact st_eqi 3 (.tmp 65) (.const (.int .i64 2)) rfl .i64 (((kd : Nat) : Int)) (2) (K.dep 1 65 rfl) rfl _ (by simp [hkd])
      intro f10 w10 A hb
      replace bl0 := bl
      replace x1 := (A.old 1 rfl).trans x1
      replace x2 := (A.old 2 rfl).trans x2
      replace x3 := (A.old 3 rfl).trans x3
      replace x29 := (A.old 29 rfl).trans x29
      replace x4 := (A.old 4 rfl).trans x4
      replace x58 := (A.old 58 rfl).trans x58
      replace x5 := (A.old 5 rfl).trans x5
      have x66 : f10.eval (.tmp 66) = .bool true := A.has 2 66 rfl
      have lt_m1 := Ob.lt m1
      replace m1 := Ob.below m1 hb
      have lt_m3 := Ob.lt m3
      replace m3 := Ob.below m3 hb
      replace bl := (bl.trans (Below.mono hb bl.size))
      replace sz := A.size.trans sz
      replace df := A.defs.trans df
      clear A hb
      show Code.wp _ _ _ _ _
      refine wp_cond_true x66 ?_
      -- R9
      refine wp_all_seq [.eq (.int .i64 512)] (by kernel_rfl) (by kernel_rfl) (by rw [sz]; kernel_rfl) (by kernel_rfl) ⟨fun hw ac u K => ?_, trivial⟩ ?_
      · exact st_assign (.const (.int .i64 512)) rfl rfl
      intro f11 w11 A hb
      replace bl0 := bl
      replace x1 := (A.old 1 rfl).trans x1
      replace x2 := (A.old 2 rfl).trans x2
      replace x3 := (A.old 3 rfl).trans x3
      replace x29 := (A.old 29 rfl).trans x29
      replace x4 := (A.old 4 rfl).trans x4
      replace x58 := (A.old 58 rfl).trans x58
      clear x5
      replace x66 := (A.old 66 rfl).trans x66
      have x5 : f11.eval (.tmp 5) = .int .i64 512 := A.has 0 5 rfl
      have lt_m1 := Ob.lt m1
      replace m1 := Ob.below m1 hb
      have lt_m3 := Ob.lt m3
      replace m3 := Ob.below m3 hb
      replace bl := (bl.trans (Below.mono hb bl.size))
      replace sz := A.size.trans sz
      replace df := A.defs.trans df
      clear A hb
      show Code.wp _ _ _ _ _
      refine wp_seq ?_
      refine wp_seq ?_
      have hcs : sk ≠ kd ∨ (sk = kd ∧ si < 0) ∨ (sk = kd ∧ 0 ≤ si ∧ ((2 ^ ht : Nat) : Int) ≤ si) ∨ (sk = kd ∧ 0 ≤ si ∧ si < ((2 ^ ht : Nat) : Int) ∧ P.length ≠ ht) := by omega
      clear hb0
      rcases hcs with hcs | hcs | hcs | hcs
      · skip
        -- R10
        refine wp_all [.eq (.pointer (some ⟨g3, 0, none⟩)), .eq (.int .i64 (sk)), .eq (.pointer (some ⟨g1, 32, none⟩)), .eq (.int .i64 ((kd : Nat) : Int)), .eq (.bool true), .eq (.bool true), .any, .any, .any, .eq (.bool true), .eq (.bool true), .any, .any, .any, .any, .any, .any, .eq (.bool true), .eq (.bool true), .any, .any, .any, .any, .any, .any, .eq (.bool true), .eq (.bool true), .any, .any, .any, .any, .any, .eq (.bool true)] Tryd.mixed (by kernel_rfl) (by kernel_rfl) (by rw [sz]; kernel_rfl) (by kernel_rfl) ⟨fun hw ac u K => ?_, fun hw ac u K => ?_, fun hw ac u K => ?_, fun hw ac u K => ?_, fun hw ac u K => ?_, fun hw ac u K => ?_, fun hw ac u K => ?_, fun hw ac u K => ?_, fun hw ac u K => ?_, fun hw ac u K => ?_, fun hw ac u K => ?_, fun hw ac u K => ?_, fun hw ac u K => ?_, fun hw ac u K => ?_, fun hw ac u K => ?_, fun hw ac u K => ?_, fun hw ac u K => ?_, fun hw ac u K => ?_, fun hw ac u K => ?_, fun hw ac u K => ?_, fun hw ac u K => ?_, fun hw ac u K => ?_, fun hw ac u K => ?_, fun hw ac u K => ?_, fun hw ac u K => ?_, fun hw ac u K => ?_, fun hw ac u K => ?_, fun hw ac u K => ?_, fun hw ac u K => ?_, fun hw ac u K => ?_, fun hw ac u K => ?_, fun hw ac u K => ?_, fun hw ac u K => ?_, trivial⟩ ?_
        · exact st_field 38 0 (.tmp 3) rfl ((K.old 3 rfl).trans x3) (by kernel_rfl)
        · exact st_loadc 3 (.tmp 67) rfl (by kernel_rfl) (K.dep 0 67 rfl) (Ob.cell (Ob.below m3 K.grow) 0 rfl)
        · exact st_field 50 1 (.tmp 1) rfl ((K.old 1 rfl).trans x1) (by kernel_rfl)
        · exact st_loadc 3 (.tmp 69) rfl (by kernel_rfl) (K.dep 2 69 rfl) (Ob.cell (Ob.below m1 K.grow) 32 ((at_head hpb 0 _).trans rfl))
        · exact st_neqi 3 (.tmp 68) (.tmp 70) rfl .i64 ((sk)) (((kd : Nat) : Int)) (K.dep 1 68 rfl) (K.dep 3 70 rfl) _ (by rw [eq_comm, decide_eq_true_iff]; exact hcs)
        · exact st_move (.tmp 71) rfl (K.dep 4 71 rfl)
        · exact (Bool.false_ne_true hw).elim
        · exact (Bool.false_ne_true hw).elim
        · exact (Bool.false_ne_true hw).elim
        · exact st_pick_t (.tmp 72) (.const (.bool true)) (.tmp 75) rfl (K.dep 5 72 rfl) rfl
        · exact st_move (.tmp 76) rfl (K.dep 9 76 rfl)
        · exact (Bool.false_ne_true hw).elim
        · exact (Bool.false_ne_true hw).elim
        · exact (Bool.false_ne_true hw).elim
        · exact (Bool.false_ne_true hw).elim
        · exact (Bool.false_ne_true hw).elim
        · exact (Bool.false_ne_true hw).elim
        · exact st_pick_t (.tmp 77) (.const (.bool true)) (.tmp 83) rfl (K.dep 10 77 rfl) rfl
        · exact st_move (.tmp 84) rfl (K.dep 17 84 rfl)
        · exact (Bool.false_ne_true hw).elim
        · exact (Bool.false_ne_true hw).elim
        · exact (Bool.false_ne_true hw).elim
        · exact (Bool.false_ne_true hw).elim
        · exact (Bool.false_ne_true hw).elim
        · exact (Bool.false_ne_true hw).elim
        · exact st_pick_t (.tmp 85) (.const (.bool true)) (.tmp 91) rfl (K.dep 18 85 rfl) rfl
        · exact st_move (.tmp 92) rfl (K.dep 25 92 rfl)
        · exact (Bool.false_ne_true hw).elim
        · exact (Bool.false_ne_true hw).elim
        · exact (Bool.false_ne_true hw).elim
        · exact (Bool.false_ne_true hw).elim
        · exact (Bool.false_ne_true hw).elim
        · exact st_pick_t (.tmp 93) (.const (.bool true)) (.tmp 98) rfl (K.dep 26 93 rfl) rfl
        intro f12 w12 A hb
        replace bl0 := bl
        replace x1 := (A.old 1 rfl).trans x1
        replace x2 := (A.old 2 rfl).trans x2
        replace x3 := (A.old 3 rfl).trans x3
        replace x29 := (A.old 29 rfl).trans x29
        replace x4 := (A.old 4 rfl).trans x4
        replace x58 := (A.old 58 rfl).trans x58
        replace x66 := (A.old 66 rfl).trans x66
        replace x5 := (A.old 5 rfl).trans x5
        have x99 : f12.eval (.tmp 99) = .bool true := A.has 32 99 rfl
        have lt_m1 := Ob.lt m1
        replace m1 := Ob.below m1 hb
        have lt_m3 := Ob.lt m3
        replace m3 := Ob.below m3 hb
        replace bl := (bl.trans (Below.mono hb bl.size))
        replace sz := A.size.trans sz
        replace df := A.defs.trans df
        clear A hb
        clear x5
        show Code.wp _ _ _ _ _
        refine wp_cond_true x99 ?_
        refine wp_seq ?_
        -- R11
        refine wp_all_seq [.eq (.int .i64 21), .eq (.bool true), .eq (.bool true), .eq (.bool true), .eq (.bool true), .eq (.bool true)] (by kernel_rfl) (by kernel_rfl) (by rw [sz]; kernel_rfl) (by kernel_rfl) ⟨fun hw ac u K => ?_, fun hw ac u K => ?_, fun hw ac u K => ?_, fun hw ac u K => ?_, fun hw ac u K => ?_, fun hw ac u K => ?_, trivial⟩ ?_
        · exact st_move (.tmp 4) rfl ((K.old 4 rfl).trans x4)
        · exact st_eqi 29 (.tmp 100) (.const (.int .i64 21)) rfl .i64 (21) (21) (K.dep 0 100 rfl) rfl _ (by rfl)
        · exact st_move (.tmp 101) rfl (K.dep 1 101 rfl)
        · exact st_call 8 (.func 8) _ _ #[] rfl rfl rfl Tryd.enter8 (fk_of (awake_any _ (hK.below (bl.trans (Below.mono K.grow bl.size)))))
        · exact st_pick_t (.tmp 102) (.tmp 103) (.const (.bool false)) rfl (K.dep 2 102 rfl) (K.dep 3 103 rfl)
        · exact st_assign (.tmp 104) rfl (K.dep 4 104 rfl)
        intro f13 w13 A hb
        replace bl0 := bl
        replace x1 := (A.old 1 rfl).trans x1
        clear x2
        replace x3 := (A.old 3 rfl).trans x3
        replace x29 := (A.old 29 rfl).trans x29
        replace x4 := (A.old 4 rfl).trans x4
        replace x58 := (A.old 58 rfl).trans x58
        replace x66 := (A.old 66 rfl).trans x66
        replace x99 := (A.old 99 rfl).trans x99
        have x2 : f13.eval (.tmp 2) = .bool true := A.has 5 2 rfl
        have lt_m1 := Ob.lt m1
        replace m1 := Ob.below m1 hb
        have lt_m3 := Ob.lt m3
        replace m3 := Ob.below m3 hb
        replace bl := (bl.trans (Below.mono hb bl.size))
        replace sz := A.size.trans sz
        replace df := A.defs.trans df
        clear A hb
        show Code.wp _ _ _ _ _
        refine wp_ret ?_
        repeat (first | with_reducible refine then_ret ?_ | with_reducible refine block_ret ?_)
        exact bodyPost_ret (v := .bool true) (ret_slot rfl f13 _ x2 _ _) df ⟨rfl, bl⟩
      · skip
        -- R10
        refine wp_all [.eq (.pointer (some ⟨g3, 0, none⟩)), .eq (.int .i64 (sk)), .eq (.pointer (some ⟨g1, 32, none⟩)), .eq (.int .i64 ((kd : Nat) : Int)), .eq (.bool false), .eq (.bool false), .eq (.pointer (some ⟨g3, 1, none⟩)), .eq (.int .i64 (si)), .eq (.bool true), .eq (.bool true), .eq (.bool true), .any, .any, .any, .any, .any, .any, .eq (.bool true), .eq (.bool true), .any, .any, .any, .any, .any, .any, .eq (.bool true), .eq (.bool true), .any, .any, .any, .any, .any, .eq (.bool true)] Tryd.mixed (by kernel_rfl) (by kernel_rfl) (by rw [sz]; kernel_rfl) (by kernel_rfl) ⟨fun hw ac u K => ?_, fun hw ac u K => ?_, fun hw ac u K => ?_, fun hw ac u K => ?_, fun hw ac u K => ?_, fun hw ac u K => ?_, fun hw ac u K => ?_, fun hw ac u K => ?_, fun hw ac u K => ?_, fun hw ac u K => ?_, fun hw ac u K => ?_, fun hw ac u K => ?_, fun hw ac u K => ?_, fun hw ac u K => ?_, fun hw ac u K => ?_, fun hw ac u K => ?_, fun hw ac u K => ?_, fun hw ac u K => ?_, fun hw ac u K => ?_, fun hw ac u K => ?_, fun hw ac u K => ?_, fun hw ac u K => ?_, fun hw ac u K => ?_, fun hw ac u K => ?_, fun hw ac u K => ?_, fun hw ac u K => ?_, fun hw ac u K => ?_, fun hw ac u K => ?_, fun hw ac u K => ?_, fun hw ac u K => ?_, fun hw ac u K => ?_, fun hw ac u K => ?_, fun hw ac u K => ?_, trivial⟩ ?_
        · exact st_field 38 0 (.tmp 3) rfl ((K.old 3 rfl).trans x3) (by kernel_rfl)
        · exact st_loadc 3 (.tmp 67) rfl (by kernel_rfl) (K.dep 0 67 rfl) (Ob.cell (Ob.below m3 K.grow) 0 rfl)
        · exact st_field 50 1 (.tmp 1) rfl ((K.old 1 rfl).trans x1) (by kernel_rfl)
        · exact st_loadc 3 (.tmp 69) rfl (by kernel_rfl) (K.dep 2 69 rfl) (Ob.cell (Ob.below m1 K.grow) 32 ((at_head hpb 0 _).trans rfl))
        · exact st_neqi 3 (.tmp 68) (.tmp 70) rfl .i64 ((sk)) (((kd : Nat) : Int)) (K.dep 1 68 rfl) (K.dep 3 70 rfl) _ (by rw [eq_comm, decide_eq_false_iff_not]; omega)
        · exact st_move (.tmp 71) rfl (K.dep 4 71 rfl)
        · exact st_field 38 1 (.tmp 3) rfl ((K.old 3 rfl).trans x3) (by kernel_rfl)
        · exact st_loadc 3 (.tmp 73) rfl (by kernel_rfl) (K.dep 6 73 rfl) (Ob.cell (Ob.below m3 K.grow) 1 rfl)
        · exact st_lss 3 (.tmp 74) (.const (.int .i64 0)) rfl .i64 ((si)) (0) (K.dep 7 74 rfl) rfl _ (by rw [eq_comm, decide_eq_true_iff]; omega)
        · exact st_pick_f' (.tmp 72) (.const (.bool true)) (.tmp 75) rfl (K.dep 5 72 rfl) (K.dep 8 75 rfl)
        · exact st_move (.tmp 76) rfl (K.dep 9 76 rfl)
        · exact (Bool.false_ne_true hw).elim
        · exact (Bool.false_ne_true hw).elim
        · exact (Bool.false_ne_true hw).elim
        · exact (Bool.false_ne_true hw).elim
        · exact (Bool.false_ne_true hw).elim
        · exact (Bool.false_ne_true hw).elim
        · exact st_pick_t (.tmp 77) (.const (.bool true)) (.tmp 83) rfl (K.dep 10 77 rfl) rfl
        · exact st_move (.tmp 84) rfl (K.dep 17 84 rfl)
        · exact (Bool.false_ne_true hw).elim
        · exact (Bool.false_ne_true hw).elim
        · exact (Bool.false_ne_true hw).elim
        · exact (Bool.false_ne_true hw).elim
        · exact (Bool.false_ne_true hw).elim
        · exact (Bool.false_ne_true hw).elim
        · exact st_pick_t (.tmp 85) (.const (.bool true)) (.tmp 91) rfl (K.dep 18 85 rfl) rfl
        · exact st_move (.tmp 92) rfl (K.dep 25 92 rfl)
        · exact (Bool.false_ne_true hw).elim
        · exact (Bool.false_ne_true hw).elim
        · exact (Bool.false_ne_true hw).elim
        · exact (Bool.false_ne_true hw).elim
        · exact (Bool.false_ne_true hw).elim
        · exact st_pick_t (.tmp 93) (.const (.bool true)) (.tmp 98) rfl (K.dep 26 93 rfl) rfl
        intro f12 w12 A hb
        replace bl0 := bl
        replace x1 := (A.old 1 rfl).trans x1
        replace x2 := (A.old 2 rfl).trans x2
        replace x3 := (A.old 3 rfl).trans x3
        replace x29 := (A.old 29 rfl).trans x29
        replace x4 := (A.old 4 rfl).trans x4
        replace x58 := (A.old 58 rfl).trans x58
        replace x66 := (A.old 66 rfl).trans x66
        replace x5 := (A.old 5 rfl).trans x5
        have x99 : f12.eval (.tmp 99) = .bool true := A.has 32 99 rfl
        have lt_m1 := Ob.lt m1
        replace m1 := Ob.below m1 hb
        have lt_m3 := Ob.lt m3
        replace m3 := Ob.below m3 hb
        replace bl := (bl.trans (Below.mono hb bl.size))
        replace sz := A.size.trans sz
        replace df := A.defs.trans df
        clear A hb
        clear x5
        show Code.wp _ _ _ _ _
        refine wp_cond_true x99 ?_
        refine wp_seq ?_
        -- R11
        refine wp_all_seq [.eq (.int .i64 21), .eq (.bool true), .eq (.bool true), .eq (.bool true), .eq (.bool true), .eq (.bool true)] (by kernel_rfl) (by kernel_rfl) (by rw [sz]; kernel_rfl) (by kernel_rfl) ⟨fun hw ac u K => ?_, fun hw ac u K => ?_, fun hw ac u K => ?_, fun hw ac u K => ?_, fun hw ac u K => ?_, fun hw ac u K => ?_, trivial⟩ ?_
        · exact st_move (.tmp 4) rfl ((K.old 4 rfl).trans x4)
        · exact st_eqi 29 (.tmp 100) (.const (.int .i64 21)) rfl .i64 (21) (21) (K.dep 0 100 rfl) rfl _ (by rfl)
        · exact st_move (.tmp 101) rfl (K.dep 1 101 rfl)
        · exact st_call 8 (.func 8) _ _ #[] rfl rfl rfl Tryd.enter8 (fk_of (awake_any _ (hK.below (bl.trans (Below.mono K.grow bl.size)))))
        · exact st_pick_t (.tmp 102) (.tmp 103) (.const (.bool false)) rfl (K.dep 2 102 rfl) (K.dep 3 103 rfl)
        · exact st_assign (.tmp 104) rfl (K.dep 4 104 rfl)
        intro f13 w13 A hb
        replace bl0 := bl
        replace x1 := (A.old 1 rfl).trans x1
        clear x2
        replace x3 := (A.old 3 rfl).trans x3
        replace x29 := (A.old 29 rfl).trans x29
        replace x4 := (A.old 4 rfl).trans x4
        replace x58 := (A.old 58 rfl).trans x58
        replace x66 := (A.old 66 rfl).trans x66
        replace x99 := (A.old 99 rfl).trans x99
        have x2 : f13.eval (.tmp 2) = .bool true := A.has 5 2 rfl
        have lt_m1 := Ob.lt m1
        replace m1 := Ob.below m1 hb
        have lt_m3 := Ob.lt m3
        replace m3 := Ob.below m3 hb
        replace bl := (bl.trans (Below.mono hb bl.size))
        replace sz := A.size.trans sz
        replace df := A.defs.trans df
        clear A hb
        show Code.wp _ _ _ _ _
        refine wp_ret ?_
        repeat (first | with_reducible refine then_ret ?_ | with_reducible refine block_ret ?_)
        exact bodyPost_ret (v := .bool true) (ret_slot rfl f13 _ x2 _ _) df ⟨rfl, bl⟩
      · skip
        -- R10
        refine wp_all [.eq (.pointer (some ⟨g3, 0, none⟩)), .eq (.int .i64 (sk)), .eq (.pointer (some ⟨g1, 32, none⟩)), .eq (.int .i64 ((kd : Nat) : Int)), .eq (.bool false), .eq (.bool false), .eq (.pointer (some ⟨g3, 1, none⟩)), .eq (.int .i64 (si)), .eq (.bool false), .eq (.bool false), .eq (.bool false), .eq (.pointer (some ⟨g3, 1, none⟩)), .eq (.int .i64 (si)), .eq (.pointer (some ⟨g1, 33, none⟩)), .eq (.int .i64 ((ht : Nat) : Int)), .eq (.int .i64 ((2 ^ ht : Nat) : Int)), .eq (.bool true), .eq (.bool true), .eq (.bool true), .any, .any, .any, .any, .any, .any, .eq (.bool true), .eq (.bool true), .any, .any, .any, .any, .any, .eq (.bool true)] Tryd.mixed (by kernel_rfl) (by kernel_rfl) (by rw [sz]; kernel_rfl) (by kernel_rfl) ⟨fun hw ac u K => ?_, fun hw ac u K => ?_, fun hw ac u K => ?_, fun hw ac u K => ?_, fun hw ac u K => ?_, fun hw ac u K => ?_, fun hw ac u K => ?_, fun hw ac u K => ?_, fun hw ac u K => ?_, fun hw ac u K => ?_, fun hw ac u K => ?_, fun hw ac u K => ?_, fun hw ac u K => ?_, fun hw ac u K => ?_, fun hw ac u K => ?_, fun hw ac u K => ?_, fun hw ac u K => ?_, fun hw ac u K => ?_, fun hw ac u K => ?_, fun hw ac u K => ?_, fun hw ac u K => ?_, fun hw ac u K => ?_, fun hw ac u K => ?_, fun hw ac u K => ?_, fun hw ac u K => ?_, fun hw ac u K => ?_, fun hw ac u K => ?_, fun hw ac u K => ?_, fun hw ac u K => ?_, fun hw ac u K => ?_, fun hw ac u K => ?_, fun hw ac u K => ?_, fun hw ac u K => ?_, trivial⟩ ?_
        · exact st_field 38 0 (.tmp 3) rfl ((K.old 3 rfl).trans x3) (by kernel_rfl)
        · exact st_loadc 3 (.tmp 67) rfl (by kernel_rfl) (K.dep 0 67 rfl) (Ob.cell (Ob.below m3 K.grow) 0 rfl)
        · exact st_field 50 1 (.tmp 1) rfl ((K.old 1 rfl).trans x1) (by kernel_rfl)
        · exact st_loadc 3 (.tmp 69) rfl (by kernel_rfl) (K.dep 2 69 rfl) (Ob.cell (Ob.below m1 K.grow) 32 ((at_head hpb 0 _).trans rfl))
        · exact st_neqi 3 (.tmp 68) (.tmp 70) rfl .i64 ((sk)) (((kd : Nat) : Int)) (K.dep 1 68 rfl) (K.dep 3 70 rfl) _ (by rw [eq_comm, decide_eq_false_iff_not]; omega)
        · exact st_move (.tmp 71) rfl (K.dep 4 71 rfl)
        · exact st_field 38 1 (.tmp 3) rfl ((K.old 3 rfl).trans x3) (by kernel_rfl)
        · exact st_loadc 3 (.tmp 73) rfl (by kernel_rfl) (K.dep 6 73 rfl) (Ob.cell (Ob.below m3 K.grow) 1 rfl)
        · exact st_lss 3 (.tmp 74) (.const (.int .i64 0)) rfl .i64 ((si)) (0) (K.dep 7 74 rfl) rfl _ (by rw [eq_comm, decide_eq_false_iff_not]; omega)
        · exact st_pick_f' (.tmp 72) (.const (.bool true)) (.tmp 75) rfl (K.dep 5 72 rfl) (K.dep 8 75 rfl)
        · exact st_move (.tmp 76) rfl (K.dep 9 76 rfl)
        · exact st_field 38 1 (.tmp 3) rfl ((K.old 3 rfl).trans x3) (by kernel_rfl)
        · exact st_loadc 3 (.tmp 78) rfl (by kernel_rfl) (K.dep 11 78 rfl) (Ob.cell (Ob.below m3 K.grow) 1 rfl)
        · exact st_field 50 2 (.tmp 1) rfl ((K.old 1 rfl).trans x1) (by kernel_rfl)
        · exact st_loadc 3 (.tmp 80) rfl (by kernel_rfl) (K.dep 13 80 rfl) (Ob.cell (Ob.below m1 K.grow) 33 ((at_head hpb 1 _).trans rfl))
        · exact st_shl 3 3 (.const (.int .i64 1)) (.tmp 81) rfl (1) (ht) rfl (K.dep 14 81 rfl) (2 ^ ht) (by simp) hpw (by omega)
        · exact st_geq 3 (.tmp 79) (.tmp 82) rfl .i64 ((si)) (((2 ^ ht : Nat) : Int)) (K.dep 12 79 rfl) (K.dep 15 82 rfl) _ (by rw [eq_comm, decide_eq_true_iff]; omega)
        · exact st_pick_f' (.tmp 77) (.const (.bool true)) (.tmp 83) rfl (K.dep 10 77 rfl) (K.dep 16 83 rfl)
        · exact st_move (.tmp 84) rfl (K.dep 17 84 rfl)
        · exact (Bool.false_ne_true hw).elim
        · exact (Bool.false_ne_true hw).elim
        · exact (Bool.false_ne_true hw).elim
        · exact (Bool.false_ne_true hw).elim
        · exact (Bool.false_ne_true hw).elim
        · exact (Bool.false_ne_true hw).elim
        · exact st_pick_t (.tmp 85) (.const (.bool true)) (.tmp 91) rfl (K.dep 18 85 rfl) rfl
        · exact st_move (.tmp 92) rfl (K.dep 25 92 rfl)
        · exact (Bool.false_ne_true hw).elim
        · exact (Bool.false_ne_true hw).elim
        · exact (Bool.false_ne_true hw).elim
        · exact (Bool.false_ne_true hw).elim
        · exact (Bool.false_ne_true hw).elim
        · exact st_pick_t (.tmp 93) (.const (.bool true)) (.tmp 98) rfl (K.dep 26 93 rfl) rfl
        intro f12 w12 A hb
        replace bl0 := bl
        replace x1 := (A.old 1 rfl).trans x1
        replace x2 := (A.old 2 rfl).trans x2
        replace x3 := (A.old 3 rfl).trans x3
        replace x29 := (A.old 29 rfl).trans x29
        replace x4 := (A.old 4 rfl).trans x4
        replace x58 := (A.old 58 rfl).trans x58
        replace x66 := (A.old 66 rfl).trans x66
        replace x5 := (A.old 5 rfl).trans x5
        have x99 : f12.eval (.tmp 99) = .bool true := A.has 32 99 rfl
        have lt_m1 := Ob.lt m1
        replace m1 := Ob.below m1 hb
        have lt_m3 := Ob.lt m3
        replace m3 := Ob.below m3 hb
        replace bl := (bl.trans (Below.mono hb bl.size))
        replace sz := A.size.trans sz
        replace df := A.defs.trans df
        clear A hb
        clear x5
        show Code.wp _ _ _ _ _
        refine wp_cond_true x99 ?_
        refine wp_seq ?_
        -- R11
        refine wp_all_seq [.eq (.int .i64 21), .eq (.bool true), .eq (.bool true), .eq (.bool true), .eq (.bool true), .eq (.bool true)] (by kernel_rfl) (by kernel_rfl) (by rw [sz]; kernel_rfl) (by kernel_rfl) ⟨fun hw ac u K => ?_, fun hw ac u K => ?_, fun hw ac u K => ?_, fun hw ac u K => ?_, fun hw ac u K => ?_, fun hw ac u K => ?_, trivial⟩ ?_
        · exact st_move (.tmp 4) rfl ((K.old 4 rfl).trans x4)
        · exact st_eqi 29 (.tmp 100) (.const (.int .i64 21)) rfl .i64 (21) (21) (K.dep 0 100 rfl) rfl _ (by rfl)
        · exact st_move (.tmp 101) rfl (K.dep 1 101 rfl)
        · exact st_call 8 (.func 8) _ _ #[] rfl rfl rfl Tryd.enter8 (fk_of (awake_any _ (hK.below (bl.trans (Below.mono K.grow bl.size)))))
        · exact st_pick_t (.tmp 102) (.tmp 103) (.const (.bool false)) rfl (K.dep 2 102 rfl) (K.dep 3 103 rfl)
        · exact st_assign (.tmp 104) rfl (K.dep 4 104 rfl)
        intro f13 w13 A hb
        replace bl0 := bl
        replace x1 := (A.old 1 rfl).trans x1
        clear x2
        replace x3 := (A.old 3 rfl).trans x3
        replace x29 := (A.old 29 rfl).trans x29
        replace x4 := (A.old 4 rfl).trans x4
        replace x58 := (A.old 58 rfl).trans x58
        replace x66 := (A.old 66 rfl).trans x66
        replace x99 := (A.old 99 rfl).trans x99
        have x2 : f13.eval (.tmp 2) = .bool true := A.has 5 2 rfl
        have lt_m1 := Ob.lt m1
        replace m1 := Ob.below m1 hb
        have lt_m3 := Ob.lt m3
        replace m3 := Ob.below m3 hb
        replace bl := (bl.trans (Below.mono hb bl.size))
        replace sz := A.size.trans sz
        replace df := A.defs.trans df
        clear A hb
        show Code.wp _ _ _ _ _
        refine wp_ret ?_
        repeat (first | with_reducible refine then_ret ?_ | with_reducible refine block_ret ?_)
        exact bodyPost_ret (v := .bool true) (ret_slot rfl f13 _ x2 _ _) df ⟨rfl, bl⟩
      -- R10
      refine wp_all [.eq (.pointer (some ⟨g3, 0, none⟩)), .eq (.int .i64 (sk)), .eq (.pointer (some ⟨g1, 32, none⟩)), .eq (.int .i64 ((kd : Nat) : Int)), .eq (.bool false), .eq (.bool false), .eq (.pointer (some ⟨g3, 1, none⟩)), .eq (.int .i64 (si)), .eq (.bool false), .eq (.bool false), .eq (.bool false), .eq (.pointer (some ⟨g3, 1, none⟩)), .eq (.int .i64 (si)), .eq (.pointer (some ⟨g1, 33, none⟩)), .eq (.int .i64 ((ht : Nat) : Int)), .eq (.int .i64 ((2 ^ ht : Nat) : Int)), .eq (.bool false), .eq (.bool false), .eq (.bool false), .eq (.pointer (some ⟨g3, 3, none⟩)), .eq (.slice pA (P).length pC), .eq (.int .i64 (((P).length : Nat) : Int)), .eq (.pointer (some ⟨g1, 33, none⟩)), .eq (.int .i64 ((ht : Nat) : Int)), .eq (.bool true), .eq (.bool true), .eq (.bool true), .any, .any, .any, .any, .any, .eq (.bool true)] Tryd.mixed (by kernel_rfl) (by kernel_rfl) (by rw [sz]; kernel_rfl) (by kernel_rfl) ⟨fun hw ac u K => ?_, fun hw ac u K => ?_, fun hw ac u K => ?_, fun hw ac u K => ?_, fun hw ac u K => ?_, fun hw ac u K => ?_, fun hw ac u K => ?_, fun hw ac u K => ?_, fun hw ac u K => ?_, fun hw ac u K => ?_, fun hw ac u K => ?_, fun hw ac u K => ?_, fun hw ac u K => ?_, fun hw ac u K => ?_, fun hw ac u K => ?_, fun hw ac u K => ?_, fun hw ac u K => ?_, fun hw ac u K => ?_, fun hw ac u K => ?_, fun hw ac u K => ?_, fun hw ac u K => ?_, fun hw ac u K => ?_, fun hw ac u K => ?_, fun hw ac u K => ?_, fun hw ac u K => ?_, fun hw ac u K => ?_, fun hw ac u K => ?_, fun hw ac u K => ?_, fun hw ac u K => ?_, fun hw ac u K => ?_, fun hw ac u K => ?_, fun hw ac u K => ?_, fun hw ac u K => ?_, trivial⟩ ?_
      · exact st_field 38 0 (.tmp 3) rfl ((K.old 3 rfl).trans x3) (by kernel_rfl)
      · exact st_loadc 3 (.tmp 67) rfl (by kernel_rfl) (K.dep 0 67 rfl) (Ob.cell (Ob.below m3 K.grow) 0 rfl)
      · exact st_field 50 1 (.tmp 1) rfl ((K.old 1 rfl).trans x1) (by kernel_rfl)
      · exact st_loadc 3 (.tmp 69) rfl (by kernel_rfl) (K.dep 2 69 rfl) (Ob.cell (Ob.below m1 K.grow) 32 ((at_head hpb 0 _).trans rfl))
      · exact st_neqi 3 (.tmp 68) (.tmp 70) rfl .i64 ((sk)) (((kd : Nat) : Int)) (K.dep 1 68 rfl) (K.dep 3 70 rfl) _ (by rw [eq_comm, decide_eq_false_iff_not]; omega)
      · exact st_move (.tmp 71) rfl (K.dep 4 71 rfl)
      · exact st_field 38 1 (.tmp 3) rfl ((K.old 3 rfl).trans x3) (by kernel_rfl)
      · exact st_loadc 3 (.tmp 73) rfl (by kernel_rfl) (K.dep 6 73 rfl) (Ob.cell (Ob.below m3 K.grow) 1 rfl)
      · exact st_lss 3 (.tmp 74) (.const (.int .i64 0)) rfl .i64 ((si)) (0) (K.dep 7 74 rfl) rfl _ (by rw [eq_comm, decide_eq_false_iff_not]; omega)
      · exact st_pick_f' (.tmp 72) (.const (.bool true)) (.tmp 75) rfl (K.dep 5 72 rfl) (K.dep 8 75 rfl)
      · exact st_move (.tmp 76) rfl (K.dep 9 76 rfl)
      · exact st_field 38 1 (.tmp 3) rfl ((K.old 3 rfl).trans x3) (by kernel_rfl)
      · exact st_loadc 3 (.tmp 78) rfl (by kernel_rfl) (K.dep 11 78 rfl) (Ob.cell (Ob.below m3 K.grow) 1 rfl)
      · exact st_field 50 2 (.tmp 1) rfl ((K.old 1 rfl).trans x1) (by kernel_rfl)
      · exact st_loadc 3 (.tmp 80) rfl (by kernel_rfl) (K.dep 13 80 rfl) (Ob.cell (Ob.below m1 K.grow) 33 ((at_head hpb 1 _).trans rfl))
      · exact st_shl 3 3 (.const (.int .i64 1)) (.tmp 81) rfl (1) (ht) rfl (K.dep 14 81 rfl) (2 ^ ht) (by simp) hpw (by omega)
      · exact st_geq 3 (.tmp 79) (.tmp 82) rfl .i64 ((si)) (((2 ^ ht : Nat) : Int)) (K.dep 12 79 rfl) (K.dep 15 82 rfl) _ (by rw [eq_comm, decide_eq_false_iff_not]; omega)
      · exact st_pick_f' (.tmp 77) (.const (.bool true)) (.tmp 83) rfl (K.dep 10 77 rfl) (K.dep 16 83 rfl)
      · exact st_move (.tmp 84) rfl (K.dep 17 84 rfl)
      · exact st_field 38 3 (.tmp 3) rfl ((K.old 3 rfl).trans x3) (by kernel_rfl)
      · exact st_loadc 32 (.tmp 86) rfl (by kernel_rfl) (K.dep 19 86 rfl) (Ob.cell (Ob.below m3 K.grow) 3 rfl)
      · exact st_lenh (.tmp 87) rfl (fk_val (K.dep 20 87 rfl) (Fk.mono _ _ _ _ vP (bl.trans (Below.mono K.grow bl.size))))
      · exact st_field 50 2 (.tmp 1) rfl ((K.old 1 rfl).trans x1) (by kernel_rfl)
      · exact st_loadc 3 (.tmp 89) rfl (by kernel_rfl) (K.dep 22 89 rfl) (Ob.cell (Ob.below m1 K.grow) 33 ((at_head hpb 1 _).trans rfl))
      · exact st_neqi 3 (.tmp 88) (.tmp 90) rfl .i64 ((((P).length : Nat) : Int)) (((ht : Nat) : Int)) (K.dep 21 88 rfl) (K.dep 23 90 rfl) _ (by rw [eq_comm, decide_eq_true_iff]; omega)
      · exact st_pick_f' (.tmp 85) (.const (.bool true)) (.tmp 91) rfl (K.dep 18 85 rfl) (K.dep 24 91 rfl)
      · exact st_move (.tmp 92) rfl (K.dep 25 92 rfl)
      · exact (Bool.false_ne_true hw).elim
      · exact (Bool.false_ne_true hw).elim
      · exact (Bool.false_ne_true hw).elim
      · exact (Bool.false_ne_true hw).elim
      · exact (Bool.false_ne_true hw).elim
      · exact st_pick_t (.tmp 93) (.const (.bool true)) (.tmp 98) rfl (K.dep 26 93 rfl) rfl
      intro f12 w12 A hb
      replace bl0 := bl
      replace x1 := (A.old 1 rfl).trans x1
      replace x2 := (A.old 2 rfl).trans x2
      replace x3 := (A.old 3 rfl).trans x3
      replace x29 := (A.old 29 rfl).trans x29
      replace x4 := (A.old 4 rfl).trans x4
      replace x58 := (A.old 58 rfl).trans x58
      replace x66 := (A.old 66 rfl).trans x66
      replace x5 := (A.old 5 rfl).trans x5
      have x99 : f12.eval (.tmp 99) = .bool true := A.has 32 99 rfl
      have lt_m1 := Ob.lt m1
      replace m1 := Ob.below m1 hb
      have lt_m3 := Ob.lt m3
      replace m3 := Ob.below m3 hb
      replace bl := (bl.trans (Below.mono hb bl.size))
      replace sz := A.size.trans sz
      replace df := A.defs.trans df
      clear A hb
      clear x5
      show Code.wp _ _ _ _ _
      refine wp_cond_true x99 ?_
      refine wp_seq ?_
      -- R11
      refine wp_all_seq [.eq (.int .i64 21), .eq (.bool true), .eq (.bool true), .eq (.bool true), .eq (.bool true), .eq (.bool true)] (by kernel_rfl) (by kernel_rfl) (by rw [sz]; kernel_rfl) (by kernel_rfl) ⟨fun hw ac u K => ?_, fun hw ac u K => ?_, fun hw ac u K => ?_, fun hw ac u K => ?_, fun hw ac u K => ?_, fun hw ac u K => ?_, trivial⟩ ?_
      · exact st_move (.tmp 4) rfl ((K.old 4 rfl).trans x4)
      · exact st_eqi 29 (.tmp 100) (.const (.int .i64 21)) rfl .i64 (21) (21) (K.dep 0 100 rfl) rfl _ (by rfl)
      · exact st_move (.tmp 101) rfl (K.dep 1 101 rfl)
      · exact st_call 8 (.func 8) _ _ #[] rfl rfl rfl Tryd.enter8 (fk_of (awake_any _ (hK.below (bl.trans (Below.mono K.grow bl.size)))))
      · exact st_pick_t (.tmp 102) (.tmp 103) (.const (.bool false)) rfl (K.dep 2 102 rfl) (K.dep 3 103 rfl)
      · exact st_assign (.tmp 104) rfl (K.dep 4 104 rfl)
      intro f13 w13 A hb
      replace bl0 := bl
      replace x1 := (A.old 1 rfl).trans x1
      clear x2
      replace x3 := (A.old 3 rfl).trans x3
      replace x29 := (A.old 29 rfl).trans x29
      replace x4 := (A.old 4 rfl).trans x4
      replace x58 := (A.old 58 rfl).trans x58
      replace x66 := (A.old 66 rfl).trans x66
      replace x99 := (A.old 99 rfl).trans x99
      have x2 : f13.eval (.tmp 2) = .bool true := A.has 5 2 rfl
      have lt_m1 := Ob.lt m1
      replace m1 := Ob.below m1 hb
      have lt_m3 := Ob.lt m3
      replace m3 := Ob.below m3 hb
      replace bl := (bl.trans (Below.mono hb bl.size))
      replace sz := A.size.trans sz
      replace df := A.defs.trans df
      clear A hb
      show Code.wp _ _ _ _ _
      refine wp_ret ?_
      repeat (first | with_reducible refine then_ret ?_ | with_reducible refine block_ret ?_)
      exact bodyPost_ret (v := .bool true) (ret_slot rfl f13 _ x2 _ _) df ⟨rfl, bl⟩
    have hnp : npt kd = 67 := by rw [hkd]; rfl
    -- R8
    refine wp_all_seq [.eq (.pointer (some ⟨g1, 32, none⟩)), .eq (.int .i64 ((kd : Nat) : Int)), .eq (.bool false)] (by kernel_rfl) (by kernel_rfl) (by rw [sz]; kernel_rfl) (by kernel_rfl) ⟨fun hw ac u K => ?_, fun hw ac u K => ?_, fun hw ac u K => ?_, trivial⟩ ?_
    · exact st_field 50 1 (.tmp 1) rfl ((K.old 1 rfl).trans x1) (by kernel_rfl)
    · exact st_loadc 3 (.tmp 64) rfl (by kernel_rfl) (K.dep 0 64 rfl) (Ob.cell (Ob.below m1 K.grow) 32 ((at_head hpb 0 _).trans rfl))
    · exact st_eqi 3 (.tmp 65) (.const (.int .i64 2)) rfl .i64 (((kd : Nat) : Int)) (2) (K.dep 1 65 rfl) rfl _ (by simp [hkd])
    intro f10 w10 A hb
    replace bl0 := bl
    replace x1 := (A.old 1 rfl).trans x1
    replace x2 := (A.old 2 rfl).trans x2
    replace x3 := (A.old 3 rfl).trans x3
    replace x29 := (A.old 29 rfl).trans x29
    replace x4 := (A.old 4 rfl).trans x4
    replace x58 := (A.old 58 rfl).trans x58
    replace x5 := (A.old 5 rfl).trans x5
    have x66 : f10.eval (.tmp 66) = .bool false := A.has 2 66 rfl
    have lt_m1 := Ob.lt m1
    replace m1 := Ob.below m1 hb
    have lt_m3 := Ob.lt m3
    replace m3 := Ob.below m3 hb
    replace bl := (bl.trans (Below.mono hb bl.size))
    replace sz := A.size.trans sz
    replace df := A.defs.trans df
    clear A hb
    show Code.wp _ _ _ _ _
    refine wp_cond_false x66 ?_
    refine wp_skip ?_
    show Code.wp _ _ _ _ _
    refine wp_seq ?_
    refine wp_seq ?_
    have hcs : sk ≠ kd ∨ (sk = kd ∧ si < 0) ∨ (sk = kd ∧ 0 ≤ si ∧ ((2 ^ ht : Nat) : Int) ≤ si) ∨ (sk = kd ∧ 0 ≤ si ∧ si < ((2 ^ ht : Nat) : Int) ∧ P.length ≠ ht) := by omega
    clear hb0
    rcases hcs with hcs | hcs | hcs | hcs
    · skip
      -- R10
      refine wp_all [.eq (.pointer (some ⟨g3, 0, none⟩)), .eq (.int .i64 (sk)), .eq (.pointer (some ⟨g1, 32, none⟩)), .eq (.int .i64 ((kd : Nat) : Int)), .eq (.bool true), .eq (.bool true), .any, .any, .any, .eq (.bool true), .eq (.bool true), .any, .any, .any, .any, .any, .any, .eq (.bool true), .eq (.bool true), .any, .any, .any, .any, .any, .any, .eq (.bool true), .eq (.bool true), .any, .any, .any, .any, .any, .eq (.bool true)] Tryd.mixed (by kernel_rfl) (by kernel_rfl) (by rw [sz]; kernel_rfl) (by kernel_rfl) ⟨fun hw ac u K => ?_, fun hw ac u K => ?_, fun hw ac u K => ?_, fun hw ac u K => ?_, fun hw ac u K => ?_, fun hw ac u K => ?_, fun hw ac u K => ?_, fun hw ac u K => ?_, fun hw ac u K => ?_, fun hw ac u K => ?_, fun hw ac u K => ?_, fun hw ac u K => ?_, fun hw ac u K => ?_, fun hw ac u K => ?_, fun hw ac u K => ?_, fun hw ac u K => ?_, fun hw ac u K => ?_, fun hw ac u K => ?_, fun hw ac u K => ?_, fun hw ac u K => ?_, fun hw ac u K => ?_, fun hw ac u K => ?_, fun hw ac u K => ?_, fun hw ac u K => ?_, fun hw ac u K => ?_, fun hw ac u K => ?_, fun hw ac u K => ?_, fun hw ac u K => ?_, fun hw ac u K => ?_, fun hw ac u K => ?_, fun hw ac u K => ?_, fun hw ac u K => ?_, fun hw ac u K => ?_, trivial⟩ ?_
      · exact st_field 38 0 (.tmp 3) rfl ((K.old 3 rfl).trans x3) (by kernel_rfl)
      · exact st_loadc 3 (.tmp 67) rfl (by kernel_rfl) (K.dep 0 67 rfl) (Ob.cell (Ob.below m3 K.grow) 0 rfl)
      · exact st_field 50 1 (.tmp 1) rfl ((K.old 1 rfl).trans x1) (by kernel_rfl)
      · exact st_loadc 3 (.tmp 69) rfl (by kernel_rfl) (K.dep 2 69 rfl) (Ob.cell (Ob.below m1 K.grow) 32 ((at_head hpb 0 _).trans rfl))
      · exact st_neqi 3 (.tmp 68) (.tmp 70) rfl .i64 ((sk)) (((kd : Nat) : Int)) (K.dep 1 68 rfl) (K.dep 3 70 rfl) _ (by rw [eq_comm, decide_eq_true_iff]; exact hcs)
      · exact st_move (.tmp 71) rfl (K.dep 4 71 rfl)
      · exact (Bool.false_ne_true hw).elim
      · exact (Bool.false_ne_true hw).elim
      · exact (Bool.false_ne_true hw).elim
      · exact st_pick_t (.tmp 72) (.const (.bool true)) (.tmp 75) rfl (K.dep 5 72 rfl) rfl
      · exact st_move (.tmp 76) rfl (K.dep 9 76 rfl)
      · exact (Bool.false_ne_true hw).elim
      · exact (Bool.false_ne_true hw).elim
      · exact (Bool.false_ne_true hw).elim
      · exact (Bool.false_ne_true hw).elim
      · exact (Bool.false_ne_true hw).elim
      · exact (Bool.false_ne_true hw).elim
      · exact st_pick_t (.tmp 77) (.const (.bool true)) (.tmp 83) rfl (K.dep 10 77 rfl) rfl
      · exact st_move (.tmp 84) rfl (K.dep 17 84 rfl)
      · exact (Bool.false_ne_true hw).elim
      · exact (Bool.false_ne_true hw).elim
      · exact (Bool.false_ne_true hw).elim
      · exact (Bool.false_ne_true hw).elim
      · exact (Bool.false_ne_true hw).elim
      · exact (Bool.false_ne_true hw).elim
      · exact st_pick_t (.tmp 85) (.const (.bool true)) (.tmp 91) rfl (K.dep 18 85 rfl) rfl
      · exact st_move (.tmp 92) rfl (K.dep 25 92 rfl)
      · exact (Bool.false_ne_true hw).elim
      · exact (Bool.false_ne_true hw).elim
      · exact (Bool.false_ne_true hw).elim
      · exact (Bool.false_ne_true hw).elim
      · exact (Bool.false_ne_true hw).elim
      · exact st_pick_t (.tmp 93) (.const (.bool true)) (.tmp 98) rfl (K.dep 26 93 rfl) rfl
      intro f11 w11 A hb
      replace bl0 := bl
      replace x1 := (A.old 1 rfl).trans x1
      replace x2 := (A.old 2 rfl).trans x2
      replace x3 := (A.old 3 rfl).trans x3
      replace x29 := (A.old 29 rfl).trans x29
      replace x4 := (A.old 4 rfl).trans x4
      replace x58 := (A.old 58 rfl).trans x58
      replace x5 := (A.old 5 rfl).trans x5
      replace x66 := (A.old 66 rfl).trans x66
      have x99 : f11.eval (.tmp 99) = .bool true := A.has 32 99 rfl
      have lt_m1 := Ob.lt m1
      replace m1 := Ob.below m1 hb
      have lt_m3 := Ob.lt m3
      replace m3 := Ob.below m3 hb
      replace bl := (bl.trans (Below.mono hb bl.size))
      replace sz := A.size.trans sz
      replace df := A.defs.trans df
      clear A hb
      clear x5
      show Code.wp _ _ _ _ _
      refine wp_cond_true x99 ?_
      refine wp_seq ?_
      -- R11
      refine wp_all_seq [.eq (.int .i64 21), .eq (.bool true), .eq (.bool true), .eq (.bool true), .eq (.bool true), .eq (.bool true)] (by kernel_rfl) (by kernel_rfl) (by rw [sz]; kernel_rfl) (by kernel_rfl) ⟨fun hw ac u K => ?_, fun hw ac u K => ?_, fun hw ac u K => ?_, fun hw ac u K => ?_, fun hw ac u K => ?_, fun hw ac u K => ?_, trivial⟩ ?_
      · exact st_move (.tmp 4) rfl ((K.old 4 rfl).trans x4)
      · exact st_eqi 29 (.tmp 100) (.const (.int .i64 21)) rfl .i64 (21) (21) (K.dep 0 100 rfl) rfl _ (by rfl)
      · exact st_move (.tmp 101) rfl (K.dep 1 101 rfl)
      · exact st_call 8 (.func 8) _ _ #[] rfl rfl rfl Tryd.enter8 (fk_of (awake_any _ (hK.below (bl.trans (Below.mono K.grow bl.size)))))
      · exact st_pick_t (.tmp 102) (.tmp 103) (.const (.bool false)) rfl (K.dep 2 102 rfl) (K.dep 3 103 rfl)
      · exact st_assign (.tmp 104) rfl (K.dep 4 104 rfl)
      intro f12 w12 A hb
      replace bl0 := bl
      replace x1 := (A.old 1 rfl).trans x1
      clear x2
      replace x3 := (A.old 3 rfl).trans x3
      replace x29 := (A.old 29 rfl).trans x29
      replace x4 := (A.old 4 rfl).trans x4
      replace x58 := (A.old 58 rfl).trans x58
      replace x66 := (A.old 66 rfl).trans x66
      replace x99 := (A.old 99 rfl).trans x99
      have x2 : f12.eval (.tmp 2) = .bool true := A.has 5 2 rfl
      have lt_m1 := Ob.lt m1
      replace m1 := Ob.below m1 hb
      have lt_m3 := Ob.lt m3
      replace m3 := Ob.below m3 hb
      replace bl := (bl.trans (Below.mono hb bl.size))
      replace sz := A.size.trans sz
      replace df := A.defs.trans df
      clear A hb
      show Code.wp _ _ _ _ _
      refine wp_ret ?_
      repeat (first | with_reducible refine then_ret ?_ | with_reducible refine block_ret ?_)
      exact bodyPost_ret (v := .bool true) (ret_slot rfl f12 _ x2 _ _) df ⟨rfl, bl⟩
    · skip
      -- R10
      refine wp_all [.eq (.pointer (some ⟨g3, 0, none⟩)), .eq (.int .i64 (sk)), .eq (.pointer (some ⟨g1, 32, none⟩)), .eq (.int .i64 ((kd : Nat) : Int)), .eq (.bool false), .eq (.bool false), .eq (.pointer (some ⟨g3, 1, none⟩)), .eq (.int .i64 (si)), .eq (.bool true), .eq (.bool true), .eq (.bool true), .any, .any, .any, .any, .any, .any, .eq (.bool true), .eq (.bool true), .any, .any, .any, .any, .any, .any, .eq (.bool true), .eq (.bool true), .any, .any, .any, .any, .any, .eq (.bool true)] Tryd.mixed (by kernel_rfl) (by kernel_rfl) (by rw [sz]; kernel_rfl) (by kernel_rfl) ⟨fun hw ac u K => ?_, fun hw ac u K => ?_, fun hw ac u K => ?_, fun hw ac u K => ?_, fun hw ac u K => ?_, fun hw ac u K => ?_, fun hw ac u K => ?_, fun hw ac u K => ?_, fun hw ac u K => ?_, fun hw ac u K => ?_, fun hw ac u K => ?_, fun hw ac u K => ?_, fun hw ac u K => ?_, fun hw ac u K => ?_, fun hw ac u K => ?_, fun hw ac u K => ?_, fun hw ac u K => ?_, fun hw ac u K => ?_, fun hw ac u K => ?_, fun hw ac u K => ?_, fun hw ac u K => ?_, fun hw ac u K => ?_, fun hw ac u K => ?_, fun hw ac u K => ?_, fun hw ac u K => ?_, fun hw ac u K => ?_, fun hw ac u K => ?_, fun hw ac u K => ?_, fun hw ac u K => ?_, fun hw ac u K => ?_, fun hw ac u K => ?_, fun hw ac u K => ?_, fun hw ac u K => ?_, trivial⟩ ?_
      · exact st_field 38 0 (.tmp 3) rfl ((K.old 3 rfl).trans x3) (by kernel_rfl)
      · exact st_loadc 3 (.tmp 67) rfl (by kernel_rfl) (K.dep 0 67 rfl) (Ob.cell (Ob.below m3 K.grow) 0 rfl)
      · exact st_field 50 1 (.tmp 1) rfl ((K.old 1 rfl).trans x1) (by kernel_rfl)
      · exact st_loadc 3 (.tmp 69) rfl (by kernel_rfl) (K.dep 2 69 rfl) (Ob.cell (Ob.below m1 K.grow) 32 ((at_head hpb 0 _).trans rfl))
      · exact st_neqi 3 (.tmp 68) (.tmp 70) rfl .i64 ((sk)) (((kd : Nat) : Int)) (K.dep 1 68 rfl) (K.dep 3 70 rfl) _ (by rw [eq_comm, decide_eq_false_iff_not]; omega)
      · exact st_move (.tmp 71) rfl (K.dep 4 71 rfl)
      · exact st_field 38 1 (.tmp 3) rfl ((K.old 3 rfl).trans x3) (by kernel_rfl)
      · exact st_loadc 3 (.tmp 73) rfl (by kernel_rfl) (K.dep 6 73 rfl) (Ob.cell (Ob.below m3 K.grow) 1 rfl)
      · exact st_lss 3 (.tmp 74) (.const (.int .i64 0)) rfl .i64 ((si)) (0) (K.dep 7 74 rfl) rfl _ (by rw [eq_comm, decide_eq_true_iff]; omega)
      · exact st_pick_f' (.tmp 72) (.const (.bool true)) (.tmp 75) rfl (K.dep 5 72 rfl) (K.dep 8 75 rfl)
      · exact st_move (.tmp 76) rfl (K.dep 9 76 rfl)
      · exact (Bool.false_ne_true hw).elim
      · exact (Bool.false_ne_true hw).elim
      · exact (Bool.false_ne_true hw).elim
      · exact (Bool.false_ne_true hw).elim
      · exact (Bool.false_ne_true hw).elim
      · exact (Bool.false_ne_true hw).elim
      · exact st_pick_t (.tmp 77) (.const (.bool true)) (.tmp 83) rfl (K.dep 10 77 rfl) rfl
      · exact st_move (.tmp 84) rfl (K.dep 17 84 rfl)
      · exact (Bool.false_ne_true hw).elim
      · exact (Bool.false_ne_true hw).elim
      · exact (Bool.false_ne_true hw).elim
      · exact (Bool.false_ne_true hw).elim
      · exact (Bool.false_ne_true hw).elim
      · exact (Bool.false_ne_true hw).elim
      · exact st_pick_t (.tmp 85) (.const (.bool true)) (.tmp 91) rfl (K.dep 18 85 rfl) rfl
      · exact st_move (.tmp 92) rfl (K.dep 25 92 rfl)
      · exact (Bool.false_ne_true hw).elim
      · exact (Bool.false_ne_true hw).elim
      · exact (Bool.false_ne_true hw).elim
      · exact (Bool.false_ne_true hw).elim
      · exact (Bool.false_ne_true hw).elim
      · exact st_pick_t (.tmp 93) (.const (.bool true)) (.tmp 98) rfl (K.dep 26 93 rfl) rfl
      intro f11 w11 A hb
      replace bl0 := bl
      replace x1 := (A.old 1 rfl).trans x1
      replace x2 := (A.old 2 rfl).trans x2
      replace x3 := (A.old 3 rfl).trans x3
      replace x29 := (A.old 29 rfl).trans x29
      replace x4 := (A.old 4 rfl).trans x4
      replace x58 := (A.old 58 rfl).trans x58
      replace x5 := (A.old 5 rfl).trans x5
      replace x66 := (A.old 66 rfl).trans x66
      have x99 : f11.eval (.tmp 99) = .bool true := A.has 32 99 rfl
      have lt_m1 := Ob.lt m1
      replace m1 := Ob.below m1 hb
      have lt_m3 := Ob.lt m3
      replace m3 := Ob.below m3 hb
      replace bl := (bl.trans (Below.mono hb bl.size))
      replace sz := A.size.trans sz
      replace df := A.defs.trans df
      clear A hb
      clear x5
      show Code.wp _ _ _ _ _
      refine wp_cond_true x99 ?_
      refine wp_seq ?_
      -- R11
      refine wp_all_seq [.eq (.int .i64 21), .eq (.bool true), .eq (.bool true), .eq (.bool true), .eq (.bool true), .eq (.bool true)] (by kernel_rfl) (by kernel_rfl) (by rw [sz]; kernel_rfl) (by kernel_rfl) ⟨fun hw ac u K => ?_, fun hw ac u K => ?_, fun hw ac u K => ?_, fun hw ac u K => ?_, fun hw ac u K => ?_, fun hw ac u K => ?_, trivial⟩ ?_
      · exact st_move (.tmp 4) rfl ((K.old 4 rfl).trans x4)
      · exact st_eqi 29 (.tmp 100) (.const (.int .i64 21)) rfl .i64 (21) (21) (K.dep 0 100 rfl) rfl _ (by rfl)
      · exact st_move (.tmp 101) rfl (K.dep 1 101 rfl)
      · exact st_call 8 (.func 8) _ _ #[] rfl rfl rfl Tryd.enter8 (fk_of (awake_any _ (hK.below (bl.trans (Below.mono K.grow bl.size)))))
      · exact st_pick_t (.tmp 102) (.tmp 103) (.const (.bool false)) rfl (K.dep 2 102 rfl) (K.dep 3 103 rfl)
      · exact st_assign (.tmp 104) rfl (K.dep 4 104 rfl)
      intro f12 w12 A hb
      replace bl0 := bl
      replace x1 := (A.old 1 rfl).trans x1
      clear x2
      replace x3 := (A.old 3 rfl).trans x3
      replace x29 := (A.old 29 rfl).trans x29
      replace x4 := (A.old 4 rfl).trans x4
      replace x58 := (A.old 58 rfl).trans x58
      replace x66 := (A.old 66 rfl).trans x66
      replace x99 := (A.old 99 rfl).trans x99
      have x2 : f12.eval (.tmp 2) = .bool true := A.has 5 2 rfl
      have lt_m1 := Ob.lt m1
      replace m1 := Ob.below m1 hb
      have lt_m3 := Ob.lt m3
      replace m3 := Ob.below m3 hb
      replace bl := (bl.trans (Below.mono hb bl.size))
      replace sz := A.size.trans sz
      replace df := A.defs.trans df
      clear A hb
      show Code.wp _ _ _ _ _
      refine wp_ret ?_
      repeat (first | with_reducible refine then_ret ?_ | with_reducible refine block_ret ?_)
      exact bodyPost_ret (v := .bool true) (ret_slot rfl f12 _ x2 _ _) df ⟨rfl, bl⟩
    · skip
      -- R10
      refine wp_all [.eq (.pointer (some ⟨g3, 0, none⟩)), .eq (.int .i64 (sk)), .eq (.pointer (some ⟨g1, 32, none⟩)), .eq (.int .i64 ((kd : Nat) : Int)), .eq (.bool false), .eq (.bool false), .eq (.pointer (some ⟨g3, 1, none⟩)), .eq (.int .i64 (si)), .eq (.bool false), .eq (.bool false), .eq (.bool false), .eq (.pointer (some ⟨g3, 1, none⟩)), .eq (.int .i64 (si)), .eq (.pointer (some ⟨g1, 33, none⟩)), .eq (.int .i64 ((ht : Nat) : Int)), .eq (.int .i64 ((2 ^ ht : Nat) : Int)), .eq (.bool true), .eq (.bool true), .eq (.bool true), .any, .any, .any, .any, .any, .any, .eq (.bool true), .eq (.bool true), .any, .any, .any, .any, .any, .eq (.bool true)] Tryd.mixed (by kernel_rfl) (by kernel_rfl) (by rw [sz]; kernel_rfl) (by kernel_rfl) ⟨fun hw ac u K => ?_, fun hw ac u K => ?_, fun hw ac u K => ?_, fun hw ac u K => ?_, fun hw ac u K => ?_, fun hw ac u K => ?_, fun hw ac u K => ?_, fun hw ac u K => ?_, fun hw ac u K => ?_, fun hw ac u K => ?_, fun hw ac u K => ?_, fun hw ac u K => ?_, fun hw ac u K => ?_, fun hw ac u K => ?_, fun hw ac u K => ?_, fun hw ac u K => ?_, fun hw ac u K => ?_, fun hw ac u K => ?_, fun hw ac u K => ?_, fun hw ac u K => ?_, fun hw ac u K => ?_, fun hw ac u K => ?_, fun hw ac u K => ?_, fun hw ac u K => ?_, fun hw ac u K => ?_, fun hw ac u K => ?_, fun hw ac u K => ?_, fun hw ac u K => ?_, fun hw ac u K => ?_, fun hw ac u K => ?_, fun hw ac u K => ?_, fun hw ac u K => ?_, fun hw ac u K => ?_, trivial⟩ ?_
      · exact st_field 38 0 (.tmp 3) rfl ((K.old 3 rfl).trans x3) (by kernel_rfl)
      · exact st_loadc 3 (.tmp 67) rfl (by kernel_rfl) (K.dep 0 67 rfl) (Ob.cell (Ob.below m3 K.grow) 0 rfl)
      · exact st_field 50 1 (.tmp 1) rfl ((K.old 1 rfl).trans x1) (by kernel_rfl)
      · exact st_loadc 3 (.tmp 69) rfl (by kernel_rfl) (K.dep 2 69 rfl) (Ob.cell (Ob.below m1 K.grow) 32 ((at_head hpb 0 _).trans rfl))
      · exact st_neqi 3 (.tmp 68) (.tmp 70) rfl .i64 ((sk)) (((kd : Nat) : Int)) (K.dep 1 68 rfl) (K.dep 3 70 rfl) _ (by rw [eq_comm, decide_eq_false_iff_not]; omega)
      · exact st_move (.tmp 71) rfl (K.dep 4 71 rfl)
      · exact st_field 38 1 (.tmp 3) rfl ((K.old 3 rfl).trans x3) (by kernel_rfl)
      · exact st_loadc 3 (.tmp 73) rfl (by kernel_rfl) (K.dep 6 73 rfl) (Ob.cell (Ob.below m3 K.grow) 1 rfl)
      · exact st_lss 3 (.tmp 74) (.const (.int .i64 0)) rfl .i64 ((si)) (0) (K.dep 7 74 rfl) rfl _ (by rw [eq_comm, decide_eq_false_iff_not]; omega)
      · exact st_pick_f' (.tmp 72) (.const (.bool true)) (.tmp 75) rfl (K.dep 5 72 rfl) (K.dep 8 75 rfl)
      · exact st_move (.tmp 76) rfl (K.dep 9 76 rfl)
      · exact st_field 38 1 (.tmp 3) rfl ((K.old 3 rfl).trans x3) (by kernel_rfl)
      · exact st_loadc 3 (.tmp 78) rfl (by kernel_rfl) (K.dep 11 78 rfl) (Ob.cell (Ob.below m3 K.grow) 1 rfl)
      · exact st_field 50 2 (.tmp 1) rfl ((K.old 1 rfl).trans x1) (by kernel_rfl)
      · exact st_loadc 3 (.tmp 80) rfl (by kernel_rfl) (K.dep 13 80 rfl) (Ob.cell (Ob.below m1 K.grow) 33 ((at_head hpb 1 _).trans rfl))
      · exact st_shl 3 3 (.const (.int .i64 1)) (.tmp 81) rfl (1) (ht) rfl (K.dep 14 81 rfl) (2 ^ ht) (by simp) hpw (by omega)
      · exact st_geq 3 (.tmp 79) (.tmp 82) rfl .i64 ((si)) (((2 ^ ht : Nat) : Int)) (K.dep 12 79 rfl) (K.dep 15 82 rfl) _ (by rw [eq_comm, decide_eq_true_iff]; omega)
      · exact st_pick_f' (.tmp 77) (.const (.bool true)) (.tmp 83) rfl (K.dep 10 77 rfl) (K.dep 16 83 rfl)
      · exact st_move (.tmp 84) rfl (K.dep 17 84 rfl)
      · exact (Bool.false_ne_true hw).elim
      · exact (Bool.false_ne_true hw).elim
      · exact (Bool.false_ne_true hw).elim
      · exact (Bool.false_ne_true hw).elim
      · exact (Bool.false_ne_true hw).elim
      · exact (Bool.false_ne_true hw).elim
      · exact st_pick_t (.tmp 85) (.const (.bool true)) (.tmp 91) rfl (K.dep 18 85 rfl) rfl
      · exact st_move (.tmp 92) rfl (K.dep 25 92 rfl)
      · exact (Bool.false_ne_true hw).elim
      · exact (Bool.false_ne_true hw).elim
      · exact (Bool.false_ne_true hw).elim
      · exact (Bool.false_ne_true hw).elim
      · exact (Bool.false_ne_true hw).elim
      · exact st_pick_t (.tmp 93) (.const (.bool true)) (.tmp 98) rfl (K.dep 26 93 rfl) rfl
      intro f11 w11 A hb
      replace bl0 := bl
      replace x1 := (A.old 1 rfl).trans x1
      replace x2 := (A.old 2 rfl).trans x2
      replace x3 := (A.old 3 rfl).trans x3
      replace x29 := (A.old 29 rfl).trans x29
      replace x4 := (A.old 4 rfl).trans x4
      replace x58 := (A.old 58 rfl).trans x58
      replace x5 := (A.old 5 rfl).trans x5
      replace x66 := (A.old 66 rfl).trans x66
      have x99 : f11.eval (.tmp 99) = .bool true := A.has 32 99 rfl
      have lt_m1 := Ob.lt m1
      replace m1 := Ob.below m1 hb
      have lt_m3 := Ob.lt m3
      replace m3 := Ob.below m3 hb
      replace bl := (bl.trans (Below.mono hb bl.size))
      replace sz := A.size.trans sz
      replace df := A.defs.trans df
      clear A hb
      clear x5
      show Code.wp _ _ _ _ _
      refine wp_cond_true x99 ?_
      refine wp_seq ?_
      -- R11
      refine wp_all_seq [.eq (.int .i64 21), .eq (.bool true), .eq (.bool true), .eq (.bool true), .eq (.bool true), .eq (.bool true)] (by kernel_rfl) (by kernel_rfl) (by rw [sz]; kernel_rfl) (by kernel_rfl) ⟨fun hw ac u K => ?_, fun hw ac u K => ?_, fun hw ac u K => ?_, fun hw ac u K => ?_, fun hw ac u K => ?_, fun hw ac u K => ?_, trivial⟩ ?_
      · exact st_move (.tmp 4) rfl ((K.old 4 rfl).trans x4)
      · exact st_eqi 29 (.tmp 100) (.const (.int .i64 21)) rfl .i64 (21) (21) (K.dep 0 100 rfl) rfl _ (by rfl)
      · exact st_move (.tmp 101) rfl (K.dep 1 101 rfl)
      · exact st_call 8 (.func 8) _ _ #[] rfl rfl rfl Tryd.enter8 (fk_of (awake_any _ (hK.below (bl.trans (Below.mono K.grow bl.size)))))
      · exact st_pick_t (.tmp 102) (.tmp 103) (.const (.bool false)) rfl (K.dep 2 102 rfl) (K.dep 3 103 rfl)
      · exact st_assign (.tmp 104) rfl (K.dep 4 104 rfl)
      intro f12 w12 A hb
      replace bl0 := bl
      replace x1 := (A.old 1 rfl).trans x1
      clear x2
      replace x3 := (A.old 3 rfl).trans x3
      replace x29 := (A.old 29 rfl).trans x29
      replace x4 := (A.old 4 rfl).trans x4
      replace x58 := (A.old 58 rfl).trans x58
      replace x66 := (A.old 66 rfl).trans x66
      replace x99 := (A.old 99 rfl).trans x99
      have x2 : f12.eval (.tmp 2) = .bool true := A.has 5 2 rfl
      have lt_m1 := Ob.lt m1
      replace m1 := Ob.below m1 hb
      have lt_m3 := Ob.lt m3
      replace m3 := Ob.below m3 hb
      replace bl := (bl.trans (Below.mono hb bl.size))
      replace sz := A.size.trans sz
      replace df := A.defs.trans df
      clear A hb
      show Code.wp _ _ _ _ _
      refine wp_ret ?_
      repeat (first | with_reducible refine then_ret ?_ | with_reducible refine block_ret ?_)
      exact bodyPost_ret (v := .bool true) (ret_slot rfl f12 _ x2 _ _) df ⟨rfl, bl⟩
    -- R10
    refine wp_all [.eq (.pointer (some ⟨g3, 0, none⟩)), .eq (.int .i64 (sk)), .eq (.pointer (some ⟨g1, 32, none⟩)), .eq (.int .i64 ((kd : Nat) : Int)), .eq (.bool false), .eq (.bool false), .eq (.pointer (some ⟨g3, 1, none⟩)), .eq (.int .i64 (si)), .eq (.bool false), .eq (.bool false), .eq (.bool false), .eq (.pointer (some ⟨g3, 1, none⟩)), .eq (.int .i64 (si)), .eq (.pointer (some ⟨g1, 33, none⟩)), .eq (.int .i64 ((ht : Nat) : Int)), .eq (.int .i64 ((2 ^ ht : Nat) : Int)), .eq (.bool false), .eq (.bool false), .eq (.bool false), .eq (.pointer (some ⟨g3, 3, none⟩)), .eq (.slice pA (P).length pC), .eq (.int .i64 (((P).length : Nat) : Int)), .eq (.pointer (some ⟨g1, 33, none⟩)), .eq (.int .i64 ((ht : Nat) : Int)), .eq (.bool true), .eq (.bool true), .eq (.bool true), .any, .any, .any, .any, .any, .eq (.bool true)] Tryd.mixed (by kernel_rfl) (by kernel_rfl) (by rw [sz]; kernel_rfl) (by kernel_rfl) ⟨fun hw ac u K => ?_, fun hw ac u K => ?_, fun hw ac u K => ?_, fun hw ac u K => ?_, fun hw ac u K => ?_, fun hw ac u K => ?_, fun hw ac u K => ?_, fun hw ac u K => ?_, fun hw ac u K => ?_, fun hw ac u K => ?_, fun hw ac u K => ?_, fun hw ac u K => ?_, fun hw ac u K => ?_, fun hw ac u K => ?_, fun hw ac u K => ?_, fun hw ac u K => ?_, fun hw ac u K => ?_, fun hw ac u K => ?_, fun hw ac u K => ?_, fun hw ac u K => ?_, fun hw ac u K => ?_, fun hw ac u K => ?_, fun hw ac u K => ?_, fun hw ac u K => ?_, fun hw ac u K => ?_, fun hw ac u K => ?_, fun hw ac u K => ?_, fun hw ac u K => ?_, fun hw ac u K => ?_, fun hw ac u K => ?_, fun hw ac u K => ?_, fun hw ac u K => ?_, fun hw ac u K => ?_, trivial⟩ ?_
    · exact st_field 38 0 (.tmp 3) rfl ((K.old 3 rfl).trans x3) (by kernel_rfl)
    · exact st_loadc 3 (.tmp 67) rfl (by kernel_rfl) (K.dep 0 67 rfl) (Ob.cell (Ob.below m3 K.grow) 0 rfl)
    · exact st_field 50 1 (.tmp 1) rfl ((K.old 1 rfl).trans x1) (by kernel_rfl)
    · exact st_loadc 3 (.tmp 69) rfl (by kernel_rfl) (K.dep 2 69 rfl) (Ob.cell (Ob.below m1 K.grow) 32 ((at_head hpb 0 _).trans rfl))
    · exact st_neqi 3 (.tmp 68) (.tmp 70) rfl .i64 ((sk)) (((kd : Nat) : Int)) (K.dep 1 68 rfl) (K.dep 3 70 rfl) _ (by rw [eq_comm, decide_eq_false_iff_not]; omega)
    · exact st_move (.tmp 71) rfl (K.dep 4 71 rfl)
    · exact st_field 38 1 (.tmp 3) rfl ((K.old 3 rfl).trans x3) (by kernel_rfl)
    · exact st_loadc 3 (.tmp 73) rfl (by kernel_rfl) (K.dep 6 73 rfl) (Ob.cell (Ob.below m3 K.grow) 1 rfl)
    · exact st_lss 3 (.tmp 74) (.const (.int .i64 0)) rfl .i64 ((si)) (0) (K.dep 7 74 rfl) rfl _ (by rw [eq_comm, decide_eq_false_iff_not]; omega)
    · exact st_pick_f' (.tmp 72) (.const (.bool true)) (.tmp 75) rfl (K.dep 5 72 rfl) (K.dep 8 75 rfl)
    · exact st_move (.tmp 76) rfl (K.dep 9 76 rfl)
    · exact st_field 38 1 (.tmp 3) rfl ((K.old 3 rfl).trans x3) (by kernel_rfl)
    · exact st_loadc 3 (.tmp 78) rfl (by kernel_rfl) (K.dep 11 78 rfl) (Ob.cell (Ob.below m3 K.grow) 1 rfl)
    · exact st_field 50 2 (.tmp 1) rfl ((K.old 1 rfl).trans x1) (by kernel_rfl)
    · exact st_loadc 3 (.tmp 80) rfl (by kernel_rfl) (K.dep 13 80 rfl) (Ob.cell (Ob.below m1 K.grow) 33 ((at_head hpb 1 _).trans rfl))
    · exact st_shl 3 3 (.const (.int .i64 1)) (.tmp 81) rfl (1) (ht) rfl (K.dep 14 81 rfl) (2 ^ ht) (by simp) hpw (by omega)
    · exact st_geq 3 (.tmp 79) (.tmp 82) rfl .i64 ((si)) (((2 ^ ht : Nat) : Int)) (K.dep 12 79 rfl) (K.dep 15 82 rfl) _ (by rw [eq_comm, decide_eq_false_iff_not]; omega)
    · exact st_pick_f' (.tmp 77) (.const (.bool true)) (.tmp 83) rfl (K.dep 10 77 rfl) (K.dep 16 83 rfl)
    · exact st_move (.tmp 84) rfl (K.dep 17 84 rfl)
    · exact st_field 38 3 (.tmp 3) rfl ((K.old 3 rfl).trans x3) (by kernel_rfl)
    · exact st_loadc 32 (.tmp 86) rfl (by kernel_rfl) (K.dep 19 86 rfl) (Ob.cell (Ob.below m3 K.grow) 3 rfl)
    · exact st_lenh (.tmp 87) rfl (fk_val (K.dep 20 87 rfl) (Fk.mono _ _ _ _ vP (bl.trans (Below.mono K.grow bl.size))))
    · exact st_field 50 2 (.tmp 1) rfl ((K.old 1 rfl).trans x1) (by kernel_rfl)
    · exact st_loadc 3 (.tmp 89) rfl (by kernel_rfl) (K.dep 22 89 rfl) (Ob.cell (Ob.below m1 K.grow) 33 ((at_head hpb 1 _).trans rfl))
    · exact st_neqi 3 (.tmp 88) (.tmp 90) rfl .i64 ((((P).length : Nat) : Int)) (((ht : Nat) : Int)) (K.dep 21 88 rfl) (K.dep 23 90 rfl) _ (by rw [eq_comm, decide_eq_true_iff]; omega)
    · exact st_pick_f' (.tmp 85) (.const (.bool true)) (.tmp 91) rfl (K.dep 18 85 rfl) (K.dep 24 91 rfl)
    · exact st_move (.tmp 92) rfl (K.dep 25 92 rfl)
    · exact (Bool.false_ne_true hw).elim
    · exact (Bool.false_ne_true hw).elim
    · exact (Bool.false_ne_true hw).elim
    · exact (Bool.false_ne_true hw).elim
    · exact (Bool.false_ne_true hw).elim
    · exact st_pick_t (.tmp 93) (.const (.bool true)) (.tmp 98) rfl (K.dep 26 93 rfl) rfl
    intro f11 w11 A hb
    replace bl0 := bl
    replace x1 := (A.old 1 rfl).trans x1
    replace x2 := (A.old 2 rfl).trans x2
    replace x3 := (A.old 3 rfl).trans x3
    replace x29 := (A.old 29 rfl).trans x29
    replace x4 := (A.old 4 rfl).trans x4
    replace x58 := (A.old 58 rfl).trans x58
    replace x5 := (A.old 5 rfl).trans x5
    replace x66 := (A.old 66 rfl).trans x66
    have x99 : f11.eval (.tmp 99) = .bool true := A.has 32 99 rfl
    have lt_m1 := Ob.lt m1
    replace m1 := Ob.below m1 hb
    have lt_m3 := Ob.lt m3
    replace m3 := Ob.below m3 hb
    replace bl := (bl.trans (Below.mono hb bl.size))
    replace sz := A.size.trans sz
    replace df := A.defs.trans df
    clear A hb
    clear x5
    show Code.wp _ _ _ _ _
    refine wp_cond_true x99 ?_
    refine wp_seq ?_
    -- R11
    refine wp_all_seq [.eq (.int .i64 21), .eq (.bool true), .eq (.bool true), .eq (.bool true), .eq (.bool true), .eq (.bool true)] (by kernel_rfl) (by kernel_rfl) (by rw [sz]; kernel_rfl) (by kernel_rfl) ⟨fun hw ac u K => ?_, fun hw ac u K => ?_, fun hw ac u K => ?_, fun hw ac u K => ?_, fun hw ac u K => ?_, fun hw ac u K => ?_, trivial⟩ ?_
    · exact st_move (.tmp 4) rfl ((K.old 4 rfl).trans x4)
    · exact st_eqi 29 (.tmp 100) (.const (.int .i64 21)) rfl .i64 (21) (21) (K.dep 0 100 rfl) rfl _ (by rfl)
    · exact st_move (.tmp 101) rfl (K.dep 1 101 rfl)
    · exact st_call 8 (.func 8) _ _ #[] rfl rfl rfl Tryd.enter8 (fk_of (awake_any _ (hK.below (bl.trans (Below.mono K.grow bl.size)))))
    · exact st_pick_t (.tmp 102) (.tmp 103) (.const (.bool false)) rfl (K.dep 2 102 rfl) (K.dep 3 103 rfl)
    · exact st_assign (.tmp 104) rfl (K.dep 4 104 rfl)
    intro f12 w12 A hb
    replace bl0 := bl
    replace x1 := (A.old 1 rfl).trans x1
    clear x2
    replace x3 := (A.old 3 rfl).trans x3
    replace x29 := (A.old 29 rfl).trans x29
    replace x4 := (A.old 4 rfl).trans x4
    replace x58 := (A.old 58 rfl).trans x58
    replace x66 := (A.old 66 rfl).trans x66
    replace x99 := (A.old 99 rfl).trans x99
    have x2 : f12.eval (.tmp 2) = .bool true := A.has 5 2 rfl
    have lt_m1 := Ob.lt m1
    replace m1 := Ob.below m1 hb
    have lt_m3 := Ob.lt m3
    replace m3 := Ob.below m3 hb
    replace bl := (bl.trans (Below.mono hb bl.size))
    replace sz := A.size.trans sz
    replace df := A.defs.trans df
    clear A hb
    show Code.wp _ _ _ _ _
    refine wp_ret ?_
    repeat (first | with_reducible refine then_ret ?_ | with_reducible refine block_ret ?_)
    exact bodyPost_ret (v := .bool true) (ret_slot rfl f12 _ x2 _ _) df ⟨rfl, bl⟩
  -- R4
  refine wp_all_seq [.eq (.pointer (some ⟨g1, 0, none⟩)), .eq (.agg ((pb).map V).toArray), .eq (.pointer (some ⟨g1, 32, none⟩)), .eq (.int .i64 (kind)), .eq (.pointer (some ⟨g1, 33, none⟩)), .eq (.int .i64 (height)), .eq (.pointer (some ⟨g1, 34, none⟩)), .eq (mv), .eq (.agg ([.int .i64 (sk), .int .i64 (si), .slice sA (S).length sC, .slice pA (P).length pC] : List Value).toArray), .eq (.int .i64 11), .eq (.int .i64 11)] (by kernel_rfl) (by kernel_rfl) (by rw [sz]; kernel_rfl) (by kernel_rfl) ⟨fun hw ac u K => ?_, fun hw ac u K => ?_, fun hw ac u K => ?_, fun hw ac u K => ?_, fun hw ac u K => ?_, fun hw ac u K => ?_, fun hw ac u K => ?_, fun hw ac u K => ?_, fun hw ac u K => ?_, fun hw ac u K => ?_, fun hw ac u K => ?_, trivial⟩ ?_
  · exact st_field 50 0 (.tmp 1) rfl ((K.old 1 rfl).trans x1) (by kernel_rfl)
  · exact st_loadhd (.tmp 31) rfl (g1) (pb) (K.dep 0 31 rfl) hpb (Ob.below m1 K.grow)
  · exact st_field 50 1 (.tmp 1) rfl ((K.old 1 rfl).trans x1) (by kernel_rfl)
  · exact st_loadc 3 (.tmp 33) rfl (by kernel_rfl) (K.dep 2 33 rfl) (Ob.cell (Ob.below m1 K.grow) 32 ((at_head hpb 0 _).trans rfl))
  · exact st_field 50 2 (.tmp 1) rfl ((K.old 1 rfl).trans x1) (by kernel_rfl)
  · exact st_loadc 3 (.tmp 35) rfl (by kernel_rfl) (K.dep 4 35 rfl) (Ob.cell (Ob.below m1 K.grow) 33 ((at_head hpb 1 _).trans rfl))
  · exact st_field 50 3 (.tmp 1) rfl ((K.old 1 rfl).trans x1) (by kernel_rfl)
  · exact st_loadc 36 (.tmp 37) rfl (by kernel_rfl) (K.dep 6 37 rfl) (Ob.cell (Ob.below m1 K.grow) 34 ((at_head hpb 2 _).trans rfl))
  · exact st_loadz 38 (.tmp 3) rfl (g3) 0 [.int .i64 (sk), .int .i64 (si), .slice sA (S).length sC, .slice pA (P).length pC] (by kernel_rfl) (by kernel_rfl) ((K.old 3 rfl).trans x3) (Ob.range (Ob.below m3 K.grow) 0 _ (fun j v hj => by simpa using hj))
  · exact st_call 21 (.func 21) _ _ #[.agg ((pb).map V).toArray, .int .i64 (kind), .int .i64 (height), mv, .agg ([.int .i64 (sk), .int .i64 (si), .slice sA (S).length sC, .slice pA (P).length pC] : List Value).toArray] rfl rfl (arg5 (K.dep 1 32 rfl) (K.dep 3 34 rfl) (K.dep 5 36 rfl) (K.dep 7 38 rfl) (K.dep 8 39 rfl)) Tryd.enter21 (fk_of (verify_range kind height sk si hc hpb _ _))
  · exact st_assign (.tmp 40) rfl (K.dep 9 40 rfl)
  intro f7 w7 A hb
  replace bl0 := bl
  replace x1 := (A.old 1 rfl).trans x1
  replace x2 := (A.old 2 rfl).trans x2
  replace x3 := (A.old 3 rfl).trans x3
  replace x29 := (A.old 29 rfl).trans x29
  have x4 : f7.eval (.tmp 4) = .int .i64 11 := A.has 10 4 rfl
  have lt_m1 := Ob.lt m1
  replace m1 := Ob.below m1 hb
  have lt_m3 := Ob.lt m3
  replace m3 := Ob.below m3 hb
  replace bl := (bl.trans (Below.mono hb bl.size))
  replace sz := A.size.trans sz
  replace df := A.defs.trans df
  clear A hb
  show Code.wp _ _ _ _ _
  refine wp_seq ?_
  refine wp_seq ?_
  have hcs : kind < 1 ∨ (1 ≤ kind ∧ 2 < kind) ∨ (1 ≤ kind ∧ kind ≤ 2 ∧ height < 0) ∨ (1 ≤ kind ∧ kind ≤ 2 ∧ 0 ≤ height ∧ 8 < height) := by omega
  rcases hcs with hcs | hcs | hcs | hcs
  · skip
    -- R5
    refine wp_all_seq [.eq (.pointer (some ⟨g1, 32, none⟩)), .eq (.int .i64 (kind)), .eq (.bool true), .eq (.bool true), .any, .any, .any, .eq (.bool true), .eq (.bool true), .any, .any, .any, .eq (.bool true), .eq (.bool true), .any, .any, .any, .eq (.bool true)] (by kernel_rfl) (by kernel_rfl) (by rw [sz]; kernel_rfl) (by kernel_rfl) ⟨fun hw ac u K => ?_, fun hw ac u K => ?_, fun hw ac u K => ?_, fun hw ac u K => ?_, fun hw ac u K => ?_, fun hw ac u K => ?_, fun hw ac u K => ?_, fun hw ac u K => ?_, fun hw ac u K => ?_, fun hw ac u K => ?_, fun hw ac u K => ?_, fun hw ac u K => ?_, fun hw ac u K => ?_, fun hw ac u K => ?_, fun hw ac u K => ?_, fun hw ac u K => ?_, fun hw ac u K => ?_, fun hw ac u K => ?_, trivial⟩ ?_
    · exact st_field 50 1 (.tmp 1) rfl ((K.old 1 rfl).trans x1) (by kernel_rfl)
    · exact st_loadc 3 (.tmp 41) rfl (by kernel_rfl) (K.dep 0 41 rfl) (Ob.cell (Ob.below m1 K.grow) 32 ((at_head hpb 0 _).trans rfl))
    · exact st_lss 3 (.tmp 42) (.const (.int .i64 1)) rfl .i64 ((kind)) (1) (K.dep 1 42 rfl) rfl _ (by rw [eq_comm, decide_eq_true_iff]; omega)
    · exact st_move (.tmp 43) rfl (K.dep 2 43 rfl)
    · exact (Bool.false_ne_true hw).elim
    · exact (Bool.false_ne_true hw).elim
    · exact (Bool.false_ne_true hw).elim
    · exact st_pick_t (.tmp 44) (.const (.bool true)) (.tmp 47) rfl (K.dep 3 44 rfl) rfl
    · exact st_move (.tmp 48) rfl (K.dep 7 48 rfl)
    · exact (Bool.false_ne_true hw).elim
    · exact (Bool.false_ne_true hw).elim
    · exact (Bool.false_ne_true hw).elim
    · exact st_pick_t (.tmp 49) (.const (.bool true)) (.tmp 52) rfl (K.dep 8 49 rfl) rfl
    · exact st_move (.tmp 53) rfl (K.dep 12 53 rfl)
    · exact (Bool.false_ne_true hw).elim
    · exact (Bool.false_ne_true hw).elim
    · exact (Bool.false_ne_true hw).elim
    · exact st_pick_t (.tmp 54) (.const (.bool true)) (.tmp 57) rfl (K.dep 13 54 rfl) rfl
    intro f8 w8 A hb
    replace bl0 := bl
    replace x1 := (A.old 1 rfl).trans x1
    replace x2 := (A.old 2 rfl).trans x2
    replace x3 := (A.old 3 rfl).trans x3
    replace x29 := (A.old 29 rfl).trans x29
    replace x4 := (A.old 4 rfl).trans x4
    have x58 : f8.eval (.tmp 58) = .bool true := A.has 17 58 rfl
    have lt_m1 := Ob.lt m1
    replace m1 := Ob.below m1 hb
    have lt_m3 := Ob.lt m3
    replace m3 := Ob.below m3 hb
    replace bl := (bl.trans (Below.mono hb bl.size))
    replace sz := A.size.trans sz
    replace df := A.defs.trans df
    clear A hb
    show Code.wp _ _ _ _ _
    refine wp_cond_true x58 ?_
    refine wp_seq ?_
    -- R6
    refine wp_all_seq [.eq (.int .i64 11), .eq (.bool true), .eq (.bool true), .eq (.bool true), .eq (.bool true), .eq (.bool true)] (by kernel_rfl) (by kernel_rfl) (by rw [sz]; kernel_rfl) (by kernel_rfl) ⟨fun hw ac u K => ?_, fun hw ac u K => ?_, fun hw ac u K => ?_, fun hw ac u K => ?_, fun hw ac u K => ?_, fun hw ac u K => ?_, trivial⟩ ?_
    · exact st_move (.tmp 4) rfl ((K.old 4 rfl).trans x4)
    · exact st_eqi 29 (.tmp 59) (.const (.int .i64 11)) rfl .i64 (11) (11) (K.dep 0 59 rfl) rfl _ (by rfl)
    · exact st_move (.tmp 60) rfl (K.dep 1 60 rfl)
    · exact st_call 8 (.func 8) _ _ #[] rfl rfl rfl Tryd.enter8 (fk_of (awake_any _ (hK.below (bl.trans (Below.mono K.grow bl.size)))))
    · exact st_pick_t (.tmp 61) (.tmp 62) (.const (.bool false)) rfl (K.dep 2 61 rfl) (K.dep 3 62 rfl)
    · exact st_assign (.tmp 63) rfl (K.dep 4 63 rfl)
    intro f9 w9 A hb
    replace bl0 := bl
    replace x1 := (A.old 1 rfl).trans x1
    clear x2
    replace x3 := (A.old 3 rfl).trans x3
    replace x29 := (A.old 29 rfl).trans x29
    replace x4 := (A.old 4 rfl).trans x4
    replace x58 := (A.old 58 rfl).trans x58
    have x2 : f9.eval (.tmp 2) = .bool true := A.has 5 2 rfl
    have lt_m1 := Ob.lt m1
    replace m1 := Ob.below m1 hb
    have lt_m3 := Ob.lt m3
    replace m3 := Ob.below m3 hb
    replace bl := (bl.trans (Below.mono hb bl.size))
    replace sz := A.size.trans sz
    replace df := A.defs.trans df
    clear A hb
    show Code.wp _ _ _ _ _
    refine wp_ret ?_
    repeat (first | with_reducible refine then_ret ?_ | with_reducible refine block_ret ?_)
    exact bodyPost_ret (v := .bool true) (ret_slot rfl f9 _ x2 _ _) df ⟨rfl, bl⟩
  · skip
    -- R5
    refine wp_all_seq [.eq (.pointer (some ⟨g1, 32, none⟩)), .eq (.int .i64 (kind)), .eq (.bool false), .eq (.bool false), .eq (.pointer (some ⟨g1, 32, none⟩)), .eq (.int .i64 (kind)), .eq (.bool true), .eq (.bool true), .eq (.bool true), .any, .any, .any, .eq (.bool true), .eq (.bool true), .any, .any, .any, .eq (.bool true)] (by kernel_rfl) (by kernel_rfl) (by rw [sz]; kernel_rfl) (by kernel_rfl) ⟨fun hw ac u K => ?_, fun hw ac u K => ?_, fun hw ac u K => ?_, fun hw ac u K => ?_, fun hw ac u K => ?_, fun hw ac u K => ?_, fun hw ac u K => ?_, fun hw ac u K => ?_, fun hw ac u K => ?_, fun hw ac u K => ?_, fun hw ac u K => ?_, fun hw ac u K => ?_, fun hw ac u K => ?_, fun hw ac u K => ?_, fun hw ac u K => ?_, fun hw ac u K => ?_, fun hw ac u K => ?_, fun hw ac u K => ?_, trivial⟩ ?_
    · exact st_field 50 1 (.tmp 1) rfl ((K.old 1 rfl).trans x1) (by kernel_rfl)
    · exact st_loadc 3 (.tmp 41) rfl (by kernel_rfl) (K.dep 0 41 rfl) (Ob.cell (Ob.below m1 K.grow) 32 ((at_head hpb 0 _).trans rfl))
    · exact st_lss 3 (.tmp 42) (.const (.int .i64 1)) rfl .i64 ((kind)) (1) (K.dep 1 42 rfl) rfl _ (by rw [eq_comm, decide_eq_false_iff_not]; omega)
    · exact st_move (.tmp 43) rfl (K.dep 2 43 rfl)
    · exact st_field 50 1 (.tmp 1) rfl ((K.old 1 rfl).trans x1) (by kernel_rfl)
    · exact st_loadc 3 (.tmp 45) rfl (by kernel_rfl) (K.dep 4 45 rfl) (Ob.cell (Ob.below m1 K.grow) 32 ((at_head hpb 0 _).trans rfl))
    · exact st_gtr 3 (.tmp 46) (.const (.int .i64 2)) rfl .i64 ((kind)) (2) (K.dep 5 46 rfl) rfl _ (by rw [eq_comm, decide_eq_true_iff]; omega)
    · exact st_pick_f' (.tmp 44) (.const (.bool true)) (.tmp 47) rfl (K.dep 3 44 rfl) (K.dep 6 47 rfl)
    · exact st_move (.tmp 48) rfl (K.dep 7 48 rfl)
    · exact (Bool.false_ne_true hw).elim
    · exact (Bool.false_ne_true hw).elim
    · exact (Bool.false_ne_true hw).elim
    · exact st_pick_t (.tmp 49) (.const (.bool true)) (.tmp 52) rfl (K.dep 8 49 rfl) rfl
    · exact st_move (.tmp 53) rfl (K.dep 12 53 rfl)
    · exact (Bool.false_ne_true hw).elim
    · exact (Bool.false_ne_true hw).elim
    · exact (Bool.false_ne_true hw).elim
    · exact st_pick_t (.tmp 54) (.const (.bool true)) (.tmp 57) rfl (K.dep 13 54 rfl) rfl
    intro f8 w8 A hb
    replace bl0 := bl
    replace x1 := (A.old 1 rfl).trans x1
    replace x2 := (A.old 2 rfl).trans x2
    replace x3 := (A.old 3 rfl).trans x3
    replace x29 := (A.old 29 rfl).trans x29
    replace x4 := (A.old 4 rfl).trans x4
    have x58 : f8.eval (.tmp 58) = .bool true := A.has 17 58 rfl
    have lt_m1 := Ob.lt m1
    replace m1 := Ob.below m1 hb
    have lt_m3 := Ob.lt m3
    replace m3 := Ob.below m3 hb
    replace bl := (bl.trans (Below.mono hb bl.size))
    replace sz := A.size.trans sz
    replace df := A.defs.trans df
    clear A hb
    show Code.wp _ _ _ _ _
    refine wp_cond_true x58 ?_
    refine wp_seq ?_
    -- R6
    refine wp_all_seq [.eq (.int .i64 11), .eq (.bool true), .eq (.bool true), .eq (.bool true), .eq (.bool true), .eq (.bool true)] (by kernel_rfl) (by kernel_rfl) (by rw [sz]; kernel_rfl) (by kernel_rfl) ⟨fun hw ac u K => ?_, fun hw ac u K => ?_, fun hw ac u K => ?_, fun hw ac u K => ?_, fun hw ac u K => ?_, fun hw ac u K => ?_, trivial⟩ ?_
    · exact st_move (.tmp 4) rfl ((K.old 4 rfl).trans x4)
    · exact st_eqi 29 (.tmp 59) (.const (.int .i64 11)) rfl .i64 (11) (11) (K.dep 0 59 rfl) rfl _ (by rfl)
    · exact st_move (.tmp 60) rfl (K.dep 1 60 rfl)
    · exact st_call 8 (.func 8) _ _ #[] rfl rfl rfl Tryd.enter8 (fk_of (awake_any _ (hK.below (bl.trans (Below.mono K.grow bl.size)))))
    · exact st_pick_t (.tmp 61) (.tmp 62) (.const (.bool false)) rfl (K.dep 2 61 rfl) (K.dep 3 62 rfl)
    · exact st_assign (.tmp 63) rfl (K.dep 4 63 rfl)
    intro f9 w9 A hb
    replace bl0 := bl
    replace x1 := (A.old 1 rfl).trans x1
    clear x2
    replace x3 := (A.old 3 rfl).trans x3
    replace x29 := (A.old 29 rfl).trans x29
    replace x4 := (A.old 4 rfl).trans x4
    replace x58 := (A.old 58 rfl).trans x58
    have x2 : f9.eval (.tmp 2) = .bool true := A.has 5 2 rfl
    have lt_m1 := Ob.lt m1
    replace m1 := Ob.below m1 hb
    have lt_m3 := Ob.lt m3
    replace m3 := Ob.below m3 hb
    replace bl := (bl.trans (Below.mono hb bl.size))
    replace sz := A.size.trans sz
    replace df := A.defs.trans df
    clear A hb
    show Code.wp _ _ _ _ _
    refine wp_ret ?_
    repeat (first | with_reducible refine then_ret ?_ | with_reducible refine block_ret ?_)
    exact bodyPost_ret (v := .bool true) (ret_slot rfl f9 _ x2 _ _) df ⟨rfl, bl⟩
  · skip
    -- R5
    refine wp_all_seq [.eq (.pointer (some ⟨g1, 32, none⟩)), .eq (.int .i64 (kind)), .eq (.bool false), .eq (.bool false), .eq (.pointer (some ⟨g1, 32, none⟩)), .eq (.int .i64 (kind)), .eq (.bool false), .eq (.bool false), .eq (.bool false), .eq (.pointer (some ⟨g1, 33, none⟩)), .eq (.int .i64 (height)), .eq (.bool true), .eq (.bool true), .eq (.bool true), .any, .any, .any, .eq (.bool true)] (by kernel_rfl) (by kernel_rfl) (by rw [sz]; kernel_rfl) (by kernel_rfl) ⟨fun hw ac u K => ?_, fun hw ac u K => ?_, fun hw ac u K => ?_, fun hw ac u K => ?_, fun hw ac u K => ?_, fun hw ac u K => ?_, fun hw ac u K => ?_, fun hw ac u K => ?_, fun hw ac u K => ?_, fun hw ac u K => ?_, fun hw ac u K => ?_, fun hw ac u K => ?_, fun hw ac u K => ?_, fun hw ac u K => ?_, fun hw ac u K => ?_, fun hw ac u K => ?_, fun hw ac u K => ?_, fun hw ac u K => ?_, trivial⟩ ?_
    · exact st_field 50 1 (.tmp 1) rfl ((K.old 1 rfl).trans x1) (by kernel_rfl)
    · exact st_loadc 3 (.tmp 41) rfl (by kernel_rfl) (K.dep 0 41 rfl) (Ob.cell (Ob.below m1 K.grow) 32 ((at_head hpb 0 _).trans rfl))
    · exact st_lss 3 (.tmp 42) (.const (.int .i64 1)) rfl .i64 ((kind)) (1) (K.dep 1 42 rfl) rfl _ (by rw [eq_comm, decide_eq_false_iff_not]; omega)
    · exact st_move (.tmp 43) rfl (K.dep 2 43 rfl)
    · exact st_field 50 1 (.tmp 1) rfl ((K.old 1 rfl).trans x1) (by kernel_rfl)
    · exact st_loadc 3 (.tmp 45) rfl (by kernel_rfl) (K.dep 4 45 rfl) (Ob.cell (Ob.below m1 K.grow) 32 ((at_head hpb 0 _).trans rfl))
    · exact st_gtr 3 (.tmp 46) (.const (.int .i64 2)) rfl .i64 ((kind)) (2) (K.dep 5 46 rfl) rfl _ (by rw [eq_comm, decide_eq_false_iff_not]; omega)
    · exact st_pick_f' (.tmp 44) (.const (.bool true)) (.tmp 47) rfl (K.dep 3 44 rfl) (K.dep 6 47 rfl)
    · exact st_move (.tmp 48) rfl (K.dep 7 48 rfl)
    · exact st_field 50 2 (.tmp 1) rfl ((K.old 1 rfl).trans x1) (by kernel_rfl)
    · exact st_loadc 3 (.tmp 50) rfl (by kernel_rfl) (K.dep 9 50 rfl) (Ob.cell (Ob.below m1 K.grow) 33 ((at_head hpb 1 _).trans rfl))
    · exact st_lss 3 (.tmp 51) (.const (.int .i64 0)) rfl .i64 ((height)) (0) (K.dep 10 51 rfl) rfl _ (by rw [eq_comm, decide_eq_true_iff]; omega)
    · exact st_pick_f' (.tmp 49) (.const (.bool true)) (.tmp 52) rfl (K.dep 8 49 rfl) (K.dep 11 52 rfl)
    · exact st_move (.tmp 53) rfl (K.dep 12 53 rfl)
    · exact (Bool.false_ne_true hw).elim
    · exact (Bool.false_ne_true hw).elim
    · exact (Bool.false_ne_true hw).elim
    · exact st_pick_t (.tmp 54) (.const (.bool true)) (.tmp 57) rfl (K.dep 13 54 rfl) rfl
    intro f8 w8 A hb
    replace bl0 := bl
    replace x1 := (A.old 1 rfl).trans x1
    replace x2 := (A.old 2 rfl).trans x2
    replace x3 := (A.old 3 rfl).trans x3
    replace x29 := (A.old 29 rfl).trans x29
    replace x4 := (A.old 4 rfl).trans x4
    have x58 : f8.eval (.tmp 58) = .bool true := A.has 17 58 rfl
    have lt_m1 := Ob.lt m1
    replace m1 := Ob.below m1 hb
    have lt_m3 := Ob.lt m3
    replace m3 := Ob.below m3 hb
    replace bl := (bl.trans (Below.mono hb bl.size))
    replace sz := A.size.trans sz
    replace df := A.defs.trans df
    clear A hb
    show Code.wp _ _ _ _ _
    refine wp_cond_true x58 ?_
    refine wp_seq ?_
    -- R6
    refine wp_all_seq [.eq (.int .i64 11), .eq (.bool true), .eq (.bool true), .eq (.bool true), .eq (.bool true), .eq (.bool true)] (by kernel_rfl) (by kernel_rfl) (by rw [sz]; kernel_rfl) (by kernel_rfl) ⟨fun hw ac u K => ?_, fun hw ac u K => ?_, fun hw ac u K => ?_, fun hw ac u K => ?_, fun hw ac u K => ?_, fun hw ac u K => ?_, trivial⟩ ?_
    · exact st_move (.tmp 4) rfl ((K.old 4 rfl).trans x4)
    · exact st_eqi 29 (.tmp 59) (.const (.int .i64 11)) rfl .i64 (11) (11) (K.dep 0 59 rfl) rfl _ (by rfl)
    · exact st_move (.tmp 60) rfl (K.dep 1 60 rfl)
    · exact st_call 8 (.func 8) _ _ #[] rfl rfl rfl Tryd.enter8 (fk_of (awake_any _ (hK.below (bl.trans (Below.mono K.grow bl.size)))))
    · exact st_pick_t (.tmp 61) (.tmp 62) (.const (.bool false)) rfl (K.dep 2 61 rfl) (K.dep 3 62 rfl)
    · exact st_assign (.tmp 63) rfl (K.dep 4 63 rfl)
    intro f9 w9 A hb
    replace bl0 := bl
    replace x1 := (A.old 1 rfl).trans x1
    clear x2
    replace x3 := (A.old 3 rfl).trans x3
    replace x29 := (A.old 29 rfl).trans x29
    replace x4 := (A.old 4 rfl).trans x4
    replace x58 := (A.old 58 rfl).trans x58
    have x2 : f9.eval (.tmp 2) = .bool true := A.has 5 2 rfl
    have lt_m1 := Ob.lt m1
    replace m1 := Ob.below m1 hb
    have lt_m3 := Ob.lt m3
    replace m3 := Ob.below m3 hb
    replace bl := (bl.trans (Below.mono hb bl.size))
    replace sz := A.size.trans sz
    replace df := A.defs.trans df
    clear A hb
    show Code.wp _ _ _ _ _
    refine wp_ret ?_
    repeat (first | with_reducible refine then_ret ?_ | with_reducible refine block_ret ?_)
    exact bodyPost_ret (v := .bool true) (ret_slot rfl f9 _ x2 _ _) df ⟨rfl, bl⟩
  -- R5
  refine wp_all_seq [.eq (.pointer (some ⟨g1, 32, none⟩)), .eq (.int .i64 (kind)), .eq (.bool false), .eq (.bool false), .eq (.pointer (some ⟨g1, 32, none⟩)), .eq (.int .i64 (kind)), .eq (.bool false), .eq (.bool false), .eq (.bool false), .eq (.pointer (some ⟨g1, 33, none⟩)), .eq (.int .i64 (height)), .eq (.bool false), .eq (.bool false), .eq (.bool false), .eq (.pointer (some ⟨g1, 33, none⟩)), .eq (.int .i64 (height)), .eq (.bool true), .eq (.bool true)] (by kernel_rfl) (by kernel_rfl) (by rw [sz]; kernel_rfl) (by kernel_rfl) ⟨fun hw ac u K => ?_, fun hw ac u K => ?_, fun hw ac u K => ?_, fun hw ac u K => ?_, fun hw ac u K => ?_, fun hw ac u K => ?_, fun hw ac u K => ?_, fun hw ac u K => ?_, fun hw ac u K => ?_, fun hw ac u K => ?_, fun hw ac u K => ?_, fun hw ac u K => ?_, fun hw ac u K => ?_, fun hw ac u K => ?_, fun hw ac u K => ?_, fun hw ac u K => ?_, fun hw ac u K => ?_, fun hw ac u K => ?_, trivial⟩ ?_
  · exact st_field 50 1 (.tmp 1) rfl ((K.old 1 rfl).trans x1) (by kernel_rfl)
  · exact st_loadc 3 (.tmp 41) rfl (by kernel_rfl) (K.dep 0 41 rfl) (Ob.cell (Ob.below m1 K.grow) 32 ((at_head hpb 0 _).trans rfl))
  · exact st_lss 3 (.tmp 42) (.const (.int .i64 1)) rfl .i64 ((kind)) (1) (K.dep 1 42 rfl) rfl _ (by rw [eq_comm, decide_eq_false_iff_not]; omega)
  · exact st_move (.tmp 43) rfl (K.dep 2 43 rfl)
  · exact st_field 50 1 (.tmp 1) rfl ((K.old 1 rfl).trans x1) (by kernel_rfl)
  · exact st_loadc 3 (.tmp 45) rfl (by kernel_rfl) (K.dep 4 45 rfl) (Ob.cell (Ob.below m1 K.grow) 32 ((at_head hpb 0 _).trans rfl))
  · exact st_gtr 3 (.tmp 46) (.const (.int .i64 2)) rfl .i64 ((kind)) (2) (K.dep 5 46 rfl) rfl _ (by rw [eq_comm, decide_eq_false_iff_not]; omega)
  · exact st_pick_f' (.tmp 44) (.const (.bool true)) (.tmp 47) rfl (K.dep 3 44 rfl) (K.dep 6 47 rfl)
  · exact st_move (.tmp 48) rfl (K.dep 7 48 rfl)
  · exact st_field 50 2 (.tmp 1) rfl ((K.old 1 rfl).trans x1) (by kernel_rfl)
  · exact st_loadc 3 (.tmp 50) rfl (by kernel_rfl) (K.dep 9 50 rfl) (Ob.cell (Ob.below m1 K.grow) 33 ((at_head hpb 1 _).trans rfl))
  · exact st_lss 3 (.tmp 51) (.const (.int .i64 0)) rfl .i64 ((height)) (0) (K.dep 10 51 rfl) rfl _ (by rw [eq_comm, decide_eq_false_iff_not]; omega)
  · exact st_pick_f' (.tmp 49) (.const (.bool true)) (.tmp 52) rfl (K.dep 8 49 rfl) (K.dep 11 52 rfl)
  · exact st_move (.tmp 53) rfl (K.dep 12 53 rfl)
  · exact st_field 50 2 (.tmp 1) rfl ((K.old 1 rfl).trans x1) (by kernel_rfl)
  · exact st_loadc 3 (.tmp 55) rfl (by kernel_rfl) (K.dep 14 55 rfl) (Ob.cell (Ob.below m1 K.grow) 33 ((at_head hpb 1 _).trans rfl))
  · exact st_gtr 3 (.tmp 56) (.const (.int .i64 8)) rfl .i64 ((height)) (8) (K.dep 15 56 rfl) rfl _ (by rw [eq_comm, decide_eq_true_iff]; omega)
  · exact st_pick_f' (.tmp 54) (.const (.bool true)) (.tmp 57) rfl (K.dep 13 54 rfl) (K.dep 16 57 rfl)
  intro f8 w8 A hb
  replace bl0 := bl
  replace x1 := (A.old 1 rfl).trans x1
  replace x2 := (A.old 2 rfl).trans x2
  replace x3 := (A.old 3 rfl).trans x3
  replace x29 := (A.old 29 rfl).trans x29
  replace x4 := (A.old 4 rfl).trans x4
  have x58 : f8.eval (.tmp 58) = .bool true := A.has 17 58 rfl
  have lt_m1 := Ob.lt m1
  replace m1 := Ob.below m1 hb
  have lt_m3 := Ob.lt m3
  replace m3 := Ob.below m3 hb
  replace bl := (bl.trans (Below.mono hb bl.size))
  replace sz := A.size.trans sz
  replace df := A.defs.trans df
  clear A hb
  show Code.wp _ _ _ _ _
  refine wp_cond_true x58 ?_
  refine wp_seq ?_
  -- R6
  refine wp_all_seq [.eq (.int .i64 11), .eq (.bool true), .eq (.bool true), .eq (.bool true), .eq (.bool true), .eq (.bool true)] (by kernel_rfl) (by kernel_rfl) (by rw [sz]; kernel_rfl) (by kernel_rfl) ⟨fun hw ac u K => ?_, fun hw ac u K => ?_, fun hw ac u K => ?_, fun hw ac u K => ?_, fun hw ac u K => ?_, fun hw ac u K => ?_, trivial⟩ ?_
  · exact st_move (.tmp 4) rfl ((K.old 4 rfl).trans x4)
  · exact st_eqi 29 (.tmp 59) (.const (.int .i64 11)) rfl .i64 (11) (11) (K.dep 0 59 rfl) rfl _ (by rfl)
  · exact st_move (.tmp 60) rfl (K.dep 1 60 rfl)
  · exact st_call 8 (.func 8) _ _ #[] rfl rfl rfl Tryd.enter8 (fk_of (awake_any _ (hK.below (bl.trans (Below.mono K.grow bl.size)))))
  · exact st_pick_t (.tmp 61) (.tmp 62) (.const (.bool false)) rfl (K.dep 2 61 rfl) (K.dep 3 62 rfl)
  · exact st_assign (.tmp 63) rfl (K.dep 4 63 rfl)
  intro f9 w9 A hb
  replace bl0 := bl
  replace x1 := (A.old 1 rfl).trans x1
  clear x2
  replace x3 := (A.old 3 rfl).trans x3
  replace x29 := (A.old 29 rfl).trans x29
  replace x4 := (A.old 4 rfl).trans x4
  replace x58 := (A.old 58 rfl).trans x58
  have x2 : f9.eval (.tmp 2) = .bool true := A.has 5 2 rfl
  have lt_m1 := Ob.lt m1
  replace m1 := Ob.below m1 hb
  have lt_m3 := Ob.lt m3
  replace m3 := Ob.below m3 hb
  replace bl := (bl.trans (Below.mono hb bl.size))
  replace sz := A.size.trans sz
  replace df := A.defs.trans df
  clear A hb
  show Code.wp _ _ _ _ _
  refine wp_ret ?_
  repeat (first | with_reducible refine then_ret ?_ | with_reducible refine block_ret ?_)
  exact bodyPost_ret (v := .bool true) (ret_slot rfl f9 _ x2 _ _) df ⟨rfl, bl⟩
end Go.Proofs.YtnanipeapjpkfaaDoor
