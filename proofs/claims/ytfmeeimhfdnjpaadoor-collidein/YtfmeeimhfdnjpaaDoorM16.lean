/- CollideIn. -/
import Derived.Test.YtfmeeimhfdnjpaaDoorM15
import Derived.Test.YtfmeeimhfdnjpaaDoorM11
namespace Go.Proofs.YtfmeeimhfdnjpaaDoor
set_option maxRecDepth 100000
open Go.RowKit
set_option maxHeartbeats 1000000 in
theorem lin_pass {ps : List Pt} {lb : List (BitVec 8)} {P : List (List (BitVec 8))} {aA aL aP : Option Addr} {dA nL dL dP : Nat} (hla : ps.length ≤ 140737488351232) (w : World) (hK : Tab w) (ha : (Fk.mc ps).f (.slice aA ps.length dA) w) (hl : (Fk.sl lb).f (.slice aL nL dL) w) (hp : (Fk.hc P).f (.slice aP P.length dP) w) {i n : Int} (h : ¬ smallP ps ∨ 300 < lb.length ∨ 50 < P.length) :
    Calls Tryd.prog 5 #[.slice aA ps.length dA, .agg ([.int .i64 i, .int .i64 n, .slice aL nL dL, .slice aP P.length dP] : List Value).toArray] w fun e w' => e = .returned (.bool true) ∧ Below w.heap.size w w' := by
  have ham := ha.1
  have hps := hc_hs hp
  go_enter Tryd.func5, Tryd.ntmps5
  refine code_both (fun f w1 => f.tmps.size = 105 ∧ f.defers = [] ∧ f.eval (.tmp 0) = .slice aA ps.length dA ∧ f.eval (.tmp 1) = .agg ([.int .i64 i, .int .i64 n, .slice aL nL dL, .slice aP P.length dP] : List Value).toArray ∧ Below w.heap.size w (w1)) ⟨rfl, rfl, rfl, rfl, Below.refl _ _⟩ ?_
  rintro f0 w0 ⟨sz, df, x0, x1, bl⟩
  have bl0 := bl
  refine wp_seq ?_
  refine wp_all_seq [.nw w0.heap.size 39 ([.int .i64 i, .int .i64 n, .slice aL nL dL, .slice aP P.length dP] : List Value), .eq (.bool false)] (by kernel_rfl) (by kernel_rfl) (by rw [sz]; kernel_rfl) (by kernel_rfl) ⟨fun hw ac u K => ?_, fun hw ac u K => ?_, trivial⟩ ?_
  · exact st_box 39 (.tmp 1) rfl _ _ (by rw [show _ = _ from ((K.old 1 rfl).trans x1)]; kernel_rfl) K.grow.size
  · exact st_assign (.const (.bool false)) rfl rfl
  intro f1 w1 A hb
  replace bl0 := bl
  replace x0 := (A.old 0 rfl).trans x0
  replace x1 := (A.old 1 rfl).trans x1
  have x3 : Fk.f (.nw w0.heap.size 39 ([.int .i64 i, .int .i64 n, .slice aL nL dL, .slice aP P.length dP] : List Value)) (f1.eval (.tmp 3)) w1 := A.has 0 3 rfl
  have x4 : f1.eval (.tmp 4) = .bool false := A.has 1 4 rfl
  replace bl := (bl.trans (Below.mono hb bl.size))
  replace sz := A.size.trans sz
  replace df := A.defs.trans df
  clear A hb
  clear x1
  obtain ⟨g3, hg3, e3, m3⟩ := x3
  have x3 := e3
  clear e3
  have hw3 : w.heap.size ≤ g3 := Nat.le_trans bl0.size hg3
  show Code.wp _ _ _ _ _
  refine wp_seq ?_
  refine wp_seq ?_
  by_cases hs : smallP ps
  rotate_left
  · skip
    refine wp_all_seq [.eq (.slice aA ps.length dA), .eq (.bool false), .eq (.bool true), .eq (.bool true), .any, .any, .any, .any, .eq (.bool true), .eq (.bool true), .any, .any, .any, .any, .eq (.bool true)] (by kernel_rfl) (by kernel_rfl) (by rw [sz]; kernel_rfl) (by kernel_rfl) ⟨fun hw ac u K => ?_, fun hw ac u K => ?_, fun hw ac u K => ?_, fun hw ac u K => ?_, fun hw ac u K => ?_, fun hw ac u K => ?_, fun hw ac u K => ?_, fun hw ac u K => ?_, fun hw ac u K => ?_, fun hw ac u K => ?_, fun hw ac u K => ?_, fun hw ac u K => ?_, fun hw ac u K => ?_, fun hw ac u K => ?_, fun hw ac u K => ?_, trivial⟩ ?_
    · exact st_move (.tmp 0) rfl ((K.old 0 rfl).trans x0)
    · exact st_call 11 (.func 11) _ _ #[.slice aA ps.length dA] rfl rfl (one_arg (K.dep 0 8 rfl)) Tryd.enter11 (fk_small hla (Fk.mono _ _ _ _ ham (bl.trans (Below.mono K.grow bl.size))) (by symm; rw [decide_eq_false_iff_not]; exact hs))
    · exact st_not (.tmp 9) rfl false (K.dep 1 9 rfl)
    · exact st_move (.tmp 10) rfl (K.dep 2 10 rfl)
    · exact (Bool.false_ne_true hw).elim
    · exact (Bool.false_ne_true hw).elim
    · exact (Bool.false_ne_true hw).elim
    · exact (Bool.false_ne_true hw).elim
    · exact st_pick_t (.tmp 11) (.const (.bool true)) (.tmp 15) rfl (K.dep 3 11 rfl) rfl
    · exact st_move (.tmp 16) rfl (K.dep 8 16 rfl)
    · exact (Bool.false_ne_true hw).elim
    · exact (Bool.false_ne_true hw).elim
    · exact (Bool.false_ne_true hw).elim
    · exact (Bool.false_ne_true hw).elim
    · exact st_pick_t (.tmp 17) (.const (.bool true)) (.tmp 21) rfl (K.dep 9 17 rfl) rfl
    intro f2 w2 A hb
    replace bl0 := bl
    replace x0 := (A.old 0 rfl).trans x0
    replace x3 := (A.old 3 rfl).trans x3
    replace x4 := (A.old 4 rfl).trans x4
    have x22 : f2.eval (.tmp 22) = .bool true := A.has 14 22 rfl
    have lt_m3 := Ob.lt m3
    replace m3 := Ob.below m3 hb
    replace bl := (bl.trans (Below.mono hb bl.size))
    replace sz := A.size.trans sz
    replace df := A.defs.trans df
    clear A hb
    show Code.wp _ _ _ _ _
    refine wp_cond_true x22 ?_
    refine wp_seq ?_
    refine wp_all_seq [.eq (.bool true), .eq (.bool true)] (by kernel_rfl) (by kernel_rfl) (by rw [sz]; kernel_rfl) (by kernel_rfl) ⟨fun hw ac u K => ?_, fun hw ac u K => ?_, trivial⟩ ?_
    · exact st_call 8 (.func 8) _ _ #[] rfl rfl rfl Tryd.enter8 (fk_of (awake_any _ (hK.below (bl.trans (Below.mono K.grow bl.size)))))
    · exact st_assign (.tmp 23) rfl (K.dep 0 23 rfl)
    intro f3 w3 A hb
    replace bl0 := bl
    replace x0 := (A.old 0 rfl).trans x0
    replace x3 := (A.old 3 rfl).trans x3
    clear x4
    replace x22 := (A.old 22 rfl).trans x22
    have x4 : f3.eval (.tmp 4) = .bool true := A.has 1 4 rfl
    have lt_m3 := Ob.lt m3
    replace m3 := Ob.below m3 hb
    replace bl := (bl.trans (Below.mono hb bl.size))
    replace sz := A.size.trans sz
    replace df := A.defs.trans df
    clear A hb
    show Code.wp _ _ _ _ _
    refine wp_ret ?_
    repeat (first | with_reducible refine then_ret ?_ | with_reducible refine block_ret ?_)
    exact bodyPost_ret (v := .bool true) (ret_slot rfl f3 _ x4 _ _) df ⟨rfl, bl⟩
  by_cases h3 : 300 < lb.length
  rotate_left
  · skip
    have h5 : 50 < P.length := (h.resolve_left (fun h => h hs)).resolve_left h3
    refine wp_all_seq [.eq (.slice aA ps.length dA), .eq (.bool true), .eq (.bool false), .eq (.bool false), .eq (.pointer (some ⟨g3, 2, none⟩)), .eq (.slice aL nL dL), .eq (.int .i64 (((lb).length : Nat) : Int)), .eq (.bool false), .eq (.bool false), .eq (.bool false), .eq (.pointer (some ⟨g3, 3, none⟩)), .eq (.slice aP P.length dP), .eq (.int .i64 (((P).length : Nat) : Int)), .eq (.bool true), .eq (.bool true)] (by kernel_rfl) (by kernel_rfl) (by rw [sz]; kernel_rfl) (by kernel_rfl) ⟨fun hw ac u K => ?_, fun hw ac u K => ?_, fun hw ac u K => ?_, fun hw ac u K => ?_, fun hw ac u K => ?_, fun hw ac u K => ?_, fun hw ac u K => ?_, fun hw ac u K => ?_, fun hw ac u K => ?_, fun hw ac u K => ?_, fun hw ac u K => ?_, fun hw ac u K => ?_, fun hw ac u K => ?_, fun hw ac u K => ?_, fun hw ac u K => ?_, trivial⟩ ?_
    · exact st_move (.tmp 0) rfl ((K.old 0 rfl).trans x0)
    · exact st_call 11 (.func 11) _ _ #[.slice aA ps.length dA] rfl rfl (one_arg (K.dep 0 8 rfl)) Tryd.enter11 (fk_small hla (Fk.mono _ _ _ _ ham (bl.trans (Below.mono K.grow bl.size))) (by symm; rw [decide_eq_true_iff]; exact hs))
    · exact st_not (.tmp 9) rfl true (K.dep 1 9 rfl)
    · exact st_move (.tmp 10) rfl (K.dep 2 10 rfl)
    · exact st_field 39 2 (.tmp 3) rfl ((K.old 3 rfl).trans x3) (by kernel_rfl)
    · exact st_loadc 22 (.tmp 12) rfl (by kernel_rfl) (K.dep 4 12 rfl) (Ob.cell (Ob.below m3 K.grow) 2 rfl)
    · exact st_lenb (.tmp 13) rfl (fk_val (K.dep 5 13 rfl) (Fk.mono _ _ _ _ hl (bl.trans (Below.mono K.grow bl.size))))
    · exact st_gtr 3 (.tmp 14) (.const (.int .i64 300)) rfl .i64 ((((lb).length : Nat) : Int)) (300) (K.dep 6 14 rfl) rfl _ (by rw [eq_comm, decide_eq_false_iff_not]; omega)
    · exact st_pick_f' (.tmp 11) (.const (.bool true)) (.tmp 15) rfl (K.dep 3 11 rfl) (K.dep 7 15 rfl)
    · exact st_move (.tmp 16) rfl (K.dep 8 16 rfl)
    · exact st_field 39 3 (.tmp 3) rfl ((K.old 3 rfl).trans x3) (by kernel_rfl)
    · exact st_loadc 35 (.tmp 18) rfl (by kernel_rfl) (K.dep 10 18 rfl) (Ob.cell (Ob.below m3 K.grow) 3 rfl)
    · exact st_lenh (.tmp 19) rfl (fk_val (K.dep 11 19 rfl) (Fk.mono _ _ _ _ hps (bl.trans (Below.mono K.grow bl.size))))
    · exact st_gtr 3 (.tmp 20) (.const (.int .i64 50)) rfl .i64 ((((P).length : Nat) : Int)) (50) (K.dep 12 20 rfl) rfl _ (by rw [eq_comm, decide_eq_true_iff]; omega)
    · exact st_pick_f' (.tmp 17) (.const (.bool true)) (.tmp 21) rfl (K.dep 9 17 rfl) (K.dep 13 21 rfl)
    intro f2 w2 A hb
    replace bl0 := bl
    replace x0 := (A.old 0 rfl).trans x0
    replace x3 := (A.old 3 rfl).trans x3
    replace x4 := (A.old 4 rfl).trans x4
    have x22 : f2.eval (.tmp 22) = .bool true := A.has 14 22 rfl
    have lt_m3 := Ob.lt m3
    replace m3 := Ob.below m3 hb
    replace bl := (bl.trans (Below.mono hb bl.size))
    replace sz := A.size.trans sz
    replace df := A.defs.trans df
    clear A hb
    show Code.wp _ _ _ _ _
    refine wp_cond_true x22 ?_
    refine wp_seq ?_
    refine wp_all_seq [.eq (.bool true), .eq (.bool true)] (by kernel_rfl) (by kernel_rfl) (by rw [sz]; kernel_rfl) (by kernel_rfl) ⟨fun hw ac u K => ?_, fun hw ac u K => ?_, trivial⟩ ?_
    · exact st_call 8 (.func 8) _ _ #[] rfl rfl rfl Tryd.enter8 (fk_of (awake_any _ (hK.below (bl.trans (Below.mono K.grow bl.size)))))
    · exact st_assign (.tmp 23) rfl (K.dep 0 23 rfl)
    intro f3 w3 A hb
    replace bl0 := bl
    replace x0 := (A.old 0 rfl).trans x0
    replace x3 := (A.old 3 rfl).trans x3
    clear x4
    replace x22 := (A.old 22 rfl).trans x22
    have x4 : f3.eval (.tmp 4) = .bool true := A.has 1 4 rfl
    have lt_m3 := Ob.lt m3
    replace m3 := Ob.below m3 hb
    replace bl := (bl.trans (Below.mono hb bl.size))
    replace sz := A.size.trans sz
    replace df := A.defs.trans df
    clear A hb
    show Code.wp _ _ _ _ _
    refine wp_ret ?_
    repeat (first | with_reducible refine then_ret ?_ | with_reducible refine block_ret ?_)
    exact bodyPost_ret (v := .bool true) (ret_slot rfl f3 _ x4 _ _) df ⟨rfl, bl⟩
  refine wp_all_seq [.eq (.slice aA ps.length dA), .eq (.bool true), .eq (.bool false), .eq (.bool false), .eq (.pointer (some ⟨g3, 2, none⟩)), .eq (.slice aL nL dL), .eq (.int .i64 (((lb).length : Nat) : Int)), .eq (.bool true), .eq (.bool true), .eq (.bool true), .any, .any, .any, .any, .eq (.bool true)] (by kernel_rfl) (by kernel_rfl) (by rw [sz]; kernel_rfl) (by kernel_rfl) ⟨fun hw ac u K => ?_, fun hw ac u K => ?_, fun hw ac u K => ?_, fun hw ac u K => ?_, fun hw ac u K => ?_, fun hw ac u K => ?_, fun hw ac u K => ?_, fun hw ac u K => ?_, fun hw ac u K => ?_, fun hw ac u K => ?_, fun hw ac u K => ?_, fun hw ac u K => ?_, fun hw ac u K => ?_, fun hw ac u K => ?_, fun hw ac u K => ?_, trivial⟩ ?_
  · exact st_move (.tmp 0) rfl ((K.old 0 rfl).trans x0)
  · exact st_call 11 (.func 11) _ _ #[.slice aA ps.length dA] rfl rfl (one_arg (K.dep 0 8 rfl)) Tryd.enter11 (fk_small hla (Fk.mono _ _ _ _ ham (bl.trans (Below.mono K.grow bl.size))) (by symm; rw [decide_eq_true_iff]; exact hs))
  · exact st_not (.tmp 9) rfl true (K.dep 1 9 rfl)
  · exact st_move (.tmp 10) rfl (K.dep 2 10 rfl)
  · exact st_field 39 2 (.tmp 3) rfl ((K.old 3 rfl).trans x3) (by kernel_rfl)
  · exact st_loadc 22 (.tmp 12) rfl (by kernel_rfl) (K.dep 4 12 rfl) (Ob.cell (Ob.below m3 K.grow) 2 rfl)
  · exact st_lenb (.tmp 13) rfl (fk_val (K.dep 5 13 rfl) (Fk.mono _ _ _ _ hl (bl.trans (Below.mono K.grow bl.size))))
  · exact st_gtr 3 (.tmp 14) (.const (.int .i64 300)) rfl .i64 ((((lb).length : Nat) : Int)) (300) (K.dep 6 14 rfl) rfl _ (by rw [eq_comm, decide_eq_true_iff]; omega)
  · exact st_pick_f' (.tmp 11) (.const (.bool true)) (.tmp 15) rfl (K.dep 3 11 rfl) (K.dep 7 15 rfl)
  · exact st_move (.tmp 16) rfl (K.dep 8 16 rfl)
  · exact (Bool.false_ne_true hw).elim
  · exact (Bool.false_ne_true hw).elim
  · exact (Bool.false_ne_true hw).elim
  · exact (Bool.false_ne_true hw).elim
  · exact st_pick_t (.tmp 17) (.const (.bool true)) (.tmp 21) rfl (K.dep 9 17 rfl) rfl
  intro f2 w2 A hb
  replace bl0 := bl
  replace x0 := (A.old 0 rfl).trans x0
  replace x3 := (A.old 3 rfl).trans x3
  replace x4 := (A.old 4 rfl).trans x4
  have x22 : f2.eval (.tmp 22) = .bool true := A.has 14 22 rfl
  have lt_m3 := Ob.lt m3
  replace m3 := Ob.below m3 hb
  replace bl := (bl.trans (Below.mono hb bl.size))
  replace sz := A.size.trans sz
  replace df := A.defs.trans df
  clear A hb
  show Code.wp _ _ _ _ _
  refine wp_cond_true x22 ?_
  refine wp_seq ?_
  refine wp_all_seq [.eq (.bool true), .eq (.bool true)] (by kernel_rfl) (by kernel_rfl) (by rw [sz]; kernel_rfl) (by kernel_rfl) ⟨fun hw ac u K => ?_, fun hw ac u K => ?_, trivial⟩ ?_
  · exact st_call 8 (.func 8) _ _ #[] rfl rfl rfl Tryd.enter8 (fk_of (awake_any _ (hK.below (bl.trans (Below.mono K.grow bl.size)))))
  · exact st_assign (.tmp 23) rfl (K.dep 0 23 rfl)
  intro f3 w3 A hb
  replace bl0 := bl
  replace x0 := (A.old 0 rfl).trans x0
  replace x3 := (A.old 3 rfl).trans x3
  clear x4
  replace x22 := (A.old 22 rfl).trans x22
  have x4 : f3.eval (.tmp 4) = .bool true := A.has 1 4 rfl
  have lt_m3 := Ob.lt m3
  replace m3 := Ob.below m3 hb
  replace bl := (bl.trans (Below.mono hb bl.size))
  replace sz := A.size.trans sz
  replace df := A.defs.trans df
  clear A hb
  show Code.wp _ _ _ _ _
  refine wp_ret ?_
  repeat (first | with_reducible refine then_ret ?_ | with_reducible refine block_ret ?_)
  exact bodyPost_ret (v := .bool true) (ret_slot rfl f3 _ x4 _ _) df ⟨rfl, bl⟩
set_option maxHeartbeats 1000000 in
theorem lin_no {ps : List Pt} {lb : List (BitVec 8)} {P : List (List (BitVec 8))} {aA aL aP : Option Addr} {dA nL dL dP : Nat} (hla : ps.length ≤ 140737488351232) (w : World) (hK : Tab w) (ha : (Fk.mc ps).f (.slice aA ps.length dA) w) (hl : (Fk.sl lb).f (.slice aL nL dL) w) (hp : (Fk.hc P).f (.slice aP P.length dP) w) (hs : smallP ps) (hlb : lb.length ≤ 300) (hPl : P.length ≤ 50) {i n : Int} (h : n ≠ ps.length ∨ i < 0 ∨ (ps.length : Int) ≤ i) :
    Calls Tryd.prog 5 #[.slice aA ps.length dA, .agg ([.int .i64 i, .int .i64 n, .slice aL nL dL, .slice aP P.length dP] : List Value).toArray] w fun e w' => e = .returned (.bool true) ∧ Below w.heap.size w w' := by
  have ham := ha.1
  have hps := hc_hs hp
  go_enter Tryd.func5, Tryd.ntmps5
  refine code_both (fun f w1 => f.tmps.size = 105 ∧ f.defers = [] ∧ f.eval (.tmp 0) = .slice aA ps.length dA ∧ f.eval (.tmp 1) = .agg ([.int .i64 i, .int .i64 n, .slice aL nL dL, .slice aP P.length dP] : List Value).toArray ∧ Below w.heap.size w (w1)) ⟨rfl, rfl, rfl, rfl, Below.refl _ _⟩ ?_
  rintro f0 w0 ⟨sz, df, x0, x1, bl⟩
  have bl0 := bl
  refine wp_seq ?_
  refine wp_all_seq [.nw w0.heap.size 39 ([.int .i64 i, .int .i64 n, .slice aL nL dL, .slice aP P.length dP] : List Value), .eq (.bool false)] (by kernel_rfl) (by kernel_rfl) (by rw [sz]; kernel_rfl) (by kernel_rfl) ⟨fun hw ac u K => ?_, fun hw ac u K => ?_, trivial⟩ ?_
  · exact st_box 39 (.tmp 1) rfl _ _ (by rw [show _ = _ from ((K.old 1 rfl).trans x1)]; kernel_rfl) K.grow.size
  · exact st_assign (.const (.bool false)) rfl rfl
  intro f1 w1 A hb
  replace bl0 := bl
  replace x0 := (A.old 0 rfl).trans x0
  replace x1 := (A.old 1 rfl).trans x1
  have x3 : Fk.f (.nw w0.heap.size 39 ([.int .i64 i, .int .i64 n, .slice aL nL dL, .slice aP P.length dP] : List Value)) (f1.eval (.tmp 3)) w1 := A.has 0 3 rfl
  have x4 : f1.eval (.tmp 4) = .bool false := A.has 1 4 rfl
  replace bl := (bl.trans (Below.mono hb bl.size))
  replace sz := A.size.trans sz
  replace df := A.defs.trans df
  clear A hb
  clear x1
  obtain ⟨g3, hg3, e3, m3⟩ := x3
  have x3 := e3
  clear e3
  have hw3 : w.heap.size ≤ g3 := Nat.le_trans bl0.size hg3
  show Code.wp _ _ _ _ _
  refine wp_seq ?_
  refine wp_seq ?_
  refine wp_all_seq [.eq (.slice aA ps.length dA), .eq (.bool true), .eq (.bool false), .eq (.bool false), .eq (.pointer (some ⟨g3, 2, none⟩)), .eq (.slice aL nL dL), .eq (.int .i64 (((lb).length : Nat) : Int)), .eq (.bool false), .eq (.bool false), .eq (.bool false), .eq (.pointer (some ⟨g3, 3, none⟩)), .eq (.slice aP P.length dP), .eq (.int .i64 (((P).length : Nat) : Int)), .eq (.bool false), .eq (.bool false)] (by kernel_rfl) (by kernel_rfl) (by rw [sz]; kernel_rfl) (by kernel_rfl) ⟨fun hw ac u K => ?_, fun hw ac u K => ?_, fun hw ac u K => ?_, fun hw ac u K => ?_, fun hw ac u K => ?_, fun hw ac u K => ?_, fun hw ac u K => ?_, fun hw ac u K => ?_, fun hw ac u K => ?_, fun hw ac u K => ?_, fun hw ac u K => ?_, fun hw ac u K => ?_, fun hw ac u K => ?_, fun hw ac u K => ?_, fun hw ac u K => ?_, trivial⟩ ?_
  · exact st_move (.tmp 0) rfl ((K.old 0 rfl).trans x0)
  · exact st_call 11 (.func 11) _ _ #[.slice aA ps.length dA] rfl rfl (one_arg (K.dep 0 8 rfl)) Tryd.enter11 (fk_small hla (Fk.mono _ _ _ _ ham (bl.trans (Below.mono K.grow bl.size))) (by symm; rw [decide_eq_true_iff]; exact hs))
  · exact st_not (.tmp 9) rfl true (K.dep 1 9 rfl)
  · exact st_move (.tmp 10) rfl (K.dep 2 10 rfl)
  · exact st_field 39 2 (.tmp 3) rfl ((K.old 3 rfl).trans x3) (by kernel_rfl)
  · exact st_loadc 22 (.tmp 12) rfl (by kernel_rfl) (K.dep 4 12 rfl) (Ob.cell (Ob.below m3 K.grow) 2 rfl)
  · exact st_lenb (.tmp 13) rfl (fk_val (K.dep 5 13 rfl) (Fk.mono _ _ _ _ hl (bl.trans (Below.mono K.grow bl.size))))
  · exact st_gtr 3 (.tmp 14) (.const (.int .i64 300)) rfl .i64 ((((lb).length : Nat) : Int)) (300) (K.dep 6 14 rfl) rfl _ (by rw [eq_comm, decide_eq_false_iff_not]; omega)
  · exact st_pick_f' (.tmp 11) (.const (.bool true)) (.tmp 15) rfl (K.dep 3 11 rfl) (K.dep 7 15 rfl)
  · exact st_move (.tmp 16) rfl (K.dep 8 16 rfl)
  · exact st_field 39 3 (.tmp 3) rfl ((K.old 3 rfl).trans x3) (by kernel_rfl)
  · exact st_loadc 35 (.tmp 18) rfl (by kernel_rfl) (K.dep 10 18 rfl) (Ob.cell (Ob.below m3 K.grow) 3 rfl)
  · exact st_lenh (.tmp 19) rfl (fk_val (K.dep 11 19 rfl) (Fk.mono _ _ _ _ hps (bl.trans (Below.mono K.grow bl.size))))
  · exact st_gtr 3 (.tmp 20) (.const (.int .i64 50)) rfl .i64 ((((P).length : Nat) : Int)) (50) (K.dep 12 20 rfl) rfl _ (by rw [eq_comm, decide_eq_false_iff_not]; omega)
  · exact st_pick_f' (.tmp 17) (.const (.bool true)) (.tmp 21) rfl (K.dep 9 17 rfl) (K.dep 13 21 rfl)
  intro f2 w2 A hb
  replace bl0 := bl
  replace x0 := (A.old 0 rfl).trans x0
  replace x3 := (A.old 3 rfl).trans x3
  replace x4 := (A.old 4 rfl).trans x4
  have x22 : f2.eval (.tmp 22) = .bool false := A.has 14 22 rfl
  have lt_m3 := Ob.lt m3
  replace m3 := Ob.below m3 hb
  replace bl := (bl.trans (Below.mono hb bl.size))
  replace sz := A.size.trans sz
  replace df := A.defs.trans df
  clear A hb
  show Code.wp _ _ _ _ _
  refine wp_cond_false x22 ?_
  refine wp_skip ?_
  show Code.wp _ _ _ _ _
  refine wp_seq ?_
  refine wp_region_seq [.eq (.slice aA ps.length dA), .eq (.agg ([.int .i64 i, .int .i64 n, .slice aL nL dL, .slice aP P.length dP] : List Value).toArray)] (by kernel_rfl) (by kernel_rfl) (by rw [sz]; kernel_rfl) (by kernel_rfl) ⟨fun hw ac u K => ?_, fun hw ac u K => ?_, trivial⟩ ?_
  · exact st_move (.tmp 0) rfl ((K.old 0 rfl).trans x0)
  · exact st_loadz 39 (.tmp 3) rfl (g3) 0 [.int .i64 i, .int .i64 n, .slice aL nL dL, .slice aP P.length dP] (by kernel_rfl) (by kernel_rfl) ((K.old 3 rfl).trans x3) (Ob.range (Ob.below m3 K.grow) 0 _ (fun j v hj => by simpa using hj))
  intro f3 w3 A hb
  replace bl0 := bl
  replace x0 := (A.old 0 rfl).trans x0
  replace x3 := (A.old 3 rfl).trans x3
  replace x4 := (A.old 4 rfl).trans x4
  replace x22 := (A.old 22 rfl).trans x22
  have x25 : f3.eval (.tmp 25) = .slice aA ps.length dA := A.has 0 25 rfl
  have x26 : f3.eval (.tmp 26) = .agg ([.int .i64 i, .int .i64 n, .slice aL nL dL, .slice aP P.length dP] : List Value).toArray := A.has 1 26 rfl
  have lt_m3 := Ob.lt m3
  replace m3 := Ob.below m3 hb
  replace bl := (bl.trans (Below.mono hb bl.size))
  replace sz := A.size.trans sz
  replace df := A.defs.trans df
  clear A hb
  refine wl_call 16 (.func 16) _ _ #[.slice aA ps.length dA, .agg ([.int .i64 i, .int .i64 n, .slice aL nL dL, .slice aP P.length dP] : List Value).toArray] rfl 27 rfl (by rw [sz]; decide) rfl rfl (arg2 x25 x26) Tryd.enter16 (fun u W => (Fk.c3 false 11).f u W ∧ Below w3.heap.size w3 W) (fk_cin_no hs hlb hPl (Fk.mono _ _ _ _ ha bl) (Fk.mono _ _ _ _ hl bl) (Fk.mono _ _ _ _ hp bl) (hK.below bl) h) ?_
  rintro f4 w4 df2 sz2 old2 ⟨⟨A, B, u1, u2, new2, hA, hB, hlA, hlB, hr1⟩, hb⟩
  obtain ⟨pA, mA, cA, _, _, rfl, _⟩ := id hA
  obtain ⟨pB, mB, cB, _, _, rfl, _⟩ := id hB
  replace bl0 := bl
  replace x0 := (old2 0 rfl).trans x0
  replace x3 := (old2 3 rfl).trans x3
  replace x4 := (old2 4 rfl).trans x4
  replace x22 := (old2 22 rfl).trans x22
  replace x25 := (old2 25 rfl).trans x25
  replace x26 := (old2 26 rfl).trans x26
  have x27 : f4.eval (.tmp 27) = .tuple #[.agg ([.slice pA mA cA, .slice pB mB cB] : List Value).toArray, .bool false, .int .i64 11] := new2
  have lt_m3 := Ob.lt m3
  replace m3 := Ob.below m3 hb
  replace bl := (bl.trans (Below.mono hb bl.size))
  replace sz := sz2.trans sz
  replace df := df2.trans df
  clear df2 sz2 old2 new2 hb
  have blw := bl
  replace ha := Fk.mono _ _ _ _ ha bl
  replace ham := Fk.mono _ _ _ _ ham bl
  replace hl := Fk.mono _ _ _ _ hl bl
  replace hp := Fk.mono _ _ _ _ hp bl
  replace hps := Fk.mono _ _ _ _ hps bl
  replace hK := hK.below bl
  replace bl := Below.refl w4.heap.size w4
  replace bl0 := bl
  clear x25
  clear x26
  refine wl_one (.eq (.tuple #[.agg ([.slice pA mA cA, .slice pB mB cB] : List Value).toArray, .bool false, .int .i64 11])) rfl 24 rfl (by rw [sz]; decide) (st_move (.tmp 27) rfl x27) ?_
  intro f5 w5 df2 sz2 old2 new2 hb
  replace bl0 := bl
  replace x0 := (old2 0 rfl).trans x0
  replace x3 := (old2 3 rfl).trans x3
  replace x4 := (old2 4 rfl).trans x4
  replace x22 := (old2 22 rfl).trans x22
  replace x27 := (old2 27 rfl).trans x27
  have x24 : f5.eval (.tmp 24) = .tuple #[.agg ([.slice pA mA cA, .slice pB mB cB] : List Value).toArray, .bool false, .int .i64 11] := new2
  replace bl := (bl.trans (Below.mono hb bl.size))
  replace sz := sz2.trans sz
  replace df := df2.trans df
  clear df2 sz2 old2 new2 hb
  clear x27
  refine wl_one (.eq (.agg ([.slice pA mA cA, .slice pB mB cB] : List Value).toArray)) rfl 28 rfl (by rw [sz]; decide) (st_tup (.tmp 24) rfl x24 (by rfl)) ?_
  intro f6 w6 df2 sz2 old2 new2 hb
  replace bl0 := bl
  replace x0 := (old2 0 rfl).trans x0
  replace x3 := (old2 3 rfl).trans x3
  replace x4 := (old2 4 rfl).trans x4
  replace x22 := (old2 22 rfl).trans x22
  replace x24 := (old2 24 rfl).trans x24
  have x28 : f6.eval (.tmp 28) = .agg ([.slice pA mA cA, .slice pB mB cB] : List Value).toArray := new2
  replace bl := (bl.trans (Below.mono hb bl.size))
  replace sz := sz2.trans sz
  replace df := df2.trans df
  clear df2 sz2 old2 new2 hb
  refine wl_one (.eq (.bool false)) rfl 29 rfl (by rw [sz]; decide) (st_tup (.tmp 24) rfl x24 (by rfl)) ?_
  intro f7 w7 df2 sz2 old2 new2 hb
  replace bl0 := bl
  replace x0 := (old2 0 rfl).trans x0
  replace x3 := (old2 3 rfl).trans x3
  replace x4 := (old2 4 rfl).trans x4
  replace x22 := (old2 22 rfl).trans x22
  replace x24 := (old2 24 rfl).trans x24
  replace x28 := (old2 28 rfl).trans x28
  have x29 : f7.eval (.tmp 29) = .bool false := new2
  replace bl := (bl.trans (Below.mono hb bl.size))
  replace sz := sz2.trans sz
  replace df := df2.trans df
  clear df2 sz2 old2 new2 hb
  refine wl_one (.eq (.int .i64 11)) rfl 30 rfl (by rw [sz]; decide) (st_tup (.tmp 24) rfl x24 (by rfl)) ?_
  intro f8 w8 df2 sz2 old2 new2 hb
  replace bl0 := bl
  replace x0 := (old2 0 rfl).trans x0
  replace x3 := (old2 3 rfl).trans x3
  replace x4 := (old2 4 rfl).trans x4
  replace x22 := (old2 22 rfl).trans x22
  replace x24 := (old2 24 rfl).trans x24
  replace x28 := (old2 28 rfl).trans x28
  replace x29 := (old2 29 rfl).trans x29
  have x30 : f8.eval (.tmp 30) = .int .i64 11 := new2
  replace bl := (bl.trans (Below.mono hb bl.size))
  replace sz := sz2.trans sz
  replace df := df2.trans df
  clear df2 sz2 old2 new2 hb
  clear x24
  refine wl_one (.nw w8.heap.size 25 [.slice none 0 0, .slice none 0 0]) rfl 5 rfl (by rw [sz]; decide) (st_alloc 25 rfl _ _ (by kernel_rfl) (Nat.le_refl _)) ?_
  intro f9 w9 df2 sz2 old2 new2 hb
  replace bl0 := bl
  replace x0 := (old2 0 rfl).trans x0
  replace x3 := (old2 3 rfl).trans x3
  replace x4 := (old2 4 rfl).trans x4
  replace x22 := (old2 22 rfl).trans x22
  replace x28 := (old2 28 rfl).trans x28
  replace x29 := (old2 29 rfl).trans x29
  replace x30 := (old2 30 rfl).trans x30
  have x5 : Fk.f (.nw w8.heap.size 25 [.slice none 0 0, .slice none 0 0]) (f9.eval (.tmp 5)) w9 := new2
  replace bl := (bl.trans (Below.mono hb bl.size))
  replace sz := sz2.trans sz
  replace df := df2.trans df
  clear df2 sz2 old2 new2 hb
  obtain ⟨g5, hg5, e5, m5⟩ := x5
  have x5 := e5
  clear e5
  have nm3_5 : g3 ≠ g5 := Nat.ne_of_lt (Nat.lt_of_lt_of_le (Ob.lt m3) (Nat.le_trans bl0.size hg5))
  have hw5 : w4.heap.size ≤ g5 := Nat.le_trans bl0.size hg5
  refine wl_str rfl 25 (.tmp 5) (.tmp 28) rfl rfl (g5) ([.slice pA mA cA, .slice pB mB cB] : List Value).toArray x5 x28 25 _ m5 (by kernel_rfl) (by kernel_rfl) (by kernel_rfl) ?_
  replace m5 : Ob (w9.setRow g5 ([.slice pA mA cA, .slice pB mB cB] : List Value).toArray) (g5) 25 ([.slice pA mA cA, .slice pB mB cB]) := Ob.setRow m5 ([.slice pA mA cA, .slice pB mB cB])
  replace bl : Below w4.heap.size w4 (w9.setRow g5 ([.slice pA mA cA, .slice pB mB cB] : List Value).toArray) := bl.trans (below_setRow _ _ _ _ hw5)
  generalize w9.setRow g5 ([.slice pA mA cA, .slice pB mB cB] : List Value).toArray = w10b at bl m5 ⊢
  clear x28
  refine wl_one (.eq (.bool false)) rfl 6 rfl (by rw [sz]; decide) (st_assign (.tmp 29) rfl x29) ?_
  intro f11 w11 df2 sz2 old2 new2 hb
  replace bl0 := bl
  replace x0 := (old2 0 rfl).trans x0
  replace x3 := (old2 3 rfl).trans x3
  replace x4 := (old2 4 rfl).trans x4
  replace x22 := (old2 22 rfl).trans x22
  replace x29 := (old2 29 rfl).trans x29
  replace x30 := (old2 30 rfl).trans x30
  replace x5 := (old2 5 rfl).trans x5
  have x6 : f11.eval (.tmp 6) = .bool false := new2
  have lt_m5 := Ob.lt m5
  replace m5 := Ob.below m5 hb
  replace bl := (bl.trans (Below.mono hb bl.size))
  replace sz := sz2.trans sz
  replace df := df2.trans df
  clear df2 sz2 old2 new2 hb
  clear x29
  refine wl_one (.eq (.int .i64 11)) rfl 7 rfl (by rw [sz]; decide) (st_assign (.tmp 30) rfl x30) ?_
  intro f12 w12 df2 sz2 old2 new2 hb
  replace bl0 := bl
  replace x0 := (old2 0 rfl).trans x0
  replace x3 := (old2 3 rfl).trans x3
  replace x4 := (old2 4 rfl).trans x4
  replace x22 := (old2 22 rfl).trans x22
  replace x30 := (old2 30 rfl).trans x30
  replace x5 := (old2 5 rfl).trans x5
  replace x6 := (old2 6 rfl).trans x6
  have x7 : f12.eval (.tmp 7) = .int .i64 11 := new2
  have lt_m5 := Ob.lt m5
  replace m5 := Ob.below m5 hb
  replace bl := (bl.trans (Below.mono hb bl.size))
  replace sz := sz2.trans sz
  replace df := df2.trans df
  clear df2 sz2 old2 new2 hb
  refine wpList_nil ?_
  clear x30
  show Code.wp _ _ _ _ _
  refine wp_seq ?_
  refine wp_seq ?_
  by_cases hn : n ≠ (ps.length : Int)
  rotate_left
  · skip
    by_cases hi : i < 0
    rotate_left
    · skip
      refine wp_all_seq [.eq (.pointer (some ⟨g3, 1, none⟩)), .eq (.int .i64 n), .eq (.slice aA ps.length dA), .eq (.int .i64 (((ps).length : Nat) : Int)), .eq (.bool false), .eq (.bool false), .eq (.pointer (some ⟨g3, 0, none⟩)), .eq (.int .i64 i), .eq (.bool false), .eq (.bool false), .eq (.bool false), .eq (.pointer (some ⟨g3, 0, none⟩)), .eq (.int .i64 i), .eq (.slice aA ps.length dA), .eq (.int .i64 (((ps).length : Nat) : Int)), .eq (.bool true), .eq (.bool true)] (by kernel_rfl) (by kernel_rfl) (by rw [sz]; kernel_rfl) (by kernel_rfl) ⟨fun hw ac u K => ?_, fun hw ac u K => ?_, fun hw ac u K => ?_, fun hw ac u K => ?_, fun hw ac u K => ?_, fun hw ac u K => ?_, fun hw ac u K => ?_, fun hw ac u K => ?_, fun hw ac u K => ?_, fun hw ac u K => ?_, fun hw ac u K => ?_, fun hw ac u K => ?_, fun hw ac u K => ?_, fun hw ac u K => ?_, fun hw ac u K => ?_, fun hw ac u K => ?_, fun hw ac u K => ?_, trivial⟩ ?_
      · exact st_field 39 1 (.tmp 3) rfl ((K.old 3 rfl).trans x3) (by kernel_rfl)
      · exact st_loadc 3 (.tmp 31) rfl (by kernel_rfl) (K.dep 0 31 rfl) (Ob.cell (Ob.below m3 (bl.trans (Below.mono K.grow bl.size))) 1 rfl)
      · exact st_move (.tmp 0) rfl ((K.old 0 rfl).trans x0)
      · exact st_lenm (.tmp 33) rfl (fk_val (K.dep 2 33 rfl) (Fk.mono _ _ _ _ ham (bl.trans (Below.mono K.grow bl.size))))
      · exact st_neqi 3 (.tmp 32) (.tmp 34) rfl .i64 (n) ((((ps).length : Nat) : Int)) (K.dep 1 32 rfl) (K.dep 3 34 rfl) _ (by symm; rw [decide_eq_false_iff_not]; exact hn)
      · exact st_move (.tmp 35) rfl (K.dep 4 35 rfl)
      · exact st_field 39 0 (.tmp 3) rfl ((K.old 3 rfl).trans x3) (by kernel_rfl)
      · exact st_loadc 3 (.tmp 37) rfl (by kernel_rfl) (K.dep 6 37 rfl) (Ob.cell (Ob.below m3 (bl.trans (Below.mono K.grow bl.size))) 0 rfl)
      · exact st_lss 3 (.tmp 38) (.const (.int .i64 0)) rfl .i64 (i) (0) (K.dep 7 38 rfl) rfl _ (by symm; rw [decide_eq_false_iff_not]; exact hi)
      · exact st_pick_f' (.tmp 36) (.const (.bool true)) (.tmp 39) rfl (K.dep 5 36 rfl) (K.dep 8 39 rfl)
      · exact st_move (.tmp 40) rfl (K.dep 9 40 rfl)
      · exact st_field 39 0 (.tmp 3) rfl ((K.old 3 rfl).trans x3) (by kernel_rfl)
      · exact st_loadc 3 (.tmp 42) rfl (by kernel_rfl) (K.dep 11 42 rfl) (Ob.cell (Ob.below m3 (bl.trans (Below.mono K.grow bl.size))) 0 rfl)
      · exact st_move (.tmp 0) rfl ((K.old 0 rfl).trans x0)
      · exact st_lenm (.tmp 44) rfl (fk_val (K.dep 13 44 rfl) (Fk.mono _ _ _ _ ham (bl.trans (Below.mono K.grow bl.size))))
      · exact st_geq 3 (.tmp 43) (.tmp 45) rfl .i64 (i) ((((ps).length : Nat) : Int)) (K.dep 12 43 rfl) (K.dep 14 45 rfl) _ (by symm; rw [decide_eq_true_iff]; exact (by rcases h with h | h | h; exact absurd h hn; exact absurd h hi; exact h))
      · exact st_pick_f' (.tmp 41) (.const (.bool true)) (.tmp 46) rfl (K.dep 10 41 rfl) (K.dep 15 46 rfl)
      intro f13 w13 A hb
      replace bl0 := bl
      replace x0 := (A.old 0 rfl).trans x0
      replace x3 := (A.old 3 rfl).trans x3
      replace x4 := (A.old 4 rfl).trans x4
      replace x22 := (A.old 22 rfl).trans x22
      replace x5 := (A.old 5 rfl).trans x5
      replace x6 := (A.old 6 rfl).trans x6
      replace x7 := (A.old 7 rfl).trans x7
      have x47 : f13.eval (.tmp 47) = .bool true := A.has 16 47 rfl
      have lt_m5 := Ob.lt m5
      replace m5 := Ob.below m5 hb
      replace bl := (bl.trans (Below.mono hb bl.size))
      replace sz := A.size.trans sz
      replace df := A.defs.trans df
      clear A hb
      show Code.wp _ _ _ _ _
      refine wp_cond_true x47 ?_
      refine wp_seq ?_
      refine wp_all_seq [.eq (.int .i64 11), .eq (.bool true), .eq (.bool true), .eq (.bool false), .eq (.bool true), .eq (.bool true), .eq (.bool true), .eq (.bool true), .eq (.bool true), .eq (.bool true)] (by kernel_rfl) (by kernel_rfl) (by rw [sz]; kernel_rfl) (by kernel_rfl) ⟨fun hw ac u K => ?_, fun hw ac u K => ?_, fun hw ac u K => ?_, fun hw ac u K => ?_, fun hw ac u K => ?_, fun hw ac u K => ?_, fun hw ac u K => ?_, fun hw ac u K => ?_, fun hw ac u K => ?_, fun hw ac u K => ?_, trivial⟩ ?_
      · exact st_move (.tmp 7) rfl ((K.old 7 rfl).trans x7)
      · exact st_eqi 40 (.tmp 48) (.const (.int .i64 11)) rfl .i64 (11) (11) (K.dep 0 48 rfl) rfl _ (by rfl)
      · exact st_move (.tmp 49) rfl (K.dep 1 49 rfl)
      · exact st_move (.tmp 6) rfl ((K.old 6 rfl).trans x6)
      · exact st_not (.tmp 51) rfl false (K.dep 3 51 rfl)
      · exact st_pick_t (.tmp 50) (.tmp 52) (.const (.bool false)) rfl (K.dep 2 50 rfl) (K.dep 4 52 rfl)
      · exact st_move (.tmp 53) rfl (K.dep 5 53 rfl)
      · exact st_call 8 (.func 8) _ _ #[] rfl rfl rfl Tryd.enter8 (fk_of (awake_any _ (hK.below (bl.trans (Below.mono K.grow bl.size)))))
      · exact st_pick_t (.tmp 54) (.tmp 55) (.const (.bool false)) rfl (K.dep 6 54 rfl) (K.dep 7 55 rfl)
      · exact st_assign (.tmp 56) rfl (K.dep 8 56 rfl)
      intro f14 w14 A hb
      replace bl0 := bl
      replace x0 := (A.old 0 rfl).trans x0
      replace x3 := (A.old 3 rfl).trans x3
      clear x4
      replace x22 := (A.old 22 rfl).trans x22
      replace x5 := (A.old 5 rfl).trans x5
      replace x6 := (A.old 6 rfl).trans x6
      replace x7 := (A.old 7 rfl).trans x7
      replace x47 := (A.old 47 rfl).trans x47
      have x4 : f14.eval (.tmp 4) = .bool true := A.has 9 4 rfl
      have lt_m5 := Ob.lt m5
      replace m5 := Ob.below m5 hb
      replace bl := (bl.trans (Below.mono hb bl.size))
      replace sz := A.size.trans sz
      replace df := A.defs.trans df
      clear A hb
      show Code.wp _ _ _ _ _
      refine wp_ret ?_
      repeat (first | with_reducible refine then_ret ?_ | with_reducible refine block_ret ?_)
      exact bodyPost_ret (v := .bool true) (ret_slot rfl f14 _ x4 _ _) df ⟨rfl, (blw.trans (Below.mono bl blw.size))⟩
    refine wp_all_seq [.eq (.pointer (some ⟨g3, 1, none⟩)), .eq (.int .i64 n), .eq (.slice aA ps.length dA), .eq (.int .i64 (((ps).length : Nat) : Int)), .eq (.bool false), .eq (.bool false), .eq (.pointer (some ⟨g3, 0, none⟩)), .eq (.int .i64 i), .eq (.bool true), .eq (.bool true), .eq (.bool true), .any, .any, .any, .any, .any, .eq (.bool true)] (by kernel_rfl) (by kernel_rfl) (by rw [sz]; kernel_rfl) (by kernel_rfl) ⟨fun hw ac u K => ?_, fun hw ac u K => ?_, fun hw ac u K => ?_, fun hw ac u K => ?_, fun hw ac u K => ?_, fun hw ac u K => ?_, fun hw ac u K => ?_, fun hw ac u K => ?_, fun hw ac u K => ?_, fun hw ac u K => ?_, fun hw ac u K => ?_, fun hw ac u K => ?_, fun hw ac u K => ?_, fun hw ac u K => ?_, fun hw ac u K => ?_, fun hw ac u K => ?_, fun hw ac u K => ?_, trivial⟩ ?_
    · exact st_field 39 1 (.tmp 3) rfl ((K.old 3 rfl).trans x3) (by kernel_rfl)
    · exact st_loadc 3 (.tmp 31) rfl (by kernel_rfl) (K.dep 0 31 rfl) (Ob.cell (Ob.below m3 (bl.trans (Below.mono K.grow bl.size))) 1 rfl)
    · exact st_move (.tmp 0) rfl ((K.old 0 rfl).trans x0)
    · exact st_lenm (.tmp 33) rfl (fk_val (K.dep 2 33 rfl) (Fk.mono _ _ _ _ ham (bl.trans (Below.mono K.grow bl.size))))
    · exact st_neqi 3 (.tmp 32) (.tmp 34) rfl .i64 (n) ((((ps).length : Nat) : Int)) (K.dep 1 32 rfl) (K.dep 3 34 rfl) _ (by symm; rw [decide_eq_false_iff_not]; exact hn)
    · exact st_move (.tmp 35) rfl (K.dep 4 35 rfl)
    · exact st_field 39 0 (.tmp 3) rfl ((K.old 3 rfl).trans x3) (by kernel_rfl)
    · exact st_loadc 3 (.tmp 37) rfl (by kernel_rfl) (K.dep 6 37 rfl) (Ob.cell (Ob.below m3 (bl.trans (Below.mono K.grow bl.size))) 0 rfl)
    · exact st_lss 3 (.tmp 38) (.const (.int .i64 0)) rfl .i64 (i) (0) (K.dep 7 38 rfl) rfl _ (by symm; rw [decide_eq_true_iff]; exact hi)
    · exact st_pick_f' (.tmp 36) (.const (.bool true)) (.tmp 39) rfl (K.dep 5 36 rfl) (K.dep 8 39 rfl)
    · exact st_move (.tmp 40) rfl (K.dep 9 40 rfl)
    · exact (Bool.false_ne_true hw).elim
    · exact (Bool.false_ne_true hw).elim
    · exact (Bool.false_ne_true hw).elim
    · exact (Bool.false_ne_true hw).elim
    · exact (Bool.false_ne_true hw).elim
    · exact st_pick_t (.tmp 41) (.const (.bool true)) (.tmp 46) rfl (K.dep 10 41 rfl) rfl
    intro f13 w13 A hb
    replace bl0 := bl
    replace x0 := (A.old 0 rfl).trans x0
    replace x3 := (A.old 3 rfl).trans x3
    replace x4 := (A.old 4 rfl).trans x4
    replace x22 := (A.old 22 rfl).trans x22
    replace x5 := (A.old 5 rfl).trans x5
    replace x6 := (A.old 6 rfl).trans x6
    replace x7 := (A.old 7 rfl).trans x7
    have x47 : f13.eval (.tmp 47) = .bool true := A.has 16 47 rfl
    have lt_m5 := Ob.lt m5
    replace m5 := Ob.below m5 hb
    replace bl := (bl.trans (Below.mono hb bl.size))
    replace sz := A.size.trans sz
    replace df := A.defs.trans df
    clear A hb
    show Code.wp _ _ _ _ _
    refine wp_cond_true x47 ?_
    refine wp_seq ?_
    refine wp_all_seq [.eq (.int .i64 11), .eq (.bool true), .eq (.bool true), .eq (.bool false), .eq (.bool true), .eq (.bool true), .eq (.bool true), .eq (.bool true), .eq (.bool true), .eq (.bool true)] (by kernel_rfl) (by kernel_rfl) (by rw [sz]; kernel_rfl) (by kernel_rfl) ⟨fun hw ac u K => ?_, fun hw ac u K => ?_, fun hw ac u K => ?_, fun hw ac u K => ?_, fun hw ac u K => ?_, fun hw ac u K => ?_, fun hw ac u K => ?_, fun hw ac u K => ?_, fun hw ac u K => ?_, fun hw ac u K => ?_, trivial⟩ ?_
    · exact st_move (.tmp 7) rfl ((K.old 7 rfl).trans x7)
    · exact st_eqi 40 (.tmp 48) (.const (.int .i64 11)) rfl .i64 (11) (11) (K.dep 0 48 rfl) rfl _ (by rfl)
    · exact st_move (.tmp 49) rfl (K.dep 1 49 rfl)
    · exact st_move (.tmp 6) rfl ((K.old 6 rfl).trans x6)
    · exact st_not (.tmp 51) rfl false (K.dep 3 51 rfl)
    · exact st_pick_t (.tmp 50) (.tmp 52) (.const (.bool false)) rfl (K.dep 2 50 rfl) (K.dep 4 52 rfl)
    · exact st_move (.tmp 53) rfl (K.dep 5 53 rfl)
    · exact st_call 8 (.func 8) _ _ #[] rfl rfl rfl Tryd.enter8 (fk_of (awake_any _ (hK.below (bl.trans (Below.mono K.grow bl.size)))))
    · exact st_pick_t (.tmp 54) (.tmp 55) (.const (.bool false)) rfl (K.dep 6 54 rfl) (K.dep 7 55 rfl)
    · exact st_assign (.tmp 56) rfl (K.dep 8 56 rfl)
    intro f14 w14 A hb
    replace bl0 := bl
    replace x0 := (A.old 0 rfl).trans x0
    replace x3 := (A.old 3 rfl).trans x3
    clear x4
    replace x22 := (A.old 22 rfl).trans x22
    replace x5 := (A.old 5 rfl).trans x5
    replace x6 := (A.old 6 rfl).trans x6
    replace x7 := (A.old 7 rfl).trans x7
    replace x47 := (A.old 47 rfl).trans x47
    have x4 : f14.eval (.tmp 4) = .bool true := A.has 9 4 rfl
    have lt_m5 := Ob.lt m5
    replace m5 := Ob.below m5 hb
    replace bl := (bl.trans (Below.mono hb bl.size))
    replace sz := A.size.trans sz
    replace df := A.defs.trans df
    clear A hb
    show Code.wp _ _ _ _ _
    refine wp_ret ?_
    repeat (first | with_reducible refine then_ret ?_ | with_reducible refine block_ret ?_)
    exact bodyPost_ret (v := .bool true) (ret_slot rfl f14 _ x4 _ _) df ⟨rfl, (blw.trans (Below.mono bl blw.size))⟩
  refine wp_all_seq [.eq (.pointer (some ⟨g3, 1, none⟩)), .eq (.int .i64 n), .eq (.slice aA ps.length dA), .eq (.int .i64 (((ps).length : Nat) : Int)), .eq (.bool true), .eq (.bool true), .any, .any, .any, .eq (.bool true), .eq (.bool true), .any, .any, .any, .any, .any, .eq (.bool true)] (by kernel_rfl) (by kernel_rfl) (by rw [sz]; kernel_rfl) (by kernel_rfl) ⟨fun hw ac u K => ?_, fun hw ac u K => ?_, fun hw ac u K => ?_, fun hw ac u K => ?_, fun hw ac u K => ?_, fun hw ac u K => ?_, fun hw ac u K => ?_, fun hw ac u K => ?_, fun hw ac u K => ?_, fun hw ac u K => ?_, fun hw ac u K => ?_, fun hw ac u K => ?_, fun hw ac u K => ?_, fun hw ac u K => ?_, fun hw ac u K => ?_, fun hw ac u K => ?_, fun hw ac u K => ?_, trivial⟩ ?_
  · exact st_field 39 1 (.tmp 3) rfl ((K.old 3 rfl).trans x3) (by kernel_rfl)
  · exact st_loadc 3 (.tmp 31) rfl (by kernel_rfl) (K.dep 0 31 rfl) (Ob.cell (Ob.below m3 (bl.trans (Below.mono K.grow bl.size))) 1 rfl)
  · exact st_move (.tmp 0) rfl ((K.old 0 rfl).trans x0)
  · exact st_lenm (.tmp 33) rfl (fk_val (K.dep 2 33 rfl) (Fk.mono _ _ _ _ ham (bl.trans (Below.mono K.grow bl.size))))
  · exact st_neqi 3 (.tmp 32) (.tmp 34) rfl .i64 (n) ((((ps).length : Nat) : Int)) (K.dep 1 32 rfl) (K.dep 3 34 rfl) _ (by symm; rw [decide_eq_true_iff]; exact hn)
  · exact st_move (.tmp 35) rfl (K.dep 4 35 rfl)
  · exact (Bool.false_ne_true hw).elim
  · exact (Bool.false_ne_true hw).elim
  · exact (Bool.false_ne_true hw).elim
  · exact st_pick_t (.tmp 36) (.const (.bool true)) (.tmp 39) rfl (K.dep 5 36 rfl) rfl
  · exact st_move (.tmp 40) rfl (K.dep 9 40 rfl)
  · exact (Bool.false_ne_true hw).elim
  · exact (Bool.false_ne_true hw).elim
  · exact (Bool.false_ne_true hw).elim
  · exact (Bool.false_ne_true hw).elim
  · exact (Bool.false_ne_true hw).elim
  · exact st_pick_t (.tmp 41) (.const (.bool true)) (.tmp 46) rfl (K.dep 10 41 rfl) rfl
  intro f13 w13 A hb
  replace bl0 := bl
  replace x0 := (A.old 0 rfl).trans x0
  replace x3 := (A.old 3 rfl).trans x3
  replace x4 := (A.old 4 rfl).trans x4
  replace x22 := (A.old 22 rfl).trans x22
  replace x5 := (A.old 5 rfl).trans x5
  replace x6 := (A.old 6 rfl).trans x6
  replace x7 := (A.old 7 rfl).trans x7
  have x47 : f13.eval (.tmp 47) = .bool true := A.has 16 47 rfl
  have lt_m5 := Ob.lt m5
  replace m5 := Ob.below m5 hb
  replace bl := (bl.trans (Below.mono hb bl.size))
  replace sz := A.size.trans sz
  replace df := A.defs.trans df
  clear A hb
  show Code.wp _ _ _ _ _
  refine wp_cond_true x47 ?_
  refine wp_seq ?_
  refine wp_all_seq [.eq (.int .i64 11), .eq (.bool true), .eq (.bool true), .eq (.bool false), .eq (.bool true), .eq (.bool true), .eq (.bool true), .eq (.bool true), .eq (.bool true), .eq (.bool true)] (by kernel_rfl) (by kernel_rfl) (by rw [sz]; kernel_rfl) (by kernel_rfl) ⟨fun hw ac u K => ?_, fun hw ac u K => ?_, fun hw ac u K => ?_, fun hw ac u K => ?_, fun hw ac u K => ?_, fun hw ac u K => ?_, fun hw ac u K => ?_, fun hw ac u K => ?_, fun hw ac u K => ?_, fun hw ac u K => ?_, trivial⟩ ?_
  · exact st_move (.tmp 7) rfl ((K.old 7 rfl).trans x7)
  · exact st_eqi 40 (.tmp 48) (.const (.int .i64 11)) rfl .i64 (11) (11) (K.dep 0 48 rfl) rfl _ (by rfl)
  · exact st_move (.tmp 49) rfl (K.dep 1 49 rfl)
  · exact st_move (.tmp 6) rfl ((K.old 6 rfl).trans x6)
  · exact st_not (.tmp 51) rfl false (K.dep 3 51 rfl)
  · exact st_pick_t (.tmp 50) (.tmp 52) (.const (.bool false)) rfl (K.dep 2 50 rfl) (K.dep 4 52 rfl)
  · exact st_move (.tmp 53) rfl (K.dep 5 53 rfl)
  · exact st_call 8 (.func 8) _ _ #[] rfl rfl rfl Tryd.enter8 (fk_of (awake_any _ (hK.below (bl.trans (Below.mono K.grow bl.size)))))
  · exact st_pick_t (.tmp 54) (.tmp 55) (.const (.bool false)) rfl (K.dep 6 54 rfl) (K.dep 7 55 rfl)
  · exact st_assign (.tmp 56) rfl (K.dep 8 56 rfl)
  intro f14 w14 A hb
  replace bl0 := bl
  replace x0 := (A.old 0 rfl).trans x0
  replace x3 := (A.old 3 rfl).trans x3
  clear x4
  replace x22 := (A.old 22 rfl).trans x22
  replace x5 := (A.old 5 rfl).trans x5
  replace x6 := (A.old 6 rfl).trans x6
  replace x7 := (A.old 7 rfl).trans x7
  replace x47 := (A.old 47 rfl).trans x47
  have x4 : f14.eval (.tmp 4) = .bool true := A.has 9 4 rfl
  have lt_m5 := Ob.lt m5
  replace m5 := Ob.below m5 hb
  replace bl := (bl.trans (Below.mono hb bl.size))
  replace sz := A.size.trans sz
  replace df := A.defs.trans df
  clear A hb
  show Code.wp _ _ _ _ _
  refine wp_ret ?_
  repeat (first | with_reducible refine then_ret ?_ | with_reducible refine block_ret ?_)
  exact bodyPost_ret (v := .bool true) (ret_slot rfl f14 _ x4 _ _) df ⟨rfl, (blw.trans (Below.mono bl blw.size))⟩
set_option maxHeartbeats 1000000 in
theorem lin_main {ps : List Pt} {lb : List (BitVec 8)} {P : List (List (BitVec 8))} {aA aL aP : Option Addr} {dA nL dL dP : Nat} (hla : ps.length ≤ 140737488351232) (w : World) (hK : Tab w) (ha : (Fk.mc ps).f (.slice aA ps.length dA) w) (hl : (Fk.sl lb).f (.slice aL nL dL) w) (hp : (Fk.hc P).f (.slice aP P.length dP) w) (hs : smallP ps) (hlb : lb.length ≤ 300) (hPl : P.length ≤ 50) {i : Nat} {p : Pt} (hpk : ps[i]? = some p) :
    Calls Tryd.prog 5 #[.slice aA ps.length dA, .agg ([.int .i64 ((i : Nat) : Int), .int .i64 ((ps.length : Nat) : Int), .slice aL nL dL, .slice aP P.length dP] : List Value).toArray] w fun e w' => e = .returned (.bool true) ∧ Below w.heap.size w w' := by
  have ham := ha.1
  have hps := hc_hs hp
  have hi : i < ps.length := (List.getElem?_eq_some_iff.1 hpk).1
  have h40 := hs.2
  have hx := fun p hp => Nat.le_trans (hs.1 p hp) (show 200 ≤ 140737488351232 by omega)
  have hslp : (Fk.sl p.bs).f (.slice p.sp p.m p.c) w := ⟨_, _, _, _, _, rfl, mg_ok ham hpk⟩
  obtain ⟨lv, elv⟩ : ∃ x, Box (lf lb = x) := ⟨_, ⟨rfl⟩⟩
  obtain ⟨rv, erv⟩ : ∃ x, Box (mroot (lhs ps) = x) := ⟨_, ⟨rfl⟩⟩
  have hlv : lv.length = 32 := by rw [← elv.out]; exact lf_len _
  have hrv : rv.length = 32 := by rw [← erv.out]; exact mroot_len (lhs_32 ps)
  go_enter Tryd.func5, Tryd.ntmps5
  refine code_both (fun f w1 => f.tmps.size = 105 ∧ f.defers = [] ∧ f.eval (.tmp 0) = .slice aA ps.length dA ∧ f.eval (.tmp 1) = .agg ([.int .i64 ((i : Nat) : Int), .int .i64 ((ps.length : Nat) : Int), .slice aL nL dL, .slice aP P.length dP] : List Value).toArray ∧ Below w.heap.size w (w1)) ⟨rfl, rfl, rfl, rfl, Below.refl _ _⟩ ?_
  rintro f0 w0 ⟨sz, df, x0, x1, bl⟩
  have bl0 := bl
  refine wp_seq ?_
  refine wp_all_seq [.nw w0.heap.size 39 ([.int .i64 ((i : Nat) : Int), .int .i64 ((ps.length : Nat) : Int), .slice aL nL dL, .slice aP P.length dP] : List Value), .eq (.bool false)] (by kernel_rfl) (by kernel_rfl) (by rw [sz]; kernel_rfl) (by kernel_rfl) ⟨fun hw ac u K => ?_, fun hw ac u K => ?_, trivial⟩ ?_
  · exact st_box 39 (.tmp 1) rfl _ _ (by rw [show _ = _ from ((K.old 1 rfl).trans x1)]; kernel_rfl) K.grow.size
  · exact st_assign (.const (.bool false)) rfl rfl
  intro f1 w1 A hb
  replace bl0 := bl
  replace x0 := (A.old 0 rfl).trans x0
  replace x1 := (A.old 1 rfl).trans x1
  have x3 : Fk.f (.nw w0.heap.size 39 ([.int .i64 ((i : Nat) : Int), .int .i64 ((ps.length : Nat) : Int), .slice aL nL dL, .slice aP P.length dP] : List Value)) (f1.eval (.tmp 3)) w1 := A.has 0 3 rfl
  have x4 : f1.eval (.tmp 4) = .bool false := A.has 1 4 rfl
  replace bl := (bl.trans (Below.mono hb bl.size))
  replace sz := A.size.trans sz
  replace df := A.defs.trans df
  clear A hb
  clear x1
  obtain ⟨g3, hg3, e3, m3⟩ := x3
  have x3 := e3
  clear e3
  have hw3 : w.heap.size ≤ g3 := Nat.le_trans bl0.size hg3
  show Code.wp _ _ _ _ _
  refine wp_seq ?_
  refine wp_seq ?_
  refine wp_all_seq [.eq (.slice aA ps.length dA), .eq (.bool true), .eq (.bool false), .eq (.bool false), .eq (.pointer (some ⟨g3, 2, none⟩)), .eq (.slice aL nL dL), .eq (.int .i64 (((lb).length : Nat) : Int)), .eq (.bool false), .eq (.bool false), .eq (.bool false), .eq (.pointer (some ⟨g3, 3, none⟩)), .eq (.slice aP P.length dP), .eq (.int .i64 (((P).length : Nat) : Int)), .eq (.bool false), .eq (.bool false)] (by kernel_rfl) (by kernel_rfl) (by rw [sz]; kernel_rfl) (by kernel_rfl) ⟨fun hw ac u K => ?_, fun hw ac u K => ?_, fun hw ac u K => ?_, fun hw ac u K => ?_, fun hw ac u K => ?_, fun hw ac u K => ?_, fun hw ac u K => ?_, fun hw ac u K => ?_, fun hw ac u K => ?_, fun hw ac u K => ?_, fun hw ac u K => ?_, fun hw ac u K => ?_, fun hw ac u K => ?_, fun hw ac u K => ?_, fun hw ac u K => ?_, trivial⟩ ?_
  · exact st_move (.tmp 0) rfl ((K.old 0 rfl).trans x0)
  · exact st_call 11 (.func 11) _ _ #[.slice aA ps.length dA] rfl rfl (one_arg (K.dep 0 8 rfl)) Tryd.enter11 (fk_small hla (Fk.mono _ _ _ _ ham (bl.trans (Below.mono K.grow bl.size))) (by symm; rw [decide_eq_true_iff]; exact hs))
  · exact st_not (.tmp 9) rfl true (K.dep 1 9 rfl)
  · exact st_move (.tmp 10) rfl (K.dep 2 10 rfl)
  · exact st_field 39 2 (.tmp 3) rfl ((K.old 3 rfl).trans x3) (by kernel_rfl)
  · exact st_loadc 22 (.tmp 12) rfl (by kernel_rfl) (K.dep 4 12 rfl) (Ob.cell (Ob.below m3 K.grow) 2 rfl)
  · exact st_lenb (.tmp 13) rfl (fk_val (K.dep 5 13 rfl) (Fk.mono _ _ _ _ hl (bl.trans (Below.mono K.grow bl.size))))
  · exact st_gtr 3 (.tmp 14) (.const (.int .i64 300)) rfl .i64 ((((lb).length : Nat) : Int)) (300) (K.dep 6 14 rfl) rfl _ (by rw [eq_comm, decide_eq_false_iff_not]; omega)
  · exact st_pick_f' (.tmp 11) (.const (.bool true)) (.tmp 15) rfl (K.dep 3 11 rfl) (K.dep 7 15 rfl)
  · exact st_move (.tmp 16) rfl (K.dep 8 16 rfl)
  · exact st_field 39 3 (.tmp 3) rfl ((K.old 3 rfl).trans x3) (by kernel_rfl)
  · exact st_loadc 35 (.tmp 18) rfl (by kernel_rfl) (K.dep 10 18 rfl) (Ob.cell (Ob.below m3 K.grow) 3 rfl)
  · exact st_lenh (.tmp 19) rfl (fk_val (K.dep 11 19 rfl) (Fk.mono _ _ _ _ hps (bl.trans (Below.mono K.grow bl.size))))
  · exact st_gtr 3 (.tmp 20) (.const (.int .i64 50)) rfl .i64 ((((P).length : Nat) : Int)) (50) (K.dep 12 20 rfl) rfl _ (by rw [eq_comm, decide_eq_false_iff_not]; omega)
  · exact st_pick_f' (.tmp 17) (.const (.bool true)) (.tmp 21) rfl (K.dep 9 17 rfl) (K.dep 13 21 rfl)
  intro f2 w2 A hb
  replace bl0 := bl
  replace x0 := (A.old 0 rfl).trans x0
  replace x3 := (A.old 3 rfl).trans x3
  replace x4 := (A.old 4 rfl).trans x4
  have x22 : f2.eval (.tmp 22) = .bool false := A.has 14 22 rfl
  have lt_m3 := Ob.lt m3
  replace m3 := Ob.below m3 hb
  replace bl := (bl.trans (Below.mono hb bl.size))
  replace sz := A.size.trans sz
  replace df := A.defs.trans df
  clear A hb
  show Code.wp _ _ _ _ _
  refine wp_cond_false x22 ?_
  refine wp_skip ?_
  show Code.wp _ _ _ _ _
  refine wp_seq ?_
  by_cases hr : P.length = (sds i ps.length).length ∧ ldt lv P (sds i ps.length) = rv
  rotate_left
  · skip
    refine wp_region_seq [.eq (.slice aA ps.length dA), .eq (.agg ([.int .i64 ((i : Nat) : Int), .int .i64 ((ps.length : Nat) : Int), .slice aL nL dL, .slice aP P.length dP] : List Value).toArray)] (by kernel_rfl) (by kernel_rfl) (by rw [sz]; kernel_rfl) (by kernel_rfl) ⟨fun hw ac u K => ?_, fun hw ac u K => ?_, trivial⟩ ?_
    · exact st_move (.tmp 0) rfl ((K.old 0 rfl).trans x0)
    · exact st_loadz 39 (.tmp 3) rfl (g3) 0 [.int .i64 ((i : Nat) : Int), .int .i64 ((ps.length : Nat) : Int), .slice aL nL dL, .slice aP P.length dP] (by kernel_rfl) (by kernel_rfl) ((K.old 3 rfl).trans x3) (Ob.range (Ob.below m3 K.grow) 0 _ (fun j v hj => by simpa using hj))
    intro f3 w3 A hb
    replace bl0 := bl
    replace x0 := (A.old 0 rfl).trans x0
    replace x3 := (A.old 3 rfl).trans x3
    replace x4 := (A.old 4 rfl).trans x4
    replace x22 := (A.old 22 rfl).trans x22
    have x25 : f3.eval (.tmp 25) = .slice aA ps.length dA := A.has 0 25 rfl
    have x26 : f3.eval (.tmp 26) = .agg ([.int .i64 ((i : Nat) : Int), .int .i64 ((ps.length : Nat) : Int), .slice aL nL dL, .slice aP P.length dP] : List Value).toArray := A.has 1 26 rfl
    have lt_m3 := Ob.lt m3
    replace m3 := Ob.below m3 hb
    replace bl := (bl.trans (Below.mono hb bl.size))
    replace sz := A.size.trans sz
    replace df := A.defs.trans df
    clear A hb
    refine wl_call 16 (.func 16) _ _ #[.slice aA ps.length dA, .agg ([.int .i64 ((i : Nat) : Int), .int .i64 ((ps.length : Nat) : Int), .slice aL nL dL, .slice aP P.length dP] : List Value).toArray] rfl 27 rfl (by rw [sz]; decide) rfl rfl (arg2 x25 x26) Tryd.enter16 (fun u W => (Fk.c3 false 22).f u W ∧ Below w3.heap.size w3 W) (fk_cin_bad hs hlb hPl (Fk.mono _ _ _ _ ha bl) (Fk.mono _ _ _ _ hl bl) (Fk.mono _ _ _ _ hp bl) (hK.below bl) hi (by rw [elv.out, erv.out]; exact hr)) ?_
    rintro f4 w4 df2 sz2 old2 ⟨⟨A, B, u1, u2, new2, hA, hB, hlA, hlB, hr1⟩, hb⟩
    obtain ⟨pA, mA, cA, _, _, rfl, _⟩ := id hA
    obtain ⟨pB, mB, cB, _, _, rfl, _⟩ := id hB
    replace bl0 := bl
    replace x0 := (old2 0 rfl).trans x0
    replace x3 := (old2 3 rfl).trans x3
    replace x4 := (old2 4 rfl).trans x4
    replace x22 := (old2 22 rfl).trans x22
    replace x25 := (old2 25 rfl).trans x25
    replace x26 := (old2 26 rfl).trans x26
    have x27 : f4.eval (.tmp 27) = .tuple #[.agg ([.slice pA mA cA, .slice pB mB cB] : List Value).toArray, .bool false, .int .i64 22] := new2
    have lt_m3 := Ob.lt m3
    replace m3 := Ob.below m3 hb
    replace bl := (bl.trans (Below.mono hb bl.size))
    replace sz := sz2.trans sz
    replace df := df2.trans df
    clear df2 sz2 old2 new2 hb
    have blw := bl
    replace ha := Fk.mono _ _ _ _ ha bl
    replace ham := Fk.mono _ _ _ _ ham bl
    replace hl := Fk.mono _ _ _ _ hl bl
    replace hp := Fk.mono _ _ _ _ hp bl
    replace hps := Fk.mono _ _ _ _ hps bl
    replace hslp := Fk.mono _ _ _ _ hslp bl
    replace hK := hK.below bl
    replace bl := Below.refl w4.heap.size w4
    replace bl0 := bl
    clear x25
    clear x26
    refine wl_one (.eq (.tuple #[.agg ([.slice pA mA cA, .slice pB mB cB] : List Value).toArray, .bool false, .int .i64 22])) rfl 24 rfl (by rw [sz]; decide) (st_move (.tmp 27) rfl x27) ?_
    intro f5 w5 df2 sz2 old2 new2 hb
    replace bl0 := bl
    replace x0 := (old2 0 rfl).trans x0
    replace x3 := (old2 3 rfl).trans x3
    replace x4 := (old2 4 rfl).trans x4
    replace x22 := (old2 22 rfl).trans x22
    replace x27 := (old2 27 rfl).trans x27
    have x24 : f5.eval (.tmp 24) = .tuple #[.agg ([.slice pA mA cA, .slice pB mB cB] : List Value).toArray, .bool false, .int .i64 22] := new2
    replace bl := (bl.trans (Below.mono hb bl.size))
    replace sz := sz2.trans sz
    replace df := df2.trans df
    clear df2 sz2 old2 new2 hb
    clear x27
    refine wl_one (.eq (.agg ([.slice pA mA cA, .slice pB mB cB] : List Value).toArray)) rfl 28 rfl (by rw [sz]; decide) (st_tup (.tmp 24) rfl x24 (by rfl)) ?_
    intro f6 w6 df2 sz2 old2 new2 hb
    replace bl0 := bl
    replace x0 := (old2 0 rfl).trans x0
    replace x3 := (old2 3 rfl).trans x3
    replace x4 := (old2 4 rfl).trans x4
    replace x22 := (old2 22 rfl).trans x22
    replace x24 := (old2 24 rfl).trans x24
    have x28 : f6.eval (.tmp 28) = .agg ([.slice pA mA cA, .slice pB mB cB] : List Value).toArray := new2
    replace bl := (bl.trans (Below.mono hb bl.size))
    replace sz := sz2.trans sz
    replace df := df2.trans df
    clear df2 sz2 old2 new2 hb
    refine wl_one (.eq (.bool false)) rfl 29 rfl (by rw [sz]; decide) (st_tup (.tmp 24) rfl x24 (by rfl)) ?_
    intro f7 w7 df2 sz2 old2 new2 hb
    replace bl0 := bl
    replace x0 := (old2 0 rfl).trans x0
    replace x3 := (old2 3 rfl).trans x3
    replace x4 := (old2 4 rfl).trans x4
    replace x22 := (old2 22 rfl).trans x22
    replace x24 := (old2 24 rfl).trans x24
    replace x28 := (old2 28 rfl).trans x28
    have x29 : f7.eval (.tmp 29) = .bool false := new2
    replace bl := (bl.trans (Below.mono hb bl.size))
    replace sz := sz2.trans sz
    replace df := df2.trans df
    clear df2 sz2 old2 new2 hb
    refine wl_one (.eq (.int .i64 22)) rfl 30 rfl (by rw [sz]; decide) (st_tup (.tmp 24) rfl x24 (by rfl)) ?_
    intro f8 w8 df2 sz2 old2 new2 hb
    replace bl0 := bl
    replace x0 := (old2 0 rfl).trans x0
    replace x3 := (old2 3 rfl).trans x3
    replace x4 := (old2 4 rfl).trans x4
    replace x22 := (old2 22 rfl).trans x22
    replace x24 := (old2 24 rfl).trans x24
    replace x28 := (old2 28 rfl).trans x28
    replace x29 := (old2 29 rfl).trans x29
    have x30 : f8.eval (.tmp 30) = .int .i64 22 := new2
    replace bl := (bl.trans (Below.mono hb bl.size))
    replace sz := sz2.trans sz
    replace df := df2.trans df
    clear df2 sz2 old2 new2 hb
    clear x24
    refine wl_one (.nw w8.heap.size 25 [.slice none 0 0, .slice none 0 0]) rfl 5 rfl (by rw [sz]; decide) (st_alloc 25 rfl _ _ (by kernel_rfl) (Nat.le_refl _)) ?_
    intro f9 w9 df2 sz2 old2 new2 hb
    replace bl0 := bl
    replace x0 := (old2 0 rfl).trans x0
    replace x3 := (old2 3 rfl).trans x3
    replace x4 := (old2 4 rfl).trans x4
    replace x22 := (old2 22 rfl).trans x22
    replace x28 := (old2 28 rfl).trans x28
    replace x29 := (old2 29 rfl).trans x29
    replace x30 := (old2 30 rfl).trans x30
    have x5 : Fk.f (.nw w8.heap.size 25 [.slice none 0 0, .slice none 0 0]) (f9.eval (.tmp 5)) w9 := new2
    replace bl := (bl.trans (Below.mono hb bl.size))
    replace sz := sz2.trans sz
    replace df := df2.trans df
    clear df2 sz2 old2 new2 hb
    obtain ⟨g5, hg5, e5, m5⟩ := x5
    have x5 := e5
    clear e5
    have nm3_5 : g3 ≠ g5 := Nat.ne_of_lt (Nat.lt_of_lt_of_le (Ob.lt m3) (Nat.le_trans bl0.size hg5))
    have hw5 : w4.heap.size ≤ g5 := Nat.le_trans bl0.size hg5
    refine wl_str rfl 25 (.tmp 5) (.tmp 28) rfl rfl (g5) ([.slice pA mA cA, .slice pB mB cB] : List Value).toArray x5 x28 25 _ m5 (by kernel_rfl) (by kernel_rfl) (by kernel_rfl) ?_
    replace m5 : Ob (w9.setRow g5 ([.slice pA mA cA, .slice pB mB cB] : List Value).toArray) (g5) 25 ([.slice pA mA cA, .slice pB mB cB]) := Ob.setRow m5 ([.slice pA mA cA, .slice pB mB cB])
    replace bl : Below w4.heap.size w4 (w9.setRow g5 ([.slice pA mA cA, .slice pB mB cB] : List Value).toArray) := bl.trans (below_setRow _ _ _ _ hw5)
    generalize w9.setRow g5 ([.slice pA mA cA, .slice pB mB cB] : List Value).toArray = w10b at bl m5 ⊢
    clear x28
    refine wl_one (.eq (.bool false)) rfl 6 rfl (by rw [sz]; decide) (st_assign (.tmp 29) rfl x29) ?_
    intro f11 w11 df2 sz2 old2 new2 hb
    replace bl0 := bl
    replace x0 := (old2 0 rfl).trans x0
    replace x3 := (old2 3 rfl).trans x3
    replace x4 := (old2 4 rfl).trans x4
    replace x22 := (old2 22 rfl).trans x22
    replace x29 := (old2 29 rfl).trans x29
    replace x30 := (old2 30 rfl).trans x30
    replace x5 := (old2 5 rfl).trans x5
    have x6 : f11.eval (.tmp 6) = .bool false := new2
    have lt_m5 := Ob.lt m5
    replace m5 := Ob.below m5 hb
    replace bl := (bl.trans (Below.mono hb bl.size))
    replace sz := sz2.trans sz
    replace df := df2.trans df
    clear df2 sz2 old2 new2 hb
    clear x29
    refine wl_one (.eq (.int .i64 22)) rfl 7 rfl (by rw [sz]; decide) (st_assign (.tmp 30) rfl x30) ?_
    intro f12 w12 df2 sz2 old2 new2 hb
    replace bl0 := bl
    replace x0 := (old2 0 rfl).trans x0
    replace x3 := (old2 3 rfl).trans x3
    replace x4 := (old2 4 rfl).trans x4
    replace x22 := (old2 22 rfl).trans x22
    replace x30 := (old2 30 rfl).trans x30
    replace x5 := (old2 5 rfl).trans x5
    replace x6 := (old2 6 rfl).trans x6
    have x7 : f12.eval (.tmp 7) = .int .i64 22 := new2
    have lt_m5 := Ob.lt m5
    replace m5 := Ob.below m5 hb
    replace bl := (bl.trans (Below.mono hb bl.size))
    replace sz := sz2.trans sz
    replace df := df2.trans df
    clear df2 sz2 old2 new2 hb
    refine wpList_nil ?_
    clear x30
    show Code.wp _ _ _ _ _
    refine wp_seq ?_
    refine wp_seq ?_
    refine wp_all_seq [.eq (.pointer (some ⟨g3, 1, none⟩)), .eq (.int .i64 ((ps.length : Nat) : Int)), .eq (.slice aA ps.length dA), .eq (.int .i64 (((ps).length : Nat) : Int)), .eq (.bool false), .eq (.bool false), .eq (.pointer (some ⟨g3, 0, none⟩)), .eq (.int .i64 ((i : Nat) : Int)), .eq (.bool false), .eq (.bool false), .eq (.bool false), .eq (.pointer (some ⟨g3, 0, none⟩)), .eq (.int .i64 ((i : Nat) : Int)), .eq (.slice aA ps.length dA), .eq (.int .i64 (((ps).length : Nat) : Int)), .eq (.bool false), .eq (.bool false)] (by kernel_rfl) (by kernel_rfl) (by rw [sz]; kernel_rfl) (by kernel_rfl) ⟨fun hw ac u K => ?_, fun hw ac u K => ?_, fun hw ac u K => ?_, fun hw ac u K => ?_, fun hw ac u K => ?_, fun hw ac u K => ?_, fun hw ac u K => ?_, fun hw ac u K => ?_, fun hw ac u K => ?_, fun hw ac u K => ?_, fun hw ac u K => ?_, fun hw ac u K => ?_, fun hw ac u K => ?_, fun hw ac u K => ?_, fun hw ac u K => ?_, fun hw ac u K => ?_, fun hw ac u K => ?_, trivial⟩ ?_
    · exact st_field 39 1 (.tmp 3) rfl ((K.old 3 rfl).trans x3) (by kernel_rfl)
    · exact st_loadc 3 (.tmp 31) rfl (by kernel_rfl) (K.dep 0 31 rfl) (Ob.cell (Ob.below m3 (bl.trans (Below.mono K.grow bl.size))) 1 rfl)
    · exact st_move (.tmp 0) rfl ((K.old 0 rfl).trans x0)
    · exact st_lenm (.tmp 33) rfl (fk_val (K.dep 2 33 rfl) (Fk.mono _ _ _ _ ham (bl.trans (Below.mono K.grow bl.size))))
    · exact st_neqi 3 (.tmp 32) (.tmp 34) rfl .i64 (((ps.length : Nat) : Int)) ((((ps).length : Nat) : Int)) (K.dep 1 32 rfl) (K.dep 3 34 rfl) _ (by simp)
    · exact st_move (.tmp 35) rfl (K.dep 4 35 rfl)
    · exact st_field 39 0 (.tmp 3) rfl ((K.old 3 rfl).trans x3) (by kernel_rfl)
    · exact st_loadc 3 (.tmp 37) rfl (by kernel_rfl) (K.dep 6 37 rfl) (Ob.cell (Ob.below m3 (bl.trans (Below.mono K.grow bl.size))) 0 rfl)
    · exact st_lss 3 (.tmp 38) (.const (.int .i64 0)) rfl .i64 (((i : Nat) : Int)) (0) (K.dep 7 38 rfl) rfl _ (by symm; rw [decide_eq_false_iff_not]; exact (by omega))
    · exact st_pick_f' (.tmp 36) (.const (.bool true)) (.tmp 39) rfl (K.dep 5 36 rfl) (K.dep 8 39 rfl)
    · exact st_move (.tmp 40) rfl (K.dep 9 40 rfl)
    · exact st_field 39 0 (.tmp 3) rfl ((K.old 3 rfl).trans x3) (by kernel_rfl)
    · exact st_loadc 3 (.tmp 42) rfl (by kernel_rfl) (K.dep 11 42 rfl) (Ob.cell (Ob.below m3 (bl.trans (Below.mono K.grow bl.size))) 0 rfl)
    · exact st_move (.tmp 0) rfl ((K.old 0 rfl).trans x0)
    · exact st_lenm (.tmp 44) rfl (fk_val (K.dep 13 44 rfl) (Fk.mono _ _ _ _ ham (bl.trans (Below.mono K.grow bl.size))))
    · exact st_geq 3 (.tmp 43) (.tmp 45) rfl .i64 (((i : Nat) : Int)) ((((ps).length : Nat) : Int)) (K.dep 12 43 rfl) (K.dep 14 45 rfl) _ (by symm; rw [decide_eq_false_iff_not]; exact (by omega))
    · exact st_pick_f' (.tmp 41) (.const (.bool true)) (.tmp 46) rfl (K.dep 10 41 rfl) (K.dep 15 46 rfl)
    intro f13 w13 A hb
    replace bl0 := bl
    replace x0 := (A.old 0 rfl).trans x0
    replace x3 := (A.old 3 rfl).trans x3
    replace x4 := (A.old 4 rfl).trans x4
    replace x22 := (A.old 22 rfl).trans x22
    replace x5 := (A.old 5 rfl).trans x5
    replace x6 := (A.old 6 rfl).trans x6
    replace x7 := (A.old 7 rfl).trans x7
    have x47 : f13.eval (.tmp 47) = .bool false := A.has 16 47 rfl
    have lt_m5 := Ob.lt m5
    replace m5 := Ob.below m5 hb
    replace bl := (bl.trans (Below.mono hb bl.size))
    replace sz := A.size.trans sz
    replace df := A.defs.trans df
    clear A hb
    show Code.wp _ _ _ _ _
    refine wp_cond_false x47 ?_
    refine wp_skip ?_
    show Code.wp _ _ _ _ _
    refine wp_seq ?_
    refine wp_seq ?_
    refine wp_all [.eq (.pointer (some ⟨g3, 2, none⟩)), .eq (.slice aL nL dL), .eq (.agg ((lv).map V).toArray), .eq (.pointer (some ⟨g3, 0, none⟩)), .eq (.int .i64 ((i : Nat) : Int)), .eq (.pointer (some ⟨g3, 1, none⟩)), .eq (.int .i64 ((ps.length : Nat) : Int)), .eq (.pointer (some ⟨g3, 3, none⟩)), .eq (.slice aP P.length dP), .eq (.slice aA ps.length dA), .ow w4.heap.size (lhs ps), .eq (.agg ((rv).map V).toArray), .eq (.int .i64 22), .eq (.bool true)] Tryd.mixed (by kernel_rfl) (by kernel_rfl) (by rw [sz]; kernel_rfl) (by kernel_rfl) ⟨fun hw ac u K => ?_, fun hw ac u K => ?_, fun hw ac u K => ?_, fun hw ac u K => ?_, fun hw ac u K => ?_, fun hw ac u K => ?_, fun hw ac u K => ?_, fun hw ac u K => ?_, fun hw ac u K => ?_, fun hw ac u K => ?_, fun hw ac u K => ?_, fun hw ac u K => ?_, fun hw ac u K => ?_, fun hw ac u K => ?_, trivial⟩ ?_
    · exact st_field 39 2 (.tmp 3) rfl ((K.old 3 rfl).trans x3) (by kernel_rfl)
    · exact st_loadc 22 (.tmp 57) rfl (by kernel_rfl) (K.dep 0 57 rfl) (Ob.cell (Ob.below m3 (bl.trans (Below.mono K.grow bl.size))) 2 rfl)
    · exact st_call 18 (.func 18) _ _ #[.slice aL nL dL] rfl rfl (one_arg (K.dep 1 58 rfl)) Tryd.enter18 (fk_leaf (by omega) (hK.below (bl.trans (Below.mono K.grow bl.size))) (Fk.mono _ _ _ _ hl (bl.trans (Below.mono K.grow bl.size))) elv)
    · exact st_field 39 0 (.tmp 3) rfl ((K.old 3 rfl).trans x3) (by kernel_rfl)
    · exact st_loadc 3 (.tmp 60) rfl (by kernel_rfl) (K.dep 3 60 rfl) (Ob.cell (Ob.below m3 (bl.trans (Below.mono K.grow bl.size))) 0 rfl)
    · exact st_field 39 1 (.tmp 3) rfl ((K.old 3 rfl).trans x3) (by kernel_rfl)
    · exact st_loadc 3 (.tmp 62) rfl (by kernel_rfl) (K.dep 5 62 rfl) (Ob.cell (Ob.below m3 (bl.trans (Below.mono K.grow bl.size))) 1 rfl)
    · exact st_field 39 3 (.tmp 3) rfl ((K.old 3 rfl).trans x3) (by kernel_rfl)
    · exact st_loadc 35 (.tmp 64) rfl (by kernel_rfl) (K.dep 7 64 rfl) (Ob.cell (Ob.below m3 (bl.trans (Below.mono K.grow bl.size))) 3 rfl)
    · exact st_move (.tmp 0) rfl ((K.old 0 rfl).trans x0)
    · exact st_call 14 (.func 14) _ _ #[.slice aA ps.length dA] rfl rfl (one_arg (K.dep 9 66 rfl)) Tryd.enter14 (fk_ow (bl.trans (Below.mono K.grow bl.size)).size (fk_hashes (by omega) hx (Fk.mono _ _ _ _ ham (bl.trans (Below.mono K.grow bl.size))) (hK.below (bl.trans (Below.mono K.grow bl.size)))))
    · exact st_call 19 (.func 19) _ _ #[ac.eval (.tmp 67)] rfl rfl (one_arg rfl) Tryd.enter19 (fk_of (root_any (lhs ps) _ _ (by rw [lhs_len]; omega) (ow_hc (K.dep 10 67 rfl)) (hK.below (bl.trans (Below.mono K.grow bl.size))) erv))
    · exact st_call 17 (.func 17) _ _ #[.agg ((lv).map V).toArray, .int .i64 ((i : Nat) : Int), .int .i64 ((ps.length : Nat) : Int), .slice aP P.length dP, .agg ((rv).map V).toArray] rfl rfl (arg5 (K.dep 2 59 rfl) (K.dep 4 61 rfl) (K.dep 6 63 rfl) (K.dep 8 65 rfl) (K.dep 11 68 rfl)) Tryd.enter17 (fk_in_any hlv hrv hi (by omega) (Fk.mono _ _ _ _ hp (bl.trans (Below.mono K.grow bl.size))) (by omega) (hK.below (bl.trans (Below.mono K.grow bl.size))) _ (by rw [if_neg hr]))
    · exact st_neqi 40 (.tmp 69) (.const (.int .i64 0)) rfl .i64 (22) (0) (K.dep 12 69 rfl) rfl _ (by rfl)
    intro f14 w14 A hb
    replace bl0 := bl
    replace x0 := (A.old 0 rfl).trans x0
    replace x3 := (A.old 3 rfl).trans x3
    replace x4 := (A.old 4 rfl).trans x4
    replace x22 := (A.old 22 rfl).trans x22
    replace x5 := (A.old 5 rfl).trans x5
    replace x6 := (A.old 6 rfl).trans x6
    replace x7 := (A.old 7 rfl).trans x7
    replace x47 := (A.old 47 rfl).trans x47
    have x70 : f14.eval (.tmp 70) = .bool true := A.has 13 70 rfl
    have lt_m5 := Ob.lt m5
    replace m5 := Ob.below m5 hb
    replace bl := (bl.trans (Below.mono hb bl.size))
    replace sz := A.size.trans sz
    replace df := A.defs.trans df
    clear A hb
    show Code.wp _ _ _ _ _
    refine wp_cond_true x70 ?_
    refine wp_seq ?_
    refine wp_all_seq [.eq (.int .i64 22), .eq (.bool true), .eq (.bool true), .eq (.bool false), .eq (.bool true), .eq (.bool true), .eq (.bool true), .eq (.bool true), .eq (.bool true), .eq (.bool true)] (by kernel_rfl) (by kernel_rfl) (by rw [sz]; kernel_rfl) (by kernel_rfl) ⟨fun hw ac u K => ?_, fun hw ac u K => ?_, fun hw ac u K => ?_, fun hw ac u K => ?_, fun hw ac u K => ?_, fun hw ac u K => ?_, fun hw ac u K => ?_, fun hw ac u K => ?_, fun hw ac u K => ?_, fun hw ac u K => ?_, trivial⟩ ?_
    · exact st_move (.tmp 7) rfl ((K.old 7 rfl).trans x7)
    · exact st_eqi 40 (.tmp 71) (.const (.int .i64 22)) rfl .i64 (22) (22) (K.dep 0 71 rfl) rfl _ (by rfl)
    · exact st_move (.tmp 72) rfl (K.dep 1 72 rfl)
    · exact st_move (.tmp 6) rfl ((K.old 6 rfl).trans x6)
    · exact st_not (.tmp 74) rfl false (K.dep 3 74 rfl)
    · exact st_pick_t (.tmp 73) (.tmp 75) (.const (.bool false)) rfl (K.dep 2 73 rfl) (K.dep 4 75 rfl)
    · exact st_move (.tmp 76) rfl (K.dep 5 76 rfl)
    · exact st_call 8 (.func 8) _ _ #[] rfl rfl rfl Tryd.enter8 (fk_of (awake_any _ (hK.below (bl.trans (Below.mono K.grow bl.size)))))
    · exact st_pick_t (.tmp 77) (.tmp 78) (.const (.bool false)) rfl (K.dep 6 77 rfl) (K.dep 7 78 rfl)
    · exact st_assign (.tmp 79) rfl (K.dep 8 79 rfl)
    intro f15 w15 A hb
    replace bl0 := bl
    replace x0 := (A.old 0 rfl).trans x0
    replace x3 := (A.old 3 rfl).trans x3
    clear x4
    replace x22 := (A.old 22 rfl).trans x22
    replace x5 := (A.old 5 rfl).trans x5
    replace x6 := (A.old 6 rfl).trans x6
    replace x7 := (A.old 7 rfl).trans x7
    replace x47 := (A.old 47 rfl).trans x47
    replace x70 := (A.old 70 rfl).trans x70
    have x4 : f15.eval (.tmp 4) = .bool true := A.has 9 4 rfl
    have lt_m5 := Ob.lt m5
    replace m5 := Ob.below m5 hb
    replace bl := (bl.trans (Below.mono hb bl.size))
    replace sz := A.size.trans sz
    replace df := A.defs.trans df
    clear A hb
    show Code.wp _ _ _ _ _
    refine wp_ret ?_
    repeat (first | with_reducible refine then_ret ?_ | with_reducible refine block_ret ?_)
    exact bodyPost_ret (v := .bool true) (ret_slot rfl f15 _ x4 _ _) df ⟨rfl, (blw.trans (Below.mono bl blw.size))⟩
  by_cases hq : lb = p.bs
  rotate_left
  · skip
    refine wp_region_seq [.eq (.slice aA ps.length dA), .eq (.agg ([.int .i64 ((i : Nat) : Int), .int .i64 ((ps.length : Nat) : Int), .slice aL nL dL, .slice aP P.length dP] : List Value).toArray)] (by kernel_rfl) (by kernel_rfl) (by rw [sz]; kernel_rfl) (by kernel_rfl) ⟨fun hw ac u K => ?_, fun hw ac u K => ?_, trivial⟩ ?_
    · exact st_move (.tmp 0) rfl ((K.old 0 rfl).trans x0)
    · exact st_loadz 39 (.tmp 3) rfl (g3) 0 [.int .i64 ((i : Nat) : Int), .int .i64 ((ps.length : Nat) : Int), .slice aL nL dL, .slice aP P.length dP] (by kernel_rfl) (by kernel_rfl) ((K.old 3 rfl).trans x3) (Ob.range (Ob.below m3 K.grow) 0 _ (fun j v hj => by simpa using hj))
    intro f3 w3 A hb
    replace bl0 := bl
    replace x0 := (A.old 0 rfl).trans x0
    replace x3 := (A.old 3 rfl).trans x3
    replace x4 := (A.old 4 rfl).trans x4
    replace x22 := (A.old 22 rfl).trans x22
    have x25 : f3.eval (.tmp 25) = .slice aA ps.length dA := A.has 0 25 rfl
    have x26 : f3.eval (.tmp 26) = .agg ([.int .i64 ((i : Nat) : Int), .int .i64 ((ps.length : Nat) : Int), .slice aL nL dL, .slice aP P.length dP] : List Value).toArray := A.has 1 26 rfl
    have lt_m3 := Ob.lt m3
    replace m3 := Ob.below m3 hb
    replace bl := (bl.trans (Below.mono hb bl.size))
    replace sz := A.size.trans sz
    replace df := A.defs.trans df
    clear A hb
    refine wl_call 16 (.func 16) _ _ #[.slice aA ps.length dA, .agg ([.int .i64 ((i : Nat) : Int), .int .i64 ((ps.length : Nat) : Int), .slice aL nL dL, .slice aP P.length dP] : List Value).toArray] rfl 27 rfl (by rw [sz]; decide) rfl rfl (arg2 x25 x26) Tryd.enter16 (fun u W => (Fk.c3 true 0).f u W ∧ Below w3.heap.size w3 W) (fk_cin_ok hs hlb hPl (Fk.mono _ _ _ _ ha bl) (Fk.mono _ _ _ _ hl bl) (Fk.mono _ _ _ _ hp bl) (hK.below bl) hpk hr.1 (by rw [elv.out, erv.out]; exact hr.2) (f := true) (by symm; rw [decide_eq_true_iff]; exact hq)) ?_
    rintro f4 w4 df2 sz2 old2 ⟨⟨A, B, u1, u2, new2, hA, hB, hlA, hlB, hr1⟩, hb⟩
    obtain ⟨pA, mA, cA, _, _, rfl, _⟩ := id hA
    obtain ⟨pB, mB, cB, _, _, rfl, _⟩ := id hB
    replace bl0 := bl
    replace x0 := (old2 0 rfl).trans x0
    replace x3 := (old2 3 rfl).trans x3
    replace x4 := (old2 4 rfl).trans x4
    replace x22 := (old2 22 rfl).trans x22
    replace x25 := (old2 25 rfl).trans x25
    replace x26 := (old2 26 rfl).trans x26
    have x27 : f4.eval (.tmp 27) = .tuple #[.agg ([.slice pA mA cA, .slice pB mB cB] : List Value).toArray, .bool true, .int .i64 0] := new2
    have lt_m3 := Ob.lt m3
    replace m3 := Ob.below m3 hb
    replace bl := (bl.trans (Below.mono hb bl.size))
    replace sz := sz2.trans sz
    replace df := df2.trans df
    clear df2 sz2 old2 new2 hb
    have blw := bl
    replace ha := Fk.mono _ _ _ _ ha bl
    replace ham := Fk.mono _ _ _ _ ham bl
    replace hl := Fk.mono _ _ _ _ hl bl
    replace hp := Fk.mono _ _ _ _ hp bl
    replace hps := Fk.mono _ _ _ _ hps bl
    replace hslp := Fk.mono _ _ _ _ hslp bl
    replace hK := hK.below bl
    replace bl := Below.refl w4.heap.size w4
    replace bl0 := bl
    clear x25
    clear x26
    refine wl_one (.eq (.tuple #[.agg ([.slice pA mA cA, .slice pB mB cB] : List Value).toArray, .bool true, .int .i64 0])) rfl 24 rfl (by rw [sz]; decide) (st_move (.tmp 27) rfl x27) ?_
    intro f5 w5 df2 sz2 old2 new2 hb
    replace bl0 := bl
    replace x0 := (old2 0 rfl).trans x0
    replace x3 := (old2 3 rfl).trans x3
    replace x4 := (old2 4 rfl).trans x4
    replace x22 := (old2 22 rfl).trans x22
    replace x27 := (old2 27 rfl).trans x27
    have x24 : f5.eval (.tmp 24) = .tuple #[.agg ([.slice pA mA cA, .slice pB mB cB] : List Value).toArray, .bool true, .int .i64 0] := new2
    replace bl := (bl.trans (Below.mono hb bl.size))
    replace sz := sz2.trans sz
    replace df := df2.trans df
    clear df2 sz2 old2 new2 hb
    clear x27
    refine wl_one (.eq (.agg ([.slice pA mA cA, .slice pB mB cB] : List Value).toArray)) rfl 28 rfl (by rw [sz]; decide) (st_tup (.tmp 24) rfl x24 (by rfl)) ?_
    intro f6 w6 df2 sz2 old2 new2 hb
    replace bl0 := bl
    replace x0 := (old2 0 rfl).trans x0
    replace x3 := (old2 3 rfl).trans x3
    replace x4 := (old2 4 rfl).trans x4
    replace x22 := (old2 22 rfl).trans x22
    replace x24 := (old2 24 rfl).trans x24
    have x28 : f6.eval (.tmp 28) = .agg ([.slice pA mA cA, .slice pB mB cB] : List Value).toArray := new2
    replace bl := (bl.trans (Below.mono hb bl.size))
    replace sz := sz2.trans sz
    replace df := df2.trans df
    clear df2 sz2 old2 new2 hb
    refine wl_one (.eq (.bool true)) rfl 29 rfl (by rw [sz]; decide) (st_tup (.tmp 24) rfl x24 (by rfl)) ?_
    intro f7 w7 df2 sz2 old2 new2 hb
    replace bl0 := bl
    replace x0 := (old2 0 rfl).trans x0
    replace x3 := (old2 3 rfl).trans x3
    replace x4 := (old2 4 rfl).trans x4
    replace x22 := (old2 22 rfl).trans x22
    replace x24 := (old2 24 rfl).trans x24
    replace x28 := (old2 28 rfl).trans x28
    have x29 : f7.eval (.tmp 29) = .bool true := new2
    replace bl := (bl.trans (Below.mono hb bl.size))
    replace sz := sz2.trans sz
    replace df := df2.trans df
    clear df2 sz2 old2 new2 hb
    refine wl_one (.eq (.int .i64 0)) rfl 30 rfl (by rw [sz]; decide) (st_tup (.tmp 24) rfl x24 (by rfl)) ?_
    intro f8 w8 df2 sz2 old2 new2 hb
    replace bl0 := bl
    replace x0 := (old2 0 rfl).trans x0
    replace x3 := (old2 3 rfl).trans x3
    replace x4 := (old2 4 rfl).trans x4
    replace x22 := (old2 22 rfl).trans x22
    replace x24 := (old2 24 rfl).trans x24
    replace x28 := (old2 28 rfl).trans x28
    replace x29 := (old2 29 rfl).trans x29
    have x30 : f8.eval (.tmp 30) = .int .i64 0 := new2
    replace bl := (bl.trans (Below.mono hb bl.size))
    replace sz := sz2.trans sz
    replace df := df2.trans df
    clear df2 sz2 old2 new2 hb
    clear x24
    refine wl_one (.nw w8.heap.size 25 [.slice none 0 0, .slice none 0 0]) rfl 5 rfl (by rw [sz]; decide) (st_alloc 25 rfl _ _ (by kernel_rfl) (Nat.le_refl _)) ?_
    intro f9 w9 df2 sz2 old2 new2 hb
    replace bl0 := bl
    replace x0 := (old2 0 rfl).trans x0
    replace x3 := (old2 3 rfl).trans x3
    replace x4 := (old2 4 rfl).trans x4
    replace x22 := (old2 22 rfl).trans x22
    replace x28 := (old2 28 rfl).trans x28
    replace x29 := (old2 29 rfl).trans x29
    replace x30 := (old2 30 rfl).trans x30
    have x5 : Fk.f (.nw w8.heap.size 25 [.slice none 0 0, .slice none 0 0]) (f9.eval (.tmp 5)) w9 := new2
    replace bl := (bl.trans (Below.mono hb bl.size))
    replace sz := sz2.trans sz
    replace df := df2.trans df
    clear df2 sz2 old2 new2 hb
    obtain ⟨g5, hg5, e5, m5⟩ := x5
    have x5 := e5
    clear e5
    have nm3_5 : g3 ≠ g5 := Nat.ne_of_lt (Nat.lt_of_lt_of_le (Ob.lt m3) (Nat.le_trans bl0.size hg5))
    have hw5 : w4.heap.size ≤ g5 := Nat.le_trans bl0.size hg5
    refine wl_str rfl 25 (.tmp 5) (.tmp 28) rfl rfl (g5) ([.slice pA mA cA, .slice pB mB cB] : List Value).toArray x5 x28 25 _ m5 (by kernel_rfl) (by kernel_rfl) (by kernel_rfl) ?_
    replace m5 : Ob (w9.setRow g5 ([.slice pA mA cA, .slice pB mB cB] : List Value).toArray) (g5) 25 ([.slice pA mA cA, .slice pB mB cB]) := Ob.setRow m5 ([.slice pA mA cA, .slice pB mB cB])
    replace bl : Below w4.heap.size w4 (w9.setRow g5 ([.slice pA mA cA, .slice pB mB cB] : List Value).toArray) := bl.trans (below_setRow _ _ _ _ hw5)
    generalize w9.setRow g5 ([.slice pA mA cA, .slice pB mB cB] : List Value).toArray = w10b at bl m5 ⊢
    clear x28
    refine wl_one (.eq (.bool true)) rfl 6 rfl (by rw [sz]; decide) (st_assign (.tmp 29) rfl x29) ?_
    intro f11 w11 df2 sz2 old2 new2 hb
    replace bl0 := bl
    replace x0 := (old2 0 rfl).trans x0
    replace x3 := (old2 3 rfl).trans x3
    replace x4 := (old2 4 rfl).trans x4
    replace x22 := (old2 22 rfl).trans x22
    replace x29 := (old2 29 rfl).trans x29
    replace x30 := (old2 30 rfl).trans x30
    replace x5 := (old2 5 rfl).trans x5
    have x6 : f11.eval (.tmp 6) = .bool true := new2
    have lt_m5 := Ob.lt m5
    replace m5 := Ob.below m5 hb
    replace bl := (bl.trans (Below.mono hb bl.size))
    replace sz := sz2.trans sz
    replace df := df2.trans df
    clear df2 sz2 old2 new2 hb
    clear x29
    refine wl_one (.eq (.int .i64 0)) rfl 7 rfl (by rw [sz]; decide) (st_assign (.tmp 30) rfl x30) ?_
    intro f12 w12 df2 sz2 old2 new2 hb
    replace bl0 := bl
    replace x0 := (old2 0 rfl).trans x0
    replace x3 := (old2 3 rfl).trans x3
    replace x4 := (old2 4 rfl).trans x4
    replace x22 := (old2 22 rfl).trans x22
    replace x30 := (old2 30 rfl).trans x30
    replace x5 := (old2 5 rfl).trans x5
    replace x6 := (old2 6 rfl).trans x6
    have x7 : f12.eval (.tmp 7) = .int .i64 0 := new2
    have lt_m5 := Ob.lt m5
    replace m5 := Ob.below m5 hb
    replace bl := (bl.trans (Below.mono hb bl.size))
    replace sz := sz2.trans sz
    replace df := df2.trans df
    clear df2 sz2 old2 new2 hb
    refine wpList_nil ?_
    clear x30
    show Code.wp _ _ _ _ _
    refine wp_seq ?_
    refine wp_seq ?_
    refine wp_all_seq [.eq (.pointer (some ⟨g3, 1, none⟩)), .eq (.int .i64 ((ps.length : Nat) : Int)), .eq (.slice aA ps.length dA), .eq (.int .i64 (((ps).length : Nat) : Int)), .eq (.bool false), .eq (.bool false), .eq (.pointer (some ⟨g3, 0, none⟩)), .eq (.int .i64 ((i : Nat) : Int)), .eq (.bool false), .eq (.bool false), .eq (.bool false), .eq (.pointer (some ⟨g3, 0, none⟩)), .eq (.int .i64 ((i : Nat) : Int)), .eq (.slice aA ps.length dA), .eq (.int .i64 (((ps).length : Nat) : Int)), .eq (.bool false), .eq (.bool false)] (by kernel_rfl) (by kernel_rfl) (by rw [sz]; kernel_rfl) (by kernel_rfl) ⟨fun hw ac u K => ?_, fun hw ac u K => ?_, fun hw ac u K => ?_, fun hw ac u K => ?_, fun hw ac u K => ?_, fun hw ac u K => ?_, fun hw ac u K => ?_, fun hw ac u K => ?_, fun hw ac u K => ?_, fun hw ac u K => ?_, fun hw ac u K => ?_, fun hw ac u K => ?_, fun hw ac u K => ?_, fun hw ac u K => ?_, fun hw ac u K => ?_, fun hw ac u K => ?_, fun hw ac u K => ?_, trivial⟩ ?_
    · exact st_field 39 1 (.tmp 3) rfl ((K.old 3 rfl).trans x3) (by kernel_rfl)
    · exact st_loadc 3 (.tmp 31) rfl (by kernel_rfl) (K.dep 0 31 rfl) (Ob.cell (Ob.below m3 (bl.trans (Below.mono K.grow bl.size))) 1 rfl)
    · exact st_move (.tmp 0) rfl ((K.old 0 rfl).trans x0)
    · exact st_lenm (.tmp 33) rfl (fk_val (K.dep 2 33 rfl) (Fk.mono _ _ _ _ ham (bl.trans (Below.mono K.grow bl.size))))
    · exact st_neqi 3 (.tmp 32) (.tmp 34) rfl .i64 (((ps.length : Nat) : Int)) ((((ps).length : Nat) : Int)) (K.dep 1 32 rfl) (K.dep 3 34 rfl) _ (by simp)
    · exact st_move (.tmp 35) rfl (K.dep 4 35 rfl)
    · exact st_field 39 0 (.tmp 3) rfl ((K.old 3 rfl).trans x3) (by kernel_rfl)
    · exact st_loadc 3 (.tmp 37) rfl (by kernel_rfl) (K.dep 6 37 rfl) (Ob.cell (Ob.below m3 (bl.trans (Below.mono K.grow bl.size))) 0 rfl)
    · exact st_lss 3 (.tmp 38) (.const (.int .i64 0)) rfl .i64 (((i : Nat) : Int)) (0) (K.dep 7 38 rfl) rfl _ (by symm; rw [decide_eq_false_iff_not]; exact (by omega))
    · exact st_pick_f' (.tmp 36) (.const (.bool true)) (.tmp 39) rfl (K.dep 5 36 rfl) (K.dep 8 39 rfl)
    · exact st_move (.tmp 40) rfl (K.dep 9 40 rfl)
    · exact st_field 39 0 (.tmp 3) rfl ((K.old 3 rfl).trans x3) (by kernel_rfl)
    · exact st_loadc 3 (.tmp 42) rfl (by kernel_rfl) (K.dep 11 42 rfl) (Ob.cell (Ob.below m3 (bl.trans (Below.mono K.grow bl.size))) 0 rfl)
    · exact st_move (.tmp 0) rfl ((K.old 0 rfl).trans x0)
    · exact st_lenm (.tmp 44) rfl (fk_val (K.dep 13 44 rfl) (Fk.mono _ _ _ _ ham (bl.trans (Below.mono K.grow bl.size))))
    · exact st_geq 3 (.tmp 43) (.tmp 45) rfl .i64 (((i : Nat) : Int)) ((((ps).length : Nat) : Int)) (K.dep 12 43 rfl) (K.dep 14 45 rfl) _ (by symm; rw [decide_eq_false_iff_not]; exact (by omega))
    · exact st_pick_f' (.tmp 41) (.const (.bool true)) (.tmp 46) rfl (K.dep 10 41 rfl) (K.dep 15 46 rfl)
    intro f13 w13 A hb
    replace bl0 := bl
    replace x0 := (A.old 0 rfl).trans x0
    replace x3 := (A.old 3 rfl).trans x3
    replace x4 := (A.old 4 rfl).trans x4
    replace x22 := (A.old 22 rfl).trans x22
    replace x5 := (A.old 5 rfl).trans x5
    replace x6 := (A.old 6 rfl).trans x6
    replace x7 := (A.old 7 rfl).trans x7
    have x47 : f13.eval (.tmp 47) = .bool false := A.has 16 47 rfl
    have lt_m5 := Ob.lt m5
    replace m5 := Ob.below m5 hb
    replace bl := (bl.trans (Below.mono hb bl.size))
    replace sz := A.size.trans sz
    replace df := A.defs.trans df
    clear A hb
    show Code.wp _ _ _ _ _
    refine wp_cond_false x47 ?_
    refine wp_skip ?_
    show Code.wp _ _ _ _ _
    refine wp_seq ?_
    refine wp_seq ?_
    refine wp_all [.eq (.pointer (some ⟨g3, 2, none⟩)), .eq (.slice aL nL dL), .eq (.agg ((lv).map V).toArray), .eq (.pointer (some ⟨g3, 0, none⟩)), .eq (.int .i64 ((i : Nat) : Int)), .eq (.pointer (some ⟨g3, 1, none⟩)), .eq (.int .i64 ((ps.length : Nat) : Int)), .eq (.pointer (some ⟨g3, 3, none⟩)), .eq (.slice aP P.length dP), .eq (.slice aA ps.length dA), .ow w4.heap.size (lhs ps), .eq (.agg ((rv).map V).toArray), .eq (.int .i64 0), .eq (.bool false)] Tryd.mixed (by kernel_rfl) (by kernel_rfl) (by rw [sz]; kernel_rfl) (by kernel_rfl) ⟨fun hw ac u K => ?_, fun hw ac u K => ?_, fun hw ac u K => ?_, fun hw ac u K => ?_, fun hw ac u K => ?_, fun hw ac u K => ?_, fun hw ac u K => ?_, fun hw ac u K => ?_, fun hw ac u K => ?_, fun hw ac u K => ?_, fun hw ac u K => ?_, fun hw ac u K => ?_, fun hw ac u K => ?_, fun hw ac u K => ?_, trivial⟩ ?_
    · exact st_field 39 2 (.tmp 3) rfl ((K.old 3 rfl).trans x3) (by kernel_rfl)
    · exact st_loadc 22 (.tmp 57) rfl (by kernel_rfl) (K.dep 0 57 rfl) (Ob.cell (Ob.below m3 (bl.trans (Below.mono K.grow bl.size))) 2 rfl)
    · exact st_call 18 (.func 18) _ _ #[.slice aL nL dL] rfl rfl (one_arg (K.dep 1 58 rfl)) Tryd.enter18 (fk_leaf (by omega) (hK.below (bl.trans (Below.mono K.grow bl.size))) (Fk.mono _ _ _ _ hl (bl.trans (Below.mono K.grow bl.size))) elv)
    · exact st_field 39 0 (.tmp 3) rfl ((K.old 3 rfl).trans x3) (by kernel_rfl)
    · exact st_loadc 3 (.tmp 60) rfl (by kernel_rfl) (K.dep 3 60 rfl) (Ob.cell (Ob.below m3 (bl.trans (Below.mono K.grow bl.size))) 0 rfl)
    · exact st_field 39 1 (.tmp 3) rfl ((K.old 3 rfl).trans x3) (by kernel_rfl)
    · exact st_loadc 3 (.tmp 62) rfl (by kernel_rfl) (K.dep 5 62 rfl) (Ob.cell (Ob.below m3 (bl.trans (Below.mono K.grow bl.size))) 1 rfl)
    · exact st_field 39 3 (.tmp 3) rfl ((K.old 3 rfl).trans x3) (by kernel_rfl)
    · exact st_loadc 35 (.tmp 64) rfl (by kernel_rfl) (K.dep 7 64 rfl) (Ob.cell (Ob.below m3 (bl.trans (Below.mono K.grow bl.size))) 3 rfl)
    · exact st_move (.tmp 0) rfl ((K.old 0 rfl).trans x0)
    · exact st_call 14 (.func 14) _ _ #[.slice aA ps.length dA] rfl rfl (one_arg (K.dep 9 66 rfl)) Tryd.enter14 (fk_ow (bl.trans (Below.mono K.grow bl.size)).size (fk_hashes (by omega) hx (Fk.mono _ _ _ _ ham (bl.trans (Below.mono K.grow bl.size))) (hK.below (bl.trans (Below.mono K.grow bl.size)))))
    · exact st_call 19 (.func 19) _ _ #[ac.eval (.tmp 67)] rfl rfl (one_arg rfl) Tryd.enter19 (fk_of (root_any (lhs ps) _ _ (by rw [lhs_len]; omega) (ow_hc (K.dep 10 67 rfl)) (hK.below (bl.trans (Below.mono K.grow bl.size))) erv))
    · exact st_call 17 (.func 17) _ _ #[.agg ((lv).map V).toArray, .int .i64 ((i : Nat) : Int), .int .i64 ((ps.length : Nat) : Int), .slice aP P.length dP, .agg ((rv).map V).toArray] rfl rfl (arg5 (K.dep 2 59 rfl) (K.dep 4 61 rfl) (K.dep 6 63 rfl) (K.dep 8 65 rfl) (K.dep 11 68 rfl)) Tryd.enter17 (fk_in_any hlv hrv hi (by omega) (Fk.mono _ _ _ _ hp (bl.trans (Below.mono K.grow bl.size))) (by omega) (hK.below (bl.trans (Below.mono K.grow bl.size))) _ (by rw [if_pos hr]))
    · exact st_neqi 40 (.tmp 69) (.const (.int .i64 0)) rfl .i64 (0) (0) (K.dep 12 69 rfl) rfl _ (by rfl)
    intro f14 w14 A hb
    replace bl0 := bl
    replace x0 := (A.old 0 rfl).trans x0
    replace x3 := (A.old 3 rfl).trans x3
    replace x4 := (A.old 4 rfl).trans x4
    replace x22 := (A.old 22 rfl).trans x22
    replace x5 := (A.old 5 rfl).trans x5
    replace x6 := (A.old 6 rfl).trans x6
    replace x7 := (A.old 7 rfl).trans x7
    replace x47 := (A.old 47 rfl).trans x47
    have x70 : f14.eval (.tmp 70) = .bool false := A.has 13 70 rfl
    have lt_m5 := Ob.lt m5
    replace m5 := Ob.below m5 hb
    replace bl := (bl.trans (Below.mono hb bl.size))
    replace sz := A.size.trans sz
    replace df := A.defs.trans df
    clear A hb
    show Code.wp _ _ _ _ _
    refine wp_cond_false x70 ?_
    refine wp_skip ?_
    show Code.wp _ _ _ _ _
    refine wp_seq ?_
    refine wp_seq ?_
    refine wp_all [.eq (.int .i64 0), .eq (.bool false), .eq (.bool false), .eq (.bool true), .eq (.pointer (some ⟨g3, 2, none⟩)), .eq (.slice aL nL dL), .eq (.string (str (lb))), .eq (.slice aA ps.length dA), .eq (.pointer (some ⟨g3, 0, none⟩)), .eq (.int .i64 ((i : Nat) : Int)), .pv (.slice p.sp p.m p.c), .eq (.slice p.sp p.m p.c), .eq (.string (str (p.bs))), .eq (.bool true), .eq (.bool false), .eq (.bool false)] Tryd.mixed (by kernel_rfl) (by kernel_rfl) (by rw [sz]; kernel_rfl) (by kernel_rfl) ⟨fun hw ac u K => ?_, fun hw ac u K => ?_, fun hw ac u K => ?_, fun hw ac u K => ?_, fun hw ac u K => ?_, fun hw ac u K => ?_, fun hw ac u K => ?_, fun hw ac u K => ?_, fun hw ac u K => ?_, fun hw ac u K => ?_, fun hw ac u K => ?_, fun hw ac u K => ?_, fun hw ac u K => ?_, fun hw ac u K => ?_, fun hw ac u K => ?_, fun hw ac u K => ?_, trivial⟩ ?_
    · exact st_move (.tmp 7) rfl ((K.old 7 rfl).trans x7)
    · exact st_neqi 40 (.tmp 80) (.const (.int .i64 0)) rfl .i64 (0) (0) (K.dep 0 80 rfl) rfl _ (by rfl)
    · exact st_move (.tmp 81) rfl (K.dep 1 81 rfl)
    · exact st_move (.tmp 6) rfl ((K.old 6 rfl).trans x6)
    · exact st_field 39 2 (.tmp 3) rfl ((K.old 3 rfl).trans x3) (by kernel_rfl)
    · exact st_loadc 22 (.tmp 84) rfl (by kernel_rfl) (K.dep 4 84 rfl) (Ob.cell (Ob.below m3 (bl.trans (Below.mono K.grow bl.size))) 2 rfl)
    · exact st_stra (.tmp 85) rfl (fk_val (K.dep 5 85 rfl) (Fk.mono _ _ _ _ hl (bl.trans (Below.mono K.grow bl.size))))
    · exact st_move (.tmp 0) rfl ((K.old 0 rfl).trans x0)
    · exact st_field 39 0 (.tmp 3) rfl ((K.old 3 rfl).trans x3) (by kernel_rfl)
    · exact st_loadc 3 (.tmp 88) rfl (by kernel_rfl) (K.dep 8 88 rfl) (Ob.cell (Ob.below m3 (bl.trans (Below.mono K.grow bl.size))) 0 rfl)
    · exact st_idxm (.tmp 87) (.tmp 89) rfl (fk_val (K.dep 7 87 rfl) (Fk.mono _ _ _ _ ham (bl.trans (Below.mono K.grow bl.size)))) i p (K.dep 9 89 rfl) hpk
    · exact st_loadsl (.tmp 90) rfl (K.dep 10 90 rfl)
    · exact st_stra (.tmp 91) rfl (fk_val (K.dep 11 91 rfl) (Fk.mono _ _ _ _ hslp (bl.trans (Below.mono K.grow bl.size))))
    · exact st_nes (.tmp 86) (.tmp 92) rfl (str (lb)) (str (p.bs)) (K.dep 6 86 rfl) (K.dep 12 92 rfl) _ (by symm; rw [decide_eq_true_iff]; exact fun h => hq (str_inj h))
    · exact st_bin .neq 4 4 (.tmp 83) (.tmp 93) rfl (K.dep 3 83 rfl) (K.dep 13 93 rfl) (by rfl)
    · exact st_pick_f' (.tmp 82) (.const (.bool true)) (.tmp 94) rfl (K.dep 2 82 rfl) (K.dep 14 94 rfl)
    intro f15 w15 A hb
    replace bl0 := bl
    replace x0 := (A.old 0 rfl).trans x0
    replace x3 := (A.old 3 rfl).trans x3
    replace x4 := (A.old 4 rfl).trans x4
    replace x22 := (A.old 22 rfl).trans x22
    replace x5 := (A.old 5 rfl).trans x5
    replace x6 := (A.old 6 rfl).trans x6
    replace x7 := (A.old 7 rfl).trans x7
    replace x47 := (A.old 47 rfl).trans x47
    replace x70 := (A.old 70 rfl).trans x70
    have x95 : f15.eval (.tmp 95) = .bool false := A.has 15 95 rfl
    have lt_m5 := Ob.lt m5
    replace m5 := Ob.below m5 hb
    replace bl := (bl.trans (Below.mono hb bl.size))
    replace sz := A.size.trans sz
    replace df := A.defs.trans df
    clear A hb
    show Code.wp _ _ _ _ _
    refine wp_cond_false x95 ?_
    refine wp_skip ?_
    show Code.wp _ _ _ _ _
    refine wp_seq ?_
    refine wp_all_seq [.eq (.bool true), .eq (.bool false), .eq (.bool false), .eq (.agg ([.slice pA mA cA, .slice pB mB cB] : List Value).toArray), .eq (.bool true), .eq (.bool true), .eq (.bool true), .eq (.bool true), .eq (.bool true), .eq (.bool true)] (by kernel_rfl) (by kernel_rfl) (by rw [sz]; kernel_rfl) (by kernel_rfl) ⟨fun hw ac u K => ?_, fun hw ac u K => ?_, fun hw ac u K => ?_, fun hw ac u K => ?_, fun hw ac u K => ?_, fun hw ac u K => ?_, fun hw ac u K => ?_, fun hw ac u K => ?_, fun hw ac u K => ?_, fun hw ac u K => ?_, trivial⟩ ?_
    · exact st_move (.tmp 6) rfl ((K.old 6 rfl).trans x6)
    · exact st_not (.tmp 96) rfl true (K.dep 0 96 rfl)
    · exact st_move (.tmp 97) rfl (K.dep 1 97 rfl)
    · exact st_loadz 25 (.tmp 5) rfl (g5) 0 [.slice pA mA cA, .slice pB mB cB] (by kernel_rfl) (by kernel_rfl) ((K.old 5 rfl).trans x5) (Ob.range (Ob.below m5 K.grow) 0 _ (fun j v hj => by simpa using hj))
    · exact st_call 10 (.func 10) _ _ #[.agg ([.slice pA mA cA, .slice pB mB cB] : List Value).toArray] rfl rfl (one_arg (K.dep 3 99 rfl)) Tryd.enter10 (fk_lright hlA hlB (Fk.mono _ _ _ _ hA (bl.trans (Below.mono K.grow bl.size))) (Fk.mono _ _ _ _ hB (bl.trans (Below.mono K.grow bl.size))) (hK.below (bl.trans (Below.mono K.grow bl.size))) (by symm; rw [decide_eq_true_iff]; exact (hr1 rfl)))
    · exact st_pick_f' (.tmp 98) (.const (.bool true)) (.tmp 100) rfl (K.dep 2 98 rfl) (K.dep 4 100 rfl)
    · exact st_move (.tmp 101) rfl (K.dep 5 101 rfl)
    · exact st_call 8 (.func 8) _ _ #[] rfl rfl rfl Tryd.enter8 (fk_of (awake_any _ (hK.below (bl.trans (Below.mono K.grow bl.size)))))
    · exact st_pick_t (.tmp 102) (.tmp 103) (.const (.bool false)) rfl (K.dep 6 102 rfl) (K.dep 7 103 rfl)
    · exact st_assign (.tmp 104) rfl (K.dep 8 104 rfl)
    intro f16 w16 A hb
    replace bl0 := bl
    replace x0 := (A.old 0 rfl).trans x0
    replace x3 := (A.old 3 rfl).trans x3
    clear x4
    replace x22 := (A.old 22 rfl).trans x22
    replace x5 := (A.old 5 rfl).trans x5
    replace x6 := (A.old 6 rfl).trans x6
    replace x7 := (A.old 7 rfl).trans x7
    replace x47 := (A.old 47 rfl).trans x47
    replace x70 := (A.old 70 rfl).trans x70
    replace x95 := (A.old 95 rfl).trans x95
    have x4 : f16.eval (.tmp 4) = .bool true := A.has 9 4 rfl
    have lt_m5 := Ob.lt m5
    replace m5 := Ob.below m5 hb
    replace bl := (bl.trans (Below.mono hb bl.size))
    replace sz := A.size.trans sz
    replace df := A.defs.trans df
    clear A hb
    show Code.wp _ _ _ _ _
    refine wp_ret ?_
    repeat (first | with_reducible refine then_ret ?_ | with_reducible refine block_ret ?_)
    exact bodyPost_ret (v := .bool true) (ret_slot rfl f16 _ x4 _ _) df ⟨rfl, (blw.trans (Below.mono bl blw.size))⟩
  refine wp_region_seq [.eq (.slice aA ps.length dA), .eq (.agg ([.int .i64 ((i : Nat) : Int), .int .i64 ((ps.length : Nat) : Int), .slice aL nL dL, .slice aP P.length dP] : List Value).toArray)] (by kernel_rfl) (by kernel_rfl) (by rw [sz]; kernel_rfl) (by kernel_rfl) ⟨fun hw ac u K => ?_, fun hw ac u K => ?_, trivial⟩ ?_
  · exact st_move (.tmp 0) rfl ((K.old 0 rfl).trans x0)
  · exact st_loadz 39 (.tmp 3) rfl (g3) 0 [.int .i64 ((i : Nat) : Int), .int .i64 ((ps.length : Nat) : Int), .slice aL nL dL, .slice aP P.length dP] (by kernel_rfl) (by kernel_rfl) ((K.old 3 rfl).trans x3) (Ob.range (Ob.below m3 K.grow) 0 _ (fun j v hj => by simpa using hj))
  intro f3 w3 A hb
  replace bl0 := bl
  replace x0 := (A.old 0 rfl).trans x0
  replace x3 := (A.old 3 rfl).trans x3
  replace x4 := (A.old 4 rfl).trans x4
  replace x22 := (A.old 22 rfl).trans x22
  have x25 : f3.eval (.tmp 25) = .slice aA ps.length dA := A.has 0 25 rfl
  have x26 : f3.eval (.tmp 26) = .agg ([.int .i64 ((i : Nat) : Int), .int .i64 ((ps.length : Nat) : Int), .slice aL nL dL, .slice aP P.length dP] : List Value).toArray := A.has 1 26 rfl
  have lt_m3 := Ob.lt m3
  replace m3 := Ob.below m3 hb
  replace bl := (bl.trans (Below.mono hb bl.size))
  replace sz := A.size.trans sz
  replace df := A.defs.trans df
  clear A hb
  refine wl_call 16 (.func 16) _ _ #[.slice aA ps.length dA, .agg ([.int .i64 ((i : Nat) : Int), .int .i64 ((ps.length : Nat) : Int), .slice aL nL dL, .slice aP P.length dP] : List Value).toArray] rfl 27 rfl (by rw [sz]; decide) rfl rfl (arg2 x25 x26) Tryd.enter16 (fun u W => (Fk.c3 false 0).f u W ∧ Below w3.heap.size w3 W) (fk_cin_ok hs hlb hPl (Fk.mono _ _ _ _ ha bl) (Fk.mono _ _ _ _ hl bl) (Fk.mono _ _ _ _ hp bl) (hK.below bl) hpk hr.1 (by rw [elv.out, erv.out]; exact hr.2) (f := false) (by symm; rw [decide_eq_false_iff_not]; exact fun h => h hq)) ?_
  rintro f4 w4 df2 sz2 old2 ⟨⟨A, B, u1, u2, new2, hA, hB, hlA, hlB, hr1⟩, hb⟩
  obtain ⟨pA, mA, cA, _, _, rfl, _⟩ := id hA
  obtain ⟨pB, mB, cB, _, _, rfl, _⟩ := id hB
  replace bl0 := bl
  replace x0 := (old2 0 rfl).trans x0
  replace x3 := (old2 3 rfl).trans x3
  replace x4 := (old2 4 rfl).trans x4
  replace x22 := (old2 22 rfl).trans x22
  replace x25 := (old2 25 rfl).trans x25
  replace x26 := (old2 26 rfl).trans x26
  have x27 : f4.eval (.tmp 27) = .tuple #[.agg ([.slice pA mA cA, .slice pB mB cB] : List Value).toArray, .bool false, .int .i64 0] := new2
  have lt_m3 := Ob.lt m3
  replace m3 := Ob.below m3 hb
  replace bl := (bl.trans (Below.mono hb bl.size))
  replace sz := sz2.trans sz
  replace df := df2.trans df
  clear df2 sz2 old2 new2 hb
  have blw := bl
  replace ha := Fk.mono _ _ _ _ ha bl
  replace ham := Fk.mono _ _ _ _ ham bl
  replace hl := Fk.mono _ _ _ _ hl bl
  replace hp := Fk.mono _ _ _ _ hp bl
  replace hps := Fk.mono _ _ _ _ hps bl
  replace hslp := Fk.mono _ _ _ _ hslp bl
  replace hK := hK.below bl
  replace bl := Below.refl w4.heap.size w4
  replace bl0 := bl
  clear x25
  clear x26
  refine wl_one (.eq (.tuple #[.agg ([.slice pA mA cA, .slice pB mB cB] : List Value).toArray, .bool false, .int .i64 0])) rfl 24 rfl (by rw [sz]; decide) (st_move (.tmp 27) rfl x27) ?_
  intro f5 w5 df2 sz2 old2 new2 hb
  replace bl0 := bl
  replace x0 := (old2 0 rfl).trans x0
  replace x3 := (old2 3 rfl).trans x3
  replace x4 := (old2 4 rfl).trans x4
  replace x22 := (old2 22 rfl).trans x22
  replace x27 := (old2 27 rfl).trans x27
  have x24 : f5.eval (.tmp 24) = .tuple #[.agg ([.slice pA mA cA, .slice pB mB cB] : List Value).toArray, .bool false, .int .i64 0] := new2
  replace bl := (bl.trans (Below.mono hb bl.size))
  replace sz := sz2.trans sz
  replace df := df2.trans df
  clear df2 sz2 old2 new2 hb
  clear x27
  refine wl_one (.eq (.agg ([.slice pA mA cA, .slice pB mB cB] : List Value).toArray)) rfl 28 rfl (by rw [sz]; decide) (st_tup (.tmp 24) rfl x24 (by rfl)) ?_
  intro f6 w6 df2 sz2 old2 new2 hb
  replace bl0 := bl
  replace x0 := (old2 0 rfl).trans x0
  replace x3 := (old2 3 rfl).trans x3
  replace x4 := (old2 4 rfl).trans x4
  replace x22 := (old2 22 rfl).trans x22
  replace x24 := (old2 24 rfl).trans x24
  have x28 : f6.eval (.tmp 28) = .agg ([.slice pA mA cA, .slice pB mB cB] : List Value).toArray := new2
  replace bl := (bl.trans (Below.mono hb bl.size))
  replace sz := sz2.trans sz
  replace df := df2.trans df
  clear df2 sz2 old2 new2 hb
  refine wl_one (.eq (.bool false)) rfl 29 rfl (by rw [sz]; decide) (st_tup (.tmp 24) rfl x24 (by rfl)) ?_
  intro f7 w7 df2 sz2 old2 new2 hb
  replace bl0 := bl
  replace x0 := (old2 0 rfl).trans x0
  replace x3 := (old2 3 rfl).trans x3
  replace x4 := (old2 4 rfl).trans x4
  replace x22 := (old2 22 rfl).trans x22
  replace x24 := (old2 24 rfl).trans x24
  replace x28 := (old2 28 rfl).trans x28
  have x29 : f7.eval (.tmp 29) = .bool false := new2
  replace bl := (bl.trans (Below.mono hb bl.size))
  replace sz := sz2.trans sz
  replace df := df2.trans df
  clear df2 sz2 old2 new2 hb
  refine wl_one (.eq (.int .i64 0)) rfl 30 rfl (by rw [sz]; decide) (st_tup (.tmp 24) rfl x24 (by rfl)) ?_
  intro f8 w8 df2 sz2 old2 new2 hb
  replace bl0 := bl
  replace x0 := (old2 0 rfl).trans x0
  replace x3 := (old2 3 rfl).trans x3
  replace x4 := (old2 4 rfl).trans x4
  replace x22 := (old2 22 rfl).trans x22
  replace x24 := (old2 24 rfl).trans x24
  replace x28 := (old2 28 rfl).trans x28
  replace x29 := (old2 29 rfl).trans x29
  have x30 : f8.eval (.tmp 30) = .int .i64 0 := new2
  replace bl := (bl.trans (Below.mono hb bl.size))
  replace sz := sz2.trans sz
  replace df := df2.trans df
  clear df2 sz2 old2 new2 hb
  clear x24
  refine wl_one (.nw w8.heap.size 25 [.slice none 0 0, .slice none 0 0]) rfl 5 rfl (by rw [sz]; decide) (st_alloc 25 rfl _ _ (by kernel_rfl) (Nat.le_refl _)) ?_
  intro f9 w9 df2 sz2 old2 new2 hb
  replace bl0 := bl
  replace x0 := (old2 0 rfl).trans x0
  replace x3 := (old2 3 rfl).trans x3
  replace x4 := (old2 4 rfl).trans x4
  replace x22 := (old2 22 rfl).trans x22
  replace x28 := (old2 28 rfl).trans x28
  replace x29 := (old2 29 rfl).trans x29
  replace x30 := (old2 30 rfl).trans x30
  have x5 : Fk.f (.nw w8.heap.size 25 [.slice none 0 0, .slice none 0 0]) (f9.eval (.tmp 5)) w9 := new2
  replace bl := (bl.trans (Below.mono hb bl.size))
  replace sz := sz2.trans sz
  replace df := df2.trans df
  clear df2 sz2 old2 new2 hb
  obtain ⟨g5, hg5, e5, m5⟩ := x5
  have x5 := e5
  clear e5
  have nm3_5 : g3 ≠ g5 := Nat.ne_of_lt (Nat.lt_of_lt_of_le (Ob.lt m3) (Nat.le_trans bl0.size hg5))
  have hw5 : w4.heap.size ≤ g5 := Nat.le_trans bl0.size hg5
  refine wl_str rfl 25 (.tmp 5) (.tmp 28) rfl rfl (g5) ([.slice pA mA cA, .slice pB mB cB] : List Value).toArray x5 x28 25 _ m5 (by kernel_rfl) (by kernel_rfl) (by kernel_rfl) ?_
  replace m5 : Ob (w9.setRow g5 ([.slice pA mA cA, .slice pB mB cB] : List Value).toArray) (g5) 25 ([.slice pA mA cA, .slice pB mB cB]) := Ob.setRow m5 ([.slice pA mA cA, .slice pB mB cB])
  replace bl : Below w4.heap.size w4 (w9.setRow g5 ([.slice pA mA cA, .slice pB mB cB] : List Value).toArray) := bl.trans (below_setRow _ _ _ _ hw5)
  generalize w9.setRow g5 ([.slice pA mA cA, .slice pB mB cB] : List Value).toArray = w10b at bl m5 ⊢
  clear x28
  refine wl_one (.eq (.bool false)) rfl 6 rfl (by rw [sz]; decide) (st_assign (.tmp 29) rfl x29) ?_
  intro f11 w11 df2 sz2 old2 new2 hb
  replace bl0 := bl
  replace x0 := (old2 0 rfl).trans x0
  replace x3 := (old2 3 rfl).trans x3
  replace x4 := (old2 4 rfl).trans x4
  replace x22 := (old2 22 rfl).trans x22
  replace x29 := (old2 29 rfl).trans x29
  replace x30 := (old2 30 rfl).trans x30
  replace x5 := (old2 5 rfl).trans x5
  have x6 : f11.eval (.tmp 6) = .bool false := new2
  have lt_m5 := Ob.lt m5
  replace m5 := Ob.below m5 hb
  replace bl := (bl.trans (Below.mono hb bl.size))
  replace sz := sz2.trans sz
  replace df := df2.trans df
  clear df2 sz2 old2 new2 hb
  clear x29
  refine wl_one (.eq (.int .i64 0)) rfl 7 rfl (by rw [sz]; decide) (st_assign (.tmp 30) rfl x30) ?_
  intro f12 w12 df2 sz2 old2 new2 hb
  replace bl0 := bl
  replace x0 := (old2 0 rfl).trans x0
  replace x3 := (old2 3 rfl).trans x3
  replace x4 := (old2 4 rfl).trans x4
  replace x22 := (old2 22 rfl).trans x22
  replace x30 := (old2 30 rfl).trans x30
  replace x5 := (old2 5 rfl).trans x5
  replace x6 := (old2 6 rfl).trans x6
  have x7 : f12.eval (.tmp 7) = .int .i64 0 := new2
  have lt_m5 := Ob.lt m5
  replace m5 := Ob.below m5 hb
  replace bl := (bl.trans (Below.mono hb bl.size))
  replace sz := sz2.trans sz
  replace df := df2.trans df
  clear df2 sz2 old2 new2 hb
  refine wpList_nil ?_
  clear x30
  show Code.wp _ _ _ _ _
  refine wp_seq ?_
  refine wp_seq ?_
  refine wp_all_seq [.eq (.pointer (some ⟨g3, 1, none⟩)), .eq (.int .i64 ((ps.length : Nat) : Int)), .eq (.slice aA ps.length dA), .eq (.int .i64 (((ps).length : Nat) : Int)), .eq (.bool false), .eq (.bool false), .eq (.pointer (some ⟨g3, 0, none⟩)), .eq (.int .i64 ((i : Nat) : Int)), .eq (.bool false), .eq (.bool false), .eq (.bool false), .eq (.pointer (some ⟨g3, 0, none⟩)), .eq (.int .i64 ((i : Nat) : Int)), .eq (.slice aA ps.length dA), .eq (.int .i64 (((ps).length : Nat) : Int)), .eq (.bool false), .eq (.bool false)] (by kernel_rfl) (by kernel_rfl) (by rw [sz]; kernel_rfl) (by kernel_rfl) ⟨fun hw ac u K => ?_, fun hw ac u K => ?_, fun hw ac u K => ?_, fun hw ac u K => ?_, fun hw ac u K => ?_, fun hw ac u K => ?_, fun hw ac u K => ?_, fun hw ac u K => ?_, fun hw ac u K => ?_, fun hw ac u K => ?_, fun hw ac u K => ?_, fun hw ac u K => ?_, fun hw ac u K => ?_, fun hw ac u K => ?_, fun hw ac u K => ?_, fun hw ac u K => ?_, fun hw ac u K => ?_, trivial⟩ ?_
  · exact st_field 39 1 (.tmp 3) rfl ((K.old 3 rfl).trans x3) (by kernel_rfl)
  · exact st_loadc 3 (.tmp 31) rfl (by kernel_rfl) (K.dep 0 31 rfl) (Ob.cell (Ob.below m3 (bl.trans (Below.mono K.grow bl.size))) 1 rfl)
  · exact st_move (.tmp 0) rfl ((K.old 0 rfl).trans x0)
  · exact st_lenm (.tmp 33) rfl (fk_val (K.dep 2 33 rfl) (Fk.mono _ _ _ _ ham (bl.trans (Below.mono K.grow bl.size))))
  · exact st_neqi 3 (.tmp 32) (.tmp 34) rfl .i64 (((ps.length : Nat) : Int)) ((((ps).length : Nat) : Int)) (K.dep 1 32 rfl) (K.dep 3 34 rfl) _ (by simp)
  · exact st_move (.tmp 35) rfl (K.dep 4 35 rfl)
  · exact st_field 39 0 (.tmp 3) rfl ((K.old 3 rfl).trans x3) (by kernel_rfl)
  · exact st_loadc 3 (.tmp 37) rfl (by kernel_rfl) (K.dep 6 37 rfl) (Ob.cell (Ob.below m3 (bl.trans (Below.mono K.grow bl.size))) 0 rfl)
  · exact st_lss 3 (.tmp 38) (.const (.int .i64 0)) rfl .i64 (((i : Nat) : Int)) (0) (K.dep 7 38 rfl) rfl _ (by symm; rw [decide_eq_false_iff_not]; exact (by omega))
  · exact st_pick_f' (.tmp 36) (.const (.bool true)) (.tmp 39) rfl (K.dep 5 36 rfl) (K.dep 8 39 rfl)
  · exact st_move (.tmp 40) rfl (K.dep 9 40 rfl)
  · exact st_field 39 0 (.tmp 3) rfl ((K.old 3 rfl).trans x3) (by kernel_rfl)
  · exact st_loadc 3 (.tmp 42) rfl (by kernel_rfl) (K.dep 11 42 rfl) (Ob.cell (Ob.below m3 (bl.trans (Below.mono K.grow bl.size))) 0 rfl)
  · exact st_move (.tmp 0) rfl ((K.old 0 rfl).trans x0)
  · exact st_lenm (.tmp 44) rfl (fk_val (K.dep 13 44 rfl) (Fk.mono _ _ _ _ ham (bl.trans (Below.mono K.grow bl.size))))
  · exact st_geq 3 (.tmp 43) (.tmp 45) rfl .i64 (((i : Nat) : Int)) ((((ps).length : Nat) : Int)) (K.dep 12 43 rfl) (K.dep 14 45 rfl) _ (by symm; rw [decide_eq_false_iff_not]; exact (by omega))
  · exact st_pick_f' (.tmp 41) (.const (.bool true)) (.tmp 46) rfl (K.dep 10 41 rfl) (K.dep 15 46 rfl)
  intro f13 w13 A hb
  replace bl0 := bl
  replace x0 := (A.old 0 rfl).trans x0
  replace x3 := (A.old 3 rfl).trans x3
  replace x4 := (A.old 4 rfl).trans x4
  replace x22 := (A.old 22 rfl).trans x22
  replace x5 := (A.old 5 rfl).trans x5
  replace x6 := (A.old 6 rfl).trans x6
  replace x7 := (A.old 7 rfl).trans x7
  have x47 : f13.eval (.tmp 47) = .bool false := A.has 16 47 rfl
  have lt_m5 := Ob.lt m5
  replace m5 := Ob.below m5 hb
  replace bl := (bl.trans (Below.mono hb bl.size))
  replace sz := A.size.trans sz
  replace df := A.defs.trans df
  clear A hb
  show Code.wp _ _ _ _ _
  refine wp_cond_false x47 ?_
  refine wp_skip ?_
  show Code.wp _ _ _ _ _
  refine wp_seq ?_
  refine wp_seq ?_
  refine wp_all [.eq (.pointer (some ⟨g3, 2, none⟩)), .eq (.slice aL nL dL), .eq (.agg ((lv).map V).toArray), .eq (.pointer (some ⟨g3, 0, none⟩)), .eq (.int .i64 ((i : Nat) : Int)), .eq (.pointer (some ⟨g3, 1, none⟩)), .eq (.int .i64 ((ps.length : Nat) : Int)), .eq (.pointer (some ⟨g3, 3, none⟩)), .eq (.slice aP P.length dP), .eq (.slice aA ps.length dA), .ow w4.heap.size (lhs ps), .eq (.agg ((rv).map V).toArray), .eq (.int .i64 0), .eq (.bool false)] Tryd.mixed (by kernel_rfl) (by kernel_rfl) (by rw [sz]; kernel_rfl) (by kernel_rfl) ⟨fun hw ac u K => ?_, fun hw ac u K => ?_, fun hw ac u K => ?_, fun hw ac u K => ?_, fun hw ac u K => ?_, fun hw ac u K => ?_, fun hw ac u K => ?_, fun hw ac u K => ?_, fun hw ac u K => ?_, fun hw ac u K => ?_, fun hw ac u K => ?_, fun hw ac u K => ?_, fun hw ac u K => ?_, fun hw ac u K => ?_, trivial⟩ ?_
  · exact st_field 39 2 (.tmp 3) rfl ((K.old 3 rfl).trans x3) (by kernel_rfl)
  · exact st_loadc 22 (.tmp 57) rfl (by kernel_rfl) (K.dep 0 57 rfl) (Ob.cell (Ob.below m3 (bl.trans (Below.mono K.grow bl.size))) 2 rfl)
  · exact st_call 18 (.func 18) _ _ #[.slice aL nL dL] rfl rfl (one_arg (K.dep 1 58 rfl)) Tryd.enter18 (fk_leaf (by omega) (hK.below (bl.trans (Below.mono K.grow bl.size))) (Fk.mono _ _ _ _ hl (bl.trans (Below.mono K.grow bl.size))) elv)
  · exact st_field 39 0 (.tmp 3) rfl ((K.old 3 rfl).trans x3) (by kernel_rfl)
  · exact st_loadc 3 (.tmp 60) rfl (by kernel_rfl) (K.dep 3 60 rfl) (Ob.cell (Ob.below m3 (bl.trans (Below.mono K.grow bl.size))) 0 rfl)
  · exact st_field 39 1 (.tmp 3) rfl ((K.old 3 rfl).trans x3) (by kernel_rfl)
  · exact st_loadc 3 (.tmp 62) rfl (by kernel_rfl) (K.dep 5 62 rfl) (Ob.cell (Ob.below m3 (bl.trans (Below.mono K.grow bl.size))) 1 rfl)
  · exact st_field 39 3 (.tmp 3) rfl ((K.old 3 rfl).trans x3) (by kernel_rfl)
  · exact st_loadc 35 (.tmp 64) rfl (by kernel_rfl) (K.dep 7 64 rfl) (Ob.cell (Ob.below m3 (bl.trans (Below.mono K.grow bl.size))) 3 rfl)
  · exact st_move (.tmp 0) rfl ((K.old 0 rfl).trans x0)
  · exact st_call 14 (.func 14) _ _ #[.slice aA ps.length dA] rfl rfl (one_arg (K.dep 9 66 rfl)) Tryd.enter14 (fk_ow (bl.trans (Below.mono K.grow bl.size)).size (fk_hashes (by omega) hx (Fk.mono _ _ _ _ ham (bl.trans (Below.mono K.grow bl.size))) (hK.below (bl.trans (Below.mono K.grow bl.size)))))
  · exact st_call 19 (.func 19) _ _ #[ac.eval (.tmp 67)] rfl rfl (one_arg rfl) Tryd.enter19 (fk_of (root_any (lhs ps) _ _ (by rw [lhs_len]; omega) (ow_hc (K.dep 10 67 rfl)) (hK.below (bl.trans (Below.mono K.grow bl.size))) erv))
  · exact st_call 17 (.func 17) _ _ #[.agg ((lv).map V).toArray, .int .i64 ((i : Nat) : Int), .int .i64 ((ps.length : Nat) : Int), .slice aP P.length dP, .agg ((rv).map V).toArray] rfl rfl (arg5 (K.dep 2 59 rfl) (K.dep 4 61 rfl) (K.dep 6 63 rfl) (K.dep 8 65 rfl) (K.dep 11 68 rfl)) Tryd.enter17 (fk_in_any hlv hrv hi (by omega) (Fk.mono _ _ _ _ hp (bl.trans (Below.mono K.grow bl.size))) (by omega) (hK.below (bl.trans (Below.mono K.grow bl.size))) _ (by rw [if_pos hr]))
  · exact st_neqi 40 (.tmp 69) (.const (.int .i64 0)) rfl .i64 (0) (0) (K.dep 12 69 rfl) rfl _ (by rfl)
  intro f14 w14 A hb
  replace bl0 := bl
  replace x0 := (A.old 0 rfl).trans x0
  replace x3 := (A.old 3 rfl).trans x3
  replace x4 := (A.old 4 rfl).trans x4
  replace x22 := (A.old 22 rfl).trans x22
  replace x5 := (A.old 5 rfl).trans x5
  replace x6 := (A.old 6 rfl).trans x6
  replace x7 := (A.old 7 rfl).trans x7
  replace x47 := (A.old 47 rfl).trans x47
  have x70 : f14.eval (.tmp 70) = .bool false := A.has 13 70 rfl
  have lt_m5 := Ob.lt m5
  replace m5 := Ob.below m5 hb
  replace bl := (bl.trans (Below.mono hb bl.size))
  replace sz := A.size.trans sz
  replace df := A.defs.trans df
  clear A hb
  show Code.wp _ _ _ _ _
  refine wp_cond_false x70 ?_
  refine wp_skip ?_
  show Code.wp _ _ _ _ _
  refine wp_seq ?_
  refine wp_seq ?_
  refine wp_all [.eq (.int .i64 0), .eq (.bool false), .eq (.bool false), .eq (.bool false), .eq (.pointer (some ⟨g3, 2, none⟩)), .eq (.slice aL nL dL), .eq (.string (str (lb))), .eq (.slice aA ps.length dA), .eq (.pointer (some ⟨g3, 0, none⟩)), .eq (.int .i64 ((i : Nat) : Int)), .pv (.slice p.sp p.m p.c), .eq (.slice p.sp p.m p.c), .eq (.string (str (p.bs))), .eq (.bool false), .eq (.bool false), .eq (.bool false)] Tryd.mixed (by kernel_rfl) (by kernel_rfl) (by rw [sz]; kernel_rfl) (by kernel_rfl) ⟨fun hw ac u K => ?_, fun hw ac u K => ?_, fun hw ac u K => ?_, fun hw ac u K => ?_, fun hw ac u K => ?_, fun hw ac u K => ?_, fun hw ac u K => ?_, fun hw ac u K => ?_, fun hw ac u K => ?_, fun hw ac u K => ?_, fun hw ac u K => ?_, fun hw ac u K => ?_, fun hw ac u K => ?_, fun hw ac u K => ?_, fun hw ac u K => ?_, fun hw ac u K => ?_, trivial⟩ ?_
  · exact st_move (.tmp 7) rfl ((K.old 7 rfl).trans x7)
  · exact st_neqi 40 (.tmp 80) (.const (.int .i64 0)) rfl .i64 (0) (0) (K.dep 0 80 rfl) rfl _ (by rfl)
  · exact st_move (.tmp 81) rfl (K.dep 1 81 rfl)
  · exact st_move (.tmp 6) rfl ((K.old 6 rfl).trans x6)
  · exact st_field 39 2 (.tmp 3) rfl ((K.old 3 rfl).trans x3) (by kernel_rfl)
  · exact st_loadc 22 (.tmp 84) rfl (by kernel_rfl) (K.dep 4 84 rfl) (Ob.cell (Ob.below m3 (bl.trans (Below.mono K.grow bl.size))) 2 rfl)
  · exact st_stra (.tmp 85) rfl (fk_val (K.dep 5 85 rfl) (Fk.mono _ _ _ _ hl (bl.trans (Below.mono K.grow bl.size))))
  · exact st_move (.tmp 0) rfl ((K.old 0 rfl).trans x0)
  · exact st_field 39 0 (.tmp 3) rfl ((K.old 3 rfl).trans x3) (by kernel_rfl)
  · exact st_loadc 3 (.tmp 88) rfl (by kernel_rfl) (K.dep 8 88 rfl) (Ob.cell (Ob.below m3 (bl.trans (Below.mono K.grow bl.size))) 0 rfl)
  · exact st_idxm (.tmp 87) (.tmp 89) rfl (fk_val (K.dep 7 87 rfl) (Fk.mono _ _ _ _ ham (bl.trans (Below.mono K.grow bl.size)))) i p (K.dep 9 89 rfl) hpk
  · exact st_loadsl (.tmp 90) rfl (K.dep 10 90 rfl)
  · exact st_stra (.tmp 91) rfl (fk_val (K.dep 11 91 rfl) (Fk.mono _ _ _ _ hslp (bl.trans (Below.mono K.grow bl.size))))
  · exact st_nes (.tmp 86) (.tmp 92) rfl (str (lb)) (str (p.bs)) (K.dep 6 86 rfl) (K.dep 12 92 rfl) _ (by rw [hq]; simp)
  · exact st_bin .neq 4 4 (.tmp 83) (.tmp 93) rfl (K.dep 3 83 rfl) (K.dep 13 93 rfl) (by rfl)
  · exact st_pick_f' (.tmp 82) (.const (.bool true)) (.tmp 94) rfl (K.dep 2 82 rfl) (K.dep 14 94 rfl)
  intro f15 w15 A hb
  replace bl0 := bl
  replace x0 := (A.old 0 rfl).trans x0
  replace x3 := (A.old 3 rfl).trans x3
  replace x4 := (A.old 4 rfl).trans x4
  replace x22 := (A.old 22 rfl).trans x22
  replace x5 := (A.old 5 rfl).trans x5
  replace x6 := (A.old 6 rfl).trans x6
  replace x7 := (A.old 7 rfl).trans x7
  replace x47 := (A.old 47 rfl).trans x47
  replace x70 := (A.old 70 rfl).trans x70
  have x95 : f15.eval (.tmp 95) = .bool false := A.has 15 95 rfl
  have lt_m5 := Ob.lt m5
  replace m5 := Ob.below m5 hb
  replace bl := (bl.trans (Below.mono hb bl.size))
  replace sz := A.size.trans sz
  replace df := A.defs.trans df
  clear A hb
  show Code.wp _ _ _ _ _
  refine wp_cond_false x95 ?_
  refine wp_skip ?_
  show Code.wp _ _ _ _ _
  refine wp_seq ?_
  refine wp_all_seq [.eq (.bool false), .eq (.bool true), .eq (.bool true), .any, .any, .eq (.bool true), .eq (.bool true), .eq (.bool true), .eq (.bool true), .eq (.bool true)] (by kernel_rfl) (by kernel_rfl) (by rw [sz]; kernel_rfl) (by kernel_rfl) ⟨fun hw ac u K => ?_, fun hw ac u K => ?_, fun hw ac u K => ?_, fun hw ac u K => ?_, fun hw ac u K => ?_, fun hw ac u K => ?_, fun hw ac u K => ?_, fun hw ac u K => ?_, fun hw ac u K => ?_, fun hw ac u K => ?_, trivial⟩ ?_
  · exact st_move (.tmp 6) rfl ((K.old 6 rfl).trans x6)
  · exact st_not (.tmp 96) rfl false (K.dep 0 96 rfl)
  · exact st_move (.tmp 97) rfl (K.dep 1 97 rfl)
  · exact (Bool.false_ne_true hw).elim
  · exact (Bool.false_ne_true hw).elim
  · exact st_pick_t (.tmp 98) (.const (.bool true)) (.tmp 100) rfl (K.dep 2 98 rfl) rfl
  · exact st_move (.tmp 101) rfl (K.dep 5 101 rfl)
  · exact st_call 8 (.func 8) _ _ #[] rfl rfl rfl Tryd.enter8 (fk_of (awake_any _ (hK.below (bl.trans (Below.mono K.grow bl.size)))))
  · exact st_pick_t (.tmp 102) (.tmp 103) (.const (.bool false)) rfl (K.dep 6 102 rfl) (K.dep 7 103 rfl)
  · exact st_assign (.tmp 104) rfl (K.dep 8 104 rfl)
  intro f16 w16 A hb
  replace bl0 := bl
  replace x0 := (A.old 0 rfl).trans x0
  replace x3 := (A.old 3 rfl).trans x3
  clear x4
  replace x22 := (A.old 22 rfl).trans x22
  replace x5 := (A.old 5 rfl).trans x5
  replace x6 := (A.old 6 rfl).trans x6
  replace x7 := (A.old 7 rfl).trans x7
  replace x47 := (A.old 47 rfl).trans x47
  replace x70 := (A.old 70 rfl).trans x70
  replace x95 := (A.old 95 rfl).trans x95
  have x4 : f16.eval (.tmp 4) = .bool true := A.has 9 4 rfl
  have lt_m5 := Ob.lt m5
  replace m5 := Ob.below m5 hb
  replace bl := (bl.trans (Below.mono hb bl.size))
  replace sz := A.size.trans sz
  replace df := A.defs.trans df
  clear A hb
  show Code.wp _ _ _ _ _
  refine wp_ret ?_
  repeat (first | with_reducible refine then_ret ?_ | with_reducible refine block_ret ?_)
  exact bodyPost_ret (v := .bool true) (ret_slot rfl f16 _ x4 _ _) df ⟨rfl, (blw.trans (Below.mono bl blw.size))⟩
theorem in_law {ps : List Pt} {lb : List (BitVec 8)} {P : List (List (BitVec 8))} {aA aL aP : Option Addr} {dA nL dL dP : Nat} (hla : ps.length ≤ 140737488351232) (w : World) (hK : Tab w) (ha : (Fk.mc ps).f (.slice aA ps.length dA) w) (hl : (Fk.sl lb).f (.slice aL nL dL) w) (hp : (Fk.hc P).f (.slice aP P.length dP) w) {i n : Int} :
    Calls Tryd.prog 5 #[.slice aA ps.length dA, .agg ([.int .i64 i, .int .i64 n, .slice aL nL dL, .slice aP P.length dP] : List Value).toArray] w fun e w' => e = .returned (.bool true) ∧ Below w.heap.size w w' := by
  by_cases h : ¬ smallP ps ∨ 300 < lb.length ∨ 50 < P.length
  · exact lin_pass hla w hK ha hl hp h
  · have hs : smallP ps := Classical.byContradiction fun h2 => h (.inl h2)
    have h3 : lb.length ≤ 300 := Nat.le_of_not_lt fun h2 => h (.inr (.inl h2))
    have h5 : P.length ≤ 50 := Nat.le_of_not_lt fun h2 => h (.inr (.inr h2))
    by_cases h2 : n ≠ ps.length ∨ i < 0 ∨ (ps.length : Int) ≤ i
    · exact lin_no hla w hK ha hl hp hs h3 h5 h2
    · have hn : n = ((ps.length : Nat) : Int) := Classical.byContradiction fun h4 => h2 (.inl h4)
      obtain ⟨j, rfl⟩ : ∃ j : Nat, i = (j : Int) := ⟨i.toNat, by omega⟩
      subst hn
      exact lin_main hla w hK ha hl hp hs h3 h5 (List.getElem?_eq_getElem (by omega))
end Go.Proofs.YtfmeeimhfdnjpaaDoor
