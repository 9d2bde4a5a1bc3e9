/- CollideOn. -/
import Derived.Test.YtfmeeimhfdnjpaaDoorM19
import Derived.Test.YtfmeeimhfdnjpaaDoorM11
namespace Go.Proofs.YtfmeeimhfdnjpaaDoor
set_option maxRecDepth 100000
open Go.RowKit
theorem prOn_pos {m n : Nat} (h : 1 ≤ m) (old rt : List (BitVec 8)) (P : List (List (BitVec 8))) : prOn m n old rt P ↔ bres old P (stp m n true).1 (stp m n true).2 = some (old, rt) := by unfold prOn; rw [if_neg (by omega)]
theorem fk_on_all {old rt : List (BitVec 8)} (hold : old.length = 32) (hrt : rt.length = 32) {m n : Nat} (hmn : m ≤ n) (hn : n ≤ 1152921504606846976) {P : List (List (BitVec 8))} {v : Value} {w : World} (hv : (Fk.hc P).f v w) (hP : P.length ≤ 100000) (hK : Tab w) (h0 : m = 0 → old = shaOf [] ∧ (n = 0 → rt = old)) (r : Int) (hr : r = if prOn m n old rt P then 0 else 22) :
    Calls Tryd.prog 21 #[.int .i64 ((m : Nat) : Int), .int .i64 ((n : Nat) : Int), .agg ((old).map V).toArray, .agg ((rt).map V).toArray, v] w fun e w' => ∃ u, e = .returned u ∧ (Fk.eq (.int .i64 r)).f u w' ∧ Below w.heap.size w w' := by
  by_cases hm : m = 0
  · subst hm
    obtain ⟨e1, e2⟩ := h0 rfl
    refine fk_on_zero hold hrt hn hv hP hK r ?_
    rw [hr]
    by_cases hp : P.length = 0
    · rw [if_pos (by unfold prOn; rw [if_pos rfl]; exact hp), if_pos ⟨e1, hp, by rcases Nat.eq_zero_or_pos n with h | h; exact .inr (e2 h); exact .inl h⟩]
    · rw [if_neg (by unfold prOn; rw [if_pos rfl]; exact hp), if_neg (fun h => hp h.2.1)]
  · refine fk_on_any hold hrt (by omega) hmn hn hv hP hK r ?_
    rw [hr]
    by_cases hb : bres old P (stp m n true).1 (stp m n true).2 = some (old, rt)
    · rw [if_pos hb, if_pos ((prOn_pos (by omega) old rt P).2 hb)]
    · rw [if_neg hb, if_neg (fun h => hb ((prOn_pos (by omega) old rt P).1 h))]
set_option maxHeartbeats 1000000 in
theorem lon_pass {po pn : List Pt} {P : List (List (BitVec 8))} {aO aN aP : Option Addr} {dO dN dP : Nat} (hlo : po.length ≤ 140737488351232) (hln : pn.length ≤ 140737488351232) (w : World) (hK : Tab w) (ho : (Fk.mc po).f (.slice aO po.length dO) w) (hn : (Fk.mc pn).f (.slice aN pn.length dN) w) (hp : (Fk.hc P).f (.slice aP P.length dP) w) (h : ¬ smallP po ∨ ¬ smallP pn ∨ 50 < P.length) :
    Calls Tryd.prog 6 #[.agg ([.slice aO po.length dO, .slice aN pn.length dN, .slice aP P.length dP] : List Value).toArray] w fun e w' => e = .returned (.bool true) ∧ Below w.heap.size w w' := by
  have hom := ho.1
  have hnm := hn.1
  have hps := hc_hs hp
  go_enter Tryd.func6, Tryd.ntmps6
  refine code_both (fun f w1 => f.tmps.size = 93 ∧ f.defers = [] ∧ f.eval (.tmp 0) = .agg ([.slice aO po.length dO, .slice aN pn.length dN, .slice aP P.length dP] : List Value).toArray ∧ Below w.heap.size w (w1)) ⟨rfl, rfl, rfl, Below.refl _ _⟩ ?_
  rintro f0 w0 ⟨sz, df, x0, bl⟩
  have bl0 := bl
  refine wp_seq ?_
  refine wp_all_seq [.nw w0.heap.size 47 ([.slice aO po.length dO, .slice aN pn.length dN, .slice aP P.length dP] : List Value), .eq (.bool false)] (by kernel_rfl) (by kernel_rfl) (by rw [sz]; kernel_rfl) (by kernel_rfl) ⟨fun hw ac u K => ?_, fun hw ac u K => ?_, trivial⟩ ?_
  · exact st_box 47 (.tmp 0) rfl _ _ (by rw [show _ = _ from ((K.old 0 rfl).trans x0)]; kernel_rfl) K.grow.size
  · exact st_assign (.const (.bool false)) rfl rfl
  intro f1 w1 A hb
  replace bl0 := bl
  replace x0 := (A.old 0 rfl).trans x0
  have x1 : Fk.f (.nw w0.heap.size 47 ([.slice aO po.length dO, .slice aN pn.length dN, .slice aP P.length dP] : List Value)) (f1.eval (.tmp 1)) w1 := A.has 0 1 rfl
  have x2 : f1.eval (.tmp 2) = .bool false := A.has 1 2 rfl
  replace bl := (bl.trans (Below.mono hb bl.size))
  replace sz := A.size.trans sz
  replace df := A.defs.trans df
  clear A hb
  clear x0
  obtain ⟨g1, hg1, e1, m1⟩ := x1
  have x1 := e1
  clear e1
  have hw1 : w.heap.size ≤ g1 := Nat.le_trans bl0.size hg1
  show Code.wp _ _ _ _ _
  refine wp_seq ?_
  refine wp_seq ?_
  by_cases hso : smallP po
  rotate_left
  · skip
    refine wp_all_seq [.eq (.pointer (some ⟨g1, 0, none⟩)), .eq (.slice aO po.length dO), .eq (.bool false), .eq (.bool true), .eq (.bool true), .any, .any, .any, .any, .eq (.bool true), .eq (.bool true), .any, .any, .any, .any, .eq (.bool true)] (by kernel_rfl) (by kernel_rfl) (by rw [sz]; kernel_rfl) (by kernel_rfl) ⟨fun hw ac u K => ?_, fun hw ac u K => ?_, fun hw ac u K => ?_, fun hw ac u K => ?_, fun hw ac u K => ?_, fun hw ac u K => ?_, fun hw ac u K => ?_, fun hw ac u K => ?_, fun hw ac u K => ?_, fun hw ac u K => ?_, fun hw ac u K => ?_, fun hw ac u K => ?_, fun hw ac u K => ?_, fun hw ac u K => ?_, fun hw ac u K => ?_, fun hw ac u K => ?_, trivial⟩ ?_
    · exact st_field 47 0 (.tmp 1) rfl ((K.old 1 rfl).trans x1) (by kernel_rfl)
    · exact st_loadc 28 (.tmp 6) rfl (by kernel_rfl) (K.dep 0 6 rfl) (Ob.cell (Ob.below m1 K.grow) 0 rfl)
    · exact st_call 11 (.func 11) _ _ #[.slice aO po.length dO] rfl rfl (one_arg (K.dep 1 7 rfl)) Tryd.enter11 (fk_small hlo (Fk.mono _ _ _ _ hom (bl.trans (Below.mono K.grow bl.size))) (by symm; rw [decide_eq_false_iff_not]; exact hso))
    · exact st_not (.tmp 8) rfl false (K.dep 2 8 rfl)
    · exact st_move (.tmp 9) rfl (K.dep 3 9 rfl)
    · exact (Bool.false_ne_true hw).elim
    · exact (Bool.false_ne_true hw).elim
    · exact (Bool.false_ne_true hw).elim
    · exact (Bool.false_ne_true hw).elim
    · exact st_pick_t (.tmp 10) (.const (.bool true)) (.tmp 14) rfl (K.dep 4 10 rfl) rfl
    · exact st_move (.tmp 15) rfl (K.dep 9 15 rfl)
    · exact (Bool.false_ne_true hw).elim
    · exact (Bool.false_ne_true hw).elim
    · exact (Bool.false_ne_true hw).elim
    · exact (Bool.false_ne_true hw).elim
    · exact st_pick_t (.tmp 16) (.const (.bool true)) (.tmp 20) rfl (K.dep 10 16 rfl) rfl
    intro f2 w2 A hb
    replace bl0 := bl
    replace x1 := (A.old 1 rfl).trans x1
    replace x2 := (A.old 2 rfl).trans x2
    have x21 : f2.eval (.tmp 21) = .bool true := A.has 15 21 rfl
    have lt_m1 := Ob.lt m1
    replace m1 := Ob.below m1 hb
    replace bl := (bl.trans (Below.mono hb bl.size))
    replace sz := A.size.trans sz
    replace df := A.defs.trans df
    clear A hb
    show Code.wp _ _ _ _ _
    refine wp_cond_true x21 ?_
    refine wp_seq ?_
    refine wp_all_seq [.eq (.bool true), .eq (.bool true)] (by kernel_rfl) (by kernel_rfl) (by rw [sz]; kernel_rfl) (by kernel_rfl) ⟨fun hw ac u K => ?_, fun hw ac u K => ?_, trivial⟩ ?_
    · exact st_call 8 (.func 8) _ _ #[] rfl rfl rfl Tryd.enter8 (fk_of (awake_any _ (hK.below (bl.trans (Below.mono K.grow bl.size)))))
    · exact st_assign (.tmp 22) rfl (K.dep 0 22 rfl)
    intro f3 w3 A hb
    replace bl0 := bl
    replace x1 := (A.old 1 rfl).trans x1
    clear x2
    replace x21 := (A.old 21 rfl).trans x21
    have x2 : f3.eval (.tmp 2) = .bool true := A.has 1 2 rfl
    have lt_m1 := Ob.lt m1
    replace m1 := Ob.below m1 hb
    replace bl := (bl.trans (Below.mono hb bl.size))
    replace sz := A.size.trans sz
    replace df := A.defs.trans df
    clear A hb
    show Code.wp _ _ _ _ _
    refine wp_ret ?_
    repeat (first | with_reducible refine then_ret ?_ | with_reducible refine block_ret ?_)
    exact bodyPost_ret (v := .bool true) (ret_slot rfl f3 _ x2 _ _) df ⟨rfl, bl⟩
  by_cases hsn : smallP pn
  rotate_left
  · skip
    refine wp_all_seq [.eq (.pointer (some ⟨g1, 0, none⟩)), .eq (.slice aO po.length dO), .eq (.bool true), .eq (.bool false), .eq (.bool false), .eq (.pointer (some ⟨g1, 1, none⟩)), .eq (.slice aN pn.length dN), .eq (.bool false), .eq (.bool true), .eq (.bool true), .eq (.bool true), .any, .any, .any, .any, .eq (.bool true)] (by kernel_rfl) (by kernel_rfl) (by rw [sz]; kernel_rfl) (by kernel_rfl) ⟨fun hw ac u K => ?_, fun hw ac u K => ?_, fun hw ac u K => ?_, fun hw ac u K => ?_, fun hw ac u K => ?_, fun hw ac u K => ?_, fun hw ac u K => ?_, fun hw ac u K => ?_, fun hw ac u K => ?_, fun hw ac u K => ?_, fun hw ac u K => ?_, fun hw ac u K => ?_, fun hw ac u K => ?_, fun hw ac u K => ?_, fun hw ac u K => ?_, fun hw ac u K => ?_, trivial⟩ ?_
    · exact st_field 47 0 (.tmp 1) rfl ((K.old 1 rfl).trans x1) (by kernel_rfl)
    · exact st_loadc 28 (.tmp 6) rfl (by kernel_rfl) (K.dep 0 6 rfl) (Ob.cell (Ob.below m1 K.grow) 0 rfl)
    · exact st_call 11 (.func 11) _ _ #[.slice aO po.length dO] rfl rfl (one_arg (K.dep 1 7 rfl)) Tryd.enter11 (fk_small hlo (Fk.mono _ _ _ _ hom (bl.trans (Below.mono K.grow bl.size))) (by symm; rw [decide_eq_true_iff]; exact hso))
    · exact st_not (.tmp 8) rfl true (K.dep 2 8 rfl)
    · exact st_move (.tmp 9) rfl (K.dep 3 9 rfl)
    · exact st_field 47 1 (.tmp 1) rfl ((K.old 1 rfl).trans x1) (by kernel_rfl)
    · exact st_loadc 28 (.tmp 11) rfl (by kernel_rfl) (K.dep 5 11 rfl) (Ob.cell (Ob.below m1 K.grow) 1 rfl)
    · exact st_call 11 (.func 11) _ _ #[.slice aN pn.length dN] rfl rfl (one_arg (K.dep 6 12 rfl)) Tryd.enter11 (fk_small hln (Fk.mono _ _ _ _ hnm (bl.trans (Below.mono K.grow bl.size))) (by symm; rw [decide_eq_false_iff_not]; exact hsn))
    · exact st_not (.tmp 13) rfl false (K.dep 7 13 rfl)
    · exact st_pick_f' (.tmp 10) (.const (.bool true)) (.tmp 14) rfl (K.dep 4 10 rfl) (K.dep 8 14 rfl)
    · exact st_move (.tmp 15) rfl (K.dep 9 15 rfl)
    · exact (Bool.false_ne_true hw).elim
    · exact (Bool.false_ne_true hw).elim
    · exact (Bool.false_ne_true hw).elim
    · exact (Bool.false_ne_true hw).elim
    · exact st_pick_t (.tmp 16) (.const (.bool true)) (.tmp 20) rfl (K.dep 10 16 rfl) rfl
    intro f2 w2 A hb
    replace bl0 := bl
    replace x1 := (A.old 1 rfl).trans x1
    replace x2 := (A.old 2 rfl).trans x2
    have x21 : f2.eval (.tmp 21) = .bool true := A.has 15 21 rfl
    have lt_m1 := Ob.lt m1
    replace m1 := Ob.below m1 hb
    replace bl := (bl.trans (Below.mono hb bl.size))
    replace sz := A.size.trans sz
    replace df := A.defs.trans df
    clear A hb
    show Code.wp _ _ _ _ _
    refine wp_cond_true x21 ?_
    refine wp_seq ?_
    refine wp_all_seq [.eq (.bool true), .eq (.bool true)] (by kernel_rfl) (by kernel_rfl) (by rw [sz]; kernel_rfl) (by kernel_rfl) ⟨fun hw ac u K => ?_, fun hw ac u K => ?_, trivial⟩ ?_
    · exact st_call 8 (.func 8) _ _ #[] rfl rfl rfl Tryd.enter8 (fk_of (awake_any _ (hK.below (bl.trans (Below.mono K.grow bl.size)))))
    · exact st_assign (.tmp 22) rfl (K.dep 0 22 rfl)
    intro f3 w3 A hb
    replace bl0 := bl
    replace x1 := (A.old 1 rfl).trans x1
    clear x2
    replace x21 := (A.old 21 rfl).trans x21
    have x2 : f3.eval (.tmp 2) = .bool true := A.has 1 2 rfl
    have lt_m1 := Ob.lt m1
    replace m1 := Ob.below m1 hb
    replace bl := (bl.trans (Below.mono hb bl.size))
    replace sz := A.size.trans sz
    replace df := A.defs.trans df
    clear A hb
    show Code.wp _ _ _ _ _
    refine wp_ret ?_
    repeat (first | with_reducible refine then_ret ?_ | with_reducible refine block_ret ?_)
    exact bodyPost_ret (v := .bool true) (ret_slot rfl f3 _ x2 _ _) df ⟨rfl, bl⟩
  have h5 : 50 < P.length := (h.resolve_left (fun h => h hso)).resolve_left (fun h => h hsn)
  refine wp_all_seq [.eq (.pointer (some ⟨g1, 0, none⟩)), .eq (.slice aO po.length dO), .eq (.bool true), .eq (.bool false), .eq (.bool false), .eq (.pointer (some ⟨g1, 1, none⟩)), .eq (.slice aN pn.length dN), .eq (.bool true), .eq (.bool false), .eq (.bool false), .eq (.bool false), .eq (.pointer (some ⟨g1, 2, none⟩)), .eq (.slice aP P.length dP), .eq (.int .i64 (((P).length : Nat) : Int)), .eq (.bool true), .eq (.bool true)] (by kernel_rfl) (by kernel_rfl) (by rw [sz]; kernel_rfl) (by kernel_rfl) ⟨fun hw ac u K => ?_, fun hw ac u K => ?_, fun hw ac u K => ?_, fun hw ac u K => ?_, fun hw ac u K => ?_, fun hw ac u K => ?_, fun hw ac u K => ?_, fun hw ac u K => ?_, fun hw ac u K => ?_, fun hw ac u K => ?_, fun hw ac u K => ?_, fun hw ac u K => ?_, fun hw ac u K => ?_, fun hw ac u K => ?_, fun hw ac u K => ?_, fun hw ac u K => ?_, trivial⟩ ?_
  · exact st_field 47 0 (.tmp 1) rfl ((K.old 1 rfl).trans x1) (by kernel_rfl)
  · exact st_loadc 28 (.tmp 6) rfl (by kernel_rfl) (K.dep 0 6 rfl) (Ob.cell (Ob.below m1 K.grow) 0 rfl)
  · exact st_call 11 (.func 11) _ _ #[.slice aO po.length dO] rfl rfl (one_arg (K.dep 1 7 rfl)) Tryd.enter11 (fk_small hlo (Fk.mono _ _ _ _ hom (bl.trans (Below.mono K.grow bl.size))) (by symm; rw [decide_eq_true_iff]; exact hso))
  · exact st_not (.tmp 8) rfl true (K.dep 2 8 rfl)
  · exact st_move (.tmp 9) rfl (K.dep 3 9 rfl)
  · exact st_field 47 1 (.tmp 1) rfl ((K.old 1 rfl).trans x1) (by kernel_rfl)
  · exact st_loadc 28 (.tmp 11) rfl (by kernel_rfl) (K.dep 5 11 rfl) (Ob.cell (Ob.below m1 K.grow) 1 rfl)
  · exact st_call 11 (.func 11) _ _ #[.slice aN pn.length dN] rfl rfl (one_arg (K.dep 6 12 rfl)) Tryd.enter11 (fk_small hln (Fk.mono _ _ _ _ hnm (bl.trans (Below.mono K.grow bl.size))) (by symm; rw [decide_eq_true_iff]; exact hsn))
  · exact st_not (.tmp 13) rfl true (K.dep 7 13 rfl)
  · exact st_pick_f' (.tmp 10) (.const (.bool true)) (.tmp 14) rfl (K.dep 4 10 rfl) (K.dep 8 14 rfl)
  · exact st_move (.tmp 15) rfl (K.dep 9 15 rfl)
  · exact st_field 47 2 (.tmp 1) rfl ((K.old 1 rfl).trans x1) (by kernel_rfl)
  · exact st_loadc 35 (.tmp 17) rfl (by kernel_rfl) (K.dep 11 17 rfl) (Ob.cell (Ob.below m1 K.grow) 2 rfl)
  · exact st_lenh (.tmp 18) rfl (fk_val (K.dep 12 18 rfl) (Fk.mono _ _ _ _ hps (bl.trans (Below.mono K.grow bl.size))))
  · exact st_gtr 3 (.tmp 19) (.const (.int .i64 50)) rfl .i64 ((((P).length : Nat) : Int)) (50) (K.dep 13 19 rfl) rfl _ (by rw [eq_comm, decide_eq_true_iff]; omega)
  · exact st_pick_f' (.tmp 16) (.const (.bool true)) (.tmp 20) rfl (K.dep 10 16 rfl) (K.dep 14 20 rfl)
  intro f2 w2 A hb
  replace bl0 := bl
  replace x1 := (A.old 1 rfl).trans x1
  replace x2 := (A.old 2 rfl).trans x2
  have x21 : f2.eval (.tmp 21) = .bool true := A.has 15 21 rfl
  have lt_m1 := Ob.lt m1
  replace m1 := Ob.below m1 hb
  replace bl := (bl.trans (Below.mono hb bl.size))
  replace sz := A.size.trans sz
  replace df := A.defs.trans df
  clear A hb
  show Code.wp _ _ _ _ _
  refine wp_cond_true x21 ?_
  refine wp_seq ?_
  refine wp_all_seq [.eq (.bool true), .eq (.bool true)] (by kernel_rfl) (by kernel_rfl) (by rw [sz]; kernel_rfl) (by kernel_rfl) ⟨fun hw ac u K => ?_, fun hw ac u K => ?_, trivial⟩ ?_
  · exact st_call 8 (.func 8) _ _ #[] rfl rfl rfl Tryd.enter8 (fk_of (awake_any _ (hK.below (bl.trans (Below.mono K.grow bl.size)))))
  · exact st_assign (.tmp 22) rfl (K.dep 0 22 rfl)
  intro f3 w3 A hb
  replace bl0 := bl
  replace x1 := (A.old 1 rfl).trans x1
  clear x2
  replace x21 := (A.old 21 rfl).trans x21
  have x2 : f3.eval (.tmp 2) = .bool true := A.has 1 2 rfl
  have lt_m1 := Ob.lt m1
  replace m1 := Ob.below m1 hb
  replace bl := (bl.trans (Below.mono hb bl.size))
  replace sz := A.size.trans sz
  replace df := A.defs.trans df
  clear A hb
  show Code.wp _ _ _ _ _
  refine wp_ret ?_
  repeat (first | with_reducible refine then_ret ?_ | with_reducible refine block_ret ?_)
  exact bodyPost_ret (v := .bool true) (ret_slot rfl f3 _ x2 _ _) df ⟨rfl, bl⟩
set_option maxHeartbeats 1000000 in
theorem lon_no {po pn : List Pt} {P : List (List (BitVec 8))} {aO aN aP : Option Addr} {dO dN dP : Nat} (hlo : po.length ≤ 140737488351232) (hln : pn.length ≤ 140737488351232) (w : World) (hK : Tab w) (ho : (Fk.mc po).f (.slice aO po.length dO) w) (hn : (Fk.mc pn).f (.slice aN pn.length dN) w) (hp : (Fk.hc P).f (.slice aP P.length dP) w) (hso : smallP po) (hsn : smallP pn) (hPl : P.length ≤ 50) (h : pn.length < po.length) :
    Calls Tryd.prog 6 #[.agg ([.slice aO po.length dO, .slice aN pn.length dN, .slice aP P.length dP] : List Value).toArray] w fun e w' => e = .returned (.bool true) ∧ Below w.heap.size w w' := by
  have hom := ho.1
  have hnm := hn.1
  have hps := hc_hs hp
  go_enter Tryd.func6, Tryd.ntmps6
  refine code_both (fun f w1 => f.tmps.size = 93 ∧ f.defers = [] ∧ f.eval (.tmp 0) = .agg ([.slice aO po.length dO, .slice aN pn.length dN, .slice aP P.length dP] : List Value).toArray ∧ Below w.heap.size w (w1)) ⟨rfl, rfl, rfl, Below.refl _ _⟩ ?_
  rintro f0 w0 ⟨sz, df, x0, bl⟩
  have bl0 := bl
  refine wp_seq ?_
  refine wp_all_seq [.nw w0.heap.size 47 ([.slice aO po.length dO, .slice aN pn.length dN, .slice aP P.length dP] : List Value), .eq (.bool false)] (by kernel_rfl) (by kernel_rfl) (by rw [sz]; kernel_rfl) (by kernel_rfl) ⟨fun hw ac u K => ?_, fun hw ac u K => ?_, trivial⟩ ?_
  · exact st_box 47 (.tmp 0) rfl _ _ (by rw [show _ = _ from ((K.old 0 rfl).trans x0)]; kernel_rfl) K.grow.size
  · exact st_assign (.const (.bool false)) rfl rfl
  intro f1 w1 A hb
  replace bl0 := bl
  replace x0 := (A.old 0 rfl).trans x0
  have x1 : Fk.f (.nw w0.heap.size 47 ([.slice aO po.length dO, .slice aN pn.length dN, .slice aP P.length dP] : List Value)) (f1.eval (.tmp 1)) w1 := A.has 0 1 rfl
  have x2 : f1.eval (.tmp 2) = .bool false := A.has 1 2 rfl
  replace bl := (bl.trans (Below.mono hb bl.size))
  replace sz := A.size.trans sz
  replace df := A.defs.trans df
  clear A hb
  clear x0
  obtain ⟨g1, hg1, e1, m1⟩ := x1
  have x1 := e1
  clear e1
  have hw1 : w.heap.size ≤ g1 := Nat.le_trans bl0.size hg1
  show Code.wp _ _ _ _ _
  refine wp_seq ?_
  refine wp_seq ?_
  refine wp_all_seq [.eq (.pointer (some ⟨g1, 0, none⟩)), .eq (.slice aO po.length dO), .eq (.bool true), .eq (.bool false), .eq (.bool false), .eq (.pointer (some ⟨g1, 1, none⟩)), .eq (.slice aN pn.length dN), .eq (.bool true), .eq (.bool false), .eq (.bool false), .eq (.bool false), .eq (.pointer (some ⟨g1, 2, none⟩)), .eq (.slice aP P.length dP), .eq (.int .i64 (((P).length : Nat) : Int)), .eq (.bool false), .eq (.bool false)] (by kernel_rfl) (by kernel_rfl) (by rw [sz]; kernel_rfl) (by kernel_rfl) ⟨fun hw ac u K => ?_, fun hw ac u K => ?_, fun hw ac u K => ?_, fun hw ac u K => ?_, fun hw ac u K => ?_, fun hw ac u K => ?_, fun hw ac u K => ?_, fun hw ac u K => ?_, fun hw ac u K => ?_, fun hw ac u K => ?_, fun hw ac u K => ?_, fun hw ac u K => ?_, fun hw ac u K => ?_, fun hw ac u K => ?_, fun hw ac u K => ?_, fun hw ac u K => ?_, trivial⟩ ?_
  · exact st_field 47 0 (.tmp 1) rfl ((K.old 1 rfl).trans x1) (by kernel_rfl)
  · exact st_loadc 28 (.tmp 6) rfl (by kernel_rfl) (K.dep 0 6 rfl) (Ob.cell (Ob.below m1 K.grow) 0 rfl)
  · exact st_call 11 (.func 11) _ _ #[.slice aO po.length dO] rfl rfl (one_arg (K.dep 1 7 rfl)) Tryd.enter11 (fk_small hlo (Fk.mono _ _ _ _ hom (bl.trans (Below.mono K.grow bl.size))) (by symm; rw [decide_eq_true_iff]; exact hso))
  · exact st_not (.tmp 8) rfl true (K.dep 2 8 rfl)
  · exact st_move (.tmp 9) rfl (K.dep 3 9 rfl)
  · exact st_field 47 1 (.tmp 1) rfl ((K.old 1 rfl).trans x1) (by kernel_rfl)
  · exact st_loadc 28 (.tmp 11) rfl (by kernel_rfl) (K.dep 5 11 rfl) (Ob.cell (Ob.below m1 K.grow) 1 rfl)
  · exact st_call 11 (.func 11) _ _ #[.slice aN pn.length dN] rfl rfl (one_arg (K.dep 6 12 rfl)) Tryd.enter11 (fk_small hln (Fk.mono _ _ _ _ hnm (bl.trans (Below.mono K.grow bl.size))) (by symm; rw [decide_eq_true_iff]; exact hsn))
  · exact st_not (.tmp 13) rfl true (K.dep 7 13 rfl)
  · exact st_pick_f' (.tmp 10) (.const (.bool true)) (.tmp 14) rfl (K.dep 4 10 rfl) (K.dep 8 14 rfl)
  · exact st_move (.tmp 15) rfl (K.dep 9 15 rfl)
  · exact st_field 47 2 (.tmp 1) rfl ((K.old 1 rfl).trans x1) (by kernel_rfl)
  · exact st_loadc 35 (.tmp 17) rfl (by kernel_rfl) (K.dep 11 17 rfl) (Ob.cell (Ob.below m1 K.grow) 2 rfl)
  · exact st_lenh (.tmp 18) rfl (fk_val (K.dep 12 18 rfl) (Fk.mono _ _ _ _ hps (bl.trans (Below.mono K.grow bl.size))))
  · exact st_gtr 3 (.tmp 19) (.const (.int .i64 50)) rfl .i64 ((((P).length : Nat) : Int)) (50) (K.dep 13 19 rfl) rfl _ (by rw [eq_comm, decide_eq_false_iff_not]; omega)
  · exact st_pick_f' (.tmp 16) (.const (.bool true)) (.tmp 20) rfl (K.dep 10 16 rfl) (K.dep 14 20 rfl)
  intro f2 w2 A hb
  replace bl0 := bl
  replace x1 := (A.old 1 rfl).trans x1
  replace x2 := (A.old 2 rfl).trans x2
  have x21 : f2.eval (.tmp 21) = .bool false := A.has 15 21 rfl
  have lt_m1 := Ob.lt m1
  replace m1 := Ob.below m1 hb
  replace bl := (bl.trans (Below.mono hb bl.size))
  replace sz := A.size.trans sz
  replace df := A.defs.trans df
  clear A hb
  show Code.wp _ _ _ _ _
  refine wp_cond_false x21 ?_
  refine wp_skip ?_
  show Code.wp _ _ _ _ _
  refine wp_seq ?_
  refine wp_region_seq [.eq (.agg ([.slice aO po.length dO, .slice aN pn.length dN, .slice aP P.length dP] : List Value).toArray)] (by kernel_rfl) (by kernel_rfl) (by rw [sz]; kernel_rfl) (by kernel_rfl) ⟨fun hw ac u K => ?_, trivial⟩ ?_
  · exact st_loadz 47 (.tmp 1) rfl (g1) 0 [.slice aO po.length dO, .slice aN pn.length dN, .slice aP P.length dP] (by kernel_rfl) (by kernel_rfl) ((K.old 1 rfl).trans x1) (Ob.range (Ob.below m1 K.grow) 0 _ (fun j v hj => by simpa using hj))
  intro f3 w3 A hb
  replace bl0 := bl
  replace x1 := (A.old 1 rfl).trans x1
  replace x2 := (A.old 2 rfl).trans x2
  replace x21 := (A.old 21 rfl).trans x21
  have x24 : f3.eval (.tmp 24) = .agg ([.slice aO po.length dO, .slice aN pn.length dN, .slice aP P.length dP] : List Value).toArray := A.has 0 24 rfl
  have lt_m1 := Ob.lt m1
  replace m1 := Ob.below m1 hb
  replace bl := (bl.trans (Below.mono hb bl.size))
  replace sz := A.size.trans sz
  replace df := A.defs.trans df
  clear A hb
  refine wl_call 20 (.func 20) _ _ #[.agg ([.slice aO po.length dO, .slice aN pn.length dN, .slice aP P.length dP] : List Value).toArray] rfl 25 rfl (by rw [sz]; decide) rfl rfl (one_arg x24) Tryd.enter20 (fun u W => (Fk.c3 false 11).f u W ∧ Below w3.heap.size w3 W) (fk_con_no hso hsn hPl (Fk.mono _ _ _ _ ho bl) (Fk.mono _ _ _ _ hn bl) (Fk.mono _ _ _ _ hp bl) (hK.below bl) h) ?_
  rintro f4 w4 df2 sz2 old2 ⟨⟨A, B, u1, u2, new2, hA, hB, hlA, hlB, hr1⟩, hb⟩
  obtain ⟨pA, mA, cA, _, _, rfl, _⟩ := id hA
  obtain ⟨pB, mB, cB, _, _, rfl, _⟩ := id hB
  replace bl0 := bl
  replace x1 := (old2 1 rfl).trans x1
  replace x2 := (old2 2 rfl).trans x2
  replace x21 := (old2 21 rfl).trans x21
  replace x24 := (old2 24 rfl).trans x24
  have x25 : f4.eval (.tmp 25) = .tuple #[.agg ([.slice pA mA cA, .slice pB mB cB] : List Value).toArray, .bool false, .int .i64 11] := new2
  have lt_m1 := Ob.lt m1
  replace m1 := Ob.below m1 hb
  replace bl := (bl.trans (Below.mono hb bl.size))
  replace sz := sz2.trans sz
  replace df := df2.trans df
  clear df2 sz2 old2 new2 hb
  have blw := bl
  replace ho := Fk.mono _ _ _ _ ho bl
  replace hom := Fk.mono _ _ _ _ hom bl
  replace hn := Fk.mono _ _ _ _ hn bl
  replace hnm := Fk.mono _ _ _ _ hnm bl
  replace hp := Fk.mono _ _ _ _ hp bl
  replace hps := Fk.mono _ _ _ _ hps bl
  replace hK := hK.below bl
  replace bl := Below.refl w4.heap.size w4
  replace bl0 := bl
  clear x24
  refine wl_one (.eq (.tuple #[.agg ([.slice pA mA cA, .slice pB mB cB] : List Value).toArray, .bool false, .int .i64 11])) rfl 23 rfl (by rw [sz]; decide) (st_move (.tmp 25) rfl x25) ?_
  intro f5 w5 df2 sz2 old2 new2 hb
  replace bl0 := bl
  replace x1 := (old2 1 rfl).trans x1
  replace x2 := (old2 2 rfl).trans x2
  replace x21 := (old2 21 rfl).trans x21
  replace x25 := (old2 25 rfl).trans x25
  have x23 : f5.eval (.tmp 23) = .tuple #[.agg ([.slice pA mA cA, .slice pB mB cB] : List Value).toArray, .bool false, .int .i64 11] := new2
  replace bl := (bl.trans (Below.mono hb bl.size))
  replace sz := sz2.trans sz
  replace df := df2.trans df
  clear df2 sz2 old2 new2 hb
  clear x25
  refine wl_one (.eq (.agg ([.slice pA mA cA, .slice pB mB cB] : List Value).toArray)) rfl 26 rfl (by rw [sz]; decide) (st_tup (.tmp 23) rfl x23 (by rfl)) ?_
  intro f6 w6 df2 sz2 old2 new2 hb
  replace bl0 := bl
  replace x1 := (old2 1 rfl).trans x1
  replace x2 := (old2 2 rfl).trans x2
  replace x21 := (old2 21 rfl).trans x21
  replace x23 := (old2 23 rfl).trans x23
  have x26 : f6.eval (.tmp 26) = .agg ([.slice pA mA cA, .slice pB mB cB] : List Value).toArray := new2
  replace bl := (bl.trans (Below.mono hb bl.size))
  replace sz := sz2.trans sz
  replace df := df2.trans df
  clear df2 sz2 old2 new2 hb
  refine wl_one (.eq (.bool false)) rfl 27 rfl (by rw [sz]; decide) (st_tup (.tmp 23) rfl x23 (by rfl)) ?_
  intro f7 w7 df2 sz2 old2 new2 hb
  replace bl0 := bl
  replace x1 := (old2 1 rfl).trans x1
  replace x2 := (old2 2 rfl).trans x2
  replace x21 := (old2 21 rfl).trans x21
  replace x23 := (old2 23 rfl).trans x23
  replace x26 := (old2 26 rfl).trans x26
  have x27 : f7.eval (.tmp 27) = .bool false := new2
  replace bl := (bl.trans (Below.mono hb bl.size))
  replace sz := sz2.trans sz
  replace df := df2.trans df
  clear df2 sz2 old2 new2 hb
  refine wl_one (.eq (.int .i64 11)) rfl 28 rfl (by rw [sz]; decide) (st_tup (.tmp 23) rfl x23 (by rfl)) ?_
  intro f8 w8 df2 sz2 old2 new2 hb
  replace bl0 := bl
  replace x1 := (old2 1 rfl).trans x1
  replace x2 := (old2 2 rfl).trans x2
  replace x21 := (old2 21 rfl).trans x21
  replace x23 := (old2 23 rfl).trans x23
  replace x26 := (old2 26 rfl).trans x26
  replace x27 := (old2 27 rfl).trans x27
  have x28 : f8.eval (.tmp 28) = .int .i64 11 := new2
  replace bl := (bl.trans (Below.mono hb bl.size))
  replace sz := sz2.trans sz
  replace df := df2.trans df
  clear df2 sz2 old2 new2 hb
  clear x23
  refine wl_one (.nw w8.heap.size 25 [.slice none 0 0, .slice none 0 0]) rfl 3 rfl (by rw [sz]; decide) (st_alloc 25 rfl _ _ (by kernel_rfl) (Nat.le_refl _)) ?_
  intro f9 w9 df2 sz2 old2 new2 hb
  replace bl0 := bl
  replace x1 := (old2 1 rfl).trans x1
  replace x2 := (old2 2 rfl).trans x2
  replace x21 := (old2 21 rfl).trans x21
  replace x26 := (old2 26 rfl).trans x26
  replace x27 := (old2 27 rfl).trans x27
  replace x28 := (old2 28 rfl).trans x28
  have x3 : Fk.f (.nw w8.heap.size 25 [.slice none 0 0, .slice none 0 0]) (f9.eval (.tmp 3)) w9 := new2
  replace bl := (bl.trans (Below.mono hb bl.size))
  replace sz := sz2.trans sz
  replace df := df2.trans df
  clear df2 sz2 old2 new2 hb
  obtain ⟨g3, hg3, e3, m3⟩ := x3
  have x3 := e3
  clear e3
  have nm1_3 : g1 ≠ g3 := Nat.ne_of_lt (Nat.lt_of_lt_of_le (Ob.lt m1) (Nat.le_trans bl0.size hg3))
  have hw3 : w4.heap.size ≤ g3 := Nat.le_trans bl0.size hg3
  refine wl_str rfl 25 (.tmp 3) (.tmp 26) rfl rfl (g3) ([.slice pA mA cA, .slice pB mB cB] : List Value).toArray x3 x26 25 _ m3 (by kernel_rfl) (by kernel_rfl) (by kernel_rfl) ?_
  replace m3 : Ob (w9.setRow g3 ([.slice pA mA cA, .slice pB mB cB] : List Value).toArray) (g3) 25 ([.slice pA mA cA, .slice pB mB cB]) := Ob.setRow m3 ([.slice pA mA cA, .slice pB mB cB])
  replace bl : Below w4.heap.size w4 (w9.setRow g3 ([.slice pA mA cA, .slice pB mB cB] : List Value).toArray) := bl.trans (below_setRow _ _ _ _ hw3)
  generalize w9.setRow g3 ([.slice pA mA cA, .slice pB mB cB] : List Value).toArray = w10b at bl m3 ⊢
  clear x26
  refine wl_one (.eq (.bool false)) rfl 4 rfl (by rw [sz]; decide) (st_assign (.tmp 27) rfl x27) ?_
  intro f11 w11 df2 sz2 old2 new2 hb
  replace bl0 := bl
  replace x1 := (old2 1 rfl).trans x1
  replace x2 := (old2 2 rfl).trans x2
  replace x21 := (old2 21 rfl).trans x21
  replace x27 := (old2 27 rfl).trans x27
  replace x28 := (old2 28 rfl).trans x28
  replace x3 := (old2 3 rfl).trans x3
  have x4 : f11.eval (.tmp 4) = .bool false := new2
  have lt_m3 := Ob.lt m3
  replace m3 := Ob.below m3 hb
  replace bl := (bl.trans (Below.mono hb bl.size))
  replace sz := sz2.trans sz
  replace df := df2.trans df
  clear df2 sz2 old2 new2 hb
  clear x27
  refine wl_one (.eq (.int .i64 11)) rfl 5 rfl (by rw [sz]; decide) (st_assign (.tmp 28) rfl x28) ?_
  intro f12 w12 df2 sz2 old2 new2 hb
  replace bl0 := bl
  replace x1 := (old2 1 rfl).trans x1
  replace x2 := (old2 2 rfl).trans x2
  replace x21 := (old2 21 rfl).trans x21
  replace x28 := (old2 28 rfl).trans x28
  replace x3 := (old2 3 rfl).trans x3
  replace x4 := (old2 4 rfl).trans x4
  have x5 : f12.eval (.tmp 5) = .int .i64 11 := new2
  have lt_m3 := Ob.lt m3
  replace m3 := Ob.below m3 hb
  replace bl := (bl.trans (Below.mono hb bl.size))
  replace sz := sz2.trans sz
  replace df := df2.trans df
  clear df2 sz2 old2 new2 hb
  refine wpList_nil ?_
  clear x28
  show Code.wp _ _ _ _ _
  refine wp_seq ?_
  refine wp_seq ?_
  refine wp_all_seq [.eq (.pointer (some ⟨g1, 0, none⟩)), .eq (.slice aO po.length dO), .eq (.int .i64 (((po).length : Nat) : Int)), .eq (.pointer (some ⟨g1, 1, none⟩)), .eq (.slice aN pn.length dN), .eq (.int .i64 (((pn).length : Nat) : Int)), .eq (.bool true)] (by kernel_rfl) (by kernel_rfl) (by rw [sz]; kernel_rfl) (by kernel_rfl) ⟨fun hw ac u K => ?_, fun hw ac u K => ?_, fun hw ac u K => ?_, fun hw ac u K => ?_, fun hw ac u K => ?_, fun hw ac u K => ?_, fun hw ac u K => ?_, trivial⟩ ?_
  · exact st_field 47 0 (.tmp 1) rfl ((K.old 1 rfl).trans x1) (by kernel_rfl)
  · exact st_loadc 28 (.tmp 29) rfl (by kernel_rfl) (K.dep 0 29 rfl) (Ob.cell (Ob.below m1 (bl.trans (Below.mono K.grow bl.size))) 0 rfl)
  · exact st_lenm (.tmp 30) rfl (fk_val (K.dep 1 30 rfl) (Fk.mono _ _ _ _ hom (bl.trans (Below.mono K.grow bl.size))))
  · exact st_field 47 1 (.tmp 1) rfl ((K.old 1 rfl).trans x1) (by kernel_rfl)
  · exact st_loadc 28 (.tmp 32) rfl (by kernel_rfl) (K.dep 3 32 rfl) (Ob.cell (Ob.below m1 (bl.trans (Below.mono K.grow bl.size))) 1 rfl)
  · exact st_lenm (.tmp 33) rfl (fk_val (K.dep 4 33 rfl) (Fk.mono _ _ _ _ hnm (bl.trans (Below.mono K.grow bl.size))))
  · exact st_gtr 3 (.tmp 31) (.tmp 34) rfl .i64 ((((po).length : Nat) : Int)) ((((pn).length : Nat) : Int)) (K.dep 2 31 rfl) (K.dep 5 34 rfl) _ (by symm; rw [decide_eq_true_iff]; exact (by omega))
  intro f13 w13 A hb
  replace bl0 := bl
  replace x1 := (A.old 1 rfl).trans x1
  replace x2 := (A.old 2 rfl).trans x2
  replace x21 := (A.old 21 rfl).trans x21
  replace x3 := (A.old 3 rfl).trans x3
  replace x4 := (A.old 4 rfl).trans x4
  replace x5 := (A.old 5 rfl).trans x5
  have x35 : f13.eval (.tmp 35) = .bool true := A.has 6 35 rfl
  have lt_m3 := Ob.lt m3
  replace m3 := Ob.below m3 hb
  replace bl := (bl.trans (Below.mono hb bl.size))
  replace sz := A.size.trans sz
  replace df := A.defs.trans df
  clear A hb
  show Code.wp _ _ _ _ _
  refine wp_cond_true x35 ?_
  refine wp_seq ?_
  refine wp_all_seq [.eq (.int .i64 11), .eq (.bool true), .eq (.bool true), .eq (.bool false), .eq (.bool true), .eq (.bool true), .eq (.bool true), .eq (.bool true), .eq (.bool true), .eq (.bool true)] (by kernel_rfl) (by kernel_rfl) (by rw [sz]; kernel_rfl) (by kernel_rfl) ⟨fun hw ac u K => ?_, fun hw ac u K => ?_, fun hw ac u K => ?_, fun hw ac u K => ?_, fun hw ac u K => ?_, fun hw ac u K => ?_, fun hw ac u K => ?_, fun hw ac u K => ?_, fun hw ac u K => ?_, fun hw ac u K => ?_, trivial⟩ ?_
  · exact st_move (.tmp 5) rfl ((K.old 5 rfl).trans x5)
  · exact st_eqi 40 (.tmp 36) (.const (.int .i64 11)) rfl .i64 (11) (11) (K.dep 0 36 rfl) rfl _ (by rfl)
  · exact st_move (.tmp 37) rfl (K.dep 1 37 rfl)
  · exact st_move (.tmp 4) rfl ((K.old 4 rfl).trans x4)
  · exact st_not (.tmp 39) rfl false (K.dep 3 39 rfl)
  · exact st_pick_t (.tmp 38) (.tmp 40) (.const (.bool false)) rfl (K.dep 2 38 rfl) (K.dep 4 40 rfl)
  · exact st_move (.tmp 41) rfl (K.dep 5 41 rfl)
  · exact st_call 8 (.func 8) _ _ #[] rfl rfl rfl Tryd.enter8 (fk_of (awake_any _ (hK.below (bl.trans (Below.mono K.grow bl.size)))))
  · exact st_pick_t (.tmp 42) (.tmp 43) (.const (.bool false)) rfl (K.dep 6 42 rfl) (K.dep 7 43 rfl)
  · exact st_assign (.tmp 44) rfl (K.dep 8 44 rfl)
  intro f14 w14 A hb
  replace bl0 := bl
  replace x1 := (A.old 1 rfl).trans x1
  clear x2
  replace x21 := (A.old 21 rfl).trans x21
  replace x3 := (A.old 3 rfl).trans x3
  replace x4 := (A.old 4 rfl).trans x4
  replace x5 := (A.old 5 rfl).trans x5
  replace x35 := (A.old 35 rfl).trans x35
  have x2 : f14.eval (.tmp 2) = .bool true := A.has 9 2 rfl
  have lt_m3 := Ob.lt m3
  replace m3 := Ob.below m3 hb
  replace bl := (bl.trans (Below.mono hb bl.size))
  replace sz := A.size.trans sz
  replace df := A.defs.trans df
  clear A hb
  show Code.wp _ _ _ _ _
  refine wp_ret ?_
  repeat (first | with_reducible refine then_ret ?_ | with_reducible refine block_ret ?_)
  exact bodyPost_ret (v := .bool true) (ret_slot rfl f14 _ x2 _ _) df ⟨rfl, (blw.trans (Below.mono bl blw.size))⟩
set_option maxHeartbeats 1000000 in
theorem lon_main {po pn : List Pt} {P : List (List (BitVec 8))} {aO aN aP : Option Addr} {dO dN dP : Nat} (hlo : po.length ≤ 140737488351232) (hln : pn.length ≤ 140737488351232) (w : World) (hK : Tab w) (ho : (Fk.mc po).f (.slice aO po.length dO) w) (hn : (Fk.mc pn).f (.slice aN pn.length dN) w) (hp : (Fk.hc P).f (.slice aP P.length dP) w) (hso : smallP po) (hsn : smallP pn) (hPl : P.length ≤ 50) (h : po.length ≤ pn.length) :
    Calls Tryd.prog 6 #[.agg ([.slice aO po.length dO, .slice aN pn.length dN, .slice aP P.length dP] : List Value).toArray] w fun e w' => e = .returned (.bool true) ∧ Below w.heap.size w w' := by
  have hom := ho.1
  have hnm := hn.1
  have hps := hc_hs hp
  have h40 := hso.2
  have h41 := hsn.2
  have hxo := fun p hp => Nat.le_trans (hso.1 p hp) (show 200 ≤ 140737488351232 by omega)
  have hxn := fun p hp => Nat.le_trans (hsn.1 p hp) (show 200 ≤ 140737488351232 by omega)
  obtain ⟨ov, eov⟩ : ∃ x, Box (mroot (lhs po) = x) := ⟨_, ⟨rfl⟩⟩
  obtain ⟨nv, env⟩ : ∃ x, Box (mroot (lhs pn) = x) := ⟨_, ⟨rfl⟩⟩
  have hov : ov.length = 32 := by rw [← eov.out]; exact mroot_len (lhs_32 po)
  have hnv : nv.length = 32 := by rw [← env.out]; exact mroot_len (lhs_32 pn)
  have h0 : po.length = 0 → ov = shaOf [] ∧ (pn.length = 0 → nv = ov) := fun h1 => by
    have e1 := List.eq_nil_of_length_eq_zero h1
    have e2 : lhs po = [] := by rw [e1]; rfl
    refine ⟨by rw [← eov.out, e2, mroot_nil], fun h2 => ?_⟩
    have e3 : lhs pn = [] := by rw [List.eq_nil_of_length_eq_zero h2]; rfl
    rw [← eov.out, ← env.out, e2, e3]
  go_enter Tryd.func6, Tryd.ntmps6
  refine code_both (fun f w1 => f.tmps.size = 93 ∧ f.defers = [] ∧ f.eval (.tmp 0) = .agg ([.slice aO po.length dO, .slice aN pn.length dN, .slice aP P.length dP] : List Value).toArray ∧ Below w.heap.size w (w1)) ⟨rfl, rfl, rfl, Below.refl _ _⟩ ?_
  rintro f0 w0 ⟨sz, df, x0, bl⟩
  have bl0 := bl
  refine wp_seq ?_
  refine wp_all_seq [.nw w0.heap.size 47 ([.slice aO po.length dO, .slice aN pn.length dN, .slice aP P.length dP] : List Value), .eq (.bool false)] (by kernel_rfl) (by kernel_rfl) (by rw [sz]; kernel_rfl) (by kernel_rfl) ⟨fun hw ac u K => ?_, fun hw ac u K => ?_, trivial⟩ ?_
  · exact st_box 47 (.tmp 0) rfl _ _ (by rw [show _ = _ from ((K.old 0 rfl).trans x0)]; kernel_rfl) K.grow.size
  · exact st_assign (.const (.bool false)) rfl rfl
  intro f1 w1 A hb
  replace bl0 := bl
  replace x0 := (A.old 0 rfl).trans x0
  have x1 : Fk.f (.nw w0.heap.size 47 ([.slice aO po.length dO, .slice aN pn.length dN, .slice aP P.length dP] : List Value)) (f1.eval (.tmp 1)) w1 := A.has 0 1 rfl
  have x2 : f1.eval (.tmp 2) = .bool false := A.has 1 2 rfl
  replace bl := (bl.trans (Below.mono hb bl.size))
  replace sz := A.size.trans sz
  replace df := A.defs.trans df
  clear A hb
  clear x0
  obtain ⟨g1, hg1, e1, m1⟩ := x1
  have x1 := e1
  clear e1
  have hw1 : w.heap.size ≤ g1 := Nat.le_trans bl0.size hg1
  show Code.wp _ _ _ _ _
  refine wp_seq ?_
  refine wp_seq ?_
  refine wp_all_seq [.eq (.pointer (some ⟨g1, 0, none⟩)), .eq (.slice aO po.length dO), .eq (.bool true), .eq (.bool false), .eq (.bool false), .eq (.pointer (some ⟨g1, 1, none⟩)), .eq (.slice aN pn.length dN), .eq (.bool true), .eq (.bool false), .eq (.bool false), .eq (.bool false), .eq (.pointer (some ⟨g1, 2, none⟩)), .eq (.slice aP P.length dP), .eq (.int .i64 (((P).length : Nat) : Int)), .eq (.bool false), .eq (.bool false)] (by kernel_rfl) (by kernel_rfl) (by rw [sz]; kernel_rfl) (by kernel_rfl) ⟨fun hw ac u K => ?_, fun hw ac u K => ?_, fun hw ac u K => ?_, fun hw ac u K => ?_, fun hw ac u K => ?_, fun hw ac u K => ?_, fun hw ac u K => ?_, fun hw ac u K => ?_, fun hw ac u K => ?_, fun hw ac u K => ?_, fun hw ac u K => ?_, fun hw ac u K => ?_, fun hw ac u K => ?_, fun hw ac u K => ?_, fun hw ac u K => ?_, fun hw ac u K => ?_, trivial⟩ ?_
  · exact st_field 47 0 (.tmp 1) rfl ((K.old 1 rfl).trans x1) (by kernel_rfl)
  · exact st_loadc 28 (.tmp 6) rfl (by kernel_rfl) (K.dep 0 6 rfl) (Ob.cell (Ob.below m1 K.grow) 0 rfl)
  · exact st_call 11 (.func 11) _ _ #[.slice aO po.length dO] rfl rfl (one_arg (K.dep 1 7 rfl)) Tryd.enter11 (fk_small hlo (Fk.mono _ _ _ _ hom (bl.trans (Below.mono K.grow bl.size))) (by symm; rw [decide_eq_true_iff]; exact hso))
  · exact st_not (.tmp 8) rfl true (K.dep 2 8 rfl)
  · exact st_move (.tmp 9) rfl (K.dep 3 9 rfl)
  · exact st_field 47 1 (.tmp 1) rfl ((K.old 1 rfl).trans x1) (by kernel_rfl)
  · exact st_loadc 28 (.tmp 11) rfl (by kernel_rfl) (K.dep 5 11 rfl) (Ob.cell (Ob.below m1 K.grow) 1 rfl)
  · exact st_call 11 (.func 11) _ _ #[.slice aN pn.length dN] rfl rfl (one_arg (K.dep 6 12 rfl)) Tryd.enter11 (fk_small hln (Fk.mono _ _ _ _ hnm (bl.trans (Below.mono K.grow bl.size))) (by symm; rw [decide_eq_true_iff]; exact hsn))
  · exact st_not (.tmp 13) rfl true (K.dep 7 13 rfl)
  · exact st_pick_f' (.tmp 10) (.const (.bool true)) (.tmp 14) rfl (K.dep 4 10 rfl) (K.dep 8 14 rfl)
  · exact st_move (.tmp 15) rfl (K.dep 9 15 rfl)
  · exact st_field 47 2 (.tmp 1) rfl ((K.old 1 rfl).trans x1) (by kernel_rfl)
  · exact st_loadc 35 (.tmp 17) rfl (by kernel_rfl) (K.dep 11 17 rfl) (Ob.cell (Ob.below m1 K.grow) 2 rfl)
  · exact st_lenh (.tmp 18) rfl (fk_val (K.dep 12 18 rfl) (Fk.mono _ _ _ _ hps (bl.trans (Below.mono K.grow bl.size))))
  · exact st_gtr 3 (.tmp 19) (.const (.int .i64 50)) rfl .i64 ((((P).length : Nat) : Int)) (50) (K.dep 13 19 rfl) rfl _ (by rw [eq_comm, decide_eq_false_iff_not]; omega)
  · exact st_pick_f' (.tmp 16) (.const (.bool true)) (.tmp 20) rfl (K.dep 10 16 rfl) (K.dep 14 20 rfl)
  intro f2 w2 A hb
  replace bl0 := bl
  replace x1 := (A.old 1 rfl).trans x1
  replace x2 := (A.old 2 rfl).trans x2
  have x21 : f2.eval (.tmp 21) = .bool false := A.has 15 21 rfl
  have lt_m1 := Ob.lt m1
  replace m1 := Ob.below m1 hb
  replace bl := (bl.trans (Below.mono hb bl.size))
  replace sz := A.size.trans sz
  replace df := A.defs.trans df
  clear A hb
  show Code.wp _ _ _ _ _
  refine wp_cond_false x21 ?_
  refine wp_skip ?_
  show Code.wp _ _ _ _ _
  refine wp_seq ?_
  by_cases hr : prOn po.length pn.length ov nv P
  rotate_left
  · skip
    refine wp_region_seq [.eq (.agg ([.slice aO po.length dO, .slice aN pn.length dN, .slice aP P.length dP] : List Value).toArray)] (by kernel_rfl) (by kernel_rfl) (by rw [sz]; kernel_rfl) (by kernel_rfl) ⟨fun hw ac u K => ?_, trivial⟩ ?_
    · exact st_loadz 47 (.tmp 1) rfl (g1) 0 [.slice aO po.length dO, .slice aN pn.length dN, .slice aP P.length dP] (by kernel_rfl) (by kernel_rfl) ((K.old 1 rfl).trans x1) (Ob.range (Ob.below m1 K.grow) 0 _ (fun j v hj => by simpa using hj))
    intro f3 w3 A hb
    replace bl0 := bl
    replace x1 := (A.old 1 rfl).trans x1
    replace x2 := (A.old 2 rfl).trans x2
    replace x21 := (A.old 21 rfl).trans x21
    have x24 : f3.eval (.tmp 24) = .agg ([.slice aO po.length dO, .slice aN pn.length dN, .slice aP P.length dP] : List Value).toArray := A.has 0 24 rfl
    have lt_m1 := Ob.lt m1
    replace m1 := Ob.below m1 hb
    replace bl := (bl.trans (Below.mono hb bl.size))
    replace sz := A.size.trans sz
    replace df := A.defs.trans df
    clear A hb
    refine wl_call 20 (.func 20) _ _ #[.agg ([.slice aO po.length dO, .slice aN pn.length dN, .slice aP P.length dP] : List Value).toArray] rfl 25 rfl (by rw [sz]; decide) rfl rfl (one_arg x24) Tryd.enter20 (fun u W => (Fk.c3 false 22).f u W ∧ Below w3.heap.size w3 W) (fk_con_bad hso hsn hPl (Fk.mono _ _ _ _ ho bl) (Fk.mono _ _ _ _ hn bl) (Fk.mono _ _ _ _ hp bl) (hK.below bl) h (by rw [eov.out, env.out]; exact hr)) ?_
    rintro f4 w4 df2 sz2 old2 ⟨⟨A, B, u1, u2, new2, hA, hB, hlA, hlB, hr1⟩, hb⟩
    obtain ⟨pA, mA, cA, _, _, rfl, _⟩ := id hA
    obtain ⟨pB, mB, cB, _, _, rfl, _⟩ := id hB
    replace bl0 := bl
    replace x1 := (old2 1 rfl).trans x1
    replace x2 := (old2 2 rfl).trans x2
    replace x21 := (old2 21 rfl).trans x21
    replace x24 := (old2 24 rfl).trans x24
    have x25 : f4.eval (.tmp 25) = .tuple #[.agg ([.slice pA mA cA, .slice pB mB cB] : List Value).toArray, .bool false, .int .i64 22] := new2
    have lt_m1 := Ob.lt m1
    replace m1 := Ob.below m1 hb
    replace bl := (bl.trans (Below.mono hb bl.size))
    replace sz := sz2.trans sz
    replace df := df2.trans df
    clear df2 sz2 old2 new2 hb
    have blw := bl
    replace ho := Fk.mono _ _ _ _ ho bl
    replace hom := Fk.mono _ _ _ _ hom bl
    replace hn := Fk.mono _ _ _ _ hn bl
    replace hnm := Fk.mono _ _ _ _ hnm bl
    replace hp := Fk.mono _ _ _ _ hp bl
    replace hps := Fk.mono _ _ _ _ hps bl
    replace hK := hK.below bl
    replace bl := Below.refl w4.heap.size w4
    replace bl0 := bl
    clear x24
    refine wl_one (.eq (.tuple #[.agg ([.slice pA mA cA, .slice pB mB cB] : List Value).toArray, .bool false, .int .i64 22])) rfl 23 rfl (by rw [sz]; decide) (st_move (.tmp 25) rfl x25) ?_
    intro f5 w5 df2 sz2 old2 new2 hb
    replace bl0 := bl
    replace x1 := (old2 1 rfl).trans x1
    replace x2 := (old2 2 rfl).trans x2
    replace x21 := (old2 21 rfl).trans x21
    replace x25 := (old2 25 rfl).trans x25
    have x23 : f5.eval (.tmp 23) = .tuple #[.agg ([.slice pA mA cA, .slice pB mB cB] : List Value).toArray, .bool false, .int .i64 22] := new2
    replace bl := (bl.trans (Below.mono hb bl.size))
    replace sz := sz2.trans sz
    replace df := df2.trans df
    clear df2 sz2 old2 new2 hb
    clear x25
    refine wl_one (.eq (.agg ([.slice pA mA cA, .slice pB mB cB] : List Value).toArray)) rfl 26 rfl (by rw [sz]; decide) (st_tup (.tmp 23) rfl x23 (by rfl)) ?_
    intro f6 w6 df2 sz2 old2 new2 hb
    replace bl0 := bl
    replace x1 := (old2 1 rfl).trans x1
    replace x2 := (old2 2 rfl).trans x2
    replace x21 := (old2 21 rfl).trans x21
    replace x23 := (old2 23 rfl).trans x23
    have x26 : f6.eval (.tmp 26) = .agg ([.slice pA mA cA, .slice pB mB cB] : List Value).toArray := new2
    replace bl := (bl.trans (Below.mono hb bl.size))
    replace sz := sz2.trans sz
    replace df := df2.trans df
    clear df2 sz2 old2 new2 hb
    refine wl_one (.eq (.bool false)) rfl 27 rfl (by rw [sz]; decide) (st_tup (.tmp 23) rfl x23 (by rfl)) ?_
    intro f7 w7 df2 sz2 old2 new2 hb
    replace bl0 := bl
    replace x1 := (old2 1 rfl).trans x1
    replace x2 := (old2 2 rfl).trans x2
    replace x21 := (old2 21 rfl).trans x21
    replace x23 := (old2 23 rfl).trans x23
    replace x26 := (old2 26 rfl).trans x26
    have x27 : f7.eval (.tmp 27) = .bool false := new2
    replace bl := (bl.trans (Below.mono hb bl.size))
    replace sz := sz2.trans sz
    replace df := df2.trans df
    clear df2 sz2 old2 new2 hb
    refine wl_one (.eq (.int .i64 22)) rfl 28 rfl (by rw [sz]; decide) (st_tup (.tmp 23) rfl x23 (by rfl)) ?_
    intro f8 w8 df2 sz2 old2 new2 hb
    replace bl0 := bl
    replace x1 := (old2 1 rfl).trans x1
    replace x2 := (old2 2 rfl).trans x2
    replace x21 := (old2 21 rfl).trans x21
    replace x23 := (old2 23 rfl).trans x23
    replace x26 := (old2 26 rfl).trans x26
    replace x27 := (old2 27 rfl).trans x27
    have x28 : f8.eval (.tmp 28) = .int .i64 22 := new2
    replace bl := (bl.trans (Below.mono hb bl.size))
    replace sz := sz2.trans sz
    replace df := df2.trans df
    clear df2 sz2 old2 new2 hb
    clear x23
    refine wl_one (.nw w8.heap.size 25 [.slice none 0 0, .slice none 0 0]) rfl 3 rfl (by rw [sz]; decide) (st_alloc 25 rfl _ _ (by kernel_rfl) (Nat.le_refl _)) ?_
    intro f9 w9 df2 sz2 old2 new2 hb
    replace bl0 := bl
    replace x1 := (old2 1 rfl).trans x1
    replace x2 := (old2 2 rfl).trans x2
    replace x21 := (old2 21 rfl).trans x21
    replace x26 := (old2 26 rfl).trans x26
    replace x27 := (old2 27 rfl).trans x27
    replace x28 := (old2 28 rfl).trans x28
    have x3 : Fk.f (.nw w8.heap.size 25 [.slice none 0 0, .slice none 0 0]) (f9.eval (.tmp 3)) w9 := new2
    replace bl := (bl.trans (Below.mono hb bl.size))
    replace sz := sz2.trans sz
    replace df := df2.trans df
    clear df2 sz2 old2 new2 hb
    obtain ⟨g3, hg3, e3, m3⟩ := x3
    have x3 := e3
    clear e3
    have nm1_3 : g1 ≠ g3 := Nat.ne_of_lt (Nat.lt_of_lt_of_le (Ob.lt m1) (Nat.le_trans bl0.size hg3))
    have hw3 : w4.heap.size ≤ g3 := Nat.le_trans bl0.size hg3
    refine wl_str rfl 25 (.tmp 3) (.tmp 26) rfl rfl (g3) ([.slice pA mA cA, .slice pB mB cB] : List Value).toArray x3 x26 25 _ m3 (by kernel_rfl) (by kernel_rfl) (by kernel_rfl) ?_
    replace m3 : Ob (w9.setRow g3 ([.slice pA mA cA, .slice pB mB cB] : List Value).toArray) (g3) 25 ([.slice pA mA cA, .slice pB mB cB]) := Ob.setRow m3 ([.slice pA mA cA, .slice pB mB cB])
    replace bl : Below w4.heap.size w4 (w9.setRow g3 ([.slice pA mA cA, .slice pB mB cB] : List Value).toArray) := bl.trans (below_setRow _ _ _ _ hw3)
    generalize w9.setRow g3 ([.slice pA mA cA, .slice pB mB cB] : List Value).toArray = w10b at bl m3 ⊢
    clear x26
    refine wl_one (.eq (.bool false)) rfl 4 rfl (by rw [sz]; decide) (st_assign (.tmp 27) rfl x27) ?_
    intro f11 w11 df2 sz2 old2 new2 hb
    replace bl0 := bl
    replace x1 := (old2 1 rfl).trans x1
    replace x2 := (old2 2 rfl).trans x2
    replace x21 := (old2 21 rfl).trans x21
    replace x27 := (old2 27 rfl).trans x27
    replace x28 := (old2 28 rfl).trans x28
    replace x3 := (old2 3 rfl).trans x3
    have x4 : f11.eval (.tmp 4) = .bool false := new2
    have lt_m3 := Ob.lt m3
    replace m3 := Ob.below m3 hb
    replace bl := (bl.trans (Below.mono hb bl.size))
    replace sz := sz2.trans sz
    replace df := df2.trans df
    clear df2 sz2 old2 new2 hb
    clear x27
    refine wl_one (.eq (.int .i64 22)) rfl 5 rfl (by rw [sz]; decide) (st_assign (.tmp 28) rfl x28) ?_
    intro f12 w12 df2 sz2 old2 new2 hb
    replace bl0 := bl
    replace x1 := (old2 1 rfl).trans x1
    replace x2 := (old2 2 rfl).trans x2
    replace x21 := (old2 21 rfl).trans x21
    replace x28 := (old2 28 rfl).trans x28
    replace x3 := (old2 3 rfl).trans x3
    replace x4 := (old2 4 rfl).trans x4
    have x5 : f12.eval (.tmp 5) = .int .i64 22 := new2
    have lt_m3 := Ob.lt m3
    replace m3 := Ob.below m3 hb
    replace bl := (bl.trans (Below.mono hb bl.size))
    replace sz := sz2.trans sz
    replace df := df2.trans df
    clear df2 sz2 old2 new2 hb
    refine wpList_nil ?_
    clear x28
    show Code.wp _ _ _ _ _
    refine wp_seq ?_
    refine wp_seq ?_
    refine wp_all_seq [.eq (.pointer (some ⟨g1, 0, none⟩)), .eq (.slice aO po.length dO), .eq (.int .i64 (((po).length : Nat) : Int)), .eq (.pointer (some ⟨g1, 1, none⟩)), .eq (.slice aN pn.length dN), .eq (.int .i64 (((pn).length : Nat) : Int)), .eq (.bool false)] (by kernel_rfl) (by kernel_rfl) (by rw [sz]; kernel_rfl) (by kernel_rfl) ⟨fun hw ac u K => ?_, fun hw ac u K => ?_, fun hw ac u K => ?_, fun hw ac u K => ?_, fun hw ac u K => ?_, fun hw ac u K => ?_, fun hw ac u K => ?_, trivial⟩ ?_
    · exact st_field 47 0 (.tmp 1) rfl ((K.old 1 rfl).trans x1) (by kernel_rfl)
    · exact st_loadc 28 (.tmp 29) rfl (by kernel_rfl) (K.dep 0 29 rfl) (Ob.cell (Ob.below m1 (bl.trans (Below.mono K.grow bl.size))) 0 rfl)
    · exact st_lenm (.tmp 30) rfl (fk_val (K.dep 1 30 rfl) (Fk.mono _ _ _ _ hom (bl.trans (Below.mono K.grow bl.size))))
    · exact st_field 47 1 (.tmp 1) rfl ((K.old 1 rfl).trans x1) (by kernel_rfl)
    · exact st_loadc 28 (.tmp 32) rfl (by kernel_rfl) (K.dep 3 32 rfl) (Ob.cell (Ob.below m1 (bl.trans (Below.mono K.grow bl.size))) 1 rfl)
    · exact st_lenm (.tmp 33) rfl (fk_val (K.dep 4 33 rfl) (Fk.mono _ _ _ _ hnm (bl.trans (Below.mono K.grow bl.size))))
    · exact st_gtr 3 (.tmp 31) (.tmp 34) rfl .i64 ((((po).length : Nat) : Int)) ((((pn).length : Nat) : Int)) (K.dep 2 31 rfl) (K.dep 5 34 rfl) _ (by symm; rw [decide_eq_false_iff_not]; exact (by omega))
    intro f13 w13 A hb
    replace bl0 := bl
    replace x1 := (A.old 1 rfl).trans x1
    replace x2 := (A.old 2 rfl).trans x2
    replace x21 := (A.old 21 rfl).trans x21
    replace x3 := (A.old 3 rfl).trans x3
    replace x4 := (A.old 4 rfl).trans x4
    replace x5 := (A.old 5 rfl).trans x5
    have x35 : f13.eval (.tmp 35) = .bool false := A.has 6 35 rfl
    have lt_m3 := Ob.lt m3
    replace m3 := Ob.below m3 hb
    replace bl := (bl.trans (Below.mono hb bl.size))
    replace sz := A.size.trans sz
    replace df := A.defs.trans df
    clear A hb
    show Code.wp _ _ _ _ _
    refine wp_cond_false x35 ?_
    refine wp_skip ?_
    show Code.wp _ _ _ _ _
    refine wp_seq ?_
    refine wp_seq ?_
    refine wp_all [.eq (.pointer (some ⟨g1, 0, none⟩)), .eq (.slice aO po.length dO), .eq (.int .i64 (((po).length : Nat) : Int)), .eq (.pointer (some ⟨g1, 1, none⟩)), .eq (.slice aN pn.length dN), .eq (.int .i64 (((pn).length : Nat) : Int)), .eq (.pointer (some ⟨g1, 0, none⟩)), .eq (.slice aO po.length dO), .ow w4.heap.size (lhs po), .eq (.agg ((ov).map V).toArray), .eq (.pointer (some ⟨g1, 1, none⟩)), .eq (.slice aN pn.length dN), .ow w4.heap.size (lhs pn), .eq (.agg ((nv).map V).toArray), .eq (.pointer (some ⟨g1, 2, none⟩)), .eq (.slice aP P.length dP), .eq (.int .i64 22), .eq (.bool true)] Tryd.mixed (by kernel_rfl) (by kernel_rfl) (by rw [sz]; kernel_rfl) (by kernel_rfl) ⟨fun hw ac u K => ?_, fun hw ac u K => ?_, fun hw ac u K => ?_, fun hw ac u K => ?_, fun hw ac u K => ?_, fun hw ac u K => ?_, fun hw ac u K => ?_, fun hw ac u K => ?_, fun hw ac u K => ?_, fun hw ac u K => ?_, fun hw ac u K => ?_, fun hw ac u K => ?_, fun hw ac u K => ?_, fun hw ac u K => ?_, fun hw ac u K => ?_, fun hw ac u K => ?_, fun hw ac u K => ?_, fun hw ac u K => ?_, trivial⟩ ?_
    · exact st_field 47 0 (.tmp 1) rfl ((K.old 1 rfl).trans x1) (by kernel_rfl)
    · exact st_loadc 28 (.tmp 45) rfl (by kernel_rfl) (K.dep 0 45 rfl) (Ob.cell (Ob.below m1 (bl.trans (Below.mono K.grow bl.size))) 0 rfl)
    · exact st_lenm (.tmp 46) rfl (fk_val (K.dep 1 46 rfl) (Fk.mono _ _ _ _ hom (bl.trans (Below.mono K.grow bl.size))))
    · exact st_field 47 1 (.tmp 1) rfl ((K.old 1 rfl).trans x1) (by kernel_rfl)
    · exact st_loadc 28 (.tmp 48) rfl (by kernel_rfl) (K.dep 3 48 rfl) (Ob.cell (Ob.below m1 (bl.trans (Below.mono K.grow bl.size))) 1 rfl)
    · exact st_lenm (.tmp 49) rfl (fk_val (K.dep 4 49 rfl) (Fk.mono _ _ _ _ hnm (bl.trans (Below.mono K.grow bl.size))))
    · exact st_field 47 0 (.tmp 1) rfl ((K.old 1 rfl).trans x1) (by kernel_rfl)
    · exact st_loadc 28 (.tmp 51) rfl (by kernel_rfl) (K.dep 6 51 rfl) (Ob.cell (Ob.below m1 (bl.trans (Below.mono K.grow bl.size))) 0 rfl)
    · exact st_call 14 (.func 14) _ _ #[.slice aO po.length dO] rfl rfl (one_arg (K.dep 7 52 rfl)) Tryd.enter14 (fk_ow (bl.trans (Below.mono K.grow bl.size)).size (fk_hashes (by omega) hxo (Fk.mono _ _ _ _ hom (bl.trans (Below.mono K.grow bl.size))) (hK.below (bl.trans (Below.mono K.grow bl.size)))))
    · exact st_call 19 (.func 19) _ _ #[ac.eval (.tmp 53)] rfl rfl (one_arg rfl) Tryd.enter19 (fk_of (root_any (lhs po) _ _ (by rw [lhs_len]; omega) (ow_hc (K.dep 8 53 rfl)) (hK.below (bl.trans (Below.mono K.grow bl.size))) eov))
    · exact st_field 47 1 (.tmp 1) rfl ((K.old 1 rfl).trans x1) (by kernel_rfl)
    · exact st_loadc 28 (.tmp 55) rfl (by kernel_rfl) (K.dep 10 55 rfl) (Ob.cell (Ob.below m1 (bl.trans (Below.mono K.grow bl.size))) 1 rfl)
    · exact st_call 14 (.func 14) _ _ #[.slice aN pn.length dN] rfl rfl (one_arg (K.dep 11 56 rfl)) Tryd.enter14 (fk_ow (bl.trans (Below.mono K.grow bl.size)).size (fk_hashes (by omega) hxn (Fk.mono _ _ _ _ hnm (bl.trans (Below.mono K.grow bl.size))) (hK.below (bl.trans (Below.mono K.grow bl.size)))))
    · exact st_call 19 (.func 19) _ _ #[ac.eval (.tmp 57)] rfl rfl (one_arg rfl) Tryd.enter19 (fk_of (root_any (lhs pn) _ _ (by rw [lhs_len]; omega) (ow_hc (K.dep 12 57 rfl)) (hK.below (bl.trans (Below.mono K.grow bl.size))) env))
    · exact st_field 47 2 (.tmp 1) rfl ((K.old 1 rfl).trans x1) (by kernel_rfl)
    · exact st_loadc 35 (.tmp 59) rfl (by kernel_rfl) (K.dep 14 59 rfl) (Ob.cell (Ob.below m1 (bl.trans (Below.mono K.grow bl.size))) 2 rfl)
    · exact st_call 21 (.func 21) _ _ #[.int .i64 (((po).length : Nat) : Int), .int .i64 (((pn).length : Nat) : Int), .agg ((ov).map V).toArray, .agg ((nv).map V).toArray, .slice aP P.length dP] rfl rfl (arg5 (K.dep 2 47 rfl) (K.dep 5 50 rfl) (K.dep 9 54 rfl) (K.dep 13 58 rfl) (K.dep 15 60 rfl)) Tryd.enter21 (fk_on_all hov hnv h (by omega) (Fk.mono _ _ _ _ hp (bl.trans (Below.mono K.grow bl.size))) (by omega) (hK.below (bl.trans (Below.mono K.grow bl.size))) h0 _ (by rw [if_neg hr]))
    · exact st_neqi 40 (.tmp 61) (.const (.int .i64 0)) rfl .i64 (22) (0) (K.dep 16 61 rfl) rfl _ (by rfl)
    intro f14 w14 A hb
    replace bl0 := bl
    replace x1 := (A.old 1 rfl).trans x1
    replace x2 := (A.old 2 rfl).trans x2
    replace x21 := (A.old 21 rfl).trans x21
    replace x3 := (A.old 3 rfl).trans x3
    replace x4 := (A.old 4 rfl).trans x4
    replace x5 := (A.old 5 rfl).trans x5
    replace x35 := (A.old 35 rfl).trans x35
    have x62 : f14.eval (.tmp 62) = .bool true := A.has 17 62 rfl
    have lt_m3 := Ob.lt m3
    replace m3 := Ob.below m3 hb
    replace bl := (bl.trans (Below.mono hb bl.size))
    replace sz := A.size.trans sz
    replace df := A.defs.trans df
    clear A hb
    show Code.wp _ _ _ _ _
    refine wp_cond_true x62 ?_
    refine wp_seq ?_
    refine wp_all_seq [.eq (.int .i64 22), .eq (.bool true), .eq (.bool true), .eq (.bool false), .eq (.bool true), .eq (.bool true), .eq (.bool true), .eq (.bool true), .eq (.bool true), .eq (.bool true)] (by kernel_rfl) (by kernel_rfl) (by rw [sz]; kernel_rfl) (by kernel_rfl) ⟨fun hw ac u K => ?_, fun hw ac u K => ?_, fun hw ac u K => ?_, fun hw ac u K => ?_, fun hw ac u K => ?_, fun hw ac u K => ?_, fun hw ac u K => ?_, fun hw ac u K => ?_, fun hw ac u K => ?_, fun hw ac u K => ?_, trivial⟩ ?_
    · exact st_move (.tmp 5) rfl ((K.old 5 rfl).trans x5)
    · exact st_eqi 40 (.tmp 63) (.const (.int .i64 22)) rfl .i64 (22) (22) (K.dep 0 63 rfl) rfl _ (by rfl)
    · exact st_move (.tmp 64) rfl (K.dep 1 64 rfl)
    · exact st_move (.tmp 4) rfl ((K.old 4 rfl).trans x4)
    · exact st_not (.tmp 66) rfl false (K.dep 3 66 rfl)
    · exact st_pick_t (.tmp 65) (.tmp 67) (.const (.bool false)) rfl (K.dep 2 65 rfl) (K.dep 4 67 rfl)
    · exact st_move (.tmp 68) rfl (K.dep 5 68 rfl)
    · exact st_call 8 (.func 8) _ _ #[] rfl rfl rfl Tryd.enter8 (fk_of (awake_any _ (hK.below (bl.trans (Below.mono K.grow bl.size)))))
    · exact st_pick_t (.tmp 69) (.tmp 70) (.const (.bool false)) rfl (K.dep 6 69 rfl) (K.dep 7 70 rfl)
    · exact st_assign (.tmp 71) rfl (K.dep 8 71 rfl)
    intro f15 w15 A hb
    replace bl0 := bl
    replace x1 := (A.old 1 rfl).trans x1
    clear x2
    replace x21 := (A.old 21 rfl).trans x21
    replace x3 := (A.old 3 rfl).trans x3
    replace x4 := (A.old 4 rfl).trans x4
    replace x5 := (A.old 5 rfl).trans x5
    replace x35 := (A.old 35 rfl).trans x35
    replace x62 := (A.old 62 rfl).trans x62
    have x2 : f15.eval (.tmp 2) = .bool true := A.has 9 2 rfl
    have lt_m3 := Ob.lt m3
    replace m3 := Ob.below m3 hb
    replace bl := (bl.trans (Below.mono hb bl.size))
    replace sz := A.size.trans sz
    replace df := A.defs.trans df
    clear A hb
    show Code.wp _ _ _ _ _
    refine wp_ret ?_
    repeat (first | with_reducible refine then_ret ?_ | with_reducible refine block_ret ?_)
    exact bodyPost_ret (v := .bool true) (ret_slot rfl f15 _ x2 _ _) df ⟨rfl, (blw.trans (Below.mono bl blw.size))⟩
  by_cases hq : bys po = (bys pn).take po.length
  rotate_left
  · skip
    refine wp_region_seq [.eq (.agg ([.slice aO po.length dO, .slice aN pn.length dN, .slice aP P.length dP] : List Value).toArray)] (by kernel_rfl) (by kernel_rfl) (by rw [sz]; kernel_rfl) (by kernel_rfl) ⟨fun hw ac u K => ?_, trivial⟩ ?_
    · exact st_loadz 47 (.tmp 1) rfl (g1) 0 [.slice aO po.length dO, .slice aN pn.length dN, .slice aP P.length dP] (by kernel_rfl) (by kernel_rfl) ((K.old 1 rfl).trans x1) (Ob.range (Ob.below m1 K.grow) 0 _ (fun j v hj => by simpa using hj))
    intro f3 w3 A hb
    replace bl0 := bl
    replace x1 := (A.old 1 rfl).trans x1
    replace x2 := (A.old 2 rfl).trans x2
    replace x21 := (A.old 21 rfl).trans x21
    have x24 : f3.eval (.tmp 24) = .agg ([.slice aO po.length dO, .slice aN pn.length dN, .slice aP P.length dP] : List Value).toArray := A.has 0 24 rfl
    have lt_m1 := Ob.lt m1
    replace m1 := Ob.below m1 hb
    replace bl := (bl.trans (Below.mono hb bl.size))
    replace sz := A.size.trans sz
    replace df := A.defs.trans df
    clear A hb
    refine wl_call 20 (.func 20) _ _ #[.agg ([.slice aO po.length dO, .slice aN pn.length dN, .slice aP P.length dP] : List Value).toArray] rfl 25 rfl (by rw [sz]; decide) rfl rfl (one_arg x24) Tryd.enter20 (fun u W => (Fk.c3 true 0).f u W ∧ Below w3.heap.size w3 W) (fk_con_ok hso hsn hPl (Fk.mono _ _ _ _ ho bl) (Fk.mono _ _ _ _ hn bl) (Fk.mono _ _ _ _ hp bl) (hK.below bl) h (by rw [eov.out, env.out]; exact hr) (f := true) (by symm; rw [decide_eq_true_iff]; exact hq)) ?_
    rintro f4 w4 df2 sz2 old2 ⟨⟨A, B, u1, u2, new2, hA, hB, hlA, hlB, hr1⟩, hb⟩
    obtain ⟨pA, mA, cA, _, _, rfl, _⟩ := id hA
    obtain ⟨pB, mB, cB, _, _, rfl, _⟩ := id hB
    replace bl0 := bl
    replace x1 := (old2 1 rfl).trans x1
    replace x2 := (old2 2 rfl).trans x2
    replace x21 := (old2 21 rfl).trans x21
    replace x24 := (old2 24 rfl).trans x24
    have x25 : f4.eval (.tmp 25) = .tuple #[.agg ([.slice pA mA cA, .slice pB mB cB] : List Value).toArray, .bool true, .int .i64 0] := new2
    have lt_m1 := Ob.lt m1
    replace m1 := Ob.below m1 hb
    replace bl := (bl.trans (Below.mono hb bl.size))
    replace sz := sz2.trans sz
    replace df := df2.trans df
    clear df2 sz2 old2 new2 hb
    have blw := bl
    replace ho := Fk.mono _ _ _ _ ho bl
    replace hom := Fk.mono _ _ _ _ hom bl
    replace hn := Fk.mono _ _ _ _ hn bl
    replace hnm := Fk.mono _ _ _ _ hnm bl
    replace hp := Fk.mono _ _ _ _ hp bl
    replace hps := Fk.mono _ _ _ _ hps bl
    replace hK := hK.below bl
    replace bl := Below.refl w4.heap.size w4
    replace bl0 := bl
    clear x24
    refine wl_one (.eq (.tuple #[.agg ([.slice pA mA cA, .slice pB mB cB] : List Value).toArray, .bool true, .int .i64 0])) rfl 23 rfl (by rw [sz]; decide) (st_move (.tmp 25) rfl x25) ?_
    intro f5 w5 df2 sz2 old2 new2 hb
    replace bl0 := bl
    replace x1 := (old2 1 rfl).trans x1
    replace x2 := (old2 2 rfl).trans x2
    replace x21 := (old2 21 rfl).trans x21
    replace x25 := (old2 25 rfl).trans x25
    have x23 : f5.eval (.tmp 23) = .tuple #[.agg ([.slice pA mA cA, .slice pB mB cB] : List Value).toArray, .bool true, .int .i64 0] := new2
    replace bl := (bl.trans (Below.mono hb bl.size))
    replace sz := sz2.trans sz
    replace df := df2.trans df
    clear df2 sz2 old2 new2 hb
    clear x25
    refine wl_one (.eq (.agg ([.slice pA mA cA, .slice pB mB cB] : List Value).toArray)) rfl 26 rfl (by rw [sz]; decide) (st_tup (.tmp 23) rfl x23 (by rfl)) ?_
    intro f6 w6 df2 sz2 old2 new2 hb
    replace bl0 := bl
    replace x1 := (old2 1 rfl).trans x1
    replace x2 := (old2 2 rfl).trans x2
    replace x21 := (old2 21 rfl).trans x21
    replace x23 := (old2 23 rfl).trans x23
    have x26 : f6.eval (.tmp 26) = .agg ([.slice pA mA cA, .slice pB mB cB] : List Value).toArray := new2
    replace bl := (bl.trans (Below.mono hb bl.size))
    replace sz := sz2.trans sz
    replace df := df2.trans df
    clear df2 sz2 old2 new2 hb
    refine wl_one (.eq (.bool true)) rfl 27 rfl (by rw [sz]; decide) (st_tup (.tmp 23) rfl x23 (by rfl)) ?_
    intro f7 w7 df2 sz2 old2 new2 hb
    replace bl0 := bl
    replace x1 := (old2 1 rfl).trans x1
    replace x2 := (old2 2 rfl).trans x2
    replace x21 := (old2 21 rfl).trans x21
    replace x23 := (old2 23 rfl).trans x23
    replace x26 := (old2 26 rfl).trans x26
    have x27 : f7.eval (.tmp 27) = .bool true := new2
    replace bl := (bl.trans (Below.mono hb bl.size))
    replace sz := sz2.trans sz
    replace df := df2.trans df
    clear df2 sz2 old2 new2 hb
    refine wl_one (.eq (.int .i64 0)) rfl 28 rfl (by rw [sz]; decide) (st_tup (.tmp 23) rfl x23 (by rfl)) ?_
    intro f8 w8 df2 sz2 old2 new2 hb
    replace bl0 := bl
    replace x1 := (old2 1 rfl).trans x1
    replace x2 := (old2 2 rfl).trans x2
    replace x21 := (old2 21 rfl).trans x21
    replace x23 := (old2 23 rfl).trans x23
    replace x26 := (old2 26 rfl).trans x26
    replace x27 := (old2 27 rfl).trans x27
    have x28 : f8.eval (.tmp 28) = .int .i64 0 := new2
    replace bl := (bl.trans (Below.mono hb bl.size))
    replace sz := sz2.trans sz
    replace df := df2.trans df
    clear df2 sz2 old2 new2 hb
    clear x23
    refine wl_one (.nw w8.heap.size 25 [.slice none 0 0, .slice none 0 0]) rfl 3 rfl (by rw [sz]; decide) (st_alloc 25 rfl _ _ (by kernel_rfl) (Nat.le_refl _)) ?_
    intro f9 w9 df2 sz2 old2 new2 hb
    replace bl0 := bl
    replace x1 := (old2 1 rfl).trans x1
    replace x2 := (old2 2 rfl).trans x2
    replace x21 := (old2 21 rfl).trans x21
    replace x26 := (old2 26 rfl).trans x26
    replace x27 := (old2 27 rfl).trans x27
    replace x28 := (old2 28 rfl).trans x28
    have x3 : Fk.f (.nw w8.heap.size 25 [.slice none 0 0, .slice none 0 0]) (f9.eval (.tmp 3)) w9 := new2
    replace bl := (bl.trans (Below.mono hb bl.size))
    replace sz := sz2.trans sz
    replace df := df2.trans df
    clear df2 sz2 old2 new2 hb
    obtain ⟨g3, hg3, e3, m3⟩ := x3
    have x3 := e3
    clear e3
    have nm1_3 : g1 ≠ g3 := Nat.ne_of_lt (Nat.lt_of_lt_of_le (Ob.lt m1) (Nat.le_trans bl0.size hg3))
    have hw3 : w4.heap.size ≤ g3 := Nat.le_trans bl0.size hg3
    refine wl_str rfl 25 (.tmp 3) (.tmp 26) rfl rfl (g3) ([.slice pA mA cA, .slice pB mB cB] : List Value).toArray x3 x26 25 _ m3 (by kernel_rfl) (by kernel_rfl) (by kernel_rfl) ?_
    replace m3 : Ob (w9.setRow g3 ([.slice pA mA cA, .slice pB mB cB] : List Value).toArray) (g3) 25 ([.slice pA mA cA, .slice pB mB cB]) := Ob.setRow m3 ([.slice pA mA cA, .slice pB mB cB])
    replace bl : Below w4.heap.size w4 (w9.setRow g3 ([.slice pA mA cA, .slice pB mB cB] : List Value).toArray) := bl.trans (below_setRow _ _ _ _ hw3)
    generalize w9.setRow g3 ([.slice pA mA cA, .slice pB mB cB] : List Value).toArray = w10b at bl m3 ⊢
    clear x26
    refine wl_one (.eq (.bool true)) rfl 4 rfl (by rw [sz]; decide) (st_assign (.tmp 27) rfl x27) ?_
    intro f11 w11 df2 sz2 old2 new2 hb
    replace bl0 := bl
    replace x1 := (old2 1 rfl).trans x1
    replace x2 := (old2 2 rfl).trans x2
    replace x21 := (old2 21 rfl).trans x21
    replace x27 := (old2 27 rfl).trans x27
    replace x28 := (old2 28 rfl).trans x28
    replace x3 := (old2 3 rfl).trans x3
    have x4 : f11.eval (.tmp 4) = .bool true := new2
    have lt_m3 := Ob.lt m3
    replace m3 := Ob.below m3 hb
    replace bl := (bl.trans (Below.mono hb bl.size))
    replace sz := sz2.trans sz
    replace df := df2.trans df
    clear df2 sz2 old2 new2 hb
    clear x27
    refine wl_one (.eq (.int .i64 0)) rfl 5 rfl (by rw [sz]; decide) (st_assign (.tmp 28) rfl x28) ?_
    intro f12 w12 df2 sz2 old2 new2 hb
    replace bl0 := bl
    replace x1 := (old2 1 rfl).trans x1
    replace x2 := (old2 2 rfl).trans x2
    replace x21 := (old2 21 rfl).trans x21
    replace x28 := (old2 28 rfl).trans x28
    replace x3 := (old2 3 rfl).trans x3
    replace x4 := (old2 4 rfl).trans x4
    have x5 : f12.eval (.tmp 5) = .int .i64 0 := new2
    have lt_m3 := Ob.lt m3
    replace m3 := Ob.below m3 hb
    replace bl := (bl.trans (Below.mono hb bl.size))
    replace sz := sz2.trans sz
    replace df := df2.trans df
    clear df2 sz2 old2 new2 hb
    refine wpList_nil ?_
    clear x28
    show Code.wp _ _ _ _ _
    refine wp_seq ?_
    refine wp_seq ?_
    refine wp_all_seq [.eq (.pointer (some ⟨g1, 0, none⟩)), .eq (.slice aO po.length dO), .eq (.int .i64 (((po).length : Nat) : Int)), .eq (.pointer (some ⟨g1, 1, none⟩)), .eq (.slice aN pn.length dN), .eq (.int .i64 (((pn).length : Nat) : Int)), .eq (.bool false)] (by kernel_rfl) (by kernel_rfl) (by rw [sz]; kernel_rfl) (by kernel_rfl) ⟨fun hw ac u K => ?_, fun hw ac u K => ?_, fun hw ac u K => ?_, fun hw ac u K => ?_, fun hw ac u K => ?_, fun hw ac u K => ?_, fun hw ac u K => ?_, trivial⟩ ?_
    · exact st_field 47 0 (.tmp 1) rfl ((K.old 1 rfl).trans x1) (by kernel_rfl)
    · exact st_loadc 28 (.tmp 29) rfl (by kernel_rfl) (K.dep 0 29 rfl) (Ob.cell (Ob.below m1 (bl.trans (Below.mono K.grow bl.size))) 0 rfl)
    · exact st_lenm (.tmp 30) rfl (fk_val (K.dep 1 30 rfl) (Fk.mono _ _ _ _ hom (bl.trans (Below.mono K.grow bl.size))))
    · exact st_field 47 1 (.tmp 1) rfl ((K.old 1 rfl).trans x1) (by kernel_rfl)
    · exact st_loadc 28 (.tmp 32) rfl (by kernel_rfl) (K.dep 3 32 rfl) (Ob.cell (Ob.below m1 (bl.trans (Below.mono K.grow bl.size))) 1 rfl)
    · exact st_lenm (.tmp 33) rfl (fk_val (K.dep 4 33 rfl) (Fk.mono _ _ _ _ hnm (bl.trans (Below.mono K.grow bl.size))))
    · exact st_gtr 3 (.tmp 31) (.tmp 34) rfl .i64 ((((po).length : Nat) : Int)) ((((pn).length : Nat) : Int)) (K.dep 2 31 rfl) (K.dep 5 34 rfl) _ (by symm; rw [decide_eq_false_iff_not]; exact (by omega))
    intro f13 w13 A hb
    replace bl0 := bl
    replace x1 := (A.old 1 rfl).trans x1
    replace x2 := (A.old 2 rfl).trans x2
    replace x21 := (A.old 21 rfl).trans x21
    replace x3 := (A.old 3 rfl).trans x3
    replace x4 := (A.old 4 rfl).trans x4
    replace x5 := (A.old 5 rfl).trans x5
    have x35 : f13.eval (.tmp 35) = .bool false := A.has 6 35 rfl
    have lt_m3 := Ob.lt m3
    replace m3 := Ob.below m3 hb
    replace bl := (bl.trans (Below.mono hb bl.size))
    replace sz := A.size.trans sz
    replace df := A.defs.trans df
    clear A hb
    show Code.wp _ _ _ _ _
    refine wp_cond_false x35 ?_
    refine wp_skip ?_
    show Code.wp _ _ _ _ _
    refine wp_seq ?_
    refine wp_seq ?_
    refine wp_all [.eq (.pointer (some ⟨g1, 0, none⟩)), .eq (.slice aO po.length dO), .eq (.int .i64 (((po).length : Nat) : Int)), .eq (.pointer (some ⟨g1, 1, none⟩)), .eq (.slice aN pn.length dN), .eq (.int .i64 (((pn).length : Nat) : Int)), .eq (.pointer (some ⟨g1, 0, none⟩)), .eq (.slice aO po.length dO), .ow w4.heap.size (lhs po), .eq (.agg ((ov).map V).toArray), .eq (.pointer (some ⟨g1, 1, none⟩)), .eq (.slice aN pn.length dN), .ow w4.heap.size (lhs pn), .eq (.agg ((nv).map V).toArray), .eq (.pointer (some ⟨g1, 2, none⟩)), .eq (.slice aP P.length dP), .eq (.int .i64 0), .eq (.bool false)] Tryd.mixed (by kernel_rfl) (by kernel_rfl) (by rw [sz]; kernel_rfl) (by kernel_rfl) ⟨fun hw ac u K => ?_, fun hw ac u K => ?_, fun hw ac u K => ?_, fun hw ac u K => ?_, fun hw ac u K => ?_, fun hw ac u K => ?_, fun hw ac u K => ?_, fun hw ac u K => ?_, fun hw ac u K => ?_, fun hw ac u K => ?_, fun hw ac u K => ?_, fun hw ac u K => ?_, fun hw ac u K => ?_, fun hw ac u K => ?_, fun hw ac u K => ?_, fun hw ac u K => ?_, fun hw ac u K => ?_, fun hw ac u K => ?_, trivial⟩ ?_
    · exact st_field 47 0 (.tmp 1) rfl ((K.old 1 rfl).trans x1) (by kernel_rfl)
    · exact st_loadc 28 (.tmp 45) rfl (by kernel_rfl) (K.dep 0 45 rfl) (Ob.cell (Ob.below m1 (bl.trans (Below.mono K.grow bl.size))) 0 rfl)
    · exact st_lenm (.tmp 46) rfl (fk_val (K.dep 1 46 rfl) (Fk.mono _ _ _ _ hom (bl.trans (Below.mono K.grow bl.size))))
    · exact st_field 47 1 (.tmp 1) rfl ((K.old 1 rfl).trans x1) (by kernel_rfl)
    · exact st_loadc 28 (.tmp 48) rfl (by kernel_rfl) (K.dep 3 48 rfl) (Ob.cell (Ob.below m1 (bl.trans (Below.mono K.grow bl.size))) 1 rfl)
    · exact st_lenm (.tmp 49) rfl (fk_val (K.dep 4 49 rfl) (Fk.mono _ _ _ _ hnm (bl.trans (Below.mono K.grow bl.size))))
    · exact st_field 47 0 (.tmp 1) rfl ((K.old 1 rfl).trans x1) (by kernel_rfl)
    · exact st_loadc 28 (.tmp 51) rfl (by kernel_rfl) (K.dep 6 51 rfl) (Ob.cell (Ob.below m1 (bl.trans (Below.mono K.grow bl.size))) 0 rfl)
    · exact st_call 14 (.func 14) _ _ #[.slice aO po.length dO] rfl rfl (one_arg (K.dep 7 52 rfl)) Tryd.enter14 (fk_ow (bl.trans (Below.mono K.grow bl.size)).size (fk_hashes (by omega) hxo (Fk.mono _ _ _ _ hom (bl.trans (Below.mono K.grow bl.size))) (hK.below (bl.trans (Below.mono K.grow bl.size)))))
    · exact st_call 19 (.func 19) _ _ #[ac.eval (.tmp 53)] rfl rfl (one_arg rfl) Tryd.enter19 (fk_of (root_any (lhs po) _ _ (by rw [lhs_len]; omega) (ow_hc (K.dep 8 53 rfl)) (hK.below (bl.trans (Below.mono K.grow bl.size))) eov))
    · exact st_field 47 1 (.tmp 1) rfl ((K.old 1 rfl).trans x1) (by kernel_rfl)
    · exact st_loadc 28 (.tmp 55) rfl (by kernel_rfl) (K.dep 10 55 rfl) (Ob.cell (Ob.below m1 (bl.trans (Below.mono K.grow bl.size))) 1 rfl)
    · exact st_call 14 (.func 14) _ _ #[.slice aN pn.length dN] rfl rfl (one_arg (K.dep 11 56 rfl)) Tryd.enter14 (fk_ow (bl.trans (Below.mono K.grow bl.size)).size (fk_hashes (by omega) hxn (Fk.mono _ _ _ _ hnm (bl.trans (Below.mono K.grow bl.size))) (hK.below (bl.trans (Below.mono K.grow bl.size)))))
    · exact st_call 19 (.func 19) _ _ #[ac.eval (.tmp 57)] rfl rfl (one_arg rfl) Tryd.enter19 (fk_of (root_any (lhs pn) _ _ (by rw [lhs_len]; omega) (ow_hc (K.dep 12 57 rfl)) (hK.below (bl.trans (Below.mono K.grow bl.size))) env))
    · exact st_field 47 2 (.tmp 1) rfl ((K.old 1 rfl).trans x1) (by kernel_rfl)
    · exact st_loadc 35 (.tmp 59) rfl (by kernel_rfl) (K.dep 14 59 rfl) (Ob.cell (Ob.below m1 (bl.trans (Below.mono K.grow bl.size))) 2 rfl)
    · exact st_call 21 (.func 21) _ _ #[.int .i64 (((po).length : Nat) : Int), .int .i64 (((pn).length : Nat) : Int), .agg ((ov).map V).toArray, .agg ((nv).map V).toArray, .slice aP P.length dP] rfl rfl (arg5 (K.dep 2 47 rfl) (K.dep 5 50 rfl) (K.dep 9 54 rfl) (K.dep 13 58 rfl) (K.dep 15 60 rfl)) Tryd.enter21 (fk_on_all hov hnv h (by omega) (Fk.mono _ _ _ _ hp (bl.trans (Below.mono K.grow bl.size))) (by omega) (hK.below (bl.trans (Below.mono K.grow bl.size))) h0 _ (by rw [if_pos hr]))
    · exact st_neqi 40 (.tmp 61) (.const (.int .i64 0)) rfl .i64 (0) (0) (K.dep 16 61 rfl) rfl _ (by rfl)
    intro f14 w14 A hb
    replace bl0 := bl
    replace x1 := (A.old 1 rfl).trans x1
    replace x2 := (A.old 2 rfl).trans x2
    replace x21 := (A.old 21 rfl).trans x21
    replace x3 := (A.old 3 rfl).trans x3
    replace x4 := (A.old 4 rfl).trans x4
    replace x5 := (A.old 5 rfl).trans x5
    replace x35 := (A.old 35 rfl).trans x35
    have x62 : f14.eval (.tmp 62) = .bool false := A.has 17 62 rfl
    have lt_m3 := Ob.lt m3
    replace m3 := Ob.below m3 hb
    replace bl := (bl.trans (Below.mono hb bl.size))
    replace sz := A.size.trans sz
    replace df := A.defs.trans df
    clear A hb
    show Code.wp _ _ _ _ _
    refine wp_cond_false x62 ?_
    refine wp_skip ?_
    show Code.wp _ _ _ _ _
    refine wp_seq ?_
    refine wp_seq ?_
    refine wp_all_seq [.eq (.int .i64 0), .eq (.bool false), .eq (.bool false), .eq (.bool true), .eq (.pointer (some ⟨g1, 0, none⟩)), .eq (.slice aO po.length dO), .eq (.pointer (some ⟨g1, 1, none⟩)), .eq (.slice aN pn.length dN), .eq (.bool false), .eq (.bool true), .eq (.bool false), .eq (.bool false)] (by kernel_rfl) (by kernel_rfl) (by rw [sz]; kernel_rfl) (by kernel_rfl) ⟨fun hw ac u K => ?_, fun hw ac u K => ?_, fun hw ac u K => ?_, fun hw ac u K => ?_, fun hw ac u K => ?_, fun hw ac u K => ?_, fun hw ac u K => ?_, fun hw ac u K => ?_, fun hw ac u K => ?_, fun hw ac u K => ?_, fun hw ac u K => ?_, fun hw ac u K => ?_, trivial⟩ ?_
    · exact st_move (.tmp 5) rfl ((K.old 5 rfl).trans x5)
    · exact st_neqi 40 (.tmp 72) (.const (.int .i64 0)) rfl .i64 (0) (0) (K.dep 0 72 rfl) rfl _ (by rfl)
    · exact st_move (.tmp 73) rfl (K.dep 1 73 rfl)
    · exact st_move (.tmp 4) rfl ((K.old 4 rfl).trans x4)
    · exact st_field 47 0 (.tmp 1) rfl ((K.old 1 rfl).trans x1) (by kernel_rfl)
    · exact st_loadc 28 (.tmp 76) rfl (by kernel_rfl) (K.dep 4 76 rfl) (Ob.cell (Ob.below m1 (bl.trans (Below.mono K.grow bl.size))) 0 rfl)
    · exact st_field 47 1 (.tmp 1) rfl ((K.old 1 rfl).trans x1) (by kernel_rfl)
    · exact st_loadc 28 (.tmp 78) rfl (by kernel_rfl) (K.dep 6 78 rfl) (Ob.cell (Ob.below m1 (bl.trans (Below.mono K.grow bl.size))) 1 rfl)
    · exact st_call 22 (.func 22) _ _ #[.slice aO po.length dO, .slice aN pn.length dN] rfl rfl (arg2 (K.dep 5 77 rfl) (K.dep 7 79 rfl)) Tryd.enter22 (fk_begins (by omega) (by omega) (Fk.mono _ _ _ _ hom (bl.trans (Below.mono K.grow bl.size))) (Fk.mono _ _ _ _ hnm (bl.trans (Below.mono K.grow bl.size))) hn.2 (by symm; rw [decide_eq_false_iff_not]; exact fun h => hq h.2))
    · exact st_not (.tmp 80) rfl false (K.dep 8 80 rfl)
    · exact st_bin .neq 4 4 (.tmp 75) (.tmp 81) rfl (K.dep 3 75 rfl) (K.dep 9 81 rfl) (by rfl)
    · exact st_pick_f' (.tmp 74) (.const (.bool true)) (.tmp 82) rfl (K.dep 2 74 rfl) (K.dep 10 82 rfl)
    intro f15 w15 A hb
    replace bl0 := bl
    replace x1 := (A.old 1 rfl).trans x1
    replace x2 := (A.old 2 rfl).trans x2
    replace x21 := (A.old 21 rfl).trans x21
    replace x3 := (A.old 3 rfl).trans x3
    replace x4 := (A.old 4 rfl).trans x4
    replace x5 := (A.old 5 rfl).trans x5
    replace x35 := (A.old 35 rfl).trans x35
    replace x62 := (A.old 62 rfl).trans x62
    have x83 : f15.eval (.tmp 83) = .bool false := A.has 11 83 rfl
    have lt_m3 := Ob.lt m3
    replace m3 := Ob.below m3 hb
    replace bl := (bl.trans (Below.mono hb bl.size))
    replace sz := A.size.trans sz
    replace df := A.defs.trans df
    clear A hb
    show Code.wp _ _ _ _ _
    refine wp_cond_false x83 ?_
    refine wp_skip ?_
    show Code.wp _ _ _ _ _
    refine wp_seq ?_
    refine wp_all_seq [.eq (.bool true), .eq (.bool false), .eq (.bool false), .eq (.agg ([.slice pA mA cA, .slice pB mB cB] : List Value).toArray), .eq (.bool true), .eq (.bool true), .eq (.bool true), .eq (.bool true), .eq (.bool true), .eq (.bool true)] (by kernel_rfl) (by kernel_rfl) (by rw [sz]; kernel_rfl) (by kernel_rfl) ⟨fun hw ac u K => ?_, fun hw ac u K => ?_, fun hw ac u K => ?_, fun hw ac u K => ?_, fun hw ac u K => ?_, fun hw ac u K => ?_, fun hw ac u K => ?_, fun hw ac u K => ?_, fun hw ac u K => ?_, fun hw ac u K => ?_, trivial⟩ ?_
    · exact st_move (.tmp 4) rfl ((K.old 4 rfl).trans x4)
    · exact st_not (.tmp 84) rfl true (K.dep 0 84 rfl)
    · exact st_move (.tmp 85) rfl (K.dep 1 85 rfl)
    · exact st_loadz 25 (.tmp 3) rfl (g3) 0 [.slice pA mA cA, .slice pB mB cB] (by kernel_rfl) (by kernel_rfl) ((K.old 3 rfl).trans x3) (Ob.range (Ob.below m3 K.grow) 0 _ (fun j v hj => by simpa using hj))
    · exact st_call 10 (.func 10) _ _ #[.agg ([.slice pA mA cA, .slice pB mB cB] : List Value).toArray] rfl rfl (one_arg (K.dep 3 87 rfl)) Tryd.enter10 (fk_lright hlA hlB (Fk.mono _ _ _ _ hA (bl.trans (Below.mono K.grow bl.size))) (Fk.mono _ _ _ _ hB (bl.trans (Below.mono K.grow bl.size))) (hK.below (bl.trans (Below.mono K.grow bl.size))) (by symm; rw [decide_eq_true_iff]; exact (hr1 rfl)))
    · exact st_pick_f' (.tmp 86) (.const (.bool true)) (.tmp 88) rfl (K.dep 2 86 rfl) (K.dep 4 88 rfl)
    · exact st_move (.tmp 89) rfl (K.dep 5 89 rfl)
    · exact st_call 8 (.func 8) _ _ #[] rfl rfl rfl Tryd.enter8 (fk_of (awake_any _ (hK.below (bl.trans (Below.mono K.grow bl.size)))))
    · exact st_pick_t (.tmp 90) (.tmp 91) (.const (.bool false)) rfl (K.dep 6 90 rfl) (K.dep 7 91 rfl)
    · exact st_assign (.tmp 92) rfl (K.dep 8 92 rfl)
    intro f16 w16 A hb
    replace bl0 := bl
    replace x1 := (A.old 1 rfl).trans x1
    clear x2
    replace x21 := (A.old 21 rfl).trans x21
    replace x3 := (A.old 3 rfl).trans x3
    replace x4 := (A.old 4 rfl).trans x4
    replace x5 := (A.old 5 rfl).trans x5
    replace x35 := (A.old 35 rfl).trans x35
    replace x62 := (A.old 62 rfl).trans x62
    replace x83 := (A.old 83 rfl).trans x83
    have x2 : f16.eval (.tmp 2) = .bool true := A.has 9 2 rfl
    have lt_m3 := Ob.lt m3
    replace m3 := Ob.below m3 hb
    replace bl := (bl.trans (Below.mono hb bl.size))
    replace sz := A.size.trans sz
    replace df := A.defs.trans df
    clear A hb
    show Code.wp _ _ _ _ _
    refine wp_ret ?_
    repeat (first | with_reducible refine then_ret ?_ | with_reducible refine block_ret ?_)
    exact bodyPost_ret (v := .bool true) (ret_slot rfl f16 _ x2 _ _) df ⟨rfl, (blw.trans (Below.mono bl blw.size))⟩
  refine wp_region_seq [.eq (.agg ([.slice aO po.length dO, .slice aN pn.length dN, .slice aP P.length dP] : List Value).toArray)] (by kernel_rfl) (by kernel_rfl) (by rw [sz]; kernel_rfl) (by kernel_rfl) ⟨fun hw ac u K => ?_, trivial⟩ ?_
  · exact st_loadz 47 (.tmp 1) rfl (g1) 0 [.slice aO po.length dO, .slice aN pn.length dN, .slice aP P.length dP] (by kernel_rfl) (by kernel_rfl) ((K.old 1 rfl).trans x1) (Ob.range (Ob.below m1 K.grow) 0 _ (fun j v hj => by simpa using hj))
  intro f3 w3 A hb
  replace bl0 := bl
  replace x1 := (A.old 1 rfl).trans x1
  replace x2 := (A.old 2 rfl).trans x2
  replace x21 := (A.old 21 rfl).trans x21
  have x24 : f3.eval (.tmp 24) = .agg ([.slice aO po.length dO, .slice aN pn.length dN, .slice aP P.length dP] : List Value).toArray := A.has 0 24 rfl
  have lt_m1 := Ob.lt m1
  replace m1 := Ob.below m1 hb
  replace bl := (bl.trans (Below.mono hb bl.size))
  replace sz := A.size.trans sz
  replace df := A.defs.trans df
  clear A hb
  refine wl_call 20 (.func 20) _ _ #[.agg ([.slice aO po.length dO, .slice aN pn.length dN, .slice aP P.length dP] : List Value).toArray] rfl 25 rfl (by rw [sz]; decide) rfl rfl (one_arg x24) Tryd.enter20 (fun u W => (Fk.c3 false 0).f u W ∧ Below w3.heap.size w3 W) (fk_con_ok hso hsn hPl (Fk.mono _ _ _ _ ho bl) (Fk.mono _ _ _ _ hn bl) (Fk.mono _ _ _ _ hp bl) (hK.below bl) h (by rw [eov.out, env.out]; exact hr) (f := false) (by symm; rw [decide_eq_false_iff_not]; exact fun h => h hq)) ?_
  rintro f4 w4 df2 sz2 old2 ⟨⟨A, B, u1, u2, new2, hA, hB, hlA, hlB, hr1⟩, hb⟩
  obtain ⟨pA, mA, cA, _, _, rfl, _⟩ := id hA
  obtain ⟨pB, mB, cB, _, _, rfl, _⟩ := id hB
  replace bl0 := bl
  replace x1 := (old2 1 rfl).trans x1
  replace x2 := (old2 2 rfl).trans x2
  replace x21 := (old2 21 rfl).trans x21
  replace x24 := (old2 24 rfl).trans x24
  have x25 : f4.eval (.tmp 25) = .tuple #[.agg ([.slice pA mA cA, .slice pB mB cB] : List Value).toArray, .bool false, .int .i64 0] := new2
  have lt_m1 := Ob.lt m1
  replace m1 := Ob.below m1 hb
  replace bl := (bl.trans (Below.mono hb bl.size))
  replace sz := sz2.trans sz
  replace df := df2.trans df
  clear df2 sz2 old2 new2 hb
  have blw := bl
  replace ho := Fk.mono _ _ _ _ ho bl
  replace hom := Fk.mono _ _ _ _ hom bl
  replace hn := Fk.mono _ _ _ _ hn bl
  replace hnm := Fk.mono _ _ _ _ hnm bl
  replace hp := Fk.mono _ _ _ _ hp bl
  replace hps := Fk.mono _ _ _ _ hps bl
  replace hK := hK.below bl
  replace bl := Below.refl w4.heap.size w4
  replace bl0 := bl
  clear x24
  refine wl_one (.eq (.tuple #[.agg ([.slice pA mA cA, .slice pB mB cB] : List Value).toArray, .bool false, .int .i64 0])) rfl 23 rfl (by rw [sz]; decide) (st_move (.tmp 25) rfl x25) ?_
  intro f5 w5 df2 sz2 old2 new2 hb
  replace bl0 := bl
  replace x1 := (old2 1 rfl).trans x1
  replace x2 := (old2 2 rfl).trans x2
  replace x21 := (old2 21 rfl).trans x21
  replace x25 := (old2 25 rfl).trans x25
  have x23 : f5.eval (.tmp 23) = .tuple #[.agg ([.slice pA mA cA, .slice pB mB cB] : List Value).toArray, .bool false, .int .i64 0] := new2
  replace bl := (bl.trans (Below.mono hb bl.size))
  replace sz := sz2.trans sz
  replace df := df2.trans df
  clear df2 sz2 old2 new2 hb
  clear x25
  refine wl_one (.eq (.agg ([.slice pA mA cA, .slice pB mB cB] : List Value).toArray)) rfl 26 rfl (by rw [sz]; decide) (st_tup (.tmp 23) rfl x23 (by rfl)) ?_
  intro f6 w6 df2 sz2 old2 new2 hb
  replace bl0 := bl
  replace x1 := (old2 1 rfl).trans x1
  replace x2 := (old2 2 rfl).trans x2
  replace x21 := (old2 21 rfl).trans x21
  replace x23 := (old2 23 rfl).trans x23
  have x26 : f6.eval (.tmp 26) = .agg ([.slice pA mA cA, .slice pB mB cB] : List Value).toArray := new2
  replace bl := (bl.trans (Below.mono hb bl.size))
  replace sz := sz2.trans sz
  replace df := df2.trans df
  clear df2 sz2 old2 new2 hb
  refine wl_one (.eq (.bool false)) rfl 27 rfl (by rw [sz]; decide) (st_tup (.tmp 23) rfl x23 (by rfl)) ?_
  intro f7 w7 df2 sz2 old2 new2 hb
  replace bl0 := bl
  replace x1 := (old2 1 rfl).trans x1
  replace x2 := (old2 2 rfl).trans x2
  replace x21 := (old2 21 rfl).trans x21
  replace x23 := (old2 23 rfl).trans x23
  replace x26 := (old2 26 rfl).trans x26
  have x27 : f7.eval (.tmp 27) = .bool false := new2
  replace bl := (bl.trans (Below.mono hb bl.size))
  replace sz := sz2.trans sz
  replace df := df2.trans df
  clear df2 sz2 old2 new2 hb
  refine wl_one (.eq (.int .i64 0)) rfl 28 rfl (by rw [sz]; decide) (st_tup (.tmp 23) rfl x23 (by rfl)) ?_
  intro f8 w8 df2 sz2 old2 new2 hb
  replace bl0 := bl
  replace x1 := (old2 1 rfl).trans x1
  replace x2 := (old2 2 rfl).trans x2
  replace x21 := (old2 21 rfl).trans x21
  replace x23 := (old2 23 rfl).trans x23
  replace x26 := (old2 26 rfl).trans x26
  replace x27 := (old2 27 rfl).trans x27
  have x28 : f8.eval (.tmp 28) = .int .i64 0 := new2
  replace bl := (bl.trans (Below.mono hb bl.size))
  replace sz := sz2.trans sz
  replace df := df2.trans df
  clear df2 sz2 old2 new2 hb
  clear x23
  refine wl_one (.nw w8.heap.size 25 [.slice none 0 0, .slice none 0 0]) rfl 3 rfl (by rw [sz]; decide) (st_alloc 25 rfl _ _ (by kernel_rfl) (Nat.le_refl _)) ?_
  intro f9 w9 df2 sz2 old2 new2 hb
  replace bl0 := bl
  replace x1 := (old2 1 rfl).trans x1
  replace x2 := (old2 2 rfl).trans x2
  replace x21 := (old2 21 rfl).trans x21
  replace x26 := (old2 26 rfl).trans x26
  replace x27 := (old2 27 rfl).trans x27
  replace x28 := (old2 28 rfl).trans x28
  have x3 : Fk.f (.nw w8.heap.size 25 [.slice none 0 0, .slice none 0 0]) (f9.eval (.tmp 3)) w9 := new2
  replace bl := (bl.trans (Below.mono hb bl.size))
  replace sz := sz2.trans sz
  replace df := df2.trans df
  clear df2 sz2 old2 new2 hb
  obtain ⟨g3, hg3, e3, m3⟩ := x3
  have x3 := e3
  clear e3
  have nm1_3 : g1 ≠ g3 := Nat.ne_of_lt (Nat.lt_of_lt_of_le (Ob.lt m1) (Nat.le_trans bl0.size hg3))
  have hw3 : w4.heap.size ≤ g3 := Nat.le_trans bl0.size hg3
  refine wl_str rfl 25 (.tmp 3) (.tmp 26) rfl rfl (g3) ([.slice pA mA cA, .slice pB mB cB] : List Value).toArray x3 x26 25 _ m3 (by kernel_rfl) (by kernel_rfl) (by kernel_rfl) ?_
  replace m3 : Ob (w9.setRow g3 ([.slice pA mA cA, .slice pB mB cB] : List Value).toArray) (g3) 25 ([.slice pA mA cA, .slice pB mB cB]) := Ob.setRow m3 ([.slice pA mA cA, .slice pB mB cB])
  replace bl : Below w4.heap.size w4 (w9.setRow g3 ([.slice pA mA cA, .slice pB mB cB] : List Value).toArray) := bl.trans (below_setRow _ _ _ _ hw3)
  generalize w9.setRow g3 ([.slice pA mA cA, .slice pB mB cB] : List Value).toArray = w10b at bl m3 ⊢
  clear x26
  refine wl_one (.eq (.bool false)) rfl 4 rfl (by rw [sz]; decide) (st_assign (.tmp 27) rfl x27) ?_
  intro f11 w11 df2 sz2 old2 new2 hb
  replace bl0 := bl
  replace x1 := (old2 1 rfl).trans x1
  replace x2 := (old2 2 rfl).trans x2
  replace x21 := (old2 21 rfl).trans x21
  replace x27 := (old2 27 rfl).trans x27
  replace x28 := (old2 28 rfl).trans x28
  replace x3 := (old2 3 rfl).trans x3
  have x4 : f11.eval (.tmp 4) = .bool false := new2
  have lt_m3 := Ob.lt m3
  replace m3 := Ob.below m3 hb
  replace bl := (bl.trans (Below.mono hb bl.size))
  replace sz := sz2.trans sz
  replace df := df2.trans df
  clear df2 sz2 old2 new2 hb
  clear x27
  refine wl_one (.eq (.int .i64 0)) rfl 5 rfl (by rw [sz]; decide) (st_assign (.tmp 28) rfl x28) ?_
  intro f12 w12 df2 sz2 old2 new2 hb
  replace bl0 := bl
  replace x1 := (old2 1 rfl).trans x1
  replace x2 := (old2 2 rfl).trans x2
  replace x21 := (old2 21 rfl).trans x21
  replace x28 := (old2 28 rfl).trans x28
  replace x3 := (old2 3 rfl).trans x3
  replace x4 := (old2 4 rfl).trans x4
  have x5 : f12.eval (.tmp 5) = .int .i64 0 := new2
  have lt_m3 := Ob.lt m3
  replace m3 := Ob.below m3 hb
  replace bl := (bl.trans (Below.mono hb bl.size))
  replace sz := sz2.trans sz
  replace df := df2.trans df
  clear df2 sz2 old2 new2 hb
  refine wpList_nil ?_
  clear x28
  show Code.wp _ _ _ _ _
  refine wp_seq ?_
  refine wp_seq ?_
  refine wp_all_seq [.eq (.pointer (some ⟨g1, 0, none⟩)), .eq (.slice aO po.length dO), .eq (.int .i64 (((po).length : Nat) : Int)), .eq (.pointer (some ⟨g1, 1, none⟩)), .eq (.slice aN pn.length dN), .eq (.int .i64 (((pn).length : Nat) : Int)), .eq (.bool false)] (by kernel_rfl) (by kernel_rfl) (by rw [sz]; kernel_rfl) (by kernel_rfl) ⟨fun hw ac u K => ?_, fun hw ac u K => ?_, fun hw ac u K => ?_, fun hw ac u K => ?_, fun hw ac u K => ?_, fun hw ac u K => ?_, fun hw ac u K => ?_, trivial⟩ ?_
  · exact st_field 47 0 (.tmp 1) rfl ((K.old 1 rfl).trans x1) (by kernel_rfl)
  · exact st_loadc 28 (.tmp 29) rfl (by kernel_rfl) (K.dep 0 29 rfl) (Ob.cell (Ob.below m1 (bl.trans (Below.mono K.grow bl.size))) 0 rfl)
  · exact st_lenm (.tmp 30) rfl (fk_val (K.dep 1 30 rfl) (Fk.mono _ _ _ _ hom (bl.trans (Below.mono K.grow bl.size))))
  · exact st_field 47 1 (.tmp 1) rfl ((K.old 1 rfl).trans x1) (by kernel_rfl)
  · exact st_loadc 28 (.tmp 32) rfl (by kernel_rfl) (K.dep 3 32 rfl) (Ob.cell (Ob.below m1 (bl.trans (Below.mono K.grow bl.size))) 1 rfl)
  · exact st_lenm (.tmp 33) rfl (fk_val (K.dep 4 33 rfl) (Fk.mono _ _ _ _ hnm (bl.trans (Below.mono K.grow bl.size))))
  · exact st_gtr 3 (.tmp 31) (.tmp 34) rfl .i64 ((((po).length : Nat) : Int)) ((((pn).length : Nat) : Int)) (K.dep 2 31 rfl) (K.dep 5 34 rfl) _ (by symm; rw [decide_eq_false_iff_not]; exact (by omega))
  intro f13 w13 A hb
  replace bl0 := bl
  replace x1 := (A.old 1 rfl).trans x1
  replace x2 := (A.old 2 rfl).trans x2
  replace x21 := (A.old 21 rfl).trans x21
  replace x3 := (A.old 3 rfl).trans x3
  replace x4 := (A.old 4 rfl).trans x4
  replace x5 := (A.old 5 rfl).trans x5
  have x35 : f13.eval (.tmp 35) = .bool false := A.has 6 35 rfl
  have lt_m3 := Ob.lt m3
  replace m3 := Ob.below m3 hb
  replace bl := (bl.trans (Below.mono hb bl.size))
  replace sz := A.size.trans sz
  replace df := A.defs.trans df
  clear A hb
  show Code.wp _ _ _ _ _
  refine wp_cond_false x35 ?_
  refine wp_skip ?_
  show Code.wp _ _ _ _ _
  refine wp_seq ?_
  refine wp_seq ?_
  refine wp_all [.eq (.pointer (some ⟨g1, 0, none⟩)), .eq (.slice aO po.length dO), .eq (.int .i64 (((po).length : Nat) : Int)), .eq (.pointer (some ⟨g1, 1, none⟩)), .eq (.slice aN pn.length dN), .eq (.int .i64 (((pn).length : Nat) : Int)), .eq (.pointer (some ⟨g1, 0, none⟩)), .eq (.slice aO po.length dO), .ow w4.heap.size (lhs po), .eq (.agg ((ov).map V).toArray), .eq (.pointer (some ⟨g1, 1, none⟩)), .eq (.slice aN pn.length dN), .ow w4.heap.size (lhs pn), .eq (.agg ((nv).map V).toArray), .eq (.pointer (some ⟨g1, 2, none⟩)), .eq (.slice aP P.length dP), .eq (.int .i64 0), .eq (.bool false)] Tryd.mixed (by kernel_rfl) (by kernel_rfl) (by rw [sz]; kernel_rfl) (by kernel_rfl) ⟨fun hw ac u K => ?_, fun hw ac u K => ?_, fun hw ac u K => ?_, fun hw ac u K => ?_, fun hw ac u K => ?_, fun hw ac u K => ?_, fun hw ac u K => ?_, fun hw ac u K => ?_, fun hw ac u K => ?_, fun hw ac u K => ?_, fun hw ac u K => ?_, fun hw ac u K => ?_, fun hw ac u K => ?_, fun hw ac u K => ?_, fun hw ac u K => ?_, fun hw ac u K => ?_, fun hw ac u K => ?_, fun hw ac u K => ?_, trivial⟩ ?_
  · exact st_field 47 0 (.tmp 1) rfl ((K.old 1 rfl).trans x1) (by kernel_rfl)
  · exact st_loadc 28 (.tmp 45) rfl (by kernel_rfl) (K.dep 0 45 rfl) (Ob.cell (Ob.below m1 (bl.trans (Below.mono K.grow bl.size))) 0 rfl)
  · exact st_lenm (.tmp 46) rfl (fk_val (K.dep 1 46 rfl) (Fk.mono _ _ _ _ hom (bl.trans (Below.mono K.grow bl.size))))
  · exact st_field 47 1 (.tmp 1) rfl ((K.old 1 rfl).trans x1) (by kernel_rfl)
  · exact st_loadc 28 (.tmp 48) rfl (by kernel_rfl) (K.dep 3 48 rfl) (Ob.cell (Ob.below m1 (bl.trans (Below.mono K.grow bl.size))) 1 rfl)
  · exact st_lenm (.tmp 49) rfl (fk_val (K.dep 4 49 rfl) (Fk.mono _ _ _ _ hnm (bl.trans (Below.mono K.grow bl.size))))
  · exact st_field 47 0 (.tmp 1) rfl ((K.old 1 rfl).trans x1) (by kernel_rfl)
  · exact st_loadc 28 (.tmp 51) rfl (by kernel_rfl) (K.dep 6 51 rfl) (Ob.cell (Ob.below m1 (bl.trans (Below.mono K.grow bl.size))) 0 rfl)
  · exact st_call 14 (.func 14) _ _ #[.slice aO po.length dO] rfl rfl (one_arg (K.dep 7 52 rfl)) Tryd.enter14 (fk_ow (bl.trans (Below.mono K.grow bl.size)).size (fk_hashes (by omega) hxo (Fk.mono _ _ _ _ hom (bl.trans (Below.mono K.grow bl.size))) (hK.below (bl.trans (Below.mono K.grow bl.size)))))
  · exact st_call 19 (.func 19) _ _ #[ac.eval (.tmp 53)] rfl rfl (one_arg rfl) Tryd.enter19 (fk_of (root_any (lhs po) _ _ (by rw [lhs_len]; omega) (ow_hc (K.dep 8 53 rfl)) (hK.below (bl.trans (Below.mono K.grow bl.size))) eov))
  · exact st_field 47 1 (.tmp 1) rfl ((K.old 1 rfl).trans x1) (by kernel_rfl)
  · exact st_loadc 28 (.tmp 55) rfl (by kernel_rfl) (K.dep 10 55 rfl) (Ob.cell (Ob.below m1 (bl.trans (Below.mono K.grow bl.size))) 1 rfl)
  · exact st_call 14 (.func 14) _ _ #[.slice aN pn.length dN] rfl rfl (one_arg (K.dep 11 56 rfl)) Tryd.enter14 (fk_ow (bl.trans (Below.mono K.grow bl.size)).size (fk_hashes (by omega) hxn (Fk.mono _ _ _ _ hnm (bl.trans (Below.mono K.grow bl.size))) (hK.below (bl.trans (Below.mono K.grow bl.size)))))
  · exact st_call 19 (.func 19) _ _ #[ac.eval (.tmp 57)] rfl rfl (one_arg rfl) Tryd.enter19 (fk_of (root_any (lhs pn) _ _ (by rw [lhs_len]; omega) (ow_hc (K.dep 12 57 rfl)) (hK.below (bl.trans (Below.mono K.grow bl.size))) env))
  · exact st_field 47 2 (.tmp 1) rfl ((K.old 1 rfl).trans x1) (by kernel_rfl)
  · exact st_loadc 35 (.tmp 59) rfl (by kernel_rfl) (K.dep 14 59 rfl) (Ob.cell (Ob.below m1 (bl.trans (Below.mono K.grow bl.size))) 2 rfl)
  · exact st_call 21 (.func 21) _ _ #[.int .i64 (((po).length : Nat) : Int), .int .i64 (((pn).length : Nat) : Int), .agg ((ov).map V).toArray, .agg ((nv).map V).toArray, .slice aP P.length dP] rfl rfl (arg5 (K.dep 2 47 rfl) (K.dep 5 50 rfl) (K.dep 9 54 rfl) (K.dep 13 58 rfl) (K.dep 15 60 rfl)) Tryd.enter21 (fk_on_all hov hnv h (by omega) (Fk.mono _ _ _ _ hp (bl.trans (Below.mono K.grow bl.size))) (by omega) (hK.below (bl.trans (Below.mono K.grow bl.size))) h0 _ (by rw [if_pos hr]))
  · exact st_neqi 40 (.tmp 61) (.const (.int .i64 0)) rfl .i64 (0) (0) (K.dep 16 61 rfl) rfl _ (by rfl)
  intro f14 w14 A hb
  replace bl0 := bl
  replace x1 := (A.old 1 rfl).trans x1
  replace x2 := (A.old 2 rfl).trans x2
  replace x21 := (A.old 21 rfl).trans x21
  replace x3 := (A.old 3 rfl).trans x3
  replace x4 := (A.old 4 rfl).trans x4
  replace x5 := (A.old 5 rfl).trans x5
  replace x35 := (A.old 35 rfl).trans x35
  have x62 : f14.eval (.tmp 62) = .bool false := A.has 17 62 rfl
  have lt_m3 := Ob.lt m3
  replace m3 := Ob.below m3 hb
  replace bl := (bl.trans (Below.mono hb bl.size))
  replace sz := A.size.trans sz
  replace df := A.defs.trans df
  clear A hb
  show Code.wp _ _ _ _ _
  refine wp_cond_false x62 ?_
  refine wp_skip ?_
  show Code.wp _ _ _ _ _
  refine wp_seq ?_
  refine wp_seq ?_
  refine wp_all_seq [.eq (.int .i64 0), .eq (.bool false), .eq (.bool false), .eq (.bool false), .eq (.pointer (some ⟨g1, 0, none⟩)), .eq (.slice aO po.length dO), .eq (.pointer (some ⟨g1, 1, none⟩)), .eq (.slice aN pn.length dN), .eq (.bool true), .eq (.bool false), .eq (.bool false), .eq (.bool false)] (by kernel_rfl) (by kernel_rfl) (by rw [sz]; kernel_rfl) (by kernel_rfl) ⟨fun hw ac u K => ?_, fun hw ac u K => ?_, fun hw ac u K => ?_, fun hw ac u K => ?_, fun hw ac u K => ?_, fun hw ac u K => ?_, fun hw ac u K => ?_, fun hw ac u K => ?_, fun hw ac u K => ?_, fun hw ac u K => ?_, fun hw ac u K => ?_, fun hw ac u K => ?_, trivial⟩ ?_
  · exact st_move (.tmp 5) rfl ((K.old 5 rfl).trans x5)
  · exact st_neqi 40 (.tmp 72) (.const (.int .i64 0)) rfl .i64 (0) (0) (K.dep 0 72 rfl) rfl _ (by rfl)
  · exact st_move (.tmp 73) rfl (K.dep 1 73 rfl)
  · exact st_move (.tmp 4) rfl ((K.old 4 rfl).trans x4)
  · exact st_field 47 0 (.tmp 1) rfl ((K.old 1 rfl).trans x1) (by kernel_rfl)
  · exact st_loadc 28 (.tmp 76) rfl (by kernel_rfl) (K.dep 4 76 rfl) (Ob.cell (Ob.below m1 (bl.trans (Below.mono K.grow bl.size))) 0 rfl)
  · exact st_field 47 1 (.tmp 1) rfl ((K.old 1 rfl).trans x1) (by kernel_rfl)
  · exact st_loadc 28 (.tmp 78) rfl (by kernel_rfl) (K.dep 6 78 rfl) (Ob.cell (Ob.below m1 (bl.trans (Below.mono K.grow bl.size))) 1 rfl)
  · exact st_call 22 (.func 22) _ _ #[.slice aO po.length dO, .slice aN pn.length dN] rfl rfl (arg2 (K.dep 5 77 rfl) (K.dep 7 79 rfl)) Tryd.enter22 (fk_begins (by omega) (by omega) (Fk.mono _ _ _ _ hom (bl.trans (Below.mono K.grow bl.size))) (Fk.mono _ _ _ _ hnm (bl.trans (Below.mono K.grow bl.size))) hn.2 (by symm; rw [decide_eq_true_iff]; exact ⟨h, hq⟩))
  · exact st_not (.tmp 80) rfl true (K.dep 8 80 rfl)
  · exact st_bin .neq 4 4 (.tmp 75) (.tmp 81) rfl (K.dep 3 75 rfl) (K.dep 9 81 rfl) (by rfl)
  · exact st_pick_f' (.tmp 74) (.const (.bool true)) (.tmp 82) rfl (K.dep 2 74 rfl) (K.dep 10 82 rfl)
  intro f15 w15 A hb
  replace bl0 := bl
  replace x1 := (A.old 1 rfl).trans x1
  replace x2 := (A.old 2 rfl).trans x2
  replace x21 := (A.old 21 rfl).trans x21
  replace x3 := (A.old 3 rfl).trans x3
  replace x4 := (A.old 4 rfl).trans x4
  replace x5 := (A.old 5 rfl).trans x5
  replace x35 := (A.old 35 rfl).trans x35
  replace x62 := (A.old 62 rfl).trans x62
  have x83 : f15.eval (.tmp 83) = .bool false := A.has 11 83 rfl
  have lt_m3 := Ob.lt m3
  replace m3 := Ob.below m3 hb
  replace bl := (bl.trans (Below.mono hb bl.size))
  replace sz := A.size.trans sz
  replace df := A.defs.trans df
  clear A hb
  show Code.wp _ _ _ _ _
  refine wp_cond_false x83 ?_
  refine wp_skip ?_
  show Code.wp _ _ _ _ _
  refine wp_seq ?_
  refine wp_all_seq [.eq (.bool false), .eq (.bool true), .eq (.bool true), .any, .any, .eq (.bool true), .eq (.bool true), .eq (.bool true), .eq (.bool true), .eq (.bool true)] (by kernel_rfl) (by kernel_rfl) (by rw [sz]; kernel_rfl) (by kernel_rfl) ⟨fun hw ac u K => ?_, fun hw ac u K => ?_, fun hw ac u K => ?_, fun hw ac u K => ?_, fun hw ac u K => ?_, fun hw ac u K => ?_, fun hw ac u K => ?_, fun hw ac u K => ?_, fun hw ac u K => ?_, fun hw ac u K => ?_, trivial⟩ ?_
  · exact st_move (.tmp 4) rfl ((K.old 4 rfl).trans x4)
  · exact st_not (.tmp 84) rfl false (K.dep 0 84 rfl)
  · exact st_move (.tmp 85) rfl (K.dep 1 85 rfl)
  · exact (Bool.false_ne_true hw).elim
  · exact (Bool.false_ne_true hw).elim
  · exact st_pick_t (.tmp 86) (.const (.bool true)) (.tmp 88) rfl (K.dep 2 86 rfl) rfl
  · exact st_move (.tmp 89) rfl (K.dep 5 89 rfl)
  · exact st_call 8 (.func 8) _ _ #[] rfl rfl rfl Tryd.enter8 (fk_of (awake_any _ (hK.below (bl.trans (Below.mono K.grow bl.size)))))
  · exact st_pick_t (.tmp 90) (.tmp 91) (.const (.bool false)) rfl (K.dep 6 90 rfl) (K.dep 7 91 rfl)
  · exact st_assign (.tmp 92) rfl (K.dep 8 92 rfl)
  intro f16 w16 A hb
  replace bl0 := bl
  replace x1 := (A.old 1 rfl).trans x1
  clear x2
  replace x21 := (A.old 21 rfl).trans x21
  replace x3 := (A.old 3 rfl).trans x3
  replace x4 := (A.old 4 rfl).trans x4
  replace x5 := (A.old 5 rfl).trans x5
  replace x35 := (A.old 35 rfl).trans x35
  replace x62 := (A.old 62 rfl).trans x62
  replace x83 := (A.old 83 rfl).trans x83
  have x2 : f16.eval (.tmp 2) = .bool true := A.has 9 2 rfl
  have lt_m3 := Ob.lt m3
  replace m3 := Ob.below m3 hb
  replace bl := (bl.trans (Below.mono hb bl.size))
  replace sz := A.size.trans sz
  replace df := A.defs.trans df
  clear A hb
  show Code.wp _ _ _ _ _
  refine wp_ret ?_
  repeat (first | with_reducible refine then_ret ?_ | with_reducible refine block_ret ?_)
  exact bodyPost_ret (v := .bool true) (ret_slot rfl f16 _ x2 _ _) df ⟨rfl, (blw.trans (Below.mono bl blw.size))⟩
theorem on_law {po pn : List Pt} {P : List (List (BitVec 8))} {aO aN aP : Option Addr} {dO dN dP : Nat} (hlo : po.length ≤ 140737488351232) (hln : pn.length ≤ 140737488351232) (w : World) (hK : Tab w) (ho : (Fk.mc po).f (.slice aO po.length dO) w) (hn : (Fk.mc pn).f (.slice aN pn.length dN) w) (hp : (Fk.hc P).f (.slice aP P.length dP) w) :
    Calls Tryd.prog 6 #[.agg ([.slice aO po.length dO, .slice aN pn.length dN, .slice aP P.length dP] : List Value).toArray] w fun e w' => e = .returned (.bool true) ∧ Below w.heap.size w w' := by
  by_cases h : ¬ smallP po ∨ ¬ smallP pn ∨ 50 < P.length
  · exact lon_pass hlo hln w hK ho hn hp h
  · have hso : smallP po := Classical.byContradiction fun h2 => h (.inl h2)
    have hsn : smallP pn := Classical.byContradiction fun h2 => h (.inr (.inl h2))
    have h5 : P.length ≤ 50 := Nat.le_of_not_lt fun h2 => h (.inr (.inr h2))
    rcases Nat.lt_or_ge pn.length po.length with h2 | h2
    · exact lon_no hlo hln w hK ho hn hp hso hsn h5 h2
    · exact lon_main hlo hln w hK ho hn hp hso hsn h5 h2
end Go.Proofs.YtfmeeimhfdnjpaaDoor
