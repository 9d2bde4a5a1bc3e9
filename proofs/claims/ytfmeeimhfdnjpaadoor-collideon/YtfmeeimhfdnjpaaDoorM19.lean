/- CollideOn. Arguments opened: numbers with their bounds, slices of hashes with their room. Places and steps of layer 8 that came in, opened. Lists of slices of bytes that came in, opened: with their room and the bound of their length; claims and growths of layer 10. -/
import Derived.Test.YtfmeeimhfdnjpaaDoorM18
import Derived.Test.YtfmeeimhfdnjpaaDoorM10
import Derived.Test.YtfmeeimhfdnjpaaDoorM5
import Derived.Test.YtfmeeimhfdnjpaaDoorM4
import Derived.Test.YtfmeeimhfdnjpaaDoorM6
namespace Go.Proofs.YtfmeeimhfdnjpaaDoor
set_option maxRecDepth 100000
open Go.RowKit
theorem prOn_pos {m n : Nat} (h : 1 ≤ m) (old rt : List (BitVec 8)) (P : List (List (BitVec 8))) : prOn m n old rt P ↔ bres old P (stp m n true).1 (stp m n true).2 = some (old, rt) := by unfold prOn; rw [if_neg (by omega)]
theorem fk_on_all {old rt : List (BitVec 8)} (hold : old.length = 32) (hrt : rt.length = 32) {m n : Nat} (hmn : m ≤ n) (hn : n ≤ 1152921504606846976) {P : List (List (BitVec 8))} {v : Value} {w : World} (hv : (Fk.hc P).f v w) (hP : P.length ≤ 100000) (hK : Tab w) (h0 : m = 0 → old = shaOf [] ∧ (n = 0 → rt = old)) (r : Int) (hr : r = if prOn m n old rt P then 0 else 22) :
    Calls Tryd.prog 21 #[.int .i64 (m : Int), .int .i64 (n : Int), .agg ((old).map V).toArray, .agg ((rt).map V).toArray, v] w fun e w' => ∃ u, e = .returned u ∧ (Fk.eq (.int .i64 r)).f u w' ∧ Below w.heap.size w w' := by
  by_cases hm : m = 0
  · subst hm
    obtain ⟨e1, e2⟩ := h0 rfl
    refine fk_on_zero hold hrt hn hv hP hK r ?_
    rw [hr]
    by_cases hp : P.length = 0
    · rw [if_pos (by unfold prOn; rw [if_pos rfl]; exact hp), if_pos ⟨e1, hp, by rcases Nat.eq_zero_or_pos n with h | h; exact .inr (e2 h); exact .inl h⟩]
    · rw [if_neg (by unfold prOn; rw [if_pos rfl]; exact hp), if_neg (fun h => hp h.2.1)]
  · refine fk_on_any hold hrt (by omega) hmn hn hv hP hK r ?_
    rw [hr]
    by_cases hb : bres old P (stp m n true).1 (stp m n true).2 = some (old, rt)
    · rw [if_pos hb, if_pos ((prOn_pos (by omega) old rt P).2 hb)]
    · rw [if_neg hb, if_neg (fun h => hb ((prOn_pos (by omega) old rt P).1 h))]
set_option maxHeartbeats 1000000 in
theorem lon_pass {po pn : List Pt} {P : List (List (BitVec 8))} {aO aN aP : Option Addr} {dO dN dP : Nat} (hlo : po.length ≤ 140737488351232) (hln : pn.length ≤ 140737488351232) (w : World) (hK : Tab w) (ho : (Fk.mc po).f (.slice aO po.length dO) w) (hn : (Fk.mc pn).f (.slice aN pn.length dN) w) (hp : (Fk.hc P).f (.slice aP P.length dP) w) (h : ¬ smallP po ∨ ¬ smallP pn ∨ 50 < P.length) :
    Calls Tryd.prog 6 #[.agg ([.slice aO po.length dO, .slice aN pn.length dN, .slice aP P.length dP] : List Value).toArray] w fun e w' => e = .returned (.bool true) ∧ Below w.heap.size w w' := by
  have hom := ho.1
  have hnm := hn.1
  have hps := hc_hs hp
  go_enter Tryd.func6, Tryd.ntmps6
  refine code_both (fun f w1 => f.tmps.size = 93 ∧ f.defers = [] ∧ f.eval (.tmp 0) = .agg ([.slice aO po.length dO, .slice aN pn.length dN, .slice aP P.length dP] : List Value).toArray ∧ Below w.heap.size w (w1)) ⟨rfl, rfl, rfl, Below.refl _ _⟩ ?_
  rintro f0 w0 ⟨sz, df, x0, bl⟩
  have sd := And.intro sz df
  clear sz df
  have bl0 := bl
  refine wp_seq ?_
  refine wr_a [.nw w0.heap.size 47 ([.slice aO po.length dO, .slice aN pn.length dN, .slice aP P.length dP] : List Value), .eq (.bool false)] (by rw [sd.1]; kernel_rfl) ⟨fun hw ac u K => ?_, fun hw ac u K => ?_, trivial⟩ ?_
  · exact st_box 47 (.tmp 0) rfl _ _ (by rw [show _ = _ from (K.t x0 rfl)]; kernel_rfl) K.grow.size
  · exact st_assign (.const (.bool false)) rfl rfl
  intro f1 w1 A hb
  replace bl0 := bl
  replace x0 := A.t x0 rfl
  have x1 : Fk.f (.nw w0.heap.size 47 ([.slice aO po.length dO, .slice aN pn.length dN, .slice aP P.length dP] : List Value)) (f1.eval (.tmp 1)) w1 := A.has 0 1 rfl
  replace bl := bgo bl hb
  replace sd := A.sd sd
  clear A hb
  clear x0
  obtain ⟨g1, hg1, e1, m1⟩ := x1
  have x1 := e1
  clear e1
  have hw1 : w.heap.size ≤ g1 := Nat.le_trans bl0.size hg1
  show Code.wp _ _ _ _ _
  refine wp_seq ?_
  refine wp_seq ?_
  by_cases hso : smallP po
  rotate_left
  · skip
    refine wr_a [.eq (.pointer (some ⟨g1, 0, none⟩)), .eq (.slice aO po.length dO), .eq (.bool false), .eq (.bool true), .eq (.bool true), .any, .any, .any, .any, .eq (.bool true), .eq (.bool true), .any, .any, .any, .any, .eq (.bool true)] (by rw [sd.1]; kernel_rfl) ⟨fun hw ac u K => ?_, fun hw ac u K => ?_, fun hw ac u K => ?_, fun hw ac u K => ?_, fun hw ac u K => ?_, fun hw ac u K => ?_, fun hw ac u K => ?_, fun hw ac u K => ?_, fun hw ac u K => ?_, fun hw ac u K => ?_, fun hw ac u K => ?_, fun hw ac u K => ?_, fun hw ac u K => ?_, fun hw ac u K => ?_, fun hw ac u K => ?_, fun hw ac u K => ?_, trivial⟩ ?_
    · exact st_field 47 0 (.tmp 1) rfl (K.t x1 rfl) (by kernel_rfl)
    · exact st_loadc 28 (.tmp 6) rfl (by kernel_rfl) (K.dep 0 6 rfl) (Ob.cell (Ob.below m1 K.grow) 0 rfl)
    · exact st_call 11 (.func 11) _ _ _ rfl rfl (one_arg (K.dep 1 7 rfl)) Tryd.enter11 (fk_small hlo (Fk.mono _ _ _ _ hom (bgo bl K.grow)) (by symm; rw [decide_eq_false_iff_not]; exact hso))
    · exact st_not (.tmp 8) rfl false (K.dep 2 8 rfl)
    · exact st_move (.tmp 9) rfl (K.dep 3 9 rfl)
    · exact (Bool.false_ne_true hw).elim
    · exact (Bool.false_ne_true hw).elim
    · exact (Bool.false_ne_true hw).elim
    · exact (Bool.false_ne_true hw).elim
    · exact st_pick_t (.tmp 10) (.const (.bool true)) (.tmp 14) rfl (K.dep 4 10 rfl) rfl
    · exact st_move (.tmp 15) rfl (K.dep 9 15 rfl)
    · exact (Bool.false_ne_true hw).elim
    · exact (Bool.false_ne_true hw).elim
    · exact (Bool.false_ne_true hw).elim
    · exact (Bool.false_ne_true hw).elim
    · exact st_pick_t (.tmp 16) (.const (.bool true)) (.tmp 20) rfl (K.dep 10 16 rfl) rfl
    intro f2 w2 A hb
    replace x1 := A.t x1 rfl
    have x21 := A.e 15 21 rfl rfl
    replace m1 := Ob.below m1 hb
    replace bl := bgo bl hb
    replace sd := A.sd sd
    clear A hb
    show Code.wp _ _ _ _ _
    refine wp_cond_true x21 ?_
    refine wp_seq ?_
    refine wr_a [.eq (.bool true), .eq (.bool true)] (by rw [sd.1]; kernel_rfl) ⟨fun hw ac u K => ?_, fun hw ac u K => ?_, trivial⟩ ?_
    · exact st_call 8 (.func 8) _ _ _ rfl rfl rfl Tryd.enter8 (fk_of (awake_any _ (hK.below (bgo bl K.grow))))
    · exact st_assign (.tmp 22) rfl (K.dep 0 22 rfl)
    intro f3 w3 A hb
    replace x1 := A.t x1 rfl
    replace x21 := A.t x21 rfl
    have x2 := A.e 1 2 rfl rfl
    replace m1 := Ob.below m1 hb
    replace bl := bgo bl hb
    replace sd := A.sd sd
    clear A hb
    clear x1
    clear x21
    clear m1
    show Code.wp _ _ _ _ _
    refine wp_ret ?_
    repeat (first | with_reducible refine then_ret ?_ | with_reducible refine block_ret ?_)
    exact bodyPost_ret (v := .bool true) (ret_slot rfl f3 _ x2 _ _) sd.2 ⟨rfl, bl⟩
  by_cases hsn : smallP pn
  rotate_left
  · skip
    refine wr_a [.eq (.pointer (some ⟨g1, 0, none⟩)), .eq (.slice aO po.length dO), .eq (.bool true), .eq (.bool false), .eq (.bool false), .eq (.pointer (some ⟨g1, 1, none⟩)), .eq (.slice aN pn.length dN), .eq (.bool false), .eq (.bool true), .eq (.bool true), .eq (.bool true), .any, .any, .any, .any, .eq (.bool true)] (by rw [sd.1]; kernel_rfl) ⟨fun hw ac u K => ?_, fun hw ac u K => ?_, fun hw ac u K => ?_, fun hw ac u K => ?_, fun hw ac u K => ?_, fun hw ac u K => ?_, fun hw ac u K => ?_, fun hw ac u K => ?_, fun hw ac u K => ?_, fun hw ac u K => ?_, fun hw ac u K => ?_, fun hw ac u K => ?_, fun hw ac u K => ?_, fun hw ac u K => ?_, fun hw ac u K => ?_, fun hw ac u K => ?_, trivial⟩ ?_
    · exact st_field 47 0 (.tmp 1) rfl (K.t x1 rfl) (by kernel_rfl)
    · exact st_loadc 28 (.tmp 6) rfl (by kernel_rfl) (K.dep 0 6 rfl) (Ob.cell (Ob.below m1 K.grow) 0 rfl)
    · exact st_call 11 (.func 11) _ _ _ rfl rfl (one_arg (K.dep 1 7 rfl)) Tryd.enter11 (fk_small hlo (Fk.mono _ _ _ _ hom (bgo bl K.grow)) (by symm; rw [decide_eq_true_iff]; exact hso))
    · exact st_not (.tmp 8) rfl true (K.dep 2 8 rfl)
    · exact st_move (.tmp 9) rfl (K.dep 3 9 rfl)
    · exact st_field 47 1 (.tmp 1) rfl (K.t x1 rfl) (by kernel_rfl)
    · exact st_loadc 28 (.tmp 11) rfl (by kernel_rfl) (K.dep 5 11 rfl) (Ob.cell (Ob.below m1 K.grow) 1 rfl)
    · exact st_call 11 (.func 11) _ _ _ rfl rfl (one_arg (K.dep 6 12 rfl)) Tryd.enter11 (fk_small hln (Fk.mono _ _ _ _ hnm (bgo bl K.grow)) (by symm; rw [decide_eq_false_iff_not]; exact hsn))
    · exact st_not (.tmp 13) rfl false (K.dep 7 13 rfl)
    · exact st_pick_f' (.tmp 10) (.const (.bool true)) (.tmp 14) rfl (K.dep 4 10 rfl) (K.dep 8 14 rfl)
    · exact st_move (.tmp 15) rfl (K.dep 9 15 rfl)
    · exact (Bool.false_ne_true hw).elim
    · exact (Bool.false_ne_true hw).elim
    · exact (Bool.false_ne_true hw).elim
    · exact (Bool.false_ne_true hw).elim
    · exact st_pick_t (.tmp 16) (.const (.bool true)) (.tmp 20) rfl (K.dep 10 16 rfl) rfl
    intro f2 w2 A hb
    replace x1 := A.t x1 rfl
    have x21 := A.e 15 21 rfl rfl
    replace m1 := Ob.below m1 hb
    replace bl := bgo bl hb
    replace sd := A.sd sd
    clear A hb
    show Code.wp _ _ _ _ _
    refine wp_cond_true x21 ?_
    refine wp_seq ?_
    refine wr_a [.eq (.bool true), .eq (.bool true)] (by rw [sd.1]; kernel_rfl) ⟨fun hw ac u K => ?_, fun hw ac u K => ?_, trivial⟩ ?_
    · exact st_call 8 (.func 8) _ _ _ rfl rfl rfl Tryd.enter8 (fk_of (awake_any _ (hK.below (bgo bl K.grow))))
    · exact st_assign (.tmp 22) rfl (K.dep 0 22 rfl)
    intro f3 w3 A hb
    replace x1 := A.t x1 rfl
    replace x21 := A.t x21 rfl
    have x2 := A.e 1 2 rfl rfl
    replace m1 := Ob.below m1 hb
    replace bl := bgo bl hb
    replace sd := A.sd sd
    clear A hb
    clear x1
    clear x21
    clear m1
    show Code.wp _ _ _ _ _
    refine wp_ret ?_
    repeat (first | with_reducible refine then_ret ?_ | with_reducible refine block_ret ?_)
    exact bodyPost_ret (v := .bool true) (ret_slot rfl f3 _ x2 _ _) sd.2 ⟨rfl, bl⟩
  have h5 : 50 < P.length := (h.resolve_left (fun h => h hso)).resolve_left (fun h => h hsn)
  refine wr_a [.eq (.pointer (some ⟨g1, 0, none⟩)), .eq (.slice aO po.length dO), .eq (.bool true), .eq (.bool false), .eq (.bool false), .eq (.pointer (some ⟨g1, 1, none⟩)), .eq (.slice aN pn.length dN), .eq (.bool true), .eq (.bool false), .eq (.bool false), .eq (.bool false), .eq (.pointer (some ⟨g1, 2, none⟩)), .eq (.slice aP P.length dP), .eq (.int .i64 (((P).length : Nat) : Int)), .eq (.bool true), .eq (.bool true)] (by rw [sd.1]; kernel_rfl) ⟨fun hw ac u K => ?_, fun hw ac u K => ?_, fun hw ac u K => ?_, fun hw ac u K => ?_, fun hw ac u K => ?_, fun hw ac u K => ?_, fun hw ac u K => ?_, fun hw ac u K => ?_, fun hw ac u K => ?_, fun hw ac u K => ?_, fun hw ac u K => ?_, fun hw ac u K => ?_, fun hw ac u K => ?_, fun hw ac u K => ?_, fun hw ac u K => ?_, fun hw ac u K => ?_, trivial⟩ ?_
  · exact st_field 47 0 (.tmp 1) rfl (K.t x1 rfl) (by kernel_rfl)
  · exact st_loadc 28 (.tmp 6) rfl (by kernel_rfl) (K.dep 0 6 rfl) (Ob.cell (Ob.below m1 K.grow) 0 rfl)
  · exact st_call 11 (.func 11) _ _ _ rfl rfl (one_arg (K.dep 1 7 rfl)) Tryd.enter11 (fk_small hlo (Fk.mono _ _ _ _ hom (bgo bl K.grow)) (by symm; rw [decide_eq_true_iff]; exact hso))
  · exact st_not (.tmp 8) rfl true (K.dep 2 8 rfl)
  · exact st_move (.tmp 9) rfl (K.dep 3 9 rfl)
  · exact st_field 47 1 (.tmp 1) rfl (K.t x1 rfl) (by kernel_rfl)
  · exact st_loadc 28 (.tmp 11) rfl (by kernel_rfl) (K.dep 5 11 rfl) (Ob.cell (Ob.below m1 K.grow) 1 rfl)
  · exact st_call 11 (.func 11) _ _ _ rfl rfl (one_arg (K.dep 6 12 rfl)) Tryd.enter11 (fk_small hln (Fk.mono _ _ _ _ hnm (bgo bl K.grow)) (by symm; rw [decide_eq_true_iff]; exact hsn))
  · exact st_not (.tmp 13) rfl true (K.dep 7 13 rfl)
  · exact st_pick_f' (.tmp 10) (.const (.bool true)) (.tmp 14) rfl (K.dep 4 10 rfl) (K.dep 8 14 rfl)
  · exact st_move (.tmp 15) rfl (K.dep 9 15 rfl)
  · exact st_field 47 2 (.tmp 1) rfl (K.t x1 rfl) (by kernel_rfl)
  · exact st_loadc 35 (.tmp 17) rfl (by kernel_rfl) (K.dep 11 17 rfl) (Ob.cell (Ob.below m1 K.grow) 2 rfl)
  · exact st_lenh (.tmp 18) rfl (fk_val (K.dep 12 18 rfl) (Fk.mono _ _ _ _ hps (bgo bl K.grow)))
  · exact st_gtr 3 (.tmp 19) (.const (.int .i64 50)) rfl .i64 ((((P).length : Nat) : Int)) (50) (K.dep 13 19 rfl) rfl _ (by rw [eq_comm, decide_eq_true_iff]; omega)
  · exact st_pick_f' (.tmp 16) (.const (.bool true)) (.tmp 20) rfl (K.dep 10 16 rfl) (K.dep 14 20 rfl)
  intro f2 w2 A hb
  replace x1 := A.t x1 rfl
  have x21 := A.e 15 21 rfl rfl
  replace m1 := Ob.below m1 hb
  replace bl := bgo bl hb
  replace sd := A.sd sd
  clear A hb
  show Code.wp _ _ _ _ _
  refine wp_cond_true x21 ?_
  refine wp_seq ?_
  refine wr_a [.eq (.bool true), .eq (.bool true)] (by rw [sd.1]; kernel_rfl) ⟨fun hw ac u K => ?_, fun hw ac u K => ?_, trivial⟩ ?_
  · exact st_call 8 (.func 8) _ _ _ rfl rfl rfl Tryd.enter8 (fk_of (awake_any _ (hK.below (bgo bl K.grow))))
  · exact st_assign (.tmp 22) rfl (K.dep 0 22 rfl)
  intro f3 w3 A hb
  replace x1 := A.t x1 rfl
  replace x21 := A.t x21 rfl
  have x2 := A.e 1 2 rfl rfl
  replace m1 := Ob.below m1 hb
  replace bl := bgo bl hb
  replace sd := A.sd sd
  clear A hb
  clear x1
  clear x21
  clear m1
  show Code.wp _ _ _ _ _
  refine wp_ret ?_
  repeat (first | with_reducible refine then_ret ?_ | with_reducible refine block_ret ?_)
  exact bodyPost_ret (v := .bool true) (ret_slot rfl f3 _ x2 _ _) sd.2 ⟨rfl, bl⟩
set_option maxHeartbeats 1000000 in
theorem lon_no {po pn : List Pt} {P : List (List (BitVec 8))} {aO aN aP : Option Addr} {dO dN dP : Nat} (hlo : po.length ≤ 140737488351232) (hln : pn.length ≤ 140737488351232) (w : World) (hK : Tab w) (ho : (Fk.mc po).f (.slice aO po.length dO) w) (hn : (Fk.mc pn).f (.slice aN pn.length dN) w) (hp : (Fk.hc P).f (.slice aP P.length dP) w) (hso : smallP po) (hsn : smallP pn) (hPl : P.length ≤ 50) (h : pn.length < po.length) :
    Calls Tryd.prog 6 #[.agg ([.slice aO po.length dO, .slice aN pn.length dN, .slice aP P.length dP] : List Value).toArray] w fun e w' => e = .returned (.bool true) ∧ Below w.heap.size w w' := by
  have hom := ho.1
  have hnm := hn.1
  have hps := hc_hs hp
  go_enter Tryd.func6, Tryd.ntmps6
  refine code_both (fun f w1 => f.tmps.size = 93 ∧ f.defers = [] ∧ f.eval (.tmp 0) = .agg ([.slice aO po.length dO, .slice aN pn.length dN, .slice aP P.length dP] : List Value).toArray ∧ Below w.heap.size w (w1)) ⟨rfl, rfl, rfl, Below.refl _ _⟩ ?_
  rintro f0 w0 ⟨sz, df, x0, bl⟩
  have sd := And.intro sz df
  clear sz df
  have bl0 := bl
  refine wp_seq ?_
  refine wr_a [.nw w0.heap.size 47 ([.slice aO po.length dO, .slice aN pn.length dN, .slice aP P.length dP] : List Value), .eq (.bool false)] (by rw [sd.1]; kernel_rfl) ⟨fun hw ac u K => ?_, fun hw ac u K => ?_, trivial⟩ ?_
  · exact st_box 47 (.tmp 0) rfl _ _ (by rw [show _ = _ from (K.t x0 rfl)]; kernel_rfl) K.grow.size
  · exact st_assign (.const (.bool false)) rfl rfl
  intro f1 w1 A hb
  replace bl0 := bl
  replace x0 := A.t x0 rfl
  have x1 : Fk.f (.nw w0.heap.size 47 ([.slice aO po.length dO, .slice aN pn.length dN, .slice aP P.length dP] : List Value)) (f1.eval (.tmp 1)) w1 := A.has 0 1 rfl
  replace bl := bgo bl hb
  replace sd := A.sd sd
  clear A hb
  clear x0
  obtain ⟨g1, hg1, e1, m1⟩ := x1
  have x1 := e1
  clear e1
  have hw1 : w.heap.size ≤ g1 := Nat.le_trans bl0.size hg1
  show Code.wp _ _ _ _ _
  refine wp_seq ?_
  refine wp_seq ?_
  refine wr_a [.eq (.pointer (some ⟨g1, 0, none⟩)), .eq (.slice aO po.length dO), .eq (.bool true), .eq (.bool false), .eq (.bool false), .eq (.pointer (some ⟨g1, 1, none⟩)), .eq (.slice aN pn.length dN), .eq (.bool true), .eq (.bool false), .eq (.bool false), .eq (.bool false), .eq (.pointer (some ⟨g1, 2, none⟩)), .eq (.slice aP P.length dP), .eq (.int .i64 (((P).length : Nat) : Int)), .eq (.bool false), .eq (.bool false)] (by rw [sd.1]; kernel_rfl) ⟨fun hw ac u K => ?_, fun hw ac u K => ?_, fun hw ac u K => ?_, fun hw ac u K => ?_, fun hw ac u K => ?_, fun hw ac u K => ?_, fun hw ac u K => ?_, fun hw ac u K => ?_, fun hw ac u K => ?_, fun hw ac u K => ?_, fun hw ac u K => ?_, fun hw ac u K => ?_, fun hw ac u K => ?_, fun hw ac u K => ?_, fun hw ac u K => ?_, fun hw ac u K => ?_, trivial⟩ ?_
  · exact st_field 47 0 (.tmp 1) rfl (K.t x1 rfl) (by kernel_rfl)
  · exact st_loadc 28 (.tmp 6) rfl (by kernel_rfl) (K.dep 0 6 rfl) (Ob.cell (Ob.below m1 K.grow) 0 rfl)
  · exact st_call 11 (.func 11) _ _ _ rfl rfl (one_arg (K.dep 1 7 rfl)) Tryd.enter11 (fk_small hlo (Fk.mono _ _ _ _ hom (bgo bl K.grow)) (by symm; rw [decide_eq_true_iff]; exact hso))
  · exact st_not (.tmp 8) rfl true (K.dep 2 8 rfl)
  · exact st_move (.tmp 9) rfl (K.dep 3 9 rfl)
  · exact st_field 47 1 (.tmp 1) rfl (K.t x1 rfl) (by kernel_rfl)
  · exact st_loadc 28 (.tmp 11) rfl (by kernel_rfl) (K.dep 5 11 rfl) (Ob.cell (Ob.below m1 K.grow) 1 rfl)
  · exact st_call 11 (.func 11) _ _ _ rfl rfl (one_arg (K.dep 6 12 rfl)) Tryd.enter11 (fk_small hln (Fk.mono _ _ _ _ hnm (bgo bl K.grow)) (by symm; rw [decide_eq_true_iff]; exact hsn))
  · exact st_not (.tmp 13) rfl true (K.dep 7 13 rfl)
  · exact st_pick_f' (.tmp 10) (.const (.bool true)) (.tmp 14) rfl (K.dep 4 10 rfl) (K.dep 8 14 rfl)
  · exact st_move (.tmp 15) rfl (K.dep 9 15 rfl)
  · exact st_field 47 2 (.tmp 1) rfl (K.t x1 rfl) (by kernel_rfl)
  · exact st_loadc 35 (.tmp 17) rfl (by kernel_rfl) (K.dep 11 17 rfl) (Ob.cell (Ob.below m1 K.grow) 2 rfl)
  · exact st_lenh (.tmp 18) rfl (fk_val (K.dep 12 18 rfl) (Fk.mono _ _ _ _ hps (bgo bl K.grow)))
  · exact st_gtr 3 (.tmp 19) (.const (.int .i64 50)) rfl .i64 ((((P).length : Nat) : Int)) (50) (K.dep 13 19 rfl) rfl _ (by rw [eq_comm, decide_eq_false_iff_not]; omega)
  · exact st_pick_f' (.tmp 16) (.const (.bool true)) (.tmp 20) rfl (K.dep 10 16 rfl) (K.dep 14 20 rfl)
  intro f2 w2 A hb
  replace x1 := A.t x1 rfl
  have x21 := A.e 15 21 rfl rfl
  replace m1 := Ob.below m1 hb
  replace bl := bgo bl hb
  replace sd := A.sd sd
  clear A hb
  show Code.wp _ _ _ _ _
  refine wp_cond_false x21 ?_
  refine wp_skip ?_
  show Code.wp _ _ _ _ _
  refine wp_seq ?_
  refine wr_s [.eq (.agg ([.slice aO po.length dO, .slice aN pn.length dN, .slice aP P.length dP] : List Value).toArray)] (by rw [sd.1]; kernel_rfl) ⟨fun hw ac u K => ?_, trivial⟩ ?_
  · exact st_loadz 47 (.tmp 1) rfl (g1) 0 [.slice aO po.length dO, .slice aN pn.length dN, .slice aP P.length dP] (by kernel_rfl) (by kernel_rfl) (K.t x1 rfl) (Ob.range (Ob.below m1 K.grow) 0 _ (fun j v hj => by simpa using hj))
  intro f3 w3 A hb
  replace x1 := A.t x1 rfl
  replace x21 := A.t x21 rfl
  have x24 := A.e 0 24 rfl rfl
  replace m1 := Ob.below m1 hb
  replace bl := bgo bl hb
  replace sd := A.sd sd
  clear A hb
  clear x21
  refine wl_call 20 (.func 20) _ _ #[.agg ([.slice aO po.length dO, .slice aN pn.length dN, .slice aP P.length dP] : List Value).toArray] rfl 25 rfl (by rw [sd.1]; decide) rfl rfl (one_arg x24) Tryd.enter20 (fun u W => (Fk.c3 false 11).f u W ∧ Below w3.heap.size w3 W) (fk_con_no hso hsn hPl (Fk.mono _ _ _ _ ho bl) (Fk.mono _ _ _ _ hn bl) (Fk.mono _ _ _ _ hp bl) (hK.below bl) h) ?_
  rintro f4 w4 df2 sz2 old2 ⟨⟨A, B, u1, u2, new2, hA, hB, hlA, hlB, hr1⟩, hb⟩
  obtain ⟨pA, mA, cA, _, _, rfl, _⟩ := id hA
  obtain ⟨pB, mB, cB, _, _, rfl, _⟩ := id hB
  replace bl0 := bl
  replace x1 := tr old2 x1 rfl
  replace x24 := tr old2 x24 rfl
  have x25 : f4.eval (.tmp 25) = .tuple #[.agg ([.slice pA mA cA, .slice pB mB cB] : List Value).toArray, .bool false, .int .i64 11] := new2
  have lt_m1 := Ob.lt m1
  replace m1 := Ob.below m1 hb
  replace bl := bgo bl hb
  replace sd := sd2 sz2 df2 sd
  clear df2 sz2 old2 new2 hb
  have blw := bl
  replace ho := Fk.mono _ _ _ _ ho bl
  replace hom := Fk.mono _ _ _ _ hom bl
  replace hn := Fk.mono _ _ _ _ hn bl
  replace hnm := Fk.mono _ _ _ _ hnm bl
  replace hp := Fk.mono _ _ _ _ hp bl
  replace hps := Fk.mono _ _ _ _ hps bl
  replace hK := hK.below bl
  replace bl := Below.refl w4.heap.size w4
  replace bl0 := bl
  clear x24
  refine wl_one (.eq (.tuple #[.agg ([.slice pA mA cA, .slice pB mB cB] : List Value).toArray, .bool false, .int .i64 11])) rfl 23 rfl (by rw [sd.1]; decide) (st_move (.tmp 25) rfl x25) ?_
  intro f5 w5 df2 sz2 old2 new2 hb
  replace x1 := tr old2 x1 rfl
  replace x25 := tr old2 x25 rfl
  have x23 := Fk.e new2
  replace bl := bgo bl hb
  replace sd := sd2 sz2 df2 sd
  clear df2 sz2 old2 new2 hb
  clear x25
  refine wl_one (.eq (.agg ([.slice pA mA cA, .slice pB mB cB] : List Value).toArray)) rfl 26 rfl (by rw [sd.1]; decide) (st_tup (.tmp 23) rfl x23 (by rfl)) ?_
  intro f6 w6 df2 sz2 old2 new2 hb
  replace x1 := tr old2 x1 rfl
  replace x23 := tr old2 x23 rfl
  have x26 := Fk.e new2
  replace bl := bgo bl hb
  replace sd := sd2 sz2 df2 sd
  clear df2 sz2 old2 new2 hb
  refine wl_one (.eq (.bool false)) rfl 27 rfl (by rw [sd.1]; decide) (st_tup (.tmp 23) rfl x23 (by rfl)) ?_
  intro f7 w7 df2 sz2 old2 new2 hb
  replace x1 := tr old2 x1 rfl
  replace x23 := tr old2 x23 rfl
  replace x26 := tr old2 x26 rfl
  have x27 := Fk.e new2
  replace bl := bgo bl hb
  replace sd := sd2 sz2 df2 sd
  clear df2 sz2 old2 new2 hb
  refine wl_one (.eq (.int .i64 11)) rfl 28 rfl (by rw [sd.1]; decide) (st_tup (.tmp 23) rfl x23 (by rfl)) ?_
  intro f8 w8 df2 sz2 old2 new2 hb
  replace x1 := tr old2 x1 rfl
  replace x23 := tr old2 x23 rfl
  replace x26 := tr old2 x26 rfl
  replace x27 := tr old2 x27 rfl
  have x28 := Fk.e new2
  replace bl := bgo bl hb
  replace sd := sd2 sz2 df2 sd
  clear df2 sz2 old2 new2 hb
  clear x23
  refine wl_one (.nw w8.heap.size 25 [.slice none 0 0, .slice none 0 0]) rfl 3 rfl (by rw [sd.1]; decide) (st_alloc 25 rfl _ _ (by kernel_rfl) (Nat.le_refl _)) ?_
  intro f9 w9 df2 sz2 old2 new2 hb
  replace bl0 := bl
  replace x1 := tr old2 x1 rfl
  replace x26 := tr old2 x26 rfl
  replace x27 := tr old2 x27 rfl
  replace x28 := tr old2 x28 rfl
  have x3 : Fk.f (.nw w8.heap.size 25 [.slice none 0 0, .slice none 0 0]) (f9.eval (.tmp 3)) w9 := new2
  replace bl := bgo bl hb
  replace sd := sd2 sz2 df2 sd
  clear df2 sz2 old2 new2 hb
  obtain ⟨g3, hg3, e3, m3⟩ := x3
  have x3 := e3
  clear e3
  have nm1_3 : g1 ≠ g3 := Nat.ne_of_lt (Nat.lt_of_lt_of_le (Ob.lt m1) (Nat.le_trans bl0.size hg3))
  have hw3 : w4.heap.size ≤ g3 := Nat.le_trans bl0.size hg3
  refine wl_str rfl 25 (.tmp 3) (.tmp 26) rfl rfl (g3) ([.slice pA mA cA, .slice pB mB cB] : List Value).toArray x3 x26 25 _ m3 (by kernel_rfl) (by kernel_rfl) (by kernel_rfl) ?_
  replace m3 : Ob (w9.setRow g3 ([.slice pA mA cA, .slice pB mB cB] : List Value).toArray) (g3) 25 ([.slice pA mA cA, .slice pB mB cB]) := Ob.setRow m3 ([.slice pA mA cA, .slice pB mB cB])
  replace bl : Below w4.heap.size w4 (w9.setRow g3 ([.slice pA mA cA, .slice pB mB cB] : List Value).toArray) := bl.trans (below_setRow _ _ _ _ hw3)
  generalize w9.setRow g3 ([.slice pA mA cA, .slice pB mB cB] : List Value).toArray = w10b at bl m3 ⊢
  clear x26
  refine wl_one (.eq (.bool false)) rfl 4 rfl (by rw [sd.1]; decide) (st_assign (.tmp 27) rfl x27) ?_
  intro f11 w11 df2 sz2 old2 new2 hb
  replace x1 := tr old2 x1 rfl
  replace x27 := tr old2 x27 rfl
  replace x28 := tr old2 x28 rfl
  replace x3 := tr old2 x3 rfl
  have x4 := Fk.e new2
  replace m3 := Ob.below m3 hb
  replace bl := bgo bl hb
  replace sd := sd2 sz2 df2 sd
  clear df2 sz2 old2 new2 hb
  clear x27
  refine wl_one (.eq (.int .i64 11)) rfl 5 rfl (by rw [sd.1]; decide) (st_assign (.tmp 28) rfl x28) ?_
  intro f12 w12 df2 sz2 old2 new2 hb
  replace x1 := tr old2 x1 rfl
  replace x28 := tr old2 x28 rfl
  replace x3 := tr old2 x3 rfl
  replace x4 := tr old2 x4 rfl
  have x5 := Fk.e new2
  replace m3 := Ob.below m3 hb
  replace bl := bgo bl hb
  replace sd := sd2 sz2 df2 sd
  clear df2 sz2 old2 new2 hb
  refine wpList_nil ?_
  clear x28
  show Code.wp _ _ _ _ _
  refine wp_seq ?_
  refine wp_seq ?_
  refine wr_a [.eq (.pointer (some ⟨g1, 0, none⟩)), .eq (.slice aO po.length dO), .eq (.int .i64 (((po).length : Nat) : Int)), .eq (.pointer (some ⟨g1, 1, none⟩)), .eq (.slice aN pn.length dN), .eq (.int .i64 (((pn).length : Nat) : Int)), .eq (.bool true)] (by rw [sd.1]; kernel_rfl) ⟨fun hw ac u K => ?_, fun hw ac u K => ?_, fun hw ac u K => ?_, fun hw ac u K => ?_, fun hw ac u K => ?_, fun hw ac u K => ?_, fun hw ac u K => ?_, trivial⟩ ?_
  · exact st_field 47 0 (.tmp 1) rfl (K.t x1 rfl) (by kernel_rfl)
  · exact st_loadc 28 (.tmp 29) rfl (by kernel_rfl) (K.dep 0 29 rfl) (Ob.cell (Ob.below m1 (bgo bl K.grow)) 0 rfl)
  · exact st_lenm (.tmp 30) rfl (fk_val (K.dep 1 30 rfl) (Fk.mono _ _ _ _ hom (bgo bl K.grow)))
  · exact st_field 47 1 (.tmp 1) rfl (K.t x1 rfl) (by kernel_rfl)
  · exact st_loadc 28 (.tmp 32) rfl (by kernel_rfl) (K.dep 3 32 rfl) (Ob.cell (Ob.below m1 (bgo bl K.grow)) 1 rfl)
  · exact st_lenm (.tmp 33) rfl (fk_val (K.dep 4 33 rfl) (Fk.mono _ _ _ _ hnm (bgo bl K.grow)))
  · exact st_gtr 3 (.tmp 31) (.tmp 34) rfl .i64 ((((po).length : Nat) : Int)) ((((pn).length : Nat) : Int)) (K.dep 2 31 rfl) (K.dep 5 34 rfl) _ (by symm; rw [decide_eq_true_iff]; exact (by omega))
  intro f13 w13 A hb
  replace x1 := A.t x1 rfl
  replace x3 := A.t x3 rfl
  replace x4 := A.t x4 rfl
  replace x5 := A.t x5 rfl
  have x35 := A.e 6 35 rfl rfl
  replace m3 := Ob.below m3 hb
  replace bl := bgo bl hb
  replace sd := A.sd sd
  clear A hb
  show Code.wp _ _ _ _ _
  refine wp_cond_true x35 ?_
  refine wp_seq ?_
  refine wr_a [.eq (.int .i64 11), .eq (.bool true), .eq (.bool true), .eq (.bool false), .eq (.bool true), .eq (.bool true), .eq (.bool true), .eq (.bool true), .eq (.bool true), .eq (.bool true)] (by rw [sd.1]; kernel_rfl) ⟨fun hw ac u K => ?_, fun hw ac u K => ?_, fun hw ac u K => ?_, fun hw ac u K => ?_, fun hw ac u K => ?_, fun hw ac u K => ?_, fun hw ac u K => ?_, fun hw ac u K => ?_, fun hw ac u K => ?_, fun hw ac u K => ?_, trivial⟩ ?_
  · exact st_move (.tmp 5) rfl (K.t x5 rfl)
  · exact st_eqi 40 (.tmp 36) (.const (.int .i64 11)) rfl .i64 (11) (11) (K.dep 0 36 rfl) rfl _ (by rfl)
  · exact st_move (.tmp 37) rfl (K.dep 1 37 rfl)
  · exact st_move (.tmp 4) rfl (K.t x4 rfl)
  · exact st_not (.tmp 39) rfl false (K.dep 3 39 rfl)
  · exact st_pick_t (.tmp 38) (.tmp 40) (.const (.bool false)) rfl (K.dep 2 38 rfl) (K.dep 4 40 rfl)
  · exact st_move (.tmp 41) rfl (K.dep 5 41 rfl)
  · exact st_call 8 (.func 8) _ _ _ rfl rfl rfl Tryd.enter8 (fk_of (awake_any _ (hK.below (bgo bl K.grow))))
  · exact st_pick_t (.tmp 42) (.tmp 43) (.const (.bool false)) rfl (K.dep 6 42 rfl) (K.dep 7 43 rfl)
  · exact st_assign (.tmp 44) rfl (K.dep 8 44 rfl)
  intro f14 w14 A hb
  replace x1 := A.t x1 rfl
  replace x3 := A.t x3 rfl
  replace x4 := A.t x4 rfl
  replace x5 := A.t x5 rfl
  replace x35 := A.t x35 rfl
  have x2 := A.e 9 2 rfl rfl
  replace m3 := Ob.below m3 hb
  replace bl := bgo bl hb
  replace sd := A.sd sd
  clear A hb
  clear x1
  clear x3
  clear x4
  clear x5
  clear x35
  clear m3
  show Code.wp _ _ _ _ _
  refine wp_ret ?_
  repeat (first | with_reducible refine then_ret ?_ | with_reducible refine block_ret ?_)
  exact bodyPost_ret (v := .bool true) (ret_slot rfl f14 _ x2 _ _) sd.2 ⟨rfl, (bgo blw bl)⟩
set_option maxHeartbeats 1000000 in
theorem lon_main {po pn : List Pt} {P : List (List (BitVec 8))} {aO aN aP : Option Addr} {dO dN dP : Nat} (hlo : po.length ≤ 140737488351232) (hln : pn.length ≤ 140737488351232) (w : World) (hK : Tab w) (ho : (Fk.mc po).f (.slice aO po.length dO) w) (hn : (Fk.mc pn).f (.slice aN pn.length dN) w) (hp : (Fk.hc P).f (.slice aP P.length dP) w) (hso : smallP po) (hsn : smallP pn) (hPl : P.length ≤ 50) (h : po.length ≤ pn.length) :
    Calls Tryd.prog 6 #[.agg ([.slice aO po.length dO, .slice aN pn.length dN, .slice aP P.length dP] : List Value).toArray] w fun e w' => e = .returned (.bool true) ∧ Below w.heap.size w w' := by
  have hom := ho.1
  have hnm := hn.1
  have hps := hc_hs hp
  have h40 := hso.2
  have h41 := hsn.2
  have hxo := fun p hp => Nat.le_trans (hso.1 p hp) (show 200 ≤ 140737488351232 by omega)
  have hxn := fun p hp => Nat.le_trans (hsn.1 p hp) (show 200 ≤ 140737488351232 by omega)
  obtain ⟨ov, eov⟩ : ∃ x, Box (mroot (lhs po) = x) := ⟨_, ⟨rfl⟩⟩
  obtain ⟨nv, env⟩ : ∃ x, Box (mroot (lhs pn) = x) := ⟨_, ⟨rfl⟩⟩
  have hov : ov.length = 32 := by rw [← eov.out]; exact mroot_len (lhs_32 po)
  have hnv : nv.length = 32 := by rw [← env.out]; exact mroot_len (lhs_32 pn)
  have h0 : po.length = 0 → ov = shaOf [] ∧ (pn.length = 0 → nv = ov) := fun h1 => by
    have e1 := List.eq_nil_of_length_eq_zero h1
    have e2 : lhs po = [] := by rw [e1]; rfl
    refine ⟨by rw [← eov.out, e2, mroot_nil], fun h2 => ?_⟩
    have e3 : lhs pn = [] := by rw [List.eq_nil_of_length_eq_zero h2]; rfl
    rw [← eov.out, ← env.out, e2, e3]
  go_enter Tryd.func6, Tryd.ntmps6
  refine code_both (fun f w1 => f.tmps.size = 93 ∧ f.defers = [] ∧ f.eval (.tmp 0) = .agg ([.slice aO po.length dO, .slice aN pn.length dN, .slice aP P.length dP] : List Value).toArray ∧ Below w.heap.size w (w1)) ⟨rfl, rfl, rfl, Below.refl _ _⟩ ?_
  rintro f0 w0 ⟨sz, df, x0, bl⟩
  have sd := And.intro sz df
  clear sz df
  have bl0 := bl
  refine wp_seq ?_
  refine wr_a [.nw w0.heap.size 47 ([.slice aO po.length dO, .slice aN pn.length dN, .slice aP P.length dP] : List Value), .eq (.bool false)] (by rw [sd.1]; kernel_rfl) ⟨fun hw ac u K => ?_, fun hw ac u K => ?_, trivial⟩ ?_
  · exact st_box 47 (.tmp 0) rfl _ _ (by rw [show _ = _ from (K.t x0 rfl)]; kernel_rfl) K.grow.size
  · exact st_assign (.const (.bool false)) rfl rfl
  intro f1 w1 A hb
  replace bl0 := bl
  replace x0 := A.t x0 rfl
  have x1 : Fk.f (.nw w0.heap.size 47 ([.slice aO po.length dO, .slice aN pn.length dN, .slice aP P.length dP] : List Value)) (f1.eval (.tmp 1)) w1 := A.has 0 1 rfl
  replace bl := bgo bl hb
  replace sd := A.sd sd
  clear A hb
  clear x0
  obtain ⟨g1, hg1, e1, m1⟩ := x1
  have x1 := e1
  clear e1
  have hw1 : w.heap.size ≤ g1 := Nat.le_trans bl0.size hg1
  show Code.wp _ _ _ _ _
  refine wp_seq ?_
  refine wp_seq ?_
  refine wr_a [.eq (.pointer (some ⟨g1, 0, none⟩)), .eq (.slice aO po.length dO), .eq (.bool true), .eq (.bool false), .eq (.bool false), .eq (.pointer (some ⟨g1, 1, none⟩)), .eq (.slice aN pn.length dN), .eq (.bool true), .eq (.bool false), .eq (.bool false), .eq (.bool false), .eq (.pointer (some ⟨g1, 2, none⟩)), .eq (.slice aP P.length dP), .eq (.int .i64 (((P).length : Nat) : Int)), .eq (.bool false), .eq (.bool false)] (by rw [sd.1]; kernel_rfl) ⟨fun hw ac u K => ?_, fun hw ac u K => ?_, fun hw ac u K => ?_, fun hw ac u K => ?_, fun hw ac u K => ?_, fun hw ac u K => ?_, fun hw ac u K => ?_, fun hw ac u K => ?_, fun hw ac u K => ?_, fun hw ac u K => ?_, fun hw ac u K => ?_, fun hw ac u K => ?_, fun hw ac u K => ?_, fun hw ac u K => ?_, fun hw ac u K => ?_, fun hw ac u K => ?_, trivial⟩ ?_
  · exact st_field 47 0 (.tmp 1) rfl (K.t x1 rfl) (by kernel_rfl)
  · exact st_loadc 28 (.tmp 6) rfl (by kernel_rfl) (K.dep 0 6 rfl) (Ob.cell (Ob.below m1 K.grow) 0 rfl)
  · exact st_call 11 (.func 11) _ _ _ rfl rfl (one_arg (K.dep 1 7 rfl)) Tryd.enter11 (fk_small hlo (Fk.mono _ _ _ _ hom (bgo bl K.grow)) (by symm; rw [decide_eq_true_iff]; exact hso))
  · exact st_not (.tmp 8) rfl true (K.dep 2 8 rfl)
  · exact st_move (.tmp 9) rfl (K.dep 3 9 rfl)
  · exact st_field 47 1 (.tmp 1) rfl (K.t x1 rfl) (by kernel_rfl)
  · exact st_loadc 28 (.tmp 11) rfl (by kernel_rfl) (K.dep 5 11 rfl) (Ob.cell (Ob.below m1 K.grow) 1 rfl)
  · exact st_call 11 (.func 11) _ _ _ rfl rfl (one_arg (K.dep 6 12 rfl)) Tryd.enter11 (fk_small hln (Fk.mono _ _ _ _ hnm (bgo bl K.grow)) (by symm; rw [decide_eq_true_iff]; exact hsn))
  · exact st_not (.tmp 13) rfl true (K.dep 7 13 rfl)
  · exact st_pick_f' (.tmp 10) (.const (.bool true)) (.tmp 14) rfl (K.dep 4 10 rfl) (K.dep 8 14 rfl)
  · exact st_move (.tmp 15) rfl (K.dep 9 15 rfl)
  · exact st_field 47 2 (.tmp 1) rfl (K.t x1 rfl) (by kernel_rfl)
  · exact st_loadc 35 (.tmp 17) rfl (by kernel_rfl) (K.dep 11 17 rfl) (Ob.cell (Ob.below m1 K.grow) 2 rfl)
  · exact st_lenh (.tmp 18) rfl (fk_val (K.dep 12 18 rfl) (Fk.mono _ _ _ _ hps (bgo bl K.grow)))
  · exact st_gtr 3 (.tmp 19) (.const (.int .i64 50)) rfl .i64 ((((P).length : Nat) : Int)) (50) (K.dep 13 19 rfl) rfl _ (by rw [eq_comm, decide_eq_false_iff_not]; omega)
  · exact st_pick_f' (.tmp 16) (.const (.bool true)) (.tmp 20) rfl (K.dep 10 16 rfl) (K.dep 14 20 rfl)
  intro f2 w2 A hb
  replace x1 := A.t x1 rfl
  have x21 := A.e 15 21 rfl rfl
  replace m1 := Ob.below m1 hb
  replace bl := bgo bl hb
  replace sd := A.sd sd
  clear A hb
  show Code.wp _ _ _ _ _
  refine wp_cond_false x21 ?_
  refine wp_skip ?_
  show Code.wp _ _ _ _ _
  refine wp_seq ?_
  by_cases hr : prOn po.length pn.length ov nv P
  rotate_left
  · skip
    refine wr_s [.eq (.agg ([.slice aO po.length dO, .slice aN pn.length dN, .slice aP P.length dP] : List Value).toArray)] (by rw [sd.1]; kernel_rfl) ⟨fun hw ac u K => ?_, trivial⟩ ?_
    · exact st_loadz 47 (.tmp 1) rfl (g1) 0 [.slice aO po.length dO, .slice aN pn.length dN, .slice aP P.length dP] (by kernel_rfl) (by kernel_rfl) (K.t x1 rfl) (Ob.range (Ob.below m1 K.grow) 0 _ (fun j v hj => by simpa using hj))
    intro f3 w3 A hb
    replace x1 := A.t x1 rfl
    replace x21 := A.t x21 rfl
    have x24 := A.e 0 24 rfl rfl
    replace m1 := Ob.below m1 hb
    replace bl := bgo bl hb
    replace sd := A.sd sd
    clear A hb
    clear x21
    refine wl_call 20 (.func 20) _ _ #[.agg ([.slice aO po.length dO, .slice aN pn.length dN, .slice aP P.length dP] : List Value).toArray] rfl 25 rfl (by rw [sd.1]; decide) rfl rfl (one_arg x24) Tryd.enter20 (fun u W => (Fk.c3 false 22).f u W ∧ Below w3.heap.size w3 W) (fk_con_bad hso hsn hPl (Fk.mono _ _ _ _ ho bl) (Fk.mono _ _ _ _ hn bl) (Fk.mono _ _ _ _ hp bl) (hK.below bl) h (by rw [eov.out, env.out]; exact hr)) ?_
    rintro f4 w4 df2 sz2 old2 ⟨⟨A, B, u1, u2, new2, hA, hB, hlA, hlB, hr1⟩, hb⟩
    obtain ⟨pA, mA, cA, _, _, rfl, _⟩ := id hA
    obtain ⟨pB, mB, cB, _, _, rfl, _⟩ := id hB
    replace bl0 := bl
    replace x1 := tr old2 x1 rfl
    replace x24 := tr old2 x24 rfl
    have x25 : f4.eval (.tmp 25) = .tuple #[.agg ([.slice pA mA cA, .slice pB mB cB] : List Value).toArray, .bool false, .int .i64 22] := new2
    have lt_m1 := Ob.lt m1
    replace m1 := Ob.below m1 hb
    replace bl := bgo bl hb
    replace sd := sd2 sz2 df2 sd
    clear df2 sz2 old2 new2 hb
    have blw := bl
    replace ho := Fk.mono _ _ _ _ ho bl
    replace hom := Fk.mono _ _ _ _ hom bl
    replace hn := Fk.mono _ _ _ _ hn bl
    replace hnm := Fk.mono _ _ _ _ hnm bl
    replace hp := Fk.mono _ _ _ _ hp bl
    replace hps := Fk.mono _ _ _ _ hps bl
    replace hK := hK.below bl
    replace bl := Below.refl w4.heap.size w4
    replace bl0 := bl
    clear x24
    refine wl_one (.eq (.tuple #[.agg ([.slice pA mA cA, .slice pB mB cB] : List Value).toArray, .bool false, .int .i64 22])) rfl 23 rfl (by rw [sd.1]; decide) (st_move (.tmp 25) rfl x25) ?_
    intro f5 w5 df2 sz2 old2 new2 hb
    replace x1 := tr old2 x1 rfl
    replace x25 := tr old2 x25 rfl
    have x23 := Fk.e new2
    replace bl := bgo bl hb
    replace sd := sd2 sz2 df2 sd
    clear df2 sz2 old2 new2 hb
    clear x25
    refine wl_one (.eq (.agg ([.slice pA mA cA, .slice pB mB cB] : List Value).toArray)) rfl 26 rfl (by rw [sd.1]; decide) (st_tup (.tmp 23) rfl x23 (by rfl)) ?_
    intro f6 w6 df2 sz2 old2 new2 hb
    replace x1 := tr old2 x1 rfl
    replace x23 := tr old2 x23 rfl
    have x26 := Fk.e new2
    replace bl := bgo bl hb
    replace sd := sd2 sz2 df2 sd
    clear df2 sz2 old2 new2 hb
    refine wl_one (.eq (.bool false)) rfl 27 rfl (by rw [sd.1]; decide) (st_tup (.tmp 23) rfl x23 (by rfl)) ?_
    intro f7 w7 df2 sz2 old2 new2 hb
    replace x1 := tr old2 x1 rfl
    replace x23 := tr old2 x23 rfl
    replace x26 := tr old2 x26 rfl
    have x27 := Fk.e new2
    replace bl := bgo bl hb
    replace sd := sd2 sz2 df2 sd
    clear df2 sz2 old2 new2 hb
    refine wl_one (.eq (.int .i64 22)) rfl 28 rfl (by rw [sd.1]; decide) (st_tup (.tmp 23) rfl x23 (by rfl)) ?_
    intro f8 w8 df2 sz2 old2 new2 hb
    replace x1 := tr old2 x1 rfl
    replace x23 := tr old2 x23 rfl
    replace x26 := tr old2 x26 rfl
    replace x27 := tr old2 x27 rfl
    have x28 := Fk.e new2
    replace bl := bgo bl hb
    replace sd := sd2 sz2 df2 sd
    clear df2 sz2 old2 new2 hb
    clear x23
    refine wl_one (.nw w8.heap.size 25 [.slice none 0 0, .slice none 0 0]) rfl 3 rfl (by rw [sd.1]; decide) (st_alloc 25 rfl _ _ (by kernel_rfl) (Nat.le_refl _)) ?_
    intro f9 w9 df2 sz2 old2 new2 hb
    replace bl0 := bl
    replace x1 := tr old2 x1 rfl
    replace x26 := tr old2 x26 rfl
    replace x27 := tr old2 x27 rfl
    replace x28 := tr old2 x28 rfl
    have x3 : Fk.f (.nw w8.heap.size 25 [.slice none 0 0, .slice none 0 0]) (f9.eval (.tmp 3)) w9 := new2
    replace bl := bgo bl hb
    replace sd := sd2 sz2 df2 sd
    clear df2 sz2 old2 new2 hb
    obtain ⟨g3, hg3, e3, m3⟩ := x3
    have x3 := e3
    clear e3
    have nm1_3 : g1 ≠ g3 := Nat.ne_of_lt (Nat.lt_of_lt_of_le (Ob.lt m1) (Nat.le_trans bl0.size hg3))
    have hw3 : w4.heap.size ≤ g3 := Nat.le_trans bl0.size hg3
    refine wl_str rfl 25 (.tmp 3) (.tmp 26) rfl rfl (g3) ([.slice pA mA cA, .slice pB mB cB] : List Value).toArray x3 x26 25 _ m3 (by kernel_rfl) (by kernel_rfl) (by kernel_rfl) ?_
    replace m3 : Ob (w9.setRow g3 ([.slice pA mA cA, .slice pB mB cB] : List Value).toArray) (g3) 25 ([.slice pA mA cA, .slice pB mB cB]) := Ob.setRow m3 ([.slice pA mA cA, .slice pB mB cB])
    replace bl : Below w4.heap.size w4 (w9.setRow g3 ([.slice pA mA cA, .slice pB mB cB] : List Value).toArray) := bl.trans (below_setRow _ _ _ _ hw3)
    generalize w9.setRow g3 ([.slice pA mA cA, .slice pB mB cB] : List Value).toArray = w10b at bl m3 ⊢
    clear x26
    refine wl_one (.eq (.bool false)) rfl 4 rfl (by rw [sd.1]; decide) (st_assign (.tmp 27) rfl x27) ?_
    intro f11 w11 df2 sz2 old2 new2 hb
    replace x1 := tr old2 x1 rfl
    replace x27 := tr old2 x27 rfl
    replace x28 := tr old2 x28 rfl
    replace x3 := tr old2 x3 rfl
    have x4 := Fk.e new2
    replace m3 := Ob.below m3 hb
    replace bl := bgo bl hb
    replace sd := sd2 sz2 df2 sd
    clear df2 sz2 old2 new2 hb
    clear x27
    refine wl_one (.eq (.int .i64 22)) rfl 5 rfl (by rw [sd.1]; decide) (st_assign (.tmp 28) rfl x28) ?_
    intro f12 w12 df2 sz2 old2 new2 hb
    replace x1 := tr old2 x1 rfl
    replace x28 := tr old2 x28 rfl
    replace x3 := tr old2 x3 rfl
    replace x4 := tr old2 x4 rfl
    have x5 := Fk.e new2
    replace m3 := Ob.below m3 hb
    replace bl := bgo bl hb
    replace sd := sd2 sz2 df2 sd
    clear df2 sz2 old2 new2 hb
    refine wpList_nil ?_
    clear x28
    show Code.wp _ _ _ _ _
    refine wp_seq ?_
    refine wp_seq ?_
    refine wr_a [.eq (.pointer (some ⟨g1, 0, none⟩)), .eq (.slice aO po.length dO), .eq (.int .i64 (((po).length : Nat) : Int)), .eq (.pointer (some ⟨g1, 1, none⟩)), .eq (.slice aN pn.length dN), .eq (.int .i64 (((pn).length : Nat) : Int)), .eq (.bool false)] (by rw [sd.1]; kernel_rfl) ⟨fun hw ac u K => ?_, fun hw ac u K => ?_, fun hw ac u K => ?_, fun hw ac u K => ?_, fun hw ac u K => ?_, fun hw ac u K => ?_, fun hw ac u K => ?_, trivial⟩ ?_
    · exact st_field 47 0 (.tmp 1) rfl (K.t x1 rfl) (by kernel_rfl)
    · exact st_loadc 28 (.tmp 29) rfl (by kernel_rfl) (K.dep 0 29 rfl) (Ob.cell (Ob.below m1 (bgo bl K.grow)) 0 rfl)
    · exact st_lenm (.tmp 30) rfl (fk_val (K.dep 1 30 rfl) (Fk.mono _ _ _ _ hom (bgo bl K.grow)))
    · exact st_field 47 1 (.tmp 1) rfl (K.t x1 rfl) (by kernel_rfl)
    · exact st_loadc 28 (.tmp 32) rfl (by kernel_rfl) (K.dep 3 32 rfl) (Ob.cell (Ob.below m1 (bgo bl K.grow)) 1 rfl)
    · exact st_lenm (.tmp 33) rfl (fk_val (K.dep 4 33 rfl) (Fk.mono _ _ _ _ hnm (bgo bl K.grow)))
    · exact st_gtr 3 (.tmp 31) (.tmp 34) rfl .i64 ((((po).length : Nat) : Int)) ((((pn).length : Nat) : Int)) (K.dep 2 31 rfl) (K.dep 5 34 rfl) _ (by symm; rw [decide_eq_false_iff_not]; exact (by omega))
    intro f13 w13 A hb
    replace x1 := A.t x1 rfl
    replace x3 := A.t x3 rfl
    replace x4 := A.t x4 rfl
    replace x5 := A.t x5 rfl
    have x35 := A.e 6 35 rfl rfl
    replace m3 := Ob.below m3 hb
    replace bl := bgo bl hb
    replace sd := A.sd sd
    clear A hb
    show Code.wp _ _ _ _ _
    refine wp_cond_false x35 ?_
    refine wp_skip ?_
    show Code.wp _ _ _ _ _
    refine wp_seq ?_
    refine wp_seq ?_
    refine wr_d [.eq (.pointer (some ⟨g1, 0, none⟩)), .eq (.slice aO po.length dO), .eq (.int .i64 (((po).length : Nat) : Int)), .eq (.pointer (some ⟨g1, 1, none⟩)), .eq (.slice aN pn.length dN), .eq (.int .i64 (((pn).length : Nat) : Int)), .eq (.pointer (some ⟨g1, 0, none⟩)), .eq (.slice aO po.length dO), .ow w4.heap.size (lhs po), .eq (.agg ((ov).map V).toArray), .eq (.pointer (some ⟨g1, 1, none⟩)), .eq (.slice aN pn.length dN), .ow w4.heap.size (lhs pn), .eq (.agg ((nv).map V).toArray), .eq (.pointer (some ⟨g1, 2, none⟩)), .eq (.slice aP P.length dP), .eq (.int .i64 22), .eq (.bool true)] Tryd.mixed (by rw [sd.1]; kernel_rfl) ⟨fun hw ac u K => ?_, fun hw ac u K => ?_, fun hw ac u K => ?_, fun hw ac u K => ?_, fun hw ac u K => ?_, fun hw ac u K => ?_, fun hw ac u K => ?_, fun hw ac u K => ?_, fun hw ac u K => ?_, fun hw ac u K => ?_, fun hw ac u K => ?_, fun hw ac u K => ?_, fun hw ac u K => ?_, fun hw ac u K => ?_, fun hw ac u K => ?_, fun hw ac u K => ?_, fun hw ac u K => ?_, fun hw ac u K => ?_, trivial⟩ ?_
    · exact st_field 47 0 (.tmp 1) rfl (K.t x1 rfl) (by kernel_rfl)
    · exact st_loadc 28 (.tmp 45) rfl (by kernel_rfl) (K.dep 0 45 rfl) (Ob.cell (Ob.below m1 (bgo bl K.grow)) 0 rfl)
    · exact st_lenm (.tmp 46) rfl (fk_val (K.dep 1 46 rfl) (Fk.mono _ _ _ _ hom (bgo bl K.grow)))
    · exact st_field 47 1 (.tmp 1) rfl (K.t x1 rfl) (by kernel_rfl)
    · exact st_loadc 28 (.tmp 48) rfl (by kernel_rfl) (K.dep 3 48 rfl) (Ob.cell (Ob.below m1 (bgo bl K.grow)) 1 rfl)
    · exact st_lenm (.tmp 49) rfl (fk_val (K.dep 4 49 rfl) (Fk.mono _ _ _ _ hnm (bgo bl K.grow)))
    · exact st_field 47 0 (.tmp 1) rfl (K.t x1 rfl) (by kernel_rfl)
    · exact st_loadc 28 (.tmp 51) rfl (by kernel_rfl) (K.dep 6 51 rfl) (Ob.cell (Ob.below m1 (bgo bl K.grow)) 0 rfl)
    · exact st_call 14 (.func 14) _ _ _ rfl rfl (one_arg (K.dep 7 52 rfl)) Tryd.enter14 (fk_ow (bgo bl K.grow).size (fk_hashes (by omega) hxo (Fk.mono _ _ _ _ hom (bgo bl K.grow)) (hK.below (bgo bl K.grow))))
    · exact st_call 19 (.func 19) _ _ _ rfl rfl (one_arg rfl) Tryd.enter19 (fk_of (root_any (lhs po) _ _ (by rw [lhs_len]; omega) (ow_hc (K.dep 8 53 rfl)) (hK.below (bgo bl K.grow)) eov))
    · exact st_field 47 1 (.tmp 1) rfl (K.t x1 rfl) (by kernel_rfl)
    · exact st_loadc 28 (.tmp 55) rfl (by kernel_rfl) (K.dep 10 55 rfl) (Ob.cell (Ob.below m1 (bgo bl K.grow)) 1 rfl)
    · exact st_call 14 (.func 14) _ _ _ rfl rfl (one_arg (K.dep 11 56 rfl)) Tryd.enter14 (fk_ow (bgo bl K.grow).size (fk_hashes (by omega) hxn (Fk.mono _ _ _ _ hnm (bgo bl K.grow)) (hK.below (bgo bl K.grow))))
    · exact st_call 19 (.func 19) _ _ _ rfl rfl (one_arg rfl) Tryd.enter19 (fk_of (root_any (lhs pn) _ _ (by rw [lhs_len]; omega) (ow_hc (K.dep 12 57 rfl)) (hK.below (bgo bl K.grow)) env))
    · exact st_field 47 2 (.tmp 1) rfl (K.t x1 rfl) (by kernel_rfl)
    · exact st_loadc 35 (.tmp 59) rfl (by kernel_rfl) (K.dep 14 59 rfl) (Ob.cell (Ob.below m1 (bgo bl K.grow)) 2 rfl)
    · exact st_call 21 (.func 21) _ _ _ rfl rfl (arg5 (K.dep 2 47 rfl) (K.dep 5 50 rfl) (K.dep 9 54 rfl) (K.dep 13 58 rfl) (K.dep 15 60 rfl)) Tryd.enter21 (fk_on_all hov hnv h (by omega) (Fk.mono _ _ _ _ hp (bgo bl K.grow)) (by omega) (hK.below (bgo bl K.grow)) h0 _ (by rw [if_neg hr]))
    · exact st_neqi 40 (.tmp 61) (.const (.int .i64 0)) rfl .i64 (22) (0) (K.dep 16 61 rfl) rfl _ (by rfl)
    intro f14 w14 A hb
    replace x1 := A.t x1 rfl
    replace x3 := A.t x3 rfl
    replace x4 := A.t x4 rfl
    replace x5 := A.t x5 rfl
    replace x35 := A.t x35 rfl
    have x62 := A.e 17 62 rfl rfl
    replace m3 := Ob.below m3 hb
    replace bl := bgo bl hb
    replace sd := A.sd sd
    clear A hb
    clear x35
    show Code.wp _ _ _ _ _
    refine wp_cond_true x62 ?_
    refine wp_seq ?_
    refine wr_a [.eq (.int .i64 22), .eq (.bool true), .eq (.bool true), .eq (.bool false), .eq (.bool true), .eq (.bool true), .eq (.bool true), .eq (.bool true), .eq (.bool true), .eq (.bool true)] (by rw [sd.1]; kernel_rfl) ⟨fun hw ac u K => ?_, fun hw ac u K => ?_, fun hw ac u K => ?_, fun hw ac u K => ?_, fun hw ac u K => ?_, fun hw ac u K => ?_, fun hw ac u K => ?_, fun hw ac u K => ?_, fun hw ac u K => ?_, fun hw ac u K => ?_, trivial⟩ ?_
    · exact st_move (.tmp 5) rfl (K.t x5 rfl)
    · exact st_eqi 40 (.tmp 63) (.const (.int .i64 22)) rfl .i64 (22) (22) (K.dep 0 63 rfl) rfl _ (by rfl)
    · exact st_move (.tmp 64) rfl (K.dep 1 64 rfl)
    · exact st_move (.tmp 4) rfl (K.t x4 rfl)
    · exact st_not (.tmp 66) rfl false (K.dep 3 66 rfl)
    · exact st_pick_t (.tmp 65) (.tmp 67) (.const (.bool false)) rfl (K.dep 2 65 rfl) (K.dep 4 67 rfl)
    · exact st_move (.tmp 68) rfl (K.dep 5 68 rfl)
    · exact st_call 8 (.func 8) _ _ _ rfl rfl rfl Tryd.enter8 (fk_of (awake_any _ (hK.below (bgo bl K.grow))))
    · exact st_pick_t (.tmp 69) (.tmp 70) (.const (.bool false)) rfl (K.dep 6 69 rfl) (K.dep 7 70 rfl)
    · exact st_assign (.tmp 71) rfl (K.dep 8 71 rfl)
    intro f15 w15 A hb
    replace x1 := A.t x1 rfl
    replace x3 := A.t x3 rfl
    replace x4 := A.t x4 rfl
    replace x5 := A.t x5 rfl
    replace x62 := A.t x62 rfl
    have x2 := A.e 9 2 rfl rfl
    replace m3 := Ob.below m3 hb
    replace bl := bgo bl hb
    replace sd := A.sd sd
    clear A hb
    clear x1
    clear x3
    clear x4
    clear x5
    clear x62
    clear m3
    show Code.wp _ _ _ _ _
    refine wp_ret ?_
    repeat (first | with_reducible refine then_ret ?_ | with_reducible refine block_ret ?_)
    exact bodyPost_ret (v := .bool true) (ret_slot rfl f15 _ x2 _ _) sd.2 ⟨rfl, (bgo blw bl)⟩
  by_cases hq : bys po = (bys pn).take po.length
  rotate_left
  · skip
    refine wr_s [.eq (.agg ([.slice aO po.length dO, .slice aN pn.length dN, .slice aP P.length dP] : List Value).toArray)] (by rw [sd.1]; kernel_rfl) ⟨fun hw ac u K => ?_, trivial⟩ ?_
    · exact st_loadz 47 (.tmp 1) rfl (g1) 0 [.slice aO po.length dO, .slice aN pn.length dN, .slice aP P.length dP] (by kernel_rfl) (by kernel_rfl) (K.t x1 rfl) (Ob.range (Ob.below m1 K.grow) 0 _ (fun j v hj => by simpa using hj))
    intro f3 w3 A hb
    replace x1 := A.t x1 rfl
    replace x21 := A.t x21 rfl
    have x24 := A.e 0 24 rfl rfl
    replace m1 := Ob.below m1 hb
    replace bl := bgo bl hb
    replace sd := A.sd sd
    clear A hb
    clear x21
    refine wl_call 20 (.func 20) _ _ #[.agg ([.slice aO po.length dO, .slice aN pn.length dN, .slice aP P.length dP] : List Value).toArray] rfl 25 rfl (by rw [sd.1]; decide) rfl rfl (one_arg x24) Tryd.enter20 (fun u W => (Fk.c3 true 0).f u W ∧ Below w3.heap.size w3 W) (fk_con_ok hso hsn hPl (Fk.mono _ _ _ _ ho bl) (Fk.mono _ _ _ _ hn bl) (Fk.mono _ _ _ _ hp bl) (hK.below bl) h (by rw [eov.out, env.out]; exact hr) (f := true) (by symm; rw [decide_eq_true_iff]; exact hq)) ?_
    rintro f4 w4 df2 sz2 old2 ⟨⟨A, B, u1, u2, new2, hA, hB, hlA, hlB, hr1⟩, hb⟩
    obtain ⟨pA, mA, cA, _, _, rfl, _⟩ := id hA
    obtain ⟨pB, mB, cB, _, _, rfl, _⟩ := id hB
    replace bl0 := bl
    replace x1 := tr old2 x1 rfl
    replace x24 := tr old2 x24 rfl
    have x25 : f4.eval (.tmp 25) = .tuple #[.agg ([.slice pA mA cA, .slice pB mB cB] : List Value).toArray, .bool true, .int .i64 0] := new2
    have lt_m1 := Ob.lt m1
    replace m1 := Ob.below m1 hb
    replace bl := bgo bl hb
    replace sd := sd2 sz2 df2 sd
    clear df2 sz2 old2 new2 hb
    have blw := bl
    replace ho := Fk.mono _ _ _ _ ho bl
    replace hom := Fk.mono _ _ _ _ hom bl
    replace hn := Fk.mono _ _ _ _ hn bl
    replace hnm := Fk.mono _ _ _ _ hnm bl
    replace hp := Fk.mono _ _ _ _ hp bl
    replace hps := Fk.mono _ _ _ _ hps bl
    replace hK := hK.below bl
    replace bl := Below.refl w4.heap.size w4
    replace bl0 := bl
    clear x24
    refine wl_one (.eq (.tuple #[.agg ([.slice pA mA cA, .slice pB mB cB] : List Value).toArray, .bool true, .int .i64 0])) rfl 23 rfl (by rw [sd.1]; decide) (st_move (.tmp 25) rfl x25) ?_
    intro f5 w5 df2 sz2 old2 new2 hb
    replace x1 := tr old2 x1 rfl
    replace x25 := tr old2 x25 rfl
    have x23 := Fk.e new2
    replace bl := bgo bl hb
    replace sd := sd2 sz2 df2 sd
    clear df2 sz2 old2 new2 hb
    clear x25
    refine wl_one (.eq (.agg ([.slice pA mA cA, .slice pB mB cB] : List Value).toArray)) rfl 26 rfl (by rw [sd.1]; decide) (st_tup (.tmp 23) rfl x23 (by rfl)) ?_
    intro f6 w6 df2 sz2 old2 new2 hb
    replace x1 := tr old2 x1 rfl
    replace x23 := tr old2 x23 rfl
    have x26 := Fk.e new2
    replace bl := bgo bl hb
    replace sd := sd2 sz2 df2 sd
    clear df2 sz2 old2 new2 hb
    refine wl_one (.eq (.bool true)) rfl 27 rfl (by rw [sd.1]; decide) (st_tup (.tmp 23) rfl x23 (by rfl)) ?_
    intro f7 w7 df2 sz2 old2 new2 hb
    replace x1 := tr old2 x1 rfl
    replace x23 := tr old2 x23 rfl
    replace x26 := tr old2 x26 rfl
    have x27 := Fk.e new2
    replace bl := bgo bl hb
    replace sd := sd2 sz2 df2 sd
    clear df2 sz2 old2 new2 hb
    refine wl_one (.eq (.int .i64 0)) rfl 28 rfl (by rw [sd.1]; decide) (st_tup (.tmp 23) rfl x23 (by rfl)) ?_
    intro f8 w8 df2 sz2 old2 new2 hb
    replace x1 := tr old2 x1 rfl
    replace x23 := tr old2 x23 rfl
    replace x26 := tr old2 x26 rfl
    replace x27 := tr old2 x27 rfl
    have x28 := Fk.e new2
    replace bl := bgo bl hb
    replace sd := sd2 sz2 df2 sd
    clear df2 sz2 old2 new2 hb
    clear x23
    refine wl_one (.nw w8.heap.size 25 [.slice none 0 0, .slice none 0 0]) rfl 3 rfl (by rw [sd.1]; decide) (st_alloc 25 rfl _ _ (by kernel_rfl) (Nat.le_refl _)) ?_
    intro f9 w9 df2 sz2 old2 new2 hb
    replace bl0 := bl
    replace x1 := tr old2 x1 rfl
    replace x26 := tr old2 x26 rfl
    replace x27 := tr old2 x27 rfl
    replace x28 := tr old2 x28 rfl
    have x3 : Fk.f (.nw w8.heap.size 25 [.slice none 0 0, .slice none 0 0]) (f9.eval (.tmp 3)) w9 := new2
    replace bl := bgo bl hb
    replace sd := sd2 sz2 df2 sd
    clear df2 sz2 old2 new2 hb
    obtain ⟨g3, hg3, e3, m3⟩ := x3
    have x3 := e3
    clear e3
    have nm1_3 : g1 ≠ g3 := Nat.ne_of_lt (Nat.lt_of_lt_of_le (Ob.lt m1) (Nat.le_trans bl0.size hg3))
    have hw3 : w4.heap.size ≤ g3 := Nat.le_trans bl0.size hg3
    refine wl_str rfl 25 (.tmp 3) (.tmp 26) rfl rfl (g3) ([.slice pA mA cA, .slice pB mB cB] : List Value).toArray x3 x26 25 _ m3 (by kernel_rfl) (by kernel_rfl) (by kernel_rfl) ?_
    replace m3 : Ob (w9.setRow g3 ([.slice pA mA cA, .slice pB mB cB] : List Value).toArray) (g3) 25 ([.slice pA mA cA, .slice pB mB cB]) := Ob.setRow m3 ([.slice pA mA cA, .slice pB mB cB])
    replace bl : Below w4.heap.size w4 (w9.setRow g3 ([.slice pA mA cA, .slice pB mB cB] : List Value).toArray) := bl.trans (below_setRow _ _ _ _ hw3)
    generalize w9.setRow g3 ([.slice pA mA cA, .slice pB mB cB] : List Value).toArray = w10b at bl m3 ⊢
    clear x26
    refine wl_one (.eq (.bool true)) rfl 4 rfl (by rw [sd.1]; decide) (st_assign (.tmp 27) rfl x27) ?_
    intro f11 w11 df2 sz2 old2 new2 hb
    replace x1 := tr old2 x1 rfl
    replace x27 := tr old2 x27 rfl
    replace x28 := tr old2 x28 rfl
    replace x3 := tr old2 x3 rfl
    have x4 := Fk.e new2
    replace m3 := Ob.below m3 hb
    replace bl := bgo bl hb
    replace sd := sd2 sz2 df2 sd
    clear df2 sz2 old2 new2 hb
    clear x27
    refine wl_one (.eq (.int .i64 0)) rfl 5 rfl (by rw [sd.1]; decide) (st_assign (.tmp 28) rfl x28) ?_
    intro f12 w12 df2 sz2 old2 new2 hb
    replace x1 := tr old2 x1 rfl
    replace x28 := tr old2 x28 rfl
    replace x3 := tr old2 x3 rfl
    replace x4 := tr old2 x4 rfl
    have x5 := Fk.e new2
    replace m3 := Ob.below m3 hb
    replace bl := bgo bl hb
    replace sd := sd2 sz2 df2 sd
    clear df2 sz2 old2 new2 hb
    refine wpList_nil ?_
    clear x28
    show Code.wp _ _ _ _ _
    refine wp_seq ?_
    refine wp_seq ?_
    refine wr_a [.eq (.pointer (some ⟨g1, 0, none⟩)), .eq (.slice aO po.length dO), .eq (.int .i64 (((po).length : Nat) : Int)), .eq (.pointer (some ⟨g1, 1, none⟩)), .eq (.slice aN pn.length dN), .eq (.int .i64 (((pn).length : Nat) : Int)), .eq (.bool false)] (by rw [sd.1]; kernel_rfl) ⟨fun hw ac u K => ?_, fun hw ac u K => ?_, fun hw ac u K => ?_, fun hw ac u K => ?_, fun hw ac u K => ?_, fun hw ac u K => ?_, fun hw ac u K => ?_, trivial⟩ ?_
    · exact st_field 47 0 (.tmp 1) rfl (K.t x1 rfl) (by kernel_rfl)
    · exact st_loadc 28 (.tmp 29) rfl (by kernel_rfl) (K.dep 0 29 rfl) (Ob.cell (Ob.below m1 (bgo bl K.grow)) 0 rfl)
    · exact st_lenm (.tmp 30) rfl (fk_val (K.dep 1 30 rfl) (Fk.mono _ _ _ _ hom (bgo bl K.grow)))
    · exact st_field 47 1 (.tmp 1) rfl (K.t x1 rfl) (by kernel_rfl)
    · exact st_loadc 28 (.tmp 32) rfl (by kernel_rfl) (K.dep 3 32 rfl) (Ob.cell (Ob.below m1 (bgo bl K.grow)) 1 rfl)
    · exact st_lenm (.tmp 33) rfl (fk_val (K.dep 4 33 rfl) (Fk.mono _ _ _ _ hnm (bgo bl K.grow)))
    · exact st_gtr 3 (.tmp 31) (.tmp 34) rfl .i64 ((((po).length : Nat) : Int)) ((((pn).length : Nat) : Int)) (K.dep 2 31 rfl) (K.dep 5 34 rfl) _ (by symm; rw [decide_eq_false_iff_not]; exact (by omega))
    intro f13 w13 A hb
    replace x1 := A.t x1 rfl
    replace x3 := A.t x3 rfl
    replace x4 := A.t x4 rfl
    replace x5 := A.t x5 rfl
    have x35 := A.e 6 35 rfl rfl
    replace m3 := Ob.below m3 hb
    replace bl := bgo bl hb
    replace sd := A.sd sd
    clear A hb
    show Code.wp _ _ _ _ _
    refine wp_cond_false x35 ?_
    refine wp_skip ?_
    show Code.wp _ _ _ _ _
    refine wp_seq ?_
    refine wp_seq ?_
    refine wr_d [.eq (.pointer (some ⟨g1, 0, none⟩)), .eq (.slice aO po.length dO), .eq (.int .i64 (((po).length : Nat) : Int)), .eq (.pointer (some ⟨g1, 1, none⟩)), .eq (.slice aN pn.length dN), .eq (.int .i64 (((pn).length : Nat) : Int)), .eq (.pointer (some ⟨g1, 0, none⟩)), .eq (.slice aO po.length dO), .ow w4.heap.size (lhs po), .eq (.agg ((ov).map V).toArray), .eq (.pointer (some ⟨g1, 1, none⟩)), .eq (.slice aN pn.length dN), .ow w4.heap.size (lhs pn), .eq (.agg ((nv).map V).toArray), .eq (.pointer (some ⟨g1, 2, none⟩)), .eq (.slice aP P.length dP), .eq (.int .i64 0), .eq (.bool false)] Tryd.mixed (by rw [sd.1]; kernel_rfl) ⟨fun hw ac u K => ?_, fun hw ac u K => ?_, fun hw ac u K => ?_, fun hw ac u K => ?_, fun hw ac u K => ?_, fun hw ac u K => ?_, fun hw ac u K => ?_, fun hw ac u K => ?_, fun hw ac u K => ?_, fun hw ac u K => ?_, fun hw ac u K => ?_, fun hw ac u K => ?_, fun hw ac u K => ?_, fun hw ac u K => ?_, fun hw ac u K => ?_, fun hw ac u K => ?_, fun hw ac u K => ?_, fun hw ac u K => ?_, trivial⟩ ?_
    · exact st_field 47 0 (.tmp 1) rfl (K.t x1 rfl) (by kernel_rfl)
    · exact st_loadc 28 (.tmp 45) rfl (by kernel_rfl) (K.dep 0 45 rfl) (Ob.cell (Ob.below m1 (bgo bl K.grow)) 0 rfl)
    · exact st_lenm (.tmp 46) rfl (fk_val (K.dep 1 46 rfl) (Fk.mono _ _ _ _ hom (bgo bl K.grow)))
    · exact st_field 47 1 (.tmp 1) rfl (K.t x1 rfl) (by kernel_rfl)
    · exact st_loadc 28 (.tmp 48) rfl (by kernel_rfl) (K.dep 3 48 rfl) (Ob.cell (Ob.below m1 (bgo bl K.grow)) 1 rfl)
    · exact st_lenm (.tmp 49) rfl (fk_val (K.dep 4 49 rfl) (Fk.mono _ _ _ _ hnm (bgo bl K.grow)))
    · exact st_field 47 0 (.tmp 1) rfl (K.t x1 rfl) (by kernel_rfl)
    · exact st_loadc 28 (.tmp 51) rfl (by kernel_rfl) (K.dep 6 51 rfl) (Ob.cell (Ob.below m1 (bgo bl K.grow)) 0 rfl)
    · exact st_call 14 (.func 14) _ _ _ rfl rfl (one_arg (K.dep 7 52 rfl)) Tryd.enter14 (fk_ow (bgo bl K.grow).size (fk_hashes (by omega) hxo (Fk.mono _ _ _ _ hom (bgo bl K.grow)) (hK.below (bgo bl K.grow))))
    · exact st_call 19 (.func 19) _ _ _ rfl rfl (one_arg rfl) Tryd.enter19 (fk_of (root_any (lhs po) _ _ (by rw [lhs_len]; omega) (ow_hc (K.dep 8 53 rfl)) (hK.below (bgo bl K.grow)) eov))
    · exact st_field 47 1 (.tmp 1) rfl (K.t x1 rfl) (by kernel_rfl)
    · exact st_loadc 28 (.tmp 55) rfl (by kernel_rfl) (K.dep 10 55 rfl) (Ob.cell (Ob.below m1 (bgo bl K.grow)) 1 rfl)
    · exact st_call 14 (.func 14) _ _ _ rfl rfl (one_arg (K.dep 11 56 rfl)) Tryd.enter14 (fk_ow (bgo bl K.grow).size (fk_hashes (by omega) hxn (Fk.mono _ _ _ _ hnm (bgo bl K.grow)) (hK.below (bgo bl K.grow))))
    · exact st_call 19 (.func 19) _ _ _ rfl rfl (one_arg rfl) Tryd.enter19 (fk_of (root_any (lhs pn) _ _ (by rw [lhs_len]; omega) (ow_hc (K.dep 12 57 rfl)) (hK.below (bgo bl K.grow)) env))
    · exact st_field 47 2 (.tmp 1) rfl (K.t x1 rfl) (by kernel_rfl)
    · exact st_loadc 35 (.tmp 59) rfl (by kernel_rfl) (K.dep 14 59 rfl) (Ob.cell (Ob.below m1 (bgo bl K.grow)) 2 rfl)
    · exact st_call 21 (.func 21) _ _ _ rfl rfl (arg5 (K.dep 2 47 rfl) (K.dep 5 50 rfl) (K.dep 9 54 rfl) (K.dep 13 58 rfl) (K.dep 15 60 rfl)) Tryd.enter21 (fk_on_all hov hnv h (by omega) (Fk.mono _ _ _ _ hp (bgo bl K.grow)) (by omega) (hK.below (bgo bl K.grow)) h0 _ (by rw [if_pos hr]))
    · exact st_neqi 40 (.tmp 61) (.const (.int .i64 0)) rfl .i64 (0) (0) (K.dep 16 61 rfl) rfl _ (by rfl)
    intro f14 w14 A hb
    replace x1 := A.t x1 rfl
    replace x3 := A.t x3 rfl
    replace x4 := A.t x4 rfl
    replace x5 := A.t x5 rfl
    replace x35 := A.t x35 rfl
    have x62 := A.e 17 62 rfl rfl
    replace m3 := Ob.below m3 hb
    replace bl := bgo bl hb
    replace sd := A.sd sd
    clear A hb
    clear x35
    show Code.wp _ _ _ _ _
    refine wp_cond_false x62 ?_
    refine wp_skip ?_
    show Code.wp _ _ _ _ _
    refine wp_seq ?_
    refine wp_seq ?_
    refine wr_a [.eq (.int .i64 0), .eq (.bool false), .eq (.bool false), .eq (.bool true), .eq (.pointer (some ⟨g1, 0, none⟩)), .eq (.slice aO po.length dO), .eq (.pointer (some ⟨g1, 1, none⟩)), .eq (.slice aN pn.length dN), .eq (.bool false), .eq (.bool true), .eq (.bool false), .eq (.bool false)] (by rw [sd.1]; kernel_rfl) ⟨fun hw ac u K => ?_, fun hw ac u K => ?_, fun hw ac u K => ?_, fun hw ac u K => ?_, fun hw ac u K => ?_, fun hw ac u K => ?_, fun hw ac u K => ?_, fun hw ac u K => ?_, fun hw ac u K => ?_, fun hw ac u K => ?_, fun hw ac u K => ?_, fun hw ac u K => ?_, trivial⟩ ?_
    · exact st_move (.tmp 5) rfl (K.t x5 rfl)
    · exact st_neqi 40 (.tmp 72) (.const (.int .i64 0)) rfl .i64 (0) (0) (K.dep 0 72 rfl) rfl _ (by rfl)
    · exact st_move (.tmp 73) rfl (K.dep 1 73 rfl)
    · exact st_move (.tmp 4) rfl (K.t x4 rfl)
    · exact st_field 47 0 (.tmp 1) rfl (K.t x1 rfl) (by kernel_rfl)
    · exact st_loadc 28 (.tmp 76) rfl (by kernel_rfl) (K.dep 4 76 rfl) (Ob.cell (Ob.below m1 (bgo bl K.grow)) 0 rfl)
    · exact st_field 47 1 (.tmp 1) rfl (K.t x1 rfl) (by kernel_rfl)
    · exact st_loadc 28 (.tmp 78) rfl (by kernel_rfl) (K.dep 6 78 rfl) (Ob.cell (Ob.below m1 (bgo bl K.grow)) 1 rfl)
    · exact st_call 22 (.func 22) _ _ _ rfl rfl (arg2 (K.dep 5 77 rfl) (K.dep 7 79 rfl)) Tryd.enter22 (fk_begins (by omega) (by omega) (Fk.mono _ _ _ _ hom (bgo bl K.grow)) (Fk.mono _ _ _ _ hnm (bgo bl K.grow)) hn.2 (by symm; rw [decide_eq_false_iff_not]; exact fun h => hq h.2))
    · exact st_not (.tmp 80) rfl false (K.dep 8 80 rfl)
    · exact st_bin .neq 4 4 (.tmp 75) (.tmp 81) rfl (K.dep 3 75 rfl) (K.dep 9 81 rfl) (by rfl)
    · exact st_pick_f' (.tmp 74) (.const (.bool true)) (.tmp 82) rfl (K.dep 2 74 rfl) (K.dep 10 82 rfl)
    intro f15 w15 A hb
    replace x1 := A.t x1 rfl
    replace x3 := A.t x3 rfl
    replace x4 := A.t x4 rfl
    replace x5 := A.t x5 rfl
    replace x62 := A.t x62 rfl
    have x83 := A.e 11 83 rfl rfl
    replace m3 := Ob.below m3 hb
    replace bl := bgo bl hb
    replace sd := A.sd sd
    clear A hb
    clear x1
    clear x5
    clear x62
    show Code.wp _ _ _ _ _
    refine wp_cond_false x83 ?_
    refine wp_skip ?_
    show Code.wp _ _ _ _ _
    refine wp_seq ?_
    refine wr_a [.eq (.bool true), .eq (.bool false), .eq (.bool false), .eq (.agg ([.slice pA mA cA, .slice pB mB cB] : List Value).toArray), .eq (.bool true), .eq (.bool true), .eq (.bool true), .eq (.bool true), .eq (.bool true), .eq (.bool true)] (by rw [sd.1]; kernel_rfl) ⟨fun hw ac u K => ?_, fun hw ac u K => ?_, fun hw ac u K => ?_, fun hw ac u K => ?_, fun hw ac u K => ?_, fun hw ac u K => ?_, fun hw ac u K => ?_, fun hw ac u K => ?_, fun hw ac u K => ?_, fun hw ac u K => ?_, trivial⟩ ?_
    · exact st_move (.tmp 4) rfl (K.t x4 rfl)
    · exact st_not (.tmp 84) rfl true (K.dep 0 84 rfl)
    · exact st_move (.tmp 85) rfl (K.dep 1 85 rfl)
    · exact st_loadz 25 (.tmp 3) rfl (g3) 0 [.slice pA mA cA, .slice pB mB cB] (by kernel_rfl) (by kernel_rfl) (K.t x3 rfl) (Ob.range (Ob.below m3 K.grow) 0 _ (fun j v hj => by simpa using hj))
    · exact st_call 10 (.func 10) _ _ _ rfl rfl (one_arg (K.dep 3 87 rfl)) Tryd.enter10 (fk_lright hlA hlB (Fk.mono _ _ _ _ hA (bgo bl K.grow)) (Fk.mono _ _ _ _ hB (bgo bl K.grow)) (hK.below (bgo bl K.grow)) (by symm; rw [decide_eq_true_iff]; exact (hr1 rfl)))
    · exact st_pick_f' (.tmp 86) (.const (.bool true)) (.tmp 88) rfl (K.dep 2 86 rfl) (K.dep 4 88 rfl)
    · exact st_move (.tmp 89) rfl (K.dep 5 89 rfl)
    · exact st_call 8 (.func 8) _ _ _ rfl rfl rfl Tryd.enter8 (fk_of (awake_any _ (hK.below (bgo bl K.grow))))
    · exact st_pick_t (.tmp 90) (.tmp 91) (.const (.bool false)) rfl (K.dep 6 90 rfl) (K.dep 7 91 rfl)
    · exact st_assign (.tmp 92) rfl (K.dep 8 92 rfl)
    intro f16 w16 A hb
    replace x3 := A.t x3 rfl
    replace x4 := A.t x4 rfl
    replace x83 := A.t x83 rfl
    have x2 := A.e 9 2 rfl rfl
    replace m3 := Ob.below m3 hb
    replace bl := bgo bl hb
    replace sd := A.sd sd
    clear A hb
    clear x3
    clear x4
    clear x83
    clear m3
    show Code.wp _ _ _ _ _
    refine wp_ret ?_
    repeat (first | with_reducible refine then_ret ?_ | with_reducible refine block_ret ?_)
    exact bodyPost_ret (v := .bool true) (ret_slot rfl f16 _ x2 _ _) sd.2 ⟨rfl, (bgo blw bl)⟩
  refine wr_s [.eq (.agg ([.slice aO po.length dO, .slice aN pn.length dN, .slice aP P.length dP] : List Value).toArray)] (by rw [sd.1]; kernel_rfl) ⟨fun hw ac u K => ?_, trivial⟩ ?_
  · exact st_loadz 47 (.tmp 1) rfl (g1) 0 [.slice aO po.length dO, .slice aN pn.length dN, .slice aP P.length dP] (by kernel_rfl) (by kernel_rfl) (K.t x1 rfl) (Ob.range (Ob.below m1 K.grow) 0 _ (fun j v hj => by simpa using hj))
  intro f3 w3 A hb
  replace x1 := A.t x1 rfl
  replace x21 := A.t x21 rfl
  have x24 := A.e 0 24 rfl rfl
  replace m1 := Ob.below m1 hb
  replace bl := bgo bl hb
  replace sd := A.sd sd
  clear A hb
  clear x21
  refine wl_call 20 (.func 20) _ _ #[.agg ([.slice aO po.length dO, .slice aN pn.length dN, .slice aP P.length dP] : List Value).toArray] rfl 25 rfl (by rw [sd.1]; decide) rfl rfl (one_arg x24) Tryd.enter20 (fun u W => (Fk.c3 false 0).f u W ∧ Below w3.heap.size w3 W) (fk_con_ok hso hsn hPl (Fk.mono _ _ _ _ ho bl) (Fk.mono _ _ _ _ hn bl) (Fk.mono _ _ _ _ hp bl) (hK.below bl) h (by rw [eov.out, env.out]; exact hr) (f := false) (by symm; rw [decide_eq_false_iff_not]; exact fun h => h hq)) ?_
  rintro f4 w4 df2 sz2 old2 ⟨⟨A, B, u1, u2, new2, hA, hB, hlA, hlB, hr1⟩, hb⟩
  obtain ⟨pA, mA, cA, _, _, rfl, _⟩ := id hA
  obtain ⟨pB, mB, cB, _, _, rfl, _⟩ := id hB
  replace bl0 := bl
  replace x1 := tr old2 x1 rfl
  replace x24 := tr old2 x24 rfl
  have x25 : f4.eval (.tmp 25) = .tuple #[.agg ([.slice pA mA cA, .slice pB mB cB] : List Value).toArray, .bool false, .int .i64 0] := new2
  have lt_m1 := Ob.lt m1
  replace m1 := Ob.below m1 hb
  replace bl := bgo bl hb
  replace sd := sd2 sz2 df2 sd
  clear df2 sz2 old2 new2 hb
  have blw := bl
  replace ho := Fk.mono _ _ _ _ ho bl
  replace hom := Fk.mono _ _ _ _ hom bl
  replace hn := Fk.mono _ _ _ _ hn bl
  replace hnm := Fk.mono _ _ _ _ hnm bl
  replace hp := Fk.mono _ _ _ _ hp bl
  replace hps := Fk.mono _ _ _ _ hps bl
  replace hK := hK.below bl
  replace bl := Below.refl w4.heap.size w4
  replace bl0 := bl
  clear x24
  refine wl_one (.eq (.tuple #[.agg ([.slice pA mA cA, .slice pB mB cB] : List Value).toArray, .bool false, .int .i64 0])) rfl 23 rfl (by rw [sd.1]; decide) (st_move (.tmp 25) rfl x25) ?_
  intro f5 w5 df2 sz2 old2 new2 hb
  replace x1 := tr old2 x1 rfl
  replace x25 := tr old2 x25 rfl
  have x23 := Fk.e new2
  replace bl := bgo bl hb
  replace sd := sd2 sz2 df2 sd
  clear df2 sz2 old2 new2 hb
  clear x25
  refine wl_one (.eq (.agg ([.slice pA mA cA, .slice pB mB cB] : List Value).toArray)) rfl 26 rfl (by rw [sd.1]; decide) (st_tup (.tmp 23) rfl x23 (by rfl)) ?_
  intro f6 w6 df2 sz2 old2 new2 hb
  replace x1 := tr old2 x1 rfl
  replace x23 := tr old2 x23 rfl
  have x26 := Fk.e new2
  replace bl := bgo bl hb
  replace sd := sd2 sz2 df2 sd
  clear df2 sz2 old2 new2 hb
  refine wl_one (.eq (.bool false)) rfl 27 rfl (by rw [sd.1]; decide) (st_tup (.tmp 23) rfl x23 (by rfl)) ?_
  intro f7 w7 df2 sz2 old2 new2 hb
  replace x1 := tr old2 x1 rfl
  replace x23 := tr old2 x23 rfl
  replace x26 := tr old2 x26 rfl
  have x27 := Fk.e new2
  replace bl := bgo bl hb
  replace sd := sd2 sz2 df2 sd
  clear df2 sz2 old2 new2 hb
  refine wl_one (.eq (.int .i64 0)) rfl 28 rfl (by rw [sd.1]; decide) (st_tup (.tmp 23) rfl x23 (by rfl)) ?_
  intro f8 w8 df2 sz2 old2 new2 hb
  replace x1 := tr old2 x1 rfl
  replace x23 := tr old2 x23 rfl
  replace x26 := tr old2 x26 rfl
  replace x27 := tr old2 x27 rfl
  have x28 := Fk.e new2
  replace bl := bgo bl hb
  replace sd := sd2 sz2 df2 sd
  clear df2 sz2 old2 new2 hb
  clear x23
  refine wl_one (.nw w8.heap.size 25 [.slice none 0 0, .slice none 0 0]) rfl 3 rfl (by rw [sd.1]; decide) (st_alloc 25 rfl _ _ (by kernel_rfl) (Nat.le_refl _)) ?_
  intro f9 w9 df2 sz2 old2 new2 hb
  replace bl0 := bl
  replace x1 := tr old2 x1 rfl
  replace x26 := tr old2 x26 rfl
  replace x27 := tr old2 x27 rfl
  replace x28 := tr old2 x28 rfl
  have x3 : Fk.f (.nw w8.heap.size 25 [.slice none 0 0, .slice none 0 0]) (f9.eval (.tmp 3)) w9 := new2
  replace bl := bgo bl hb
  replace sd := sd2 sz2 df2 sd
  clear df2 sz2 old2 new2 hb
  obtain ⟨g3, hg3, e3, m3⟩ := x3
  have x3 := e3
  clear e3
  have nm1_3 : g1 ≠ g3 := Nat.ne_of_lt (Nat.lt_of_lt_of_le (Ob.lt m1) (Nat.le_trans bl0.size hg3))
  have hw3 : w4.heap.size ≤ g3 := Nat.le_trans bl0.size hg3
  refine wl_str rfl 25 (.tmp 3) (.tmp 26) rfl rfl (g3) ([.slice pA mA cA, .slice pB mB cB] : List Value).toArray x3 x26 25 _ m3 (by kernel_rfl) (by kernel_rfl) (by kernel_rfl) ?_
  replace m3 : Ob (w9.setRow g3 ([.slice pA mA cA, .slice pB mB cB] : List Value).toArray) (g3) 25 ([.slice pA mA cA, .slice pB mB cB]) := Ob.setRow m3 ([.slice pA mA cA, .slice pB mB cB])
  replace bl : Below w4.heap.size w4 (w9.setRow g3 ([.slice pA mA cA, .slice pB mB cB] : List Value).toArray) := bl.trans (below_setRow _ _ _ _ hw3)
  generalize w9.setRow g3 ([.slice pA mA cA, .slice pB mB cB] : List Value).toArray = w10b at bl m3 ⊢
  clear x26
  refine wl_one (.eq (.bool false)) rfl 4 rfl (by rw [sd.1]; decide) (st_assign (.tmp 27) rfl x27) ?_
  intro f11 w11 df2 sz2 old2 new2 hb
  replace x1 := tr old2 x1 rfl
  replace x27 := tr old2 x27 rfl
  replace x28 := tr old2 x28 rfl
  replace x3 := tr old2 x3 rfl
  have x4 := Fk.e new2
  replace m3 := Ob.below m3 hb
  replace bl := bgo bl hb
  replace sd := sd2 sz2 df2 sd
  clear df2 sz2 old2 new2 hb
  clear x27
  refine wl_one (.eq (.int .i64 0)) rfl 5 rfl (by rw [sd.1]; decide) (st_assign (.tmp 28) rfl x28) ?_
  intro f12 w12 df2 sz2 old2 new2 hb
  replace x1 := tr old2 x1 rfl
  replace x28 := tr old2 x28 rfl
  replace x3 := tr old2 x3 rfl
  replace x4 := tr old2 x4 rfl
  have x5 := Fk.e new2
  replace m3 := Ob.below m3 hb
  replace bl := bgo bl hb
  replace sd := sd2 sz2 df2 sd
  clear df2 sz2 old2 new2 hb
  refine wpList_nil ?_
  clear x28
  show Code.wp _ _ _ _ _
  refine wp_seq ?_
  refine wp_seq ?_
  refine wr_a [.eq (.pointer (some ⟨g1, 0, none⟩)), .eq (.slice aO po.length dO), .eq (.int .i64 (((po).length : Nat) : Int)), .eq (.pointer (some ⟨g1, 1, none⟩)), .eq (.slice aN pn.length dN), .eq (.int .i64 (((pn).length : Nat) : Int)), .eq (.bool false)] (by rw [sd.1]; kernel_rfl) ⟨fun hw ac u K => ?_, fun hw ac u K => ?_, fun hw ac u K => ?_, fun hw ac u K => ?_, fun hw ac u K => ?_, fun hw ac u K => ?_, fun hw ac u K => ?_, trivial⟩ ?_
  · exact st_field 47 0 (.tmp 1) rfl (K.t x1 rfl) (by kernel_rfl)
  · exact st_loadc 28 (.tmp 29) rfl (by kernel_rfl) (K.dep 0 29 rfl) (Ob.cell (Ob.below m1 (bgo bl K.grow)) 0 rfl)
  · exact st_lenm (.tmp 30) rfl (fk_val (K.dep 1 30 rfl) (Fk.mono _ _ _ _ hom (bgo bl K.grow)))
  · exact st_field 47 1 (.tmp 1) rfl (K.t x1 rfl) (by kernel_rfl)
  · exact st_loadc 28 (.tmp 32) rfl (by kernel_rfl) (K.dep 3 32 rfl) (Ob.cell (Ob.below m1 (bgo bl K.grow)) 1 rfl)
  · exact st_lenm (.tmp 33) rfl (fk_val (K.dep 4 33 rfl) (Fk.mono _ _ _ _ hnm (bgo bl K.grow)))
  · exact st_gtr 3 (.tmp 31) (.tmp 34) rfl .i64 ((((po).length : Nat) : Int)) ((((pn).length : Nat) : Int)) (K.dep 2 31 rfl) (K.dep 5 34 rfl) _ (by symm; rw [decide_eq_false_iff_not]; exact (by omega))
  intro f13 w13 A hb
  replace x1 := A.t x1 rfl
  replace x3 := A.t x3 rfl
  replace x4 := A.t x4 rfl
  replace x5 := A.t x5 rfl
  have x35 := A.e 6 35 rfl rfl
  replace m3 := Ob.below m3 hb
  replace bl := bgo bl hb
  replace sd := A.sd sd
  clear A hb
  show Code.wp _ _ _ _ _
  refine wp_cond_false x35 ?_
  refine wp_skip ?_
  show Code.wp _ _ _ _ _
  refine wp_seq ?_
  refine wp_seq ?_
  refine wr_d [.eq (.pointer (some ⟨g1, 0, none⟩)), .eq (.slice aO po.length dO), .eq (.int .i64 (((po).length : Nat) : Int)), .eq (.pointer (some ⟨g1, 1, none⟩)), .eq (.slice aN pn.length dN), .eq (.int .i64 (((pn).length : Nat) : Int)), .eq (.pointer (some ⟨g1, 0, none⟩)), .eq (.slice aO po.length dO), .ow w4.heap.size (lhs po), .eq (.agg ((ov).map V).toArray), .eq (.pointer (some ⟨g1, 1, none⟩)), .eq (.slice aN pn.length dN), .ow w4.heap.size (lhs pn), .eq (.agg ((nv).map V).toArray), .eq (.pointer (some ⟨g1, 2, none⟩)), .eq (.slice aP P.length dP), .eq (.int .i64 0), .eq (.bool false)] Tryd.mixed (by rw [sd.1]; kernel_rfl) ⟨fun hw ac u K => ?_, fun hw ac u K => ?_, fun hw ac u K => ?_, fun hw ac u K => ?_, fun hw ac u K => ?_, fun hw ac u K => ?_, fun hw ac u K => ?_, fun hw ac u K => ?_, fun hw ac u K => ?_, fun hw ac u K => ?_, fun hw ac u K => ?_, fun hw ac u K => ?_, fun hw ac u K => ?_, fun hw ac u K => ?_, fun hw ac u K => ?_, fun hw ac u K => ?_, fun hw ac u K => ?_, fun hw ac u K => ?_, trivial⟩ ?_
  · exact st_field 47 0 (.tmp 1) rfl (K.t x1 rfl) (by kernel_rfl)
  · exact st_loadc 28 (.tmp 45) rfl (by kernel_rfl) (K.dep 0 45 rfl) (Ob.cell (Ob.below m1 (bgo bl K.grow)) 0 rfl)
  · exact st_lenm (.tmp 46) rfl (fk_val (K.dep 1 46 rfl) (Fk.mono _ _ _ _ hom (bgo bl K.grow)))
  · exact st_field 47 1 (.tmp 1) rfl (K.t x1 rfl) (by kernel_rfl)
  · exact st_loadc 28 (.tmp 48) rfl (by kernel_rfl) (K.dep 3 48 rfl) (Ob.cell (Ob.below m1 (bgo bl K.grow)) 1 rfl)
  · exact st_lenm (.tmp 49) rfl (fk_val (K.dep 4 49 rfl) (Fk.mono _ _ _ _ hnm (bgo bl K.grow)))
  · exact st_field 47 0 (.tmp 1) rfl (K.t x1 rfl) (by kernel_rfl)
  · exact st_loadc 28 (.tmp 51) rfl (by kernel_rfl) (K.dep 6 51 rfl) (Ob.cell (Ob.below m1 (bgo bl K.grow)) 0 rfl)
  · exact st_call 14 (.func 14) _ _ _ rfl rfl (one_arg (K.dep 7 52 rfl)) Tryd.enter14 (fk_ow (bgo bl K.grow).size (fk_hashes (by omega) hxo (Fk.mono _ _ _ _ hom (bgo bl K.grow)) (hK.below (bgo bl K.grow))))
  · exact st_call 19 (.func 19) _ _ _ rfl rfl (one_arg rfl) Tryd.enter19 (fk_of (root_any (lhs po) _ _ (by rw [lhs_len]; omega) (ow_hc (K.dep 8 53 rfl)) (hK.below (bgo bl K.grow)) eov))
  · exact st_field 47 1 (.tmp 1) rfl (K.t x1 rfl) (by kernel_rfl)
  · exact st_loadc 28 (.tmp 55) rfl (by kernel_rfl) (K.dep 10 55 rfl) (Ob.cell (Ob.below m1 (bgo bl K.grow)) 1 rfl)
  · exact st_call 14 (.func 14) _ _ _ rfl rfl (one_arg (K.dep 11 56 rfl)) Tryd.enter14 (fk_ow (bgo bl K.grow).size (fk_hashes (by omega) hxn (Fk.mono _ _ _ _ hnm (bgo bl K.grow)) (hK.below (bgo bl K.grow))))
  · exact st_call 19 (.func 19) _ _ _ rfl rfl (one_arg rfl) Tryd.enter19 (fk_of (root_any (lhs pn) _ _ (by rw [lhs_len]; omega) (ow_hc (K.dep 12 57 rfl)) (hK.below (bgo bl K.grow)) env))
  · exact st_field 47 2 (.tmp 1) rfl (K.t x1 rfl) (by kernel_rfl)
  · exact st_loadc 35 (.tmp 59) rfl (by kernel_rfl) (K.dep 14 59 rfl) (Ob.cell (Ob.below m1 (bgo bl K.grow)) 2 rfl)
  · exact st_call 21 (.func 21) _ _ _ rfl rfl (arg5 (K.dep 2 47 rfl) (K.dep 5 50 rfl) (K.dep 9 54 rfl) (K.dep 13 58 rfl) (K.dep 15 60 rfl)) Tryd.enter21 (fk_on_all hov hnv h (by omega) (Fk.mono _ _ _ _ hp (bgo bl K.grow)) (by omega) (hK.below (bgo bl K.grow)) h0 _ (by rw [if_pos hr]))
  · exact st_neqi 40 (.tmp 61) (.const (.int .i64 0)) rfl .i64 (0) (0) (K.dep 16 61 rfl) rfl _ (by rfl)
  intro f14 w14 A hb
  replace x1 := A.t x1 rfl
  replace x3 := A.t x3 rfl
  replace x4 := A.t x4 rfl
  replace x5 := A.t x5 rfl
  replace x35 := A.t x35 rfl
  have x62 := A.e 17 62 rfl rfl
  replace m3 := Ob.below m3 hb
  replace bl := bgo bl hb
  replace sd := A.sd sd
  clear A hb
  clear x35
  show Code.wp _ _ _ _ _
  refine wp_cond_false x62 ?_
  refine wp_skip ?_
  show Code.wp _ _ _ _ _
  refine wp_seq ?_
  refine wp_seq ?_
  refine wr_a [.eq (.int .i64 0), .eq (.bool false), .eq (.bool false), .eq (.bool false), .eq (.pointer (some ⟨g1, 0, none⟩)), .eq (.slice aO po.length dO), .eq (.pointer (some ⟨g1, 1, none⟩)), .eq (.slice aN pn.length dN), .eq (.bool true), .eq (.bool false), .eq (.bool false), .eq (.bool false)] (by rw [sd.1]; kernel_rfl) ⟨fun hw ac u K => ?_, fun hw ac u K => ?_, fun hw ac u K => ?_, fun hw ac u K => ?_, fun hw ac u K => ?_, fun hw ac u K => ?_, fun hw ac u K => ?_, fun hw ac u K => ?_, fun hw ac u K => ?_, fun hw ac u K => ?_, fun hw ac u K => ?_, fun hw ac u K => ?_, trivial⟩ ?_
  · exact st_move (.tmp 5) rfl (K.t x5 rfl)
  · exact st_neqi 40 (.tmp 72) (.const (.int .i64 0)) rfl .i64 (0) (0) (K.dep 0 72 rfl) rfl _ (by rfl)
  · exact st_move (.tmp 73) rfl (K.dep 1 73 rfl)
  · exact st_move (.tmp 4) rfl (K.t x4 rfl)
  · exact st_field 47 0 (.tmp 1) rfl (K.t x1 rfl) (by kernel_rfl)
  · exact st_loadc 28 (.tmp 76) rfl (by kernel_rfl) (K.dep 4 76 rfl) (Ob.cell (Ob.below m1 (bgo bl K.grow)) 0 rfl)
  · exact st_field 47 1 (.tmp 1) rfl (K.t x1 rfl) (by kernel_rfl)
  · exact st_loadc 28 (.tmp 78) rfl (by kernel_rfl) (K.dep 6 78 rfl) (Ob.cell (Ob.below m1 (bgo bl K.grow)) 1 rfl)
  · exact st_call 22 (.func 22) _ _ _ rfl rfl (arg2 (K.dep 5 77 rfl) (K.dep 7 79 rfl)) Tryd.enter22 (fk_begins (by omega) (by omega) (Fk.mono _ _ _ _ hom (bgo bl K.grow)) (Fk.mono _ _ _ _ hnm (bgo bl K.grow)) hn.2 (by symm; rw [decide_eq_true_iff]; exact ⟨h, hq⟩))
  · exact st_not (.tmp 80) rfl true (K.dep 8 80 rfl)
  · exact st_bin .neq 4 4 (.tmp 75) (.tmp 81) rfl (K.dep 3 75 rfl) (K.dep 9 81 rfl) (by rfl)
  · exact st_pick_f' (.tmp 74) (.const (.bool true)) (.tmp 82) rfl (K.dep 2 74 rfl) (K.dep 10 82 rfl)
  intro f15 w15 A hb
  replace x1 := A.t x1 rfl
  replace x3 := A.t x3 rfl
  replace x4 := A.t x4 rfl
  replace x5 := A.t x5 rfl
  replace x62 := A.t x62 rfl
  have x83 := A.e 11 83 rfl rfl
  replace m3 := Ob.below m3 hb
  replace bl := bgo bl hb
  replace sd := A.sd sd
  clear A hb
  clear x1
  clear x5
  clear x62
  show Code.wp _ _ _ _ _
  refine wp_cond_false x83 ?_
  refine wp_skip ?_
  show Code.wp _ _ _ _ _
  refine wp_seq ?_
  refine wr_a [.eq (.bool false), .eq (.bool true), .eq (.bool true), .any, .any, .eq (.bool true), .eq (.bool true), .eq (.bool true), .eq (.bool true), .eq (.bool true)] (by rw [sd.1]; kernel_rfl) ⟨fun hw ac u K => ?_, fun hw ac u K => ?_, fun hw ac u K => ?_, fun hw ac u K => ?_, fun hw ac u K => ?_, fun hw ac u K => ?_, fun hw ac u K => ?_, fun hw ac u K => ?_, fun hw ac u K => ?_, fun hw ac u K => ?_, trivial⟩ ?_
  · exact st_move (.tmp 4) rfl (K.t x4 rfl)
  · exact st_not (.tmp 84) rfl false (K.dep 0 84 rfl)
  · exact st_move (.tmp 85) rfl (K.dep 1 85 rfl)
  · exact (Bool.false_ne_true hw).elim
  · exact (Bool.false_ne_true hw).elim
  · exact st_pick_t (.tmp 86) (.const (.bool true)) (.tmp 88) rfl (K.dep 2 86 rfl) rfl
  · exact st_move (.tmp 89) rfl (K.dep 5 89 rfl)
  · exact st_call 8 (.func 8) _ _ _ rfl rfl rfl Tryd.enter8 (fk_of (awake_any _ (hK.below (bgo bl K.grow))))
  · exact st_pick_t (.tmp 90) (.tmp 91) (.const (.bool false)) rfl (K.dep 6 90 rfl) (K.dep 7 91 rfl)
  · exact st_assign (.tmp 92) rfl (K.dep 8 92 rfl)
  intro f16 w16 A hb
  replace x3 := A.t x3 rfl
  replace x4 := A.t x4 rfl
  replace x83 := A.t x83 rfl
  have x2 := A.e 9 2 rfl rfl
  replace m3 := Ob.below m3 hb
  replace bl := bgo bl hb
  replace sd := A.sd sd
  clear A hb
  clear x3
  clear x4
  clear x83
  clear m3
  show Code.wp _ _ _ _ _
  refine wp_ret ?_
  repeat (first | with_reducible refine then_ret ?_ | with_reducible refine block_ret ?_)
  exact bodyPost_ret (v := .bool true) (ret_slot rfl f16 _ x2 _ _) sd.2 ⟨rfl, (bgo blw bl)⟩
theorem on_law {po pn : List Pt} {P : List (List (BitVec 8))} {aO aN aP : Option Addr} {dO dN dP : Nat} (hlo : po.length ≤ 140737488351232) (hln : pn.length ≤ 140737488351232) (w : World) (hK : Tab w) (ho : (Fk.mc po).f (.slice aO po.length dO) w) (hn : (Fk.mc pn).f (.slice aN pn.length dN) w) (hp : (Fk.hc P).f (.slice aP P.length dP) w) :
    Calls Tryd.prog 6 #[.agg ([.slice aO po.length dO, .slice aN pn.length dN, .slice aP P.length dP] : List Value).toArray] w fun e w' => e = .returned (.bool true) ∧ Below w.heap.size w w' := by
  by_cases h : ¬ smallP po ∨ ¬ smallP pn ∨ 50 < P.length
  · exact lon_pass hlo hln w hK ho hn hp h
  · have hso : smallP po := Classical.byContradiction fun h2 => h (.inl h2)
    have hsn : smallP pn := Classical.byContradiction fun h2 => h (.inr (.inl h2))
    have h5 : P.length ≤ 50 := Nat.le_of_not_lt fun h2 => h (.inr (.inr h2))
    rcases Nat.lt_or_ge pn.length po.length with h2 | h2
    · exact lon_no hlo hln w hK ho hn hp hso hsn h5 h2
    · exact lon_main hlo hln w hK ho hn hp hso hsn h5 h2
end Go.Proofs.YtfmeeimhfdnjpaaDoor
namespace Go.Proofs.YtfmeeimhfdnjpaaDoor
set_option maxRecDepth 100000
set_option maxRecDepth 100000
open Go.ChangeShapes Go.WideShapes Go.ChangeAt Go.RowKit
variable {H : Type} {enc : TypeId × Value → H} {W : World}
end Go.Proofs.YtfmeeimhfdnjpaaDoor
namespace Go.Proofs.YtfmeeimhfdnjpaaDoor
set_option maxRecDepth 100000
open Go.ChangeShapes Go.WideShapes Go.ChangeAt Go.RowKit
section
variable {H : Type} {enc : TypeId × Value → H} {W : World}
theorem hc_part {n : Nat} {cs : List Value} {y : DataW H × List MemPlace} (h : DataW.trod enc Tryd.prog W 0 (fun _ => true) true n 35 cs = some y) : ∃ A C hs, cs = [.slice A hs.length C] ∧ (Fk.hc hs).f (.slice A hs.length C) W := by
  have key : ∀ A N C, N ≤ C → cs = [.slice A N C] → ∃ A C hs, cs = [.slice A hs.length C] ∧ (Fk.hc hs).f (.slice A hs.length C) W := by
    intro A N C hc e
    obtain ⟨lb, lo, hs, hl, hn, _⟩ := hl_of (A := A) (N := N) (C := C) (d := y.1) (p := y.2) ⟨n, by rw [show (Value.slice A N C).cells.toList = cs from by rw [e]; rfl]; exact h⟩
    subst hn
    exact ⟨A, C, hs, e, A, C, lb, lo, rfl, hc, hl⟩
  rcases Deep.open_slice Tryd.under35 h with ⟨hcs, _⟩ | ⟨a, len, cap, m, n', D, Pl, hcs, _, hl, _⟩
  · exact key _ 0 0 (Nat.le_refl _) hcs
  · exact key _ _ _ hl hcs
theorem cut_next (l : List Value) (i n : Nat) : l.drop i = (l.drop i).take n ++ l.drop (i + n) := by
  conv => lhs; rw [← List.take_append_drop n (l.drop i)]
  rw [List.drop_drop]
theorem cut_last (l : List Value) (i n : Nat) (h : l.length = i + n) : l.drop i = (l.drop i).take n := (List.take_of_length_le (by rw [List.length_drop]; omega)).symm
end
end Go.Proofs.YtfmeeimhfdnjpaaDoor
namespace Go.Proofs.YtfmeeimhfdnjpaaDoor
set_option maxRecDepth 100000
open Go.ChangeShapes Go.WideShapes Go.ChangeAt Go.RowKit
theorem bytesB : Tryd.prog.bytesOf 22 = 24 := by kernel_rfl
section
variable {H : Type} {enc : TypeId × Value → H} {W : World}
theorem mc_part {n : Nat} {cs : List Value} {y : DataW H × List MemPlace} (h : DataW.trod enc Tryd.prog W 0 (fun _ => true) true n 28 cs = some y) (hw : (y.1.weights Tryd.prog 28).all (· ≤ reachBytes) = true) : ∃ A C ps, cs = [.slice A ps.length C] ∧ (Fk.mg ps).f (.slice A ps.length C) W ∧ ps.length ≤ C ∧ ps.length ≤ 140737488351232 := by
  rcases Deep.open_slice1 Tryd.under28 cells22 h with ⟨hcs, _⟩ | ⟨a, len, cap, m, n', V', D, Pl, hcs, _, hl, hm, hmm, hx, hel⟩
  · exact ⟨none, 0, [], hcs, ⟨none, 0, 0, 0, rfl, fun h => by simp at h, fun i p hi => by simp at hi, fun i p hi => by simp at hi⟩, Nat.le_refl _, by simp⟩
  · have hmc : m = cap := by simpa using hmm
    subst hmc
    have hE : ∀ k, k < len → ∃ p : Pt, W.cell? ⟨a.block, a.off + k, none⟩ = some (.slice p.sp p.m p.c) ∧ p.ok W ∧ p.bs.length ≤ 140737488351232 := by
      intro k hk
      have h0 := (hel 0 (by omega)).1
      have e0 : a.add 0 = a := by simp [Addr.add]
      rw [e0] at h0
      obtain ⟨hc, ht⟩ := hel k (by omega)
      rw [add_plain h0 k] at hc
      have hwk : ∀ n ∈ (D k).weights Tryd.prog 22, n ≤ reachBytes := by
        intro n hn
        rw [hx] at hw
        simp only [DataW.weights, Tryd.under28, List.all_eq_true, decide_eq_true_eq] at hw
        refine hw n (List.mem_cons_of_mem _ (List.mem_append_left _ (weightsAll_mem ?_ n hn)))
        exact List.mem_map.2 ⟨k, List.mem_range.2 hk, rfl⟩
      obtain ⟨sp, l, c, hv, hlc⟩ : ∃ sp l c, V' k = .slice sp l c ∧ l ≤ reachBytes := by
        rcases Deep.open_slice Tryd.under22 ht with ⟨hcs, _⟩ | ⟨a', len', cap', _, _, _, _, hcs, _, _, _, _, hx', _⟩
        · exact ⟨none, 0, 0, by simpa using hcs, Nat.zero_le _⟩
        · refine ⟨some a', len', cap', by simpa using hcs, ?_⟩
          have e := congrArg Prod.fst hx'
          simp only at e
          rw [e] at hwk
          have := hwk _ (by simp only [DataW.weights, Tryd.under22]; exact List.mem_cons_self ..)
          rw [bytes5, Nat.mul_one, List.length_map, List.length_range] at this
          omega
      rw [hv] at hc ht
      obtain ⟨bs, b, o, hsl, hml⟩ := sl_of (enc := enc) (W := W) (a := sp) (len := l) (cap := c) (d := D k) (p := Pl k) ⟨n', by simpa [Value.cells] using ht⟩
      refine ⟨⟨sp, l, c, bs, b, o⟩, hc, hsl, ?_⟩
      have := hsl.len
      unfold reachBytes at hlc
      show bs.length ≤ _
      omega
    obtain ⟨ps, hps, hp⟩ := list_of len hE
    subst hps
    refine ⟨some a, _, ps, hcs, ⟨some a, _, a.block, a.off, rfl, fun hp0 => ?_, fun i p hi => (hp i p hi).1, fun i p hi => (hp i p hi).2.1⟩, hl, ?_⟩
    · have h0 := (hel 0 (by omega)).1
      have e0 : a.add 0 = a := by simp [Addr.add]
      rw [e0] at h0
      have := add_plain h0 0
      rw [e0, Nat.add_zero] at this
      rw [← this]
    · rw [hx] at hw
      simp only [DataW.weights, Tryd.under28, List.all_cons, Bool.and_eq_true, decide_eq_true_eq] at hw
      have hw1 := hw.1
      rw [bytesB, List.length_map, List.length_range] at hw1
      unfold reachBytes at hw1
      omega
theorem mc_of {A : Option Addr} {C : Nat} {ps : List Pt} (h : (Fk.mg ps).f (.slice A ps.length C) W) (hc : ps.length ≤ C) : (Fk.mc ps).f (.slice A ps.length C) W := ⟨h, fun A' C' e => by injection e with _ _ e3; rw [← e3]; exact hc⟩
theorem weightsEach_mem : ∀ (ts : List TypeId) (ds : List (DataW H)) (i : Nat) (t : TypeId) (d : DataW H), ts[i]? = some t → ds[i]? = some d → ∀ n ∈ d.weights Tryd.prog t, n ∈ DataW.weightsEach Tryd.prog ts ds
  | [], _, i, t, d, h, _, _, _ => by simp at h
  | _ :: _, [], i, t, d, _, h, _, _ => by simp at h
  | t0 :: ts, d0 :: ds, 0, t, d, h1, h2, n, hn => by
    obtain rfl : t0 = t := by simpa using h1
    obtain rfl : d0 = d := by simpa using h2
    unfold DataW.weightsEach
    exact List.mem_append_left _ hn
  | t0 :: ts, d0 :: ds, i + 1, t, d, h1, h2, n, hn => by
    unfold DataW.weightsEach
    exact List.mem_append_right _ (weightsEach_mem ts ds i t d (by simpa using h1) (by simpa using h2) n hn)
/-- The parts of a struct, with what they weigh. -/
theorem parts_of2 {t : TypeId} {l : List (TypeId × Nat)} (hF : fldS Tryd.prog t = some l) {fuel : Nat} {cs : List Value} {x : DataW H × List MemPlace} (h : DataW.trod enc Tryd.prog W 0 (fun _ => true) true fuel t cs = some x) (hw : (x.1.weights Tryd.prog t).all (· ≤ reachBytes) = true) :
    cs.length = Tryd.prog.cellsOf t ∧ ∀ (i : Nat) (ty : TypeId) (off : Nat), l[i]? = some (ty, off) → ∃ n y, DataW.trod enc Tryd.prog W 0 (fun _ => true) true n ty ((cs.drop off).take (Tryd.prog.cellsOf ty)) = some y ∧ (y.1.weights Tryd.prog ty).all (· ≤ reachBytes) = true := by
  unfold fldS at hF
  cases hu : Tryd.prog.underlying t with
  | none => rw [hu] at hF; simp at hF
  | some td =>
    rw [hu] at hF
    cases td <;> simp only [] at hF <;> try (cases hF)
    rename_i fs
    obtain ⟨xs, n, _, rfl, hl, hlen, hf⟩ := DataW.trod_struct hu h
    refine ⟨hl, fun i ty off hi => ?_⟩
    rw [List.getElem?_map] at hi
    cases hfi : fs.toList[i]? with
    | none => rw [hfi] at hi; cases hi
    | some f =>
      rw [hfi] at hi
      obtain ⟨rfl, rfl⟩ : f.type = ty ∧ f.offset = off := by simpa using hi
      have hi2 : i < fs.toList.length := (List.getElem?_eq_some_iff.1 hfi).1
      have hi3 : i < xs.length := by simp only [Array.length_toList] at hi2; omega
      refine ⟨n, xs[i], (hf i f (by simpa using hfi)).trans (List.getElem?_eq_getElem hi3), ?_⟩
      simp only [DataW.weights, hu, List.all_eq_true, decide_eq_true_eq] at hw ⊢
      intro k hk
      exact hw k (weightsEach_mem _ _ i f.type xs[i].1 (by rw [List.getElem?_map, hfi]; rfl) (by rw [List.getElem?_map, List.getElem?_eq_getElem hi3]; rfl) k hk)
theorem cellsM : Tryd.prog.cellsOf 28 = 1 := by kernel_rfl
theorem cells47 : Tryd.prog.cellsOf 47 = 3 := by kernel_rfl
theorem fld47 : fldS Tryd.prog 47 = some [(28, 0), (28, 1), (35, 2)] := by kernel_rfl
theorem open_growth {r : Reach} {b0 : Nat} {v : Value} {d : DataW H} {p : List MemPlace} (hv : Value.okWide Tryd.prog W r b0 47 v) (h : DataW.Trod enc Tryd.prog W 0 (fun _ => true) true 47 v d p) (hw : (d.weights Tryd.prog 47).all (· ≤ reachBytes) = true) :
    ∃ (po pn : List Pt) (P : List (List (BitVec 8))) (aO aN aP : Option Addr) (dO dN dP : Nat), v = .agg ([.slice aO po.length dO, .slice aN pn.length dN, .slice aP P.length dP] : List Value).toArray ∧ (Fk.mc po).f (.slice aO po.length dO) W ∧ (Fk.mc pn).f (.slice aN pn.length dN) W ∧ (Fk.hc P).f (.slice aP P.length dP) W ∧ po.length ≤ 140737488351232 ∧ pn.length ≤ 140737488351232 := by
  have hF := fld47
  unfold fldS at hF
  unfold Value.okWide at hv
  cases hu : Tryd.prog.underlying 47 with
  | none => rw [hu] at hF; simp at hF
  | some td =>
    rw [hu] at hF hv
    cases td <;> simp only [] at hF <;> try (cases hF)
    obtain ⟨cs, rfl, hsz, _⟩ := hv
    obtain ⟨fuel, hf⟩ := h
    obtain ⟨hl, hp⟩ := parts_of2 fld47 hf hw
    have hcs : (Value.agg cs).cells.toList = cs.toList := rfl
    rw [hcs] at hl hp
    rw [cells47] at hl
    obtain ⟨_, _, p0, w0⟩ := hp 0 28 0 rfl
    obtain ⟨_, _, p1, w1⟩ := hp 1 28 1 rfl
    obtain ⟨_, _, p2, w2⟩ := hp 2 35 2 rfl
    rw [cellsM] at p0
    rw [cellsM] at p1
    rw [cells35] at p2
    obtain ⟨aO, dO, po, e0, v0, c0, l0⟩ := mc_part p0 w0
    obtain ⟨aN, dN, pn, e1, v1, c1, l1⟩ := mc_part p1 w1
    obtain ⟨aP, dP, P, e2, v2⟩ := hc_part p2
    refine ⟨po, pn, P, aO, aN, aP, dO, dN, dP, ?_, mc_of v0 c0, mc_of v1 c1, v2, l0, l1⟩
    have hsp : cs.toList = (cs.toList.drop 0).take 1 ++ ((cs.toList.drop 1).take 1 ++ ((cs.toList.drop 2).take 1)) := by
      generalize cs.toList = l at hl ⊢
      rw [← cut_last l 2 1 hl, ← cut_next l 1 1, ← cut_next l 0 1]
      rfl
    congr 1
    apply Array.toList_inj.1
    rw [hsp, e0, e1, e2]
    rfl
end
end Go.Proofs.YtfmeeimhfdnjpaaDoor
