/- CollideTrue. Arguments opened: numbers with their bounds, slices of hashes with their room. Places and steps of layer 8 that came in, opened. Lists of slices of bytes that came in, opened: with their room and the bound of their length; claims and growths of layer 10. -/
import Derived.Test.YtfmeeimhfdnjpaaDoorM17
import Derived.Test.YtfmeeimhfdnjpaaDoorM9
import Derived.Test.YtfmeeimhfdnjpaaDoorM5
import Derived.Test.YtfmeeimhfdnjpaaDoorM4
namespace Go.Proofs.YtfmeeimhfdnjpaaDoor
set_option maxRecDepth 100000
open Go.RowKit
theorem fk_pathc {l : List (List (BitVec 8))} {i : Nat} (hi : i < l.length) (h1000 : l.length ≤ 1000) {w : World} {v : Value} (hv : (Fk.hc l).f v w) (hK : Tab w) {S : List (List (BitVec 8))} (hS : Box (mpath l i = S)) :
    Calls Tryd.prog 23 #[v, .int .i64 (i : Int)] w fun e w' => ∃ u, e = .returned u ∧ (Fk.t2 (.hc S) (.int .i64 0)).f u w' ∧ Below w.heap.size w w' := by
  refine (path_ok hi h1000 w hv hK).mono ?_
  rintro e w' ⟨u, rfl, ⟨p, e1, h1⟩, hb⟩
  rw [hS.out] at h1
  exact ⟨u, rfl, ⟨p, e1, ow_hc h1⟩, hb⟩
theorem fk_proofc {l : List (List (BitVec 8))} {m : Nat} (hm1 : 1 ≤ m) (hm : m ≤ l.length) (h1000 : l.length ≤ 1000) {w : World} {v : Value} (hv : (Fk.hc l).f v w) (hK : Tab w) {S : List (List (BitVec 8))} (hS : Box (msub l m true = S)) :
    Calls Tryd.prog 24 #[v, .int .i64 (m : Int)] w fun e w' => ∃ u, e = .returned u ∧ (Fk.t2 (.hc S) (.int .i64 0)).f u w' ∧ Below w.heap.size w w' := by
  refine (proof_ok hm1 hm h1000 w hv hK).mono ?_
  rintro e w' ⟨u, rfl, ⟨p, e1, h1⟩, hb⟩
  rw [hS.out] at h1
  exact ⟨u, rfl, ⟨p, e1, ow_hc h1⟩, hb⟩
theorem fk_proofz {l : List (List (BitVec 8))} {w : World} {v : Value} (hv : (Fk.hc l).f v w) :
    Calls Tryd.prog 24 #[v, .int .i64 0] w fun e w' => ∃ u, e = .returned u ∧ (Fk.t2 (.hc []) (.int .i64 0)).f u w' ∧ Below w.heap.size w w' := by
  refine (proof_zero w hv).mono ?_
  rintro e w' ⟨rfl, hb⟩
  exact ⟨_, rfl, ⟨_, rfl, hc_nil _⟩, hb⟩
theorem bres_sub {l : List (List (BitVec 8))} {m : Nat} (hm1 : 1 ≤ m) (hm : m ≤ l.length) : bres (mroot (l.take m)) (msub l m true) (stp m l.length true).1 (stp m l.length true).2 = some (mroot (l.take m), mroot l) := by
  obtain ⟨y, Q, q1, q2, q3, q4⟩ := sub_steps l.length l m true rfl hm1 hm
  unfold bres
  by_cases hc : (stp m l.length true).1 = true
  · rw [if_pos hc, q1 hc]
    simp only
    rw [if_pos q3, q4]
  · have hf : (stp m l.length true).1 = false := by simpa using hc
    obtain ⟨e1, e2⟩ := q2 hf
    rw [if_neg hc, e2, if_pos q3, ← e1, q4, e1]
/-- The proof from m, none from nothing. -/
def mpr (l : List (List (BitVec 8))) (m : Nat) : List (List (BitVec 8)) := if m = 0 then [] else msub l m true
theorem fk_proofm {l : List (List (BitVec 8))} {m : Nat} (hm : m ≤ l.length) (h1000 : l.length ≤ 1000) {w : World} {v : Value} (hv : (Fk.hc l).f v w) (hK : Tab w) {S : List (List (BitVec 8))} (hS : Box (mpr l m = S)) :
    Calls Tryd.prog 24 #[v, .int .i64 (m : Int)] w fun e w' => ∃ u, e = .returned u ∧ (Fk.t2 (.hc S) (.int .i64 0)).f u w' ∧ Below w.heap.size w w' := by
  have h := hS.out
  unfold mpr at h
  by_cases h0 : m = 0
  · subst h0
    rw [if_pos rfl] at h
    subst h
    exact fk_proofz hv
  · rw [if_neg h0] at h
    exact fk_proofc (by omega) hm h1000 hv hK ⟨h⟩
theorem mpr_right {l : List (List (BitVec 8))} {m : Nat} (hm : m ≤ l.length) : prOn m l.length (mroot (l.take m)) (mroot l) (mpr l m) := by
  unfold prOn mpr
  by_cases h0 : m = 0
  · rw [if_pos h0, if_pos h0]; rfl
  · rw [if_neg h0, if_neg h0]
    exact bres_sub (by omega) hm
theorem st_cutmv {Q : Exit → Act → World → Prop} {o : Oper} {a : Act} {w : World} (x y : Operand) (ho : o.op = .slice 28 x none (some y) none) {A : Option Addr} {m C : Nat} (hx : a.eval x = .slice A m C) (n : Nat) (hy : a.eval y = .int .i64 (n : Int)) (hn : n ≤ m) (hC : m ≤ C) : o.wp Tryd.prog a w (Ends a o.dst w (Fk.eq (.slice A n C)).f) Q := by
  refine st_pure (v := .slice A n C) ?_ rfl
  have h1 := run_slice_h (P := Tryd.prog) (w := w) 28 A m C (by rw [Tryd.elem28]; exact Tryd.under28) .i64 (n : Int) (by omega) (by omega)
  rw [Tryd.elem28, Tryd.sizeOf22m] at h1
  simp only [Result.andThen_ok, Int.toNat_natCast] at h1
  have h2 := run_sliceAt_slice (P := Tryd.prog) (w := w) 28 (.slice A m C) none (some (.int .i64 (n : Int))) none (by rw [Tryd.elem28]; exact Tryd.under28)
  have h3 : sliced A 0 n C 1 = .slice A n C := by
    unfold sliced
    by_cases h0 : C = 0
    · simp [h0]
    · cases A with
      | none => simp
      | some p => simp [Addr.add]
  rw [h3] at h1
  unfold execOp
  rw [ho]
  simp [hx, hy, h2, h1]
theorem mpr_len {l : List (List (BitVec 8))} {n m : Nat} (hl : l.length = n) (hn : n ≤ 40) (hm : m ≤ n) {S : List (List (BitVec 8))} (eS : Box (mpr l m = S)) : S.length ≤ 50 := by
  have h := eS.out
  unfold mpr at h
  by_cases h0 : m = 0
  · rw [if_pos h0] at h
    subst h
    simp
  · rw [if_neg h0] at h
    obtain ⟨y, Q, q1, q2, q3, _⟩ := sub_steps l.length l m true rfl (by omega) (by omega)
    have h2 := stp_log l.length m true 6 (by omega)
    by_cases hc : (stp m l.length true).1 = true
    · rw [← h, q1 hc, List.length_cons]; omega
    · have hf : (stp m l.length true).1 = false := by simpa using hc
      rw [← h, (q2 hf).2]; omega
set_option maxHeartbeats 1000000 in
theorem ltrue_pass {ps : List Pt} {aA : Option Addr} {dA : Nat} (hla : ps.length ≤ 140737488351232) (w : World) (hK : Tab w) (ha : (Fk.mc ps).f (.slice aA ps.length dA) w) {z q : Int} (h : ¬ smallP ps ∨ z < 0 ∨ (ps.length : Int) ≤ z ∨ q < 0 ∨ (ps.length : Int) < q) :
    Calls Tryd.prog 7 #[.slice aA ps.length dA, .int .i64 z, .int .i64 q] w fun e w' => e = .returned (.bool true) ∧ Below w.heap.size w w' := by
  have ham := ha.1
  go_enter Tryd.func7, Tryd.ntmps7
  refine code_both (fun f w1 => f.tmps.size = 104 ∧ f.defers = [] ∧ f.eval (.tmp 0) = .slice aA ps.length dA ∧ f.eval (.tmp 1) = .int .i64 (z) ∧ f.eval (.tmp 2) = .int .i64 (q) ∧ Below w.heap.size w (w1)) ⟨rfl, rfl, rfl, rfl, rfl, Below.refl _ _⟩ ?_
  rintro f0 w0 ⟨sz, df, x0, x1, x2, bl⟩
  have sd := And.intro sz df
  clear sz df
  have bl0 := bl
  refine wp_seq ?_
  refine wr_a [.eq (.bool false)] (by rw [sd.1]; kernel_rfl) ⟨fun hw ac u K => ?_, trivial⟩ ?_
  · exact st_assign (.const (.bool false)) rfl rfl
  intro f1 w1 A hb
  replace x0 := A.t x0 rfl
  replace x1 := A.t x1 rfl
  replace x2 := A.t x2 rfl
  replace bl := bgo bl hb
  replace sd := A.sd sd
  clear A hb
  show Code.wp _ _ _ _ _
  refine wp_seq ?_
  refine wp_seq ?_
  by_cases hs : smallP ps
  rotate_left
  · skip
    refine wr_a [.eq (.slice aA ps.length dA), .eq (.bool false), .eq (.bool true), .eq (.bool true), .any, .any, .eq (.bool true), .eq (.bool true), .any, .any, .any, .any, .eq (.bool true), .eq (.bool true), .any, .any, .eq (.bool true), .eq (.bool true), .any, .any, .any, .any, .eq (.bool true)] (by rw [sd.1]; kernel_rfl) ⟨fun hw ac u K => ?_, fun hw ac u K => ?_, fun hw ac u K => ?_, fun hw ac u K => ?_, fun hw ac u K => ?_, fun hw ac u K => ?_, fun hw ac u K => ?_, fun hw ac u K => ?_, fun hw ac u K => ?_, fun hw ac u K => ?_, fun hw ac u K => ?_, fun hw ac u K => ?_, fun hw ac u K => ?_, fun hw ac u K => ?_, fun hw ac u K => ?_, fun hw ac u K => ?_, fun hw ac u K => ?_, fun hw ac u K => ?_, fun hw ac u K => ?_, fun hw ac u K => ?_, fun hw ac u K => ?_, fun hw ac u K => ?_, fun hw ac u K => ?_, trivial⟩ ?_
    · exact st_move (.tmp 0) rfl (K.t x0 rfl)
    · exact st_call 11 (.func 11) _ _ _ rfl rfl (one_arg (K.dep 0 17 rfl)) Tryd.enter11 (fk_small hla (Fk.mono _ _ _ _ ham (bgo bl K.grow)) (by symm; rw [decide_eq_false_iff_not]; exact hs))
    · exact st_not (.tmp 18) rfl false (K.dep 1 18 rfl)
    · exact st_move (.tmp 19) rfl (K.dep 2 19 rfl)
    · exact (Bool.false_ne_true hw).elim
    · exact (Bool.false_ne_true hw).elim
    · exact st_pick_t (.tmp 20) (.const (.bool true)) (.tmp 22) rfl (K.dep 3 20 rfl) rfl
    · exact st_move (.tmp 23) rfl (K.dep 6 23 rfl)
    · exact (Bool.false_ne_true hw).elim
    · exact (Bool.false_ne_true hw).elim
    · exact (Bool.false_ne_true hw).elim
    · exact (Bool.false_ne_true hw).elim
    · exact st_pick_t (.tmp 24) (.const (.bool true)) (.tmp 28) rfl (K.dep 7 24 rfl) rfl
    · exact st_move (.tmp 29) rfl (K.dep 12 29 rfl)
    · exact (Bool.false_ne_true hw).elim
    · exact (Bool.false_ne_true hw).elim
    · exact st_pick_t (.tmp 30) (.const (.bool true)) (.tmp 32) rfl (K.dep 13 30 rfl) rfl
    · exact st_move (.tmp 33) rfl (K.dep 16 33 rfl)
    · exact (Bool.false_ne_true hw).elim
    · exact (Bool.false_ne_true hw).elim
    · exact (Bool.false_ne_true hw).elim
    · exact (Bool.false_ne_true hw).elim
    · exact st_pick_t (.tmp 34) (.const (.bool true)) (.tmp 38) rfl (K.dep 17 34 rfl) rfl
    intro f2 w2 A hb
    replace x0 := A.t x0 rfl
    replace x1 := A.t x1 rfl
    replace x2 := A.t x2 rfl
    have x39 := A.e 22 39 rfl rfl
    replace bl := bgo bl hb
    replace sd := A.sd sd
    clear A hb
    show Code.wp _ _ _ _ _
    refine wp_cond_true x39 ?_
    refine wp_seq ?_
    refine wr_a [.eq (.bool true), .eq (.bool true)] (by rw [sd.1]; kernel_rfl) ⟨fun hw ac u K => ?_, fun hw ac u K => ?_, trivial⟩ ?_
    · exact st_call 8 (.func 8) _ _ _ rfl rfl rfl Tryd.enter8 (fk_of (awake_any _ (hK.below (bgo bl K.grow))))
    · exact st_assign (.tmp 40) rfl (K.dep 0 40 rfl)
    intro f3 w3 A hb
    replace x0 := A.t x0 rfl
    replace x1 := A.t x1 rfl
    replace x2 := A.t x2 rfl
    replace x39 := A.t x39 rfl
    have x6 := A.e 1 6 rfl rfl
    replace bl := bgo bl hb
    replace sd := A.sd sd
    clear A hb
    clear x0
    clear x1
    clear x2
    clear x39
    show Code.wp _ _ _ _ _
    refine wp_ret ?_
    repeat (first | with_reducible refine then_ret ?_ | with_reducible refine block_ret ?_)
    exact bodyPost_ret (v := .bool true) (ret_slot rfl f3 _ x6 _ _) sd.2 ⟨rfl, bl⟩
  by_cases h1 : z < 0
  rotate_left
  · skip
    by_cases h2 : (ps.length : Int) ≤ z
    rotate_left
    · skip
      by_cases h3 : q < 0
      rotate_left
      · skip
        have h4 : (ps.length : Int) < q := (((h.resolve_left (fun h => h hs)).resolve_left h1).resolve_left h2).resolve_left h3
        refine wr_a [.eq (.slice aA ps.length dA), .eq (.bool true), .eq (.bool false), .eq (.bool false), .eq (.int .i64 (z)), .eq (.bool false), .eq (.bool false), .eq (.bool false), .eq (.int .i64 (z)), .eq (.slice aA ps.length dA), .eq (.int .i64 (((ps).length : Nat) : Int)), .eq (.bool false), .eq (.bool false), .eq (.bool false), .eq (.int .i64 (q)), .eq (.bool false), .eq (.bool false), .eq (.bool false), .eq (.int .i64 (q)), .eq (.slice aA ps.length dA), .eq (.int .i64 (((ps).length : Nat) : Int)), .eq (.bool true), .eq (.bool true)] (by rw [sd.1]; kernel_rfl) ⟨fun hw ac u K => ?_, fun hw ac u K => ?_, fun hw ac u K => ?_, fun hw ac u K => ?_, fun hw ac u K => ?_, fun hw ac u K => ?_, fun hw ac u K => ?_, fun hw ac u K => ?_, fun hw ac u K => ?_, fun hw ac u K => ?_, fun hw ac u K => ?_, fun hw ac u K => ?_, fun hw ac u K => ?_, fun hw ac u K => ?_, fun hw ac u K => ?_, fun hw ac u K => ?_, fun hw ac u K => ?_, fun hw ac u K => ?_, fun hw ac u K => ?_, fun hw ac u K => ?_, fun hw ac u K => ?_, fun hw ac u K => ?_, fun hw ac u K => ?_, trivial⟩ ?_
        · exact st_move (.tmp 0) rfl (K.t x0 rfl)
        · exact st_call 11 (.func 11) _ _ _ rfl rfl (one_arg (K.dep 0 17 rfl)) Tryd.enter11 (fk_small hla (Fk.mono _ _ _ _ ham (bgo bl K.grow)) (by symm; rw [decide_eq_true_iff]; exact hs))
        · exact st_not (.tmp 18) rfl true (K.dep 1 18 rfl)
        · exact st_move (.tmp 19) rfl (K.dep 2 19 rfl)
        · exact st_move (.tmp 1) rfl (K.t x1 rfl)
        · exact st_lss 3 (.tmp 21) (.const (.int .i64 0)) rfl .i64 ((z)) (0) (K.dep 4 21 rfl) rfl _ (by symm; rw [decide_eq_false_iff_not]; exact h1)
        · exact st_pick_f' (.tmp 20) (.const (.bool true)) (.tmp 22) rfl (K.dep 3 20 rfl) (K.dep 5 22 rfl)
        · exact st_move (.tmp 23) rfl (K.dep 6 23 rfl)
        · exact st_move (.tmp 1) rfl (K.t x1 rfl)
        · exact st_move (.tmp 0) rfl (K.t x0 rfl)
        · exact st_lenm (.tmp 26) rfl (fk_val (K.dep 9 26 rfl) (Fk.mono _ _ _ _ ham (bgo bl K.grow)))
        · exact st_geq 3 (.tmp 25) (.tmp 27) rfl .i64 ((z)) ((((ps).length : Nat) : Int)) (K.dep 8 25 rfl) (K.dep 10 27 rfl) _ (by symm; rw [decide_eq_false_iff_not]; exact h2)
        · exact st_pick_f' (.tmp 24) (.const (.bool true)) (.tmp 28) rfl (K.dep 7 24 rfl) (K.dep 11 28 rfl)
        · exact st_move (.tmp 29) rfl (K.dep 12 29 rfl)
        · exact st_move (.tmp 2) rfl (K.t x2 rfl)
        · exact st_lss 3 (.tmp 31) (.const (.int .i64 0)) rfl .i64 ((q)) (0) (K.dep 14 31 rfl) rfl _ (by symm; rw [decide_eq_false_iff_not]; exact h3)
        · exact st_pick_f' (.tmp 30) (.const (.bool true)) (.tmp 32) rfl (K.dep 13 30 rfl) (K.dep 15 32 rfl)
        · exact st_move (.tmp 33) rfl (K.dep 16 33 rfl)
        · exact st_move (.tmp 2) rfl (K.t x2 rfl)
        · exact st_move (.tmp 0) rfl (K.t x0 rfl)
        · exact st_lenm (.tmp 36) rfl (fk_val (K.dep 19 36 rfl) (Fk.mono _ _ _ _ ham (bgo bl K.grow)))
        · exact st_gtr 3 (.tmp 35) (.tmp 37) rfl .i64 ((q)) ((((ps).length : Nat) : Int)) (K.dep 18 35 rfl) (K.dep 20 37 rfl) _ (by symm; rw [decide_eq_true_iff]; exact h4)
        · exact st_pick_f' (.tmp 34) (.const (.bool true)) (.tmp 38) rfl (K.dep 17 34 rfl) (K.dep 21 38 rfl)
        intro f2 w2 A hb
        replace x0 := A.t x0 rfl
        replace x1 := A.t x1 rfl
        replace x2 := A.t x2 rfl
        have x39 := A.e 22 39 rfl rfl
        replace bl := bgo bl hb
        replace sd := A.sd sd
        clear A hb
        show Code.wp _ _ _ _ _
        refine wp_cond_true x39 ?_
        refine wp_seq ?_
        refine wr_a [.eq (.bool true), .eq (.bool true)] (by rw [sd.1]; kernel_rfl) ⟨fun hw ac u K => ?_, fun hw ac u K => ?_, trivial⟩ ?_
        · exact st_call 8 (.func 8) _ _ _ rfl rfl rfl Tryd.enter8 (fk_of (awake_any _ (hK.below (bgo bl K.grow))))
        · exact st_assign (.tmp 40) rfl (K.dep 0 40 rfl)
        intro f3 w3 A hb
        replace x0 := A.t x0 rfl
        replace x1 := A.t x1 rfl
        replace x2 := A.t x2 rfl
        replace x39 := A.t x39 rfl
        have x6 := A.e 1 6 rfl rfl
        replace bl := bgo bl hb
        replace sd := A.sd sd
        clear A hb
        clear x0
        clear x1
        clear x2
        clear x39
        show Code.wp _ _ _ _ _
        refine wp_ret ?_
        repeat (first | with_reducible refine then_ret ?_ | with_reducible refine block_ret ?_)
        exact bodyPost_ret (v := .bool true) (ret_slot rfl f3 _ x6 _ _) sd.2 ⟨rfl, bl⟩
      refine wr_a [.eq (.slice aA ps.length dA), .eq (.bool true), .eq (.bool false), .eq (.bool false), .eq (.int .i64 (z)), .eq (.bool false), .eq (.bool false), .eq (.bool false), .eq (.int .i64 (z)), .eq (.slice aA ps.length dA), .eq (.int .i64 (((ps).length : Nat) : Int)), .eq (.bool false), .eq (.bool false), .eq (.bool false), .eq (.int .i64 (q)), .eq (.bool true), .eq (.bool true), .eq (.bool true), .any, .any, .any, .any, .eq (.bool true)] (by rw [sd.1]; kernel_rfl) ⟨fun hw ac u K => ?_, fun hw ac u K => ?_, fun hw ac u K => ?_, fun hw ac u K => ?_, fun hw ac u K => ?_, fun hw ac u K => ?_, fun hw ac u K => ?_, fun hw ac u K => ?_, fun hw ac u K => ?_, fun hw ac u K => ?_, fun hw ac u K => ?_, fun hw ac u K => ?_, fun hw ac u K => ?_, fun hw ac u K => ?_, fun hw ac u K => ?_, fun hw ac u K => ?_, fun hw ac u K => ?_, fun hw ac u K => ?_, fun hw ac u K => ?_, fun hw ac u K => ?_, fun hw ac u K => ?_, fun hw ac u K => ?_, fun hw ac u K => ?_, trivial⟩ ?_
      · exact st_move (.tmp 0) rfl (K.t x0 rfl)
      · exact st_call 11 (.func 11) _ _ _ rfl rfl (one_arg (K.dep 0 17 rfl)) Tryd.enter11 (fk_small hla (Fk.mono _ _ _ _ ham (bgo bl K.grow)) (by symm; rw [decide_eq_true_iff]; exact hs))
      · exact st_not (.tmp 18) rfl true (K.dep 1 18 rfl)
      · exact st_move (.tmp 19) rfl (K.dep 2 19 rfl)
      · exact st_move (.tmp 1) rfl (K.t x1 rfl)
      · exact st_lss 3 (.tmp 21) (.const (.int .i64 0)) rfl .i64 ((z)) (0) (K.dep 4 21 rfl) rfl _ (by symm; rw [decide_eq_false_iff_not]; exact h1)
      · exact st_pick_f' (.tmp 20) (.const (.bool true)) (.tmp 22) rfl (K.dep 3 20 rfl) (K.dep 5 22 rfl)
      · exact st_move (.tmp 23) rfl (K.dep 6 23 rfl)
      · exact st_move (.tmp 1) rfl (K.t x1 rfl)
      · exact st_move (.tmp 0) rfl (K.t x0 rfl)
      · exact st_lenm (.tmp 26) rfl (fk_val (K.dep 9 26 rfl) (Fk.mono _ _ _ _ ham (bgo bl K.grow)))
      · exact st_geq 3 (.tmp 25) (.tmp 27) rfl .i64 ((z)) ((((ps).length : Nat) : Int)) (K.dep 8 25 rfl) (K.dep 10 27 rfl) _ (by symm; rw [decide_eq_false_iff_not]; exact h2)
      · exact st_pick_f' (.tmp 24) (.const (.bool true)) (.tmp 28) rfl (K.dep 7 24 rfl) (K.dep 11 28 rfl)
      · exact st_move (.tmp 29) rfl (K.dep 12 29 rfl)
      · exact st_move (.tmp 2) rfl (K.t x2 rfl)
      · exact st_lss 3 (.tmp 31) (.const (.int .i64 0)) rfl .i64 ((q)) (0) (K.dep 14 31 rfl) rfl _ (by symm; rw [decide_eq_true_iff]; exact h3)
      · exact st_pick_f' (.tmp 30) (.const (.bool true)) (.tmp 32) rfl (K.dep 13 30 rfl) (K.dep 15 32 rfl)
      · exact st_move (.tmp 33) rfl (K.dep 16 33 rfl)
      · exact (Bool.false_ne_true hw).elim
      · exact (Bool.false_ne_true hw).elim
      · exact (Bool.false_ne_true hw).elim
      · exact (Bool.false_ne_true hw).elim
      · exact st_pick_t (.tmp 34) (.const (.bool true)) (.tmp 38) rfl (K.dep 17 34 rfl) rfl
      intro f2 w2 A hb
      replace x0 := A.t x0 rfl
      replace x1 := A.t x1 rfl
      replace x2 := A.t x2 rfl
      have x39 := A.e 22 39 rfl rfl
      replace bl := bgo bl hb
      replace sd := A.sd sd
      clear A hb
      show Code.wp _ _ _ _ _
      refine wp_cond_true x39 ?_
      refine wp_seq ?_
      refine wr_a [.eq (.bool true), .eq (.bool true)] (by rw [sd.1]; kernel_rfl) ⟨fun hw ac u K => ?_, fun hw ac u K => ?_, trivial⟩ ?_
      · exact st_call 8 (.func 8) _ _ _ rfl rfl rfl Tryd.enter8 (fk_of (awake_any _ (hK.below (bgo bl K.grow))))
      · exact st_assign (.tmp 40) rfl (K.dep 0 40 rfl)
      intro f3 w3 A hb
      replace x0 := A.t x0 rfl
      replace x1 := A.t x1 rfl
      replace x2 := A.t x2 rfl
      replace x39 := A.t x39 rfl
      have x6 := A.e 1 6 rfl rfl
      replace bl := bgo bl hb
      replace sd := A.sd sd
      clear A hb
      clear x0
      clear x1
      clear x2
      clear x39
      show Code.wp _ _ _ _ _
      refine wp_ret ?_
      repeat (first | with_reducible refine then_ret ?_ | with_reducible refine block_ret ?_)
      exact bodyPost_ret (v := .bool true) (ret_slot rfl f3 _ x6 _ _) sd.2 ⟨rfl, bl⟩
    refine wr_a [.eq (.slice aA ps.length dA), .eq (.bool true), .eq (.bool false), .eq (.bool false), .eq (.int .i64 (z)), .eq (.bool false), .eq (.bool false), .eq (.bool false), .eq (.int .i64 (z)), .eq (.slice aA ps.length dA), .eq (.int .i64 (((ps).length : Nat) : Int)), .eq (.bool true), .eq (.bool true), .eq (.bool true), .any, .any, .eq (.bool true), .eq (.bool true), .any, .any, .any, .any, .eq (.bool true)] (by rw [sd.1]; kernel_rfl) ⟨fun hw ac u K => ?_, fun hw ac u K => ?_, fun hw ac u K => ?_, fun hw ac u K => ?_, fun hw ac u K => ?_, fun hw ac u K => ?_, fun hw ac u K => ?_, fun hw ac u K => ?_, fun hw ac u K => ?_, fun hw ac u K => ?_, fun hw ac u K => ?_, fun hw ac u K => ?_, fun hw ac u K => ?_, fun hw ac u K => ?_, fun hw ac u K => ?_, fun hw ac u K => ?_, fun hw ac u K => ?_, fun hw ac u K => ?_, fun hw ac u K => ?_, fun hw ac u K => ?_, fun hw ac u K => ?_, fun hw ac u K => ?_, fun hw ac u K => ?_, trivial⟩ ?_
    · exact st_move (.tmp 0) rfl (K.t x0 rfl)
    · exact st_call 11 (.func 11) _ _ _ rfl rfl (one_arg (K.dep 0 17 rfl)) Tryd.enter11 (fk_small hla (Fk.mono _ _ _ _ ham (bgo bl K.grow)) (by symm; rw [decide_eq_true_iff]; exact hs))
    · exact st_not (.tmp 18) rfl true (K.dep 1 18 rfl)
    · exact st_move (.tmp 19) rfl (K.dep 2 19 rfl)
    · exact st_move (.tmp 1) rfl (K.t x1 rfl)
    · exact st_lss 3 (.tmp 21) (.const (.int .i64 0)) rfl .i64 ((z)) (0) (K.dep 4 21 rfl) rfl _ (by symm; rw [decide_eq_false_iff_not]; exact h1)
    · exact st_pick_f' (.tmp 20) (.const (.bool true)) (.tmp 22) rfl (K.dep 3 20 rfl) (K.dep 5 22 rfl)
    · exact st_move (.tmp 23) rfl (K.dep 6 23 rfl)
    · exact st_move (.tmp 1) rfl (K.t x1 rfl)
    · exact st_move (.tmp 0) rfl (K.t x0 rfl)
    · exact st_lenm (.tmp 26) rfl (fk_val (K.dep 9 26 rfl) (Fk.mono _ _ _ _ ham (bgo bl K.grow)))
    · exact st_geq 3 (.tmp 25) (.tmp 27) rfl .i64 ((z)) ((((ps).length : Nat) : Int)) (K.dep 8 25 rfl) (K.dep 10 27 rfl) _ (by symm; rw [decide_eq_true_iff]; exact h2)
    · exact st_pick_f' (.tmp 24) (.const (.bool true)) (.tmp 28) rfl (K.dep 7 24 rfl) (K.dep 11 28 rfl)
    · exact st_move (.tmp 29) rfl (K.dep 12 29 rfl)
    · exact (Bool.false_ne_true hw).elim
    · exact (Bool.false_ne_true hw).elim
    · exact st_pick_t (.tmp 30) (.const (.bool true)) (.tmp 32) rfl (K.dep 13 30 rfl) rfl
    · exact st_move (.tmp 33) rfl (K.dep 16 33 rfl)
    · exact (Bool.false_ne_true hw).elim
    · exact (Bool.false_ne_true hw).elim
    · exact (Bool.false_ne_true hw).elim
    · exact (Bool.false_ne_true hw).elim
    · exact st_pick_t (.tmp 34) (.const (.bool true)) (.tmp 38) rfl (K.dep 17 34 rfl) rfl
    intro f2 w2 A hb
    replace x0 := A.t x0 rfl
    replace x1 := A.t x1 rfl
    replace x2 := A.t x2 rfl
    have x39 := A.e 22 39 rfl rfl
    replace bl := bgo bl hb
    replace sd := A.sd sd
    clear A hb
    show Code.wp _ _ _ _ _
    refine wp_cond_true x39 ?_
    refine wp_seq ?_
    refine wr_a [.eq (.bool true), .eq (.bool true)] (by rw [sd.1]; kernel_rfl) ⟨fun hw ac u K => ?_, fun hw ac u K => ?_, trivial⟩ ?_
    · exact st_call 8 (.func 8) _ _ _ rfl rfl rfl Tryd.enter8 (fk_of (awake_any _ (hK.below (bgo bl K.grow))))
    · exact st_assign (.tmp 40) rfl (K.dep 0 40 rfl)
    intro f3 w3 A hb
    replace x0 := A.t x0 rfl
    replace x1 := A.t x1 rfl
    replace x2 := A.t x2 rfl
    replace x39 := A.t x39 rfl
    have x6 := A.e 1 6 rfl rfl
    replace bl := bgo bl hb
    replace sd := A.sd sd
    clear A hb
    clear x0
    clear x1
    clear x2
    clear x39
    show Code.wp _ _ _ _ _
    refine wp_ret ?_
    repeat (first | with_reducible refine then_ret ?_ | with_reducible refine block_ret ?_)
    exact bodyPost_ret (v := .bool true) (ret_slot rfl f3 _ x6 _ _) sd.2 ⟨rfl, bl⟩
  refine wr_a [.eq (.slice aA ps.length dA), .eq (.bool true), .eq (.bool false), .eq (.bool false), .eq (.int .i64 (z)), .eq (.bool true), .eq (.bool true), .eq (.bool true), .any, .any, .any, .any, .eq (.bool true), .eq (.bool true), .any, .any, .eq (.bool true), .eq (.bool true), .any, .any, .any, .any, .eq (.bool true)] (by rw [sd.1]; kernel_rfl) ⟨fun hw ac u K => ?_, fun hw ac u K => ?_, fun hw ac u K => ?_, fun hw ac u K => ?_, fun hw ac u K => ?_, fun hw ac u K => ?_, fun hw ac u K => ?_, fun hw ac u K => ?_, fun hw ac u K => ?_, fun hw ac u K => ?_, fun hw ac u K => ?_, fun hw ac u K => ?_, fun hw ac u K => ?_, fun hw ac u K => ?_, fun hw ac u K => ?_, fun hw ac u K => ?_, fun hw ac u K => ?_, fun hw ac u K => ?_, fun hw ac u K => ?_, fun hw ac u K => ?_, fun hw ac u K => ?_, fun hw ac u K => ?_, fun hw ac u K => ?_, trivial⟩ ?_
  · exact st_move (.tmp 0) rfl (K.t x0 rfl)
  · exact st_call 11 (.func 11) _ _ _ rfl rfl (one_arg (K.dep 0 17 rfl)) Tryd.enter11 (fk_small hla (Fk.mono _ _ _ _ ham (bgo bl K.grow)) (by symm; rw [decide_eq_true_iff]; exact hs))
  · exact st_not (.tmp 18) rfl true (K.dep 1 18 rfl)
  · exact st_move (.tmp 19) rfl (K.dep 2 19 rfl)
  · exact st_move (.tmp 1) rfl (K.t x1 rfl)
  · exact st_lss 3 (.tmp 21) (.const (.int .i64 0)) rfl .i64 ((z)) (0) (K.dep 4 21 rfl) rfl _ (by symm; rw [decide_eq_true_iff]; exact h1)
  · exact st_pick_f' (.tmp 20) (.const (.bool true)) (.tmp 22) rfl (K.dep 3 20 rfl) (K.dep 5 22 rfl)
  · exact st_move (.tmp 23) rfl (K.dep 6 23 rfl)
  · exact (Bool.false_ne_true hw).elim
  · exact (Bool.false_ne_true hw).elim
  · exact (Bool.false_ne_true hw).elim
  · exact (Bool.false_ne_true hw).elim
  · exact st_pick_t (.tmp 24) (.const (.bool true)) (.tmp 28) rfl (K.dep 7 24 rfl) rfl
  · exact st_move (.tmp 29) rfl (K.dep 12 29 rfl)
  · exact (Bool.false_ne_true hw).elim
  · exact (Bool.false_ne_true hw).elim
  · exact st_pick_t (.tmp 30) (.const (.bool true)) (.tmp 32) rfl (K.dep 13 30 rfl) rfl
  · exact st_move (.tmp 33) rfl (K.dep 16 33 rfl)
  · exact (Bool.false_ne_true hw).elim
  · exact (Bool.false_ne_true hw).elim
  · exact (Bool.false_ne_true hw).elim
  · exact (Bool.false_ne_true hw).elim
  · exact st_pick_t (.tmp 34) (.const (.bool true)) (.tmp 38) rfl (K.dep 17 34 rfl) rfl
  intro f2 w2 A hb
  replace x0 := A.t x0 rfl
  replace x1 := A.t x1 rfl
  replace x2 := A.t x2 rfl
  have x39 := A.e 22 39 rfl rfl
  replace bl := bgo bl hb
  replace sd := A.sd sd
  clear A hb
  show Code.wp _ _ _ _ _
  refine wp_cond_true x39 ?_
  refine wp_seq ?_
  refine wr_a [.eq (.bool true), .eq (.bool true)] (by rw [sd.1]; kernel_rfl) ⟨fun hw ac u K => ?_, fun hw ac u K => ?_, trivial⟩ ?_
  · exact st_call 8 (.func 8) _ _ _ rfl rfl rfl Tryd.enter8 (fk_of (awake_any _ (hK.below (bgo bl K.grow))))
  · exact st_assign (.tmp 40) rfl (K.dep 0 40 rfl)
  intro f3 w3 A hb
  replace x0 := A.t x0 rfl
  replace x1 := A.t x1 rfl
  replace x2 := A.t x2 rfl
  replace x39 := A.t x39 rfl
  have x6 := A.e 1 6 rfl rfl
  replace bl := bgo bl hb
  replace sd := A.sd sd
  clear A hb
  clear x0
  clear x1
  clear x2
  clear x39
  show Code.wp _ _ _ _ _
  refine wp_ret ?_
  repeat (first | with_reducible refine then_ret ?_ | with_reducible refine block_ret ?_)
  exact bodyPost_ret (v := .bool true) (ret_slot rfl f3 _ x6 _ _) sd.2 ⟨rfl, bl⟩
set_option maxHeartbeats 1000000 in
theorem ltrue_main {ps : List Pt} {aA : Option Addr} {dA : Nat} (hla : ps.length ≤ 140737488351232) (w : World) (hK : Tab w) (ha : (Fk.mc ps).f (.slice aA ps.length dA) w) (hs : smallP ps) {i m : Nat} {p : Pt} (hpk : ps[i]? = some p) (hm : m ≤ ps.length) :
    Calls Tryd.prog 7 #[.slice aA ps.length dA, .int .i64 (i : Int), .int .i64 (m : Int)] w fun e w' => e = .returned (.bool true) ∧ Below w.heap.size w w' := by
  have ham := ha.1
  have hi : i < ps.length := (List.getElem?_eq_some_iff.1 hpk).1
  have h40 := hs.2
  have hx := fun p hp => Nat.le_trans (hs.1 p hp) (show 200 ≤ 140737488351232 by omega)
  have hslp : (Fk.sl p.bs).f (.slice p.sp p.m p.c) w := ⟨_, _, _, _, _, rfl, mg_ok ham hpk⟩
  have htl : (ps.take m).length = m := by rw [List.length_take]; omega
  have hcut : (Fk.mc (ps.take m)).f (.slice aA m dA) w := ⟨mg_take ham hm, fun A C e => by
    have h1 := ha.2 _ _ rfl
    injection e with _ _ e3
    rw [htl, ← e3]
    omega⟩
  have hs1 : smallP (ps.take m) := ⟨fun p hp => hs.1 p (List.mem_of_mem_take hp), by rw [htl]; omega⟩
  obtain ⟨S, eS⟩ : ∃ S, Box (mpath (lhs ps) i = S) := ⟨_, ⟨rfl⟩⟩
  obtain ⟨S2, eS2⟩ : ∃ S, Box (mpr (lhs ps) m = S) := ⟨_, ⟨rfl⟩⟩
  obtain ⟨hpl, hpr⟩ := path_sides ps.length (lhs ps) i (lhs_len ps) hi
  have hld := hpr _ (lhs_at hpk)
  rw [eS.out] at hpl hld
  have hsl := sds_len ps.length i
  have hpo := mpr_right (l := lhs ps) (m := m) (by rw [lhs_len]; exact hm)
  have hS2 : S2.length ≤ 50 := mpr_len (lhs_len ps) h40 hm eS2
  rw [lhs_len, eS2.out, ← lhs_take] at hpo
  have hle : (ps.take m).length ≤ ps.length := by omega
  have hbg : bys (ps.take m) = (bys ps).take (ps.take m).length := by rw [htl]; exact bys_take ps m
  rw [show prOn m = prOn (ps.take m).length by rw [htl]] at hpo
  go_enter Tryd.func7, Tryd.ntmps7
  refine code_both (fun f w1 => f.tmps.size = 104 ∧ f.defers = [] ∧ f.eval (.tmp 0) = .slice aA ps.length dA ∧ f.eval (.tmp 1) = .int .i64 (i : Int) ∧ f.eval (.tmp 2) = .int .i64 (m : Int) ∧ Below w.heap.size w (w1)) ⟨rfl, rfl, rfl, rfl, rfl, Below.refl _ _⟩ ?_
  rintro f0 w0 ⟨sz, df, x0, x1, x2, bl⟩
  have sd := And.intro sz df
  clear sz df
  have bl0 := bl
  refine wp_seq ?_
  refine wr_a [.eq (.bool false)] (by rw [sd.1]; kernel_rfl) ⟨fun hw ac u K => ?_, trivial⟩ ?_
  · exact st_assign (.const (.bool false)) rfl rfl
  intro f1 w1 A hb
  replace x0 := A.t x0 rfl
  replace x1 := A.t x1 rfl
  replace x2 := A.t x2 rfl
  replace bl := bgo bl hb
  replace sd := A.sd sd
  clear A hb
  show Code.wp _ _ _ _ _
  refine wp_seq ?_
  refine wp_seq ?_
  refine wr_a [.eq (.slice aA ps.length dA), .eq (.bool true), .eq (.bool false), .eq (.bool false), .eq (.int .i64 (i : Int)), .eq (.bool false), .eq (.bool false), .eq (.bool false), .eq (.int .i64 (i : Int)), .eq (.slice aA ps.length dA), .eq (.int .i64 (((ps).length : Nat) : Int)), .eq (.bool false), .eq (.bool false), .eq (.bool false), .eq (.int .i64 (m : Int)), .eq (.bool false), .eq (.bool false), .eq (.bool false), .eq (.int .i64 (m : Int)), .eq (.slice aA ps.length dA), .eq (.int .i64 (((ps).length : Nat) : Int)), .eq (.bool false), .eq (.bool false)] (by rw [sd.1]; kernel_rfl) ⟨fun hw ac u K => ?_, fun hw ac u K => ?_, fun hw ac u K => ?_, fun hw ac u K => ?_, fun hw ac u K => ?_, fun hw ac u K => ?_, fun hw ac u K => ?_, fun hw ac u K => ?_, fun hw ac u K => ?_, fun hw ac u K => ?_, fun hw ac u K => ?_, fun hw ac u K => ?_, fun hw ac u K => ?_, fun hw ac u K => ?_, fun hw ac u K => ?_, fun hw ac u K => ?_, fun hw ac u K => ?_, fun hw ac u K => ?_, fun hw ac u K => ?_, fun hw ac u K => ?_, fun hw ac u K => ?_, fun hw ac u K => ?_, fun hw ac u K => ?_, trivial⟩ ?_
  · exact st_move (.tmp 0) rfl (K.t x0 rfl)
  · exact st_call 11 (.func 11) _ _ _ rfl rfl (one_arg (K.dep 0 17 rfl)) Tryd.enter11 (fk_small hla (Fk.mono _ _ _ _ ham (bgo bl K.grow)) (by symm; rw [decide_eq_true_iff]; exact hs))
  · exact st_not (.tmp 18) rfl true (K.dep 1 18 rfl)
  · exact st_move (.tmp 19) rfl (K.dep 2 19 rfl)
  · exact st_move (.tmp 1) rfl (K.t x1 rfl)
  · exact st_lss 3 (.tmp 21) (.const (.int .i64 0)) rfl .i64 ((i : Int)) (0) (K.dep 4 21 rfl) rfl _ (by symm; rw [decide_eq_false_iff_not]; exact (by omega))
  · exact st_pick_f' (.tmp 20) (.const (.bool true)) (.tmp 22) rfl (K.dep 3 20 rfl) (K.dep 5 22 rfl)
  · exact st_move (.tmp 23) rfl (K.dep 6 23 rfl)
  · exact st_move (.tmp 1) rfl (K.t x1 rfl)
  · exact st_move (.tmp 0) rfl (K.t x0 rfl)
  · exact st_lenm (.tmp 26) rfl (fk_val (K.dep 9 26 rfl) (Fk.mono _ _ _ _ ham (bgo bl K.grow)))
  · exact st_geq 3 (.tmp 25) (.tmp 27) rfl .i64 ((i : Int)) ((((ps).length : Nat) : Int)) (K.dep 8 25 rfl) (K.dep 10 27 rfl) _ (by symm; rw [decide_eq_false_iff_not]; exact (by omega))
  · exact st_pick_f' (.tmp 24) (.const (.bool true)) (.tmp 28) rfl (K.dep 7 24 rfl) (K.dep 11 28 rfl)
  · exact st_move (.tmp 29) rfl (K.dep 12 29 rfl)
  · exact st_move (.tmp 2) rfl (K.t x2 rfl)
  · exact st_lss 3 (.tmp 31) (.const (.int .i64 0)) rfl .i64 ((m : Int)) (0) (K.dep 14 31 rfl) rfl _ (by symm; rw [decide_eq_false_iff_not]; exact (by omega))
  · exact st_pick_f' (.tmp 30) (.const (.bool true)) (.tmp 32) rfl (K.dep 13 30 rfl) (K.dep 15 32 rfl)
  · exact st_move (.tmp 33) rfl (K.dep 16 33 rfl)
  · exact st_move (.tmp 2) rfl (K.t x2 rfl)
  · exact st_move (.tmp 0) rfl (K.t x0 rfl)
  · exact st_lenm (.tmp 36) rfl (fk_val (K.dep 19 36 rfl) (Fk.mono _ _ _ _ ham (bgo bl K.grow)))
  · exact st_gtr 3 (.tmp 35) (.tmp 37) rfl .i64 ((m : Int)) ((((ps).length : Nat) : Int)) (K.dep 18 35 rfl) (K.dep 20 37 rfl) _ (by symm; rw [decide_eq_false_iff_not]; exact (by omega))
  · exact st_pick_f' (.tmp 34) (.const (.bool true)) (.tmp 38) rfl (K.dep 17 34 rfl) (K.dep 21 38 rfl)
  intro f2 w2 A hb
  replace x0 := A.t x0 rfl
  replace x1 := A.t x1 rfl
  replace x2 := A.t x2 rfl
  have x39 := A.e 22 39 rfl rfl
  replace bl := bgo bl hb
  replace sd := A.sd sd
  clear A hb
  show Code.wp _ _ _ _ _
  refine wp_cond_false x39 ?_
  refine wp_skip ?_
  show Code.wp _ _ _ _ _
  refine wp_seq ?_
  refine wr_a [.eq (.slice aA ps.length dA), .ow w.heap.size (lhs ps), .eq (.int .i64 (i : Int)), .t2 (.hc (S)) (.int .i64 0), .t2 (.hc (S)) (.int .i64 0), .hc (S), .eq (.int .i64 0), .hc (S), .eq (.int .i64 0)] (by rw [sd.1]; kernel_rfl) ⟨fun hw ac u K => ?_, fun hw ac u K => ?_, fun hw ac u K => ?_, fun hw ac u K => ?_, fun hw ac u K => ?_, fun hw ac u K => ?_, fun hw ac u K => ?_, fun hw ac u K => ?_, fun hw ac u K => ?_, trivial⟩ ?_
  · exact st_move (.tmp 0) rfl (K.t x0 rfl)
  · exact st_call 14 (.func 14) _ _ _ rfl rfl (one_arg (K.dep 0 42 rfl)) Tryd.enter14 (fk_ow (bgo bl K.grow).size (fk_hashes (by omega) hx (Fk.mono _ _ _ _ ham (bgo bl K.grow)) (hK.below (bgo bl K.grow))))
  · exact st_move (.tmp 1) rfl (K.t x1 rfl)
  · exact st_call 23 (.func 23) _ _ _ rfl rfl (arg2 rfl (K.dep 2 44 rfl)) Tryd.enter23 (fk_pathc (by rw [lhs_len]; exact hi) (by rw [lhs_len]; omega) (ow_hc (K.dep 1 43 rfl)) (hK.below (bgo bl K.grow)) eS)
  · exact st_move (.tmp 45) rfl (K.dep 3 45 rfl)
  · exact st_t2a (.tmp 41) rfl (K.dep 4 41 rfl)
  · exact st_t2b (.tmp 41) rfl (K.dep 4 41 rfl)
  · exact st_assign (.tmp 46) rfl (K.dep 5 46 rfl)
  · exact st_assign (.tmp 47) rfl (K.dep 6 47 rfl)
  intro f3 w3 A hb
  replace x0 := A.t x0 rfl
  replace x1 := A.t x1 rfl
  replace x2 := A.t x2 rfl
  replace x39 := A.t x39 rfl
  have x7 : Fk.f (.hc (S)) (f3.eval (.tmp 7)) w3 := A.has 7 7 rfl
  have x8 := A.e 8 8 rfl rfl
  replace bl := bgo bl hb
  replace sd := A.sd sd
  clear A hb
  clear x39
  have h7 := x7
  obtain ⟨A7, C7, _, _, e7, _⟩ := id x7
  rw [e7] at h7
  replace x7 := e7
  clear e7
  show Code.wp _ _ _ _ _
  refine wp_seq ?_
  refine wr_a [.eq (.slice aA ps.length dA), .ow w.heap.size (lhs ps), .eq (.int .i64 (m : Int)), .t2 (.hc (S2)) (.int .i64 0), .t2 (.hc (S2)) (.int .i64 0), .hc (S2), .eq (.int .i64 0), .hc (S2), .eq (.int .i64 0)] (by rw [sd.1]; kernel_rfl) ⟨fun hw ac u K => ?_, fun hw ac u K => ?_, fun hw ac u K => ?_, fun hw ac u K => ?_, fun hw ac u K => ?_, fun hw ac u K => ?_, fun hw ac u K => ?_, fun hw ac u K => ?_, fun hw ac u K => ?_, trivial⟩ ?_
  · exact st_move (.tmp 0) rfl (K.t x0 rfl)
  · exact st_call 14 (.func 14) _ _ _ rfl rfl (one_arg (K.dep 0 49 rfl)) Tryd.enter14 (fk_ow (bgo bl K.grow).size (fk_hashes (by omega) hx (Fk.mono _ _ _ _ ham (bgo bl K.grow)) (hK.below (bgo bl K.grow))))
  · exact st_move (.tmp 2) rfl (K.t x2 rfl)
  · exact st_call 24 (.func 24) _ _ _ rfl rfl (arg2 rfl (K.dep 2 51 rfl)) Tryd.enter24 (fk_proofm (by rw [lhs_len]; exact hm) (by rw [lhs_len]; omega) (ow_hc (K.dep 1 50 rfl)) (hK.below (bgo bl K.grow)) eS2)
  · exact st_move (.tmp 52) rfl (K.dep 3 52 rfl)
  · exact st_t2a (.tmp 48) rfl (K.dep 4 48 rfl)
  · exact st_t2b (.tmp 48) rfl (K.dep 4 48 rfl)
  · exact st_assign (.tmp 53) rfl (K.dep 5 53 rfl)
  · exact st_assign (.tmp 54) rfl (K.dep 6 54 rfl)
  intro f4 w4 A hb
  replace x0 := A.t x0 rfl
  replace x1 := A.t x1 rfl
  replace x2 := A.t x2 rfl
  replace x7 := A.t x7 rfl
  replace x8 := A.t x8 rfl
  have x9 : Fk.f (.hc (S2)) (f4.eval (.tmp 9)) w4 := A.has 7 9 rfl
  have x10 := A.e 8 10 rfl rfl
  replace h7 := Fk.mono _ _ _ _ h7 hb
  replace bl := bgo bl hb
  replace sd := A.sd sd
  clear A hb
  have h9 := x9
  obtain ⟨A9, C9, _, _, e9, _⟩ := id x9
  rw [e9] at h9
  replace x9 := e9
  clear e9
  show Code.wp _ _ _ _ _
  refine wp_seq ?_
  refine wp_seq ?_
  refine wr_a [.eq (.int .i64 0), .eq (.bool false), .eq (.bool false), .eq (.int .i64 0), .eq (.bool false), .eq (.bool false)] (by rw [sd.1]; kernel_rfl) ⟨fun hw ac u K => ?_, fun hw ac u K => ?_, fun hw ac u K => ?_, fun hw ac u K => ?_, fun hw ac u K => ?_, fun hw ac u K => ?_, trivial⟩ ?_
  · exact st_move (.tmp 8) rfl (K.t x8 rfl)
  · exact st_neqi 40 (.tmp 55) (.const (.int .i64 0)) rfl .i64 (0) (0) (K.dep 0 55 rfl) rfl _ (by rfl)
  · exact st_move (.tmp 56) rfl (K.dep 1 56 rfl)
  · exact st_move (.tmp 10) rfl (K.t x10 rfl)
  · exact st_neqi 40 (.tmp 58) (.const (.int .i64 0)) rfl .i64 (0) (0) (K.dep 3 58 rfl) rfl _ (by rfl)
  · exact st_pick_f' (.tmp 57) (.const (.bool true)) (.tmp 59) rfl (K.dep 2 57 rfl) (K.dep 4 59 rfl)
  intro f5 w5 A hb
  replace x0 := A.t x0 rfl
  replace x1 := A.t x1 rfl
  replace x2 := A.t x2 rfl
  replace x7 := A.t x7 rfl
  replace x8 := A.t x8 rfl
  replace x9 := A.t x9 rfl
  replace x10 := A.t x10 rfl
  have x60 := A.e 5 60 rfl rfl
  replace h7 := Fk.mono _ _ _ _ h7 hb
  replace h9 := Fk.mono _ _ _ _ h9 hb
  replace bl := bgo bl hb
  replace sd := A.sd sd
  clear A hb
  clear x8
  clear x10
  show Code.wp _ _ _ _ _
  refine wp_cond_false x60 ?_
  refine wp_skip ?_
  show Code.wp _ _ _ _ _
  refine wp_seq ?_
  have blw := bl
  replace ha := Fk.mono _ _ _ _ ha bl
  replace ham := Fk.mono _ _ _ _ ham bl
  replace hslp := Fk.mono _ _ _ _ hslp bl
  replace hcut := Fk.mono _ _ _ _ hcut bl
  replace hK := hK.below bl
  replace bl := Below.refl w5.heap.size w5
  replace bl0 := bl
  refine wr_s [.eq (.slice aA ps.length dA), .eq (.int .i64 (i : Int)), .eq (.slice aA ps.length dA), .eq (.int .i64 (((ps).length : Nat) : Int)), .eq (.slice aA ps.length dA), .eq (.int .i64 (i : Int)), .pv (.slice p.sp p.m p.c), .eq (.slice p.sp p.m p.c), .eq (.slice A7 (S).length C7), .eq (.agg ([.int .i64 (i : Int), .int .i64 (((ps).length : Nat) : Int), .slice p.sp p.m p.c, .slice A7 (S).length C7] : List Value).toArray)] (by rw [sd.1]; kernel_rfl) ⟨fun hw ac u K => ?_, fun hw ac u K => ?_, fun hw ac u K => ?_, fun hw ac u K => ?_, fun hw ac u K => ?_, fun hw ac u K => ?_, fun hw ac u K => ?_, fun hw ac u K => ?_, fun hw ac u K => ?_, fun hw ac u K => ?_, trivial⟩ ?_
  · exact st_move (.tmp 0) rfl (K.t x0 rfl)
  · exact st_move (.tmp 1) rfl (K.t x1 rfl)
  · exact st_move (.tmp 0) rfl (K.t x0 rfl)
  · exact st_lenm (.tmp 64) rfl (fk_val (K.dep 2 64 rfl) (Fk.mono _ _ _ _ ham (bgo bl K.grow)))
  · exact st_move (.tmp 0) rfl (K.t x0 rfl)
  · exact st_move (.tmp 1) rfl (K.t x1 rfl)
  · exact st_idxm (.tmp 66) (.tmp 67) rfl (fk_val (K.dep 4 66 rfl) (Fk.mono _ _ _ _ ham (bgo bl K.grow))) i p (K.dep 5 67 rfl) hpk
  · exact st_loadsl (.tmp 68) rfl (K.dep 6 68 rfl)
  · exact st_move (.tmp 7) rfl (K.t x7 rfl)
  · exact st_build 39 _ rfl (by simp only [List.map_toArray, List.map_cons, List.map_nil, show ac.eval (.tmp 63) = _ from (K.dep 1 63 rfl), show ac.eval (.tmp 65) = _ from (K.dep 3 65 rfl), show ac.eval (.tmp 69) = _ from (K.dep 7 69 rfl), show ac.eval (.tmp 70) = _ from (K.dep 8 70 rfl)]; kernel_rfl)
  intro f6 w6 A hb
  replace x0 := A.t x0 rfl
  replace x1 := A.t x1 rfl
  replace x2 := A.t x2 rfl
  replace x7 := A.t x7 rfl
  replace x9 := A.t x9 rfl
  replace x60 := A.t x60 rfl
  have x62 := A.e 0 62 rfl rfl
  have x71 := A.e 9 71 rfl rfl
  replace bl := bgo bl hb
  replace sd := A.sd sd
  clear A hb
  clear x1
  clear x7
  clear x60
  refine wl_call 16 (.func 16) _ _ #[.slice aA ps.length dA, .agg ([.int .i64 (i : Int), .int .i64 (((ps).length : Nat) : Int), .slice p.sp p.m p.c, .slice A7 (S).length C7] : List Value).toArray] rfl 72 rfl (by rw [sd.1]; decide) rfl rfl (arg2 x62 x71) Tryd.enter16 (fun u W => (Fk.c3 false 0).f u W ∧ Below w6.heap.size w6 W) (fk_cin_ok hs (Nat.le_trans (hs.1 p (List.mem_of_getElem? hpk)) (by omega)) (by omega) (Fk.mono _ _ _ _ ha bl) (Fk.mono _ _ _ _ hslp bl) (Fk.mono _ _ _ _ h7 bl) (hK.below bl) hpk hpl hld (f := false) (by symm; rw [decide_eq_false_iff_not]; exact fun h => h rfl)) ?_
  rintro f7 w7 df2 sz2 old2 ⟨⟨A1, B1, u11, u21, new2, hA1, hB1, hlA1, hlB1, hr1⟩, hb⟩
  obtain ⟨pA1, mA1, cA1, _, _, rfl, _⟩ := id hA1
  obtain ⟨pB1, mB1, cB1, _, _, rfl, _⟩ := id hB1
  replace bl0 := bl
  replace x0 := tr old2 x0 rfl
  replace x2 := tr old2 x2 rfl
  replace x9 := tr old2 x9 rfl
  replace x62 := tr old2 x62 rfl
  replace x71 := tr old2 x71 rfl
  have x72 : f7.eval (.tmp 72) = .tuple #[.agg ([.slice pA1 mA1 cA1, .slice pB1 mB1 cB1] : List Value).toArray, .bool false, .int .i64 0] := new2
  replace bl := bgo bl hb
  replace sd := sd2 sz2 df2 sd
  clear df2 sz2 old2 new2 hb
  replace blw := blw.trans (Below.mono bl blw.size)
  replace ha := Fk.mono _ _ _ _ ha bl
  replace ham := Fk.mono _ _ _ _ ham bl
  replace hslp := Fk.mono _ _ _ _ hslp bl
  replace hcut := Fk.mono _ _ _ _ hcut bl
  replace h7 := Fk.mono _ _ _ _ h7 bl
  replace h9 := Fk.mono _ _ _ _ h9 bl
  replace hK := hK.below bl
  replace bl := Below.refl w7.heap.size w7
  replace bl0 := bl
  clear x62
  clear x71
  refine wl_one (.eq (.tuple #[.agg ([.slice pA1 mA1 cA1, .slice pB1 mB1 cB1] : List Value).toArray, .bool false, .int .i64 0])) rfl 61 rfl (by rw [sd.1]; decide) (st_move (.tmp 72) rfl x72) ?_
  intro f8 w8 df2 sz2 old2 new2 hb
  replace x0 := tr old2 x0 rfl
  replace x2 := tr old2 x2 rfl
  replace x9 := tr old2 x9 rfl
  replace x72 := tr old2 x72 rfl
  have x61 := Fk.e new2
  replace bl := bgo bl hb
  replace sd := sd2 sz2 df2 sd
  clear df2 sz2 old2 new2 hb
  clear x72
  refine wl_one (.eq (.agg ([.slice pA1 mA1 cA1, .slice pB1 mB1 cB1] : List Value).toArray)) rfl 73 rfl (by rw [sd.1]; decide) (st_tup (.tmp 61) rfl x61 (by rfl)) ?_
  intro f9 w9 df2 sz2 old2 new2 hb
  replace x0 := tr old2 x0 rfl
  replace x2 := tr old2 x2 rfl
  replace x9 := tr old2 x9 rfl
  replace x61 := tr old2 x61 rfl
  have x73 := Fk.e new2
  replace bl := bgo bl hb
  replace sd := sd2 sz2 df2 sd
  clear df2 sz2 old2 new2 hb
  refine wl_one (.eq (.bool false)) rfl 74 rfl (by rw [sd.1]; decide) (st_tup (.tmp 61) rfl x61 (by rfl)) ?_
  intro f10 w10 df2 sz2 old2 new2 hb
  replace x0 := tr old2 x0 rfl
  replace x2 := tr old2 x2 rfl
  replace x9 := tr old2 x9 rfl
  replace x61 := tr old2 x61 rfl
  replace x73 := tr old2 x73 rfl
  have x74 := Fk.e new2
  replace bl := bgo bl hb
  replace sd := sd2 sz2 df2 sd
  clear df2 sz2 old2 new2 hb
  refine wl_one (.eq (.int .i64 0)) rfl 75 rfl (by rw [sd.1]; decide) (st_tup (.tmp 61) rfl x61 (by rfl)) ?_
  intro f11 w11 df2 sz2 old2 new2 hb
  replace x0 := tr old2 x0 rfl
  replace x2 := tr old2 x2 rfl
  replace x9 := tr old2 x9 rfl
  replace x61 := tr old2 x61 rfl
  replace x73 := tr old2 x73 rfl
  replace x74 := tr old2 x74 rfl
  have x75 := Fk.e new2
  replace bl := bgo bl hb
  replace sd := sd2 sz2 df2 sd
  clear df2 sz2 old2 new2 hb
  clear x61
  refine wl_one (.nw w11.heap.size 25 [.slice none 0 0, .slice none 0 0]) rfl 11 rfl (by rw [sd.1]; decide) (st_alloc 25 rfl _ _ (by kernel_rfl) (Nat.le_refl _)) ?_
  intro f12 w12 df2 sz2 old2 new2 hb
  replace bl0 := bl
  replace x0 := tr old2 x0 rfl
  replace x2 := tr old2 x2 rfl
  replace x9 := tr old2 x9 rfl
  replace x73 := tr old2 x73 rfl
  replace x74 := tr old2 x74 rfl
  replace x75 := tr old2 x75 rfl
  have x11 : Fk.f (.nw w11.heap.size 25 [.slice none 0 0, .slice none 0 0]) (f12.eval (.tmp 11)) w12 := new2
  replace bl := bgo bl hb
  replace sd := sd2 sz2 df2 sd
  clear df2 sz2 old2 new2 hb
  obtain ⟨g11, hg11, e11, m11⟩ := x11
  have x11 := e11
  clear e11
  have hw11 : w7.heap.size ≤ g11 := Nat.le_trans bl0.size hg11
  refine wl_str rfl 25 (.tmp 11) (.tmp 73) rfl rfl (g11) ([.slice pA1 mA1 cA1, .slice pB1 mB1 cB1] : List Value).toArray x11 x73 25 _ m11 (by kernel_rfl) (by kernel_rfl) (by kernel_rfl) ?_
  replace m11 : Ob (w12.setRow g11 ([.slice pA1 mA1 cA1, .slice pB1 mB1 cB1] : List Value).toArray) (g11) 25 ([.slice pA1 mA1 cA1, .slice pB1 mB1 cB1]) := Ob.setRow m11 ([.slice pA1 mA1 cA1, .slice pB1 mB1 cB1])
  replace bl : Below w7.heap.size w7 (w12.setRow g11 ([.slice pA1 mA1 cA1, .slice pB1 mB1 cB1] : List Value).toArray) := bl.trans (below_setRow _ _ _ _ hw11)
  generalize w12.setRow g11 ([.slice pA1 mA1 cA1, .slice pB1 mB1 cB1] : List Value).toArray = w13b at bl m11 ⊢
  clear x73
  clear x11
  refine wl_one (.eq (.bool false)) rfl 12 rfl (by rw [sd.1]; decide) (st_assign (.tmp 74) rfl x74) ?_
  intro f14 w14 df2 sz2 old2 new2 hb
  replace x0 := tr old2 x0 rfl
  replace x2 := tr old2 x2 rfl
  replace x9 := tr old2 x9 rfl
  replace x74 := tr old2 x74 rfl
  replace x75 := tr old2 x75 rfl
  have x12 := Fk.e new2
  replace m11 := Ob.below m11 hb
  replace bl := bgo bl hb
  replace sd := sd2 sz2 df2 sd
  clear df2 sz2 old2 new2 hb
  clear x74
  refine wl_one (.eq (.int .i64 0)) rfl 13 rfl (by rw [sd.1]; decide) (st_assign (.tmp 75) rfl x75) ?_
  intro f15 w15 df2 sz2 old2 new2 hb
  replace x0 := tr old2 x0 rfl
  replace x2 := tr old2 x2 rfl
  replace x9 := tr old2 x9 rfl
  replace x75 := tr old2 x75 rfl
  replace x12 := tr old2 x12 rfl
  have x13 := Fk.e new2
  replace m11 := Ob.below m11 hb
  replace bl := bgo bl hb
  replace sd := sd2 sz2 df2 sd
  clear df2 sz2 old2 new2 hb
  refine wpList_nil ?_
  clear x75
  clear m11
  show Code.wp _ _ _ _ _
  refine wp_seq ?_
  refine wr_s [.eq (.slice aA ps.length dA), .eq (.int .i64 (m : Int)), .eq (.slice aA m dA), .eq (.slice aA ps.length dA), .eq (.slice A9 (S2).length C9), .eq (.agg ([.slice aA m dA, .slice aA ps.length dA, .slice A9 (S2).length C9] : List Value).toArray)] (by rw [sd.1]; kernel_rfl) ⟨fun hw ac u K => ?_, fun hw ac u K => ?_, fun hw ac u K => ?_, fun hw ac u K => ?_, fun hw ac u K => ?_, fun hw ac u K => ?_, trivial⟩ ?_
  · exact st_move (.tmp 0) rfl (K.t x0 rfl)
  · exact st_move (.tmp 2) rfl (K.t x2 rfl)
  · exact st_cutmv (.tmp 77) (.tmp 78) rfl (K.dep 0 77 rfl) m (K.dep 1 78 rfl) hm (ha.2 _ _ rfl)
  · exact st_move (.tmp 0) rfl (K.t x0 rfl)
  · exact st_move (.tmp 9) rfl (K.t x9 rfl)
  · exact st_build 47 _ rfl (by simp only [List.map_toArray, List.map_cons, List.map_nil, show ac.eval (.tmp 79) = _ from (K.dep 2 79 rfl), show ac.eval (.tmp 80) = _ from (K.dep 3 80 rfl), show ac.eval (.tmp 81) = _ from (K.dep 4 81 rfl)]; kernel_rfl)
  intro f16 w16 A hb
  replace x0 := A.t x0 rfl
  replace x2 := A.t x2 rfl
  replace x9 := A.t x9 rfl
  replace x12 := A.t x12 rfl
  replace x13 := A.t x13 rfl
  have x82 := A.e 5 82 rfl rfl
  replace bl := bgo bl hb
  replace sd := A.sd sd
  clear A hb
  clear x0
  clear x2
  clear x9
  refine wl_call 20 (.func 20) _ _ #[.agg ([.slice aA m dA, .slice aA ps.length dA, .slice A9 (S2).length C9] : List Value).toArray] rfl 83 rfl (by rw [sd.1]; decide) rfl rfl (one_arg x82) Tryd.enter20 (fun u W => (Fk.c3 false 0).f u W ∧ Below w16.heap.size w16 W) (fk_con_ok hs1 hs (by omega) (Fk.mono _ _ _ _ hcut bl) (Fk.mono _ _ _ _ ha bl) (Fk.mono _ _ _ _ h9 bl) (hK.below bl) hle hpo (f := false) (by symm; rw [decide_eq_false_iff_not]; exact fun h => h hbg)) ?_
  rintro f17 w17 df2 sz2 old2 ⟨⟨A2, B2, u12, u22, new2, hA2, hB2, hlA2, hlB2, hr2⟩, hb⟩
  obtain ⟨pA2, mA2, cA2, _, _, rfl, _⟩ := id hA2
  obtain ⟨pB2, mB2, cB2, _, _, rfl, _⟩ := id hB2
  replace bl0 := bl
  replace x12 := tr old2 x12 rfl
  replace x13 := tr old2 x13 rfl
  replace x82 := tr old2 x82 rfl
  have x83 : f17.eval (.tmp 83) = .tuple #[.agg ([.slice pA2 mA2 cA2, .slice pB2 mB2 cB2] : List Value).toArray, .bool false, .int .i64 0] := new2
  replace bl := bgo bl hb
  replace sd := sd2 sz2 df2 sd
  clear df2 sz2 old2 new2 hb
  replace blw := blw.trans (Below.mono bl blw.size)
  replace ha := Fk.mono _ _ _ _ ha bl
  replace ham := Fk.mono _ _ _ _ ham bl
  replace hslp := Fk.mono _ _ _ _ hslp bl
  replace hcut := Fk.mono _ _ _ _ hcut bl
  replace h7 := Fk.mono _ _ _ _ h7 bl
  replace h9 := Fk.mono _ _ _ _ h9 bl
  replace hA1 := Fk.mono _ _ _ _ hA1 bl
  replace hB1 := Fk.mono _ _ _ _ hB1 bl
  replace hK := hK.below bl
  replace bl := Below.refl w17.heap.size w17
  replace bl0 := bl
  clear x82
  refine wl_one (.eq (.tuple #[.agg ([.slice pA2 mA2 cA2, .slice pB2 mB2 cB2] : List Value).toArray, .bool false, .int .i64 0])) rfl 76 rfl (by rw [sd.1]; decide) (st_move (.tmp 83) rfl x83) ?_
  intro f18 w18 df2 sz2 old2 new2 hb
  replace x12 := tr old2 x12 rfl
  replace x13 := tr old2 x13 rfl
  replace x83 := tr old2 x83 rfl
  have x76 := Fk.e new2
  replace bl := bgo bl hb
  replace sd := sd2 sz2 df2 sd
  clear df2 sz2 old2 new2 hb
  clear x83
  refine wl_one (.eq (.agg ([.slice pA2 mA2 cA2, .slice pB2 mB2 cB2] : List Value).toArray)) rfl 84 rfl (by rw [sd.1]; decide) (st_tup (.tmp 76) rfl x76 (by rfl)) ?_
  intro f19 w19 df2 sz2 old2 new2 hb
  replace x12 := tr old2 x12 rfl
  replace x13 := tr old2 x13 rfl
  replace x76 := tr old2 x76 rfl
  have x84 := Fk.e new2
  replace bl := bgo bl hb
  replace sd := sd2 sz2 df2 sd
  clear df2 sz2 old2 new2 hb
  refine wl_one (.eq (.bool false)) rfl 85 rfl (by rw [sd.1]; decide) (st_tup (.tmp 76) rfl x76 (by rfl)) ?_
  intro f20 w20 df2 sz2 old2 new2 hb
  replace x12 := tr old2 x12 rfl
  replace x13 := tr old2 x13 rfl
  replace x76 := tr old2 x76 rfl
  replace x84 := tr old2 x84 rfl
  have x85 := Fk.e new2
  replace bl := bgo bl hb
  replace sd := sd2 sz2 df2 sd
  clear df2 sz2 old2 new2 hb
  refine wl_one (.eq (.int .i64 0)) rfl 86 rfl (by rw [sd.1]; decide) (st_tup (.tmp 76) rfl x76 (by rfl)) ?_
  intro f21 w21 df2 sz2 old2 new2 hb
  replace x12 := tr old2 x12 rfl
  replace x13 := tr old2 x13 rfl
  replace x76 := tr old2 x76 rfl
  replace x84 := tr old2 x84 rfl
  replace x85 := tr old2 x85 rfl
  have x86 := Fk.e new2
  replace bl := bgo bl hb
  replace sd := sd2 sz2 df2 sd
  clear df2 sz2 old2 new2 hb
  clear x76
  refine wl_one (.nw w21.heap.size 25 [.slice none 0 0, .slice none 0 0]) rfl 14 rfl (by rw [sd.1]; decide) (st_alloc 25 rfl _ _ (by kernel_rfl) (Nat.le_refl _)) ?_
  intro f22 w22 df2 sz2 old2 new2 hb
  replace bl0 := bl
  replace x12 := tr old2 x12 rfl
  replace x13 := tr old2 x13 rfl
  replace x84 := tr old2 x84 rfl
  replace x85 := tr old2 x85 rfl
  replace x86 := tr old2 x86 rfl
  have x14 : Fk.f (.nw w21.heap.size 25 [.slice none 0 0, .slice none 0 0]) (f22.eval (.tmp 14)) w22 := new2
  replace bl := bgo bl hb
  replace sd := sd2 sz2 df2 sd
  clear df2 sz2 old2 new2 hb
  obtain ⟨g14, hg14, e14, m14⟩ := x14
  have x14 := e14
  clear e14
  have hw14 : w17.heap.size ≤ g14 := Nat.le_trans bl0.size hg14
  refine wl_str rfl 25 (.tmp 14) (.tmp 84) rfl rfl (g14) ([.slice pA2 mA2 cA2, .slice pB2 mB2 cB2] : List Value).toArray x14 x84 25 _ m14 (by kernel_rfl) (by kernel_rfl) (by kernel_rfl) ?_
  replace m14 : Ob (w22.setRow g14 ([.slice pA2 mA2 cA2, .slice pB2 mB2 cB2] : List Value).toArray) (g14) 25 ([.slice pA2 mA2 cA2, .slice pB2 mB2 cB2]) := Ob.setRow m14 ([.slice pA2 mA2 cA2, .slice pB2 mB2 cB2])
  replace bl : Below w17.heap.size w17 (w22.setRow g14 ([.slice pA2 mA2 cA2, .slice pB2 mB2 cB2] : List Value).toArray) := bl.trans (below_setRow _ _ _ _ hw14)
  generalize w22.setRow g14 ([.slice pA2 mA2 cA2, .slice pB2 mB2 cB2] : List Value).toArray = w23b at bl m14 ⊢
  clear x84
  clear x14
  refine wl_one (.eq (.bool false)) rfl 15 rfl (by rw [sd.1]; decide) (st_assign (.tmp 85) rfl x85) ?_
  intro f24 w24 df2 sz2 old2 new2 hb
  replace x12 := tr old2 x12 rfl
  replace x13 := tr old2 x13 rfl
  replace x85 := tr old2 x85 rfl
  replace x86 := tr old2 x86 rfl
  have x15 := Fk.e new2
  replace m14 := Ob.below m14 hb
  replace bl := bgo bl hb
  replace sd := sd2 sz2 df2 sd
  clear df2 sz2 old2 new2 hb
  clear x85
  refine wl_one (.eq (.int .i64 0)) rfl 16 rfl (by rw [sd.1]; decide) (st_assign (.tmp 86) rfl x86) ?_
  intro f25 w25 df2 sz2 old2 new2 hb
  replace x12 := tr old2 x12 rfl
  replace x13 := tr old2 x13 rfl
  replace x86 := tr old2 x86 rfl
  replace x15 := tr old2 x15 rfl
  have x16 := Fk.e new2
  replace m14 := Ob.below m14 hb
  replace bl := bgo bl hb
  replace sd := sd2 sz2 df2 sd
  clear df2 sz2 old2 new2 hb
  refine wpList_nil ?_
  clear x86
  clear m14
  show Code.wp _ _ _ _ _
  refine wp_seq ?_
  refine wr_a [.eq (.int .i64 0), .eq (.bool true), .eq (.bool true), .eq (.int .i64 0), .eq (.bool true), .eq (.bool true), .eq (.bool true), .eq (.bool false), .eq (.bool true), .eq (.bool true), .eq (.bool true), .eq (.bool false), .eq (.bool true), .eq (.bool true), .eq (.bool true), .eq (.bool true), .eq (.bool true), .eq (.bool true)] (by rw [sd.1]; kernel_rfl) ⟨fun hw ac u K => ?_, fun hw ac u K => ?_, fun hw ac u K => ?_, fun hw ac u K => ?_, fun hw ac u K => ?_, fun hw ac u K => ?_, fun hw ac u K => ?_, fun hw ac u K => ?_, fun hw ac u K => ?_, fun hw ac u K => ?_, fun hw ac u K => ?_, fun hw ac u K => ?_, fun hw ac u K => ?_, fun hw ac u K => ?_, fun hw ac u K => ?_, fun hw ac u K => ?_, fun hw ac u K => ?_, fun hw ac u K => ?_, trivial⟩ ?_
  · exact st_move (.tmp 13) rfl (K.t x13 rfl)
  · exact st_eqi 40 (.tmp 87) (.const (.int .i64 0)) rfl .i64 (0) (0) (K.dep 0 87 rfl) rfl _ (by rfl)
  · exact st_move (.tmp 88) rfl (K.dep 1 88 rfl)
  · exact st_move (.tmp 16) rfl (K.t x16 rfl)
  · exact st_eqi 40 (.tmp 90) (.const (.int .i64 0)) rfl .i64 (0) (0) (K.dep 3 90 rfl) rfl _ (by rfl)
  · exact st_pick_t (.tmp 89) (.tmp 91) (.const (.bool false)) rfl (K.dep 2 89 rfl) (K.dep 4 91 rfl)
  · exact st_move (.tmp 92) rfl (K.dep 5 92 rfl)
  · exact st_move (.tmp 12) rfl (K.t x12 rfl)
  · exact st_not (.tmp 94) rfl false (K.dep 7 94 rfl)
  · exact st_pick_t (.tmp 93) (.tmp 95) (.const (.bool false)) rfl (K.dep 6 93 rfl) (K.dep 8 95 rfl)
  · exact st_move (.tmp 96) rfl (K.dep 9 96 rfl)
  · exact st_move (.tmp 15) rfl (K.t x15 rfl)
  · exact st_not (.tmp 98) rfl false (K.dep 11 98 rfl)
  · exact st_pick_t (.tmp 97) (.tmp 99) (.const (.bool false)) rfl (K.dep 10 97 rfl) (K.dep 12 99 rfl)
  · exact st_move (.tmp 100) rfl (K.dep 13 100 rfl)
  · exact st_call 8 (.func 8) _ _ _ rfl rfl rfl Tryd.enter8 (fk_of (awake_any _ (hK.below (bgo bl K.grow))))
  · exact st_pick_t (.tmp 101) (.tmp 102) (.const (.bool false)) rfl (K.dep 14 101 rfl) (K.dep 15 102 rfl)
  · exact st_assign (.tmp 103) rfl (K.dep 16 103 rfl)
  intro f26 w26 A hb
  replace x12 := A.t x12 rfl
  replace x13 := A.t x13 rfl
  replace x15 := A.t x15 rfl
  replace x16 := A.t x16 rfl
  have x6 := A.e 17 6 rfl rfl
  replace bl := bgo bl hb
  replace sd := A.sd sd
  clear A hb
  clear x12
  clear x13
  clear x15
  clear x16
  show Code.wp _ _ _ _ _
  refine wp_ret ?_
  repeat (first | with_reducible refine then_ret ?_ | with_reducible refine block_ret ?_)
  exact bodyPost_ret (v := .bool true) (ret_slot rfl f26 _ x6 _ _) sd.2 ⟨rfl, (bgo blw bl)⟩
theorem true_law {ps : List Pt} {aA : Option Addr} {dA : Nat} (hla : ps.length ≤ 140737488351232) (w : World) (hK : Tab w) (ha : (Fk.mc ps).f (.slice aA ps.length dA) w) {z q : Int} :
    Calls Tryd.prog 7 #[.slice aA ps.length dA, .int .i64 z, .int .i64 q] w fun e w' => e = .returned (.bool true) ∧ Below w.heap.size w w' := by
  by_cases h : ¬ smallP ps ∨ z < 0 ∨ (ps.length : Int) ≤ z ∨ q < 0 ∨ (ps.length : Int) < q
  · exact ltrue_pass hla w hK ha h
  · have hs : smallP ps := Classical.byContradiction fun h2 => h (.inl h2)
    have h1 : ¬ z < 0 := fun h2 => h (.inr (.inl h2))
    have h3 : ¬ (ps.length : Int) ≤ z := fun h2 => h (.inr (.inr (.inl h2)))
    have h4 : ¬ q < 0 := fun h2 => h (.inr (.inr (.inr (.inl h2))))
    have h5 : ¬ (ps.length : Int) < q := fun h2 => h (.inr (.inr (.inr (.inr h2))))
    obtain ⟨i, rfl⟩ : ∃ j : Nat, z = (j : Int) := ⟨z.toNat, by omega⟩
    obtain ⟨m, rfl⟩ : ∃ j : Nat, q = (j : Int) := ⟨q.toNat, by omega⟩
    exact ltrue_main hla w hK ha hs (List.getElem?_eq_getElem (by omega)) (by omega)
end Go.Proofs.YtfmeeimhfdnjpaaDoor
namespace Go.Proofs.YtfmeeimhfdnjpaaDoor
set_option maxRecDepth 100000
set_option maxRecDepth 100000
open Go.ChangeShapes Go.WideShapes Go.ChangeAt Go.RowKit
variable {H : Type} {enc : TypeId × Value → H} {W : World}
theorem open_int {r : Reach} {b0 : Nat} {v : Value} {d : DataW H} {p : List MemPlace} (hv : Value.okWide Tryd.prog W r b0 3 v) (h : DataW.Trod enc Tryd.prog W 0 (fun _ => true) true 3 v d p) : ∃ z : Int, v = .int .i64 z ∧ -9223372036854775808 ≤ z ∧ z ≤ 9223372036854775807 := by
  obtain ⟨z, rfl⟩ := okWide_int Tryd.under3 hv
  obtain ⟨m, hm⟩ := h
  obtain ⟨z', e, h1, h2⟩ := int_part hm
  have : z = z' := by simpa [Value.cells] using e
  subst this
  exact ⟨z, rfl, h1, h2⟩
end Go.Proofs.YtfmeeimhfdnjpaaDoor
namespace Go.Proofs.YtfmeeimhfdnjpaaDoor
set_option maxRecDepth 100000
open Go.ChangeShapes Go.WideShapes Go.ChangeAt Go.RowKit
section
variable {H : Type} {enc : TypeId × Value → H} {W : World}
end
end Go.Proofs.YtfmeeimhfdnjpaaDoor
namespace Go.Proofs.YtfmeeimhfdnjpaaDoor
set_option maxRecDepth 100000
open Go.ChangeShapes Go.WideShapes Go.ChangeAt Go.RowKit
theorem bytesB : Tryd.prog.bytesOf 22 = 24 := by kernel_rfl
section
variable {H : Type} {enc : TypeId × Value → H} {W : World}
theorem mc_part {n : Nat} {cs : List Value} {y : DataW H × List MemPlace} (h : DataW.trod enc Tryd.prog W 0 (fun _ => true) true n 28 cs = some y) (hw : (y.1.weights Tryd.prog 28).all (· ≤ reachBytes) = true) : ∃ A C ps, cs = [.slice A ps.length C] ∧ (Fk.mg ps).f (.slice A ps.length C) W ∧ ps.length ≤ C ∧ ps.length ≤ 140737488351232 := by
  rcases Deep.open_slice1 Tryd.under28 cells22 h with ⟨hcs, _⟩ | ⟨a, len, cap, m, n', V', D, Pl, hcs, _, hl, hm, hmm, hx, hel⟩
  · exact ⟨none, 0, [], hcs, ⟨none, 0, 0, 0, rfl, fun h => by simp at h, fun i p hi => by simp at hi, fun i p hi => by simp at hi⟩, Nat.le_refl _, by simp⟩
  · have hmc : m = cap := by simpa using hmm
    subst hmc
    have hE : ∀ k, k < len → ∃ p : Pt, W.cell? ⟨a.block, a.off + k, none⟩ = some (.slice p.sp p.m p.c) ∧ p.ok W ∧ p.bs.length ≤ 140737488351232 := by
      intro k hk
      have h0 := (hel 0 (by omega)).1
      have e0 : a.add 0 = a := by simp [Addr.add]
      rw [e0] at h0
      obtain ⟨hc, ht⟩ := hel k (by omega)
      rw [add_plain h0 k] at hc
      have hwk : ∀ n ∈ (D k).weights Tryd.prog 22, n ≤ reachBytes := by
        intro n hn
        rw [hx] at hw
        simp only [DataW.weights, Tryd.under28, List.all_eq_true, decide_eq_true_eq] at hw
        refine hw n (List.mem_cons_of_mem _ (List.mem_append_left _ (weightsAll_mem ?_ n hn)))
        exact List.mem_map.2 ⟨k, List.mem_range.2 hk, rfl⟩
      obtain ⟨sp, l, c, hv, hlc⟩ : ∃ sp l c, V' k = .slice sp l c ∧ l ≤ reachBytes := by
        rcases Deep.open_slice Tryd.under22 ht with ⟨hcs, _⟩ | ⟨a', len', cap', _, _, _, _, hcs, _, _, _, _, hx', _⟩
        · exact ⟨none, 0, 0, by simpa using hcs, Nat.zero_le _⟩
        · refine ⟨some a', len', cap', by simpa using hcs, ?_⟩
          have e := congrArg Prod.fst hx'
          simp only at e
          rw [e] at hwk
          have := hwk _ (by simp only [DataW.weights, Tryd.under22]; exact List.mem_cons_self ..)
          rw [bytes5, Nat.mul_one, List.length_map, List.length_range] at this
          omega
      rw [hv] at hc ht
      obtain ⟨bs, b, o, hsl, hml⟩ := sl_of (enc := enc) (W := W) (a := sp) (len := l) (cap := c) (d := D k) (p := Pl k) ⟨n', by simpa [Value.cells] using ht⟩
      refine ⟨⟨sp, l, c, bs, b, o⟩, hc, hsl, ?_⟩
      have := hsl.len
      unfold reachBytes at hlc
      show bs.length ≤ _
      omega
    obtain ⟨ps, hps, hp⟩ := list_of len hE
    subst hps
    refine ⟨some a, _, ps, hcs, ⟨some a, _, a.block, a.off, rfl, fun hp0 => ?_, fun i p hi => (hp i p hi).1, fun i p hi => (hp i p hi).2.1⟩, hl, ?_⟩
    · have h0 := (hel 0 (by omega)).1
      have e0 : a.add 0 = a := by simp [Addr.add]
      rw [e0] at h0
      have := add_plain h0 0
      rw [e0, Nat.add_zero] at this
      rw [← this]
    · rw [hx] at hw
      simp only [DataW.weights, Tryd.under28, List.all_cons, Bool.and_eq_true, decide_eq_true_eq] at hw
      have hw1 := hw.1
      rw [bytesB, List.length_map, List.length_range] at hw1
      unfold reachBytes at hw1
      omega
theorem mc_of {A : Option Addr} {C : Nat} {ps : List Pt} (h : (Fk.mg ps).f (.slice A ps.length C) W) (hc : ps.length ≤ C) : (Fk.mc ps).f (.slice A ps.length C) W := ⟨h, fun A' C' e => by injection e with _ _ e3; rw [← e3]; exact hc⟩
theorem open_mc {r : Reach} {b0 : Nat} {v : Value} {d : DataW H} {p : List MemPlace} (hv : Value.okWide Tryd.prog W r b0 28 v) (h : DataW.Trod enc Tryd.prog W 0 (fun _ => true) true 28 v d p) (hw : (d.weights Tryd.prog 28).all (· ≤ reachBytes) = true) : ∃ A C ps, v = .slice A ps.length C ∧ (Fk.mc ps).f (.slice A ps.length C) W ∧ ps.length ≤ 140737488351232 := by
  obtain ⟨A, N, C, rfl⟩ := okWide_slice Tryd.under28 hv
  obtain ⟨m, hm⟩ := h
  obtain ⟨A', C', ps, e, h1, hc, h2⟩ := mc_part hm hw
  have e2 : Value.slice A N C = .slice A' ps.length C' := by simpa [Value.cells] using e
  exact ⟨A', C', ps, e2, mc_of h1 hc, h2⟩
end
end Go.Proofs.YtfmeeimhfdnjpaaDoor
