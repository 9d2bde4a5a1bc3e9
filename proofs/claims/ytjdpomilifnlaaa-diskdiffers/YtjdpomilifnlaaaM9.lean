/- DiskDiffers. -/
import Derived.Test.YtjdpomilifnlaaaM8
namespace Go.Proofs.Ytjdpomilifnlaaa
set_option maxRecDepth 100000
open Go.RowKit
theorem wp_join {P : Program} {c : Code} {F K : Act → World → Prop} {Q : Exit → Act → World → Prop} {a : Act} {w : World} (h : Code.wp P c (Exit.then F Q) a w) (hk : ∀ f v, F f v → K f v) : Code.wp P c (Exit.then K Q) a w :=
  Code.wp_mono (fun e f v h => by cases e <;> first | exact hk f v h | exact h) h
theorem is_keep {l : List Int} {A : Option Addr} {C : Nat} {w w' : World} {S : Nat → Prop} (h : (Fk.is l).f (.slice A l.length C) w) (O : Fr S w w') (hA : ∀ a, A = some a → ¬ S a.block) : (Fk.is l).f (.slice A l.length C) w' := by
  obtain ⟨A', C', lb, lo, e, h1, h2, h3⟩ := h
  injection e with e1 e2 e3
  subst e1 e3
  refine ⟨A, C, lb, lo, rfl, h1, h2, fun j u hj => ?_⟩
  have hl : 0 < l.length := by
    have := (List.getElem?_eq_some_iff.1 hj).1
    rw [zv_len] at this
    omega
  have hc := h3 j u hj
  have hk := O.block lb (block_lt_of_cell hc) (hA _ (h1 hl))
  simp only [World.cell?, hk] at hc ⊢
  exact hc
/-- The power is on, and stays so. -/
def On (s : Dst) : Prop := s.armed = false ∧ s.down = false
theorem on_cmd {s : Dst} (h : On s) : On (cmd s).2 := by
  unfold cmd
  rw [if_neg (by rw [h.1]; simp)]
  exact h
theorem on_wrt {s : Dst} (h : On s) (i : Int) (b : List (BitVec 8)) : On (wrt s i b).2 := by
  unfold wrt
  split
  · exact h
  · split
    · exact h
    · split
      · exact h
      · exact on_cmd (s := { s with cch := s.cch.set i.toNat b }) h
theorem on_flu {s : Dst} (h : On s) : On (flu s).2 := by
  unfold flu
  split
  · exact h
  · split
    · exact on_cmd h
    · exact on_cmd h
theorem on_crs (s : Dst) (l : List Int) : On (crs s l) := ⟨rfl, rfl⟩
theorem on_tmr {s : Dst} (h : On s) (i : Int) (b : List (BitVec 8)) : On (tmr s i b).2 := by
  unfold tmr
  split
  · exact h
  · split
    · exact h
    · exact h
theorem on_rd {s : Dst} (h : On s) {k : Nat} (hk : k < s.has.length) : rd s (k : Int) = (0, nowd s k) := by
  unfold rd
  rw [if_neg (by rw [h.2]; simp), if_neg (by omega), Int.toNat_natCast]
theorem st_idx2p {Q : Exit → Act → World → Prop} {o : Oper} {a : Act} {w : World} (x y : Operand) {T : TypeId} (ho : o.op = .indexAddr T x y) {p r : Addr} (hx : a.eval x = .pointer (some p)) (hr : (Instr.indexAt T (.pointer (some p)) (a.eval y)).run Try.prog w = .ok (.pointer (some r)) w) : o.wp Try.prog a w (Ends a o.dst w (Fk.eq (.pointer (some r))).f) Q := by
  refine st_pure (v := .pointer (some r)) ?_ rfl
  unfold execOp
  rw [ho]
  simp [hx, hr]
theorem differs_law {l l2 : List Opn} {n z : Int} {v v2 : Value} (hln : l.length ≤ maxLen) (hln2 : l2.length ≤ maxLen) (w : World) (hv : (Fk.ol l).f v w) (hv2 : (Fk.ol l2).f v2 w) :
    Calls Try.prog 7 #[v, v2, .agg ([.int .i64 n, .int .i64 z] : List Value).toArray] w fun e w' => e = .returned (.bool true) ∧ Below w.heap.size w w' := by
  go_enter Try.func7, Try.ntmps7
  refine code_both (fun f w1 => f.tmps.size = 195 ∧ f.defers = [] ∧ f.eval (.tmp 0) = v ∧ f.eval (.tmp 1) = v2 ∧ f.eval (.tmp 2) = .agg ([.int .i64 n, .int .i64 z] : List Value).toArray ∧ Below w.heap.size w (w1)) ⟨rfl, rfl, rfl, rfl, rfl, Below.refl _ _⟩ ?_
  rintro f0 w0 ⟨sz, df, x0, x1, x2, bl⟩
  have bl0 := bl
  refine wp_seq ?_
  refine wr_a [.nw w0.heap.size 52 ([.int .i64 n, .int .i64 z] : List Value), .eq (.bool false)] (by rw [sz]; kernel_rfl) ⟨fun hw ac u K => ?_, fun hw ac u K => ?_, trivial⟩ ?_
  · exact st_box 52 (.tmp 2) rfl _ _ (by rw [show _ = _ from (K.t x2 rfl)]; kernel_rfl) K.grow.size
  · exact st_assign (.const (.bool false)) rfl rfl
  intro f1 w1 A hb
  replace bl0 := bl
  replace x0 := A.t x0 rfl
  replace x1 := A.t x1 rfl
  replace x2 := A.t x2 rfl
  have x5 : Fk.f (.nw w0.heap.size 52 ([.int .i64 n, .int .i64 z] : List Value)) (f1.eval (.tmp 5)) w1 := A.has 0 5 rfl
  replace bl := bgo bl hb
  replace sz := A.size.trans sz
  replace df := A.defs.trans df
  clear A hb
  clear x2
  obtain ⟨g5, hg5, e5, m5⟩ := x5
  have x5 := e5
  clear e5
  have hw5 : w.heap.size ≤ g5 := Nat.le_trans bl0.size hg5
  show Code.wp _ _ _ _ _
  refine wp_seq ?_
  refine wr_d [.eq (.pointer (some ⟨g5, 0, none⟩)), .eq (.int .i64 n), .eq (.pointer (some ⟨g5, 1, none⟩)), .eq (.int .i64 z), .eq (.int .i64 n), .eq (.int .i64 z)] Try.mixed (by rw [sz]; kernel_rfl) ⟨fun hw ac u K => ?_, fun hw ac u K => ?_, fun hw ac u K => ?_, fun hw ac u K => ?_, fun hw ac u K => ?_, fun hw ac u K => ?_, trivial⟩ ?_
  · exact st_idx2p (.tmp 5) (.const (.int .i64 0)) rfl (K.t x5 rfl) (by kernel_rfl)
  · exact st_loadc 3 (.tmp 26) rfl (by kernel_rfl) (K.dep 0 26 rfl) (Ob.cell (Ob.below m5 K.grow) 0 rfl)
  · exact st_idx2p (.tmp 5) (.const (.int .i64 1)) rfl (K.t x5 rfl) (by kernel_rfl)
  · exact st_loadc 3 (.tmp 28) rfl (by kernel_rfl) (K.dep 2 28 rfl) (Ob.cell (Ob.below m5 K.grow) 1 rfl)
  · exact st_assign (.tmp 27) rfl (K.dep 1 27 rfl)
  · exact st_assign (.tmp 29) rfl (K.dep 3 29 rfl)
  intro f2 w2 A hb
  replace x0 := A.t x0 rfl
  replace x1 := A.t x1 rfl
  replace x5 := A.t x5 rfl
  have x7 := A.e 4 7 rfl rfl
  have x8 := A.e 5 8 rfl rfl
  replace m5 := Ob.below m5 hb
  replace bl := bgo bl hb
  replace sz := A.size.trans sz
  replace df := A.defs.trans df
  clear A hb
  clear x5
  clear m5
  show Code.wp _ _ _ _ _
  refine wp_seq ?_
  by_cases hin : 1 ≤ n ∧ n ≤ 65536 ∧ 16 ≤ z ∧ z ≤ 4096
  rotate_left
  · skip
    refine wr_s [] (by rw [sz]; kernel_rfl) trivial ?_
    intro f3 w3 A hb
    replace x0 := A.t x0 rfl
    replace x1 := A.t x1 rfl
    replace x7 := A.t x7 rfl
    replace x8 := A.t x8 rfl
    replace bl := bgo bl hb
    replace sz := A.size.trans sz
    replace df := A.defs.trans df
    clear A hb
    refine wl_call 8 (.func 8) _ _ #[.int .i64 ((8 : Nat) : Int), .int .i64 ((16 : Nat) : Int)] rfl 30 rfl (by rw [sz]; decide) rfl rfl rfl Try.enter8 (fun u W' => ∃ (gd : Nat) (M D : Nat → Prop), u = .pointer (some ⟨gd, 0, none⟩) ∧ HD W' gd M D (newd (8) (16)) ∧ (∀ j, D j → w3.heap.size ≤ j) ∧ Below w3.heap.size w3 W') ((fk_dnew (N := 8) (Z := 16) (by decide) (by decide) (by decide) (by decide) w3).mono (by rintro e w' ⟨gd, M, D, rfl, q⟩; exact ⟨_, rfl, gd, M, D, rfl, q⟩)) ?_
    rintro f4 w4 df2 sz2 old2 ⟨gd, M, DD, x30, hd, hD0, hb⟩
    have hDD : ∀ j, DD j → w.heap.size ≤ j := fun j q => Nat.le_trans bl.size (hD0 j q)
    clear hD0
    replace bl0 := bl
    replace x0 := tr old2 x0 rfl
    replace x1 := tr old2 x1 rfl
    replace x7 := tr old2 x7 rfl
    replace x8 := tr old2 x8 rfl
    replace bl := bgo bl hb
    replace sz := sz2.trans sz
    replace df := df2.trans df
    clear df2 sz2 old2 hb
    refine wl_one (.eq (.int .i64 n)) rfl 31 rfl (by rw [sz]; decide) (st_move (.tmp 7) rfl x7) ?_
    intro f5 w5 df2 sz2 old2 new2 hb
    replace x0 := tr old2 x0 rfl
    replace x1 := tr old2 x1 rfl
    replace x7 := tr old2 x7 rfl
    replace x8 := tr old2 x8 rfl
    replace x30 := tr old2 x30 rfl
    have x31 := Fk.e new2
    replace hd := HD.below hd hb
    replace bl := bgo bl hb
    replace sz := sz2.trans sz
    replace df := df2.trans df
    clear df2 sz2 old2 new2 hb
    refine wl_one (.eq (.int .i64 z)) rfl 32 rfl (by rw [sz]; decide) (st_move (.tmp 8) rfl x8) ?_
    intro f6 w6 df2 sz2 old2 new2 hb
    replace x0 := tr old2 x0 rfl
    replace x1 := tr old2 x1 rfl
    replace x7 := tr old2 x7 rfl
    replace x8 := tr old2 x8 rfl
    replace x30 := tr old2 x30 rfl
    replace x31 := tr old2 x31 rfl
    have x32 := Fk.e new2
    replace hd := HD.below hd hb
    replace bl := bgo bl hb
    replace sz := sz2.trans sz
    replace df := df2.trans df
    clear df2 sz2 old2 new2 hb
    refine wl_one (.eq (.pointer none)) rfl 33 rfl (by rw [sz]; decide) (st_call 8 (.func 8) _ _ #[.int .i64 n, .int .i64 z] rfl rfl (arg2 x31 x32) Try.enter8 (fk_dnew_no (by omega) _)) ?_
    intro f7 w7 df2 sz2 old2 new2 hb
    replace x0 := tr old2 x0 rfl
    replace x1 := tr old2 x1 rfl
    replace x7 := tr old2 x7 rfl
    replace x8 := tr old2 x8 rfl
    replace x30 := tr old2 x30 rfl
    replace x31 := tr old2 x31 rfl
    replace x32 := tr old2 x32 rfl
    have x33 := Fk.e new2
    replace hd := HD.below hd hb
    replace bl := bgo bl hb
    replace sz := sz2.trans sz
    replace df := df2.trans df
    clear df2 sz2 old2 new2 hb
    clear x31
    clear x32
    refine wl_one (.eq (.pointer (some ⟨gd, 0, none⟩))) rfl 9 rfl (by rw [sz]; decide) (st_assign (.tmp 30) rfl x30) ?_
    intro f8 w8 df2 sz2 old2 new2 hb
    replace x0 := tr old2 x0 rfl
    replace x1 := tr old2 x1 rfl
    replace x7 := tr old2 x7 rfl
    replace x8 := tr old2 x8 rfl
    replace x30 := tr old2 x30 rfl
    replace x33 := tr old2 x33 rfl
    have x9 := Fk.e new2
    replace hd := HD.below hd hb
    replace bl := bgo bl hb
    replace sz := sz2.trans sz
    replace df := df2.trans df
    clear df2 sz2 old2 new2 hb
    clear x30
    refine wl_one (.eq (.pointer none)) rfl 10 rfl (by rw [sz]; decide) (st_assign (.tmp 33) rfl x33) ?_
    intro f9 w9 df2 sz2 old2 new2 hb
    replace x0 := tr old2 x0 rfl
    replace x1 := tr old2 x1 rfl
    replace x7 := tr old2 x7 rfl
    replace x8 := tr old2 x8 rfl
    replace x33 := tr old2 x33 rfl
    replace x9 := tr old2 x9 rfl
    have x10 := Fk.e new2
    replace hd := HD.below hd hb
    replace bl := bgo bl hb
    replace sz := sz2.trans sz
    replace df := df2.trans df
    clear df2 sz2 old2 new2 hb
    refine wpList_nil ?_
    clear x33
    show Code.wp _ _ _ _ _
    refine wp_seq ?_
    refine wp_seq ?_
    have h9 : ¬ smallO l 30 ∨ (smallO l 30 ∧ ¬ smallO l2 30) ∨ (smallO l 30 ∧ smallO l2 30 ∧ n > 100) ∨ (smallO l 30 ∧ smallO l2 30 ∧ ¬ n > 100) := by
      by_cases h1 : smallO l 30
      · by_cases h2 : smallO l2 30
        · by_cases h3 : n > 100
          · exact .inr (.inr (.inl ⟨h1, h2, h3⟩))
          · exact .inr (.inr (.inr ⟨h1, h2, h3⟩))
        · exact .inr (.inl ⟨h1, h2⟩)
      · exact .inl h1
    rcases h9 with h1s | ⟨h1s, h2s⟩ | ⟨h1s, h2s, h3s⟩ | ⟨h1s, h2s, h3s⟩
    · skip
      refine wr_a [.eq (.pointer (some ⟨gd, 0, none⟩)), .eq (.bool false), .eq (.bool false), .eq (v), .eq (.bool false), .eq (.bool true), .eq (.bool true), .eq (.bool true), .any, .any, .any, .eq (.bool true), .eq (.bool true), .any, .any, .eq (.bool true), .eq (.bool true), .any, .any, .eq (.bool true)] (by rw [sz]; kernel_rfl) ⟨fun hw ac u K => ?_, fun hw ac u K => ?_, fun hw ac u K => ?_, fun hw ac u K => ?_, fun hw ac u K => ?_, fun hw ac u K => ?_, fun hw ac u K => ?_, fun hw ac u K => ?_, fun hw ac u K => ?_, fun hw ac u K => ?_, fun hw ac u K => ?_, fun hw ac u K => ?_, fun hw ac u K => ?_, fun hw ac u K => ?_, fun hw ac u K => ?_, fun hw ac u K => ?_, fun hw ac u K => ?_, fun hw ac u K => ?_, fun hw ac u K => ?_, fun hw ac u K => ?_, trivial⟩ ?_
      · exact st_move (.tmp 9) rfl (K.t x9 rfl)
      · exact st_bin .eql 23 23 (.tmp 34) _ rfl (K.dep 0 34 rfl) rfl (by kernel_rfl)
      · exact st_move (.tmp 35) rfl (K.dep 1 35 rfl)
      · exact st_move (.tmp 0) rfl (K.t x0 rfl)
      · exact st_call 10 (.func 10) _ _ _ rfl rfl (arg2 (K.dep 3 37 rfl) rfl) Try.enter10 (fk_smallo hln (Fk.mono _ _ _ _ hv (bgo bl K.grow)) (by symm; rw [decide_eq_false_iff_not]; exact h1s))
      · exact st_not (.tmp 38) rfl false (K.dep 4 38 rfl)
      · exact st_pick_f' (.tmp 36) (.const (.bool true)) (.tmp 39) rfl (K.dep 2 36 rfl) (K.dep 5 39 rfl)
      · exact st_move (.tmp 40) rfl (K.dep 6 40 rfl)
      · exact (Bool.false_ne_true hw).elim
      · exact (Bool.false_ne_true hw).elim
      · exact (Bool.false_ne_true hw).elim
      · exact st_pick_t (.tmp 41) (.const (.bool true)) (.tmp 44) rfl (K.dep 7 41 rfl) rfl
      · exact st_move (.tmp 45) rfl (K.dep 11 45 rfl)
      · exact (Bool.false_ne_true hw).elim
      · exact (Bool.false_ne_true hw).elim
      · exact st_pick_t (.tmp 46) (.const (.bool true)) (.tmp 48) rfl (K.dep 12 46 rfl) rfl
      · exact st_move (.tmp 49) rfl (K.dep 15 49 rfl)
      · exact (Bool.false_ne_true hw).elim
      · exact (Bool.false_ne_true hw).elim
      · exact st_pick_t (.tmp 50) (.const (.bool true)) (.tmp 52) rfl (K.dep 16 50 rfl) rfl
      intro f10 w10 A hb
      replace x0 := A.t x0 rfl
      replace x1 := A.t x1 rfl
      replace x7 := A.t x7 rfl
      replace x8 := A.t x8 rfl
      replace x9 := A.t x9 rfl
      replace x10 := A.t x10 rfl
      have x53 := A.e 19 53 rfl rfl
      replace hd := HD.below hd hb
      replace bl := bgo bl hb
      replace sz := A.size.trans sz
      replace df := A.defs.trans df
      clear A hb
      show Code.wp _ _ _ _ _
      refine wp_cond_true x53 ?_
      refine wp_seq ?_
      refine wr_a [.eq (.pointer (some ⟨gd, 0, none⟩)), .eq (.bool true), .eq (.bool true), .eq (.bool true), .eq (.bool true), .eq (.bool true)] (by rw [sz]; kernel_rfl) ⟨fun hw ac u K => ?_, fun hw ac u K => ?_, fun hw ac u K => ?_, fun hw ac u K => ?_, fun hw ac u K => ?_, fun hw ac u K => ?_, trivial⟩ ?_
      · exact st_move (.tmp 9) rfl (K.t x9 rfl)
      · exact st_bin .neq 23 23 (.tmp 54) _ rfl (K.dep 0 54 rfl) rfl (by kernel_rfl)
      · exact st_move (.tmp 55) rfl (K.dep 1 55 rfl)
      · exact st_call 9 (.func 9) _ _ _ rfl rfl rfl Try.enter9 (awake_any _)
      · exact st_pick_t (.tmp 56) (.tmp 57) (.const (.bool false)) rfl (K.dep 2 56 rfl) (K.dep 3 57 rfl)
      · exact st_assign (.tmp 58) rfl (K.dep 4 58 rfl)
      intro f11 w11 A hb
      replace x0 := A.t x0 rfl
      replace x1 := A.t x1 rfl
      replace x7 := A.t x7 rfl
      replace x8 := A.t x8 rfl
      replace x9 := A.t x9 rfl
      replace x10 := A.t x10 rfl
      replace x53 := A.t x53 rfl
      have x6 := A.e 5 6 rfl rfl
      replace hd := HD.below hd hb
      replace bl := bgo bl hb
      replace sz := A.size.trans sz
      replace df := A.defs.trans df
      clear A hb
      clear x0
      clear x1
      clear x7
      clear x8
      clear x9
      clear x10
      clear x53
      show Code.wp _ _ _ _ _
      refine wp_ret ?_
      repeat (first | with_reducible refine then_ret ?_ | with_reducible refine block_ret ?_)
      exact bodyPost_ret (v := .bool true) (ret_slot rfl f11 _ x6 _ _) df ⟨rfl, bl⟩
    · skip
      refine wr_a [.eq (.pointer (some ⟨gd, 0, none⟩)), .eq (.bool false), .eq (.bool false), .eq (v), .eq (.bool true), .eq (.bool false), .eq (.bool false), .eq (.bool false), .eq (v2), .eq (.bool false), .eq (.bool true), .eq (.bool true), .eq (.bool true), .any, .any, .eq (.bool true), .eq (.bool true), .any, .any, .eq (.bool true)] (by rw [sz]; kernel_rfl) ⟨fun hw ac u K => ?_, fun hw ac u K => ?_, fun hw ac u K => ?_, fun hw ac u K => ?_, fun hw ac u K => ?_, fun hw ac u K => ?_, fun hw ac u K => ?_, fun hw ac u K => ?_, fun hw ac u K => ?_, fun hw ac u K => ?_, fun hw ac u K => ?_, fun hw ac u K => ?_, fun hw ac u K => ?_, fun hw ac u K => ?_, fun hw ac u K => ?_, fun hw ac u K => ?_, fun hw ac u K => ?_, fun hw ac u K => ?_, fun hw ac u K => ?_, fun hw ac u K => ?_, trivial⟩ ?_
      · exact st_move (.tmp 9) rfl (K.t x9 rfl)
      · exact st_bin .eql 23 23 (.tmp 34) _ rfl (K.dep 0 34 rfl) rfl (by kernel_rfl)
      · exact st_move (.tmp 35) rfl (K.dep 1 35 rfl)
      · exact st_move (.tmp 0) rfl (K.t x0 rfl)
      · exact st_call 10 (.func 10) _ _ _ rfl rfl (arg2 (K.dep 3 37 rfl) rfl) Try.enter10 (fk_smallo hln (Fk.mono _ _ _ _ hv (bgo bl K.grow)) (by symm; rw [decide_eq_true_iff]; exact h1s))
      · exact st_not (.tmp 38) rfl true (K.dep 4 38 rfl)
      · exact st_pick_f' (.tmp 36) (.const (.bool true)) (.tmp 39) rfl (K.dep 2 36 rfl) (K.dep 5 39 rfl)
      · exact st_move (.tmp 40) rfl (K.dep 6 40 rfl)
      · exact st_move (.tmp 1) rfl (K.t x1 rfl)
      · exact st_call 10 (.func 10) _ _ _ rfl rfl (arg2 (K.dep 8 42 rfl) rfl) Try.enter10 (fk_smallo hln2 (Fk.mono _ _ _ _ hv2 (bgo bl K.grow)) (by symm; rw [decide_eq_false_iff_not]; exact h2s))
      · exact st_not (.tmp 43) rfl false (K.dep 9 43 rfl)
      · exact st_pick_f' (.tmp 41) (.const (.bool true)) (.tmp 44) rfl (K.dep 7 41 rfl) (K.dep 10 44 rfl)
      · exact st_move (.tmp 45) rfl (K.dep 11 45 rfl)
      · exact (Bool.false_ne_true hw).elim
      · exact (Bool.false_ne_true hw).elim
      · exact st_pick_t (.tmp 46) (.const (.bool true)) (.tmp 48) rfl (K.dep 12 46 rfl) rfl
      · exact st_move (.tmp 49) rfl (K.dep 15 49 rfl)
      · exact (Bool.false_ne_true hw).elim
      · exact (Bool.false_ne_true hw).elim
      · exact st_pick_t (.tmp 50) (.const (.bool true)) (.tmp 52) rfl (K.dep 16 50 rfl) rfl
      intro f10 w10 A hb
      replace x0 := A.t x0 rfl
      replace x1 := A.t x1 rfl
      replace x7 := A.t x7 rfl
      replace x8 := A.t x8 rfl
      replace x9 := A.t x9 rfl
      replace x10 := A.t x10 rfl
      have x53 := A.e 19 53 rfl rfl
      replace hd := HD.below hd hb
      replace bl := bgo bl hb
      replace sz := A.size.trans sz
      replace df := A.defs.trans df
      clear A hb
      show Code.wp _ _ _ _ _
      refine wp_cond_true x53 ?_
      refine wp_seq ?_
      refine wr_a [.eq (.pointer (some ⟨gd, 0, none⟩)), .eq (.bool true), .eq (.bool true), .eq (.bool true), .eq (.bool true), .eq (.bool true)] (by rw [sz]; kernel_rfl) ⟨fun hw ac u K => ?_, fun hw ac u K => ?_, fun hw ac u K => ?_, fun hw ac u K => ?_, fun hw ac u K => ?_, fun hw ac u K => ?_, trivial⟩ ?_
      · exact st_move (.tmp 9) rfl (K.t x9 rfl)
      · exact st_bin .neq 23 23 (.tmp 54) _ rfl (K.dep 0 54 rfl) rfl (by kernel_rfl)
      · exact st_move (.tmp 55) rfl (K.dep 1 55 rfl)
      · exact st_call 9 (.func 9) _ _ _ rfl rfl rfl Try.enter9 (awake_any _)
      · exact st_pick_t (.tmp 56) (.tmp 57) (.const (.bool false)) rfl (K.dep 2 56 rfl) (K.dep 3 57 rfl)
      · exact st_assign (.tmp 58) rfl (K.dep 4 58 rfl)
      intro f11 w11 A hb
      replace x0 := A.t x0 rfl
      replace x1 := A.t x1 rfl
      replace x7 := A.t x7 rfl
      replace x8 := A.t x8 rfl
      replace x9 := A.t x9 rfl
      replace x10 := A.t x10 rfl
      replace x53 := A.t x53 rfl
      have x6 := A.e 5 6 rfl rfl
      replace hd := HD.below hd hb
      replace bl := bgo bl hb
      replace sz := A.size.trans sz
      replace df := A.defs.trans df
      clear A hb
      clear x0
      clear x1
      clear x7
      clear x8
      clear x9
      clear x10
      clear x53
      show Code.wp _ _ _ _ _
      refine wp_ret ?_
      repeat (first | with_reducible refine then_ret ?_ | with_reducible refine block_ret ?_)
      exact bodyPost_ret (v := .bool true) (ret_slot rfl f11 _ x6 _ _) df ⟨rfl, bl⟩
    · skip
      refine wr_a [.eq (.pointer (some ⟨gd, 0, none⟩)), .eq (.bool false), .eq (.bool false), .eq (v), .eq (.bool true), .eq (.bool false), .eq (.bool false), .eq (.bool false), .eq (v2), .eq (.bool true), .eq (.bool false), .eq (.bool false), .eq (.bool false), .eq (.int .i64 n), .eq (.bool true), .eq (.bool true), .eq (.bool true), .any, .any, .eq (.bool true)] (by rw [sz]; kernel_rfl) ⟨fun hw ac u K => ?_, fun hw ac u K => ?_, fun hw ac u K => ?_, fun hw ac u K => ?_, fun hw ac u K => ?_, fun hw ac u K => ?_, fun hw ac u K => ?_, fun hw ac u K => ?_, fun hw ac u K => ?_, fun hw ac u K => ?_, fun hw ac u K => ?_, fun hw ac u K => ?_, fun hw ac u K => ?_, fun hw ac u K => ?_, fun hw ac u K => ?_, fun hw ac u K => ?_, fun hw ac u K => ?_, fun hw ac u K => ?_, fun hw ac u K => ?_, fun hw ac u K => ?_, trivial⟩ ?_
      · exact st_move (.tmp 9) rfl (K.t x9 rfl)
      · exact st_bin .eql 23 23 (.tmp 34) _ rfl (K.dep 0 34 rfl) rfl (by kernel_rfl)
      · exact st_move (.tmp 35) rfl (K.dep 1 35 rfl)
      · exact st_move (.tmp 0) rfl (K.t x0 rfl)
      · exact st_call 10 (.func 10) _ _ _ rfl rfl (arg2 (K.dep 3 37 rfl) rfl) Try.enter10 (fk_smallo hln (Fk.mono _ _ _ _ hv (bgo bl K.grow)) (by symm; rw [decide_eq_true_iff]; exact h1s))
      · exact st_not (.tmp 38) rfl true (K.dep 4 38 rfl)
      · exact st_pick_f' (.tmp 36) (.const (.bool true)) (.tmp 39) rfl (K.dep 2 36 rfl) (K.dep 5 39 rfl)
      · exact st_move (.tmp 40) rfl (K.dep 6 40 rfl)
      · exact st_move (.tmp 1) rfl (K.t x1 rfl)
      · exact st_call 10 (.func 10) _ _ _ rfl rfl (arg2 (K.dep 8 42 rfl) rfl) Try.enter10 (fk_smallo hln2 (Fk.mono _ _ _ _ hv2 (bgo bl K.grow)) (by symm; rw [decide_eq_true_iff]; exact h2s))
      · exact st_not (.tmp 43) rfl true (K.dep 9 43 rfl)
      · exact st_pick_f' (.tmp 41) (.const (.bool true)) (.tmp 44) rfl (K.dep 7 41 rfl) (K.dep 10 44 rfl)
      · exact st_move (.tmp 45) rfl (K.dep 11 45 rfl)
      · exact st_move (.tmp 7) rfl (K.t x7 rfl)
      · exact st_gtr 3 (.tmp 47) (.const (.int .i64 100)) rfl .i64 (n) (100) (K.dep 13 47 rfl) rfl _ (by rw [eq_comm, decide_eq_true_iff]; omega)
      · exact st_pick_f' (.tmp 46) (.const (.bool true)) (.tmp 48) rfl (K.dep 12 46 rfl) (K.dep 14 48 rfl)
      · exact st_move (.tmp 49) rfl (K.dep 15 49 rfl)
      · exact (Bool.false_ne_true hw).elim
      · exact (Bool.false_ne_true hw).elim
      · exact st_pick_t (.tmp 50) (.const (.bool true)) (.tmp 52) rfl (K.dep 16 50 rfl) rfl
      intro f10 w10 A hb
      replace x0 := A.t x0 rfl
      replace x1 := A.t x1 rfl
      replace x7 := A.t x7 rfl
      replace x8 := A.t x8 rfl
      replace x9 := A.t x9 rfl
      replace x10 := A.t x10 rfl
      have x53 := A.e 19 53 rfl rfl
      replace hd := HD.below hd hb
      replace bl := bgo bl hb
      replace sz := A.size.trans sz
      replace df := A.defs.trans df
      clear A hb
      show Code.wp _ _ _ _ _
      refine wp_cond_true x53 ?_
      refine wp_seq ?_
      refine wr_a [.eq (.pointer (some ⟨gd, 0, none⟩)), .eq (.bool true), .eq (.bool true), .eq (.bool true), .eq (.bool true), .eq (.bool true)] (by rw [sz]; kernel_rfl) ⟨fun hw ac u K => ?_, fun hw ac u K => ?_, fun hw ac u K => ?_, fun hw ac u K => ?_, fun hw ac u K => ?_, fun hw ac u K => ?_, trivial⟩ ?_
      · exact st_move (.tmp 9) rfl (K.t x9 rfl)
      · exact st_bin .neq 23 23 (.tmp 54) _ rfl (K.dep 0 54 rfl) rfl (by kernel_rfl)
      · exact st_move (.tmp 55) rfl (K.dep 1 55 rfl)
      · exact st_call 9 (.func 9) _ _ _ rfl rfl rfl Try.enter9 (awake_any _)
      · exact st_pick_t (.tmp 56) (.tmp 57) (.const (.bool false)) rfl (K.dep 2 56 rfl) (K.dep 3 57 rfl)
      · exact st_assign (.tmp 58) rfl (K.dep 4 58 rfl)
      intro f11 w11 A hb
      replace x0 := A.t x0 rfl
      replace x1 := A.t x1 rfl
      replace x7 := A.t x7 rfl
      replace x8 := A.t x8 rfl
      replace x9 := A.t x9 rfl
      replace x10 := A.t x10 rfl
      replace x53 := A.t x53 rfl
      have x6 := A.e 5 6 rfl rfl
      replace hd := HD.below hd hb
      replace bl := bgo bl hb
      replace sz := A.size.trans sz
      replace df := A.defs.trans df
      clear A hb
      clear x0
      clear x1
      clear x7
      clear x8
      clear x9
      clear x10
      clear x53
      show Code.wp _ _ _ _ _
      refine wp_ret ?_
      repeat (first | with_reducible refine then_ret ?_ | with_reducible refine block_ret ?_)
      exact bodyPost_ret (v := .bool true) (ret_slot rfl f11 _ x6 _ _) df ⟨rfl, bl⟩
    refine wr_a [.eq (.pointer (some ⟨gd, 0, none⟩)), .eq (.bool false), .eq (.bool false), .eq (v), .eq (.bool true), .eq (.bool false), .eq (.bool false), .eq (.bool false), .eq (v2), .eq (.bool true), .eq (.bool false), .eq (.bool false), .eq (.bool false), .eq (.int .i64 n), .eq (.bool false), .eq (.bool false), .eq (.bool false), .eq (.pointer none), .eq (.bool true), .eq (.bool true)] (by rw [sz]; kernel_rfl) ⟨fun hw ac u K => ?_, fun hw ac u K => ?_, fun hw ac u K => ?_, fun hw ac u K => ?_, fun hw ac u K => ?_, fun hw ac u K => ?_, fun hw ac u K => ?_, fun hw ac u K => ?_, fun hw ac u K => ?_, fun hw ac u K => ?_, fun hw ac u K => ?_, fun hw ac u K => ?_, fun hw ac u K => ?_, fun hw ac u K => ?_, fun hw ac u K => ?_, fun hw ac u K => ?_, fun hw ac u K => ?_, fun hw ac u K => ?_, fun hw ac u K => ?_, fun hw ac u K => ?_, trivial⟩ ?_
    · exact st_move (.tmp 9) rfl (K.t x9 rfl)
    · exact st_bin .eql 23 23 (.tmp 34) _ rfl (K.dep 0 34 rfl) rfl (by kernel_rfl)
    · exact st_move (.tmp 35) rfl (K.dep 1 35 rfl)
    · exact st_move (.tmp 0) rfl (K.t x0 rfl)
    · exact st_call 10 (.func 10) _ _ _ rfl rfl (arg2 (K.dep 3 37 rfl) rfl) Try.enter10 (fk_smallo hln (Fk.mono _ _ _ _ hv (bgo bl K.grow)) (by symm; rw [decide_eq_true_iff]; exact h1s))
    · exact st_not (.tmp 38) rfl true (K.dep 4 38 rfl)
    · exact st_pick_f' (.tmp 36) (.const (.bool true)) (.tmp 39) rfl (K.dep 2 36 rfl) (K.dep 5 39 rfl)
    · exact st_move (.tmp 40) rfl (K.dep 6 40 rfl)
    · exact st_move (.tmp 1) rfl (K.t x1 rfl)
    · exact st_call 10 (.func 10) _ _ _ rfl rfl (arg2 (K.dep 8 42 rfl) rfl) Try.enter10 (fk_smallo hln2 (Fk.mono _ _ _ _ hv2 (bgo bl K.grow)) (by symm; rw [decide_eq_true_iff]; exact h2s))
    · exact st_not (.tmp 43) rfl true (K.dep 9 43 rfl)
    · exact st_pick_f' (.tmp 41) (.const (.bool true)) (.tmp 44) rfl (K.dep 7 41 rfl) (K.dep 10 44 rfl)
    · exact st_move (.tmp 45) rfl (K.dep 11 45 rfl)
    · exact st_move (.tmp 7) rfl (K.t x7 rfl)
    · exact st_gtr 3 (.tmp 47) (.const (.int .i64 100)) rfl .i64 (n) (100) (K.dep 13 47 rfl) rfl _ (by rw [eq_comm, decide_eq_false_iff_not]; omega)
    · exact st_pick_f' (.tmp 46) (.const (.bool true)) (.tmp 48) rfl (K.dep 12 46 rfl) (K.dep 14 48 rfl)
    · exact st_move (.tmp 49) rfl (K.dep 15 49 rfl)
    · exact st_move (.tmp 10) rfl (K.t x10 rfl)
    · exact st_bin .eql 23 23 (.tmp 51) _ rfl (K.dep 17 51 rfl) rfl (by kernel_rfl)
    · exact st_pick_f' (.tmp 50) (.const (.bool true)) (.tmp 52) rfl (K.dep 16 50 rfl) (K.dep 18 52 rfl)
    intro f10 w10 A hb
    replace x0 := A.t x0 rfl
    replace x1 := A.t x1 rfl
    replace x7 := A.t x7 rfl
    replace x8 := A.t x8 rfl
    replace x9 := A.t x9 rfl
    replace x10 := A.t x10 rfl
    have x53 := A.e 19 53 rfl rfl
    replace hd := HD.below hd hb
    replace bl := bgo bl hb
    replace sz := A.size.trans sz
    replace df := A.defs.trans df
    clear A hb
    show Code.wp _ _ _ _ _
    refine wp_cond_true x53 ?_
    refine wp_seq ?_
    refine wr_a [.eq (.pointer (some ⟨gd, 0, none⟩)), .eq (.bool true), .eq (.bool true), .eq (.bool true), .eq (.bool true), .eq (.bool true)] (by rw [sz]; kernel_rfl) ⟨fun hw ac u K => ?_, fun hw ac u K => ?_, fun hw ac u K => ?_, fun hw ac u K => ?_, fun hw ac u K => ?_, fun hw ac u K => ?_, trivial⟩ ?_
    · exact st_move (.tmp 9) rfl (K.t x9 rfl)
    · exact st_bin .neq 23 23 (.tmp 54) _ rfl (K.dep 0 54 rfl) rfl (by kernel_rfl)
    · exact st_move (.tmp 55) rfl (K.dep 1 55 rfl)
    · exact st_call 9 (.func 9) _ _ _ rfl rfl rfl Try.enter9 (awake_any _)
    · exact st_pick_t (.tmp 56) (.tmp 57) (.const (.bool false)) rfl (K.dep 2 56 rfl) (K.dep 3 57 rfl)
    · exact st_assign (.tmp 58) rfl (K.dep 4 58 rfl)
    intro f11 w11 A hb
    replace x0 := A.t x0 rfl
    replace x1 := A.t x1 rfl
    replace x7 := A.t x7 rfl
    replace x8 := A.t x8 rfl
    replace x9 := A.t x9 rfl
    replace x10 := A.t x10 rfl
    replace x53 := A.t x53 rfl
    have x6 := A.e 5 6 rfl rfl
    replace hd := HD.below hd hb
    replace bl := bgo bl hb
    replace sz := A.size.trans sz
    replace df := A.defs.trans df
    clear A hb
    clear x0
    clear x1
    clear x7
    clear x8
    clear x9
    clear x10
    clear x53
    show Code.wp _ _ _ _ _
    refine wp_ret ?_
    repeat (first | with_reducible refine then_ret ?_ | with_reducible refine block_ret ?_)
    exact bodyPost_ret (v := .bool true) (ret_slot rfl f11 _ x6 _ _) df ⟨rfl, bl⟩
  obtain ⟨N, rfl⟩ : ∃ N : Nat, n = N := ⟨n.toNat, by omega⟩
  obtain ⟨Z, rfl⟩ : ∃ Z : Nat, z = Z := ⟨z.toNat, by omega⟩
  refine wr_s [] (by rw [sz]; kernel_rfl) trivial ?_
  intro f3 w3 A hb
  replace x0 := A.t x0 rfl
  replace x1 := A.t x1 rfl
  replace x7 := A.t x7 rfl
  replace x8 := A.t x8 rfl
  replace bl := bgo bl hb
  replace sz := A.size.trans sz
  replace df := A.defs.trans df
  clear A hb
  refine wl_call 8 (.func 8) _ _ #[.int .i64 ((8 : Nat) : Int), .int .i64 ((16 : Nat) : Int)] rfl 30 rfl (by rw [sz]; decide) rfl rfl rfl Try.enter8 (fun u W' => ∃ (gd : Nat) (M D : Nat → Prop), u = .pointer (some ⟨gd, 0, none⟩) ∧ HD W' gd M D (newd (8) (16)) ∧ (∀ j, D j → w3.heap.size ≤ j) ∧ Below w3.heap.size w3 W') ((fk_dnew (N := 8) (Z := 16) (by decide) (by decide) (by decide) (by decide) w3).mono (by rintro e w' ⟨gd, M, D, rfl, q⟩; exact ⟨_, rfl, gd, M, D, rfl, q⟩)) ?_
  rintro f4 w4 df2 sz2 old2 ⟨gd, M, DD, x30, hd, hD0, hb⟩
  have hDD : ∀ j, DD j → w.heap.size ≤ j := fun j q => Nat.le_trans bl.size (hD0 j q)
  clear hD0
  replace bl0 := bl
  replace x0 := tr old2 x0 rfl
  replace x1 := tr old2 x1 rfl
  replace x7 := tr old2 x7 rfl
  replace x8 := tr old2 x8 rfl
  replace bl := bgo bl hb
  replace sz := sz2.trans sz
  replace df := df2.trans df
  clear df2 sz2 old2 hb
  refine wl_one (.eq (.int .i64 (N : Int))) rfl 31 rfl (by rw [sz]; decide) (st_move (.tmp 7) rfl x7) ?_
  intro f5 w5 df2 sz2 old2 new2 hb
  replace x0 := tr old2 x0 rfl
  replace x1 := tr old2 x1 rfl
  replace x7 := tr old2 x7 rfl
  replace x8 := tr old2 x8 rfl
  replace x30 := tr old2 x30 rfl
  have x31 := Fk.e new2
  replace hd := HD.below hd hb
  replace bl := bgo bl hb
  replace sz := sz2.trans sz
  replace df := df2.trans df
  clear df2 sz2 old2 new2 hb
  refine wl_one (.eq (.int .i64 (Z : Int))) rfl 32 rfl (by rw [sz]; decide) (st_move (.tmp 8) rfl x8) ?_
  intro f6 w6 df2 sz2 old2 new2 hb
  replace x0 := tr old2 x0 rfl
  replace x1 := tr old2 x1 rfl
  replace x7 := tr old2 x7 rfl
  replace x8 := tr old2 x8 rfl
  replace x30 := tr old2 x30 rfl
  replace x31 := tr old2 x31 rfl
  have x32 := Fk.e new2
  replace hd := HD.below hd hb
  replace bl := bgo bl hb
  replace sz := sz2.trans sz
  replace df := df2.trans df
  clear df2 sz2 old2 new2 hb
  refine wl_call 8 (.func 8) _ _ #[.int .i64 (N : Int), .int .i64 (Z : Int)] rfl 33 rfl (by rw [sz]; decide) rfl rfl (two_arg x31 x32) Try.enter8 (fun u W' => ∃ (gd : Nat) (M D : Nat → Prop), u = .pointer (some ⟨gd, 0, none⟩) ∧ HD W' gd M D (newd (N) (Z)) ∧ (∀ j, D j → w6.heap.size ≤ j) ∧ Below w6.heap.size w6 W') ((fk_dnew (N := N) (Z := Z) (by omega) (by omega) (by omega) (by omega) w6).mono (by rintro e w' ⟨gd, M, D, rfl, q⟩; exact ⟨_, rfl, gd, M, D, rfl, q⟩)) ?_
  rintro f7 w7 df2 sz2 old2 ⟨go, MO, DO, x33, ho, hD0, hb⟩
  have hDO : ∀ j, DO j → w.heap.size ≤ j := fun j q => Nat.le_trans bl.size (hD0 j q)
  have hQO : ∀ j, DO j → ¬ M j := fun j q q2 => by have h1 := hD0 j q; have h2 := hd.lt j (hd.sub j q2); omega
  have hQD : ∀ j, DD j → ¬ MO j := fun j q q2 => by have h1 := hD0 j (ho.sub j q2); have h2 := hd.lt j q; omega
  clear hD0
  replace bl0 := bl
  replace x0 := tr old2 x0 rfl
  replace x1 := tr old2 x1 rfl
  replace x7 := tr old2 x7 rfl
  replace x8 := tr old2 x8 rfl
  replace x30 := tr old2 x30 rfl
  replace x31 := tr old2 x31 rfl
  replace x32 := tr old2 x32 rfl
  replace hd := HD.below hd hb
  replace bl := bgo bl hb
  replace sz := sz2.trans sz
  replace df := df2.trans df
  clear df2 sz2 old2 hb
  clear x31
  clear x32
  refine wl_one (.eq (.pointer (some ⟨gd, 0, none⟩))) rfl 9 rfl (by rw [sz]; decide) (st_assign (.tmp 30) rfl x30) ?_
  intro f8 w8 df2 sz2 old2 new2 hb
  replace x0 := tr old2 x0 rfl
  replace x1 := tr old2 x1 rfl
  replace x7 := tr old2 x7 rfl
  replace x8 := tr old2 x8 rfl
  replace x30 := tr old2 x30 rfl
  replace x33 := tr old2 x33 rfl
  have x9 := Fk.e new2
  replace hd := HD.below hd hb
  replace ho := HD.below ho hb
  replace bl := bgo bl hb
  replace sz := sz2.trans sz
  replace df := df2.trans df
  clear df2 sz2 old2 new2 hb
  clear x30
  refine wl_one (.eq (.pointer (some ⟨go, 0, none⟩))) rfl 10 rfl (by rw [sz]; decide) (st_assign (.tmp 33) rfl x33) ?_
  intro f9 w9 df2 sz2 old2 new2 hb
  replace x0 := tr old2 x0 rfl
  replace x1 := tr old2 x1 rfl
  replace x7 := tr old2 x7 rfl
  replace x8 := tr old2 x8 rfl
  replace x33 := tr old2 x33 rfl
  replace x9 := tr old2 x9 rfl
  have x10 := Fk.e new2
  replace hd := HD.below hd hb
  replace ho := HD.below ho hb
  replace bl := bgo bl hb
  replace sz := sz2.trans sz
  replace df := df2.trans df
  clear df2 sz2 old2 new2 hb
  refine wpList_nil ?_
  clear x33
  show Code.wp _ _ _ _ _
  refine wp_seq ?_
  refine wp_seq ?_
  have h9 : ¬ smallO l 30 ∨ (smallO l 30 ∧ ¬ smallO l2 30) ∨ (smallO l 30 ∧ smallO l2 30 ∧ (N : Int) > 100) ∨ (smallO l 30 ∧ smallO l2 30 ∧ ¬ (N : Int) > 100) := by
    by_cases h1 : smallO l 30
    · by_cases h2 : smallO l2 30
      · by_cases h3 : (N : Int) > 100
        · exact .inr (.inr (.inl ⟨h1, h2, h3⟩))
        · exact .inr (.inr (.inr ⟨h1, h2, h3⟩))
      · exact .inr (.inl ⟨h1, h2⟩)
    · exact .inl h1
  rcases h9 with h1s | ⟨h1s, h2s⟩ | ⟨h1s, h2s, h3s⟩ | ⟨h1s, h2s, h3s⟩
  · skip
    refine wr_a [.eq (.pointer (some ⟨gd, 0, none⟩)), .eq (.bool false), .eq (.bool false), .eq (v), .eq (.bool false), .eq (.bool true), .eq (.bool true), .eq (.bool true), .any, .any, .any, .eq (.bool true), .eq (.bool true), .any, .any, .eq (.bool true), .eq (.bool true), .any, .any, .eq (.bool true)] (by rw [sz]; kernel_rfl) ⟨fun hw ac u K => ?_, fun hw ac u K => ?_, fun hw ac u K => ?_, fun hw ac u K => ?_, fun hw ac u K => ?_, fun hw ac u K => ?_, fun hw ac u K => ?_, fun hw ac u K => ?_, fun hw ac u K => ?_, fun hw ac u K => ?_, fun hw ac u K => ?_, fun hw ac u K => ?_, fun hw ac u K => ?_, fun hw ac u K => ?_, fun hw ac u K => ?_, fun hw ac u K => ?_, fun hw ac u K => ?_, fun hw ac u K => ?_, fun hw ac u K => ?_, fun hw ac u K => ?_, trivial⟩ ?_
    · exact st_move (.tmp 9) rfl (K.t x9 rfl)
    · exact st_bin .eql 23 23 (.tmp 34) _ rfl (K.dep 0 34 rfl) rfl (by kernel_rfl)
    · exact st_move (.tmp 35) rfl (K.dep 1 35 rfl)
    · exact st_move (.tmp 0) rfl (K.t x0 rfl)
    · exact st_call 10 (.func 10) _ _ _ rfl rfl (arg2 (K.dep 3 37 rfl) rfl) Try.enter10 (fk_smallo hln (Fk.mono _ _ _ _ hv (bgo bl K.grow)) (by symm; rw [decide_eq_false_iff_not]; exact h1s))
    · exact st_not (.tmp 38) rfl false (K.dep 4 38 rfl)
    · exact st_pick_f' (.tmp 36) (.const (.bool true)) (.tmp 39) rfl (K.dep 2 36 rfl) (K.dep 5 39 rfl)
    · exact st_move (.tmp 40) rfl (K.dep 6 40 rfl)
    · exact (Bool.false_ne_true hw).elim
    · exact (Bool.false_ne_true hw).elim
    · exact (Bool.false_ne_true hw).elim
    · exact st_pick_t (.tmp 41) (.const (.bool true)) (.tmp 44) rfl (K.dep 7 41 rfl) rfl
    · exact st_move (.tmp 45) rfl (K.dep 11 45 rfl)
    · exact (Bool.false_ne_true hw).elim
    · exact (Bool.false_ne_true hw).elim
    · exact st_pick_t (.tmp 46) (.const (.bool true)) (.tmp 48) rfl (K.dep 12 46 rfl) rfl
    · exact st_move (.tmp 49) rfl (K.dep 15 49 rfl)
    · exact (Bool.false_ne_true hw).elim
    · exact (Bool.false_ne_true hw).elim
    · exact st_pick_t (.tmp 50) (.const (.bool true)) (.tmp 52) rfl (K.dep 16 50 rfl) rfl
    intro f10 w10 A hb
    replace x0 := A.t x0 rfl
    replace x1 := A.t x1 rfl
    replace x7 := A.t x7 rfl
    replace x8 := A.t x8 rfl
    replace x9 := A.t x9 rfl
    replace x10 := A.t x10 rfl
    have x53 := A.e 19 53 rfl rfl
    replace hd := HD.below hd hb
    replace ho := HD.below ho hb
    replace bl := bgo bl hb
    replace sz := A.size.trans sz
    replace df := A.defs.trans df
    clear A hb
    show Code.wp _ _ _ _ _
    refine wp_cond_true x53 ?_
    refine wp_seq ?_
    refine wr_a [.eq (.pointer (some ⟨gd, 0, none⟩)), .eq (.bool true), .eq (.bool true), .eq (.bool true), .eq (.bool true), .eq (.bool true)] (by rw [sz]; kernel_rfl) ⟨fun hw ac u K => ?_, fun hw ac u K => ?_, fun hw ac u K => ?_, fun hw ac u K => ?_, fun hw ac u K => ?_, fun hw ac u K => ?_, trivial⟩ ?_
    · exact st_move (.tmp 9) rfl (K.t x9 rfl)
    · exact st_bin .neq 23 23 (.tmp 54) _ rfl (K.dep 0 54 rfl) rfl (by kernel_rfl)
    · exact st_move (.tmp 55) rfl (K.dep 1 55 rfl)
    · exact st_call 9 (.func 9) _ _ _ rfl rfl rfl Try.enter9 (awake_any _)
    · exact st_pick_t (.tmp 56) (.tmp 57) (.const (.bool false)) rfl (K.dep 2 56 rfl) (K.dep 3 57 rfl)
    · exact st_assign (.tmp 58) rfl (K.dep 4 58 rfl)
    intro f11 w11 A hb
    replace x0 := A.t x0 rfl
    replace x1 := A.t x1 rfl
    replace x7 := A.t x7 rfl
    replace x8 := A.t x8 rfl
    replace x9 := A.t x9 rfl
    replace x10 := A.t x10 rfl
    replace x53 := A.t x53 rfl
    have x6 := A.e 5 6 rfl rfl
    replace hd := HD.below hd hb
    replace ho := HD.below ho hb
    replace bl := bgo bl hb
    replace sz := A.size.trans sz
    replace df := A.defs.trans df
    clear A hb
    clear x0
    clear x1
    clear x7
    clear x8
    clear x9
    clear x10
    clear x53
    show Code.wp _ _ _ _ _
    refine wp_ret ?_
    repeat (first | with_reducible refine then_ret ?_ | with_reducible refine block_ret ?_)
    exact bodyPost_ret (v := .bool true) (ret_slot rfl f11 _ x6 _ _) df ⟨rfl, bl⟩
  · skip
    refine wr_a [.eq (.pointer (some ⟨gd, 0, none⟩)), .eq (.bool false), .eq (.bool false), .eq (v), .eq (.bool true), .eq (.bool false), .eq (.bool false), .eq (.bool false), .eq (v2), .eq (.bool false), .eq (.bool true), .eq (.bool true), .eq (.bool true), .any, .any, .eq (.bool true), .eq (.bool true), .any, .any, .eq (.bool true)] (by rw [sz]; kernel_rfl) ⟨fun hw ac u K => ?_, fun hw ac u K => ?_, fun hw ac u K => ?_, fun hw ac u K => ?_, fun hw ac u K => ?_, fun hw ac u K => ?_, fun hw ac u K => ?_, fun hw ac u K => ?_, fun hw ac u K => ?_, fun hw ac u K => ?_, fun hw ac u K => ?_, fun hw ac u K => ?_, fun hw ac u K => ?_, fun hw ac u K => ?_, fun hw ac u K => ?_, fun hw ac u K => ?_, fun hw ac u K => ?_, fun hw ac u K => ?_, fun hw ac u K => ?_, fun hw ac u K => ?_, trivial⟩ ?_
    · exact st_move (.tmp 9) rfl (K.t x9 rfl)
    · exact st_bin .eql 23 23 (.tmp 34) _ rfl (K.dep 0 34 rfl) rfl (by kernel_rfl)
    · exact st_move (.tmp 35) rfl (K.dep 1 35 rfl)
    · exact st_move (.tmp 0) rfl (K.t x0 rfl)
    · exact st_call 10 (.func 10) _ _ _ rfl rfl (arg2 (K.dep 3 37 rfl) rfl) Try.enter10 (fk_smallo hln (Fk.mono _ _ _ _ hv (bgo bl K.grow)) (by symm; rw [decide_eq_true_iff]; exact h1s))
    · exact st_not (.tmp 38) rfl true (K.dep 4 38 rfl)
    · exact st_pick_f' (.tmp 36) (.const (.bool true)) (.tmp 39) rfl (K.dep 2 36 rfl) (K.dep 5 39 rfl)
    · exact st_move (.tmp 40) rfl (K.dep 6 40 rfl)
    · exact st_move (.tmp 1) rfl (K.t x1 rfl)
    · exact st_call 10 (.func 10) _ _ _ rfl rfl (arg2 (K.dep 8 42 rfl) rfl) Try.enter10 (fk_smallo hln2 (Fk.mono _ _ _ _ hv2 (bgo bl K.grow)) (by symm; rw [decide_eq_false_iff_not]; exact h2s))
    · exact st_not (.tmp 43) rfl false (K.dep 9 43 rfl)
    · exact st_pick_f' (.tmp 41) (.const (.bool true)) (.tmp 44) rfl (K.dep 7 41 rfl) (K.dep 10 44 rfl)
    · exact st_move (.tmp 45) rfl (K.dep 11 45 rfl)
    · exact (Bool.false_ne_true hw).elim
    · exact (Bool.false_ne_true hw).elim
    · exact st_pick_t (.tmp 46) (.const (.bool true)) (.tmp 48) rfl (K.dep 12 46 rfl) rfl
    · exact st_move (.tmp 49) rfl (K.dep 15 49 rfl)
    · exact (Bool.false_ne_true hw).elim
    · exact (Bool.false_ne_true hw).elim
    · exact st_pick_t (.tmp 50) (.const (.bool true)) (.tmp 52) rfl (K.dep 16 50 rfl) rfl
    intro f10 w10 A hb
    replace x0 := A.t x0 rfl
    replace x1 := A.t x1 rfl
    replace x7 := A.t x7 rfl
    replace x8 := A.t x8 rfl
    replace x9 := A.t x9 rfl
    replace x10 := A.t x10 rfl
    have x53 := A.e 19 53 rfl rfl
    replace hd := HD.below hd hb
    replace ho := HD.below ho hb
    replace bl := bgo bl hb
    replace sz := A.size.trans sz
    replace df := A.defs.trans df
    clear A hb
    show Code.wp _ _ _ _ _
    refine wp_cond_true x53 ?_
    refine wp_seq ?_
    refine wr_a [.eq (.pointer (some ⟨gd, 0, none⟩)), .eq (.bool true), .eq (.bool true), .eq (.bool true), .eq (.bool true), .eq (.bool true)] (by rw [sz]; kernel_rfl) ⟨fun hw ac u K => ?_, fun hw ac u K => ?_, fun hw ac u K => ?_, fun hw ac u K => ?_, fun hw ac u K => ?_, fun hw ac u K => ?_, trivial⟩ ?_
    · exact st_move (.tmp 9) rfl (K.t x9 rfl)
    · exact st_bin .neq 23 23 (.tmp 54) _ rfl (K.dep 0 54 rfl) rfl (by kernel_rfl)
    · exact st_move (.tmp 55) rfl (K.dep 1 55 rfl)
    · exact st_call 9 (.func 9) _ _ _ rfl rfl rfl Try.enter9 (awake_any _)
    · exact st_pick_t (.tmp 56) (.tmp 57) (.const (.bool false)) rfl (K.dep 2 56 rfl) (K.dep 3 57 rfl)
    · exact st_assign (.tmp 58) rfl (K.dep 4 58 rfl)
    intro f11 w11 A hb
    replace x0 := A.t x0 rfl
    replace x1 := A.t x1 rfl
    replace x7 := A.t x7 rfl
    replace x8 := A.t x8 rfl
    replace x9 := A.t x9 rfl
    replace x10 := A.t x10 rfl
    replace x53 := A.t x53 rfl
    have x6 := A.e 5 6 rfl rfl
    replace hd := HD.below hd hb
    replace ho := HD.below ho hb
    replace bl := bgo bl hb
    replace sz := A.size.trans sz
    replace df := A.defs.trans df
    clear A hb
    clear x0
    clear x1
    clear x7
    clear x8
    clear x9
    clear x10
    clear x53
    show Code.wp _ _ _ _ _
    refine wp_ret ?_
    repeat (first | with_reducible refine then_ret ?_ | with_reducible refine block_ret ?_)
    exact bodyPost_ret (v := .bool true) (ret_slot rfl f11 _ x6 _ _) df ⟨rfl, bl⟩
  · skip
    refine wr_a [.eq (.pointer (some ⟨gd, 0, none⟩)), .eq (.bool false), .eq (.bool false), .eq (v), .eq (.bool true), .eq (.bool false), .eq (.bool false), .eq (.bool false), .eq (v2), .eq (.bool true), .eq (.bool false), .eq (.bool false), .eq (.bool false), .eq (.int .i64 (N : Int)), .eq (.bool true), .eq (.bool true), .eq (.bool true), .any, .any, .eq (.bool true)] (by rw [sz]; kernel_rfl) ⟨fun hw ac u K => ?_, fun hw ac u K => ?_, fun hw ac u K => ?_, fun hw ac u K => ?_, fun hw ac u K => ?_, fun hw ac u K => ?_, fun hw ac u K => ?_, fun hw ac u K => ?_, fun hw ac u K => ?_, fun hw ac u K => ?_, fun hw ac u K => ?_, fun hw ac u K => ?_, fun hw ac u K => ?_, fun hw ac u K => ?_, fun hw ac u K => ?_, fun hw ac u K => ?_, fun hw ac u K => ?_, fun hw ac u K => ?_, fun hw ac u K => ?_, fun hw ac u K => ?_, trivial⟩ ?_
    · exact st_move (.tmp 9) rfl (K.t x9 rfl)
    · exact st_bin .eql 23 23 (.tmp 34) _ rfl (K.dep 0 34 rfl) rfl (by kernel_rfl)
    · exact st_move (.tmp 35) rfl (K.dep 1 35 rfl)
    · exact st_move (.tmp 0) rfl (K.t x0 rfl)
    · exact st_call 10 (.func 10) _ _ _ rfl rfl (arg2 (K.dep 3 37 rfl) rfl) Try.enter10 (fk_smallo hln (Fk.mono _ _ _ _ hv (bgo bl K.grow)) (by symm; rw [decide_eq_true_iff]; exact h1s))
    · exact st_not (.tmp 38) rfl true (K.dep 4 38 rfl)
    · exact st_pick_f' (.tmp 36) (.const (.bool true)) (.tmp 39) rfl (K.dep 2 36 rfl) (K.dep 5 39 rfl)
    · exact st_move (.tmp 40) rfl (K.dep 6 40 rfl)
    · exact st_move (.tmp 1) rfl (K.t x1 rfl)
    · exact st_call 10 (.func 10) _ _ _ rfl rfl (arg2 (K.dep 8 42 rfl) rfl) Try.enter10 (fk_smallo hln2 (Fk.mono _ _ _ _ hv2 (bgo bl K.grow)) (by symm; rw [decide_eq_true_iff]; exact h2s))
    · exact st_not (.tmp 43) rfl true (K.dep 9 43 rfl)
    · exact st_pick_f' (.tmp 41) (.const (.bool true)) (.tmp 44) rfl (K.dep 7 41 rfl) (K.dep 10 44 rfl)
    · exact st_move (.tmp 45) rfl (K.dep 11 45 rfl)
    · exact st_move (.tmp 7) rfl (K.t x7 rfl)
    · exact st_gtr 3 (.tmp 47) (.const (.int .i64 100)) rfl .i64 ((N : Int)) (100) (K.dep 13 47 rfl) rfl _ (by rw [eq_comm, decide_eq_true_iff]; omega)
    · exact st_pick_f' (.tmp 46) (.const (.bool true)) (.tmp 48) rfl (K.dep 12 46 rfl) (K.dep 14 48 rfl)
    · exact st_move (.tmp 49) rfl (K.dep 15 49 rfl)
    · exact (Bool.false_ne_true hw).elim
    · exact (Bool.false_ne_true hw).elim
    · exact st_pick_t (.tmp 50) (.const (.bool true)) (.tmp 52) rfl (K.dep 16 50 rfl) rfl
    intro f10 w10 A hb
    replace x0 := A.t x0 rfl
    replace x1 := A.t x1 rfl
    replace x7 := A.t x7 rfl
    replace x8 := A.t x8 rfl
    replace x9 := A.t x9 rfl
    replace x10 := A.t x10 rfl
    have x53 := A.e 19 53 rfl rfl
    replace hd := HD.below hd hb
    replace ho := HD.below ho hb
    replace bl := bgo bl hb
    replace sz := A.size.trans sz
    replace df := A.defs.trans df
    clear A hb
    show Code.wp _ _ _ _ _
    refine wp_cond_true x53 ?_
    refine wp_seq ?_
    refine wr_a [.eq (.pointer (some ⟨gd, 0, none⟩)), .eq (.bool true), .eq (.bool true), .eq (.bool true), .eq (.bool true), .eq (.bool true)] (by rw [sz]; kernel_rfl) ⟨fun hw ac u K => ?_, fun hw ac u K => ?_, fun hw ac u K => ?_, fun hw ac u K => ?_, fun hw ac u K => ?_, fun hw ac u K => ?_, trivial⟩ ?_
    · exact st_move (.tmp 9) rfl (K.t x9 rfl)
    · exact st_bin .neq 23 23 (.tmp 54) _ rfl (K.dep 0 54 rfl) rfl (by kernel_rfl)
    · exact st_move (.tmp 55) rfl (K.dep 1 55 rfl)
    · exact st_call 9 (.func 9) _ _ _ rfl rfl rfl Try.enter9 (awake_any _)
    · exact st_pick_t (.tmp 56) (.tmp 57) (.const (.bool false)) rfl (K.dep 2 56 rfl) (K.dep 3 57 rfl)
    · exact st_assign (.tmp 58) rfl (K.dep 4 58 rfl)
    intro f11 w11 A hb
    replace x0 := A.t x0 rfl
    replace x1 := A.t x1 rfl
    replace x7 := A.t x7 rfl
    replace x8 := A.t x8 rfl
    replace x9 := A.t x9 rfl
    replace x10 := A.t x10 rfl
    replace x53 := A.t x53 rfl
    have x6 := A.e 5 6 rfl rfl
    replace hd := HD.below hd hb
    replace ho := HD.below ho hb
    replace bl := bgo bl hb
    replace sz := A.size.trans sz
    replace df := A.defs.trans df
    clear A hb
    clear x0
    clear x1
    clear x7
    clear x8
    clear x9
    clear x10
    clear x53
    show Code.wp _ _ _ _ _
    refine wp_ret ?_
    repeat (first | with_reducible refine then_ret ?_ | with_reducible refine block_ret ?_)
    exact bodyPost_ret (v := .bool true) (ret_slot rfl f11 _ x6 _ _) df ⟨rfl, bl⟩
  refine wr_a [.eq (.pointer (some ⟨gd, 0, none⟩)), .eq (.bool false), .eq (.bool false), .eq (v), .eq (.bool true), .eq (.bool false), .eq (.bool false), .eq (.bool false), .eq (v2), .eq (.bool true), .eq (.bool false), .eq (.bool false), .eq (.bool false), .eq (.int .i64 (N : Int)), .eq (.bool false), .eq (.bool false), .eq (.bool false), .eq (.pointer (some ⟨go, 0, none⟩)), .eq (.bool false), .eq (.bool false)] (by rw [sz]; kernel_rfl) ⟨fun hw ac u K => ?_, fun hw ac u K => ?_, fun hw ac u K => ?_, fun hw ac u K => ?_, fun hw ac u K => ?_, fun hw ac u K => ?_, fun hw ac u K => ?_, fun hw ac u K => ?_, fun hw ac u K => ?_, fun hw ac u K => ?_, fun hw ac u K => ?_, fun hw ac u K => ?_, fun hw ac u K => ?_, fun hw ac u K => ?_, fun hw ac u K => ?_, fun hw ac u K => ?_, fun hw ac u K => ?_, fun hw ac u K => ?_, fun hw ac u K => ?_, fun hw ac u K => ?_, trivial⟩ ?_
  · exact st_move (.tmp 9) rfl (K.t x9 rfl)
  · exact st_bin .eql 23 23 (.tmp 34) _ rfl (K.dep 0 34 rfl) rfl (by kernel_rfl)
  · exact st_move (.tmp 35) rfl (K.dep 1 35 rfl)
  · exact st_move (.tmp 0) rfl (K.t x0 rfl)
  · exact st_call 10 (.func 10) _ _ _ rfl rfl (arg2 (K.dep 3 37 rfl) rfl) Try.enter10 (fk_smallo hln (Fk.mono _ _ _ _ hv (bgo bl K.grow)) (by symm; rw [decide_eq_true_iff]; exact h1s))
  · exact st_not (.tmp 38) rfl true (K.dep 4 38 rfl)
  · exact st_pick_f' (.tmp 36) (.const (.bool true)) (.tmp 39) rfl (K.dep 2 36 rfl) (K.dep 5 39 rfl)
  · exact st_move (.tmp 40) rfl (K.dep 6 40 rfl)
  · exact st_move (.tmp 1) rfl (K.t x1 rfl)
  · exact st_call 10 (.func 10) _ _ _ rfl rfl (arg2 (K.dep 8 42 rfl) rfl) Try.enter10 (fk_smallo hln2 (Fk.mono _ _ _ _ hv2 (bgo bl K.grow)) (by symm; rw [decide_eq_true_iff]; exact h2s))
  · exact st_not (.tmp 43) rfl true (K.dep 9 43 rfl)
  · exact st_pick_f' (.tmp 41) (.const (.bool true)) (.tmp 44) rfl (K.dep 7 41 rfl) (K.dep 10 44 rfl)
  · exact st_move (.tmp 45) rfl (K.dep 11 45 rfl)
  · exact st_move (.tmp 7) rfl (K.t x7 rfl)
  · exact st_gtr 3 (.tmp 47) (.const (.int .i64 100)) rfl .i64 ((N : Int)) (100) (K.dep 13 47 rfl) rfl _ (by rw [eq_comm, decide_eq_false_iff_not]; omega)
  · exact st_pick_f' (.tmp 46) (.const (.bool true)) (.tmp 48) rfl (K.dep 12 46 rfl) (K.dep 14 48 rfl)
  · exact st_move (.tmp 49) rfl (K.dep 15 49 rfl)
  · exact st_move (.tmp 10) rfl (K.t x10 rfl)
  · exact st_bin .eql 23 23 (.tmp 51) _ rfl (K.dep 17 51 rfl) rfl (by kernel_rfl)
  · exact st_pick_f' (.tmp 50) (.const (.bool true)) (.tmp 52) rfl (K.dep 16 50 rfl) (K.dep 18 52 rfl)
  intro f10 w10 A hb
  replace x0 := A.t x0 rfl
  replace x1 := A.t x1 rfl
  replace x7 := A.t x7 rfl
  replace x8 := A.t x8 rfl
  replace x9 := A.t x9 rfl
  replace x10 := A.t x10 rfl
  have x53 := A.e 19 53 rfl rfl
  replace hd := HD.below hd hb
  replace ho := HD.below ho hb
  replace bl := bgo bl hb
  replace sz := A.size.trans sz
  replace df := A.defs.trans df
  clear A hb
  show Code.wp _ _ _ _ _
  refine wp_cond_false x53 ?_
  refine wp_skip ?_
  show Code.wp _ _ _ _ _
  refine wp_seq ?_
  refine wp_seq ?_
  have gs0 := gd_new 8 16
  have on0 : On (newd 8 16) := ⟨rfl, rfl⟩
  have hll : l.length ≤ 30 := by have := h1s.2; omega
  have hll2 : l2.length ≤ 30 := by have := h2s.2; omega
  refine wr_a [.eq (v), .eq (.int .i64 (((l).length : Nat) : Int)), .eq (.int .i64 0)] (by rw [sz]; kernel_rfl) ⟨fun hw ac u K => ?_, fun hw ac u K => ?_, fun hw ac u K => ?_, trivial⟩ ?_
  · exact st_move (.tmp 0) rfl (K.t x0 rfl)
  · exact st_leno (.tmp 59) rfl (fk_val (K.dep 0 59 rfl) (Fk.mono _ _ _ _ hv (bgo bl K.grow)))
  · exact st_move (.const (.int .i64 0)) rfl rfl
  intro f11 w11 A hb
  replace x0 := A.t x0 rfl
  replace x1 := A.t x1 rfl
  replace x7 := A.t x7 rfl
  replace x8 := A.t x8 rfl
  replace x9 := A.t x9 rfl
  replace x10 := A.t x10 rfl
  replace x53 := A.t x53 rfl
  have x59 := A.e 0 59 rfl rfl
  have x60 := A.e 1 60 rfl rfl
  have x61 := A.e 2 61 rfl rfl
  replace hd := HD.below hd hb
  replace ho := HD.below ho hb
  replace bl := bgo bl hb
  replace sz := A.size.trans sz
  replace df := A.defs.trans df
  clear A hb
  clear x0
  clear x53
  show Code.wp _ _ _ _ _
  refine wp_block ?_
  refine wp_loop (fun f v1 => ∃ (k : Nat) (s : Dst) (DD : Nat → Prop), k ≤ l.length ∧ Gd s 8 16 k ∧ On s ∧ (∀ j, DD j → w.heap.size ≤ j) ∧ (∀ j, DO j → ¬ M j) ∧ (∀ j, DD j → ¬ MO j) ∧ f.tmps.size = 195 ∧ f.defers = [] ∧ f.eval (.tmp 1) = v2 ∧ f.eval (.tmp 7) = .int .i64 (N : Int) ∧ f.eval (.tmp 8) = .int .i64 (Z : Int) ∧ f.eval (.tmp 9) = .pointer (some ⟨gd, 0, none⟩) ∧ f.eval (.tmp 10) = .pointer (some ⟨go, 0, none⟩) ∧ f.eval (.tmp 59) = v ∧ f.eval (.tmp 60) = .int .i64 (((l).length : Nat) : Int) ∧ f.eval (.tmp 61) = .int .i64 (k : Int) ∧ HD v1 gd M DD s ∧ HD v1 go MO DO (newd N Z) ∧ Below w.heap.size w (v1)) (fun f _ => l.length - (intOf (f.eval (.tmp 61))).toNat) ⟨0, newd 8 16, DD, Nat.zero_le _, gs0, on0, hDD, hQO, hQD, sz, df, x1, x7, x8, x9, x10, x59, x60, x61, hd, ho, bl⟩ ?_
  intro f12 w12 hI
  clear sz df bl bl0 x1 x7 x8 x9 x10 x59 x60 x61 hd ho
  obtain ⟨k, s, DD, hk9, gs, hon9, hDD, hQO, hQD, sz, df, x1, x7, x8, x9, x10, x59, x60, x61, hd, ho, bl⟩ := hI
  have bl0 := bl
  have hcnt := x61
  clear gs0 on0
  refine wp_seq ?_
  by_cases hlt : k < l.length
  rotate_left
  · skip
    refine wr_a [.eq (.bool false)] (by rw [sz]; kernel_rfl) ⟨fun hw ac u K => ?_, trivial⟩ ?_
    · exact st_lss 3 (.tmp 61) (.tmp 60) rfl .i64 ((k : Int)) ((((l).length : Nat) : Int)) (K.t x61 rfl) (K.t x60 rfl) _ (by rw [eq_comm, decide_eq_false_iff_not]; exact fun h => hlt (Int.ofNat_lt.1 h))
    intro f13 w13 A hb
    replace x1 := A.t x1 rfl
    replace x7 := A.t x7 rfl
    replace x8 := A.t x8 rfl
    replace x9 := A.t x9 rfl
    replace x10 := A.t x10 rfl
    replace x59 := A.t x59 rfl
    replace x60 := A.t x60 rfl
    replace x61 := A.t x61 rfl
    have x62 := A.e 0 62 rfl rfl
    replace hd := HD.below hd hb
    replace ho := HD.below ho hb
    replace bl := bgo bl hb
    replace sz := A.size.trans sz
    replace df := A.defs.trans df
    clear A hb
    show Code.wp _ _ _ _ _
    refine wp_seq ?_
    refine wp_cond_false x62 ?_
    refine wp_exit ?_
    show Code.wp _ _ _ _ _
    refine wp_seq ?_
    clear x59
    clear x60
    clear x61
    obtain ⟨l9, b9, hdif⟩ : ∃ l b, dif s (newd N Z) = (l, b) := ⟨_, _, rfl⟩
    refine wr_s [.eq (.pointer (some ⟨gd, 0, none⟩)), .eq (.pointer (some ⟨go, 0, none⟩))] (by rw [sz]; kernel_rfl) ⟨fun hw ac u K => ?_, fun hw ac u K => ?_, trivial⟩ ?_
    · exact st_move (.tmp 9) rfl (K.t x9 rfl)
    · exact st_move (.tmp 10) rfl (K.t x10 rfl)
    intro f14 w14 A hb
    replace x1 := A.t x1 rfl
    replace x7 := A.t x7 rfl
    replace x8 := A.t x8 rfl
    replace x9 := A.t x9 rfl
    replace x10 := A.t x10 rfl
    replace x62 := A.t x62 rfl
    have x81 := A.e 0 81 rfl rfl
    have x82 := A.e 1 82 rfl rfl
    replace hd := HD.below hd hb
    replace ho := HD.below ho hb
    replace bl := bgo bl hb
    replace sz := A.size.trans sz
    replace df := A.defs.trans df
    clear A hb
    clear x62
    refine wl_call 25 (.func 25) _ _ #[.pointer (some ⟨gd, 0, none⟩), .pointer (some ⟨go, 0, none⟩)] rfl 83 rfl (by rw [sz]; decide) rfl rfl (two_arg x81 x82) Try.enter25 (fun u W' => ∃ (A : Option Addr) (C : Nat), u = .tuple #[.slice A (l9).length C, .bool b9] ∧ (Fk.is (l9)).f (.slice A (l9).length C) W' ∧ (∀ a, A = some a → w14.heap.size ≤ a.block ∧ a.block < W'.heap.size) ∧ Below w14.heap.size w14 W') ((show Calls Try.prog 25 #[.pointer (some ⟨gd, 0, none⟩), .pointer (some ⟨go, 0, none⟩)] w14 (fun e W' => ∃ (A : Option Addr) (C : Nat), e = .returned (.tuple #[.slice A (l9).length C, .bool b9]) ∧ _) from by have := fk_ddiffer hd ho (by have := gs.has; omega) (by first | (rw [show (newd N Z).has.length = N from List.length_replicate]; omega) | (have := gt.has; omega)); rw [hdif] at this; exact this).mono (by rintro e w' ⟨A, C, rfl, q⟩; exact ⟨_, rfl, A, C, rfl, q⟩)) ?_
    rintro f15 w15 df2 sz2 old2 ⟨Ad, Cd, x83, hvd, hnw, hb⟩
    have hvD : ∀ a, Ad = some a → ¬ DD a.block := fun a e q => by have h1 := (hnw a e).1; have h2 := hd.lt _ q; omega
    have hvO : ∀ a, Ad = some a → ¬ DO a.block := fun a e q => by have h1 := (hnw a e).1; have h2 := ho.lt _ q; omega
    have hvlt : ∀ a, Ad = some a → a.block < w15.heap.size := fun a e => (hnw a e).2
    clear hnw
    replace bl0 := bl
    replace x1 := tr old2 x1 rfl
    replace x7 := tr old2 x7 rfl
    replace x8 := tr old2 x8 rfl
    replace x9 := tr old2 x9 rfl
    replace x10 := tr old2 x10 rfl
    replace x81 := tr old2 x81 rfl
    replace x82 := tr old2 x82 rfl
    replace hd := HD.below hd hb
    replace ho := HD.below ho hb
    replace bl := bgo bl hb
    replace sz := sz2.trans sz
    replace df := df2.trans df
    clear df2 sz2 old2 hb
    clear x81
    clear x82
    refine wl_one (.eq (.tuple #[.slice Ad (l9).length Cd, .bool b9])) rfl 80 rfl (by rw [sz]; decide) (st_move (.tmp 83) rfl x83) ?_
    intro f16 w16 df2 sz2 old2 new2 hb
    replace x1 := tr old2 x1 rfl
    replace x7 := tr old2 x7 rfl
    replace x8 := tr old2 x8 rfl
    replace x9 := tr old2 x9 rfl
    replace x10 := tr old2 x10 rfl
    replace x83 := tr old2 x83 rfl
    have x80 := Fk.e new2
    replace hvd := Fk.mono _ _ _ _ hvd hb
    replace hd := HD.below hd hb
    replace ho := HD.below ho hb
    replace bl := bgo bl hb
    replace sz := sz2.trans sz
    replace df := df2.trans df
    clear df2 sz2 old2 new2 hb
    clear x83
    refine wl_one (.eq (.slice Ad (l9).length Cd)) rfl 84 rfl (by rw [sz]; decide) (st_ext0 (.tmp 80) rfl x80 rfl) ?_
    intro f17 w17 df2 sz2 old2 new2 hb
    replace x1 := tr old2 x1 rfl
    replace x7 := tr old2 x7 rfl
    replace x8 := tr old2 x8 rfl
    replace x9 := tr old2 x9 rfl
    replace x10 := tr old2 x10 rfl
    replace x80 := tr old2 x80 rfl
    have x84 := Fk.e new2
    replace hvd := Fk.mono _ _ _ _ hvd hb
    replace hd := HD.below hd hb
    replace ho := HD.below ho hb
    replace bl := bgo bl hb
    replace sz := sz2.trans sz
    replace df := df2.trans df
    clear df2 sz2 old2 new2 hb
    refine wl_one (.eq (.bool b9)) rfl 85 rfl (by rw [sz]; decide) (st_ext1 (.tmp 80) rfl x80 rfl) ?_
    intro f18 w18 df2 sz2 old2 new2 hb
    replace x1 := tr old2 x1 rfl
    replace x7 := tr old2 x7 rfl
    replace x8 := tr old2 x8 rfl
    replace x9 := tr old2 x9 rfl
    replace x10 := tr old2 x10 rfl
    replace x80 := tr old2 x80 rfl
    replace x84 := tr old2 x84 rfl
    have x85 := Fk.e new2
    replace hvd := Fk.mono _ _ _ _ hvd hb
    replace hd := HD.below hd hb
    replace ho := HD.below ho hb
    replace bl := bgo bl hb
    replace sz := sz2.trans sz
    replace df := df2.trans df
    clear df2 sz2 old2 new2 hb
    clear x80
    refine wl_one (.eq (.slice Ad (l9).length Cd)) rfl 13 rfl (by rw [sz]; decide) (st_assign (.tmp 84) rfl x84) ?_
    intro f19 w19 df2 sz2 old2 new2 hb
    replace x1 := tr old2 x1 rfl
    replace x7 := tr old2 x7 rfl
    replace x8 := tr old2 x8 rfl
    replace x9 := tr old2 x9 rfl
    replace x10 := tr old2 x10 rfl
    replace x84 := tr old2 x84 rfl
    replace x85 := tr old2 x85 rfl
    have x13 := Fk.e new2
    replace hvd := Fk.mono _ _ _ _ hvd hb
    replace hd := HD.below hd hb
    replace ho := HD.below ho hb
    replace bl := bgo bl hb
    replace sz := sz2.trans sz
    replace df := df2.trans df
    clear df2 sz2 old2 new2 hb
    clear x84
    refine wl_one (.eq (.bool b9)) rfl 14 rfl (by rw [sz]; decide) (st_assign (.tmp 85) rfl x85) ?_
    intro f20 w20 df2 sz2 old2 new2 hb
    replace x1 := tr old2 x1 rfl
    replace x7 := tr old2 x7 rfl
    replace x8 := tr old2 x8 rfl
    replace x9 := tr old2 x9 rfl
    replace x10 := tr old2 x10 rfl
    replace x85 := tr old2 x85 rfl
    replace x13 := tr old2 x13 rfl
    have x14 := Fk.e new2
    replace hvd := Fk.mono _ _ _ _ hvd hb
    replace hd := HD.below hd hb
    replace ho := HD.below ho hb
    replace bl := bgo bl hb
    replace sz := sz2.trans sz
    replace df := df2.trans df
    clear df2 sz2 old2 new2 hb
    refine wpList_nil ?_
    clear x85
    show Code.wp _ _ _ _ _
    refine wp_seq ?_
    obtain ⟨jF, hjF⟩ : ∃ F : Act → World → Prop, F = fun f v1 => f.tmps.size = 195 ∧ f.defers = [] ∧ f.eval (.tmp 1) = v2 ∧ f.eval (.tmp 7) = .int .i64 (N : Int) ∧ f.eval (.tmp 8) = .int .i64 (Z : Int) ∧ f.eval (.tmp 9) = .pointer (some ⟨gd, 0, none⟩) ∧ f.eval (.tmp 10) = .pointer (some ⟨go, 0, none⟩) ∧ f.eval (.tmp 102) = .bool false ∧ HD v1 gd M DD s ∧ HD v1 go MO DO (newd N Z) ∧ Below w.heap.size w (v1) := ⟨_, rfl⟩
    refine wp_join (F := jF) ?_ (fun f21 w21 hI => ?_)
    · refine wp_seq ?_
      have gs9 := gs.has
      have gs8 := gs.size
      unfold dif at hdif
      rw [show (newd N Z).has.length = N from List.length_replicate, show (newd N Z).size = Z from rfl] at hdif
      have h8 : ((N : Int) = 8 ∧ (Z : Int) = 16) ∨ (N : Int) ≠ 8 ∨ ((N : Int) = 8 ∧ (Z : Int) ≠ 16) := by omega
      rcases h8 with h8 | h8 | h8
      · skip
        rw [if_pos ⟨by omega, by omega⟩] at hdif
        injection hdif with q1 q2
        subst q1 q2
        refine wr_a [.eq (.bool true), .eq (.int .i64 (N : Int)), .eq (.bool true), .eq (.bool true), .eq (.int .i64 (Z : Int)), .eq (.bool true), .eq (.bool true), .eq (.bool false), .eq (.bool false), .eq (.bool true), .eq (.bool false), .eq (.bool false), .any, .any, .any, .eq (.bool false), .eq (.bool false)] (by rw [sz]; kernel_rfl) ⟨fun hw ac u K => ?_, fun hw ac u K => ?_, fun hw ac u K => ?_, fun hw ac u K => ?_, fun hw ac u K => ?_, fun hw ac u K => ?_, fun hw ac u K => ?_, fun hw ac u K => ?_, fun hw ac u K => ?_, fun hw ac u K => ?_, fun hw ac u K => ?_, fun hw ac u K => ?_, fun hw ac u K => ?_, fun hw ac u K => ?_, fun hw ac u K => ?_, fun hw ac u K => ?_, fun hw ac u K => ?_, trivial⟩ ?_
        · exact st_move (.tmp 14) rfl (K.t x14 rfl)
        · exact st_move (.tmp 7) rfl (K.t x7 rfl)
        · exact st_eqi 3 (.tmp 87) (.const (.int .i64 8)) rfl .i64 ((N : Int)) (8) (K.dep 1 87 rfl) rfl _ (by rw [eq_comm, decide_eq_true_iff]; omega)
        · exact st_move (.tmp 88) rfl (K.dep 2 88 rfl)
        · exact st_move (.tmp 8) rfl (K.t x8 rfl)
        · exact st_eqi 3 (.tmp 90) (.const (.int .i64 16)) rfl .i64 ((Z : Int)) (16) (K.dep 4 90 rfl) rfl _ (by rw [eq_comm, decide_eq_true_iff]; omega)
        · exact st_pick_t (.tmp 89) (.tmp 91) (.const (.bool false)) rfl (K.dep 3 89 rfl) (K.dep 5 91 rfl)
        · exact st_neqb (.tmp 86) (.tmp 92) rfl true (K.dep 0 86 rfl) (K.dep 6 92 rfl)
        · exact st_move (.tmp 93) rfl (K.dep 7 93 rfl)
        · exact st_move (.tmp 14) rfl (K.t x14 rfl)
        · exact st_not (.tmp 95) rfl true (K.dep 9 95 rfl)
        · exact st_move (.tmp 96) rfl (K.dep 10 96 rfl)
        · exact (Bool.false_ne_true hw).elim
        · exact (Bool.false_ne_true hw).elim
        · exact (Bool.false_ne_true hw).elim
        · exact st_pick_f' (.tmp 97) (.tmp 100) (.const (.bool false)) rfl (K.dep 11 97 rfl) rfl
        · exact st_pick_f' (.tmp 94) (.const (.bool true)) (.tmp 101) rfl (K.dep 8 94 rfl) (K.dep 15 101 rfl)
        intro f21 w21 A hb
        replace x1 := A.t x1 rfl
        replace x7 := A.t x7 rfl
        replace x8 := A.t x8 rfl
        replace x9 := A.t x9 rfl
        replace x10 := A.t x10 rfl
        replace x13 := A.t x13 rfl
        replace x14 := A.t x14 rfl
        have x102 := A.e 16 102 rfl rfl
        replace hvd := Fk.mono _ _ _ _ hvd hb
        replace hd := HD.below hd hb
        replace ho := HD.below ho hb
        replace bl := bgo bl hb
        replace sz := A.size.trans sz
        replace df := A.defs.trans df
        clear A hb
        clear x13
        clear x14
        show Code.wp _ _ _ _ _
        refine wp_cond_false x102 ?_
        refine wp_skip ?_
        clear hvd hvD hvO hvlt
        show jF f21 w21
        rw [hjF]
        exact ⟨sz, df, x1, x7, x8, x9, x10, x102, hd, ho, bl⟩
      · skip
        rw [if_neg (fun q => by omega)] at hdif
        injection hdif with q1 q2
        subst q1 q2
        refine wr_a [.eq (.bool false), .eq (.int .i64 (N : Int)), .eq (.bool false), .eq (.bool false), .any, .any, .eq (.bool false), .eq (.bool false), .eq (.bool false), .eq (.bool false), .eq (.bool true), .eq (.bool true), .eq (.slice Ad (([] : List Int)).length Cd), .eq (.int .i64 (((([] : List Int)).length : Nat) : Int)), .eq (.bool false), .eq (.bool false), .eq (.bool false)] (by rw [sz]; kernel_rfl) ⟨fun hw ac u K => ?_, fun hw ac u K => ?_, fun hw ac u K => ?_, fun hw ac u K => ?_, fun hw ac u K => ?_, fun hw ac u K => ?_, fun hw ac u K => ?_, fun hw ac u K => ?_, fun hw ac u K => ?_, fun hw ac u K => ?_, fun hw ac u K => ?_, fun hw ac u K => ?_, fun hw ac u K => ?_, fun hw ac u K => ?_, fun hw ac u K => ?_, fun hw ac u K => ?_, fun hw ac u K => ?_, trivial⟩ ?_
        · exact st_move (.tmp 14) rfl (K.t x14 rfl)
        · exact st_move (.tmp 7) rfl (K.t x7 rfl)
        · exact st_eqi 3 (.tmp 87) (.const (.int .i64 8)) rfl .i64 ((N : Int)) (8) (K.dep 1 87 rfl) rfl _ (by rw [eq_comm, decide_eq_false_iff_not]; omega)
        · exact st_move (.tmp 88) rfl (K.dep 2 88 rfl)
        · exact (Bool.false_ne_true hw).elim
        · exact (Bool.false_ne_true hw).elim
        · exact st_pick_f' (.tmp 89) (.tmp 91) (.const (.bool false)) rfl (K.dep 3 89 rfl) rfl
        · exact st_neqb (.tmp 86) (.tmp 92) rfl false (K.dep 0 86 rfl) (K.dep 6 92 rfl)
        · exact st_move (.tmp 93) rfl (K.dep 7 93 rfl)
        · exact st_move (.tmp 14) rfl (K.t x14 rfl)
        · exact st_not (.tmp 95) rfl false (K.dep 9 95 rfl)
        · exact st_move (.tmp 96) rfl (K.dep 10 96 rfl)
        · exact st_move (.tmp 13) rfl (K.t x13 rfl)
        · exact st_lenis (.tmp 98) rfl (fk_val (K.dep 12 98 rfl) (Fk.mono _ _ _ _ hvd K.grow))
        · exact st_neqi 3 (.tmp 99) (.const (.int .i64 0)) rfl .i64 ((((([] : List Int)).length : Nat) : Int)) (0) (K.dep 13 99 rfl) rfl _ (by simp)
        · exact st_pick_t (.tmp 97) (.tmp 100) (.const (.bool false)) rfl (K.dep 11 97 rfl) (K.dep 14 100 rfl)
        · exact st_pick_f' (.tmp 94) (.const (.bool true)) (.tmp 101) rfl (K.dep 8 94 rfl) (K.dep 15 101 rfl)
        intro f21 w21 A hb
        replace x1 := A.t x1 rfl
        replace x7 := A.t x7 rfl
        replace x8 := A.t x8 rfl
        replace x9 := A.t x9 rfl
        replace x10 := A.t x10 rfl
        replace x13 := A.t x13 rfl
        replace x14 := A.t x14 rfl
        have x102 := A.e 16 102 rfl rfl
        replace hvd := Fk.mono _ _ _ _ hvd hb
        replace hd := HD.below hd hb
        replace ho := HD.below ho hb
        replace bl := bgo bl hb
        replace sz := A.size.trans sz
        replace df := A.defs.trans df
        clear A hb
        clear x13
        clear x14
        show Code.wp _ _ _ _ _
        refine wp_cond_false x102 ?_
        refine wp_skip ?_
        clear hvd hvD hvO hvlt
        show jF f21 w21
        rw [hjF]
        exact ⟨sz, df, x1, x7, x8, x9, x10, x102, hd, ho, bl⟩
      rw [if_neg (fun q => by omega)] at hdif
      injection hdif with q1 q2
      subst q1 q2
      refine wr_a [.eq (.bool false), .eq (.int .i64 (N : Int)), .eq (.bool true), .eq (.bool true), .eq (.int .i64 (Z : Int)), .eq (.bool false), .eq (.bool false), .eq (.bool false), .eq (.bool false), .eq (.bool false), .eq (.bool true), .eq (.bool true), .eq (.slice Ad (([] : List Int)).length Cd), .eq (.int .i64 (((([] : List Int)).length : Nat) : Int)), .eq (.bool false), .eq (.bool false), .eq (.bool false)] (by rw [sz]; kernel_rfl) ⟨fun hw ac u K => ?_, fun hw ac u K => ?_, fun hw ac u K => ?_, fun hw ac u K => ?_, fun hw ac u K => ?_, fun hw ac u K => ?_, fun hw ac u K => ?_, fun hw ac u K => ?_, fun hw ac u K => ?_, fun hw ac u K => ?_, fun hw ac u K => ?_, fun hw ac u K => ?_, fun hw ac u K => ?_, fun hw ac u K => ?_, fun hw ac u K => ?_, fun hw ac u K => ?_, fun hw ac u K => ?_, trivial⟩ ?_
      · exact st_move (.tmp 14) rfl (K.t x14 rfl)
      · exact st_move (.tmp 7) rfl (K.t x7 rfl)
      · exact st_eqi 3 (.tmp 87) (.const (.int .i64 8)) rfl .i64 ((N : Int)) (8) (K.dep 1 87 rfl) rfl _ (by rw [eq_comm, decide_eq_true_iff]; omega)
      · exact st_move (.tmp 88) rfl (K.dep 2 88 rfl)
      · exact st_move (.tmp 8) rfl (K.t x8 rfl)
      · exact st_eqi 3 (.tmp 90) (.const (.int .i64 16)) rfl .i64 ((Z : Int)) (16) (K.dep 4 90 rfl) rfl _ (by rw [eq_comm, decide_eq_false_iff_not]; omega)
      · exact st_pick_t (.tmp 89) (.tmp 91) (.const (.bool false)) rfl (K.dep 3 89 rfl) (K.dep 5 91 rfl)
      · exact st_neqb (.tmp 86) (.tmp 92) rfl false (K.dep 0 86 rfl) (K.dep 6 92 rfl)
      · exact st_move (.tmp 93) rfl (K.dep 7 93 rfl)
      · exact st_move (.tmp 14) rfl (K.t x14 rfl)
      · exact st_not (.tmp 95) rfl false (K.dep 9 95 rfl)
      · exact st_move (.tmp 96) rfl (K.dep 10 96 rfl)
      · exact st_move (.tmp 13) rfl (K.t x13 rfl)
      · exact st_lenis (.tmp 98) rfl (fk_val (K.dep 12 98 rfl) (Fk.mono _ _ _ _ hvd K.grow))
      · exact st_neqi 3 (.tmp 99) (.const (.int .i64 0)) rfl .i64 ((((([] : List Int)).length : Nat) : Int)) (0) (K.dep 13 99 rfl) rfl _ (by simp)
      · exact st_pick_t (.tmp 97) (.tmp 100) (.const (.bool false)) rfl (K.dep 11 97 rfl) (K.dep 14 100 rfl)
      · exact st_pick_f' (.tmp 94) (.const (.bool true)) (.tmp 101) rfl (K.dep 8 94 rfl) (K.dep 15 101 rfl)
      intro f21 w21 A hb
      replace x1 := A.t x1 rfl
      replace x7 := A.t x7 rfl
      replace x8 := A.t x8 rfl
      replace x9 := A.t x9 rfl
      replace x10 := A.t x10 rfl
      replace x13 := A.t x13 rfl
      replace x14 := A.t x14 rfl
      have x102 := A.e 16 102 rfl rfl
      replace hvd := Fk.mono _ _ _ _ hvd hb
      replace hd := HD.below hd hb
      replace ho := HD.below ho hb
      replace bl := bgo bl hb
      replace sz := A.size.trans sz
      replace df := A.defs.trans df
      clear A hb
      clear x13
      clear x14
      show Code.wp _ _ _ _ _
      refine wp_cond_false x102 ?_
      refine wp_skip ?_
      clear hvd hvD hvO hvlt
      show jF f21 w21
      rw [hjF]
      exact ⟨sz, df, x1, x7, x8, x9, x10, x102, hd, ho, bl⟩
    clear sz df bl bl0 x1 x7 x8 x9 x10 x13 x14 hd ho hvd
    rw [hjF] at hI
    clear hjF
    obtain ⟨sz, df, x1, x7, x8, x9, x10, x102, hd, ho, bl⟩ := hI
    have bl0 := bl
    show Code.wp _ _ _ _ _
    refine wp_seq ?_
    clear hvD hvO hvlt
    refine wr_s [.eq (.pointer (some ⟨gd, 0, none⟩))] (by rw [sz]; kernel_rfl) ⟨fun hw ac u K => ?_, trivial⟩ ?_
    · exact st_move (.tmp 9) rfl (K.t x9 rfl)
    intro f22 w22 A hb
    replace x1 := A.t x1 rfl
    replace x7 := A.t x7 rfl
    replace x8 := A.t x8 rfl
    replace x9 := A.t x9 rfl
    replace x10 := A.t x10 rfl
    replace x102 := A.t x102 rfl
    have x103 := A.e 0 103 rfl rfl
    replace hd := HD.below hd hb
    replace ho := HD.below ho hb
    replace bl := bgo bl hb
    replace sz := A.size.trans sz
    replace df := A.defs.trans df
    clear A hb
    clear x102
    refine wl_call 21 (.func 21) _ _ #[.pointer (some ⟨gd, 0, none⟩)] rfl 104 rfl (by rw [sz]; decide) rfl rfl (one_arg x103) Try.enter21 (fun u W' => ∃ (gc : Nat) (MC C : Nat → Prop), u = .pointer (some ⟨gc, 0, none⟩) ∧ HD W' gc MC C s ∧ (∀ j, MC j → w22.heap.size ≤ j) ∧ (∀ j, C j → ¬ M j) ∧ (∀ j, C j → DD j ∨ w22.heap.size ≤ j) ∧ Below w22.heap.size w22 W') ((fk_dcopy hd (by have := gs.has; omega)).mono (by rintro e w' ⟨gc, MC, C, rfl, q⟩; exact ⟨_, rfl, gc, MC, C, rfl, q⟩)) ?_
    rintro f23 w23 df2 sz2 old2 ⟨gc, MC, DC, x104, hc, hM0, hCD, hC0, hb⟩
    have hDC : ∀ j, DC j → w.heap.size ≤ j := fun j q => (hC0 j q).elim (hDD j) (fun q => Nat.le_trans bl.size q)
    have hMD : ∀ j, DD j → ¬ MC j := fun j q q2 => by have h1 := hM0 j q2; have h2 := hd.lt j q; omega
    clear hC0 hM0
    replace bl0 := bl
    replace x1 := tr old2 x1 rfl
    replace x7 := tr old2 x7 rfl
    replace x8 := tr old2 x8 rfl
    replace x9 := tr old2 x9 rfl
    replace x10 := tr old2 x10 rfl
    replace x103 := tr old2 x103 rfl
    replace hd := HD.below hd hb
    replace ho := HD.below ho hb
    replace bl := bgo bl hb
    replace sz := sz2.trans sz
    replace df := df2.trans df
    clear df2 sz2 old2 hb
    clear x103
    refine wl_one (.eq (.pointer (some ⟨gc, 0, none⟩))) rfl 15 rfl (by rw [sz]; decide) (st_assign (.tmp 104) rfl x104) ?_
    intro f24 w24 df2 sz2 old2 new2 hb
    replace x1 := tr old2 x1 rfl
    replace x7 := tr old2 x7 rfl
    replace x8 := tr old2 x8 rfl
    replace x9 := tr old2 x9 rfl
    replace x10 := tr old2 x10 rfl
    replace x104 := tr old2 x104 rfl
    have x15 := Fk.e new2
    replace hd := HD.below hd hb
    replace ho := HD.below ho hb
    replace hc := HD.below hc hb
    replace bl := bgo bl hb
    replace sz := sz2.trans sz
    replace df := df2.trans df
    clear df2 sz2 old2 new2 hb
    refine wpList_nil ?_
    clear x104
    show Code.wp _ _ _ _ _
    refine wp_seq ?_
    refine wp_seq ?_
    refine wr_a [.eq (.pointer (some ⟨gc, 0, none⟩)), .eq (.bool false)] (by rw [sz]; kernel_rfl) ⟨fun hw ac u K => ?_, fun hw ac u K => ?_, trivial⟩ ?_
    · exact st_move (.tmp 15) rfl (K.t x15 rfl)
    · exact st_bin .eql 23 23 (.tmp 105) _ rfl (K.dep 0 105 rfl) rfl (by kernel_rfl)
    intro f25 w25 A hb
    replace x1 := A.t x1 rfl
    replace x7 := A.t x7 rfl
    replace x8 := A.t x8 rfl
    replace x9 := A.t x9 rfl
    replace x10 := A.t x10 rfl
    replace x15 := A.t x15 rfl
    have x106 := A.e 1 106 rfl rfl
    replace hd := HD.below hd hb
    replace ho := HD.below ho hb
    replace hc := HD.below hc hb
    replace bl := bgo bl hb
    replace sz := A.size.trans sz
    replace df := A.defs.trans df
    clear A hb
    show Code.wp _ _ _ _ _
    refine wp_cond_false x106 ?_
    refine wp_skip ?_
    show Code.wp _ _ _ _ _
    refine wp_seq ?_
    refine wp_seq ?_
    clear x10
    clear ho hQO hQD hDO
    have ho := hd
    have hDO := hDD
    have hQO : ∀ j, DD j → ¬ MC j := hMD
    have hQD : ∀ j, DC j → ¬ M j := hCD
    obtain ⟨go, hgo⟩ : ∃ q, q = gd := ⟨_, rfl⟩
    obtain ⟨DO, hDo⟩ : ∃ q, q = DD := ⟨_, rfl⟩
    obtain ⟨MO, hMo⟩ : ∃ q, q = M := ⟨_, rfl⟩
    rw [← hgo, ← hDo, ← hMo] at ho
    rw [← hMo] at hQD
    rw [← hDo] at hDO hQO
    clear hd hDD hCD hMD
    replace x9 : f25.eval (.tmp 9) = .pointer (some ⟨go, 0, none⟩) := by rw [hgo]; exact x9
    clear hgo hDo hMo
    clear DD
    obtain ⟨gd, rfl⟩ : ∃ q, q = gc := ⟨_, rfl⟩
    obtain ⟨M, rfl⟩ : ∃ q, q = MC := ⟨_, rfl⟩
    obtain ⟨DD, rfl⟩ : ∃ q, q = DC := ⟨_, rfl⟩
    have hd := hc
    have hDD := hDC
    clear hc hDC
    obtain ⟨so, hso⟩ : ∃ q, q = s := ⟨_, rfl⟩
    rw [← hso] at ho
    have gt : Gd so 8 16 30 := by rw [hso]; exact gs.le (by omega)
    have hont : On so := by rw [hso]; exact hon9
    replace gs := gs.le (show k ≤ 30 by omega)
    clear hso
    refine wr_a [.eq (v2), .eq (.int .i64 (((l2).length : Nat) : Int)), .eq (.int .i64 0)] (by rw [sz]; kernel_rfl) ⟨fun hw ac u K => ?_, fun hw ac u K => ?_, fun hw ac u K => ?_, trivial⟩ ?_
    · exact st_move (.tmp 1) rfl (K.t x1 rfl)
    · exact st_leno (.tmp 107) rfl (fk_val (K.dep 0 107 rfl) (Fk.mono _ _ _ _ hv2 (bgo bl K.grow)))
    · exact st_move (.const (.int .i64 0)) rfl rfl
    intro f26 w26 A hb
    replace x1 := A.t x1 rfl
    replace x7 := A.t x7 rfl
    replace x8 := A.t x8 rfl
    replace x9 := A.t x9 rfl
    replace x15 := A.t x15 rfl
    replace x106 := A.t x106 rfl
    have x107 := A.e 0 107 rfl rfl
    have x108 := A.e 1 108 rfl rfl
    have x109 := A.e 2 109 rfl rfl
    replace hd := HD.below hd hb
    replace ho := HD.below ho hb
    replace bl := bgo bl hb
    replace sz := A.size.trans sz
    replace df := A.defs.trans df
    clear A hb
    clear x106
    show Code.wp _ _ _ _ _
    refine wp_block ?_
    refine wp_loop (fun f v1 => ∃ (k : Nat) (s : Dst) (DD : Nat → Prop), k ≤ l2.length ∧ Gd s 8 16 (30 + k) ∧ On s ∧ (∀ j, DD j → w.heap.size ≤ j) ∧ (∀ j, DO j → ¬ M j) ∧ (∀ j, DD j → ¬ MO j) ∧ f.tmps.size = 195 ∧ f.defers = [] ∧ f.eval (.tmp 1) = v2 ∧ f.eval (.tmp 7) = .int .i64 (N : Int) ∧ f.eval (.tmp 8) = .int .i64 (Z : Int) ∧ f.eval (.tmp 9) = .pointer (some ⟨go, 0, none⟩) ∧ f.eval (.tmp 15) = .pointer (some ⟨gd, 0, none⟩) ∧ f.eval (.tmp 107) = v2 ∧ f.eval (.tmp 108) = .int .i64 (((l2).length : Nat) : Int) ∧ f.eval (.tmp 109) = .int .i64 (k : Int) ∧ HD v1 gd M DD s ∧ HD v1 go MO DO so ∧ Below w.heap.size w (v1)) (fun f _ => l2.length - (intOf (f.eval (.tmp 109))).toNat) ⟨0, s, DD, Nat.zero_le _, gs, hon9, hDD, hQO, hQD, sz, df, x1, x7, x8, x9, x15, x107, x108, x109, hd, ho, bl⟩ ?_
    intro f27 w27 hI
    clear sz df bl bl0 x1 x7 x8 x9 x15 x107 x108 x109 hd ho
    obtain ⟨k, s, DD, hk9, gs, hon9, hDD, hQO, hQD, sz, df, x1, x7, x8, x9, x15, x107, x108, x109, hd, ho, bl⟩ := hI
    have bl0 := bl
    have hcnt := x109
    refine wp_seq ?_
    by_cases hlt : k < l2.length
    rotate_left
    · skip
      refine wr_a [.eq (.bool false)] (by rw [sz]; kernel_rfl) ⟨fun hw ac u K => ?_, trivial⟩ ?_
      · exact st_lss 3 (.tmp 109) (.tmp 108) rfl .i64 ((k : Int)) ((((l2).length : Nat) : Int)) (K.t x109 rfl) (K.t x108 rfl) _ (by rw [eq_comm, decide_eq_false_iff_not]; exact fun h => hlt (Int.ofNat_lt.1 h))
      intro f28 w28 A hb
      replace x1 := A.t x1 rfl
      replace x7 := A.t x7 rfl
      replace x8 := A.t x8 rfl
      replace x9 := A.t x9 rfl
      replace x15 := A.t x15 rfl
      replace x107 := A.t x107 rfl
      replace x108 := A.t x108 rfl
      replace x109 := A.t x109 rfl
      have x110 := A.e 0 110 rfl rfl
      replace hd := HD.below hd hb
      replace ho := HD.below ho hb
      replace bl := bgo bl hb
      replace sz := A.size.trans sz
      replace df := A.defs.trans df
      clear A hb
      show Code.wp _ _ _ _ _
      refine wp_seq ?_
      refine wp_cond_false x110 ?_
      refine wp_exit ?_
      show Code.wp _ _ _ _ _
      refine wp_seq ?_
      clear x107
      clear x108
      clear x109
      obtain ⟨M8, hM8⟩ : ∃ M : Nat, M = 8 := ⟨_, rfl⟩
      obtain ⟨pp, hpp⟩ : ∃ pp : Nat → Bool, pp = fun i => decide (nowd s i ≠ nowd so i) := ⟨_, rfl⟩
      have hdif : dif s so = (fil pp M8, true) := by
        unfold dif
        rw [if_pos ⟨by rw [gs.has, gt.has], by rw [gs.size, gt.size]⟩, gs.has, hpp, hM8]
      refine wr_s [.eq (.pointer (some ⟨gd, 0, none⟩)), .eq (.pointer (some ⟨go, 0, none⟩))] (by rw [sz]; kernel_rfl) ⟨fun hw ac u K => ?_, fun hw ac u K => ?_, trivial⟩ ?_
      · exact st_move (.tmp 15) rfl (K.t x15 rfl)
      · exact st_move (.tmp 9) rfl (K.t x9 rfl)
      intro f29 w29 A hb
      replace x1 := A.t x1 rfl
      replace x7 := A.t x7 rfl
      replace x8 := A.t x8 rfl
      replace x9 := A.t x9 rfl
      replace x15 := A.t x15 rfl
      replace x110 := A.t x110 rfl
      have x139 := A.e 0 139 rfl rfl
      have x140 := A.e 1 140 rfl rfl
      replace hd := HD.below hd hb
      replace ho := HD.below ho hb
      replace bl := bgo bl hb
      replace sz := A.size.trans sz
      replace df := A.defs.trans df
      clear A hb
      clear x110
      refine wl_call 25 (.func 25) _ _ #[.pointer (some ⟨gd, 0, none⟩), .pointer (some ⟨go, 0, none⟩)] rfl 141 rfl (by rw [sz]; decide) rfl rfl (two_arg x139 x140) Try.enter25 (fun u W' => ∃ (A : Option Addr) (C : Nat), u = .tuple #[.slice A (fil pp M8).length C, .bool true] ∧ (Fk.is (fil pp M8)).f (.slice A (fil pp M8).length C) W' ∧ (∀ a, A = some a → w29.heap.size ≤ a.block ∧ a.block < W'.heap.size) ∧ Below w29.heap.size w29 W') ((show Calls Try.prog 25 #[.pointer (some ⟨gd, 0, none⟩), .pointer (some ⟨go, 0, none⟩)] w29 (fun e W' => ∃ (A : Option Addr) (C : Nat), e = .returned (.tuple #[.slice A (fil pp M8).length C, .bool true]) ∧ _) from by have := fk_ddiffer hd ho (by have := gs.has; omega) (by first | (rw [show (newd N Z).has.length = N from List.length_replicate]; omega) | (have := gt.has; omega)); rw [hdif] at this; exact this).mono (by rintro e w' ⟨A, C, rfl, q⟩; exact ⟨_, rfl, A, C, rfl, q⟩)) ?_
      rintro f30 w30 df2 sz2 old2 ⟨Ad, Cd, x141, hvd, hnw, hb⟩
      have hvD : ∀ a, Ad = some a → ¬ DD a.block := fun a e q => by have h1 := (hnw a e).1; have h2 := hd.lt _ q; omega
      have hvO : ∀ a, Ad = some a → ¬ DO a.block := fun a e q => by have h1 := (hnw a e).1; have h2 := ho.lt _ q; omega
      have hvlt : ∀ a, Ad = some a → a.block < w30.heap.size := fun a e => (hnw a e).2
      clear hnw
      replace bl0 := bl
      replace x1 := tr old2 x1 rfl
      replace x7 := tr old2 x7 rfl
      replace x8 := tr old2 x8 rfl
      replace x9 := tr old2 x9 rfl
      replace x15 := tr old2 x15 rfl
      replace x139 := tr old2 x139 rfl
      replace x140 := tr old2 x140 rfl
      replace hd := HD.below hd hb
      replace ho := HD.below ho hb
      replace bl := bgo bl hb
      replace sz := sz2.trans sz
      replace df := df2.trans df
      clear df2 sz2 old2 hb
      clear x139
      clear x140
      refine wl_one (.eq (.tuple #[.slice Ad (fil pp M8).length Cd, .bool true])) rfl 138 rfl (by rw [sz]; decide) (st_move (.tmp 141) rfl x141) ?_
      intro f31 w31 df2 sz2 old2 new2 hb
      replace x1 := tr old2 x1 rfl
      replace x7 := tr old2 x7 rfl
      replace x8 := tr old2 x8 rfl
      replace x9 := tr old2 x9 rfl
      replace x15 := tr old2 x15 rfl
      replace x141 := tr old2 x141 rfl
      have x138 := Fk.e new2
      replace hvd := Fk.mono _ _ _ _ hvd hb
      replace hd := HD.below hd hb
      replace ho := HD.below ho hb
      replace hvlt := fun a e => Nat.lt_of_lt_of_le (hvlt a e) hb.size
      replace bl := bgo bl hb
      replace sz := sz2.trans sz
      replace df := df2.trans df
      clear df2 sz2 old2 new2 hb
      clear x141
      refine wl_one (.eq (.slice Ad (fil pp M8).length Cd)) rfl 142 rfl (by rw [sz]; decide) (st_ext0 (.tmp 138) rfl x138 rfl) ?_
      intro f32 w32 df2 sz2 old2 new2 hb
      replace x1 := tr old2 x1 rfl
      replace x7 := tr old2 x7 rfl
      replace x8 := tr old2 x8 rfl
      replace x9 := tr old2 x9 rfl
      replace x15 := tr old2 x15 rfl
      replace x138 := tr old2 x138 rfl
      have x142 := Fk.e new2
      replace hvd := Fk.mono _ _ _ _ hvd hb
      replace hd := HD.below hd hb
      replace ho := HD.below ho hb
      replace hvlt := fun a e => Nat.lt_of_lt_of_le (hvlt a e) hb.size
      replace bl := bgo bl hb
      replace sz := sz2.trans sz
      replace df := df2.trans df
      clear df2 sz2 old2 new2 hb
      refine wl_one (.eq (.bool true)) rfl 143 rfl (by rw [sz]; decide) (st_ext1 (.tmp 138) rfl x138 rfl) ?_
      intro f33 w33 df2 sz2 old2 new2 hb
      replace x1 := tr old2 x1 rfl
      replace x7 := tr old2 x7 rfl
      replace x8 := tr old2 x8 rfl
      replace x9 := tr old2 x9 rfl
      replace x15 := tr old2 x15 rfl
      replace x138 := tr old2 x138 rfl
      replace x142 := tr old2 x142 rfl
      have x143 := Fk.e new2
      replace hvd := Fk.mono _ _ _ _ hvd hb
      replace hd := HD.below hd hb
      replace ho := HD.below ho hb
      replace hvlt := fun a e => Nat.lt_of_lt_of_le (hvlt a e) hb.size
      replace bl := bgo bl hb
      replace sz := sz2.trans sz
      replace df := df2.trans df
      clear df2 sz2 old2 new2 hb
      clear x138
      refine wl_one (.eq (.slice Ad (fil pp M8).length Cd)) rfl 18 rfl (by rw [sz]; decide) (st_assign (.tmp 142) rfl x142) ?_
      intro f34 w34 df2 sz2 old2 new2 hb
      replace x1 := tr old2 x1 rfl
      replace x7 := tr old2 x7 rfl
      replace x8 := tr old2 x8 rfl
      replace x9 := tr old2 x9 rfl
      replace x15 := tr old2 x15 rfl
      replace x142 := tr old2 x142 rfl
      replace x143 := tr old2 x143 rfl
      have x18 := Fk.e new2
      replace hvd := Fk.mono _ _ _ _ hvd hb
      replace hd := HD.below hd hb
      replace ho := HD.below ho hb
      replace hvlt := fun a e => Nat.lt_of_lt_of_le (hvlt a e) hb.size
      replace bl := bgo bl hb
      replace sz := sz2.trans sz
      replace df := df2.trans df
      clear df2 sz2 old2 new2 hb
      clear x142
      refine wl_one (.eq (.bool true)) rfl 19 rfl (by rw [sz]; decide) (st_assign (.tmp 143) rfl x143) ?_
      intro f35 w35 df2 sz2 old2 new2 hb
      replace x1 := tr old2 x1 rfl
      replace x7 := tr old2 x7 rfl
      replace x8 := tr old2 x8 rfl
      replace x9 := tr old2 x9 rfl
      replace x15 := tr old2 x15 rfl
      replace x143 := tr old2 x143 rfl
      replace x18 := tr old2 x18 rfl
      have x19 := Fk.e new2
      replace hvd := Fk.mono _ _ _ _ hvd hb
      replace hd := HD.below hd hb
      replace ho := HD.below ho hb
      replace hvlt := fun a e => Nat.lt_of_lt_of_le (hvlt a e) hb.size
      replace bl := bgo bl hb
      replace sz := sz2.trans sz
      replace df := df2.trans df
      clear df2 sz2 old2 new2 hb
      refine wpList_nil ?_
      clear x143
      obtain ⟨vl, hvl⟩ : ∃ u, u = Value.slice Ad (fil pp M8).length Cd := ⟨_, rfl⟩
      rw [← hvl] at hvd x18
      show Code.wp _ _ _ _ _
      refine wp_seq ?_
      refine wr_a [.eq (.int .i64 0)] (by rw [sz]; kernel_rfl) ⟨fun hw ac u K => ?_, trivial⟩ ?_
      · exact st_assign (.const (.int .i64 0)) rfl rfl
      intro f36 w36 A hb
      replace x1 := A.t x1 rfl
      replace x7 := A.t x7 rfl
      replace x8 := A.t x8 rfl
      replace x9 := A.t x9 rfl
      replace x15 := A.t x15 rfl
      replace x18 := A.t x18 rfl
      replace x19 := A.t x19 rfl
      have x20 := A.e 0 20 rfl rfl
      replace hvd := Fk.mono _ _ _ _ hvd hb
      replace hd := HD.below hd hb
      replace ho := HD.below ho hb
      replace hvlt := fun a e => Nat.lt_of_lt_of_le (hvlt a e) hb.size
      replace bl := bgo bl hb
      replace sz := A.size.trans sz
      replace df := A.defs.trans df
      clear A hb
      show Code.wp _ _ _ _ _
      refine wp_seq ?_
      refine wp_seq ?_
      refine wr_a [.eq (.int .i64 0)] (by rw [sz]; kernel_rfl) ⟨fun hw ac u K => ?_, trivial⟩ ?_
      · exact st_move (.const (.int .i64 0)) rfl rfl
      intro f37 w37 A hb
      replace x1 := A.t x1 rfl
      replace x7 := A.t x7 rfl
      replace x8 := A.t x8 rfl
      replace x9 := A.t x9 rfl
      replace x15 := A.t x15 rfl
      replace x18 := A.t x18 rfl
      replace x19 := A.t x19 rfl
      replace x20 := A.t x20 rfl
      have x144 := A.e 0 144 rfl rfl
      replace hvd := Fk.mono _ _ _ _ hvd hb
      replace hd := HD.below hd hb
      replace ho := HD.below ho hb
      replace hvlt := fun a e => Nat.lt_of_lt_of_le (hvlt a e) hb.size
      replace bl := bgo bl hb
      replace sz := A.size.trans sz
      replace df := A.defs.trans df
      clear A hb
      show Code.wp _ _ _ _ _
      refine wp_block ?_
      refine wp_loop (fun f v1 => ∃ (k n9 : Nat) (DD DO : Nat → Prop), k ≤ 8 ∧ n9 = (fil pp k).length ∧ (∀ j, DD j → w.heap.size ≤ j) ∧ (∀ j, DO j → w.heap.size ≤ j) ∧ (∀ j, DO j → ¬ M j) ∧ (∀ j, DD j → ¬ MO j) ∧ (∀ a, Ad = some a → ¬ DD a.block) ∧ (∀ a, Ad = some a → ¬ DO a.block) ∧ f.tmps.size = 195 ∧ f.defers = [] ∧ f.eval (.tmp 1) = v2 ∧ f.eval (.tmp 7) = .int .i64 (N : Int) ∧ f.eval (.tmp 8) = .int .i64 (Z : Int) ∧ f.eval (.tmp 9) = .pointer (some ⟨go, 0, none⟩) ∧ f.eval (.tmp 15) = .pointer (some ⟨gd, 0, none⟩) ∧ f.eval (.tmp 18) = vl ∧ f.eval (.tmp 19) = .bool true ∧ f.eval (.tmp 20) = .int .i64 (n9 : Int) ∧ f.eval (.tmp 144) = .int .i64 (k : Int) ∧ Fk.f (.is (fil pp M8)) (vl) v1 ∧ HD v1 gd M DD s ∧ HD v1 go MO DO so ∧ (∀ a, Ad = some a → a.block < v1.heap.size) ∧ Below w.heap.size w (v1)) (fun f _ => 8 - (intOf (f.eval (.tmp 144))).toNat) ⟨0, 0, DD, DO, Nat.zero_le _, rfl, hDD, hDO, hQO, hQD, hvD, hvO, sz, df, x1, x7, x8, x9, x15, x18, x19, x20, x144, hvd, hd, ho, hvlt, bl⟩ ?_
      intro f38 w38 hI
      clear sz df bl bl0 x1 x7 x8 x9 x15 x18 x19 x20 x144 hvd hd ho hvlt
      obtain ⟨k, n9, DD, DO, hk9, hn9, hDD, hDO, hQO, hQD, hvD, hvO, sz, df, x1, x7, x8, x9, x15, x18, x19, x20, x144, hvd, hd, ho, hvlt, bl⟩ := hI
      have bl0 := bl
      have hcnt := x144
      refine wp_seq ?_
      by_cases hlt : k < 8
      rotate_left
      · skip
        refine wr_a [.eq (.bool false)] (by rw [sz]; kernel_rfl) ⟨fun hw ac u K => ?_, trivial⟩ ?_
        · exact st_lss 3 (.tmp 144) (.const (.int .i64 8)) rfl .i64 ((k : Int)) (8) (K.t x144 rfl) rfl _ (by rw [eq_comm, decide_eq_false_iff_not]; omega)
        intro f39 w39 A hb
        replace x1 := A.t x1 rfl
        replace x7 := A.t x7 rfl
        replace x8 := A.t x8 rfl
        replace x9 := A.t x9 rfl
        replace x15 := A.t x15 rfl
        replace x18 := A.t x18 rfl
        replace x19 := A.t x19 rfl
        replace x20 := A.t x20 rfl
        replace x144 := A.t x144 rfl
        have x145 := A.e 0 145 rfl rfl
        replace hvd := Fk.mono _ _ _ _ hvd hb
        replace hd := HD.below hd hb
        replace ho := HD.below ho hb
        replace hvlt := fun a e => Nat.lt_of_lt_of_le (hvlt a e) hb.size
        replace bl := bgo bl hb
        replace sz := A.size.trans sz
        replace df := A.defs.trans df
        clear A hb
        show Code.wp _ _ _ _ _
        refine wp_seq ?_
        refine wp_cond_false x145 ?_
        refine wp_exit ?_
        show Code.wp _ _ _ _ _
        refine wp_seq ?_
        obtain rfl : M8 = k := by omega
        refine wr_a [.eq (.bool true), .eq (.bool true), .eq (.int .i64 (n9 : Int)), .eq (vl), .eq (.int .i64 (((fil pp M8).length : Nat) : Int)), .eq (.bool true), .eq (.bool true), .eq (.bool true), .eq (.bool true), .eq (.bool true), .eq (.bool true)] (by rw [sz]; kernel_rfl) ⟨fun hw ac u K => ?_, fun hw ac u K => ?_, fun hw ac u K => ?_, fun hw ac u K => ?_, fun hw ac u K => ?_, fun hw ac u K => ?_, fun hw ac u K => ?_, fun hw ac u K => ?_, fun hw ac u K => ?_, fun hw ac u K => ?_, fun hw ac u K => ?_, trivial⟩ ?_
        · exact st_move (.tmp 19) rfl (K.t x19 rfl)
        · exact st_move (.tmp 185) rfl (K.dep 0 185 rfl)
        · exact st_move (.tmp 20) rfl (K.t x20 rfl)
        · exact st_move (.tmp 18) rfl (K.t x18 rfl)
        · exact st_lenis (.tmp 188) rfl (fk_val (K.dep 3 188 rfl) (Fk.mono _ _ _ _ hvd K.grow))
        · exact st_eqi 3 (.tmp 187) (.tmp 189) rfl .i64 ((n9 : Int)) ((((fil pp M8).length : Nat) : Int)) (K.dep 2 187 rfl) (K.dep 4 189 rfl) _ (by symm; rw [decide_eq_true_iff]; omega)
        · exact st_pick_t (.tmp 186) (.tmp 190) (.const (.bool false)) rfl (K.dep 1 186 rfl) (K.dep 5 190 rfl)
        · exact st_move (.tmp 191) rfl (K.dep 6 191 rfl)
        · exact st_call 9 (.func 9) _ _ _ rfl rfl rfl Try.enter9 (awake_any _)
        · exact st_pick_t (.tmp 192) (.tmp 193) (.const (.bool false)) rfl (K.dep 7 192 rfl) (K.dep 8 193 rfl)
        · exact st_assign (.tmp 194) rfl (K.dep 9 194 rfl)
        intro f40 w40 A hb
        replace x1 := A.t x1 rfl
        replace x7 := A.t x7 rfl
        replace x8 := A.t x8 rfl
        replace x9 := A.t x9 rfl
        replace x15 := A.t x15 rfl
        replace x18 := A.t x18 rfl
        replace x19 := A.t x19 rfl
        replace x20 := A.t x20 rfl
        replace x144 := A.t x144 rfl
        replace x145 := A.t x145 rfl
        have x6 := A.e 10 6 rfl rfl
        replace hvd := Fk.mono _ _ _ _ hvd hb
        replace hd := HD.below hd hb
        replace ho := HD.below ho hb
        replace hvlt := fun a e => Nat.lt_of_lt_of_le (hvlt a e) hb.size
        replace bl := bgo bl hb
        replace sz := A.size.trans sz
        replace df := A.defs.trans df
        clear A hb
        clear x145
        show Code.wp _ _ _ _ _
        refine wp_ret ?_
        repeat (first | with_reducible refine then_ret ?_ | with_reducible refine block_ret ?_)
        exact bodyPost_ret (v := .bool true) (ret_slot rfl f40 _ x6 _ _) df ⟨rfl, bl⟩
      have hr1 := on_rd hon9 (k := k) (by rw [gs.has]; exact hlt)
      have hr2 := on_rd hont (k := k) (by rw [gt.has]; exact hlt)
      refine wr_a [.eq (.bool true)] (by rw [sz]; kernel_rfl) ⟨fun hw ac u K => ?_, trivial⟩ ?_
      · exact st_lss 3 (.tmp 144) (.const (.int .i64 8)) rfl .i64 ((k : Int)) (8) (K.t x144 rfl) rfl _ (by rw [eq_comm, decide_eq_true_iff]; omega)
      intro f39 w39 A hb
      replace x1 := A.t x1 rfl
      replace x7 := A.t x7 rfl
      replace x8 := A.t x8 rfl
      replace x9 := A.t x9 rfl
      replace x15 := A.t x15 rfl
      replace x18 := A.t x18 rfl
      replace x19 := A.t x19 rfl
      replace x20 := A.t x20 rfl
      replace x144 := A.t x144 rfl
      have x145 := A.e 0 145 rfl rfl
      replace hvd := Fk.mono _ _ _ _ hvd hb
      replace hd := HD.below hd hb
      replace ho := HD.below ho hb
      replace hvlt := fun a e => Nat.lt_of_lt_of_le (hvlt a e) hb.size
      replace bl := bgo bl hb
      replace sz := A.size.trans sz
      replace df := A.defs.trans df
      clear A hb
      show Code.wp _ _ _ _ _
      refine wp_seq ?_
      refine wp_cond_true x145 ?_
      refine wp_skip ?_
      show Code.wp _ _ _ _ _
      refine wp_seq ?_
      refine wp_block ?_
      refine wp_seq ?_
      refine wr_a [.eq (.int .i64 (k : Int)), .eq (.int .i64 (k : Int))] (by rw [sz]; kernel_rfl) ⟨fun hw ac u K => ?_, fun hw ac u K => ?_, trivial⟩ ?_
      · exact st_move (.tmp 144) rfl (K.t x144 rfl)
      · exact st_assign (.tmp 146) rfl (K.dep 0 146 rfl)
      intro f40 w40 A hb
      replace x1 := A.t x1 rfl
      replace x7 := A.t x7 rfl
      replace x8 := A.t x8 rfl
      replace x9 := A.t x9 rfl
      replace x15 := A.t x15 rfl
      replace x18 := A.t x18 rfl
      replace x19 := A.t x19 rfl
      replace x20 := A.t x20 rfl
      replace x144 := A.t x144 rfl
      replace x145 := A.t x145 rfl
      have x21 := A.e 1 21 rfl rfl
      replace hvd := Fk.mono _ _ _ _ hvd hb
      replace hd := HD.below hd hb
      replace ho := HD.below ho hb
      replace hvlt := fun a e => Nat.lt_of_lt_of_le (hvlt a e) hb.size
      replace bl := bgo bl hb
      replace sz := A.size.trans sz
      replace df := A.defs.trans df
      clear A hb
      clear x145
      show Code.wp _ _ _ _ _
      refine wp_seq ?_
      refine wr_s [.eq (.pointer (some ⟨gd, 0, none⟩)), .eq (.int .i64 (k : Int))] (by rw [sz]; kernel_rfl) ⟨fun hw ac u K => ?_, fun hw ac u K => ?_, trivial⟩ ?_
      · exact st_move (.tmp 15) rfl (K.t x15 rfl)
      · exact st_move (.tmp 21) rfl (K.t x21 rfl)
      intro f41 w41 A hb
      replace x1 := A.t x1 rfl
      replace x7 := A.t x7 rfl
      replace x8 := A.t x8 rfl
      replace x9 := A.t x9 rfl
      replace x15 := A.t x15 rfl
      replace x18 := A.t x18 rfl
      replace x19 := A.t x19 rfl
      replace x20 := A.t x20 rfl
      replace x144 := A.t x144 rfl
      replace x21 := A.t x21 rfl
      have x148 := A.e 0 148 rfl rfl
      have x149 := A.e 1 149 rfl rfl
      replace hvd := Fk.mono _ _ _ _ hvd hb
      replace hd := HD.below hd hb
      replace ho := HD.below ho hb
      replace hvlt := fun a e => Nat.lt_of_lt_of_le (hvlt a e) hb.size
      replace bl := bgo bl hb
      replace sz := A.size.trans sz
      replace df := A.defs.trans df
      clear A hb
      refine wl_call 16 (.func 16) _ _ #[.pointer (some ⟨gd, 0, none⟩), .int .i64 (k : Int)] rfl 150 rfl (by rw [sz]; decide) rfl rfl (two_arg x148 x149) Try.enter16 (fun u W' => ∃ (D2 : Nat → Prop) (A : Option Addr) (C : Nat), u = .tuple #[.slice A (nowd s k).length C, .int .i64 0] ∧ (Fk.sl (nowd s k)).f (.slice A (nowd s k).length C) W' ∧ (0 < (nowd s k).length → ∃ g, A = some ⟨g, 0, none⟩ ∧ w41.heap.size ≤ g ∧ ¬ D2 g ∧ Wb W' g (nowd s k).length) ∧ HD W' gd M D2 s ∧ (∀ j, D2 j → DD j ∨ w41.heap.size ≤ j) ∧ Fr M w41 W') ((show Calls Try.prog 16 #[.pointer (some ⟨gd, 0, none⟩), .int .i64 (k : Int)] w41 (fun e W' => ∃ (D2 : Nat → Prop) (A : Option Addr) (C : Nat), e = .returned (.tuple #[.slice A (nowd s k).length C, .int .i64 0]) ∧ _) from by have := fk_dread hd (k : Int); rw [show (rd s (k : Int)).1 = 0 from by rw [hr1], show (rd s (k : Int)).2 = nowd s k from by rw [hr1]] at this; exact this).mono (by rintro e w' ⟨D2, A, C, rfl, q⟩; exact ⟨_, rfl, D2, A, C, rfl, q⟩)) ?_
      rintro f42 w42 df2 sz2 old2 ⟨D2, A1, C1, x150, hsl, hG0, hd2, hD2, O⟩
      have OM := O
      replace O := O.mono hd.sub
      replace x1 := tr old2 x1 rfl
      replace x7 := tr old2 x7 rfl
      replace x8 := tr old2 x8 rfl
      replace x9 := tr old2 x9 rfl
      replace x15 := tr old2 x15 rfl
      replace x18 := tr old2 x18 rfl
      replace x19 := tr old2 x19 rfl
      replace x20 := tr old2 x20 rfl
      replace x144 := tr old2 x144 rfl
      replace x21 := tr old2 x21 rfl
      replace x148 := tr old2 x148 rfl
      replace x149 := tr old2 x149 rfl
      have hol9 := ho.lt
      have hO1 : Ob8 w.heap.size D2 DO (nowd s k) A1 C1 w42 := ⟨hsl, fun q => by
        obtain ⟨g, h1, h2, h3, h4⟩ := hG0 q
        exact ⟨g, h1, Nat.le_trans bl.size h2, (fun q => by have := hol9 _ q; omega), h3, h4⟩⟩
      clear hsl hG0 hol9
      have hol := ho.lt
      replace ho := ho.keep (fun j hj => OM.block j (hol j hj) (hQO j hj)) O.size
      replace hQD : ∀ j, D2 j → ¬ MO j := fun j q hj => (hD2 j q).elim (fun q => hQD j q hj) (fun q => by have := hol j (ho.sub j hj); omega)
      clear hol
      rw [hvl] at hvd
      replace hvd := is_keep hvd O hvD
      rw [← hvl] at hvd
      replace hvD : ∀ a, Ad = some a → ¬ D2 a.block := fun a e q => (hD2 _ q).elim (hvD a e) (fun q => by have := hvlt a e; omega)
      replace hvlt : ∀ a, Ad = some a → a.block < w42.heap.size := fun a e => Nat.lt_of_lt_of_le (hvlt a e) O.size
      have bl9 := bl.trans (O.below bl.size hDD)
      replace hDD : ∀ j, D2 j → w.heap.size ≤ j := fun j q => (hD2 j q).elim (hDD j) (fun q => Nat.le_trans bl.size q)
      replace bl := bl9
      replace bl0 := bl
      replace hd := hd2
      replace sz := sz2.trans sz
      replace df := df2.trans df
      clear df2 sz2 old2 hd2 bl9
      clear O OM hD2
      clear DD
      obtain ⟨DD, rfl⟩ : ∃ E, E = D2 := ⟨_, rfl⟩
      clear x148
      clear x149
      refine wl_one (.eq (.tuple #[.slice A1 (nowd s k).length C1, .int .i64 0])) rfl 147 rfl (by rw [sz]; decide) (st_move (.tmp 150) rfl x150) ?_
      intro f43 w43 df2 sz2 old2 new2 hb
      replace x1 := tr old2 x1 rfl
      replace x7 := tr old2 x7 rfl
      replace x8 := tr old2 x8 rfl
      replace x9 := tr old2 x9 rfl
      replace x15 := tr old2 x15 rfl
      replace x18 := tr old2 x18 rfl
      replace x19 := tr old2 x19 rfl
      replace x20 := tr old2 x20 rfl
      replace x144 := tr old2 x144 rfl
      replace x21 := tr old2 x21 rfl
      replace x150 := tr old2 x150 rfl
      have x147 := Fk.e new2
      replace hvd := Fk.mono _ _ _ _ hvd hb
      replace hd := HD.below hd hb
      replace ho := HD.below ho hb
      replace hvlt := fun a e => Nat.lt_of_lt_of_le (hvlt a e) hb.size
      replace hO1 := Ob8.below hO1 hb
      replace bl := bgo bl hb
      replace sz := sz2.trans sz
      replace df := df2.trans df
      clear df2 sz2 old2 new2 hb
      clear x150
      refine wl_one (.eq (.slice A1 (nowd s k).length C1)) rfl 151 rfl (by rw [sz]; decide) (st_ext0 (.tmp 147) rfl x147 rfl) ?_
      intro f44 w44 df2 sz2 old2 new2 hb
      replace x1 := tr old2 x1 rfl
      replace x7 := tr old2 x7 rfl
      replace x8 := tr old2 x8 rfl
      replace x9 := tr old2 x9 rfl
      replace x15 := tr old2 x15 rfl
      replace x18 := tr old2 x18 rfl
      replace x19 := tr old2 x19 rfl
      replace x20 := tr old2 x20 rfl
      replace x144 := tr old2 x144 rfl
      replace x21 := tr old2 x21 rfl
      replace x147 := tr old2 x147 rfl
      have x151 := Fk.e new2
      replace hvd := Fk.mono _ _ _ _ hvd hb
      replace hd := HD.below hd hb
      replace ho := HD.below ho hb
      replace hvlt := fun a e => Nat.lt_of_lt_of_le (hvlt a e) hb.size
      replace hO1 := Ob8.below hO1 hb
      replace bl := bgo bl hb
      replace sz := sz2.trans sz
      replace df := df2.trans df
      clear df2 sz2 old2 new2 hb
      refine wl_one (.eq (.int .i64 0)) rfl 152 rfl (by rw [sz]; decide) (st_ext1 (.tmp 147) rfl x147 rfl) ?_
      intro f45 w45 df2 sz2 old2 new2 hb
      replace x1 := tr old2 x1 rfl
      replace x7 := tr old2 x7 rfl
      replace x8 := tr old2 x8 rfl
      replace x9 := tr old2 x9 rfl
      replace x15 := tr old2 x15 rfl
      replace x18 := tr old2 x18 rfl
      replace x19 := tr old2 x19 rfl
      replace x20 := tr old2 x20 rfl
      replace x144 := tr old2 x144 rfl
      replace x21 := tr old2 x21 rfl
      replace x147 := tr old2 x147 rfl
      replace x151 := tr old2 x151 rfl
      have x152 := Fk.e new2
      replace hvd := Fk.mono _ _ _ _ hvd hb
      replace hd := HD.below hd hb
      replace ho := HD.below ho hb
      replace hvlt := fun a e => Nat.lt_of_lt_of_le (hvlt a e) hb.size
      replace hO1 := Ob8.below hO1 hb
      replace bl := bgo bl hb
      replace sz := sz2.trans sz
      replace df := df2.trans df
      clear df2 sz2 old2 new2 hb
      clear x147
      refine wl_one (.eq (.slice A1 (nowd s k).length C1)) rfl 22 rfl (by rw [sz]; decide) (st_assign (.tmp 151) rfl x151) ?_
      intro f46 w46 df2 sz2 old2 new2 hb
      replace x1 := tr old2 x1 rfl
      replace x7 := tr old2 x7 rfl
      replace x8 := tr old2 x8 rfl
      replace x9 := tr old2 x9 rfl
      replace x15 := tr old2 x15 rfl
      replace x18 := tr old2 x18 rfl
      replace x19 := tr old2 x19 rfl
      replace x20 := tr old2 x20 rfl
      replace x144 := tr old2 x144 rfl
      replace x21 := tr old2 x21 rfl
      replace x151 := tr old2 x151 rfl
      replace x152 := tr old2 x152 rfl
      have x22 := Fk.e new2
      replace hvd := Fk.mono _ _ _ _ hvd hb
      replace hd := HD.below hd hb
      replace ho := HD.below ho hb
      replace hvlt := fun a e => Nat.lt_of_lt_of_le (hvlt a e) hb.size
      replace hO1 := Ob8.below hO1 hb
      replace bl := bgo bl hb
      replace sz := sz2.trans sz
      replace df := df2.trans df
      clear df2 sz2 old2 new2 hb
      clear x151
      refine wl_one (.eq (.int .i64 0)) rfl 23 rfl (by rw [sz]; decide) (st_assign (.tmp 152) rfl x152) ?_
      intro f47 w47 df2 sz2 old2 new2 hb
      replace x1 := tr old2 x1 rfl
      replace x7 := tr old2 x7 rfl
      replace x8 := tr old2 x8 rfl
      replace x9 := tr old2 x9 rfl
      replace x15 := tr old2 x15 rfl
      replace x18 := tr old2 x18 rfl
      replace x19 := tr old2 x19 rfl
      replace x20 := tr old2 x20 rfl
      replace x144 := tr old2 x144 rfl
      replace x21 := tr old2 x21 rfl
      replace x152 := tr old2 x152 rfl
      replace x22 := tr old2 x22 rfl
      have x23 := Fk.e new2
      replace hvd := Fk.mono _ _ _ _ hvd hb
      replace hd := HD.below hd hb
      replace ho := HD.below ho hb
      replace hvlt := fun a e => Nat.lt_of_lt_of_le (hvlt a e) hb.size
      replace hO1 := Ob8.below hO1 hb
      replace bl := bgo bl hb
      replace sz := sz2.trans sz
      replace df := df2.trans df
      clear df2 sz2 old2 new2 hb
      refine wpList_nil ?_
      clear x152
      show Code.wp _ _ _ _ _
      refine wp_seq ?_
      refine wr_s [.eq (.pointer (some ⟨go, 0, none⟩)), .eq (.int .i64 (k : Int))] (by rw [sz]; kernel_rfl) ⟨fun hw ac u K => ?_, fun hw ac u K => ?_, trivial⟩ ?_
      · exact st_move (.tmp 9) rfl (K.t x9 rfl)
      · exact st_move (.tmp 21) rfl (K.t x21 rfl)
      intro f48 w48 A hb
      replace x1 := A.t x1 rfl
      replace x7 := A.t x7 rfl
      replace x8 := A.t x8 rfl
      replace x9 := A.t x9 rfl
      replace x15 := A.t x15 rfl
      replace x18 := A.t x18 rfl
      replace x19 := A.t x19 rfl
      replace x20 := A.t x20 rfl
      replace x144 := A.t x144 rfl
      replace x21 := A.t x21 rfl
      replace x22 := A.t x22 rfl
      replace x23 := A.t x23 rfl
      have x154 := A.e 0 154 rfl rfl
      have x155 := A.e 1 155 rfl rfl
      replace hvd := Fk.mono _ _ _ _ hvd hb
      replace hd := HD.below hd hb
      replace ho := HD.below ho hb
      replace hvlt := fun a e => Nat.lt_of_lt_of_le (hvlt a e) hb.size
      replace hO1 := Ob8.below hO1 hb
      replace bl := bgo bl hb
      replace sz := A.size.trans sz
      replace df := A.defs.trans df
      clear A hb
      refine wl_call 16 (.func 16) _ _ #[.pointer (some ⟨go, 0, none⟩), .int .i64 (k : Int)] rfl 156 rfl (by rw [sz]; decide) rfl rfl (two_arg x154 x155) Try.enter16 (fun u W' => ∃ (D2 : Nat → Prop) (A : Option Addr) (C : Nat), u = .tuple #[.slice A (nowd so k).length C, .int .i64 0] ∧ (Fk.sl (nowd so k)).f (.slice A (nowd so k).length C) W' ∧ (0 < (nowd so k).length → ∃ g, A = some ⟨g, 0, none⟩ ∧ w48.heap.size ≤ g ∧ ¬ D2 g ∧ Wb W' g (nowd so k).length) ∧ HD W' go MO D2 so ∧ (∀ j, D2 j → DO j ∨ w48.heap.size ≤ j) ∧ Fr MO w48 W') ((show Calls Try.prog 16 #[.pointer (some ⟨go, 0, none⟩), .int .i64 (k : Int)] w48 (fun e W' => ∃ (D2 : Nat → Prop) (A : Option Addr) (C : Nat), e = .returned (.tuple #[.slice A (nowd so k).length C, .int .i64 0]) ∧ _) from by have := fk_dread ho (k : Int); rw [show (rd so (k : Int)).1 = 0 from by rw [hr2], show (rd so (k : Int)).2 = nowd so k from by rw [hr2]] at this; exact this).mono (by rintro e w' ⟨D2, A, C, rfl, q⟩; exact ⟨_, rfl, D2, A, C, rfl, q⟩)) ?_
      rintro f49 w49 df2 sz2 old2 ⟨D2, A2, C2, x156, hsl, hG0, hd2, hD2, O⟩
      have OM := O
      replace O := O.mono ho.sub
      replace x1 := tr old2 x1 rfl
      replace x7 := tr old2 x7 rfl
      replace x8 := tr old2 x8 rfl
      replace x9 := tr old2 x9 rfl
      replace x15 := tr old2 x15 rfl
      replace x18 := tr old2 x18 rfl
      replace x19 := tr old2 x19 rfl
      replace x20 := tr old2 x20 rfl
      replace x144 := tr old2 x144 rfl
      replace x21 := tr old2 x21 rfl
      replace x22 := tr old2 x22 rfl
      replace x23 := tr old2 x23 rfl
      replace x154 := tr old2 x154 rfl
      replace x155 := tr old2 x155 rfl
      have hO2 : Ob8 w.heap.size D2 (fun _ => False) (nowd so k) A2 C2 w49 := ⟨hsl, fun q => by
        obtain ⟨g, h1, h2, h3, h4⟩ := hG0 q
        exact ⟨g, h1, Nat.le_trans bl.size h2, not_false, h3, h4⟩⟩
      clear hsl hG0
      have hol := hd.lt
      replace hd := hd.keep (fun j hj => OM.block j (hol j hj) (hQD j hj)) O.size
      replace hQO : ∀ j, D2 j → ¬ M j := fun j q hj => (hD2 j q).elim (fun q => hQO j q hj) (fun q => by have := hol j (hd.sub j hj); omega)
      clear hol
      rw [hvl] at hvd
      replace hvd := is_keep hvd O hvO
      rw [← hvl] at hvd
      replace hvO : ∀ a, Ad = some a → ¬ D2 a.block := fun a e q => (hD2 _ q).elim (hvO a e) (fun q => by have := hvlt a e; omega)
      replace hvlt : ∀ a, Ad = some a → a.block < w49.heap.size := fun a e => Nat.lt_of_lt_of_le (hvlt a e) O.size
      have bl9 := bl.trans (O.below bl.size hDO)
      replace hDO : ∀ j, D2 j → w.heap.size ≤ j := fun j q => (hD2 j q).elim (hDO j) (fun q => Nat.le_trans bl.size q)
      replace bl := bl9
      replace bl0 := bl
      replace ho := hd2
      replace sz := sz2.trans sz
      replace df := df2.trans df
      clear df2 sz2 old2 hd2 bl9
      have hv1 := (hO1.keep (D2 := DD) O (fun j q => .inr q) (fun j q => .inl q)).1
      clear hO1
      clear O OM hD2
      clear DO
      obtain ⟨DO, rfl⟩ : ∃ E, E = D2 := ⟨_, rfl⟩
      clear x154
      clear x155
      refine wl_one (.eq (.tuple #[.slice A2 (nowd so k).length C2, .int .i64 0])) rfl 153 rfl (by rw [sz]; decide) (st_move (.tmp 156) rfl x156) ?_
      intro f50 w50 df2 sz2 old2 new2 hb
      replace x1 := tr old2 x1 rfl
      replace x7 := tr old2 x7 rfl
      replace x8 := tr old2 x8 rfl
      replace x9 := tr old2 x9 rfl
      replace x15 := tr old2 x15 rfl
      replace x18 := tr old2 x18 rfl
      replace x19 := tr old2 x19 rfl
      replace x20 := tr old2 x20 rfl
      replace x144 := tr old2 x144 rfl
      replace x21 := tr old2 x21 rfl
      replace x22 := tr old2 x22 rfl
      replace x23 := tr old2 x23 rfl
      replace x156 := tr old2 x156 rfl
      have x153 := Fk.e new2
      replace hvd := Fk.mono _ _ _ _ hvd hb
      replace hv1 := Fk.mono _ _ _ _ hv1 hb
      replace hd := HD.below hd hb
      replace ho := HD.below ho hb
      replace hvlt := fun a e => Nat.lt_of_lt_of_le (hvlt a e) hb.size
      replace hO2 := Ob8.below hO2 hb
      replace bl := bgo bl hb
      replace sz := sz2.trans sz
      replace df := df2.trans df
      clear df2 sz2 old2 new2 hb
      clear x156
      refine wl_one (.eq (.slice A2 (nowd so k).length C2)) rfl 157 rfl (by rw [sz]; decide) (st_ext0 (.tmp 153) rfl x153 rfl) ?_
      intro f51 w51 df2 sz2 old2 new2 hb
      replace x1 := tr old2 x1 rfl
      replace x7 := tr old2 x7 rfl
      replace x8 := tr old2 x8 rfl
      replace x9 := tr old2 x9 rfl
      replace x15 := tr old2 x15 rfl
      replace x18 := tr old2 x18 rfl
      replace x19 := tr old2 x19 rfl
      replace x20 := tr old2 x20 rfl
      replace x144 := tr old2 x144 rfl
      replace x21 := tr old2 x21 rfl
      replace x22 := tr old2 x22 rfl
      replace x23 := tr old2 x23 rfl
      replace x153 := tr old2 x153 rfl
      have x157 := Fk.e new2
      replace hvd := Fk.mono _ _ _ _ hvd hb
      replace hv1 := Fk.mono _ _ _ _ hv1 hb
      replace hd := HD.below hd hb
      replace ho := HD.below ho hb
      replace hvlt := fun a e => Nat.lt_of_lt_of_le (hvlt a e) hb.size
      replace hO2 := Ob8.below hO2 hb
      replace bl := bgo bl hb
      replace sz := sz2.trans sz
      replace df := df2.trans df
      clear df2 sz2 old2 new2 hb
      refine wl_one (.eq (.int .i64 0)) rfl 158 rfl (by rw [sz]; decide) (st_ext1 (.tmp 153) rfl x153 rfl) ?_
      intro f52 w52 df2 sz2 old2 new2 hb
      replace x1 := tr old2 x1 rfl
      replace x7 := tr old2 x7 rfl
      replace x8 := tr old2 x8 rfl
      replace x9 := tr old2 x9 rfl
      replace x15 := tr old2 x15 rfl
      replace x18 := tr old2 x18 rfl
      replace x19 := tr old2 x19 rfl
      replace x20 := tr old2 x20 rfl
      replace x144 := tr old2 x144 rfl
      replace x21 := tr old2 x21 rfl
      replace x22 := tr old2 x22 rfl
      replace x23 := tr old2 x23 rfl
      replace x153 := tr old2 x153 rfl
      replace x157 := tr old2 x157 rfl
      have x158 := Fk.e new2
      replace hvd := Fk.mono _ _ _ _ hvd hb
      replace hv1 := Fk.mono _ _ _ _ hv1 hb
      replace hd := HD.below hd hb
      replace ho := HD.below ho hb
      replace hvlt := fun a e => Nat.lt_of_lt_of_le (hvlt a e) hb.size
      replace hO2 := Ob8.below hO2 hb
      replace bl := bgo bl hb
      replace sz := sz2.trans sz
      replace df := df2.trans df
      clear df2 sz2 old2 new2 hb
      clear x153
      refine wl_one (.eq (.slice A2 (nowd so k).length C2)) rfl 24 rfl (by rw [sz]; decide) (st_assign (.tmp 157) rfl x157) ?_
      intro f53 w53 df2 sz2 old2 new2 hb
      replace x1 := tr old2 x1 rfl
      replace x7 := tr old2 x7 rfl
      replace x8 := tr old2 x8 rfl
      replace x9 := tr old2 x9 rfl
      replace x15 := tr old2 x15 rfl
      replace x18 := tr old2 x18 rfl
      replace x19 := tr old2 x19 rfl
      replace x20 := tr old2 x20 rfl
      replace x144 := tr old2 x144 rfl
      replace x21 := tr old2 x21 rfl
      replace x22 := tr old2 x22 rfl
      replace x23 := tr old2 x23 rfl
      replace x157 := tr old2 x157 rfl
      replace x158 := tr old2 x158 rfl
      have x24 := Fk.e new2
      replace hvd := Fk.mono _ _ _ _ hvd hb
      replace hv1 := Fk.mono _ _ _ _ hv1 hb
      replace hd := HD.below hd hb
      replace ho := HD.below ho hb
      replace hvlt := fun a e => Nat.lt_of_lt_of_le (hvlt a e) hb.size
      replace hO2 := Ob8.below hO2 hb
      replace bl := bgo bl hb
      replace sz := sz2.trans sz
      replace df := df2.trans df
      clear df2 sz2 old2 new2 hb
      clear x157
      refine wl_one (.eq (.int .i64 0)) rfl 25 rfl (by rw [sz]; decide) (st_assign (.tmp 158) rfl x158) ?_
      intro f54 w54 df2 sz2 old2 new2 hb
      replace x1 := tr old2 x1 rfl
      replace x7 := tr old2 x7 rfl
      replace x8 := tr old2 x8 rfl
      replace x9 := tr old2 x9 rfl
      replace x15 := tr old2 x15 rfl
      replace x18 := tr old2 x18 rfl
      replace x19 := tr old2 x19 rfl
      replace x20 := tr old2 x20 rfl
      replace x144 := tr old2 x144 rfl
      replace x21 := tr old2 x21 rfl
      replace x22 := tr old2 x22 rfl
      replace x23 := tr old2 x23 rfl
      replace x158 := tr old2 x158 rfl
      replace x24 := tr old2 x24 rfl
      have x25 := Fk.e new2
      replace hvd := Fk.mono _ _ _ _ hvd hb
      replace hv1 := Fk.mono _ _ _ _ hv1 hb
      replace hd := HD.below hd hb
      replace ho := HD.below ho hb
      replace hvlt := fun a e => Nat.lt_of_lt_of_le (hvlt a e) hb.size
      replace hO2 := Ob8.below hO2 hb
      replace bl := bgo bl hb
      replace sz := sz2.trans sz
      replace df := df2.trans df
      clear df2 sz2 old2 new2 hb
      refine wpList_nil ?_
      clear x158
      show Code.wp _ _ _ _ _
      refine wp_seq ?_
      refine wp_seq ?_
      refine wr_a [.eq (.int .i64 0), .eq (.bool false), .eq (.bool false), .eq (.int .i64 0), .eq (.bool false), .eq (.bool false)] (by rw [sz]; kernel_rfl) ⟨fun hw ac u K => ?_, fun hw ac u K => ?_, fun hw ac u K => ?_, fun hw ac u K => ?_, fun hw ac u K => ?_, fun hw ac u K => ?_, trivial⟩ ?_
      · exact st_move (.tmp 23) rfl (K.t x23 rfl)
      · exact st_neqi 37 (.tmp 159) (.const (.int .i64 0)) rfl .i64 (0) (0) (K.dep 0 159 rfl) rfl _ (by simp)
      · exact st_move (.tmp 160) rfl (K.dep 1 160 rfl)
      · exact st_move (.tmp 25) rfl (K.t x25 rfl)
      · exact st_neqi 37 (.tmp 162) (.const (.int .i64 0)) rfl .i64 (0) (0) (K.dep 3 162 rfl) rfl _ (by simp)
      · exact st_pick_f' (.tmp 161) (.const (.bool true)) (.tmp 163) rfl (K.dep 2 161 rfl) (K.dep 4 163 rfl)
      intro f55 w55 A hb
      replace x1 := A.t x1 rfl
      replace x7 := A.t x7 rfl
      replace x8 := A.t x8 rfl
      replace x9 := A.t x9 rfl
      replace x15 := A.t x15 rfl
      replace x18 := A.t x18 rfl
      replace x19 := A.t x19 rfl
      replace x20 := A.t x20 rfl
      replace x144 := A.t x144 rfl
      replace x21 := A.t x21 rfl
      replace x22 := A.t x22 rfl
      replace x23 := A.t x23 rfl
      replace x24 := A.t x24 rfl
      replace x25 := A.t x25 rfl
      have x164 := A.e 5 164 rfl rfl
      replace hvd := Fk.mono _ _ _ _ hvd hb
      replace hv1 := Fk.mono _ _ _ _ hv1 hb
      replace hd := HD.below hd hb
      replace ho := HD.below ho hb
      replace hvlt := fun a e => Nat.lt_of_lt_of_le (hvlt a e) hb.size
      replace hO2 := Ob8.below hO2 hb
      replace bl := bgo bl hb
      replace sz := A.size.trans sz
      replace df := A.defs.trans df
      clear A hb
      clear x23
      clear x25
      show Code.wp _ _ _ _ _
      refine wp_cond_false x164 ?_
      refine wp_skip ?_
      show Code.wp _ _ _ _ _
      refine wp_seq ?_
      have hv2_ := hO2.1
      clear hO2
      by_cases hq : nowd s k = nowd so k
      rotate_left
      · skip
        have hpk : pp k = true := by rw [hpp]; simp [hq]
        have hat := fil_at hpk (show k < M8 by omega)
        have hlen := (List.getElem?_eq_some_iff.1 hat).1
        have hle := fil_le pp k
        rw [← hn9] at hat hlen hle
        refine wr_a [.eq (.slice A1 (nowd s k).length C1), .eq (.string (str (nowd s k))), .eq (.slice A2 (nowd so k).length C2), .eq (.string (str (nowd so k))), .eq (.bool true)] (by rw [sz]; kernel_rfl) ⟨fun hw ac u K => ?_, fun hw ac u K => ?_, fun hw ac u K => ?_, fun hw ac u K => ?_, fun hw ac u K => ?_, trivial⟩ ?_
        · exact st_move (.tmp 22) rfl (K.t x22 rfl)
        · exact st_stra (.tmp 165) rfl (fk_val (K.dep 0 165 rfl) (Fk.mono _ _ _ _ hv1 K.grow))
        · exact st_move (.tmp 24) rfl (K.t x24 rfl)
        · exact st_stra (.tmp 167) rfl (fk_val (K.dep 2 167 rfl) (Fk.mono _ _ _ _ hv2_ K.grow))
        · exact st_ness (.tmp 166) (.tmp 168) rfl (str (nowd s k)) (str (nowd so k)) (K.dep 1 166 rfl) (K.dep 3 168 rfl) _ (by symm; rw [decide_eq_true_iff]; exact fun e => hq (str_inj e))
        intro f56 w56 A hb
        replace x1 := A.t x1 rfl
        replace x7 := A.t x7 rfl
        replace x8 := A.t x8 rfl
        replace x9 := A.t x9 rfl
        replace x15 := A.t x15 rfl
        replace x18 := A.t x18 rfl
        replace x19 := A.t x19 rfl
        replace x20 := A.t x20 rfl
        replace x144 := A.t x144 rfl
        replace x21 := A.t x21 rfl
        replace x22 := A.t x22 rfl
        replace x24 := A.t x24 rfl
        replace x164 := A.t x164 rfl
        have x169 := A.e 4 169 rfl rfl
        replace hvd := Fk.mono _ _ _ _ hvd hb
        replace hv1 := Fk.mono _ _ _ _ hv1 hb
        replace hv2_ := Fk.mono _ _ _ _ hv2_ hb
        replace hd := HD.below hd hb
        replace ho := HD.below ho hb
        replace hvlt := fun a e => Nat.lt_of_lt_of_le (hvlt a e) hb.size
        replace bl := bgo bl hb
        replace sz := A.size.trans sz
        replace df := A.defs.trans df
        clear A hb
        clear x22
        clear x24
        clear x164
        clear hv1 hv2_
        show Code.wp _ _ _ _ _
        refine wp_cond_true x169 ?_
        refine wp_seq ?_
        refine wp_seq ?_
        refine wr_a [.eq (.int .i64 (n9 : Int)), .eq (vl), .eq (.int .i64 (((fil pp M8).length : Nat) : Int)), .eq (.bool false), .eq (.bool false), .eq (vl), .eq (.int .i64 (n9 : Int)), .prg [.int .i64 ((k : Int))], .eq (.int .i64 ((k : Int))), .eq (.int .i64 (k : Int)), .eq (.bool false), .eq (.bool false)] (by rw [sz]; kernel_rfl) ⟨fun hw ac u K => ?_, fun hw ac u K => ?_, fun hw ac u K => ?_, fun hw ac u K => ?_, fun hw ac u K => ?_, fun hw ac u K => ?_, fun hw ac u K => ?_, fun hw ac u K => ?_, fun hw ac u K => ?_, fun hw ac u K => ?_, fun hw ac u K => ?_, fun hw ac u K => ?_, trivial⟩ ?_
        · exact st_move (.tmp 20) rfl (K.t x20 rfl)
        · exact st_move (.tmp 18) rfl (K.t x18 rfl)
        · exact st_lenis (.tmp 171) rfl (fk_val (K.dep 1 171 rfl) (Fk.mono _ _ _ _ hvd K.grow))
        · exact st_geq 3 (.tmp 170) (.tmp 172) rfl .i64 ((n9 : Int)) ((((fil pp M8).length : Nat) : Int)) (K.dep 0 170 rfl) (K.dep 2 172 rfl) _ (by symm; rw [decide_eq_false_iff_not]; omega)
        · exact st_move (.tmp 173) rfl (K.dep 3 173 rfl)
        · exact st_move (.tmp 18) rfl (K.t x18 rfl)
        · exact st_move (.tmp 20) rfl (K.t x20 rfl)
        · exact st_idxis (.tmp 175) (.tmp 176) rfl (fk_val (K.dep 5 175 rfl) (Fk.mono _ _ _ _ hvd K.grow)) (n9) (K.dep 6 176 rfl) ((k : Int)) hat
        · exact st_loadr1 3 (.tmp 177) rfl (by kernel_rfl) (K.dep 7 177 rfl)
        · exact st_move (.tmp 21) rfl (K.t x21 rfl)
        · exact st_neqi 3 (.tmp 178) (.tmp 179) rfl .i64 (((k : Int))) ((k : Int)) (K.dep 8 178 rfl) (K.dep 9 179 rfl) _ (by simp)
        · exact st_pick_f' (.tmp 174) (.const (.bool true)) (.tmp 180) rfl (K.dep 4 174 rfl) (K.dep 10 180 rfl)
        intro f57 w57 A hb
        replace x1 := A.t x1 rfl
        replace x7 := A.t x7 rfl
        replace x8 := A.t x8 rfl
        replace x9 := A.t x9 rfl
        replace x15 := A.t x15 rfl
        replace x18 := A.t x18 rfl
        replace x19 := A.t x19 rfl
        replace x20 := A.t x20 rfl
        replace x144 := A.t x144 rfl
        replace x21 := A.t x21 rfl
        replace x169 := A.t x169 rfl
        have x181 := A.e 11 181 rfl rfl
        replace hvd := Fk.mono _ _ _ _ hvd hb
        replace hd := HD.below hd hb
        replace ho := HD.below ho hb
        replace hvlt := fun a e => Nat.lt_of_lt_of_le (hvlt a e) hb.size
        replace bl := bgo bl hb
        replace sz := A.size.trans sz
        replace df := A.defs.trans df
        clear A hb
        clear x21
        clear x169
        show Code.wp _ _ _ _ _
        refine wp_cond_false x181 ?_
        refine wp_skip ?_
        show Code.wp _ _ _ _ _
        refine wr_s [.eq (.int .i64 (n9 : Int)), .eq (.int .i64 ((n9 + 1 : Nat) : Int))] (by rw [sz]; kernel_rfl) ⟨fun hw ac u K => ?_, fun hw ac u K => ?_, trivial⟩ ?_
        · exact st_move (.tmp 20) rfl (K.t x20 rfl)
        · exact st_add (.tmp 182) (.const (.int .i64 1)) rfl (n9) (1) (n9 + 1) (K.dep 0 182 rfl) rfl (by omega) (by omega)
        intro f58 w58 A hb
        replace x1 := A.t x1 rfl
        replace x7 := A.t x7 rfl
        replace x8 := A.t x8 rfl
        replace x9 := A.t x9 rfl
        replace x15 := A.t x15 rfl
        replace x18 := A.t x18 rfl
        replace x19 := A.t x19 rfl
        replace x20 := A.t x20 rfl
        replace x144 := A.t x144 rfl
        replace x181 := A.t x181 rfl
        have x183 := A.e 1 183 rfl rfl
        replace hvd := Fk.mono _ _ _ _ hvd hb
        replace hd := HD.below hd hb
        replace ho := HD.below ho hb
        replace hvlt := fun a e => Nat.lt_of_lt_of_le (hvlt a e) hb.size
        replace bl := bgo bl hb
        replace sz := A.size.trans sz
        replace df := A.defs.trans df
        clear A hb
        clear x181
        refine wl_one (.eq (.int .i64 ((n9 + 1 : Nat) : Int))) rfl 20 rfl (by rw [sz]; decide) (st_assign (.tmp 183) rfl x183) ?_
        intro f59 w59 df2 sz2 old2 new2 hb
        replace x1 := tr old2 x1 rfl
        replace x7 := tr old2 x7 rfl
        replace x8 := tr old2 x8 rfl
        replace x9 := tr old2 x9 rfl
        replace x15 := tr old2 x15 rfl
        replace x18 := tr old2 x18 rfl
        replace x19 := tr old2 x19 rfl
        clear x20
        replace x144 := tr old2 x144 rfl
        replace x183 := tr old2 x183 rfl
        have x20 := Fk.e new2
        replace hvd := Fk.mono _ _ _ _ hvd hb
        replace hd := HD.below hd hb
        replace ho := HD.below ho hb
        replace hvlt := fun a e => Nat.lt_of_lt_of_le (hvlt a e) hb.size
        replace bl := bgo bl hb
        replace sz := sz2.trans sz
        replace df := df2.trans df
        clear df2 sz2 old2 new2 hb
        refine wpList_nil ?_
        clear x183
        show Code.wp _ _ _ _ _
        refine wr_s [.eq (.int .i64 ((k + 1 : Nat) : Int))] (by rw [sz]; kernel_rfl) ⟨fun hw ac u K => ?_, trivial⟩ ?_
        · exact st_add (.tmp 144) (.const (.int .i64 1)) rfl (k) (1) (k + 1) (K.t x144 rfl) rfl (by omega) (by omega)
        intro f60 w60 A hb
        replace x1 := A.t x1 rfl
        replace x7 := A.t x7 rfl
        replace x8 := A.t x8 rfl
        replace x9 := A.t x9 rfl
        replace x15 := A.t x15 rfl
        replace x18 := A.t x18 rfl
        replace x19 := A.t x19 rfl
        replace x144 := A.t x144 rfl
        replace x20 := A.t x20 rfl
        have x184 := A.e 0 184 rfl rfl
        replace hvd := Fk.mono _ _ _ _ hvd hb
        replace hd := HD.below hd hb
        replace ho := HD.below ho hb
        replace hvlt := fun a e => Nat.lt_of_lt_of_le (hvlt a e) hb.size
        replace bl := bgo bl hb
        replace sz := A.size.trans sz
        replace df := A.defs.trans df
        clear A hb
        refine wl_one (.eq (.int .i64 ((k + 1 : Nat) : Int))) rfl 144 rfl (by rw [sz]; decide) (st_move (.tmp 184) rfl x184) ?_
        intro f61 w61 df2 sz2 old2 new2 hb
        replace x1 := tr old2 x1 rfl
        replace x7 := tr old2 x7 rfl
        replace x8 := tr old2 x8 rfl
        replace x9 := tr old2 x9 rfl
        replace x15 := tr old2 x15 rfl
        replace x18 := tr old2 x18 rfl
        replace x19 := tr old2 x19 rfl
        clear x144
        replace x20 := tr old2 x20 rfl
        replace x184 := tr old2 x184 rfl
        have x144 := Fk.e new2
        replace hvd := Fk.mono _ _ _ _ hvd hb
        replace hd := HD.below hd hb
        replace ho := HD.below ho hb
        replace hvlt := fun a e => Nat.lt_of_lt_of_le (hvlt a e) hb.size
        replace bl := bgo bl hb
        replace sz := sz2.trans sz
        replace df := df2.trans df
        clear df2 sz2 old2 new2 hb
        refine wpList_nil ?_
        clear x184
        show (∃ _, _) ∧ _
        refine ⟨⟨k + 1, n9 + 1, DD, DO, by omega, by rw [fil_yes hpk, List.length_append, ← hn9]; rfl, hDD, hDO, hQO, hQD, hvD, hvO, sz, df, x1, x7, x8, x9, x15, x18, x19, x20, x144, hvd, hd, ho, hvlt, bl⟩, ?_⟩
        rw [show f61.eval (.tmp 144) = _ from x144, show _ = _ from hcnt]
        first | (simp [intOf]; done) | (simp [intOf]; omega)
      refine wr_a [.eq (.slice A1 (nowd s k).length C1), .eq (.string (str (nowd s k))), .eq (.slice A2 (nowd so k).length C2), .eq (.string (str (nowd so k))), .eq (.bool false)] (by rw [sz]; kernel_rfl) ⟨fun hw ac u K => ?_, fun hw ac u K => ?_, fun hw ac u K => ?_, fun hw ac u K => ?_, fun hw ac u K => ?_, trivial⟩ ?_
      · exact st_move (.tmp 22) rfl (K.t x22 rfl)
      · exact st_stra (.tmp 165) rfl (fk_val (K.dep 0 165 rfl) (Fk.mono _ _ _ _ hv1 K.grow))
      · exact st_move (.tmp 24) rfl (K.t x24 rfl)
      · exact st_stra (.tmp 167) rfl (fk_val (K.dep 2 167 rfl) (Fk.mono _ _ _ _ hv2_ K.grow))
      · exact st_ness (.tmp 166) (.tmp 168) rfl (str (nowd s k)) (str (nowd so k)) (K.dep 1 166 rfl) (K.dep 3 168 rfl) _ (by rw [hq]; simp)
      intro f56 w56 A hb
      replace x1 := A.t x1 rfl
      replace x7 := A.t x7 rfl
      replace x8 := A.t x8 rfl
      replace x9 := A.t x9 rfl
      replace x15 := A.t x15 rfl
      replace x18 := A.t x18 rfl
      replace x19 := A.t x19 rfl
      replace x20 := A.t x20 rfl
      replace x144 := A.t x144 rfl
      replace x21 := A.t x21 rfl
      replace x22 := A.t x22 rfl
      replace x24 := A.t x24 rfl
      replace x164 := A.t x164 rfl
      have x169 := A.e 4 169 rfl rfl
      replace hvd := Fk.mono _ _ _ _ hvd hb
      replace hv1 := Fk.mono _ _ _ _ hv1 hb
      replace hv2_ := Fk.mono _ _ _ _ hv2_ hb
      replace hd := HD.below hd hb
      replace ho := HD.below ho hb
      replace hvlt := fun a e => Nat.lt_of_lt_of_le (hvlt a e) hb.size
      replace bl := bgo bl hb
      replace sz := A.size.trans sz
      replace df := A.defs.trans df
      clear A hb
      clear x22
      clear x24
      clear x164
      clear hv1 hv2_
      show Code.wp _ _ _ _ _
      refine wp_cond_false x169 ?_
      refine wp_skip ?_
      show Code.wp _ _ _ _ _
      refine wr_s [.eq (.int .i64 ((k + 1 : Nat) : Int))] (by rw [sz]; kernel_rfl) ⟨fun hw ac u K => ?_, trivial⟩ ?_
      · exact st_add (.tmp 144) (.const (.int .i64 1)) rfl (k) (1) (k + 1) (K.t x144 rfl) rfl (by omega) (by omega)
      intro f57 w57 A hb
      replace x1 := A.t x1 rfl
      replace x7 := A.t x7 rfl
      replace x8 := A.t x8 rfl
      replace x9 := A.t x9 rfl
      replace x15 := A.t x15 rfl
      replace x18 := A.t x18 rfl
      replace x19 := A.t x19 rfl
      replace x20 := A.t x20 rfl
      replace x144 := A.t x144 rfl
      replace x21 := A.t x21 rfl
      replace x169 := A.t x169 rfl
      have x184 := A.e 0 184 rfl rfl
      replace hvd := Fk.mono _ _ _ _ hvd hb
      replace hd := HD.below hd hb
      replace ho := HD.below ho hb
      replace hvlt := fun a e => Nat.lt_of_lt_of_le (hvlt a e) hb.size
      replace bl := bgo bl hb
      replace sz := A.size.trans sz
      replace df := A.defs.trans df
      clear A hb
      clear x21
      clear x169
      refine wl_one (.eq (.int .i64 ((k + 1 : Nat) : Int))) rfl 144 rfl (by rw [sz]; decide) (st_move (.tmp 184) rfl x184) ?_
      intro f58 w58 df2 sz2 old2 new2 hb
      replace x1 := tr old2 x1 rfl
      replace x7 := tr old2 x7 rfl
      replace x8 := tr old2 x8 rfl
      replace x9 := tr old2 x9 rfl
      replace x15 := tr old2 x15 rfl
      replace x18 := tr old2 x18 rfl
      replace x19 := tr old2 x19 rfl
      replace x20 := tr old2 x20 rfl
      clear x144
      replace x184 := tr old2 x184 rfl
      have x144 := Fk.e new2
      replace hvd := Fk.mono _ _ _ _ hvd hb
      replace hd := HD.below hd hb
      replace ho := HD.below ho hb
      replace hvlt := fun a e => Nat.lt_of_lt_of_le (hvlt a e) hb.size
      replace bl := bgo bl hb
      replace sz := sz2.trans sz
      replace df := df2.trans df
      clear df2 sz2 old2 new2 hb
      refine wpList_nil ?_
      clear x184
      show (∃ _, _) ∧ _
      refine ⟨⟨k + 1, n9, DD, DO, by omega, by rw [fil_no (by rw [hpp]; simp [hq])]; exact hn9, hDD, hDO, hQO, hQD, hvD, hvO, sz, df, x1, x7, x8, x9, x15, x18, x19, x20, x144, hvd, hd, ho, hvlt, bl⟩, ?_⟩
      rw [show f58.eval (.tmp 144) = _ from x144, show _ = _ from hcnt]
      first | (simp [intOf]; done) | (simp [intOf]; omega)
    obtain ⟨oo, hook⟩ : ∃ p, l2[k]? = some p := ⟨_, List.getElem?_eq_getElem hlt⟩
    have hboo : (Fk.sl oo.bs).f oo.vb w := (ol_ok hv2 hook).b
    have hloo : (Fk.is oo.ls).f oo.vl w := (ol_ok hv2 hook).l
    have hsm := o_small h2s hook
    have hon := (ol_ok hv2 hook).n
    have how := (ol_ok hv2 hook).w
    refine wr_a [.eq (.bool true)] (by rw [sz]; kernel_rfl) ⟨fun hw ac u K => ?_, trivial⟩ ?_
    · exact st_lss 3 (.tmp 109) (.tmp 108) rfl .i64 ((k : Int)) ((((l2).length : Nat) : Int)) (K.t x109 rfl) (K.t x108 rfl) _ (by rw [eq_comm, decide_eq_true_iff]; exact Int.ofNat_lt.2 hlt)
    intro f28 w28 A hb
    replace x1 := A.t x1 rfl
    replace x7 := A.t x7 rfl
    replace x8 := A.t x8 rfl
    replace x9 := A.t x9 rfl
    replace x15 := A.t x15 rfl
    replace x107 := A.t x107 rfl
    replace x108 := A.t x108 rfl
    replace x109 := A.t x109 rfl
    have x110 := A.e 0 110 rfl rfl
    replace hd := HD.below hd hb
    replace ho := HD.below ho hb
    replace bl := bgo bl hb
    replace sz := A.size.trans sz
    replace df := A.defs.trans df
    clear A hb
    show Code.wp _ _ _ _ _
    refine wp_seq ?_
    refine wp_cond_true x110 ?_
    refine wp_skip ?_
    show Code.wp _ _ _ _ _
    refine wp_seq ?_
    refine wp_block ?_
    refine wp_seq ?_
    refine wr_s [.oq oo, .eq (.agg ([.int .i64 oo.k, .int .i64 oo.s, .int .i64 oo.n, oo.vb, oo.vl] : List Value).toArray)] (by rw [sz]; kernel_rfl) ⟨fun hw ac u K => ?_, fun hw ac u K => ?_, trivial⟩ ?_
    · exact st_idxo (.tmp 107) (.tmp 109) rfl (fk_val (K.t x107 rfl) (Fk.mono _ _ _ _ hv2 (bgo bl K.grow))) k oo (K.t x109 rfl) hook
    · exact st_loado (.tmp 111) rfl (K.dep 0 111 rfl)
    intro f29 w29 A hb
    have S_hd := hd
    have S_ho := ho
    have hbS0 := Below.refl w28.heap.size w28
    have hbS := hb
    replace x1 := A.t x1 rfl
    replace x7 := A.t x7 rfl
    replace x8 := A.t x8 rfl
    replace x9 := A.t x9 rfl
    replace x15 := A.t x15 rfl
    replace x107 := A.t x107 rfl
    replace x108 := A.t x108 rfl
    replace x109 := A.t x109 rfl
    replace x110 := A.t x110 rfl
    have x112 := A.e 1 112 rfl rfl
    replace hd := HD.below hd hb
    replace ho := HD.below ho hb
    replace bl := bgo bl hb
    replace sz := A.size.trans sz
    replace df := A.defs.trans df
    clear A hb
    clear x110
    refine wl_one (.nw w29.heap.size 32 [.int .i64 0, .int .i64 0, .int .i64 0, .slice none 0 0, .slice none 0 0]) rfl 17 rfl (by rw [sz]; decide) (st_alloc 32 rfl _ _ (by kernel_rfl) (Nat.le_refl _)) ?_
    intro f30 w30 df2 sz2 old2 new2 hb
    replace hbS0 := hbS
    replace hbS := hbS.trans (Below.mono hb hbS.size)
    replace bl0 := bl
    replace x1 := tr old2 x1 rfl
    replace x7 := tr old2 x7 rfl
    replace x8 := tr old2 x8 rfl
    replace x9 := tr old2 x9 rfl
    replace x15 := tr old2 x15 rfl
    replace x107 := tr old2 x107 rfl
    replace x108 := tr old2 x108 rfl
    replace x109 := tr old2 x109 rfl
    replace x112 := tr old2 x112 rfl
    have x17 : Fk.f (.nw w29.heap.size 32 [.int .i64 0, .int .i64 0, .int .i64 0, .slice none 0 0, .slice none 0 0]) (f30.eval (.tmp 17)) w30 := new2
    replace hd := HD.below hd hb
    replace ho := HD.below ho hb
    replace bl := bgo bl hb
    replace sz := sz2.trans sz
    replace df := df2.trans df
    clear df2 sz2 old2 new2 hb
    obtain ⟨g17, hg17, e17, m17⟩ := x17
    have x17 := e17
    clear e17
    have hw17 : w.heap.size ≤ g17 := Nat.le_trans bl0.size hg17
    have hs17 := Nat.le_trans hbS0.size hg17
    refine wl_str rfl 32 (.tmp 17) (.tmp 112) rfl rfl (g17) ([.int .i64 oo.k, .int .i64 oo.s, .int .i64 oo.n, oo.vb, oo.vl] : List Value).toArray x17 x112 32 _ m17 (by kernel_rfl) (by kernel_rfl) (by kernel_rfl) ?_
    replace m17 : Ob (w30.setRow g17 ([.int .i64 oo.k, .int .i64 oo.s, .int .i64 oo.n, oo.vb, oo.vl] : List Value).toArray) (g17) 32 ([.int .i64 oo.k, .int .i64 oo.s, .int .i64 oo.n, oo.vb, oo.vl]) := Ob.setRow m17 ([.int .i64 oo.k, .int .i64 oo.s, .int .i64 oo.n, oo.vb, oo.vl])
    replace hbS : Below _ _ (w30.setRow g17 ([.int .i64 oo.k, .int .i64 oo.s, .int .i64 oo.n, oo.vb, oo.vl] : List Value).toArray) := hbS.trans (below_setRow _ _ _ _ hs17)
    replace hd := HD.below S_hd hbS
    replace ho := HD.below S_ho hbS
    replace bl : Below w.heap.size w (w30.setRow g17 ([.int .i64 oo.k, .int .i64 oo.s, .int .i64 oo.n, oo.vb, oo.vl] : List Value).toArray) := bl.trans (below_setRow _ _ _ _ hw17)
    generalize w30.setRow g17 ([.int .i64 oo.k, .int .i64 oo.s, .int .i64 oo.n, oo.vb, oo.vl] : List Value).toArray = w31b at bl m17 hd ho hbS ⊢
    refine wpList_nil ?_
    clear hbS hbS0 S_hd S_ho
    clear x112
    show Code.wp _ _ _ _ _
    refine wp_seq ?_
    refine wr_a [.eq (.pointer (some ⟨g17, 0, none⟩)), .eq (.int .i64 oo.k)] (by rw [sz]; kernel_rfl) ⟨fun hw ac u K => ?_, fun hw ac u K => ?_, trivial⟩ ?_
    · exact st_field 32 0 (.tmp 17) rfl (K.t x17 rfl) (by kernel_rfl)
    · exact st_loadc 3 (.tmp 113) rfl (by kernel_rfl) (K.dep 0 113 rfl) (Ob.cell (Ob.below m17 K.grow) 0 rfl)
    intro f32 w32 A hb
    replace x1 := A.t x1 rfl
    replace x7 := A.t x7 rfl
    replace x8 := A.t x8 rfl
    replace x9 := A.t x9 rfl
    replace x15 := A.t x15 rfl
    replace x107 := A.t x107 rfl
    replace x108 := A.t x108 rfl
    replace x109 := A.t x109 rfl
    replace x17 := A.t x17 rfl
    have x114 := A.e 1 114 rfl rfl
    replace m17 := Ob.below m17 hb
    replace hd := HD.below hd hb
    replace ho := HD.below ho hb
    replace bl := bgo bl hb
    replace sz := A.size.trans sz
    replace df := A.defs.trans df
    clear A hb
    show Code.wp _ _ _ _ _
    refine wp_block ?_
    refine wp_seq ?_
    by_cases hk1 : oo.k = 1
    rotate_left
    · skip
      refine wr_a [.eq (.bool false), .eq (.bool false)] (by rw [sz]; kernel_rfl) ⟨fun hw ac u K => ?_, fun hw ac u K => ?_, trivial⟩ ?_
      · exact st_eqi 3 (.tmp 114) (.const (.int .i64 1)) rfl .i64 (oo.k) (1) (K.t x114 rfl) rfl _ (by symm; rw [decide_eq_false_iff_not]; exact hk1)
      · exact st_assign (.tmp 116) rfl (K.dep 0 116 rfl)
      intro f33 w33 A hb
      replace x1 := A.t x1 rfl
      replace x7 := A.t x7 rfl
      replace x8 := A.t x8 rfl
      replace x9 := A.t x9 rfl
      replace x15 := A.t x15 rfl
      replace x107 := A.t x107 rfl
      replace x108 := A.t x108 rfl
      replace x109 := A.t x109 rfl
      replace x17 := A.t x17 rfl
      replace x114 := A.t x114 rfl
      have x115 := A.e 1 115 rfl rfl
      replace m17 := Ob.below m17 hb
      replace hd := HD.below hd hb
      replace ho := HD.below ho hb
      replace bl := bgo bl hb
      replace sz := A.size.trans sz
      replace df := A.defs.trans df
      clear A hb
      show Code.wp _ _ _ _ _
      refine wp_cond_false x115 ?_
      refine wp_seq ?_
      by_cases hk5 : oo.k = 5
      rotate_left
      · skip
        refine wr_a [.eq (.bool false), .eq (.bool false)] (by rw [sz]; kernel_rfl) ⟨fun hw ac u K => ?_, fun hw ac u K => ?_, trivial⟩ ?_
        · exact st_eqi 3 (.tmp 114) (.const (.int .i64 5)) rfl .i64 (oo.k) (5) (K.t x114 rfl) rfl _ (by symm; rw [decide_eq_false_iff_not]; exact hk5)
        · exact st_assign (.tmp 124) rfl (K.dep 0 124 rfl)
        intro f34 w34 A hb
        replace x1 := A.t x1 rfl
        replace x7 := A.t x7 rfl
        replace x8 := A.t x8 rfl
        replace x9 := A.t x9 rfl
        replace x15 := A.t x15 rfl
        replace x107 := A.t x107 rfl
        replace x108 := A.t x108 rfl
        replace x109 := A.t x109 rfl
        replace x17 := A.t x17 rfl
        replace x114 := A.t x114 rfl
        replace x115 := A.t x115 rfl
        have x123 := A.e 1 123 rfl rfl
        replace m17 := Ob.below m17 hb
        replace hd := HD.below hd hb
        replace ho := HD.below ho hb
        replace bl := bgo bl hb
        replace sz := A.size.trans sz
        replace df := A.defs.trans df
        clear A hb
        clear x115
        show Code.wp _ _ _ _ _
        refine wp_cond_false x123 ?_
        refine wp_seq ?_
        by_cases hk6 : oo.k = 6
        rotate_left
        · skip
          refine wr_a [.eq (.bool false), .eq (.bool false)] (by rw [sz]; kernel_rfl) ⟨fun hw ac u K => ?_, fun hw ac u K => ?_, trivial⟩ ?_
          · exact st_eqi 3 (.tmp 114) (.const (.int .i64 6)) rfl .i64 (oo.k) (6) (K.t x114 rfl) rfl _ (by symm; rw [decide_eq_false_iff_not]; exact hk6)
          · exact st_assign (.tmp 130) rfl (K.dep 0 130 rfl)
          intro f35 w35 A hb
          replace x1 := A.t x1 rfl
          replace x7 := A.t x7 rfl
          replace x8 := A.t x8 rfl
          replace x9 := A.t x9 rfl
          replace x15 := A.t x15 rfl
          replace x107 := A.t x107 rfl
          replace x108 := A.t x108 rfl
          replace x109 := A.t x109 rfl
          replace x17 := A.t x17 rfl
          replace x114 := A.t x114 rfl
          replace x123 := A.t x123 rfl
          have x129 := A.e 1 129 rfl rfl
          replace m17 := Ob.below m17 hb
          replace hd := HD.below hd hb
          replace ho := HD.below ho hb
          replace bl := bgo bl hb
          replace sz := A.size.trans sz
          replace df := A.defs.trans df
          clear A hb
          clear x114
          clear x123
          show Code.wp _ _ _ _ _
          refine wp_cond_false x129 ?_
          refine wp_skip ?_
          show Code.wp _ _ _ _ _
          refine wr_s [.eq (.int .i64 ((k + 1 : Nat) : Int))] (by rw [sz]; kernel_rfl) ⟨fun hw ac u K => ?_, trivial⟩ ?_
          · exact st_add (.tmp 109) (.const (.int .i64 1)) rfl (k) (1) (k + 1) (K.t x109 rfl) rfl (by omega) (by omega)
          intro f36 w36 A hb
          replace x1 := A.t x1 rfl
          replace x7 := A.t x7 rfl
          replace x8 := A.t x8 rfl
          replace x9 := A.t x9 rfl
          replace x15 := A.t x15 rfl
          replace x107 := A.t x107 rfl
          replace x108 := A.t x108 rfl
          replace x109 := A.t x109 rfl
          replace x17 := A.t x17 rfl
          replace x129 := A.t x129 rfl
          have x137 := A.e 0 137 rfl rfl
          replace m17 := Ob.below m17 hb
          replace hd := HD.below hd hb
          replace ho := HD.below ho hb
          replace bl := bgo bl hb
          replace sz := A.size.trans sz
          replace df := A.defs.trans df
          clear A hb
          clear x17
          clear x129
          refine wl_one (.eq (.int .i64 ((k + 1 : Nat) : Int))) rfl 109 rfl (by rw [sz]; decide) (st_move (.tmp 137) rfl x137) ?_
          intro f37 w37 df2 sz2 old2 new2 hb
          replace x1 := tr old2 x1 rfl
          replace x7 := tr old2 x7 rfl
          replace x8 := tr old2 x8 rfl
          replace x9 := tr old2 x9 rfl
          replace x15 := tr old2 x15 rfl
          replace x107 := tr old2 x107 rfl
          replace x108 := tr old2 x108 rfl
          clear x109
          replace x137 := tr old2 x137 rfl
          have x109 := Fk.e new2
          replace m17 := Ob.below m17 hb
          replace hd := HD.below hd hb
          replace ho := HD.below ho hb
          replace bl := bgo bl hb
          replace sz := sz2.trans sz
          replace df := df2.trans df
          clear df2 sz2 old2 new2 hb
          refine wpList_nil ?_
          clear x137
          clear m17
          show (∃ _, _) ∧ _
          refine ⟨⟨k + 1, s, DD, by omega, gs.le (Nat.le_succ _), hon9, hDD, hQO, hQD, sz, df, x1, x7, x8, x9, x15, x107, x108, x109, hd, ho, bl⟩, ?_⟩
          rw [show f37.eval (.tmp 109) = _ from x109, show _ = _ from hcnt]
          first | (simp [intOf]; done) | (simp [intOf]; omega)
        refine wr_a [.eq (.bool true), .eq (.bool true)] (by rw [sz]; kernel_rfl) ⟨fun hw ac u K => ?_, fun hw ac u K => ?_, trivial⟩ ?_
        · exact st_eqi 3 (.tmp 114) (.const (.int .i64 6)) rfl .i64 (oo.k) (6) (K.t x114 rfl) rfl _ (by symm; rw [decide_eq_true_iff]; exact hk6)
        · exact st_assign (.tmp 130) rfl (K.dep 0 130 rfl)
        intro f35 w35 A hb
        replace x1 := A.t x1 rfl
        replace x7 := A.t x7 rfl
        replace x8 := A.t x8 rfl
        replace x9 := A.t x9 rfl
        replace x15 := A.t x15 rfl
        replace x107 := A.t x107 rfl
        replace x108 := A.t x108 rfl
        replace x109 := A.t x109 rfl
        replace x17 := A.t x17 rfl
        replace x114 := A.t x114 rfl
        replace x123 := A.t x123 rfl
        have x129 := A.e 1 129 rfl rfl
        replace m17 := Ob.below m17 hb
        replace hd := HD.below hd hb
        replace ho := HD.below ho hb
        replace bl := bgo bl hb
        replace sz := A.size.trans sz
        replace df := A.defs.trans df
        clear A hb
        clear x114
        clear x123
        show Code.wp _ _ _ _ _
        refine wp_cond_true x129 ?_
        refine wr_s [.eq (.pointer (some ⟨gd, 0, none⟩)), .eq (.pointer (some ⟨g17, 1, none⟩)), .eq (.int .i64 oo.s), .eq (.pointer (some ⟨g17, 3, none⟩)), .eq (oo.vb)] (by rw [sz]; kernel_rfl) ⟨fun hw ac u K => ?_, fun hw ac u K => ?_, fun hw ac u K => ?_, fun hw ac u K => ?_, fun hw ac u K => ?_, trivial⟩ ?_
        · exact st_move (.tmp 15) rfl (K.t x15 rfl)
        · exact st_field 32 1 (.tmp 17) rfl (K.t x17 rfl) (by kernel_rfl)
        · exact st_loadc 3 (.tmp 132) rfl (by kernel_rfl) (K.dep 1 132 rfl) (Ob.cell (Ob.below m17 K.grow) 1 rfl)
        · exact st_field 32 3 (.tmp 17) rfl (K.t x17 rfl) (by kernel_rfl)
        · exact st_loadc 29 (.tmp 134) rfl (by kernel_rfl) (K.dep 3 134 rfl) (Ob.cell (Ob.below m17 K.grow) 3 rfl)
        intro f36 w36 A hb
        replace x1 := A.t x1 rfl
        replace x7 := A.t x7 rfl
        replace x8 := A.t x8 rfl
        replace x9 := A.t x9 rfl
        replace x15 := A.t x15 rfl
        replace x107 := A.t x107 rfl
        replace x108 := A.t x108 rfl
        replace x109 := A.t x109 rfl
        replace x17 := A.t x17 rfl
        replace x129 := A.t x129 rfl
        have x131 := A.e 0 131 rfl rfl
        have x133 := A.e 2 133 rfl rfl
        have x135 := A.e 4 135 rfl rfl
        replace m17 := Ob.below m17 hb
        replace hd := HD.below hd hb
        replace ho := HD.below ho hb
        replace bl := bgo bl hb
        replace sz := A.size.trans sz
        replace df := A.defs.trans df
        clear A hb
        clear x17
        clear x129
        refine wl_call 26 (.func 26) _ _ #[.pointer (some ⟨gd, 0, none⟩), .int .i64 oo.s, oo.vb] rfl 136 rfl (by rw [sz]; decide) rfl rfl (three_arg x131 x133 x135) Try.enter26 (fun u W' => ∃ D2 : Nat → Prop, u = .int .i64 (tmr s oo.s oo.bs).1 ∧ HD W' gd M D2 ((tmr s oo.s oo.bs).2) ∧ (∀ j, D2 j → DD j ∨ w36.heap.size ≤ j) ∧ Fr M w36 W') ((fk_dtamper hd (by have := gs.has; omega) oo.s (Fk.mono _ _ _ _ hboo bl)).mono (by rintro e w' ⟨D2, rfl, q⟩; exact ⟨_, rfl, D2, rfl, q⟩)) ?_
        rintro f37 w37 df2 sz2 old2 ⟨D2, x136, hd2, hD2, O⟩
        have OM := O
        replace O := O.mono hd.sub
        replace x1 := tr old2 x1 rfl
        replace x7 := tr old2 x7 rfl
        replace x8 := tr old2 x8 rfl
        replace x9 := tr old2 x9 rfl
        replace x15 := tr old2 x15 rfl
        replace x107 := tr old2 x107 rfl
        replace x108 := tr old2 x108 rfl
        replace x109 := tr old2 x109 rfl
        replace x131 := tr old2 x131 rfl
        replace x133 := tr old2 x133 rfl
        replace x135 := tr old2 x135 rfl
        clear m17
        have hol := ho.lt
        replace ho := ho.keep (fun j hj => OM.block j (hol j hj) (hQO j hj)) O.size
        replace hQD : ∀ j, D2 j → ¬ MO j := fun j q hj => (hD2 j q).elim (fun q => hQD j q hj) (fun q => by have := hol j (ho.sub j hj); omega)
        clear hol
        have bl9 := bl.trans (O.below bl.size hDD)
        replace hDD : ∀ j, D2 j → w.heap.size ≤ j := fun j q => (hD2 j q).elim (hDD j) (fun q => Nat.le_trans bl.size q)
        replace bl := bl9
        replace bl0 := bl
        replace hd := hd2
        replace sz := sz2.trans sz
        replace df := df2.trans df
        clear df2 sz2 old2 hd2 bl9
        clear O OM hD2
        clear DD
        obtain ⟨DD, rfl⟩ : ∃ E, E = D2 := ⟨_, rfl⟩
        refine wpList_nil ?_
        clear x131
        clear x133
        clear x135
        clear x136
        show Code.wp _ _ _ _ _
        refine wr_s [.eq (.int .i64 ((k + 1 : Nat) : Int))] (by rw [sz]; kernel_rfl) ⟨fun hw ac u K => ?_, trivial⟩ ?_
        · exact st_add (.tmp 109) (.const (.int .i64 1)) rfl (k) (1) (k + 1) (K.t x109 rfl) rfl (by omega) (by omega)
        intro f38 w38 A hb
        replace x1 := A.t x1 rfl
        replace x7 := A.t x7 rfl
        replace x8 := A.t x8 rfl
        replace x9 := A.t x9 rfl
        replace x15 := A.t x15 rfl
        replace x107 := A.t x107 rfl
        replace x108 := A.t x108 rfl
        replace x109 := A.t x109 rfl
        have x137 := A.e 0 137 rfl rfl
        replace hd := HD.below hd hb
        replace ho := HD.below ho hb
        replace bl := bgo bl hb
        replace sz := A.size.trans sz
        replace df := A.defs.trans df
        clear A hb
        refine wl_one (.eq (.int .i64 ((k + 1 : Nat) : Int))) rfl 109 rfl (by rw [sz]; decide) (st_move (.tmp 137) rfl x137) ?_
        intro f39 w39 df2 sz2 old2 new2 hb
        replace x1 := tr old2 x1 rfl
        replace x7 := tr old2 x7 rfl
        replace x8 := tr old2 x8 rfl
        replace x9 := tr old2 x9 rfl
        replace x15 := tr old2 x15 rfl
        replace x107 := tr old2 x107 rfl
        replace x108 := tr old2 x108 rfl
        clear x109
        replace x137 := tr old2 x137 rfl
        have x109 := Fk.e new2
        replace hd := HD.below hd hb
        replace ho := HD.below ho hb
        replace bl := bgo bl hb
        replace sz := sz2.trans sz
        replace df := df2.trans df
        clear df2 sz2 old2 new2 hb
        refine wpList_nil ?_
        clear x137
        show (∃ _, _) ∧ _
        refine ⟨⟨k + 1, (tmr s oo.s oo.bs).2, DD, by omega, gd_tmr gs _ _, on_tmr hon9 _ _, hDD, hQO, hQD, sz, df, x1, x7, x8, x9, x15, x107, x108, x109, hd, ho, bl⟩, ?_⟩
        rw [show f39.eval (.tmp 109) = _ from x109, show _ = _ from hcnt]
        first | (simp [intOf]; done) | (simp [intOf]; omega)
      refine wr_a [.eq (.bool true), .eq (.bool true)] (by rw [sz]; kernel_rfl) ⟨fun hw ac u K => ?_, fun hw ac u K => ?_, trivial⟩ ?_
      · exact st_eqi 3 (.tmp 114) (.const (.int .i64 5)) rfl .i64 (oo.k) (5) (K.t x114 rfl) rfl _ (by symm; rw [decide_eq_true_iff]; exact hk5)
      · exact st_assign (.tmp 124) rfl (K.dep 0 124 rfl)
      intro f34 w34 A hb
      replace x1 := A.t x1 rfl
      replace x7 := A.t x7 rfl
      replace x8 := A.t x8 rfl
      replace x9 := A.t x9 rfl
      replace x15 := A.t x15 rfl
      replace x107 := A.t x107 rfl
      replace x108 := A.t x108 rfl
      replace x109 := A.t x109 rfl
      replace x17 := A.t x17 rfl
      replace x114 := A.t x114 rfl
      replace x115 := A.t x115 rfl
      have x123 := A.e 1 123 rfl rfl
      replace m17 := Ob.below m17 hb
      replace hd := HD.below hd hb
      replace ho := HD.below ho hb
      replace bl := bgo bl hb
      replace sz := A.size.trans sz
      replace df := A.defs.trans df
      clear A hb
      clear x115
      show Code.wp _ _ _ _ _
      refine wp_cond_true x123 ?_
      refine wr_s [.eq (.pointer (some ⟨gd, 0, none⟩)), .eq (.pointer (some ⟨g17, 4, none⟩)), .eq (oo.vl)] (by rw [sz]; kernel_rfl) ⟨fun hw ac u K => ?_, fun hw ac u K => ?_, fun hw ac u K => ?_, trivial⟩ ?_
      · exact st_move (.tmp 15) rfl (K.t x15 rfl)
      · exact st_field 32 4 (.tmp 17) rfl (K.t x17 rfl) (by kernel_rfl)
      · exact st_loadc 30 (.tmp 126) rfl (by kernel_rfl) (K.dep 1 126 rfl) (Ob.cell (Ob.below m17 K.grow) 4 rfl)
      intro f35 w35 A hb
      replace x1 := A.t x1 rfl
      replace x7 := A.t x7 rfl
      replace x8 := A.t x8 rfl
      replace x9 := A.t x9 rfl
      replace x15 := A.t x15 rfl
      replace x107 := A.t x107 rfl
      replace x108 := A.t x108 rfl
      replace x109 := A.t x109 rfl
      replace x17 := A.t x17 rfl
      replace x114 := A.t x114 rfl
      replace x123 := A.t x123 rfl
      have x125 := A.e 0 125 rfl rfl
      have x127 := A.e 2 127 rfl rfl
      replace m17 := Ob.below m17 hb
      replace hd := HD.below hd hb
      replace ho := HD.below ho hb
      replace bl := bgo bl hb
      replace sz := A.size.trans sz
      replace df := A.defs.trans df
      clear A hb
      clear x17
      clear x114
      clear x123
      refine wl_call 14 (.func 14) _ _ #[.pointer (some ⟨gd, 0, none⟩), oo.vl] rfl 128 rfl (by rw [sz]; decide) rfl rfl (two_arg x125 x127) Try.enter14 (fun u W' => ∃ D2 : Nat → Prop, u = .tuple #[] ∧ HD W' gd M D2 (crs s oo.ls) ∧ (∀ j, D2 j → DD j ∨ w35.heap.size ≤ j) ∧ Fr M w35 W') ((fk_dcrash hd (by have := gs.has; omega) (Fk.mono _ _ _ _ hloo bl) how (by have := hsm.2; omega)).mono (by rintro e w' ⟨D2, rfl, q⟩; exact ⟨_, rfl, D2, rfl, q⟩)) ?_
      rintro f36 w36 df2 sz2 old2 ⟨D2, x128, hd2, hD2, O⟩
      have OM := O
      replace O := O.mono hd.sub
      replace x1 := tr old2 x1 rfl
      replace x7 := tr old2 x7 rfl
      replace x8 := tr old2 x8 rfl
      replace x9 := tr old2 x9 rfl
      replace x15 := tr old2 x15 rfl
      replace x107 := tr old2 x107 rfl
      replace x108 := tr old2 x108 rfl
      replace x109 := tr old2 x109 rfl
      replace x125 := tr old2 x125 rfl
      replace x127 := tr old2 x127 rfl
      clear m17
      have hol := ho.lt
      replace ho := ho.keep (fun j hj => OM.block j (hol j hj) (hQO j hj)) O.size
      replace hQD : ∀ j, D2 j → ¬ MO j := fun j q hj => (hD2 j q).elim (fun q => hQD j q hj) (fun q => by have := hol j (ho.sub j hj); omega)
      clear hol
      have bl9 := bl.trans (O.below bl.size hDD)
      replace hDD : ∀ j, D2 j → w.heap.size ≤ j := fun j q => (hD2 j q).elim (hDD j) (fun q => Nat.le_trans bl.size q)
      replace bl := bl9
      replace bl0 := bl
      replace hd := hd2
      replace sz := sz2.trans sz
      replace df := df2.trans df
      clear df2 sz2 old2 hd2 bl9
      clear O OM hD2
      clear DD
      obtain ⟨DD, rfl⟩ : ∃ E, E = D2 := ⟨_, rfl⟩
      refine wpList_nil ?_
      clear x125
      clear x127
      clear x128
      show Code.wp _ _ _ _ _
      refine wr_s [.eq (.int .i64 ((k + 1 : Nat) : Int))] (by rw [sz]; kernel_rfl) ⟨fun hw ac u K => ?_, trivial⟩ ?_
      · exact st_add (.tmp 109) (.const (.int .i64 1)) rfl (k) (1) (k + 1) (K.t x109 rfl) rfl (by omega) (by omega)
      intro f37 w37 A hb
      replace x1 := A.t x1 rfl
      replace x7 := A.t x7 rfl
      replace x8 := A.t x8 rfl
      replace x9 := A.t x9 rfl
      replace x15 := A.t x15 rfl
      replace x107 := A.t x107 rfl
      replace x108 := A.t x108 rfl
      replace x109 := A.t x109 rfl
      have x137 := A.e 0 137 rfl rfl
      replace hd := HD.below hd hb
      replace ho := HD.below ho hb
      replace bl := bgo bl hb
      replace sz := A.size.trans sz
      replace df := A.defs.trans df
      clear A hb
      refine wl_one (.eq (.int .i64 ((k + 1 : Nat) : Int))) rfl 109 rfl (by rw [sz]; decide) (st_move (.tmp 137) rfl x137) ?_
      intro f38 w38 df2 sz2 old2 new2 hb
      replace x1 := tr old2 x1 rfl
      replace x7 := tr old2 x7 rfl
      replace x8 := tr old2 x8 rfl
      replace x9 := tr old2 x9 rfl
      replace x15 := tr old2 x15 rfl
      replace x107 := tr old2 x107 rfl
      replace x108 := tr old2 x108 rfl
      clear x109
      replace x137 := tr old2 x137 rfl
      have x109 := Fk.e new2
      replace hd := HD.below hd hb
      replace ho := HD.below ho hb
      replace bl := bgo bl hb
      replace sz := sz2.trans sz
      replace df := df2.trans df
      clear df2 sz2 old2 new2 hb
      refine wpList_nil ?_
      clear x137
      show (∃ _, _) ∧ _
      refine ⟨⟨k + 1, crs s oo.ls, DD, by omega, (gd_crs gs _).le (Nat.le_succ _), on_crs _ _, hDD, hQO, hQD, sz, df, x1, x7, x8, x9, x15, x107, x108, x109, hd, ho, bl⟩, ?_⟩
      rw [show f38.eval (.tmp 109) = _ from x109, show _ = _ from hcnt]
      first | (simp [intOf]; done) | (simp [intOf]; omega)
    refine wr_a [.eq (.bool true), .eq (.bool true)] (by rw [sz]; kernel_rfl) ⟨fun hw ac u K => ?_, fun hw ac u K => ?_, trivial⟩ ?_
    · exact st_eqi 3 (.tmp 114) (.const (.int .i64 1)) rfl .i64 (oo.k) (1) (K.t x114 rfl) rfl _ (by symm; rw [decide_eq_true_iff]; exact hk1)
    · exact st_assign (.tmp 116) rfl (K.dep 0 116 rfl)
    intro f33 w33 A hb
    replace x1 := A.t x1 rfl
    replace x7 := A.t x7 rfl
    replace x8 := A.t x8 rfl
    replace x9 := A.t x9 rfl
    replace x15 := A.t x15 rfl
    replace x107 := A.t x107 rfl
    replace x108 := A.t x108 rfl
    replace x109 := A.t x109 rfl
    replace x17 := A.t x17 rfl
    replace x114 := A.t x114 rfl
    have x115 := A.e 1 115 rfl rfl
    replace m17 := Ob.below m17 hb
    replace hd := HD.below hd hb
    replace ho := HD.below ho hb
    replace bl := bgo bl hb
    replace sz := A.size.trans sz
    replace df := A.defs.trans df
    clear A hb
    show Code.wp _ _ _ _ _
    refine wp_cond_true x115 ?_
    refine wr_s [.eq (.pointer (some ⟨gd, 0, none⟩)), .eq (.pointer (some ⟨g17, 1, none⟩)), .eq (.int .i64 oo.s), .eq (.pointer (some ⟨g17, 3, none⟩)), .eq (oo.vb)] (by rw [sz]; kernel_rfl) ⟨fun hw ac u K => ?_, fun hw ac u K => ?_, fun hw ac u K => ?_, fun hw ac u K => ?_, fun hw ac u K => ?_, trivial⟩ ?_
    · exact st_move (.tmp 15) rfl (K.t x15 rfl)
    · exact st_field 32 1 (.tmp 17) rfl (K.t x17 rfl) (by kernel_rfl)
    · exact st_loadc 3 (.tmp 118) rfl (by kernel_rfl) (K.dep 1 118 rfl) (Ob.cell (Ob.below m17 K.grow) 1 rfl)
    · exact st_field 32 3 (.tmp 17) rfl (K.t x17 rfl) (by kernel_rfl)
    · exact st_loadc 29 (.tmp 120) rfl (by kernel_rfl) (K.dep 3 120 rfl) (Ob.cell (Ob.below m17 K.grow) 3 rfl)
    intro f34 w34 A hb
    replace x1 := A.t x1 rfl
    replace x7 := A.t x7 rfl
    replace x8 := A.t x8 rfl
    replace x9 := A.t x9 rfl
    replace x15 := A.t x15 rfl
    replace x107 := A.t x107 rfl
    replace x108 := A.t x108 rfl
    replace x109 := A.t x109 rfl
    replace x17 := A.t x17 rfl
    replace x114 := A.t x114 rfl
    replace x115 := A.t x115 rfl
    have x117 := A.e 0 117 rfl rfl
    have x119 := A.e 2 119 rfl rfl
    have x121 := A.e 4 121 rfl rfl
    replace m17 := Ob.below m17 hb
    replace hd := HD.below hd hb
    replace ho := HD.below ho hb
    replace bl := bgo bl hb
    replace sz := A.size.trans sz
    replace df := A.defs.trans df
    clear A hb
    clear x17
    clear x114
    clear x115
    refine wl_call 18 (.func 18) _ _ #[.pointer (some ⟨gd, 0, none⟩), .int .i64 oo.s, oo.vb] rfl 122 rfl (by rw [sz]; decide) rfl rfl (three_arg x117 x119 x121) Try.enter18 (fun u W' => ∃ D2 : Nat → Prop, u = .int .i64 (wrt s oo.s oo.bs).1 ∧ HD W' gd M D2 ((wrt s oo.s oo.bs).2) ∧ (∀ j, D2 j → DD j ∨ w34.heap.size ≤ j) ∧ Fr M w34 W') ((fk_dwrite hd (by have := gs.done; omega) (by have := gs.has; omega) oo.s (Fk.mono _ _ _ _ hboo bl)).mono (by rintro e w' ⟨D2, rfl, q⟩; exact ⟨_, rfl, D2, rfl, q⟩)) ?_
    rintro f35 w35 df2 sz2 old2 ⟨D2, x122, hd2, hD2, O⟩
    have OM := O
    replace O := O.mono hd.sub
    replace x1 := tr old2 x1 rfl
    replace x7 := tr old2 x7 rfl
    replace x8 := tr old2 x8 rfl
    replace x9 := tr old2 x9 rfl
    replace x15 := tr old2 x15 rfl
    replace x107 := tr old2 x107 rfl
    replace x108 := tr old2 x108 rfl
    replace x109 := tr old2 x109 rfl
    replace x117 := tr old2 x117 rfl
    replace x119 := tr old2 x119 rfl
    replace x121 := tr old2 x121 rfl
    clear m17
    have hol := ho.lt
    replace ho := ho.keep (fun j hj => OM.block j (hol j hj) (hQO j hj)) O.size
    replace hQD : ∀ j, D2 j → ¬ MO j := fun j q hj => (hD2 j q).elim (fun q => hQD j q hj) (fun q => by have := hol j (ho.sub j hj); omega)
    clear hol
    have bl9 := bl.trans (O.below bl.size hDD)
    replace hDD : ∀ j, D2 j → w.heap.size ≤ j := fun j q => (hD2 j q).elim (hDD j) (fun q => Nat.le_trans bl.size q)
    replace bl := bl9
    replace bl0 := bl
    replace hd := hd2
    replace sz := sz2.trans sz
    replace df := df2.trans df
    clear df2 sz2 old2 hd2 bl9
    clear O OM hD2
    clear DD
    obtain ⟨DD, rfl⟩ : ∃ E, E = D2 := ⟨_, rfl⟩
    refine wpList_nil ?_
    clear x117
    clear x119
    clear x121
    clear x122
    show Code.wp _ _ _ _ _
    refine wr_s [.eq (.int .i64 ((k + 1 : Nat) : Int))] (by rw [sz]; kernel_rfl) ⟨fun hw ac u K => ?_, trivial⟩ ?_
    · exact st_add (.tmp 109) (.const (.int .i64 1)) rfl (k) (1) (k + 1) (K.t x109 rfl) rfl (by omega) (by omega)
    intro f36 w36 A hb
    replace x1 := A.t x1 rfl
    replace x7 := A.t x7 rfl
    replace x8 := A.t x8 rfl
    replace x9 := A.t x9 rfl
    replace x15 := A.t x15 rfl
    replace x107 := A.t x107 rfl
    replace x108 := A.t x108 rfl
    replace x109 := A.t x109 rfl
    have x137 := A.e 0 137 rfl rfl
    replace hd := HD.below hd hb
    replace ho := HD.below ho hb
    replace bl := bgo bl hb
    replace sz := A.size.trans sz
    replace df := A.defs.trans df
    clear A hb
    refine wl_one (.eq (.int .i64 ((k + 1 : Nat) : Int))) rfl 109 rfl (by rw [sz]; decide) (st_move (.tmp 137) rfl x137) ?_
    intro f37 w37 df2 sz2 old2 new2 hb
    replace x1 := tr old2 x1 rfl
    replace x7 := tr old2 x7 rfl
    replace x8 := tr old2 x8 rfl
    replace x9 := tr old2 x9 rfl
    replace x15 := tr old2 x15 rfl
    replace x107 := tr old2 x107 rfl
    replace x108 := tr old2 x108 rfl
    clear x109
    replace x137 := tr old2 x137 rfl
    have x109 := Fk.e new2
    replace hd := HD.below hd hb
    replace ho := HD.below ho hb
    replace bl := bgo bl hb
    replace sz := sz2.trans sz
    replace df := df2.trans df
    clear df2 sz2 old2 new2 hb
    refine wpList_nil ?_
    clear x137
    show (∃ _, _) ∧ _
    refine ⟨⟨k + 1, (wrt s oo.s oo.bs).2, DD, by omega, gd_wrt gs _ _, on_wrt hon9 _ _, hDD, hQO, hQD, sz, df, x1, x7, x8, x9, x15, x107, x108, x109, hd, ho, bl⟩, ?_⟩
    rw [show f37.eval (.tmp 109) = _ from x109, show _ = _ from hcnt]
    first | (simp [intOf]; done) | (simp [intOf]; omega)
  obtain ⟨oo, hook⟩ : ∃ p, l[k]? = some p := ⟨_, List.getElem?_eq_getElem hlt⟩
  have hboo : (Fk.sl oo.bs).f oo.vb w := (ol_ok hv hook).b
  have hloo : (Fk.is oo.ls).f oo.vl w := (ol_ok hv hook).l
  have hsm := o_small h1s hook
  have hon := (ol_ok hv hook).n
  have how := (ol_ok hv hook).w
  refine wr_a [.eq (.bool true)] (by rw [sz]; kernel_rfl) ⟨fun hw ac u K => ?_, trivial⟩ ?_
  · exact st_lss 3 (.tmp 61) (.tmp 60) rfl .i64 ((k : Int)) ((((l).length : Nat) : Int)) (K.t x61 rfl) (K.t x60 rfl) _ (by rw [eq_comm, decide_eq_true_iff]; exact Int.ofNat_lt.2 hlt)
  intro f13 w13 A hb
  replace x1 := A.t x1 rfl
  replace x7 := A.t x7 rfl
  replace x8 := A.t x8 rfl
  replace x9 := A.t x9 rfl
  replace x10 := A.t x10 rfl
  replace x59 := A.t x59 rfl
  replace x60 := A.t x60 rfl
  replace x61 := A.t x61 rfl
  have x62 := A.e 0 62 rfl rfl
  replace hd := HD.below hd hb
  replace ho := HD.below ho hb
  replace bl := bgo bl hb
  replace sz := A.size.trans sz
  replace df := A.defs.trans df
  clear A hb
  show Code.wp _ _ _ _ _
  refine wp_seq ?_
  refine wp_cond_true x62 ?_
  refine wp_skip ?_
  show Code.wp _ _ _ _ _
  refine wp_seq ?_
  refine wp_block ?_
  refine wp_seq ?_
  refine wr_s [.oq oo, .eq (.agg ([.int .i64 oo.k, .int .i64 oo.s, .int .i64 oo.n, oo.vb, oo.vl] : List Value).toArray)] (by rw [sz]; kernel_rfl) ⟨fun hw ac u K => ?_, fun hw ac u K => ?_, trivial⟩ ?_
  · exact st_idxo (.tmp 59) (.tmp 61) rfl (fk_val (K.t x59 rfl) (Fk.mono _ _ _ _ hv (bgo bl K.grow))) k oo (K.t x61 rfl) hook
  · exact st_loado (.tmp 63) rfl (K.dep 0 63 rfl)
  intro f14 w14 A hb
  have S_hd := hd
  have S_ho := ho
  have hbS0 := Below.refl w13.heap.size w13
  have hbS := hb
  replace x1 := A.t x1 rfl
  replace x7 := A.t x7 rfl
  replace x8 := A.t x8 rfl
  replace x9 := A.t x9 rfl
  replace x10 := A.t x10 rfl
  replace x59 := A.t x59 rfl
  replace x60 := A.t x60 rfl
  replace x61 := A.t x61 rfl
  replace x62 := A.t x62 rfl
  have x64 := A.e 1 64 rfl rfl
  replace hd := HD.below hd hb
  replace ho := HD.below ho hb
  replace bl := bgo bl hb
  replace sz := A.size.trans sz
  replace df := A.defs.trans df
  clear A hb
  clear x62
  refine wl_one (.nw w14.heap.size 32 [.int .i64 0, .int .i64 0, .int .i64 0, .slice none 0 0, .slice none 0 0]) rfl 12 rfl (by rw [sz]; decide) (st_alloc 32 rfl _ _ (by kernel_rfl) (Nat.le_refl _)) ?_
  intro f15 w15 df2 sz2 old2 new2 hb
  replace hbS0 := hbS
  replace hbS := hbS.trans (Below.mono hb hbS.size)
  replace bl0 := bl
  replace x1 := tr old2 x1 rfl
  replace x7 := tr old2 x7 rfl
  replace x8 := tr old2 x8 rfl
  replace x9 := tr old2 x9 rfl
  replace x10 := tr old2 x10 rfl
  replace x59 := tr old2 x59 rfl
  replace x60 := tr old2 x60 rfl
  replace x61 := tr old2 x61 rfl
  replace x64 := tr old2 x64 rfl
  have x12 : Fk.f (.nw w14.heap.size 32 [.int .i64 0, .int .i64 0, .int .i64 0, .slice none 0 0, .slice none 0 0]) (f15.eval (.tmp 12)) w15 := new2
  replace hd := HD.below hd hb
  replace ho := HD.below ho hb
  replace bl := bgo bl hb
  replace sz := sz2.trans sz
  replace df := df2.trans df
  clear df2 sz2 old2 new2 hb
  obtain ⟨g12, hg12, e12, m12⟩ := x12
  have x12 := e12
  clear e12
  have hw12 : w.heap.size ≤ g12 := Nat.le_trans bl0.size hg12
  have hs12 := Nat.le_trans hbS0.size hg12
  refine wl_str rfl 32 (.tmp 12) (.tmp 64) rfl rfl (g12) ([.int .i64 oo.k, .int .i64 oo.s, .int .i64 oo.n, oo.vb, oo.vl] : List Value).toArray x12 x64 32 _ m12 (by kernel_rfl) (by kernel_rfl) (by kernel_rfl) ?_
  replace m12 : Ob (w15.setRow g12 ([.int .i64 oo.k, .int .i64 oo.s, .int .i64 oo.n, oo.vb, oo.vl] : List Value).toArray) (g12) 32 ([.int .i64 oo.k, .int .i64 oo.s, .int .i64 oo.n, oo.vb, oo.vl]) := Ob.setRow m12 ([.int .i64 oo.k, .int .i64 oo.s, .int .i64 oo.n, oo.vb, oo.vl])
  replace hbS : Below _ _ (w15.setRow g12 ([.int .i64 oo.k, .int .i64 oo.s, .int .i64 oo.n, oo.vb, oo.vl] : List Value).toArray) := hbS.trans (below_setRow _ _ _ _ hs12)
  replace hd := HD.below S_hd hbS
  replace ho := HD.below S_ho hbS
  replace bl : Below w.heap.size w (w15.setRow g12 ([.int .i64 oo.k, .int .i64 oo.s, .int .i64 oo.n, oo.vb, oo.vl] : List Value).toArray) := bl.trans (below_setRow _ _ _ _ hw12)
  generalize w15.setRow g12 ([.int .i64 oo.k, .int .i64 oo.s, .int .i64 oo.n, oo.vb, oo.vl] : List Value).toArray = w16b at bl m12 hd ho hbS ⊢
  refine wpList_nil ?_
  clear hbS hbS0 S_hd S_ho
  clear x64
  show Code.wp _ _ _ _ _
  refine wp_seq ?_
  refine wr_a [.eq (.pointer (some ⟨g12, 0, none⟩)), .eq (.int .i64 oo.k)] (by rw [sz]; kernel_rfl) ⟨fun hw ac u K => ?_, fun hw ac u K => ?_, trivial⟩ ?_
  · exact st_field 32 0 (.tmp 12) rfl (K.t x12 rfl) (by kernel_rfl)
  · exact st_loadc 3 (.tmp 65) rfl (by kernel_rfl) (K.dep 0 65 rfl) (Ob.cell (Ob.below m12 K.grow) 0 rfl)
  intro f17 w17 A hb
  replace x1 := A.t x1 rfl
  replace x7 := A.t x7 rfl
  replace x8 := A.t x8 rfl
  replace x9 := A.t x9 rfl
  replace x10 := A.t x10 rfl
  replace x59 := A.t x59 rfl
  replace x60 := A.t x60 rfl
  replace x61 := A.t x61 rfl
  replace x12 := A.t x12 rfl
  have x66 := A.e 1 66 rfl rfl
  replace m12 := Ob.below m12 hb
  replace hd := HD.below hd hb
  replace ho := HD.below ho hb
  replace bl := bgo bl hb
  replace sz := A.size.trans sz
  replace df := A.defs.trans df
  clear A hb
  show Code.wp _ _ _ _ _
  refine wp_block ?_
  refine wp_seq ?_
  by_cases hk1 : oo.k = 1
  rotate_left
  · skip
    refine wr_a [.eq (.bool false), .eq (.bool false)] (by rw [sz]; kernel_rfl) ⟨fun hw ac u K => ?_, fun hw ac u K => ?_, trivial⟩ ?_
    · exact st_eqi 3 (.tmp 66) (.const (.int .i64 1)) rfl .i64 (oo.k) (1) (K.t x66 rfl) rfl _ (by symm; rw [decide_eq_false_iff_not]; exact hk1)
    · exact st_assign (.tmp 68) rfl (K.dep 0 68 rfl)
    intro f18 w18 A hb
    replace x1 := A.t x1 rfl
    replace x7 := A.t x7 rfl
    replace x8 := A.t x8 rfl
    replace x9 := A.t x9 rfl
    replace x10 := A.t x10 rfl
    replace x59 := A.t x59 rfl
    replace x60 := A.t x60 rfl
    replace x61 := A.t x61 rfl
    replace x12 := A.t x12 rfl
    replace x66 := A.t x66 rfl
    have x67 := A.e 1 67 rfl rfl
    replace m12 := Ob.below m12 hb
    replace hd := HD.below hd hb
    replace ho := HD.below ho hb
    replace bl := bgo bl hb
    replace sz := A.size.trans sz
    replace df := A.defs.trans df
    clear A hb
    show Code.wp _ _ _ _ _
    refine wp_cond_false x67 ?_
    refine wp_seq ?_
    by_cases hk2 : oo.k = 2
    rotate_left
    · skip
      refine wr_a [.eq (.bool false), .eq (.bool false)] (by rw [sz]; kernel_rfl) ⟨fun hw ac u K => ?_, fun hw ac u K => ?_, trivial⟩ ?_
      · exact st_eqi 3 (.tmp 66) (.const (.int .i64 2)) rfl .i64 (oo.k) (2) (K.t x66 rfl) rfl _ (by symm; rw [decide_eq_false_iff_not]; exact hk2)
      · exact st_assign (.tmp 76) rfl (K.dep 0 76 rfl)
      intro f19 w19 A hb
      replace x1 := A.t x1 rfl
      replace x7 := A.t x7 rfl
      replace x8 := A.t x8 rfl
      replace x9 := A.t x9 rfl
      replace x10 := A.t x10 rfl
      replace x59 := A.t x59 rfl
      replace x60 := A.t x60 rfl
      replace x61 := A.t x61 rfl
      replace x12 := A.t x12 rfl
      replace x66 := A.t x66 rfl
      replace x67 := A.t x67 rfl
      have x75 := A.e 1 75 rfl rfl
      replace m12 := Ob.below m12 hb
      replace hd := HD.below hd hb
      replace ho := HD.below ho hb
      replace bl := bgo bl hb
      replace sz := A.size.trans sz
      replace df := A.defs.trans df
      clear A hb
      clear x12
      clear x66
      clear x67
      clear m12
      show Code.wp _ _ _ _ _
      refine wp_cond_false x75 ?_
      refine wp_skip ?_
      show Code.wp _ _ _ _ _
      refine wr_s [.eq (.int .i64 ((k + 1 : Nat) : Int))] (by rw [sz]; kernel_rfl) ⟨fun hw ac u K => ?_, trivial⟩ ?_
      · exact st_add (.tmp 61) (.const (.int .i64 1)) rfl (k) (1) (k + 1) (K.t x61 rfl) rfl (by omega) (by omega)
      intro f20 w20 A hb
      replace x1 := A.t x1 rfl
      replace x7 := A.t x7 rfl
      replace x8 := A.t x8 rfl
      replace x9 := A.t x9 rfl
      replace x10 := A.t x10 rfl
      replace x59 := A.t x59 rfl
      replace x60 := A.t x60 rfl
      replace x61 := A.t x61 rfl
      replace x75 := A.t x75 rfl
      have x79 := A.e 0 79 rfl rfl
      replace hd := HD.below hd hb
      replace ho := HD.below ho hb
      replace bl := bgo bl hb
      replace sz := A.size.trans sz
      replace df := A.defs.trans df
      clear A hb
      clear x75
      refine wl_one (.eq (.int .i64 ((k + 1 : Nat) : Int))) rfl 61 rfl (by rw [sz]; decide) (st_move (.tmp 79) rfl x79) ?_
      intro f21 w21 df2 sz2 old2 new2 hb
      replace x1 := tr old2 x1 rfl
      replace x7 := tr old2 x7 rfl
      replace x8 := tr old2 x8 rfl
      replace x9 := tr old2 x9 rfl
      replace x10 := tr old2 x10 rfl
      replace x59 := tr old2 x59 rfl
      replace x60 := tr old2 x60 rfl
      clear x61
      replace x79 := tr old2 x79 rfl
      have x61 := Fk.e new2
      replace hd := HD.below hd hb
      replace ho := HD.below ho hb
      replace bl := bgo bl hb
      replace sz := sz2.trans sz
      replace df := df2.trans df
      clear df2 sz2 old2 new2 hb
      refine wpList_nil ?_
      clear x79
      show (∃ _, _) ∧ _
      refine ⟨⟨k + 1, s, DD, by omega, gs.le (Nat.le_succ _), hon9, hDD, hQO, hQD, sz, df, x1, x7, x8, x9, x10, x59, x60, x61, hd, ho, bl⟩, ?_⟩
      rw [show f21.eval (.tmp 61) = _ from x61, show _ = _ from hcnt]
      first | (simp [intOf]; done) | (simp [intOf]; omega)
    refine wr_a [.eq (.bool true), .eq (.bool true)] (by rw [sz]; kernel_rfl) ⟨fun hw ac u K => ?_, fun hw ac u K => ?_, trivial⟩ ?_
    · exact st_eqi 3 (.tmp 66) (.const (.int .i64 2)) rfl .i64 (oo.k) (2) (K.t x66 rfl) rfl _ (by symm; rw [decide_eq_true_iff]; exact hk2)
    · exact st_assign (.tmp 76) rfl (K.dep 0 76 rfl)
    intro f19 w19 A hb
    replace x1 := A.t x1 rfl
    replace x7 := A.t x7 rfl
    replace x8 := A.t x8 rfl
    replace x9 := A.t x9 rfl
    replace x10 := A.t x10 rfl
    replace x59 := A.t x59 rfl
    replace x60 := A.t x60 rfl
    replace x61 := A.t x61 rfl
    replace x12 := A.t x12 rfl
    replace x66 := A.t x66 rfl
    replace x67 := A.t x67 rfl
    have x75 := A.e 1 75 rfl rfl
    replace m12 := Ob.below m12 hb
    replace hd := HD.below hd hb
    replace ho := HD.below ho hb
    replace bl := bgo bl hb
    replace sz := A.size.trans sz
    replace df := A.defs.trans df
    clear A hb
    clear x12
    clear x66
    clear x67
    clear m12
    show Code.wp _ _ _ _ _
    refine wp_cond_true x75 ?_
    refine wr_s [.eq (.pointer (some ⟨gd, 0, none⟩))] (by rw [sz]; kernel_rfl) ⟨fun hw ac u K => ?_, trivial⟩ ?_
    · exact st_move (.tmp 9) rfl (K.t x9 rfl)
    intro f20 w20 A hb
    replace x1 := A.t x1 rfl
    replace x7 := A.t x7 rfl
    replace x8 := A.t x8 rfl
    replace x9 := A.t x9 rfl
    replace x10 := A.t x10 rfl
    replace x59 := A.t x59 rfl
    replace x60 := A.t x60 rfl
    replace x61 := A.t x61 rfl
    replace x75 := A.t x75 rfl
    have x77 := A.e 0 77 rfl rfl
    replace hd := HD.below hd hb
    replace ho := HD.below ho hb
    replace bl := bgo bl hb
    replace sz := A.size.trans sz
    replace df := A.defs.trans df
    clear A hb
    clear x75
    refine wl_call 19 (.func 19) _ _ #[.pointer (some ⟨gd, 0, none⟩)] rfl 78 rfl (by rw [sz]; decide) rfl rfl (one_arg x77) Try.enter19 (fun u W' => ∃ D2 : Nat → Prop, u = .int .i64 (flu s).1 ∧ HD W' gd M D2 ((flu s).2) ∧ (∀ j, D2 j → DD j ∨ w20.heap.size ≤ j) ∧ Fr M w20 W') ((fk_dflush hd (by have := gs.done; omega) (by have := gs.has; omega)).mono (by rintro e w' ⟨D2, rfl, q⟩; exact ⟨_, rfl, D2, rfl, q⟩)) ?_
    rintro f21 w21 df2 sz2 old2 ⟨D2, x78, hd2, hD2, O⟩
    have OM := O
    replace O := O.mono hd.sub
    replace x1 := tr old2 x1 rfl
    replace x7 := tr old2 x7 rfl
    replace x8 := tr old2 x8 rfl
    replace x9 := tr old2 x9 rfl
    replace x10 := tr old2 x10 rfl
    replace x59 := tr old2 x59 rfl
    replace x60 := tr old2 x60 rfl
    replace x61 := tr old2 x61 rfl
    replace x77 := tr old2 x77 rfl
    have hol := ho.lt
    replace ho := ho.keep (fun j hj => OM.block j (hol j hj) (hQO j hj)) O.size
    replace hQD : ∀ j, D2 j → ¬ MO j := fun j q hj => (hD2 j q).elim (fun q => hQD j q hj) (fun q => by have := hol j (ho.sub j hj); omega)
    clear hol
    have bl9 := bl.trans (O.below bl.size hDD)
    replace hDD : ∀ j, D2 j → w.heap.size ≤ j := fun j q => (hD2 j q).elim (hDD j) (fun q => Nat.le_trans bl.size q)
    replace bl := bl9
    replace bl0 := bl
    replace hd := hd2
    replace sz := sz2.trans sz
    replace df := df2.trans df
    clear df2 sz2 old2 hd2 bl9
    clear O OM hD2
    clear DD
    obtain ⟨DD, rfl⟩ : ∃ E, E = D2 := ⟨_, rfl⟩
    refine wpList_nil ?_
    clear x77
    clear x78
    show Code.wp _ _ _ _ _
    refine wr_s [.eq (.int .i64 ((k + 1 : Nat) : Int))] (by rw [sz]; kernel_rfl) ⟨fun hw ac u K => ?_, trivial⟩ ?_
    · exact st_add (.tmp 61) (.const (.int .i64 1)) rfl (k) (1) (k + 1) (K.t x61 rfl) rfl (by omega) (by omega)
    intro f22 w22 A hb
    replace x1 := A.t x1 rfl
    replace x7 := A.t x7 rfl
    replace x8 := A.t x8 rfl
    replace x9 := A.t x9 rfl
    replace x10 := A.t x10 rfl
    replace x59 := A.t x59 rfl
    replace x60 := A.t x60 rfl
    replace x61 := A.t x61 rfl
    have x79 := A.e 0 79 rfl rfl
    replace hd := HD.below hd hb
    replace ho := HD.below ho hb
    replace bl := bgo bl hb
    replace sz := A.size.trans sz
    replace df := A.defs.trans df
    clear A hb
    refine wl_one (.eq (.int .i64 ((k + 1 : Nat) : Int))) rfl 61 rfl (by rw [sz]; decide) (st_move (.tmp 79) rfl x79) ?_
    intro f23 w23 df2 sz2 old2 new2 hb
    replace x1 := tr old2 x1 rfl
    replace x7 := tr old2 x7 rfl
    replace x8 := tr old2 x8 rfl
    replace x9 := tr old2 x9 rfl
    replace x10 := tr old2 x10 rfl
    replace x59 := tr old2 x59 rfl
    replace x60 := tr old2 x60 rfl
    clear x61
    replace x79 := tr old2 x79 rfl
    have x61 := Fk.e new2
    replace hd := HD.below hd hb
    replace ho := HD.below ho hb
    replace bl := bgo bl hb
    replace sz := sz2.trans sz
    replace df := df2.trans df
    clear df2 sz2 old2 new2 hb
    refine wpList_nil ?_
    clear x79
    show (∃ _, _) ∧ _
    refine ⟨⟨k + 1, (flu s).2, DD, by omega, gd_flu gs, on_flu hon9, hDD, hQO, hQD, sz, df, x1, x7, x8, x9, x10, x59, x60, x61, hd, ho, bl⟩, ?_⟩
    rw [show f23.eval (.tmp 61) = _ from x61, show _ = _ from hcnt]
    first | (simp [intOf]; done) | (simp [intOf]; omega)
  refine wr_a [.eq (.bool true), .eq (.bool true)] (by rw [sz]; kernel_rfl) ⟨fun hw ac u K => ?_, fun hw ac u K => ?_, trivial⟩ ?_
  · exact st_eqi 3 (.tmp 66) (.const (.int .i64 1)) rfl .i64 (oo.k) (1) (K.t x66 rfl) rfl _ (by symm; rw [decide_eq_true_iff]; exact hk1)
  · exact st_assign (.tmp 68) rfl (K.dep 0 68 rfl)
  intro f18 w18 A hb
  replace x1 := A.t x1 rfl
  replace x7 := A.t x7 rfl
  replace x8 := A.t x8 rfl
  replace x9 := A.t x9 rfl
  replace x10 := A.t x10 rfl
  replace x59 := A.t x59 rfl
  replace x60 := A.t x60 rfl
  replace x61 := A.t x61 rfl
  replace x12 := A.t x12 rfl
  replace x66 := A.t x66 rfl
  have x67 := A.e 1 67 rfl rfl
  replace m12 := Ob.below m12 hb
  replace hd := HD.below hd hb
  replace ho := HD.below ho hb
  replace bl := bgo bl hb
  replace sz := A.size.trans sz
  replace df := A.defs.trans df
  clear A hb
  show Code.wp _ _ _ _ _
  refine wp_cond_true x67 ?_
  refine wr_s [.eq (.pointer (some ⟨gd, 0, none⟩)), .eq (.pointer (some ⟨g12, 1, none⟩)), .eq (.int .i64 oo.s), .eq (.pointer (some ⟨g12, 3, none⟩)), .eq (oo.vb)] (by rw [sz]; kernel_rfl) ⟨fun hw ac u K => ?_, fun hw ac u K => ?_, fun hw ac u K => ?_, fun hw ac u K => ?_, fun hw ac u K => ?_, trivial⟩ ?_
  · exact st_move (.tmp 9) rfl (K.t x9 rfl)
  · exact st_field 32 1 (.tmp 12) rfl (K.t x12 rfl) (by kernel_rfl)
  · exact st_loadc 3 (.tmp 70) rfl (by kernel_rfl) (K.dep 1 70 rfl) (Ob.cell (Ob.below m12 K.grow) 1 rfl)
  · exact st_field 32 3 (.tmp 12) rfl (K.t x12 rfl) (by kernel_rfl)
  · exact st_loadc 29 (.tmp 72) rfl (by kernel_rfl) (K.dep 3 72 rfl) (Ob.cell (Ob.below m12 K.grow) 3 rfl)
  intro f19 w19 A hb
  replace x1 := A.t x1 rfl
  replace x7 := A.t x7 rfl
  replace x8 := A.t x8 rfl
  replace x9 := A.t x9 rfl
  replace x10 := A.t x10 rfl
  replace x59 := A.t x59 rfl
  replace x60 := A.t x60 rfl
  replace x61 := A.t x61 rfl
  replace x12 := A.t x12 rfl
  replace x66 := A.t x66 rfl
  replace x67 := A.t x67 rfl
  have x69 := A.e 0 69 rfl rfl
  have x71 := A.e 2 71 rfl rfl
  have x73 := A.e 4 73 rfl rfl
  replace m12 := Ob.below m12 hb
  replace hd := HD.below hd hb
  replace ho := HD.below ho hb
  replace bl := bgo bl hb
  replace sz := A.size.trans sz
  replace df := A.defs.trans df
  clear A hb
  clear x12
  clear x66
  clear x67
  refine wl_call 18 (.func 18) _ _ #[.pointer (some ⟨gd, 0, none⟩), .int .i64 oo.s, oo.vb] rfl 74 rfl (by rw [sz]; decide) rfl rfl (three_arg x69 x71 x73) Try.enter18 (fun u W' => ∃ D2 : Nat → Prop, u = .int .i64 (wrt s oo.s oo.bs).1 ∧ HD W' gd M D2 ((wrt s oo.s oo.bs).2) ∧ (∀ j, D2 j → DD j ∨ w19.heap.size ≤ j) ∧ Fr M w19 W') ((fk_dwrite hd (by have := gs.done; omega) (by have := gs.has; omega) oo.s (Fk.mono _ _ _ _ hboo bl)).mono (by rintro e w' ⟨D2, rfl, q⟩; exact ⟨_, rfl, D2, rfl, q⟩)) ?_
  rintro f20 w20 df2 sz2 old2 ⟨D2, x74, hd2, hD2, O⟩
  have OM := O
  replace O := O.mono hd.sub
  replace x1 := tr old2 x1 rfl
  replace x7 := tr old2 x7 rfl
  replace x8 := tr old2 x8 rfl
  replace x9 := tr old2 x9 rfl
  replace x10 := tr old2 x10 rfl
  replace x59 := tr old2 x59 rfl
  replace x60 := tr old2 x60 rfl
  replace x61 := tr old2 x61 rfl
  replace x69 := tr old2 x69 rfl
  replace x71 := tr old2 x71 rfl
  replace x73 := tr old2 x73 rfl
  clear m12
  have hol := ho.lt
  replace ho := ho.keep (fun j hj => OM.block j (hol j hj) (hQO j hj)) O.size
  replace hQD : ∀ j, D2 j → ¬ MO j := fun j q hj => (hD2 j q).elim (fun q => hQD j q hj) (fun q => by have := hol j (ho.sub j hj); omega)
  clear hol
  have bl9 := bl.trans (O.below bl.size hDD)
  replace hDD : ∀ j, D2 j → w.heap.size ≤ j := fun j q => (hD2 j q).elim (hDD j) (fun q => Nat.le_trans bl.size q)
  replace bl := bl9
  replace bl0 := bl
  replace hd := hd2
  replace sz := sz2.trans sz
  replace df := df2.trans df
  clear df2 sz2 old2 hd2 bl9
  clear O OM hD2
  clear DD
  obtain ⟨DD, rfl⟩ : ∃ E, E = D2 := ⟨_, rfl⟩
  refine wpList_nil ?_
  clear x69
  clear x71
  clear x73
  clear x74
  show Code.wp _ _ _ _ _
  refine wr_s [.eq (.int .i64 ((k + 1 : Nat) : Int))] (by rw [sz]; kernel_rfl) ⟨fun hw ac u K => ?_, trivial⟩ ?_
  · exact st_add (.tmp 61) (.const (.int .i64 1)) rfl (k) (1) (k + 1) (K.t x61 rfl) rfl (by omega) (by omega)
  intro f21 w21 A hb
  replace x1 := A.t x1 rfl
  replace x7 := A.t x7 rfl
  replace x8 := A.t x8 rfl
  replace x9 := A.t x9 rfl
  replace x10 := A.t x10 rfl
  replace x59 := A.t x59 rfl
  replace x60 := A.t x60 rfl
  replace x61 := A.t x61 rfl
  have x79 := A.e 0 79 rfl rfl
  replace hd := HD.below hd hb
  replace ho := HD.below ho hb
  replace bl := bgo bl hb
  replace sz := A.size.trans sz
  replace df := A.defs.trans df
  clear A hb
  refine wl_one (.eq (.int .i64 ((k + 1 : Nat) : Int))) rfl 61 rfl (by rw [sz]; decide) (st_move (.tmp 79) rfl x79) ?_
  intro f22 w22 df2 sz2 old2 new2 hb
  replace x1 := tr old2 x1 rfl
  replace x7 := tr old2 x7 rfl
  replace x8 := tr old2 x8 rfl
  replace x9 := tr old2 x9 rfl
  replace x10 := tr old2 x10 rfl
  replace x59 := tr old2 x59 rfl
  replace x60 := tr old2 x60 rfl
  clear x61
  replace x79 := tr old2 x79 rfl
  have x61 := Fk.e new2
  replace hd := HD.below hd hb
  replace ho := HD.below ho hb
  replace bl := bgo bl hb
  replace sz := sz2.trans sz
  replace df := df2.trans df
  clear df2 sz2 old2 new2 hb
  refine wpList_nil ?_
  clear x79
  show (∃ _, _) ∧ _
  refine ⟨⟨k + 1, (wrt s oo.s oo.bs).2, DD, by omega, gd_wrt gs _ _, on_wrt hon9 _ _, hDD, hQO, hQD, sz, df, x1, x7, x8, x9, x10, x59, x60, x61, hd, ho, bl⟩, ?_⟩
  rw [show f22.eval (.tmp 61) = _ from x61, show _ = _ from hcnt]
  first | (simp [intOf]; done) | (simp [intOf]; omega)
end Go.Proofs.Ytjdpomilifnlaaa
