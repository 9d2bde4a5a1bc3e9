/- DiskCopies. Arguments opened: a pair of numbers, a list of numbers. -/
import Derived.Test.YtjdpomilifnlaaaM13
import Derived.Test.YtjdpomilifnlaaaM5
namespace Go.Proofs.Ytjdpomilifnlaaa
set_option maxRecDepth 100000
open Go.RowKit
/-- A new disk of the reference's. -/
def Fk.rx (g0 : Nat) : Fk := .inr (.inl ⟨fun v w => ∃ x h c, v = .pointer (some ⟨x, 0, none⟩) ∧ g0 ≤ x ∧ g0 ≤ h ∧ g0 ≤ c ∧ HX w x h c (newd 8 16), by
  rintro v w w' ⟨x, h, c, e, h1, h2, h3, h4⟩ hb
  exact ⟨x, h, c, e, h1, h2, h3, h4.below hb⟩⟩)
theorem new_rx {w : World} {g0 : Nat} (hg : g0 ≤ w.heap.size) : Calls Try.prog 11 #[.int .i64 8, .int .i64 16] w fun e w' => ∃ v, e = .returned v ∧ (Fk.rx g0).f v w' ∧ Below w.heap.size w w' := by
  refine (ref_new (n := 8) (z := 16) (by decide) (by decide) (by decide) w).mono ?_
  rintro e w' ⟨x, h, c, rfl, h1, h2, h3, h4, h5⟩
  exact ⟨_, rfl, ⟨x, h, c, rfl, Nat.le_trans hg h1, Nat.le_trans hg h2, Nat.le_trans hg h3, h4⟩, h5⟩
theorem copies_law {l l2 : List Opn} {v v2 : Value} (hln : l.length ≤ maxLen) (hln2 : l2.length ≤ maxLen) (w : World) (hv : (Fk.ol l).f v w) (hv2 : (Fk.ol l2).f v2 w) :
    Calls Try.prog 5 #[v, v2] w fun e w' => e = .returned (.bool true) ∧ Below w.heap.size w w' := by
  go_enter Try.func5, Try.ntmps5
  refine code_both (fun f w1 => f.tmps.size = 83 ∧ f.defers = [] ∧ f.eval (.tmp 0) = v ∧ f.eval (.tmp 1) = v2 ∧ Below w.heap.size w (w1)) ⟨rfl, rfl, rfl, rfl, Below.refl _ _⟩ ?_
  rintro f0 w0 ⟨sz, df, x0, x1, bl⟩
  have sd := And.intro sz df
  clear sz df
  have bl0 := bl
  refine wp_seq ?_
  refine wr_a [.eq (.bool false)] (by rw [sd.1]; kernel_rfl) ⟨fun hw ac u K => ?_, trivial⟩ ?_
  · exact st_assign (.const (.bool false)) rfl rfl
  intro f1 w1 A hb
  replace x0 := A.t x0 rfl
  replace x1 := A.t x1 rfl
  replace bl := bgo bl hb
  replace sd := A.sd sd
  clear A hb
  show Code.wp _ _ _ _ _
  refine wp_seq ?_
  refine wr_s [] (by rw [sd.1]; kernel_rfl) trivial ?_
  intro f2 w2 A hb
  replace x0 := A.t x0 rfl
  replace x1 := A.t x1 rfl
  replace bl := bgo bl hb
  replace sd := A.sd sd
  clear A hb
  refine wl_call 8 (.func 8) _ _ #[.int .i64 ((8 : Nat) : Int), .int .i64 ((16 : Nat) : Int)] rfl 14 rfl (by rw [sd.1]; decide) rfl rfl rfl Try.enter8 (fun u W' => ∃ (gd : Nat) (M D : Nat → Prop), u = .pointer (some ⟨gd, 0, none⟩) ∧ HD W' gd M D (newd (8) (16)) ∧ (∀ j, D j → w2.heap.size ≤ j) ∧ Below w2.heap.size w2 W') ((fk_dnew (N := 8) (Z := 16) (by decide) (by decide) (by decide) (by decide) w2).mono (by rintro e w' ⟨gd, M, D, rfl, q⟩; exact ⟨_, rfl, gd, M, D, rfl, q⟩)) ?_
  rintro f3 w3 df2 sz2 old2 ⟨gd, M, DD, x14, hd, hD0, hb⟩
  have hDD : ∀ j, DD j → w.heap.size ≤ j := fun j q => Nat.le_trans bl.size (hD0 j q)
  clear hD0
  replace bl0 := bl
  replace x0 := tr old2 x0 rfl
  replace x1 := tr old2 x1 rfl
  replace bl := bgo bl hb
  replace sd := sd2 sz2 df2 sd
  clear df2 sz2 old2 hb
  refine wl_one (.eq (.pointer (some ⟨gd, 0, none⟩))) rfl 5 rfl (by rw [sd.1]; decide) (st_assign (.tmp 14) rfl x14) ?_
  intro f4 w4 df2 sz2 old2 new2 hb
  replace x0 := tr old2 x0 rfl
  replace x1 := tr old2 x1 rfl
  replace x14 := tr old2 x14 rfl
  have x5 := Fk.e new2
  replace hd := HD.below hd hb
  replace bl := bgo bl hb
  replace sd := sd2 sz2 df2 sd
  clear df2 sz2 old2 new2 hb
  refine wpList_nil ?_
  clear x14
  show Code.wp _ _ _ _ _
  refine wp_seq ?_
  refine wp_seq ?_
  by_cases h1s : smallO l 30
  rotate_left
  · skip
    refine wr_a [.eq (.pointer (some ⟨gd, 0, none⟩)), .eq (.bool false), .eq (.bool false), .eq (v), .eq (.bool false), .eq (.bool true), .eq (.bool true), .eq (.bool true), .any, .any, .any, .eq (.bool true)] (by rw [sd.1]; kernel_rfl) ⟨fun hw ac u K => ?_, fun hw ac u K => ?_, fun hw ac u K => ?_, fun hw ac u K => ?_, fun hw ac u K => ?_, fun hw ac u K => ?_, fun hw ac u K => ?_, fun hw ac u K => ?_, fun hw ac u K => ?_, fun hw ac u K => ?_, fun hw ac u K => ?_, fun hw ac u K => ?_, trivial⟩ ?_
    · exact st_move (.tmp 5) rfl (K.t x5 rfl)
    · exact st_bin .eql 23 23 (.tmp 15) _ rfl (K.dep 0 15 rfl) rfl (by kernel_rfl)
    · exact st_move (.tmp 16) rfl (K.dep 1 16 rfl)
    · exact st_move (.tmp 0) rfl (K.t x0 rfl)
    · exact st_call 10 (.func 10) _ _ _ rfl rfl (arg2 (K.dep 3 18 rfl) rfl) Try.enter10 (fk_smallo hln (Fk.mono _ _ _ _ hv (bgo bl K.grow)) (by symm; rw [decide_eq_false_iff_not]; exact h1s))
    · exact st_not (.tmp 19) rfl false (K.dep 4 19 rfl)
    · exact st_pick_f' (.tmp 17) (.const (.bool true)) (.tmp 20) rfl (K.dep 2 17 rfl) (K.dep 5 20 rfl)
    · exact st_move (.tmp 21) rfl (K.dep 6 21 rfl)
    · exact (Bool.false_ne_true hw).elim
    · exact (Bool.false_ne_true hw).elim
    · exact (Bool.false_ne_true hw).elim
    · exact st_pick_t (.tmp 22) (.const (.bool true)) (.tmp 25) rfl (K.dep 7 22 rfl) rfl
    intro f5 w5 A hb
    replace x0 := A.t x0 rfl
    replace x1 := A.t x1 rfl
    replace x5 := A.t x5 rfl
    have x26 := A.e 11 26 rfl rfl
    replace hd := HD.below hd hb
    replace bl := bgo bl hb
    replace sd := A.sd sd
    clear A hb
    show Code.wp _ _ _ _ _
    refine wp_cond_true x26 ?_
    refine wp_seq ?_
    refine wr_a [.eq (.pointer (some ⟨gd, 0, none⟩)), .eq (.bool true), .eq (.bool true), .eq (.bool true), .eq (.bool true), .eq (.bool true)] (by rw [sd.1]; kernel_rfl) ⟨fun hw ac u K => ?_, fun hw ac u K => ?_, fun hw ac u K => ?_, fun hw ac u K => ?_, fun hw ac u K => ?_, fun hw ac u K => ?_, trivial⟩ ?_
    · exact st_move (.tmp 5) rfl (K.t x5 rfl)
    · exact st_bin .neq 23 23 (.tmp 27) _ rfl (K.dep 0 27 rfl) rfl (by kernel_rfl)
    · exact st_move (.tmp 28) rfl (K.dep 1 28 rfl)
    · exact st_call 9 (.func 9) _ _ _ rfl rfl rfl Try.enter9 (awake_any _)
    · exact st_pick_t (.tmp 29) (.tmp 30) (.const (.bool false)) rfl (K.dep 2 29 rfl) (K.dep 3 30 rfl)
    · exact st_assign (.tmp 31) rfl (K.dep 4 31 rfl)
    intro f6 w6 A hb
    replace x0 := A.t x0 rfl
    replace x1 := A.t x1 rfl
    replace x5 := A.t x5 rfl
    replace x26 := A.t x26 rfl
    have x4 := A.e 5 4 rfl rfl
    replace hd := HD.below hd hb
    replace bl := bgo bl hb
    replace sd := A.sd sd
    clear A hb
    clear x0
    clear x1
    clear x5
    clear x26
    show Code.wp _ _ _ _ _
    refine wp_ret ?_
    repeat (first | with_reducible refine then_ret ?_ | with_reducible refine block_ret ?_)
    exact bodyPost_ret (v := .bool true) (ret_slot rfl f6 _ x4 _ _) sd.2 ⟨rfl, bl⟩
  by_cases h2s : smallO l2 30
  rotate_left
  · skip
    refine wr_a [.eq (.pointer (some ⟨gd, 0, none⟩)), .eq (.bool false), .eq (.bool false), .eq (v), .eq (.bool true), .eq (.bool false), .eq (.bool false), .eq (.bool false), .eq (v2), .eq (.bool false), .eq (.bool true), .eq (.bool true)] (by rw [sd.1]; kernel_rfl) ⟨fun hw ac u K => ?_, fun hw ac u K => ?_, fun hw ac u K => ?_, fun hw ac u K => ?_, fun hw ac u K => ?_, fun hw ac u K => ?_, fun hw ac u K => ?_, fun hw ac u K => ?_, fun hw ac u K => ?_, fun hw ac u K => ?_, fun hw ac u K => ?_, fun hw ac u K => ?_, trivial⟩ ?_
    · exact st_move (.tmp 5) rfl (K.t x5 rfl)
    · exact st_bin .eql 23 23 (.tmp 15) _ rfl (K.dep 0 15 rfl) rfl (by kernel_rfl)
    · exact st_move (.tmp 16) rfl (K.dep 1 16 rfl)
    · exact st_move (.tmp 0) rfl (K.t x0 rfl)
    · exact st_call 10 (.func 10) _ _ _ rfl rfl (arg2 (K.dep 3 18 rfl) rfl) Try.enter10 (fk_smallo hln (Fk.mono _ _ _ _ hv (bgo bl K.grow)) (by symm; rw [decide_eq_true_iff]; exact h1s))
    · exact st_not (.tmp 19) rfl true (K.dep 4 19 rfl)
    · exact st_pick_f' (.tmp 17) (.const (.bool true)) (.tmp 20) rfl (K.dep 2 17 rfl) (K.dep 5 20 rfl)
    · exact st_move (.tmp 21) rfl (K.dep 6 21 rfl)
    · exact st_move (.tmp 1) rfl (K.t x1 rfl)
    · exact st_call 10 (.func 10) _ _ _ rfl rfl (arg2 (K.dep 8 23 rfl) rfl) Try.enter10 (fk_smallo hln2 (Fk.mono _ _ _ _ hv2 (bgo bl K.grow)) (by symm; rw [decide_eq_false_iff_not]; exact h2s))
    · exact st_not (.tmp 24) rfl false (K.dep 9 24 rfl)
    · exact st_pick_f' (.tmp 22) (.const (.bool true)) (.tmp 25) rfl (K.dep 7 22 rfl) (K.dep 10 25 rfl)
    intro f5 w5 A hb
    replace x0 := A.t x0 rfl
    replace x1 := A.t x1 rfl
    replace x5 := A.t x5 rfl
    have x26 := A.e 11 26 rfl rfl
    replace hd := HD.below hd hb
    replace bl := bgo bl hb
    replace sd := A.sd sd
    clear A hb
    show Code.wp _ _ _ _ _
    refine wp_cond_true x26 ?_
    refine wp_seq ?_
    refine wr_a [.eq (.pointer (some ⟨gd, 0, none⟩)), .eq (.bool true), .eq (.bool true), .eq (.bool true), .eq (.bool true), .eq (.bool true)] (by rw [sd.1]; kernel_rfl) ⟨fun hw ac u K => ?_, fun hw ac u K => ?_, fun hw ac u K => ?_, fun hw ac u K => ?_, fun hw ac u K => ?_, fun hw ac u K => ?_, trivial⟩ ?_
    · exact st_move (.tmp 5) rfl (K.t x5 rfl)
    · exact st_bin .neq 23 23 (.tmp 27) _ rfl (K.dep 0 27 rfl) rfl (by kernel_rfl)
    · exact st_move (.tmp 28) rfl (K.dep 1 28 rfl)
    · exact st_call 9 (.func 9) _ _ _ rfl rfl rfl Try.enter9 (awake_any _)
    · exact st_pick_t (.tmp 29) (.tmp 30) (.const (.bool false)) rfl (K.dep 2 29 rfl) (K.dep 3 30 rfl)
    · exact st_assign (.tmp 31) rfl (K.dep 4 31 rfl)
    intro f6 w6 A hb
    replace x0 := A.t x0 rfl
    replace x1 := A.t x1 rfl
    replace x5 := A.t x5 rfl
    replace x26 := A.t x26 rfl
    have x4 := A.e 5 4 rfl rfl
    replace hd := HD.below hd hb
    replace bl := bgo bl hb
    replace sd := A.sd sd
    clear A hb
    clear x0
    clear x1
    clear x5
    clear x26
    show Code.wp _ _ _ _ _
    refine wp_ret ?_
    repeat (first | with_reducible refine then_ret ?_ | with_reducible refine block_ret ?_)
    exact bodyPost_ret (v := .bool true) (ret_slot rfl f6 _ x4 _ _) sd.2 ⟨rfl, bl⟩
  refine wr_a [.eq (.pointer (some ⟨gd, 0, none⟩)), .eq (.bool false), .eq (.bool false), .eq (v), .eq (.bool true), .eq (.bool false), .eq (.bool false), .eq (.bool false), .eq (v2), .eq (.bool true), .eq (.bool false), .eq (.bool false)] (by rw [sd.1]; kernel_rfl) ⟨fun hw ac u K => ?_, fun hw ac u K => ?_, fun hw ac u K => ?_, fun hw ac u K => ?_, fun hw ac u K => ?_, fun hw ac u K => ?_, fun hw ac u K => ?_, fun hw ac u K => ?_, fun hw ac u K => ?_, fun hw ac u K => ?_, fun hw ac u K => ?_, fun hw ac u K => ?_, trivial⟩ ?_
  · exact st_move (.tmp 5) rfl (K.t x5 rfl)
  · exact st_bin .eql 23 23 (.tmp 15) _ rfl (K.dep 0 15 rfl) rfl (by kernel_rfl)
  · exact st_move (.tmp 16) rfl (K.dep 1 16 rfl)
  · exact st_move (.tmp 0) rfl (K.t x0 rfl)
  · exact st_call 10 (.func 10) _ _ _ rfl rfl (arg2 (K.dep 3 18 rfl) rfl) Try.enter10 (fk_smallo hln (Fk.mono _ _ _ _ hv (bgo bl K.grow)) (by symm; rw [decide_eq_true_iff]; exact h1s))
  · exact st_not (.tmp 19) rfl true (K.dep 4 19 rfl)
  · exact st_pick_f' (.tmp 17) (.const (.bool true)) (.tmp 20) rfl (K.dep 2 17 rfl) (K.dep 5 20 rfl)
  · exact st_move (.tmp 21) rfl (K.dep 6 21 rfl)
  · exact st_move (.tmp 1) rfl (K.t x1 rfl)
  · exact st_call 10 (.func 10) _ _ _ rfl rfl (arg2 (K.dep 8 23 rfl) rfl) Try.enter10 (fk_smallo hln2 (Fk.mono _ _ _ _ hv2 (bgo bl K.grow)) (by symm; rw [decide_eq_true_iff]; exact h2s))
  · exact st_not (.tmp 24) rfl true (K.dep 9 24 rfl)
  · exact st_pick_f' (.tmp 22) (.const (.bool true)) (.tmp 25) rfl (K.dep 7 22 rfl) (K.dep 10 25 rfl)
  intro f5 w5 A hb
  replace x0 := A.t x0 rfl
  replace x1 := A.t x1 rfl
  replace x5 := A.t x5 rfl
  have x26 := A.e 11 26 rfl rfl
  replace hd := HD.below hd hb
  replace bl := bgo bl hb
  replace sd := A.sd sd
  clear A hb
  show Code.wp _ _ _ _ _
  refine wp_cond_false x26 ?_
  refine wp_skip ?_
  show Code.wp _ _ _ _ _
  refine wp_seq ?_
  refine wr_s [] (by rw [sd.1]; kernel_rfl) trivial ?_
  intro f6 w6 A hb
  replace x0 := A.t x0 rfl
  replace x1 := A.t x1 rfl
  replace x5 := A.t x5 rfl
  replace x26 := A.t x26 rfl
  replace hd := HD.below hd hb
  replace bl := bgo bl hb
  replace sd := A.sd sd
  clear A hb
  clear x26
  refine wl_call 11 (.func 11) _ _ #[.int .i64 ((8 : Nat) : Int), .int .i64 ((16 : Nat) : Int)] rfl 32 rfl (by rw [sd.1]; decide) rfl rfl rfl Try.enter11 (fun u W' => ∃ x h c, u = .pointer (some ⟨x, 0, none⟩) ∧ w6.heap.size ≤ x ∧ w6.heap.size ≤ h ∧ w6.heap.size ≤ c ∧ HX W' x h c (newd (8) (16)) ∧ Below w6.heap.size w6 W') ((ref_new (n := 8) (z := 16) (by decide) (by decide) (by decide) w6).mono (by rintro e w' ⟨x, h, c, rfl, q⟩; exact ⟨_, rfl, x, h, c, rfl, q⟩)) ?_
  rintro f7 w7 df2 sz2 old2 ⟨x, h, c, x32, gx, gh, gc, hx, hb⟩
  have hX : ∀ j, j = x ∨ j = h ∨ j = c → w.heap.size ≤ j := fun j q => by have := bl.size; rcases q with rfl | rfl | rfl <;> omega
  have hxD : ¬ DD x ∧ ¬ DD h ∧ ¬ DD c := ⟨fun q => by have := hd.lt _ q; omega, fun q => by have := hd.lt _ q; omega, fun q => by have := hd.lt _ q; omega⟩
  clear gx gh gc
  replace bl0 := bl
  replace x0 := tr old2 x0 rfl
  replace x1 := tr old2 x1 rfl
  replace x5 := tr old2 x5 rfl
  replace hd := HD.below hd hb
  replace bl := bgo bl hb
  replace sd := sd2 sz2 df2 sd
  clear df2 sz2 old2 hb
  refine wl_one (.eq (.pointer (some ⟨x, 0, none⟩))) rfl 6 rfl (by rw [sd.1]; decide) (st_assign (.tmp 32) rfl x32) ?_
  intro f8 w8 df2 sz2 old2 new2 hb
  replace x0 := tr old2 x0 rfl
  replace x1 := tr old2 x1 rfl
  replace x5 := tr old2 x5 rfl
  replace x32 := tr old2 x32 rfl
  have x6 := Fk.e new2
  replace hd := HD.below hd hb
  replace hx := HX.below hx hb
  replace bl := bgo bl hb
  replace sd := sd2 sz2 df2 sd
  clear df2 sz2 old2 new2 hb
  refine wpList_nil ?_
  clear x32
  show Code.wp _ _ _ _ _
  refine wp_seq ?_
  refine wp_seq ?_
  have gs0 := gd_new 8 16
  have hll : l.length ≤ 30 := by have := h1s.2; omega
  have hll2 : l2.length ≤ 30 := by have := h2s.2; omega
  refine wr_a [.eq (v), .eq (.int .i64 (((l).length : Nat) : Int)), .eq (.int .i64 0)] (by rw [sd.1]; kernel_rfl) ⟨fun hw ac u K => ?_, fun hw ac u K => ?_, fun hw ac u K => ?_, trivial⟩ ?_
  · exact st_move (.tmp 0) rfl (K.t x0 rfl)
  · exact st_leno (.tmp 33) rfl (fk_val (K.dep 0 33 rfl) (Fk.mono _ _ _ _ hv (bgo bl K.grow)))
  · exact st_move (.const (.int .i64 0)) rfl rfl
  intro f9 w9 A hb
  replace x0 := A.t x0 rfl
  replace x1 := A.t x1 rfl
  replace x5 := A.t x5 rfl
  replace x6 := A.t x6 rfl
  have x33 := A.e 0 33 rfl rfl
  have x34 := A.e 1 34 rfl rfl
  have x35 := A.e 2 35 rfl rfl
  replace hd := HD.below hd hb
  replace hx := HX.below hx hb
  replace bl := bgo bl hb
  replace sd := A.sd sd
  clear A hb
  clear x0
  show Code.wp _ _ _ _ _
  refine wp_block ?_
  refine wp_loop (fun f v1 => ∃ (k : Nat) (s : Dst) (DD : Nat → Prop), k ≤ l.length ∧ Gd s 8 16 k ∧ (∀ j, DD j → w.heap.size ≤ j) ∧ (¬ DD x ∧ ¬ DD h ∧ ¬ DD c) ∧ f.tmps.size = 83 ∧ f.defers = [] ∧ f.eval (.tmp 1) = v2 ∧ f.eval (.tmp 5) = .pointer (some ⟨gd, 0, none⟩) ∧ f.eval (.tmp 6) = .pointer (some ⟨x, 0, none⟩) ∧ f.eval (.tmp 33) = v ∧ f.eval (.tmp 34) = .int .i64 (((l).length : Nat) : Int) ∧ f.eval (.tmp 35) = .int .i64 (k : Int) ∧ HD v1 gd M DD s ∧ HX v1 x h c s ∧ Below w.heap.size w (v1)) (fun f _ => l.length - (intOf (f.eval (.tmp 35))).toNat) ⟨0, newd 8 16, DD, Nat.zero_le _, gs0, hDD, hxD, sd.1, sd.2, x1, x5, x6, x33, x34, x35, hd, hx, bl⟩ ?_
  intro f10 w10 hI
  clear sd bl bl0 x1 x5 x6 x33 x34 x35 hd hx
  obtain ⟨k, s, DD, hk9, gs, hDD, hxD, sz, df, x1, x5, x6, x33, x34, x35, hd, hx, bl⟩ := hI
  have sd := And.intro sz df
  clear sz df
  have bl0 := bl
  have hcnt := x35
  clear gs0
  refine wp_seq ?_
  by_cases hlt : k < l.length
  rotate_left
  · skip
    refine wr_a [.eq (.bool false)] (by rw [sd.1]; kernel_rfl) ⟨fun hw ac u K => ?_, trivial⟩ ?_
    · exact st_lss 3 (.tmp 35) (.tmp 34) rfl .i64 ((k : Int)) ((((l).length : Nat) : Int)) (K.t x35 rfl) (K.t x34 rfl) _ (by rw [eq_comm, decide_eq_false_iff_not]; exact fun h => hlt (Int.ofNat_lt.1 h))
    intro f11 w11 A hb
    replace x1 := A.t x1 rfl
    replace x5 := A.t x5 rfl
    replace x6 := A.t x6 rfl
    replace x33 := A.t x33 rfl
    replace x34 := A.t x34 rfl
    replace x35 := A.t x35 rfl
    have x36 := A.e 0 36 rfl rfl
    replace hd := HD.below hd hb
    replace hx := HX.below hx hb
    replace bl := bgo bl hb
    replace sd := A.sd sd
    clear A hb
    show Code.wp _ _ _ _ _
    refine wp_seq ?_
    refine wp_cond_false x36 ?_
    refine wp_exit ?_
    show Code.wp _ _ _ _ _
    refine wp_seq ?_
    clear x33
    clear x34
    clear x35
    replace gs := gs.le (show k ≤ 30 by omega)
    refine wr_s [.eq (.pointer (some ⟨gd, 0, none⟩))] (by rw [sd.1]; kernel_rfl) ⟨fun hw ac u K => ?_, trivial⟩ ?_
    · exact st_move (.tmp 5) rfl (K.t x5 rfl)
    intro f12 w12 A hb
    replace x1 := A.t x1 rfl
    replace x5 := A.t x5 rfl
    replace x6 := A.t x6 rfl
    replace x36 := A.t x36 rfl
    have x45 := A.e 0 45 rfl rfl
    replace hd := HD.below hd hb
    replace hx := HX.below hx hb
    replace bl := bgo bl hb
    replace sd := A.sd sd
    clear A hb
    clear x36
    refine wl_call 21 (.func 21) _ _ #[.pointer (some ⟨gd, 0, none⟩)] rfl 46 rfl (by rw [sd.1]; decide) rfl rfl (one_arg x45) Try.enter21 (fun u W' => ∃ (gc : Nat) (MC C : Nat → Prop), u = .pointer (some ⟨gc, 0, none⟩) ∧ HD W' gc MC C s ∧ (∀ j, MC j → w12.heap.size ≤ j) ∧ (∀ j, C j → ¬ M j) ∧ (∀ j, C j → DD j ∨ w12.heap.size ≤ j) ∧ Below w12.heap.size w12 W') ((fk_dcopy hd (by have := gs.has; omega)).mono (by rintro e w' ⟨gc, MC, C, rfl, q⟩; exact ⟨_, rfl, gc, MC, C, rfl, q⟩)) ?_
    rintro f13 w13 df2 sz2 old2 ⟨gc, MC, DC, x46, hc, hM0, hCD, hC0, hb⟩
    have hDC : ∀ j, DC j → w.heap.size ≤ j := fun j q => (hC0 j q).elim (hDD j) (fun q => Nat.le_trans bl.size q)
    have hMD : ∀ j, DD j → ¬ MC j := fun j q q2 => by have h1 := hM0 j q2; have h2 := hd.lt j q; omega
    have hxC : ¬ DC x ∧ ¬ DC h ∧ ¬ DC c := by
      have h1 := hx.lt
      exact ⟨fun q => (hC0 _ q).elim hxD.1 (fun q => by omega), fun q => (hC0 _ q).elim hxD.2.1 (fun q => by omega), fun q => (hC0 _ q).elim hxD.2.2 (fun q => by omega)⟩
    clear hC0 hM0
    replace bl0 := bl
    replace x1 := tr old2 x1 rfl
    replace x5 := tr old2 x5 rfl
    replace x6 := tr old2 x6 rfl
    replace x45 := tr old2 x45 rfl
    replace hd := HD.below hd hb
    replace hx := HX.below hx hb
    replace bl := bgo bl hb
    replace sd := sd2 sz2 df2 sd
    clear df2 sz2 old2 hb
    clear x45
    refine wl_one (.eq (.pointer (some ⟨gc, 0, none⟩))) rfl 9 rfl (by rw [sd.1]; decide) (st_assign (.tmp 46) rfl x46) ?_
    intro f14 w14 df2 sz2 old2 new2 hb
    replace x1 := tr old2 x1 rfl
    replace x5 := tr old2 x5 rfl
    replace x6 := tr old2 x6 rfl
    replace x46 := tr old2 x46 rfl
    have x9 := Fk.e new2
    replace hd := HD.below hd hb
    replace hx := HX.below hx hb
    replace hc := HD.below hc hb
    replace bl := bgo bl hb
    replace sd := sd2 sz2 df2 sd
    clear df2 sz2 old2 new2 hb
    refine wpList_nil ?_
    clear x46
    show Code.wp _ _ _ _ _
    refine wp_seq ?_
    refine wp_seq ?_
    refine wr_a [.eq (.pointer (some ⟨gc, 0, none⟩)), .eq (.bool false)] (by rw [sd.1]; kernel_rfl) ⟨fun hw ac u K => ?_, fun hw ac u K => ?_, trivial⟩ ?_
    · exact st_move (.tmp 9) rfl (K.t x9 rfl)
    · exact st_bin .eql 23 23 (.tmp 47) _ rfl (K.dep 0 47 rfl) rfl (by kernel_rfl)
    intro f15 w15 A hb
    replace x1 := A.t x1 rfl
    replace x5 := A.t x5 rfl
    replace x6 := A.t x6 rfl
    replace x9 := A.t x9 rfl
    have x48 := A.e 1 48 rfl rfl
    replace hd := HD.below hd hb
    replace hx := HX.below hx hb
    replace hc := HD.below hc hb
    replace bl := bgo bl hb
    replace sd := A.sd sd
    clear A hb
    show Code.wp _ _ _ _ _
    refine wp_cond_false x48 ?_
    refine wp_skip ?_
    show Code.wp _ _ _ _ _
    refine wp_seq ?_
    refine wp_seq ?_
    obtain ⟨s2, hs2⟩ : ∃ q, q = s := ⟨_, rfl⟩
    rw [← hs2] at hd
    have gs2 : Gd s2 8 16 30 := by rw [hs2]; exact gs
    clear hs2
    refine wr_a [.eq (v2), .eq (.int .i64 (((l2).length : Nat) : Int)), .eq (.int .i64 0)] (by rw [sd.1]; kernel_rfl) ⟨fun hw ac u K => ?_, fun hw ac u K => ?_, fun hw ac u K => ?_, trivial⟩ ?_
    · exact st_move (.tmp 1) rfl (K.t x1 rfl)
    · exact st_leno (.tmp 49) rfl (fk_val (K.dep 0 49 rfl) (Fk.mono _ _ _ _ hv2 (bgo bl K.grow)))
    · exact st_move (.const (.int .i64 0)) rfl rfl
    intro f16 w16 A hb
    replace x1 := A.t x1 rfl
    replace x5 := A.t x5 rfl
    replace x6 := A.t x6 rfl
    replace x9 := A.t x9 rfl
    replace x48 := A.t x48 rfl
    have x49 := A.e 0 49 rfl rfl
    have x50 := A.e 1 50 rfl rfl
    have x51 := A.e 2 51 rfl rfl
    replace hd := HD.below hd hb
    replace hx := HX.below hx hb
    replace hc := HD.below hc hb
    replace bl := bgo bl hb
    replace sd := A.sd sd
    clear A hb
    clear x48
    show Code.wp _ _ _ _ _
    refine wp_block ?_
    refine wp_loop (fun f v1 => ∃ (k : Nat) (s2 : Dst) (DD : Nat → Prop), k ≤ l2.length ∧ Gd s2 8 16 (30 + k) ∧ (∀ j, DD j → w.heap.size ≤ j) ∧ (¬ DD x ∧ ¬ DD h ∧ ¬ DD c) ∧ (∀ j, DC j → ¬ M j) ∧ f.tmps.size = 83 ∧ f.defers = [] ∧ f.eval (.tmp 1) = v2 ∧ f.eval (.tmp 5) = .pointer (some ⟨gd, 0, none⟩) ∧ f.eval (.tmp 6) = .pointer (some ⟨x, 0, none⟩) ∧ f.eval (.tmp 9) = .pointer (some ⟨gc, 0, none⟩) ∧ f.eval (.tmp 49) = v2 ∧ f.eval (.tmp 50) = .int .i64 (((l2).length : Nat) : Int) ∧ f.eval (.tmp 51) = .int .i64 (k : Int) ∧ HD v1 gd M DD s2 ∧ HX v1 x h c s ∧ HD v1 gc MC DC s ∧ Below w.heap.size w (v1)) (fun f _ => l2.length - (intOf (f.eval (.tmp 51))).toNat) ⟨0, s2, DD, Nat.zero_le _, gs2, hDD, hxD, hCD, sd.1, sd.2, x1, x5, x6, x9, x49, x50, x51, hd, hx, hc, bl⟩ ?_
    intro f17 w17 hI
    clear sd bl bl0 x1 x5 x6 x9 x49 x50 x51 hd hx hc
    obtain ⟨k, s2, DD, hk9, gs2, hDD, hxD, hCD, sz, df, x1, x5, x6, x9, x49, x50, x51, hd, hx, hc, bl⟩ := hI
    have sd := And.intro sz df
    clear sz df
    have bl0 := bl
    have hcnt := x51
    refine wp_seq ?_
    by_cases hlt : k < l2.length
    rotate_left
    · skip
      refine wr_a [.eq (.bool false)] (by rw [sd.1]; kernel_rfl) ⟨fun hw ac u K => ?_, trivial⟩ ?_
      · exact st_lss 3 (.tmp 51) (.tmp 50) rfl .i64 ((k : Int)) ((((l2).length : Nat) : Int)) (K.t x51 rfl) (K.t x50 rfl) _ (by rw [eq_comm, decide_eq_false_iff_not]; exact fun h => hlt (Int.ofNat_lt.1 h))
      intro f18 w18 A hb
      replace x1 := A.t x1 rfl
      replace x5 := A.t x5 rfl
      replace x6 := A.t x6 rfl
      replace x9 := A.t x9 rfl
      replace x49 := A.t x49 rfl
      replace x50 := A.t x50 rfl
      replace x51 := A.t x51 rfl
      have x52 := A.e 0 52 rfl rfl
      replace hd := HD.below hd hb
      replace hx := HX.below hx hb
      replace hc := HD.below hc hb
      replace bl := bgo bl hb
      replace sd := A.sd sd
      clear A hb
      show Code.wp _ _ _ _ _
      refine wp_seq ?_
      refine wp_cond_false x52 ?_
      refine wp_exit ?_
      show Code.wp _ _ _ _ _
      refine wp_seq ?_
      refine wp_seq ?_
      clear x49
      clear x50
      clear x51
      clear x5
      clear hd hDD hxD hCD hMD gs2 s2
      clear DD
      obtain ⟨gd, rfl⟩ : ∃ q, q = gc := ⟨_, rfl⟩
      obtain ⟨M, rfl⟩ : ∃ q, q = MC := ⟨_, rfl⟩
      obtain ⟨DD, rfl⟩ : ∃ q, q = DC := ⟨_, rfl⟩
      have hd := hc
      have hDD := hDC
      have hxD := hxC
      clear hc hDC hxC
      refine wr_a [.eq (.pointer (some ⟨gd, 0, none⟩)), .eq (.pointer (some ⟨x, 0, none⟩)), .eq (.bool true), .eq (.bool false)] (by rw [sd.1]; kernel_rfl) ⟨fun hw ac u K => ?_, fun hw ac u K => ?_, fun hw ac u K => ?_, fun hw ac u K => ?_, trivial⟩ ?_
      · exact st_move (.tmp 9) rfl (K.t x9 rfl)
      · exact st_move (.tmp 6) rfl (K.t x6 rfl)
      · exact st_call 13 (.func 13) _ _ _ rfl rfl (arg2 (K.dep 0 60 rfl) (K.dep 1 61 rfl)) Try.enter13 ((same_any (HD.below hd K.grow) (HX.below hx K.grow) (by have := gs.has; omega)).mono (by rintro e w' ⟨rfl, q⟩; exact ⟨_, rfl, rfl, q⟩))
      · exact st_not (.tmp 62) rfl true (K.dep 2 62 rfl)
      intro f19 w19 A hb
      replace x1 := A.t x1 rfl
      replace x6 := A.t x6 rfl
      replace x9 := A.t x9 rfl
      replace x52 := A.t x52 rfl
      have x63 := A.e 3 63 rfl rfl
      replace hd := HD.below hd hb
      replace hx := HX.below hx hb
      replace bl := bgo bl hb
      replace sd := A.sd sd
      clear A hb
      clear x52
      show Code.wp _ _ _ _ _
      refine wp_cond_false x63 ?_
      refine wp_skip ?_
      show Code.wp _ _ _ _ _
      refine wp_seq ?_
      refine wp_seq ?_
      refine wr_a [.eq (v2), .eq (.int .i64 (((l2).length : Nat) : Int)), .eq (.int .i64 0)] (by rw [sd.1]; kernel_rfl) ⟨fun hw ac u K => ?_, fun hw ac u K => ?_, fun hw ac u K => ?_, trivial⟩ ?_
      · exact st_move (.tmp 1) rfl (K.t x1 rfl)
      · exact st_leno (.tmp 64) rfl (fk_val (K.dep 0 64 rfl) (Fk.mono _ _ _ _ hv2 (bgo bl K.grow)))
      · exact st_move (.const (.int .i64 0)) rfl rfl
      intro f20 w20 A hb
      replace x1 := A.t x1 rfl
      replace x6 := A.t x6 rfl
      replace x9 := A.t x9 rfl
      replace x63 := A.t x63 rfl
      have x64 := A.e 0 64 rfl rfl
      have x65 := A.e 1 65 rfl rfl
      have x66 := A.e 2 66 rfl rfl
      replace hd := HD.below hd hb
      replace hx := HX.below hx hb
      replace bl := bgo bl hb
      replace sd := A.sd sd
      clear A hb
      clear x63
      show Code.wp _ _ _ _ _
      refine wp_block ?_
      refine wp_loop (fun f v1 => ∃ (k : Nat) (s : Dst) (DD : Nat → Prop), k ≤ l2.length ∧ Gd s 8 16 (30 + k) ∧ (∀ j, DD j → w.heap.size ≤ j) ∧ (¬ DD x ∧ ¬ DD h ∧ ¬ DD c) ∧ f.tmps.size = 83 ∧ f.defers = [] ∧ f.eval (.tmp 1) = v2 ∧ f.eval (.tmp 6) = .pointer (some ⟨x, 0, none⟩) ∧ f.eval (.tmp 9) = .pointer (some ⟨gd, 0, none⟩) ∧ f.eval (.tmp 64) = v2 ∧ f.eval (.tmp 65) = .int .i64 (((l2).length : Nat) : Int) ∧ f.eval (.tmp 66) = .int .i64 (k : Int) ∧ HD v1 gd M DD s ∧ HX v1 x h c s ∧ Below w.heap.size w (v1)) (fun f _ => l2.length - (intOf (f.eval (.tmp 66))).toNat) ⟨0, s, DD, Nat.zero_le _, gs, hDD, hxD, sd.1, sd.2, x1, x6, x9, x64, x65, x66, hd, hx, bl⟩ ?_
      intro f21 w21 hI
      clear sd bl bl0 x1 x6 x9 x64 x65 x66 hd hx
      obtain ⟨k, s, DD, hk9, gs, hDD, hxD, sz, df, x1, x6, x9, x64, x65, x66, hd, hx, bl⟩ := hI
      have sd := And.intro sz df
      clear sz df
      have bl0 := bl
      have hcnt := x66
      refine wp_seq ?_
      by_cases hlt : k < l2.length
      rotate_left
      · skip
        refine wr_a [.eq (.bool false)] (by rw [sd.1]; kernel_rfl) ⟨fun hw ac u K => ?_, trivial⟩ ?_
        · exact st_lss 3 (.tmp 66) (.tmp 65) rfl .i64 ((k : Int)) ((((l2).length : Nat) : Int)) (K.t x66 rfl) (K.t x65 rfl) _ (by rw [eq_comm, decide_eq_false_iff_not]; exact fun h => hlt (Int.ofNat_lt.1 h))
        intro f22 w22 A hb
        replace x1 := A.t x1 rfl
        replace x6 := A.t x6 rfl
        replace x9 := A.t x9 rfl
        replace x64 := A.t x64 rfl
        replace x65 := A.t x65 rfl
        replace x66 := A.t x66 rfl
        have x67 := A.e 0 67 rfl rfl
        replace hd := HD.below hd hb
        replace hx := HX.below hx hb
        replace bl := bgo bl hb
        replace sd := A.sd sd
        clear A hb
        show Code.wp _ _ _ _ _
        refine wp_seq ?_
        refine wp_cond_false x67 ?_
        refine wp_exit ?_
        show Code.wp _ _ _ _ _
        refine wp_seq ?_
        clear x64
        clear x65
        clear x66
        refine wr_a [.eq (.bool true), .eq (.bool true)] (by rw [sd.1]; kernel_rfl) ⟨fun hw ac u K => ?_, fun hw ac u K => ?_, trivial⟩ ?_
        · exact st_call 9 (.func 9) _ _ _ rfl rfl rfl Try.enter9 (awake_any _)
        · exact st_assign (.tmp 82) rfl (K.dep 0 82 rfl)
        intro f23 w23 A hb
        replace x1 := A.t x1 rfl
        replace x6 := A.t x6 rfl
        replace x9 := A.t x9 rfl
        replace x67 := A.t x67 rfl
        have x4 := A.e 1 4 rfl rfl
        replace hd := HD.below hd hb
        replace hx := HX.below hx hb
        replace bl := bgo bl hb
        replace sd := A.sd sd
        clear A hb
        clear x67
        show Code.wp _ _ _ _ _
        refine wp_ret ?_
        repeat (first | with_reducible refine then_ret ?_ | with_reducible refine block_ret ?_)
        exact bodyPost_ret (v := .bool true) (ret_slot rfl f23 _ x4 _ _) sd.2 ⟨rfl, bl⟩
      obtain ⟨oo, hook⟩ : ∃ p, l2[k]? = some p := ⟨_, List.getElem?_eq_getElem hlt⟩
      have hboo : (Fk.sl oo.bs).f oo.vb w := (ol_ok hv2 hook).b
      have hloo : (Fk.is oo.ls).f oo.vl w := (ol_ok hv2 hook).l
      have hsm := o_small h2s hook
      have hon := (ol_ok hv2 hook).n
      have how := (ol_ok hv2 hook).w
      refine wr_a [.eq (.bool true)] (by rw [sd.1]; kernel_rfl) ⟨fun hw ac u K => ?_, trivial⟩ ?_
      · exact st_lss 3 (.tmp 66) (.tmp 65) rfl .i64 ((k : Int)) ((((l2).length : Nat) : Int)) (K.t x66 rfl) (K.t x65 rfl) _ (by rw [eq_comm, decide_eq_true_iff]; exact Int.ofNat_lt.2 hlt)
      intro f22 w22 A hb
      replace x1 := A.t x1 rfl
      replace x6 := A.t x6 rfl
      replace x9 := A.t x9 rfl
      replace x64 := A.t x64 rfl
      replace x65 := A.t x65 rfl
      replace x66 := A.t x66 rfl
      have x67 := A.e 0 67 rfl rfl
      replace hd := HD.below hd hb
      replace hx := HX.below hx hb
      replace bl := bgo bl hb
      replace sd := A.sd sd
      clear A hb
      show Code.wp _ _ _ _ _
      refine wp_seq ?_
      refine wp_cond_true x67 ?_
      refine wp_skip ?_
      show Code.wp _ _ _ _ _
      refine wp_seq ?_
      refine wp_block ?_
      refine wp_seq ?_
      refine wr_s [.oq oo, .eq (.agg ([.int .i64 oo.k, .int .i64 oo.s, .int .i64 oo.n, oo.vb, oo.vl] : List Value).toArray)] (by rw [sd.1]; kernel_rfl) ⟨fun hw ac u K => ?_, fun hw ac u K => ?_, trivial⟩ ?_
      · exact st_idxo (.tmp 64) (.tmp 66) rfl (fk_val (K.t x64 rfl) (Fk.mono _ _ _ _ hv2 (bgo bl K.grow))) k oo (K.t x66 rfl) hook
      · exact st_loado (.tmp 68) rfl (K.dep 0 68 rfl)
      intro f23 w23 A hb
      have S_hd := hd
      have S_hx := hx
      have hbS0 := Below.refl w22.heap.size w22
      have hbS := hb
      replace x1 := A.t x1 rfl
      replace x6 := A.t x6 rfl
      replace x9 := A.t x9 rfl
      replace x64 := A.t x64 rfl
      replace x65 := A.t x65 rfl
      replace x66 := A.t x66 rfl
      replace x67 := A.t x67 rfl
      have x69 := A.e 1 69 rfl rfl
      replace hd := HD.below hd hb
      replace hx := HX.below hx hb
      replace bl := bgo bl hb
      replace sd := A.sd sd
      clear A hb
      clear x67
      refine wl_one (.nw w23.heap.size 32 [.int .i64 0, .int .i64 0, .int .i64 0, .slice none 0 0, .slice none 0 0]) rfl 13 rfl (by rw [sd.1]; decide) (st_alloc 32 rfl _ _ (by kernel_rfl) (Nat.le_refl _)) ?_
      intro f24 w24 df2 sz2 old2 new2 hb
      replace hbS0 := hbS
      replace hbS := hbS.trans (Below.mono hb hbS.size)
      replace bl0 := bl
      replace x1 := tr old2 x1 rfl
      replace x6 := tr old2 x6 rfl
      replace x9 := tr old2 x9 rfl
      replace x64 := tr old2 x64 rfl
      replace x65 := tr old2 x65 rfl
      replace x66 := tr old2 x66 rfl
      replace x69 := tr old2 x69 rfl
      have x13 : Fk.f (.nw w23.heap.size 32 [.int .i64 0, .int .i64 0, .int .i64 0, .slice none 0 0, .slice none 0 0]) (f24.eval (.tmp 13)) w24 := new2
      replace hd := HD.below hd hb
      replace hx := HX.below hx hb
      replace bl := bgo bl hb
      replace sd := sd2 sz2 df2 sd
      clear df2 sz2 old2 new2 hb
      obtain ⟨g13, hg13, e13, m13⟩ := x13
      have x13 := e13
      clear e13
      have hw13 : w.heap.size ≤ g13 := Nat.le_trans bl0.size hg13
      have hs13 := Nat.le_trans hbS0.size hg13
      refine wl_str rfl 32 (.tmp 13) (.tmp 69) rfl rfl (g13) ([.int .i64 oo.k, .int .i64 oo.s, .int .i64 oo.n, oo.vb, oo.vl] : List Value).toArray x13 x69 32 _ m13 (by kernel_rfl) (by kernel_rfl) (by kernel_rfl) ?_
      replace m13 : Ob (w24.setRow g13 ([.int .i64 oo.k, .int .i64 oo.s, .int .i64 oo.n, oo.vb, oo.vl] : List Value).toArray) (g13) 32 ([.int .i64 oo.k, .int .i64 oo.s, .int .i64 oo.n, oo.vb, oo.vl]) := Ob.setRow m13 ([.int .i64 oo.k, .int .i64 oo.s, .int .i64 oo.n, oo.vb, oo.vl])
      replace hbS : Below _ _ (w24.setRow g13 ([.int .i64 oo.k, .int .i64 oo.s, .int .i64 oo.n, oo.vb, oo.vl] : List Value).toArray) := hbS.trans (below_setRow _ _ _ _ hs13)
      replace hd := HD.below S_hd hbS
      replace hx := HX.below S_hx hbS
      replace bl : Below w.heap.size w (w24.setRow g13 ([.int .i64 oo.k, .int .i64 oo.s, .int .i64 oo.n, oo.vb, oo.vl] : List Value).toArray) := bl.trans (below_setRow _ _ _ _ hw13)
      generalize w24.setRow g13 ([.int .i64 oo.k, .int .i64 oo.s, .int .i64 oo.n, oo.vb, oo.vl] : List Value).toArray = w25b at bl m13 hd hx hbS ⊢
      refine wpList_nil ?_
      clear hbS hbS0 S_hd S_hx
      clear x69
      show Code.wp _ _ _ _ _
      refine wp_seq ?_
      refine wr_s [.eq (.pointer (some ⟨gd, 0, none⟩)), .eq (.pointer (some ⟨x, 0, none⟩)), .eq (.agg ([.int .i64 oo.k, .int .i64 oo.s, .int .i64 oo.n, oo.vb, oo.vl] : List Value).toArray)] (by rw [sd.1]; kernel_rfl) ⟨fun hw ac u K => ?_, fun hw ac u K => ?_, fun hw ac u K => ?_, trivial⟩ ?_
      · exact st_move (.tmp 9) rfl (K.t x9 rfl)
      · exact st_move (.tmp 6) rfl (K.t x6 rfl)
      · exact st_loadz 32 (.tmp 13) rfl (g13) 0 [.int .i64 oo.k, .int .i64 oo.s, .int .i64 oo.n, oo.vb, oo.vl] (by kernel_rfl) (by kernel_rfl) (K.t x13 rfl) (Ob.range (Ob.below m13 K.grow) 0 _ (fun j v hj => by simpa using hj))
      intro f26 w26 A hb
      replace x1 := A.t x1 rfl
      replace x6 := A.t x6 rfl
      replace x9 := A.t x9 rfl
      replace x64 := A.t x64 rfl
      replace x65 := A.t x65 rfl
      replace x66 := A.t x66 rfl
      replace x13 := A.t x13 rfl
      have x70 := A.e 0 70 rfl rfl
      have x71 := A.e 1 71 rfl rfl
      have x72 := A.e 2 72 rfl rfl
      replace m13 := Ob.below m13 hb
      replace hd := HD.below hd hb
      replace hx := HX.below hx hb
      replace bl := bgo bl hb
      replace sd := A.sd sd
      clear A hb
      clear x13
      have hS : ∀ j, (fun j => M j ∨ j = x ∨ j = h ∨ j = c) j → w.heap.size ≤ j := fun j q => q.elim (fun q => hDD j (hd.sub j q)) (hX j)
      refine wl_call 12 (.func 12) _ _ #[.pointer (some ⟨gd, 0, none⟩), .pointer (some ⟨x, 0, none⟩), oo.val] rfl 73 rfl (by rw [sd.1]; decide) rfl rfl (three_arg x70 x71 x72) Try.enter12 (fun u W' => ∃ (D2 : Nat → Prop) (r : Bool), u = .bool r ∧ (s = s → r = true) ∧ HD W' gd M D2 (stepD s oo) ∧ HX W' x h c (stepD s oo) ∧ (¬ D2 x ∧ ¬ D2 h ∧ ¬ D2 c) ∧ (∀ j, D2 j → DD j ∨ w26.heap.size ≤ j) ∧ Fr (fun j => M j ∨ j = x ∨ j = h ∨ j = c) w26 W') ((step_any hd hx hxD gs gs (by decide) (by decide) (by omega) (o := oo) (fun q => Fk.mono _ _ _ _ hboo (bl.trans (q.below bl.size hS))) (fun q => Fk.mono _ _ _ _ hloo (bl.trans (q.below bl.size hS))) hsm.1 hsm.2 hon how).mono (by rintro e w' ⟨D2, r, rfl, q⟩; exact ⟨_, rfl, D2, r, rfl, q⟩)) ?_
      rintro f27 w27 df2 sz2 old2 ⟨D2, r, x73, hr, hd2, hx2, hxD2, hD2, O⟩
      obtain rfl : r = true := hr rfl
      clear hr
      replace x1 := tr old2 x1 rfl
      replace x6 := tr old2 x6 rfl
      replace x9 := tr old2 x9 rfl
      replace x64 := tr old2 x64 rfl
      replace x65 := tr old2 x65 rfl
      replace x66 := tr old2 x66 rfl
      replace x70 := tr old2 x70 rfl
      replace x71 := tr old2 x71 rfl
      replace x72 := tr old2 x72 rfl
      clear m13
      have bl9 := bl.trans (O.below bl.size hS)
      replace hDD : ∀ j, D2 j → w.heap.size ≤ j := fun j q => (hD2 j q).elim (hDD j) (fun q => Nat.le_trans bl.size q)
      replace bl := bl9
      replace bl0 := bl
      replace hd := hd2
      replace hx := hx2
      replace hxD := hxD2
      replace sd := sd2 sz2 df2 sd
      clear df2 sz2 old2 hd2 hx2 hxD2 bl9 O hD2 hS
      clear DD
      obtain ⟨DD, rfl⟩ : ∃ E, E = D2 := ⟨_, rfl⟩
      clear x70
      clear x71
      clear x72
      refine wl_one (.eq (.bool false)) rfl 74 rfl (by rw [sd.1]; decide) (st_not (.tmp 73) rfl true x73) ?_
      intro f28 w28 df2 sz2 old2 new2 hb
      replace x1 := tr old2 x1 rfl
      replace x6 := tr old2 x6 rfl
      replace x9 := tr old2 x9 rfl
      replace x64 := tr old2 x64 rfl
      replace x65 := tr old2 x65 rfl
      replace x66 := tr old2 x66 rfl
      replace x73 := tr old2 x73 rfl
      have x74 := Fk.e new2
      replace hd := HD.below hd hb
      replace hx := HX.below hx hb
      replace bl := bgo bl hb
      replace sd := sd2 sz2 df2 sd
      clear df2 sz2 old2 new2 hb
      clear x73
      refine wl_one (.eq (.bool false)) rfl 75 rfl (by rw [sd.1]; decide) (st_move (.tmp 74) rfl x74) ?_
      intro f29 w29 df2 sz2 old2 new2 hb
      replace x1 := tr old2 x1 rfl
      replace x6 := tr old2 x6 rfl
      replace x9 := tr old2 x9 rfl
      replace x64 := tr old2 x64 rfl
      replace x65 := tr old2 x65 rfl
      replace x66 := tr old2 x66 rfl
      replace x74 := tr old2 x74 rfl
      have x75 := Fk.e new2
      replace hd := HD.below hd hb
      replace hx := HX.below hx hb
      replace bl := bgo bl hb
      replace sd := sd2 sz2 df2 sd
      clear df2 sz2 old2 new2 hb
      clear x74
      refine wl_onew (.eq (.pointer (some ⟨gd, 0, none⟩))) (want_of rfl rfl x75) 76 rfl (by rw [sd.1]; decide) (st_move (.tmp 9) rfl x9) ?_
      intro f30 w30 df2 sz2 old2 new2 hb
      replace bl0 := bl
      replace x1 := tr old2 x1 rfl
      replace x6 := tr old2 x6 rfl
      replace x9 := tr old2 x9 rfl
      replace x64 := tr old2 x64 rfl
      replace x65 := tr old2 x65 rfl
      replace x66 := tr old2 x66 rfl
      replace x75 := tr old2 x75 rfl
      have x76 := Fk.e new2
      replace hd := HD.below hd hb
      replace hx := HX.below hx hb
      replace bl := bgo bl hb
      replace sd := sd2 sz2 df2 sd
      clear df2 sz2 old2 new2 hb
      refine wl_onew (.eq (.pointer (some ⟨x, 0, none⟩))) (want_of rfl rfl x75) 77 rfl (by rw [sd.1]; decide) (st_move (.tmp 6) rfl x6) ?_
      intro f31 w31 df2 sz2 old2 new2 hb
      replace bl0 := bl
      replace x1 := tr old2 x1 rfl
      replace x6 := tr old2 x6 rfl
      replace x9 := tr old2 x9 rfl
      replace x64 := tr old2 x64 rfl
      replace x65 := tr old2 x65 rfl
      replace x66 := tr old2 x66 rfl
      replace x75 := tr old2 x75 rfl
      replace x76 := tr old2 x76 rfl
      have x77 := Fk.e new2
      replace hd := HD.below hd hb
      replace hx := HX.below hx hb
      replace bl := bgo bl hb
      replace sd := sd2 sz2 df2 sd
      clear df2 sz2 old2 new2 hb
      refine wl_onew (.eq (.bool true)) (want_of rfl rfl x75) 78 rfl (by rw [sd.1]; decide) (st_call 13 (.func 13) _ _ #[.pointer (some ⟨gd, 0, none⟩), .pointer (some ⟨x, 0, none⟩)] rfl rfl (arg2 x76 x77) Try.enter13 ((same_any hd hx (by have := (gd_step gs oo).has; omega)).mono (by rintro e w' ⟨rfl, q⟩; exact ⟨_, rfl, rfl, q⟩))) ?_
      intro f32 w32 df2 sz2 old2 new2 hb
      replace bl0 := bl
      replace x1 := tr old2 x1 rfl
      replace x6 := tr old2 x6 rfl
      replace x9 := tr old2 x9 rfl
      replace x64 := tr old2 x64 rfl
      replace x65 := tr old2 x65 rfl
      replace x66 := tr old2 x66 rfl
      replace x75 := tr old2 x75 rfl
      replace x76 := tr old2 x76 rfl
      replace x77 := tr old2 x77 rfl
      have x78 := Fk.e new2
      replace hd := HD.below hd hb
      replace hx := HX.below hx hb
      replace bl := bgo bl hb
      replace sd := sd2 sz2 df2 sd
      clear df2 sz2 old2 new2 hb
      clear x76
      clear x77
      refine wl_onew (.eq (.bool false)) (want_of rfl rfl x75) 79 rfl (by rw [sd.1]; decide) (st_not (.tmp 78) rfl true x78) ?_
      intro f33 w33 df2 sz2 old2 new2 hb
      replace bl0 := bl
      replace x1 := tr old2 x1 rfl
      replace x6 := tr old2 x6 rfl
      replace x9 := tr old2 x9 rfl
      replace x64 := tr old2 x64 rfl
      replace x65 := tr old2 x65 rfl
      replace x66 := tr old2 x66 rfl
      replace x75 := tr old2 x75 rfl
      replace x78 := tr old2 x78 rfl
      have x79 := Fk.e new2
      replace hd := HD.below hd hb
      replace hx := HX.below hx hb
      replace bl := bgo bl hb
      replace sd := sd2 sz2 df2 sd
      clear df2 sz2 old2 new2 hb
      clear x78
      refine wl_one (.eq (.bool false)) rfl 80 rfl (by rw [sd.1]; decide) (st_pick_f' (.tmp 75) (.const (.bool true)) (.tmp 79) rfl x75 x79) ?_
      intro f34 w34 df2 sz2 old2 new2 hb
      replace x1 := tr old2 x1 rfl
      replace x6 := tr old2 x6 rfl
      replace x9 := tr old2 x9 rfl
      replace x64 := tr old2 x64 rfl
      replace x65 := tr old2 x65 rfl
      replace x66 := tr old2 x66 rfl
      replace x75 := tr old2 x75 rfl
      replace x79 := tr old2 x79 rfl
      have x80 := Fk.e new2
      replace hd := HD.below hd hb
      replace hx := HX.below hx hb
      replace bl := bgo bl hb
      replace sd := sd2 sz2 df2 sd
      clear df2 sz2 old2 new2 hb
      refine wpList_nil ?_
      clear x75
      clear x79
      show Code.wp _ _ _ _ _
      refine wp_cond_false x80 ?_
      refine wp_skip ?_
      show Code.wp _ _ _ _ _
      refine wr_s [.eq (.int .i64 ((k + 1 : Nat) : Int))] (by rw [sd.1]; kernel_rfl) ⟨fun hw ac u K => ?_, trivial⟩ ?_
      · exact st_add (.tmp 66) (.const (.int .i64 1)) rfl (k) (1) (k + 1) (K.t x66 rfl) rfl (by omega) (by omega)
      intro f35 w35 A hb
      replace x1 := A.t x1 rfl
      replace x6 := A.t x6 rfl
      replace x9 := A.t x9 rfl
      replace x64 := A.t x64 rfl
      replace x65 := A.t x65 rfl
      replace x66 := A.t x66 rfl
      replace x80 := A.t x80 rfl
      have x81 := A.e 0 81 rfl rfl
      replace hd := HD.below hd hb
      replace hx := HX.below hx hb
      replace bl := bgo bl hb
      replace sd := A.sd sd
      clear A hb
      clear x80
      refine wl_one (.eq (.int .i64 ((k + 1 : Nat) : Int))) rfl 66 rfl (by rw [sd.1]; decide) (st_move (.tmp 81) rfl x81) ?_
      intro f36 w36 df2 sz2 old2 new2 hb
      replace x1 := tr old2 x1 rfl
      replace x6 := tr old2 x6 rfl
      replace x9 := tr old2 x9 rfl
      replace x64 := tr old2 x64 rfl
      replace x65 := tr old2 x65 rfl
      clear x66
      replace x81 := tr old2 x81 rfl
      have x66 := Fk.e new2
      replace hd := HD.below hd hb
      replace hx := HX.below hx hb
      replace bl := bgo bl hb
      replace sd := sd2 sz2 df2 sd
      clear df2 sz2 old2 new2 hb
      refine wpList_nil ?_
      clear x81
      show (∃ _, _) ∧ _
      refine ⟨⟨k + 1, stepD s oo, DD, by omega, gd_step gs oo, hDD, hxD, sd.1, sd.2, x1, x6, x9, x64, x65, x66, hd, hx, bl⟩, ?_⟩
      rw [show f36.eval (.tmp 66) = _ from x66, show _ = _ from hcnt]
      first | (simp [intOf]; done) | (simp [intOf]; omega)
    obtain ⟨oo, hook⟩ : ∃ p, l2[k]? = some p := ⟨_, List.getElem?_eq_getElem hlt⟩
    have hboo : (Fk.sl oo.bs).f oo.vb w := (ol_ok hv2 hook).b
    have hloo : (Fk.is oo.ls).f oo.vl w := (ol_ok hv2 hook).l
    have hsm := o_small h2s hook
    have hon := (ol_ok hv2 hook).n
    have how := (ol_ok hv2 hook).w
    refine wr_a [.eq (.bool true)] (by rw [sd.1]; kernel_rfl) ⟨fun hw ac u K => ?_, trivial⟩ ?_
    · exact st_lss 3 (.tmp 51) (.tmp 50) rfl .i64 ((k : Int)) ((((l2).length : Nat) : Int)) (K.t x51 rfl) (K.t x50 rfl) _ (by rw [eq_comm, decide_eq_true_iff]; exact Int.ofNat_lt.2 hlt)
    intro f18 w18 A hb
    replace x1 := A.t x1 rfl
    replace x5 := A.t x5 rfl
    replace x6 := A.t x6 rfl
    replace x9 := A.t x9 rfl
    replace x49 := A.t x49 rfl
    replace x50 := A.t x50 rfl
    replace x51 := A.t x51 rfl
    have x52 := A.e 0 52 rfl rfl
    replace hd := HD.below hd hb
    replace hx := HX.below hx hb
    replace hc := HD.below hc hb
    replace bl := bgo bl hb
    replace sd := A.sd sd
    clear A hb
    show Code.wp _ _ _ _ _
    refine wp_seq ?_
    refine wp_cond_true x52 ?_
    refine wp_skip ?_
    show Code.wp _ _ _ _ _
    refine wp_seq ?_
    refine wp_block ?_
    refine wp_seq ?_
    refine wr_s [.oq oo, .eq (.agg ([.int .i64 oo.k, .int .i64 oo.s, .int .i64 oo.n, oo.vb, oo.vl] : List Value).toArray)] (by rw [sd.1]; kernel_rfl) ⟨fun hw ac u K => ?_, fun hw ac u K => ?_, trivial⟩ ?_
    · exact st_idxo (.tmp 49) (.tmp 51) rfl (fk_val (K.t x49 rfl) (Fk.mono _ _ _ _ hv2 (bgo bl K.grow))) k oo (K.t x51 rfl) hook
    · exact st_loado (.tmp 53) rfl (K.dep 0 53 rfl)
    intro f19 w19 A hb
    have S_hd := hd
    have S_hx := hx
    have S_hc := hc
    have hbS0 := Below.refl w18.heap.size w18
    have hbS := hb
    replace x1 := A.t x1 rfl
    replace x5 := A.t x5 rfl
    replace x6 := A.t x6 rfl
    replace x9 := A.t x9 rfl
    replace x49 := A.t x49 rfl
    replace x50 := A.t x50 rfl
    replace x51 := A.t x51 rfl
    replace x52 := A.t x52 rfl
    have x54 := A.e 1 54 rfl rfl
    replace hd := HD.below hd hb
    replace hx := HX.below hx hb
    replace hc := HD.below hc hb
    replace bl := bgo bl hb
    replace sd := A.sd sd
    clear A hb
    clear x52
    refine wl_one (.nw w19.heap.size 32 [.int .i64 0, .int .i64 0, .int .i64 0, .slice none 0 0, .slice none 0 0]) rfl 11 rfl (by rw [sd.1]; decide) (st_alloc 32 rfl _ _ (by kernel_rfl) (Nat.le_refl _)) ?_
    intro f20 w20 df2 sz2 old2 new2 hb
    replace hbS0 := hbS
    replace hbS := hbS.trans (Below.mono hb hbS.size)
    replace bl0 := bl
    replace x1 := tr old2 x1 rfl
    replace x5 := tr old2 x5 rfl
    replace x6 := tr old2 x6 rfl
    replace x9 := tr old2 x9 rfl
    replace x49 := tr old2 x49 rfl
    replace x50 := tr old2 x50 rfl
    replace x51 := tr old2 x51 rfl
    replace x54 := tr old2 x54 rfl
    have x11 : Fk.f (.nw w19.heap.size 32 [.int .i64 0, .int .i64 0, .int .i64 0, .slice none 0 0, .slice none 0 0]) (f20.eval (.tmp 11)) w20 := new2
    replace hd := HD.below hd hb
    replace hx := HX.below hx hb
    replace hc := HD.below hc hb
    replace bl := bgo bl hb
    replace sd := sd2 sz2 df2 sd
    clear df2 sz2 old2 new2 hb
    obtain ⟨g11, hg11, e11, m11⟩ := x11
    have x11 := e11
    clear e11
    have hw11 : w.heap.size ≤ g11 := Nat.le_trans bl0.size hg11
    have hs11 := Nat.le_trans hbS0.size hg11
    refine wl_str rfl 32 (.tmp 11) (.tmp 54) rfl rfl (g11) ([.int .i64 oo.k, .int .i64 oo.s, .int .i64 oo.n, oo.vb, oo.vl] : List Value).toArray x11 x54 32 _ m11 (by kernel_rfl) (by kernel_rfl) (by kernel_rfl) ?_
    replace m11 : Ob (w20.setRow g11 ([.int .i64 oo.k, .int .i64 oo.s, .int .i64 oo.n, oo.vb, oo.vl] : List Value).toArray) (g11) 32 ([.int .i64 oo.k, .int .i64 oo.s, .int .i64 oo.n, oo.vb, oo.vl]) := Ob.setRow m11 ([.int .i64 oo.k, .int .i64 oo.s, .int .i64 oo.n, oo.vb, oo.vl])
    replace hbS : Below _ _ (w20.setRow g11 ([.int .i64 oo.k, .int .i64 oo.s, .int .i64 oo.n, oo.vb, oo.vl] : List Value).toArray) := hbS.trans (below_setRow _ _ _ _ hs11)
    replace hd := HD.below S_hd hbS
    replace hx := HX.below S_hx hbS
    replace hc := HD.below S_hc hbS
    replace bl : Below w.heap.size w (w20.setRow g11 ([.int .i64 oo.k, .int .i64 oo.s, .int .i64 oo.n, oo.vb, oo.vl] : List Value).toArray) := bl.trans (below_setRow _ _ _ _ hw11)
    generalize w20.setRow g11 ([.int .i64 oo.k, .int .i64 oo.s, .int .i64 oo.n, oo.vb, oo.vl] : List Value).toArray = w21b at bl m11 hd hx hc hbS ⊢
    refine wpList_nil ?_
    clear hbS hbS0 S_hd S_hx S_hc
    clear x54
    show Code.wp _ _ _ _ _
    have hwb := bl.size
    have hDb := hd.lt
    have hCb := hc.lt
    have hxb := hx.lt
    refine wr_t [.eq (.pointer (some ⟨gd, 0, none⟩)), .rx w21b.heap.size, .eq (.agg ([.int .i64 oo.k, .int .i64 oo.s, .int .i64 oo.n, oo.vb, oo.vl] : List Value).toArray)] [3] Try.mixed (by rw [sd.1]; kernel_rfl) ⟨fun hw ac u K => ?_, fun hw ac u K => ?_, fun hw ac u K => ?_, trivial⟩ ?_
    · exact st_move (.tmp 5) rfl (K.t x5 rfl)
    · exact st_call 11 (.func 11) _ _ _ rfl rfl (arg2 rfl rfl) Try.enter11 (new_rx K.grow.size)
    · exact st_loadz 32 (.tmp 11) rfl (g11) 0 [.int .i64 oo.k, .int .i64 oo.s, .int .i64 oo.n, oo.vb, oo.vl] (by kernel_rfl) (by kernel_rfl) (K.t x11 rfl) (Ob.range (Ob.below m11 K.grow) 0 _ (fun j v hj => by simpa using hj))
    intro f22 w22 A hb
    replace x1 := A.t x1 rfl
    replace x5 := A.t x5 rfl
    replace x6 := A.t x6 rfl
    replace x9 := A.t x9 rfl
    replace x49 := A.t x49 rfl
    replace x50 := A.t x50 rfl
    replace x51 := A.t x51 rfl
    replace x11 := A.t x11 rfl
    have x55 := A.e 0 55 rfl rfl
    have x56 : Fk.f (.rx w21b.heap.size) (f22.eval (.tmp 56)) w22 := A.has 1 56 rfl
    have x57 := A.e 2 57 rfl rfl
    replace m11 := Ob.below m11 hb
    replace hd := HD.below hd hb
    replace hx := HX.below hx hb
    replace hc := HD.below hc hb
    replace bl := bgo bl hb
    replace sd := A.sd sd
    clear A hb
    clear x11
    obtain ⟨xq, hq, cq, e56, g1, g2, g3, hxq⟩ := x56
    have hxD9 : ¬ DD xq ∧ ¬ DD hq ∧ ¬ DD cq := ⟨fun q => by have := hDb _ q; omega, fun q => by have := hDb _ q; omega, fun q => by have := hDb _ q; omega⟩
    have hS : ∀ j, (fun j => M j ∨ j = xq ∨ j = hq ∨ j = cq) j → w.heap.size ≤ j := fun j q => q.elim (fun q => hDD j (hd.sub j q)) (fun q => by rcases q with rfl | rfl | rfl <;> omega)
    refine wl_call 12 (.func 12) _ _ #[.pointer (some ⟨gd, 0, none⟩), .pointer (some ⟨xq, 0, none⟩), oo.val] rfl 58 rfl (by rw [sd.1]; decide) rfl rfl (three_arg x55 e56 x57) Try.enter12 (fun u W' => ∃ (D2 : Nat → Prop) (r : Bool), u = .bool r ∧ HD W' gd M D2 (stepD s2 oo) ∧ (∀ j, D2 j → DD j ∨ w22.heap.size ≤ j) ∧ Fr (fun j => M j ∨ j = xq ∨ j = hq ∨ j = cq) w22 W') ((step_any hd hxq hxD9 gs2 ((gd_new 8 16).le (Nat.zero_le _)) (by decide) (by decide) (by omega) (o := oo) (fun q => Fk.mono _ _ _ _ hboo (bl.trans (q.below bl.size hS))) (fun q => Fk.mono _ _ _ _ hloo (bl.trans (q.below bl.size hS))) hsm.1 hsm.2 hon how).mono (by rintro e w' ⟨D2, r, rfl, _, q1, _, _, q2, q3⟩; exact ⟨_, rfl, D2, r, rfl, q1, q2, q3⟩)) ?_
    rintro f23 w23 df2 sz2 old2 ⟨D2, r, x58, hd2, hD2, O⟩
    clear x58
    replace x1 := tr old2 x1 rfl
    replace x5 := tr old2 x5 rfl
    replace x6 := tr old2 x6 rfl
    replace x9 := tr old2 x9 rfl
    replace x49 := tr old2 x49 rfl
    replace x50 := tr old2 x50 rfl
    replace x51 := tr old2 x51 rfl
    replace x55 := tr old2 x55 rfl
    replace x57 := tr old2 x57 rfl
    clear m11
    have hcl := hc.lt
    have hxl := hx.lt
    replace hc := hc.keep (fun j hj => O.block j (hcl j hj) (fun q => q.elim (hCD j hj) (fun q => by have := hCb j hj; omega))) O.size
    replace hx := hx.keep (O.block _ hxl.1 (fun q => q.elim (fun q => hxD.1 (hd.sub _ q)) (fun q => by omega))) (O.block _ hxl.2.1 (fun q => q.elim (fun q => hxD.2.1 (hd.sub _ q)) (fun q => by omega))) (O.block _ hxl.2.2 (fun q => q.elim (fun q => hxD.2.2 (hd.sub _ q)) (fun q => by omega)))
    replace hxD : ¬ D2 x ∧ ¬ D2 h ∧ ¬ D2 c := ⟨fun q => (hD2 _ q).elim hxD.1 (fun q => by omega), fun q => (hD2 _ q).elim hxD.2.1 (fun q => by omega), fun q => (hD2 _ q).elim hxD.2.2 (fun q => by omega)⟩
    have bl9 := bl.trans (O.below bl.size hS)
    replace hDD : ∀ j, D2 j → w.heap.size ≤ j := fun j q => (hD2 j q).elim (hDD j) (fun q => Nat.le_trans bl.size q)
    replace bl := bl9
    replace bl0 := bl
    replace hd := hd2
    replace sd := sd2 sz2 df2 sd
    clear df2 sz2 old2 hd2 bl9 O hD2 hS hcl hxl hxD9 hxq g1 g2 g3 e56 hDb hCb hxb hwb
    clear DD
    obtain ⟨DD, rfl⟩ : ∃ E, E = D2 := ⟨_, rfl⟩
    refine wpList_nil ?_
    clear x55
    clear x57
    show Code.wp _ _ _ _ _
    refine wr_s [.eq (.int .i64 ((k + 1 : Nat) : Int))] (by rw [sd.1]; kernel_rfl) ⟨fun hw ac u K => ?_, trivial⟩ ?_
    · exact st_add (.tmp 51) (.const (.int .i64 1)) rfl (k) (1) (k + 1) (K.t x51 rfl) rfl (by omega) (by omega)
    intro f24 w24 A hb
    replace x1 := A.t x1 rfl
    replace x5 := A.t x5 rfl
    replace x6 := A.t x6 rfl
    replace x9 := A.t x9 rfl
    replace x49 := A.t x49 rfl
    replace x50 := A.t x50 rfl
    replace x51 := A.t x51 rfl
    have x59 := A.e 0 59 rfl rfl
    replace hd := HD.below hd hb
    replace hx := HX.below hx hb
    replace hc := HD.below hc hb
    replace bl := bgo bl hb
    replace sd := A.sd sd
    clear A hb
    refine wl_one (.eq (.int .i64 ((k + 1 : Nat) : Int))) rfl 51 rfl (by rw [sd.1]; decide) (st_move (.tmp 59) rfl x59) ?_
    intro f25 w25 df2 sz2 old2 new2 hb
    replace x1 := tr old2 x1 rfl
    replace x5 := tr old2 x5 rfl
    replace x6 := tr old2 x6 rfl
    replace x9 := tr old2 x9 rfl
    replace x49 := tr old2 x49 rfl
    replace x50 := tr old2 x50 rfl
    clear x51
    replace x59 := tr old2 x59 rfl
    have x51 := Fk.e new2
    replace hd := HD.below hd hb
    replace hx := HX.below hx hb
    replace hc := HD.below hc hb
    replace bl := bgo bl hb
    replace sd := sd2 sz2 df2 sd
    clear df2 sz2 old2 new2 hb
    refine wpList_nil ?_
    clear x59
    show (∃ _, _) ∧ _
    refine ⟨⟨k + 1, stepD s2 oo, DD, by omega, gd_step gs2 oo, hDD, hxD, hCD, sd.1, sd.2, x1, x5, x6, x9, x49, x50, x51, hd, hx, hc, bl⟩, ?_⟩
    rw [show f25.eval (.tmp 51) = _ from x51, show _ = _ from hcnt]
    first | (simp [intOf]; done) | (simp [intOf]; omega)
  obtain ⟨oo, hook⟩ : ∃ p, l[k]? = some p := ⟨_, List.getElem?_eq_getElem hlt⟩
  have hboo : (Fk.sl oo.bs).f oo.vb w := (ol_ok hv hook).b
  have hloo : (Fk.is oo.ls).f oo.vl w := (ol_ok hv hook).l
  have hsm := o_small h1s hook
  have hon := (ol_ok hv hook).n
  have how := (ol_ok hv hook).w
  refine wr_a [.eq (.bool true)] (by rw [sd.1]; kernel_rfl) ⟨fun hw ac u K => ?_, trivial⟩ ?_
  · exact st_lss 3 (.tmp 35) (.tmp 34) rfl .i64 ((k : Int)) ((((l).length : Nat) : Int)) (K.t x35 rfl) (K.t x34 rfl) _ (by rw [eq_comm, decide_eq_true_iff]; exact Int.ofNat_lt.2 hlt)
  intro f11 w11 A hb
  replace x1 := A.t x1 rfl
  replace x5 := A.t x5 rfl
  replace x6 := A.t x6 rfl
  replace x33 := A.t x33 rfl
  replace x34 := A.t x34 rfl
  replace x35 := A.t x35 rfl
  have x36 := A.e 0 36 rfl rfl
  replace hd := HD.below hd hb
  replace hx := HX.below hx hb
  replace bl := bgo bl hb
  replace sd := A.sd sd
  clear A hb
  show Code.wp _ _ _ _ _
  refine wp_seq ?_
  refine wp_cond_true x36 ?_
  refine wp_skip ?_
  show Code.wp _ _ _ _ _
  refine wp_seq ?_
  refine wp_block ?_
  refine wp_seq ?_
  refine wr_s [.oq oo, .eq (.agg ([.int .i64 oo.k, .int .i64 oo.s, .int .i64 oo.n, oo.vb, oo.vl] : List Value).toArray)] (by rw [sd.1]; kernel_rfl) ⟨fun hw ac u K => ?_, fun hw ac u K => ?_, trivial⟩ ?_
  · exact st_idxo (.tmp 33) (.tmp 35) rfl (fk_val (K.t x33 rfl) (Fk.mono _ _ _ _ hv (bgo bl K.grow))) k oo (K.t x35 rfl) hook
  · exact st_loado (.tmp 37) rfl (K.dep 0 37 rfl)
  intro f12 w12 A hb
  have S_hd := hd
  have S_hx := hx
  have hbS0 := Below.refl w11.heap.size w11
  have hbS := hb
  replace x1 := A.t x1 rfl
  replace x5 := A.t x5 rfl
  replace x6 := A.t x6 rfl
  replace x33 := A.t x33 rfl
  replace x34 := A.t x34 rfl
  replace x35 := A.t x35 rfl
  replace x36 := A.t x36 rfl
  have x38 := A.e 1 38 rfl rfl
  replace hd := HD.below hd hb
  replace hx := HX.below hx hb
  replace bl := bgo bl hb
  replace sd := A.sd sd
  clear A hb
  clear x36
  refine wl_one (.nw w12.heap.size 32 [.int .i64 0, .int .i64 0, .int .i64 0, .slice none 0 0, .slice none 0 0]) rfl 8 rfl (by rw [sd.1]; decide) (st_alloc 32 rfl _ _ (by kernel_rfl) (Nat.le_refl _)) ?_
  intro f13 w13 df2 sz2 old2 new2 hb
  replace hbS0 := hbS
  replace hbS := hbS.trans (Below.mono hb hbS.size)
  replace bl0 := bl
  replace x1 := tr old2 x1 rfl
  replace x5 := tr old2 x5 rfl
  replace x6 := tr old2 x6 rfl
  replace x33 := tr old2 x33 rfl
  replace x34 := tr old2 x34 rfl
  replace x35 := tr old2 x35 rfl
  replace x38 := tr old2 x38 rfl
  have x8 : Fk.f (.nw w12.heap.size 32 [.int .i64 0, .int .i64 0, .int .i64 0, .slice none 0 0, .slice none 0 0]) (f13.eval (.tmp 8)) w13 := new2
  replace hd := HD.below hd hb
  replace hx := HX.below hx hb
  replace bl := bgo bl hb
  replace sd := sd2 sz2 df2 sd
  clear df2 sz2 old2 new2 hb
  obtain ⟨g8, hg8, e8, m8⟩ := x8
  have x8 := e8
  clear e8
  have hw8 : w.heap.size ≤ g8 := Nat.le_trans bl0.size hg8
  have hs8 := Nat.le_trans hbS0.size hg8
  refine wl_str rfl 32 (.tmp 8) (.tmp 38) rfl rfl (g8) ([.int .i64 oo.k, .int .i64 oo.s, .int .i64 oo.n, oo.vb, oo.vl] : List Value).toArray x8 x38 32 _ m8 (by kernel_rfl) (by kernel_rfl) (by kernel_rfl) ?_
  replace m8 : Ob (w13.setRow g8 ([.int .i64 oo.k, .int .i64 oo.s, .int .i64 oo.n, oo.vb, oo.vl] : List Value).toArray) (g8) 32 ([.int .i64 oo.k, .int .i64 oo.s, .int .i64 oo.n, oo.vb, oo.vl]) := Ob.setRow m8 ([.int .i64 oo.k, .int .i64 oo.s, .int .i64 oo.n, oo.vb, oo.vl])
  replace hbS : Below _ _ (w13.setRow g8 ([.int .i64 oo.k, .int .i64 oo.s, .int .i64 oo.n, oo.vb, oo.vl] : List Value).toArray) := hbS.trans (below_setRow _ _ _ _ hs8)
  replace hd := HD.below S_hd hbS
  replace hx := HX.below S_hx hbS
  replace bl : Below w.heap.size w (w13.setRow g8 ([.int .i64 oo.k, .int .i64 oo.s, .int .i64 oo.n, oo.vb, oo.vl] : List Value).toArray) := bl.trans (below_setRow _ _ _ _ hw8)
  generalize w13.setRow g8 ([.int .i64 oo.k, .int .i64 oo.s, .int .i64 oo.n, oo.vb, oo.vl] : List Value).toArray = w14b at bl m8 hd hx hbS ⊢
  refine wpList_nil ?_
  clear hbS hbS0 S_hd S_hx
  clear x38
  show Code.wp _ _ _ _ _
  refine wp_seq ?_
  refine wr_s [.eq (.pointer (some ⟨gd, 0, none⟩)), .eq (.pointer (some ⟨x, 0, none⟩)), .eq (.agg ([.int .i64 oo.k, .int .i64 oo.s, .int .i64 oo.n, oo.vb, oo.vl] : List Value).toArray)] (by rw [sd.1]; kernel_rfl) ⟨fun hw ac u K => ?_, fun hw ac u K => ?_, fun hw ac u K => ?_, trivial⟩ ?_
  · exact st_move (.tmp 5) rfl (K.t x5 rfl)
  · exact st_move (.tmp 6) rfl (K.t x6 rfl)
  · exact st_loadz 32 (.tmp 8) rfl (g8) 0 [.int .i64 oo.k, .int .i64 oo.s, .int .i64 oo.n, oo.vb, oo.vl] (by kernel_rfl) (by kernel_rfl) (K.t x8 rfl) (Ob.range (Ob.below m8 K.grow) 0 _ (fun j v hj => by simpa using hj))
  intro f15 w15 A hb
  replace x1 := A.t x1 rfl
  replace x5 := A.t x5 rfl
  replace x6 := A.t x6 rfl
  replace x33 := A.t x33 rfl
  replace x34 := A.t x34 rfl
  replace x35 := A.t x35 rfl
  replace x8 := A.t x8 rfl
  have x39 := A.e 0 39 rfl rfl
  have x40 := A.e 1 40 rfl rfl
  have x41 := A.e 2 41 rfl rfl
  replace m8 := Ob.below m8 hb
  replace hd := HD.below hd hb
  replace hx := HX.below hx hb
  replace bl := bgo bl hb
  replace sd := A.sd sd
  clear A hb
  clear x8
  have hS : ∀ j, (fun j => M j ∨ j = x ∨ j = h ∨ j = c) j → w.heap.size ≤ j := fun j q => q.elim (fun q => hDD j (hd.sub j q)) (hX j)
  refine wl_call 12 (.func 12) _ _ #[.pointer (some ⟨gd, 0, none⟩), .pointer (some ⟨x, 0, none⟩), oo.val] rfl 42 rfl (by rw [sd.1]; decide) rfl rfl (three_arg x39 x40 x41) Try.enter12 (fun u W' => ∃ (D2 : Nat → Prop) (r : Bool), u = .bool r ∧ (s = s → r = true) ∧ HD W' gd M D2 (stepD s oo) ∧ HX W' x h c (stepD s oo) ∧ (¬ D2 x ∧ ¬ D2 h ∧ ¬ D2 c) ∧ (∀ j, D2 j → DD j ∨ w15.heap.size ≤ j) ∧ Fr (fun j => M j ∨ j = x ∨ j = h ∨ j = c) w15 W') ((step_any hd hx hxD gs gs (by decide) (by decide) (by omega) (o := oo) (fun q => Fk.mono _ _ _ _ hboo (bl.trans (q.below bl.size hS))) (fun q => Fk.mono _ _ _ _ hloo (bl.trans (q.below bl.size hS))) hsm.1 hsm.2 hon how).mono (by rintro e w' ⟨D2, r, rfl, q⟩; exact ⟨_, rfl, D2, r, rfl, q⟩)) ?_
  rintro f16 w16 df2 sz2 old2 ⟨D2, r, x42, hr, hd2, hx2, hxD2, hD2, O⟩
  obtain rfl : r = true := hr rfl
  clear hr
  replace x1 := tr old2 x1 rfl
  replace x5 := tr old2 x5 rfl
  replace x6 := tr old2 x6 rfl
  replace x33 := tr old2 x33 rfl
  replace x34 := tr old2 x34 rfl
  replace x35 := tr old2 x35 rfl
  replace x39 := tr old2 x39 rfl
  replace x40 := tr old2 x40 rfl
  replace x41 := tr old2 x41 rfl
  clear m8
  have bl9 := bl.trans (O.below bl.size hS)
  replace hDD : ∀ j, D2 j → w.heap.size ≤ j := fun j q => (hD2 j q).elim (hDD j) (fun q => Nat.le_trans bl.size q)
  replace bl := bl9
  replace bl0 := bl
  replace hd := hd2
  replace hx := hx2
  replace hxD := hxD2
  replace sd := sd2 sz2 df2 sd
  clear df2 sz2 old2 hd2 hx2 hxD2 bl9 O hD2 hS
  clear DD
  obtain ⟨DD, rfl⟩ : ∃ E, E = D2 := ⟨_, rfl⟩
  clear x39
  clear x40
  clear x41
  refine wl_one (.eq (.bool false)) rfl 43 rfl (by rw [sd.1]; decide) (st_not (.tmp 42) rfl true x42) ?_
  intro f17 w17 df2 sz2 old2 new2 hb
  replace x1 := tr old2 x1 rfl
  replace x5 := tr old2 x5 rfl
  replace x6 := tr old2 x6 rfl
  replace x33 := tr old2 x33 rfl
  replace x34 := tr old2 x34 rfl
  replace x35 := tr old2 x35 rfl
  replace x42 := tr old2 x42 rfl
  have x43 := Fk.e new2
  replace hd := HD.below hd hb
  replace hx := HX.below hx hb
  replace bl := bgo bl hb
  replace sd := sd2 sz2 df2 sd
  clear df2 sz2 old2 new2 hb
  refine wpList_nil ?_
  clear x42
  show Code.wp _ _ _ _ _
  refine wp_cond_false x43 ?_
  refine wp_skip ?_
  show Code.wp _ _ _ _ _
  refine wr_s [.eq (.int .i64 ((k + 1 : Nat) : Int))] (by rw [sd.1]; kernel_rfl) ⟨fun hw ac u K => ?_, trivial⟩ ?_
  · exact st_add (.tmp 35) (.const (.int .i64 1)) rfl (k) (1) (k + 1) (K.t x35 rfl) rfl (by omega) (by omega)
  intro f18 w18 A hb
  replace x1 := A.t x1 rfl
  replace x5 := A.t x5 rfl
  replace x6 := A.t x6 rfl
  replace x33 := A.t x33 rfl
  replace x34 := A.t x34 rfl
  replace x35 := A.t x35 rfl
  replace x43 := A.t x43 rfl
  have x44 := A.e 0 44 rfl rfl
  replace hd := HD.below hd hb
  replace hx := HX.below hx hb
  replace bl := bgo bl hb
  replace sd := A.sd sd
  clear A hb
  clear x43
  refine wl_one (.eq (.int .i64 ((k + 1 : Nat) : Int))) rfl 35 rfl (by rw [sd.1]; decide) (st_move (.tmp 44) rfl x44) ?_
  intro f19 w19 df2 sz2 old2 new2 hb
  replace x1 := tr old2 x1 rfl
  replace x5 := tr old2 x5 rfl
  replace x6 := tr old2 x6 rfl
  replace x33 := tr old2 x33 rfl
  replace x34 := tr old2 x34 rfl
  clear x35
  replace x44 := tr old2 x44 rfl
  have x35 := Fk.e new2
  replace hd := HD.below hd hb
  replace hx := HX.below hx hb
  replace bl := bgo bl hb
  replace sd := sd2 sz2 df2 sd
  clear df2 sz2 old2 new2 hb
  refine wpList_nil ?_
  clear x44
  show (∃ _, _) ∧ _
  refine ⟨⟨k + 1, stepD s oo, DD, by omega, gd_step gs oo, hDD, hxD, sd.1, sd.2, x1, x5, x6, x33, x34, x35, hd, hx, bl⟩, ?_⟩
  rw [show f19.eval (.tmp 35) = _ from x35, show _ = _ from hcnt]
  first | (simp [intOf]; done) | (simp [intOf]; omega)
end Go.Proofs.Ytjdpomilifnlaaa
namespace Go.Proofs.Ytjdpomilifnlaaa
set_option maxRecDepth 100000
open Go.RowKit
open Go.ChangeShapes Go.WideShapes Go.ChangeAt
variable {H : Type} {enc : TypeId × Value → H} {W : World}
end Go.Proofs.Ytjdpomilifnlaaa
