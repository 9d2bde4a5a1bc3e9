/- The law's step at any two states: nothing, Flush, Arm, Crash, Tamper. -/
import Derived.Test.YtjdpomilifnlaaaM4
import Derived.Test.YtjdpomilifnlaaaM5
import Derived.Test.YtjdpomilifnlaaaM6
import Derived.Test.YtjdpomilifnlaaaM10
namespace Go.Proofs.Ytjdpomilifnlaaa
set_option maxRecDepth 100000
open Go.RowKit
theorem stq0 {w : World} {gd x h c : Nat} {M D : Nat → Prop} {s t : Dst} (hd : HD w gd M D s) (hx : HX w x h c t) (hxD : ¬ D x ∧ ¬ D h ∧ ¬ D c) (_hs : s.done ≤ 1000000) (_ht : t.done ≤ 1000000) (_h60 : s.has.length ≤ 100000) (_t60 : t.has.length ≤ 100000) {o : Opn} (_hbF : ∀ {W : World}, Fr (fun j => M j ∨ j = x ∨ j = h ∨ j = c) w W → (Fk.sl o.bs).f o.vb W) (_hlF : ∀ {W : World}, Fr (fun j => M j ∨ j = x ∨ j = h ∨ j = c) w W → (Fk.is o.ls).f o.vl W) (hk1 : o.k ≠ 1) (hk2 : o.k ≠ 2) (hk3 : o.k ≠ 3) (hk4 : o.k ≠ 4) (hk5 : o.k ≠ 5) (hk6 : o.k ≠ 6) :
    Calls Try.prog 12 #[.pointer (some ⟨gd, 0, none⟩), .pointer (some ⟨x, 0, none⟩), o.val] w fun e w' => ∃ (DD : Nat → Prop) (r : Bool), e = .returned (.bool r) ∧ (s = t → r = true) ∧ HD w' gd M DD (stepD s o) ∧ HX w' x h c (stepD t o) ∧ (¬ DD x ∧ ¬ DD h ∧ ¬ DD c) ∧ (∀ j, DD j → D j ∨ w.heap.size ≤ j) ∧ Fr (fun j => M j ∨ j = x ∨ j = h ∨ j = c) w w' := by
  obtain ⟨DD, hDe⟩ : ∃ E, E = D := ⟨_, rfl⟩
  rw [← hDe] at hd hxD
  have hDD : ∀ j, DD j → D j ∨ w.heap.size ≤ j := fun j q => .inl (hDe ▸ q)
  clear hDe
  have hdL := hd.lt
  have hxL := hx.lt
  go_enter Try.func12, Try.ntmps12
  refine code_both (fun f w1 => f.tmps.size = 161 ∧ f.defers = [] ∧ f.eval (.tmp 0) = .pointer (some ⟨gd, 0, none⟩) ∧ f.eval (.tmp 1) = .pointer (some ⟨x, 0, none⟩) ∧ f.eval (.tmp 2) = .agg ([.int .i64 o.k, .int .i64 o.s, .int .i64 o.n, o.vb, o.vl] : List Value).toArray ∧ HD w1 gd M DD s ∧ HX w1 x h c t ∧ Fr (fun j => M j ∨ j = x ∨ j = h ∨ j = c) w (w1)) ⟨rfl, rfl, rfl, rfl, rfl, hd, hx, Fr.refl _ _⟩ ?_
  clear hd hx
  rintro f0 w0 ⟨sz, df, x0, x1, x2, hd, hx, bl⟩
  have sd := And.intro sz df
  clear sz df
  have bl0 := bl
  refine wp_seq ?_
  refine wr_a [.nw w0.heap.size 32 ([.int .i64 o.k, .int .i64 o.s, .int .i64 o.n, o.vb, o.vl] : List Value), .eq (.bool false)] (by rw [sd.1]; kernel_rfl) ⟨fun hw ac u K => ?_, fun hw ac u K => ?_, trivial⟩ ?_
  · exact st_box 32 (.tmp 2) rfl _ _ (by rw [show _ = _ from (K.t x2 rfl)]; kernel_rfl) K.grow.size
  · exact st_assign (.const (.bool false)) rfl rfl
  intro f1 w1 A hb
  replace bl0 := bl
  replace x0 := A.t x0 rfl
  replace x1 := A.t x1 rfl
  replace x2 := A.t x2 rfl
  have x5 : Fk.f (.nw w0.heap.size 32 ([.int .i64 o.k, .int .i64 o.s, .int .i64 o.n, o.vb, o.vl] : List Value)) (f1.eval (.tmp 5)) w1 := A.has 0 5 rfl
  replace hd := HD.below hd hb
  replace hx := HX.below hx hb
  replace bl := (Fr.grow bl hb)
  replace sd := A.sd sd
  clear A hb
  clear x2
  obtain ⟨g5, hg5, e5, m5⟩ := x5
  have x5 := e5
  clear e5
  have hw5 : w.heap.size ≤ g5 := Nat.le_trans bl0.size hg5
  have nDm5 : ¬ DD g5 := fun q => by have := hdL _ q; have := bl0.size; omega
  have nXm5 : ¬ (g5 = x ∨ g5 = h ∨ g5 = c) := by have := bl0.size; omega
  clear hdL hxL
  show Code.wp _ _ _ _ _
  refine wp_seq ?_
  refine wp_seq ?_
  refine wr_a [.eq (.pointer (some ⟨g5, 0, none⟩)), .eq (.int .i64 o.k)] (by rw [sd.1]; kernel_rfl) ⟨fun hw ac u K => ?_, fun hw ac u K => ?_, trivial⟩ ?_
  · exact st_field 32 0 (.tmp 5) rfl (K.t x5 rfl) (by kernel_rfl)
  · exact st_loadc 3 (.tmp 15) rfl (by kernel_rfl) (K.dep 0 15 rfl) (Ob.cell (Ob.below m5 K.grow) 0 rfl)
  intro f2 w2 A hb
  replace x0 := A.t x0 rfl
  replace x1 := A.t x1 rfl
  replace x5 := A.t x5 rfl
  have x16 := A.e 1 16 rfl rfl
  replace m5 := Ob.below m5 hb
  replace hd := HD.below hd hb
  replace hx := HX.below hx hb
  replace bl := (Fr.grow bl hb)
  replace sd := A.sd sd
  clear A hb
  show Code.wp _ _ _ _ _
  refine wp_block ?_
  refine wp_seq ?_
  refine wr_a [.eq (.bool false), .eq (.bool false)] (by rw [sd.1]; kernel_rfl) ⟨fun hw ac u K => ?_, fun hw ac u K => ?_, trivial⟩ ?_
  · exact st_eqi 3 (.tmp 16) (.const (.int .i64 1)) rfl .i64 (o.k) (1) (K.t x16 rfl) rfl _ (by symm; rw [decide_eq_false_iff_not]; exact hk1)
  · exact st_assign (.tmp 18) rfl (K.dep 0 18 rfl)
  intro f3 w3 A hb
  replace x0 := A.t x0 rfl
  replace x1 := A.t x1 rfl
  replace x5 := A.t x5 rfl
  replace x16 := A.t x16 rfl
  have x17 := A.e 1 17 rfl rfl
  replace m5 := Ob.below m5 hb
  replace hd := HD.below hd hb
  replace hx := HX.below hx hb
  replace bl := (Fr.grow bl hb)
  replace sd := A.sd sd
  clear A hb
  show Code.wp _ _ _ _ _
  refine wp_cond_false x17 ?_
  refine wp_seq ?_
  refine wr_a [.eq (.bool false), .eq (.bool false)] (by rw [sd.1]; kernel_rfl) ⟨fun hw ac u K => ?_, fun hw ac u K => ?_, trivial⟩ ?_
  · exact st_eqi 3 (.tmp 16) (.const (.int .i64 2)) rfl .i64 (o.k) (2) (K.t x16 rfl) rfl _ (by symm; rw [decide_eq_false_iff_not]; exact hk2)
  · exact st_assign (.tmp 49) rfl (K.dep 0 49 rfl)
  intro f4 w4 A hb
  replace x0 := A.t x0 rfl
  replace x1 := A.t x1 rfl
  replace x5 := A.t x5 rfl
  replace x16 := A.t x16 rfl
  replace x17 := A.t x17 rfl
  have x48 := A.e 1 48 rfl rfl
  replace m5 := Ob.below m5 hb
  replace hd := HD.below hd hb
  replace hx := HX.below hx hb
  replace bl := (Fr.grow bl hb)
  replace sd := A.sd sd
  clear A hb
  clear x17
  show Code.wp _ _ _ _ _
  refine wp_cond_false x48 ?_
  refine wp_seq ?_
  refine wr_a [.eq (.bool false), .eq (.bool false)] (by rw [sd.1]; kernel_rfl) ⟨fun hw ac u K => ?_, fun hw ac u K => ?_, trivial⟩ ?_
  · exact st_eqi 3 (.tmp 16) (.const (.int .i64 3)) rfl .i64 (o.k) (3) (K.t x16 rfl) rfl _ (by symm; rw [decide_eq_false_iff_not]; exact hk3)
  · exact st_assign (.tmp 56) rfl (K.dep 0 56 rfl)
  intro f5 w5 A hb
  replace x0 := A.t x0 rfl
  replace x1 := A.t x1 rfl
  replace x5 := A.t x5 rfl
  replace x16 := A.t x16 rfl
  replace x48 := A.t x48 rfl
  have x55 := A.e 1 55 rfl rfl
  replace m5 := Ob.below m5 hb
  replace hd := HD.below hd hb
  replace hx := HX.below hx hb
  replace bl := (Fr.grow bl hb)
  replace sd := A.sd sd
  clear A hb
  clear x48
  show Code.wp _ _ _ _ _
  refine wp_cond_false x55 ?_
  refine wp_seq ?_
  refine wr_a [.eq (.bool false), .eq (.bool false)] (by rw [sd.1]; kernel_rfl) ⟨fun hw ac u K => ?_, fun hw ac u K => ?_, trivial⟩ ?_
  · exact st_eqi 3 (.tmp 16) (.const (.int .i64 4)) rfl .i64 (o.k) (4) (K.t x16 rfl) rfl _ (by symm; rw [decide_eq_false_iff_not]; exact hk4)
  · exact st_assign (.tmp 120) rfl (K.dep 0 120 rfl)
  intro f6 w6 A hb
  replace x0 := A.t x0 rfl
  replace x1 := A.t x1 rfl
  replace x5 := A.t x5 rfl
  replace x16 := A.t x16 rfl
  replace x55 := A.t x55 rfl
  have x119 := A.e 1 119 rfl rfl
  replace m5 := Ob.below m5 hb
  replace hd := HD.below hd hb
  replace hx := HX.below hx hb
  replace bl := (Fr.grow bl hb)
  replace sd := A.sd sd
  clear A hb
  clear x55
  show Code.wp _ _ _ _ _
  refine wp_cond_false x119 ?_
  refine wp_seq ?_
  refine wr_a [.eq (.bool false), .eq (.bool false)] (by rw [sd.1]; kernel_rfl) ⟨fun hw ac u K => ?_, fun hw ac u K => ?_, trivial⟩ ?_
  · exact st_eqi 3 (.tmp 16) (.const (.int .i64 5)) rfl .i64 (o.k) (5) (K.t x16 rfl) rfl _ (by symm; rw [decide_eq_false_iff_not]; exact hk5)
  · exact st_assign (.tmp 137) rfl (K.dep 0 137 rfl)
  intro f7 w7 A hb
  replace x0 := A.t x0 rfl
  replace x1 := A.t x1 rfl
  replace x5 := A.t x5 rfl
  replace x16 := A.t x16 rfl
  replace x119 := A.t x119 rfl
  have x136 := A.e 1 136 rfl rfl
  replace m5 := Ob.below m5 hb
  replace hd := HD.below hd hb
  replace hx := HX.below hx hb
  replace bl := (Fr.grow bl hb)
  replace sd := A.sd sd
  clear A hb
  clear x119
  show Code.wp _ _ _ _ _
  refine wp_cond_false x136 ?_
  refine wp_seq ?_
  refine wr_a [.eq (.bool false), .eq (.bool false)] (by rw [sd.1]; kernel_rfl) ⟨fun hw ac u K => ?_, fun hw ac u K => ?_, trivial⟩ ?_
  · exact st_eqi 3 (.tmp 16) (.const (.int .i64 6)) rfl .i64 (o.k) (6) (K.t x16 rfl) rfl _ (by symm; rw [decide_eq_false_iff_not]; exact hk6)
  · exact st_assign (.tmp 147) rfl (K.dep 0 147 rfl)
  intro f8 w8 A hb
  replace x0 := A.t x0 rfl
  replace x1 := A.t x1 rfl
  replace x5 := A.t x5 rfl
  replace x16 := A.t x16 rfl
  replace x136 := A.t x136 rfl
  have x146 := A.e 1 146 rfl rfl
  replace m5 := Ob.below m5 hb
  replace hd := HD.below hd hb
  replace hx := HX.below hx hb
  replace bl := (Fr.grow bl hb)
  replace sd := A.sd sd
  clear A hb
  clear x16
  clear x136
  show Code.wp _ _ _ _ _
  refine wp_cond_false x146 ?_
  refine wp_skip ?_
  show Code.wp _ _ _ _ _
  refine wp_seq ?_
  refine wr_a [.eq (.bool true)] (by rw [sd.1]; kernel_rfl) ⟨fun hw ac u K => ?_, trivial⟩ ?_
  · exact st_assign (.const (.bool true)) rfl rfl
  intro f9 w9 A hb
  replace x0 := A.t x0 rfl
  replace x1 := A.t x1 rfl
  replace x5 := A.t x5 rfl
  replace x146 := A.t x146 rfl
  have x6 := A.e 0 6 rfl rfl
  replace m5 := Ob.below m5 hb
  replace hd := HD.below hd hb
  replace hx := HX.below hx hb
  replace bl := (Fr.grow bl hb)
  replace sd := A.sd sd
  clear A hb
  clear x0
  clear x1
  clear x5
  clear x146
  clear m5
  show Code.wp _ _ _ _ _
  refine wp_ret ?_
  repeat (first | with_reducible refine then_ret ?_ | with_reducible refine block_ret ?_)
  have e8 : stepD s o = s := by unfold stepD; rw [if_neg hk1, if_neg hk2, if_neg hk4, if_neg hk5, if_neg hk6]
  have e9 : stepD t o = t := by unfold stepD; rw [if_neg hk1, if_neg hk2, if_neg hk4, if_neg hk5, if_neg hk6]
  exact bodyPost_ret (v := .bool true) (ret_slot rfl f9 _ x6 _ _) sd.2 ⟨DD, true, rfl, fun _ => rfl, by rw [e8]; exact hd, by rw [e9]; exact hx, hxD, hDD, bl⟩
theorem stq2 {w : World} {gd x h c : Nat} {M D : Nat → Prop} {s t : Dst} (hd : HD w gd M D s) (hx : HX w x h c t) (hxD : ¬ D x ∧ ¬ D h ∧ ¬ D c) (hs : s.done ≤ 1000000) (ht : t.done ≤ 1000000) (h60 : s.has.length ≤ 100000) (t60 : t.has.length ≤ 100000) {o : Opn} (_hbF : ∀ {W : World}, Fr (fun j => M j ∨ j = x ∨ j = h ∨ j = c) w W → (Fk.sl o.bs).f o.vb W) (_hlF : ∀ {W : World}, Fr (fun j => M j ∨ j = x ∨ j = h ∨ j = c) w W → (Fk.is o.ls).f o.vl W) (hk1 : o.k ≠ 1) (hk : o.k = 2) :
    Calls Try.prog 12 #[.pointer (some ⟨gd, 0, none⟩), .pointer (some ⟨x, 0, none⟩), o.val] w fun e w' => ∃ (DD : Nat → Prop) (r : Bool), e = .returned (.bool r) ∧ (s = t → r = true) ∧ HD w' gd M DD (stepD s o) ∧ HX w' x h c (stepD t o) ∧ (¬ DD x ∧ ¬ DD h ∧ ¬ DD c) ∧ (∀ j, DD j → D j ∨ w.heap.size ≤ j) ∧ Fr (fun j => M j ∨ j = x ∨ j = h ∨ j = c) w w' := by
  obtain ⟨DD, hDe⟩ : ∃ E, E = D := ⟨_, rfl⟩
  rw [← hDe] at hd hxD
  have hDD : ∀ j, DD j → D j ∨ w.heap.size ≤ j := fun j q => .inl (hDe ▸ q)
  clear hDe
  have hdL := hd.lt
  have hxL := hx.lt
  go_enter Try.func12, Try.ntmps12
  refine code_both (fun f w1 => f.tmps.size = 161 ∧ f.defers = [] ∧ f.eval (.tmp 0) = .pointer (some ⟨gd, 0, none⟩) ∧ f.eval (.tmp 1) = .pointer (some ⟨x, 0, none⟩) ∧ f.eval (.tmp 2) = .agg ([.int .i64 o.k, .int .i64 o.s, .int .i64 o.n, o.vb, o.vl] : List Value).toArray ∧ HD w1 gd M DD s ∧ HX w1 x h c t ∧ Fr (fun j => M j ∨ j = x ∨ j = h ∨ j = c) w (w1)) ⟨rfl, rfl, rfl, rfl, rfl, hd, hx, Fr.refl _ _⟩ ?_
  clear hd hx
  rintro f0 w0 ⟨sz, df, x0, x1, x2, hd, hx, bl⟩
  have sd := And.intro sz df
  clear sz df
  have bl0 := bl
  refine wp_seq ?_
  refine wr_a [.nw w0.heap.size 32 ([.int .i64 o.k, .int .i64 o.s, .int .i64 o.n, o.vb, o.vl] : List Value), .eq (.bool false)] (by rw [sd.1]; kernel_rfl) ⟨fun hw ac u K => ?_, fun hw ac u K => ?_, trivial⟩ ?_
  · exact st_box 32 (.tmp 2) rfl _ _ (by rw [show _ = _ from (K.t x2 rfl)]; kernel_rfl) K.grow.size
  · exact st_assign (.const (.bool false)) rfl rfl
  intro f1 w1 A hb
  replace bl0 := bl
  replace x0 := A.t x0 rfl
  replace x1 := A.t x1 rfl
  replace x2 := A.t x2 rfl
  have x5 : Fk.f (.nw w0.heap.size 32 ([.int .i64 o.k, .int .i64 o.s, .int .i64 o.n, o.vb, o.vl] : List Value)) (f1.eval (.tmp 5)) w1 := A.has 0 5 rfl
  replace hd := HD.below hd hb
  replace hx := HX.below hx hb
  replace bl := (Fr.grow bl hb)
  replace sd := A.sd sd
  clear A hb
  clear x2
  obtain ⟨g5, hg5, e5, m5⟩ := x5
  have x5 := e5
  clear e5
  have hw5 : w.heap.size ≤ g5 := Nat.le_trans bl0.size hg5
  have nDm5 : ¬ DD g5 := fun q => by have := hdL _ q; have := bl0.size; omega
  have nXm5 : ¬ (g5 = x ∨ g5 = h ∨ g5 = c) := by have := bl0.size; omega
  clear hdL hxL
  show Code.wp _ _ _ _ _
  refine wp_seq ?_
  refine wp_seq ?_
  refine wr_a [.eq (.pointer (some ⟨g5, 0, none⟩)), .eq (.int .i64 o.k)] (by rw [sd.1]; kernel_rfl) ⟨fun hw ac u K => ?_, fun hw ac u K => ?_, trivial⟩ ?_
  · exact st_field 32 0 (.tmp 5) rfl (K.t x5 rfl) (by kernel_rfl)
  · exact st_loadc 3 (.tmp 15) rfl (by kernel_rfl) (K.dep 0 15 rfl) (Ob.cell (Ob.below m5 K.grow) 0 rfl)
  intro f2 w2 A hb
  replace x0 := A.t x0 rfl
  replace x1 := A.t x1 rfl
  replace x5 := A.t x5 rfl
  have x16 := A.e 1 16 rfl rfl
  replace m5 := Ob.below m5 hb
  replace hd := HD.below hd hb
  replace hx := HX.below hx hb
  replace bl := (Fr.grow bl hb)
  replace sd := A.sd sd
  clear A hb
  show Code.wp _ _ _ _ _
  refine wp_block ?_
  refine wp_seq ?_
  refine wr_a [.eq (.bool false), .eq (.bool false)] (by rw [sd.1]; kernel_rfl) ⟨fun hw ac u K => ?_, fun hw ac u K => ?_, trivial⟩ ?_
  · exact st_eqi 3 (.tmp 16) (.const (.int .i64 1)) rfl .i64 (o.k) (1) (K.t x16 rfl) rfl _ (by symm; rw [decide_eq_false_iff_not]; exact hk1)
  · exact st_assign (.tmp 18) rfl (K.dep 0 18 rfl)
  intro f3 w3 A hb
  replace x0 := A.t x0 rfl
  replace x1 := A.t x1 rfl
  replace x5 := A.t x5 rfl
  replace x16 := A.t x16 rfl
  have x17 := A.e 1 17 rfl rfl
  replace m5 := Ob.below m5 hb
  replace hd := HD.below hd hb
  replace hx := HX.below hx hb
  replace bl := (Fr.grow bl hb)
  replace sd := A.sd sd
  clear A hb
  show Code.wp _ _ _ _ _
  refine wp_cond_false x17 ?_
  refine wp_seq ?_
  refine wr_a [.eq (.bool true), .eq (.bool true)] (by rw [sd.1]; kernel_rfl) ⟨fun hw ac u K => ?_, fun hw ac u K => ?_, trivial⟩ ?_
  · exact st_eqi 3 (.tmp 16) (.const (.int .i64 2)) rfl .i64 (o.k) (2) (K.t x16 rfl) rfl _ (by symm; rw [decide_eq_true_iff]; exact hk)
  · exact st_assign (.tmp 49) rfl (K.dep 0 49 rfl)
  intro f4 w4 A hb
  replace x0 := A.t x0 rfl
  replace x1 := A.t x1 rfl
  replace x5 := A.t x5 rfl
  replace x16 := A.t x16 rfl
  replace x17 := A.t x17 rfl
  have x48 := A.e 1 48 rfl rfl
  replace m5 := Ob.below m5 hb
  replace hd := HD.below hd hb
  replace hx := HX.below hx hb
  replace bl := (Fr.grow bl hb)
  replace sd := A.sd sd
  clear A hb
  clear x17
  show Code.wp _ _ _ _ _
  refine wp_cond_true x48 ?_
  refine wp_seq ?_
  refine wr_s [.eq (.pointer (some ⟨gd, 0, none⟩))] (by rw [sd.1]; kernel_rfl) ⟨fun hw ac u K => ?_, trivial⟩ ?_
  · exact st_move (.tmp 0) rfl (K.t x0 rfl)
  intro f5 w5 A hb
  replace x0 := A.t x0 rfl
  replace x1 := A.t x1 rfl
  replace x5 := A.t x5 rfl
  replace x16 := A.t x16 rfl
  replace x48 := A.t x48 rfl
  have x50 := A.e 0 50 rfl rfl
  replace m5 := Ob.below m5 hb
  replace hd := HD.below hd hb
  replace hx := HX.below hx hb
  replace bl := (Fr.grow bl hb)
  replace sd := A.sd sd
  clear A hb
  clear x0
  clear x5
  clear x16
  clear x48
  refine wl_call 19 (.func 19) _ _ #[.pointer (some ⟨gd, 0, none⟩)] rfl 51 rfl (by rw [sd.1]; decide) rfl rfl (one_arg x50) Try.enter19 (fun u W' => ∃ D2 : Nat → Prop, u = .int .i64 (flu s).1 ∧ HD W' gd M D2 ((flu s).2) ∧ (∀ j, D2 j → DD j ∨ w5.heap.size ≤ j) ∧ Fr M w5 W') ((fk_dflush hd hs h60).mono (by rintro e w' ⟨D2, rfl, q⟩; exact ⟨_, rfl, D2, rfl, q⟩)) ?_
  rintro f6 w6 df2 sz2 old2 ⟨D2, x51, hd2, hD2, O⟩
  have OM := O
  replace O := O.mono hd.sub
  replace x1 := tr old2 x1 rfl
  replace x50 := tr old2 x50 rfl
  clear m5 nDm5
  have hxL := hx.lt
  replace hx := hx.keep (O.block _ hxL.1 hxD.1) (O.block _ hxL.2.1 hxD.2.1) (O.block _ hxL.2.2 hxD.2.2)
  replace hxD : ¬ D2 x ∧ ¬ D2 h ∧ ¬ D2 c := ⟨fun q => (hD2 _ q).elim hxD.1 (fun q => by omega), fun q => (hD2 _ q).elim hxD.2.1 (fun q => by omega), fun q => (hD2 _ q).elim hxD.2.2 (fun q => by omega)⟩
  have bl9 := bl.next OM (fun j q => .inl (.inl q))
  replace hDD : ∀ j, D2 j → D j ∨ w.heap.size ≤ j := fun j q => (hD2 j q).elim (hDD j) (fun q => .inr (Nat.le_trans bl.size q))
  replace bl := bl9
  replace bl0 := bl
  replace hd := hd2
  replace sd := sd2 sz2 df2 sd
  clear df2 sz2 old2 O OM hD2 hd2 hxL bl9
  clear DD
  obtain ⟨DD, rfl⟩ : ∃ E, E = D2 := ⟨_, rfl⟩
  clear x50
  refine wl_one (.eq (.pointer (some ⟨x, 0, none⟩))) rfl 52 rfl (by rw [sd.1]; decide) (st_move (.tmp 1) rfl x1) ?_
  intro f7 w7 df2 sz2 old2 new2 hb
  replace x1 := tr old2 x1 rfl
  replace x51 := tr old2 x51 rfl
  have x52 := Fk.e new2
  replace hd := HD.below hd hb
  replace hx := HX.below hx hb
  replace bl := (Fr.grow bl hb)
  replace sd := sd2 sz2 df2 sd
  clear df2 sz2 old2 new2 hb
  clear x1
  refine wl_call 31 (.func 31) _ _ #[.pointer (some ⟨x, 0, none⟩)] rfl 53 rfl (by rw [sd.1]; decide) rfl rfl (one_arg x52) Try.enter31 (fun u W' => u = .int .i64 (flu t).1 ∧ HX W' x h c ((flu t).2) ∧ Fr (fun j => j = x ∨ j = h ∨ j = c) w7 W') ((ref_flush hx ht t60).mono (by rintro e w' ⟨rfl, q⟩; exact ⟨_, rfl, rfl, q⟩)) ?_
  rintro f8 w8 df2 sz2 old2 ⟨x53, hx2, O⟩
  replace x51 := tr old2 x51 rfl
  replace x52 := tr old2 x52 rfl
  replace hd := hd.keep (fun j hj => O.block j (hd.lt j hj) (fun q => q.elim (fun e => hxD.1 (e ▸ hj)) (fun q => q.elim (fun e => hxD.2.1 (e ▸ hj)) (fun e => hxD.2.2 (e ▸ hj))))) O.size
  replace bl := bl.next O (fun j hj => .inl (.inr hj))
  replace bl0 := bl
  replace hx := hx2
  replace sd := sd2 sz2 df2 sd
  clear df2 sz2 old2 O hx2
  clear x52
  refine wl_one (.eq (.bool (decide ((flu s).1 = (flu t).1)))) rfl 54 rfl (by rw [sd.1]; decide) (st_eqi 3 (.tmp 51) (.tmp 53) rfl .i64 ((flu s).1) ((flu t).1) x51 x53 _ rfl) ?_
  intro f9 w9 df2 sz2 old2 new2 hb
  replace x51 := tr old2 x51 rfl
  replace x53 := tr old2 x53 rfl
  have x54 := Fk.e new2
  replace hd := HD.below hd hb
  replace hx := HX.below hx hb
  replace bl := (Fr.grow bl hb)
  replace sd := sd2 sz2 df2 sd
  clear df2 sz2 old2 new2 hb
  clear x51
  clear x53
  refine wl_one (.eq (.bool (decide ((flu s).1 = (flu t).1)))) rfl 6 rfl (by rw [sd.1]; decide) (st_assign (.tmp 54) rfl x54) ?_
  intro f10 w10 df2 sz2 old2 new2 hb
  replace x54 := tr old2 x54 rfl
  have x6 := Fk.e new2
  replace hd := HD.below hd hb
  replace hx := HX.below hx hb
  replace bl := (Fr.grow bl hb)
  replace sd := sd2 sz2 df2 sd
  clear df2 sz2 old2 new2 hb
  refine wpList_nil ?_
  clear x54
  show Code.wp _ _ _ _ _
  refine wp_ret ?_
  repeat (first | with_reducible refine then_ret ?_ | with_reducible refine block_ret ?_)
  have e8 : stepD s o = (flu s).2 := by unfold stepD; rw [if_neg hk1, if_pos hk]
  have e9 : stepD t o = (flu t).2 := by unfold stepD; rw [if_neg hk1, if_pos hk]
  exact bodyPost_ret (v := .bool (decide ((flu s).1 = (flu t).1))) (ret_slot rfl f10 _ x6 _ _) sd.2 ⟨DD, (decide ((flu s).1 = (flu t).1)), rfl, fun e => by rw [e]; simp, by rw [e8]; exact hd, by rw [e9]; exact hx, hxD, hDD, bl⟩
theorem stq5 {w : World} {gd x h c : Nat} {M D : Nat → Prop} {s t : Dst} (hd : HD w gd M D s) (hx : HX w x h c t) (hxD : ¬ D x ∧ ¬ D h ∧ ¬ D c) (_hs : s.done ≤ 1000000) (_ht : t.done ≤ 1000000) (h60 : s.has.length ≤ 100000) (t60 : t.has.length ≤ 100000) {o : Opn} (_hbF : ∀ {W : World}, Fr (fun j => M j ∨ j = x ∨ j = h ∨ j = c) w W → (Fk.sl o.bs).f o.vb W) (hlF : ∀ {W : World}, Fr (fun j => M j ∨ j = x ∨ j = h ∨ j = c) w W → (Fk.is o.ls).f o.vl W) (h40 : o.ls.length ≤ 100000) (hlw : ∀ z ∈ o.ls, (Lit.int .i64 z).wf = true) (hk1 : o.k ≠ 1) (hk2 : o.k ≠ 2) (hk3 : o.k ≠ 3) (hk4 : o.k ≠ 4) (hk : o.k = 5) :
    Calls Try.prog 12 #[.pointer (some ⟨gd, 0, none⟩), .pointer (some ⟨x, 0, none⟩), o.val] w fun e w' => ∃ (DD : Nat → Prop) (r : Bool), e = .returned (.bool r) ∧ (s = t → r = true) ∧ HD w' gd M DD (stepD s o) ∧ HX w' x h c (stepD t o) ∧ (¬ DD x ∧ ¬ DD h ∧ ¬ DD c) ∧ (∀ j, DD j → D j ∨ w.heap.size ≤ j) ∧ Fr (fun j => M j ∨ j = x ∨ j = h ∨ j = c) w w' := by
  obtain ⟨DD, hDe⟩ : ∃ E, E = D := ⟨_, rfl⟩
  rw [← hDe] at hd hxD
  have hDD : ∀ j, DD j → D j ∨ w.heap.size ≤ j := fun j q => .inl (hDe ▸ q)
  clear hDe
  have hdL := hd.lt
  have hxL := hx.lt
  go_enter Try.func12, Try.ntmps12
  refine code_both (fun f w1 => f.tmps.size = 161 ∧ f.defers = [] ∧ f.eval (.tmp 0) = .pointer (some ⟨gd, 0, none⟩) ∧ f.eval (.tmp 1) = .pointer (some ⟨x, 0, none⟩) ∧ f.eval (.tmp 2) = .agg ([.int .i64 o.k, .int .i64 o.s, .int .i64 o.n, o.vb, o.vl] : List Value).toArray ∧ HD w1 gd M DD s ∧ HX w1 x h c t ∧ Fr (fun j => M j ∨ j = x ∨ j = h ∨ j = c) w (w1)) ⟨rfl, rfl, rfl, rfl, rfl, hd, hx, Fr.refl _ _⟩ ?_
  clear hd hx
  rintro f0 w0 ⟨sz, df, x0, x1, x2, hd, hx, bl⟩
  have sd := And.intro sz df
  clear sz df
  have bl0 := bl
  refine wp_seq ?_
  refine wr_a [.nw w0.heap.size 32 ([.int .i64 o.k, .int .i64 o.s, .int .i64 o.n, o.vb, o.vl] : List Value), .eq (.bool false)] (by rw [sd.1]; kernel_rfl) ⟨fun hw ac u K => ?_, fun hw ac u K => ?_, trivial⟩ ?_
  · exact st_box 32 (.tmp 2) rfl _ _ (by rw [show _ = _ from (K.t x2 rfl)]; kernel_rfl) K.grow.size
  · exact st_assign (.const (.bool false)) rfl rfl
  intro f1 w1 A hb
  replace bl0 := bl
  replace x0 := A.t x0 rfl
  replace x1 := A.t x1 rfl
  replace x2 := A.t x2 rfl
  have x5 : Fk.f (.nw w0.heap.size 32 ([.int .i64 o.k, .int .i64 o.s, .int .i64 o.n, o.vb, o.vl] : List Value)) (f1.eval (.tmp 5)) w1 := A.has 0 5 rfl
  replace hd := HD.below hd hb
  replace hx := HX.below hx hb
  replace bl := (Fr.grow bl hb)
  replace sd := A.sd sd
  clear A hb
  clear x2
  obtain ⟨g5, hg5, e5, m5⟩ := x5
  have x5 := e5
  clear e5
  have hw5 : w.heap.size ≤ g5 := Nat.le_trans bl0.size hg5
  have nDm5 : ¬ DD g5 := fun q => by have := hdL _ q; have := bl0.size; omega
  have nXm5 : ¬ (g5 = x ∨ g5 = h ∨ g5 = c) := by have := bl0.size; omega
  clear hdL hxL
  show Code.wp _ _ _ _ _
  refine wp_seq ?_
  refine wp_seq ?_
  refine wr_a [.eq (.pointer (some ⟨g5, 0, none⟩)), .eq (.int .i64 o.k)] (by rw [sd.1]; kernel_rfl) ⟨fun hw ac u K => ?_, fun hw ac u K => ?_, trivial⟩ ?_
  · exact st_field 32 0 (.tmp 5) rfl (K.t x5 rfl) (by kernel_rfl)
  · exact st_loadc 3 (.tmp 15) rfl (by kernel_rfl) (K.dep 0 15 rfl) (Ob.cell (Ob.below m5 K.grow) 0 rfl)
  intro f2 w2 A hb
  replace x0 := A.t x0 rfl
  replace x1 := A.t x1 rfl
  replace x5 := A.t x5 rfl
  have x16 := A.e 1 16 rfl rfl
  replace m5 := Ob.below m5 hb
  replace hd := HD.below hd hb
  replace hx := HX.below hx hb
  replace bl := (Fr.grow bl hb)
  replace sd := A.sd sd
  clear A hb
  show Code.wp _ _ _ _ _
  refine wp_block ?_
  refine wp_seq ?_
  refine wr_a [.eq (.bool false), .eq (.bool false)] (by rw [sd.1]; kernel_rfl) ⟨fun hw ac u K => ?_, fun hw ac u K => ?_, trivial⟩ ?_
  · exact st_eqi 3 (.tmp 16) (.const (.int .i64 1)) rfl .i64 (o.k) (1) (K.t x16 rfl) rfl _ (by symm; rw [decide_eq_false_iff_not]; exact hk1)
  · exact st_assign (.tmp 18) rfl (K.dep 0 18 rfl)
  intro f3 w3 A hb
  replace x0 := A.t x0 rfl
  replace x1 := A.t x1 rfl
  replace x5 := A.t x5 rfl
  replace x16 := A.t x16 rfl
  have x17 := A.e 1 17 rfl rfl
  replace m5 := Ob.below m5 hb
  replace hd := HD.below hd hb
  replace hx := HX.below hx hb
  replace bl := (Fr.grow bl hb)
  replace sd := A.sd sd
  clear A hb
  show Code.wp _ _ _ _ _
  refine wp_cond_false x17 ?_
  refine wp_seq ?_
  refine wr_a [.eq (.bool false), .eq (.bool false)] (by rw [sd.1]; kernel_rfl) ⟨fun hw ac u K => ?_, fun hw ac u K => ?_, trivial⟩ ?_
  · exact st_eqi 3 (.tmp 16) (.const (.int .i64 2)) rfl .i64 (o.k) (2) (K.t x16 rfl) rfl _ (by symm; rw [decide_eq_false_iff_not]; exact hk2)
  · exact st_assign (.tmp 49) rfl (K.dep 0 49 rfl)
  intro f4 w4 A hb
  replace x0 := A.t x0 rfl
  replace x1 := A.t x1 rfl
  replace x5 := A.t x5 rfl
  replace x16 := A.t x16 rfl
  replace x17 := A.t x17 rfl
  have x48 := A.e 1 48 rfl rfl
  replace m5 := Ob.below m5 hb
  replace hd := HD.below hd hb
  replace hx := HX.below hx hb
  replace bl := (Fr.grow bl hb)
  replace sd := A.sd sd
  clear A hb
  clear x17
  show Code.wp _ _ _ _ _
  refine wp_cond_false x48 ?_
  refine wp_seq ?_
  refine wr_a [.eq (.bool false), .eq (.bool false)] (by rw [sd.1]; kernel_rfl) ⟨fun hw ac u K => ?_, fun hw ac u K => ?_, trivial⟩ ?_
  · exact st_eqi 3 (.tmp 16) (.const (.int .i64 3)) rfl .i64 (o.k) (3) (K.t x16 rfl) rfl _ (by symm; rw [decide_eq_false_iff_not]; exact hk3)
  · exact st_assign (.tmp 56) rfl (K.dep 0 56 rfl)
  intro f5 w5 A hb
  replace x0 := A.t x0 rfl
  replace x1 := A.t x1 rfl
  replace x5 := A.t x5 rfl
  replace x16 := A.t x16 rfl
  replace x48 := A.t x48 rfl
  have x55 := A.e 1 55 rfl rfl
  replace m5 := Ob.below m5 hb
  replace hd := HD.below hd hb
  replace hx := HX.below hx hb
  replace bl := (Fr.grow bl hb)
  replace sd := A.sd sd
  clear A hb
  clear x48
  show Code.wp _ _ _ _ _
  refine wp_cond_false x55 ?_
  refine wp_seq ?_
  refine wr_a [.eq (.bool false), .eq (.bool false)] (by rw [sd.1]; kernel_rfl) ⟨fun hw ac u K => ?_, fun hw ac u K => ?_, trivial⟩ ?_
  · exact st_eqi 3 (.tmp 16) (.const (.int .i64 4)) rfl .i64 (o.k) (4) (K.t x16 rfl) rfl _ (by symm; rw [decide_eq_false_iff_not]; exact hk4)
  · exact st_assign (.tmp 120) rfl (K.dep 0 120 rfl)
  intro f6 w6 A hb
  replace x0 := A.t x0 rfl
  replace x1 := A.t x1 rfl
  replace x5 := A.t x5 rfl
  replace x16 := A.t x16 rfl
  replace x55 := A.t x55 rfl
  have x119 := A.e 1 119 rfl rfl
  replace m5 := Ob.below m5 hb
  replace hd := HD.below hd hb
  replace hx := HX.below hx hb
  replace bl := (Fr.grow bl hb)
  replace sd := A.sd sd
  clear A hb
  clear x55
  show Code.wp _ _ _ _ _
  refine wp_cond_false x119 ?_
  refine wp_seq ?_
  refine wr_a [.eq (.bool true), .eq (.bool true)] (by rw [sd.1]; kernel_rfl) ⟨fun hw ac u K => ?_, fun hw ac u K => ?_, trivial⟩ ?_
  · exact st_eqi 3 (.tmp 16) (.const (.int .i64 5)) rfl .i64 (o.k) (5) (K.t x16 rfl) rfl _ (by symm; rw [decide_eq_true_iff]; exact hk)
  · exact st_assign (.tmp 137) rfl (K.dep 0 137 rfl)
  intro f7 w7 A hb
  replace x0 := A.t x0 rfl
  replace x1 := A.t x1 rfl
  replace x5 := A.t x5 rfl
  replace x16 := A.t x16 rfl
  replace x119 := A.t x119 rfl
  have x136 := A.e 1 136 rfl rfl
  replace m5 := Ob.below m5 hb
  replace hd := HD.below hd hb
  replace hx := HX.below hx hb
  replace bl := (Fr.grow bl hb)
  replace sd := A.sd sd
  clear A hb
  clear x119
  show Code.wp _ _ _ _ _
  refine wp_cond_true x136 ?_
  refine wp_seq ?_
  refine wr_s [.eq (.pointer (some ⟨gd, 0, none⟩)), .eq (.pointer (some ⟨g5, 4, none⟩)), .eq (o.vl)] (by rw [sd.1]; kernel_rfl) ⟨fun hw ac u K => ?_, fun hw ac u K => ?_, fun hw ac u K => ?_, trivial⟩ ?_
  · exact st_move (.tmp 0) rfl (K.t x0 rfl)
  · exact st_field 32 4 (.tmp 5) rfl (K.t x5 rfl) (by kernel_rfl)
  · exact st_loadc 30 (.tmp 139) rfl (by kernel_rfl) (K.dep 1 139 rfl) (Ob.cell (Ob.below m5 K.grow) 4 rfl)
  intro f8 w8 A hb
  replace x0 := A.t x0 rfl
  replace x1 := A.t x1 rfl
  replace x5 := A.t x5 rfl
  replace x16 := A.t x16 rfl
  replace x136 := A.t x136 rfl
  have x138 := A.e 0 138 rfl rfl
  have x140 := A.e 2 140 rfl rfl
  replace m5 := Ob.below m5 hb
  replace hd := HD.below hd hb
  replace hx := HX.below hx hb
  replace bl := (Fr.grow bl hb)
  replace sd := A.sd sd
  clear A hb
  clear x0
  clear x16
  clear x136
  refine wl_call 14 (.func 14) _ _ #[.pointer (some ⟨gd, 0, none⟩), o.vl] rfl 141 rfl (by rw [sd.1]; decide) rfl rfl (two_arg x138 x140) Try.enter14 (fun u W' => ∃ D2 : Nat → Prop, u = .tuple #[] ∧ HD W' gd M D2 (crs s o.ls) ∧ (∀ j, D2 j → DD j ∨ w8.heap.size ≤ j) ∧ Fr M w8 W') ((fk_dcrash hd h60 (hlF bl) hlw h40).mono (by rintro e w' ⟨D2, rfl, q⟩; exact ⟨_, rfl, D2, rfl, q⟩)) ?_
  rintro f9 w9 df2 sz2 old2 ⟨D2, x141, hd2, hD2, O⟩
  have OM := O
  replace O := O.mono hd.sub
  replace x1 := tr old2 x1 rfl
  replace x5 := tr old2 x5 rfl
  replace x138 := tr old2 x138 rfl
  replace x140 := tr old2 x140 rfl
  have lt9 := Ob.lt m5
  replace m5 := O.ob m5 nDm5
  replace nDm5 : ¬ D2 g5 := fun q => (hD2 _ q).elim nDm5 (fun q => by omega)
  clear lt9
  have hxL := hx.lt
  replace hx := hx.keep (O.block _ hxL.1 hxD.1) (O.block _ hxL.2.1 hxD.2.1) (O.block _ hxL.2.2 hxD.2.2)
  replace hxD : ¬ D2 x ∧ ¬ D2 h ∧ ¬ D2 c := ⟨fun q => (hD2 _ q).elim hxD.1 (fun q => by omega), fun q => (hD2 _ q).elim hxD.2.1 (fun q => by omega), fun q => (hD2 _ q).elim hxD.2.2 (fun q => by omega)⟩
  have bl9 := bl.next OM (fun j q => .inl (.inl q))
  replace hDD : ∀ j, D2 j → D j ∨ w.heap.size ≤ j := fun j q => (hD2 j q).elim (hDD j) (fun q => .inr (Nat.le_trans bl.size q))
  replace bl := bl9
  replace bl0 := bl
  replace hd := hd2
  replace sd := sd2 sz2 df2 sd
  clear df2 sz2 old2 O OM hD2 hd2 hxL bl9
  clear DD
  obtain ⟨DD, rfl⟩ : ∃ E, E = D2 := ⟨_, rfl⟩
  refine wpList_nil ?_
  clear x138
  clear x140
  clear x141
  show Code.wp _ _ _ _ _
  refine wr_s [.eq (.pointer (some ⟨x, 0, none⟩)), .eq (.pointer (some ⟨g5, 4, none⟩)), .eq (o.vl)] (by rw [sd.1]; kernel_rfl) ⟨fun hw ac u K => ?_, fun hw ac u K => ?_, fun hw ac u K => ?_, trivial⟩ ?_
  · exact st_move (.tmp 1) rfl (K.t x1 rfl)
  · exact st_field 32 4 (.tmp 5) rfl (K.t x5 rfl) (by kernel_rfl)
  · exact st_loadc 30 (.tmp 143) rfl (by kernel_rfl) (K.dep 1 143 rfl) (Ob.cell (Ob.below m5 K.grow) 4 rfl)
  intro f10 w10 A hb
  replace x1 := A.t x1 rfl
  replace x5 := A.t x5 rfl
  have x142 := A.e 0 142 rfl rfl
  have x144 := A.e 2 144 rfl rfl
  replace m5 := Ob.below m5 hb
  replace hd := HD.below hd hb
  replace hx := HX.below hx hb
  replace bl := (Fr.grow bl hb)
  replace sd := A.sd sd
  clear A hb
  clear x1
  clear x5
  refine wl_call 15 (.func 15) _ _ #[.pointer (some ⟨x, 0, none⟩), o.vl] rfl 145 rfl (by rw [sd.1]; decide) rfl rfl (two_arg x142 x144) Try.enter15 (fun u W' => u = .tuple #[] ∧ HX W' x h c (crs t o.ls) ∧ Fr (fun j => j = x ∨ j = h ∨ j = c) w10 W') ((ref_crash hx (fun q => hlF (bl.next q (fun j hj => .inl (.inr hj)))) t60 h40).mono (by rintro e w' ⟨rfl, q⟩; exact ⟨_, rfl, rfl, q⟩)) ?_
  rintro f11 w11 df2 sz2 old2 ⟨x145, hx2, O⟩
  replace x142 := tr old2 x142 rfl
  replace x144 := tr old2 x144 rfl
  clear m5
  replace hd := hd.keep (fun j hj => O.block j (hd.lt j hj) (fun q => q.elim (fun e => hxD.1 (e ▸ hj)) (fun q => q.elim (fun e => hxD.2.1 (e ▸ hj)) (fun e => hxD.2.2 (e ▸ hj))))) O.size
  replace bl := bl.next O (fun j hj => .inl (.inr hj))
  replace bl0 := bl
  replace hx := hx2
  replace sd := sd2 sz2 df2 sd
  clear df2 sz2 old2 O hx2
  refine wpList_nil ?_
  clear x142
  clear x144
  clear x145
  show Code.wp _ _ _ _ _
  refine wp_seq ?_
  refine wr_a [.eq (.bool true)] (by rw [sd.1]; kernel_rfl) ⟨fun hw ac u K => ?_, trivial⟩ ?_
  · exact st_assign (.const (.bool true)) rfl rfl
  intro f12 w12 A hb
  have x6 := A.e 0 6 rfl rfl
  replace hd := HD.below hd hb
  replace hx := HX.below hx hb
  replace bl := (Fr.grow bl hb)
  replace sd := A.sd sd
  clear A hb
  show Code.wp _ _ _ _ _
  refine wp_ret ?_
  repeat (first | with_reducible refine then_ret ?_ | with_reducible refine block_ret ?_)
  have e8 : stepD s o = crs s o.ls := by unfold stepD; rw [if_neg hk1, if_neg hk2, if_neg hk4, if_pos hk]
  have e9 : stepD t o = crs t o.ls := by unfold stepD; rw [if_neg hk1, if_neg hk2, if_neg hk4, if_pos hk]
  exact bodyPost_ret (v := .bool true) (ret_slot rfl f12 _ x6 _ _) sd.2 ⟨DD, true, rfl, fun _ => rfl, by rw [e8]; exact hd, by rw [e9]; exact hx, hxD, hDD, bl⟩
theorem stq6 {w : World} {gd x h c : Nat} {M D : Nat → Prop} {s t : Dst} (hd : HD w gd M D s) (hx : HX w x h c t) (hxD : ¬ D x ∧ ¬ D h ∧ ¬ D c) (_hs : s.done ≤ 1000000) (_ht : t.done ≤ 1000000) (h60 : s.has.length ≤ 100000) (_t60 : t.has.length ≤ 100000) {o : Opn} (hbF : ∀ {W : World}, Fr (fun j => M j ∨ j = x ∨ j = h ∨ j = c) w W → (Fk.sl o.bs).f o.vb W) (_hlF : ∀ {W : World}, Fr (fun j => M j ∨ j = x ∨ j = h ∨ j = c) w W → (Fk.is o.ls).f o.vl W) (hk1 : o.k ≠ 1) (hk2 : o.k ≠ 2) (hk3 : o.k ≠ 3) (hk4 : o.k ≠ 4) (hk5 : o.k ≠ 5) (hk : o.k = 6) :
    Calls Try.prog 12 #[.pointer (some ⟨gd, 0, none⟩), .pointer (some ⟨x, 0, none⟩), o.val] w fun e w' => ∃ (DD : Nat → Prop) (r : Bool), e = .returned (.bool r) ∧ (s = t → r = true) ∧ HD w' gd M DD (stepD s o) ∧ HX w' x h c (stepD t o) ∧ (¬ DD x ∧ ¬ DD h ∧ ¬ DD c) ∧ (∀ j, DD j → D j ∨ w.heap.size ≤ j) ∧ Fr (fun j => M j ∨ j = x ∨ j = h ∨ j = c) w w' := by
  obtain ⟨DD, hDe⟩ : ∃ E, E = D := ⟨_, rfl⟩
  rw [← hDe] at hd hxD
  have hDD : ∀ j, DD j → D j ∨ w.heap.size ≤ j := fun j q => .inl (hDe ▸ q)
  clear hDe
  have hdL := hd.lt
  have hxL := hx.lt
  go_enter Try.func12, Try.ntmps12
  refine code_both (fun f w1 => f.tmps.size = 161 ∧ f.defers = [] ∧ f.eval (.tmp 0) = .pointer (some ⟨gd, 0, none⟩) ∧ f.eval (.tmp 1) = .pointer (some ⟨x, 0, none⟩) ∧ f.eval (.tmp 2) = .agg ([.int .i64 o.k, .int .i64 o.s, .int .i64 o.n, o.vb, o.vl] : List Value).toArray ∧ HD w1 gd M DD s ∧ HX w1 x h c t ∧ Fr (fun j => M j ∨ j = x ∨ j = h ∨ j = c) w (w1)) ⟨rfl, rfl, rfl, rfl, rfl, hd, hx, Fr.refl _ _⟩ ?_
  clear hd hx
  rintro f0 w0 ⟨sz, df, x0, x1, x2, hd, hx, bl⟩
  have sd := And.intro sz df
  clear sz df
  have bl0 := bl
  refine wp_seq ?_
  refine wr_a [.nw w0.heap.size 32 ([.int .i64 o.k, .int .i64 o.s, .int .i64 o.n, o.vb, o.vl] : List Value), .eq (.bool false)] (by rw [sd.1]; kernel_rfl) ⟨fun hw ac u K => ?_, fun hw ac u K => ?_, trivial⟩ ?_
  · exact st_box 32 (.tmp 2) rfl _ _ (by rw [show _ = _ from (K.t x2 rfl)]; kernel_rfl) K.grow.size
  · exact st_assign (.const (.bool false)) rfl rfl
  intro f1 w1 A hb
  replace bl0 := bl
  replace x0 := A.t x0 rfl
  replace x1 := A.t x1 rfl
  replace x2 := A.t x2 rfl
  have x5 : Fk.f (.nw w0.heap.size 32 ([.int .i64 o.k, .int .i64 o.s, .int .i64 o.n, o.vb, o.vl] : List Value)) (f1.eval (.tmp 5)) w1 := A.has 0 5 rfl
  replace hd := HD.below hd hb
  replace hx := HX.below hx hb
  replace bl := (Fr.grow bl hb)
  replace sd := A.sd sd
  clear A hb
  clear x2
  obtain ⟨g5, hg5, e5, m5⟩ := x5
  have x5 := e5
  clear e5
  have hw5 : w.heap.size ≤ g5 := Nat.le_trans bl0.size hg5
  have nDm5 : ¬ DD g5 := fun q => by have := hdL _ q; have := bl0.size; omega
  have nXm5 : ¬ (g5 = x ∨ g5 = h ∨ g5 = c) := by have := bl0.size; omega
  clear hdL hxL
  show Code.wp _ _ _ _ _
  refine wp_seq ?_
  refine wp_seq ?_
  refine wr_a [.eq (.pointer (some ⟨g5, 0, none⟩)), .eq (.int .i64 o.k)] (by rw [sd.1]; kernel_rfl) ⟨fun hw ac u K => ?_, fun hw ac u K => ?_, trivial⟩ ?_
  · exact st_field 32 0 (.tmp 5) rfl (K.t x5 rfl) (by kernel_rfl)
  · exact st_loadc 3 (.tmp 15) rfl (by kernel_rfl) (K.dep 0 15 rfl) (Ob.cell (Ob.below m5 K.grow) 0 rfl)
  intro f2 w2 A hb
  replace x0 := A.t x0 rfl
  replace x1 := A.t x1 rfl
  replace x5 := A.t x5 rfl
  have x16 := A.e 1 16 rfl rfl
  replace m5 := Ob.below m5 hb
  replace hd := HD.below hd hb
  replace hx := HX.below hx hb
  replace bl := (Fr.grow bl hb)
  replace sd := A.sd sd
  clear A hb
  show Code.wp _ _ _ _ _
  refine wp_block ?_
  refine wp_seq ?_
  refine wr_a [.eq (.bool false), .eq (.bool false)] (by rw [sd.1]; kernel_rfl) ⟨fun hw ac u K => ?_, fun hw ac u K => ?_, trivial⟩ ?_
  · exact st_eqi 3 (.tmp 16) (.const (.int .i64 1)) rfl .i64 (o.k) (1) (K.t x16 rfl) rfl _ (by symm; rw [decide_eq_false_iff_not]; exact hk1)
  · exact st_assign (.tmp 18) rfl (K.dep 0 18 rfl)
  intro f3 w3 A hb
  replace x0 := A.t x0 rfl
  replace x1 := A.t x1 rfl
  replace x5 := A.t x5 rfl
  replace x16 := A.t x16 rfl
  have x17 := A.e 1 17 rfl rfl
  replace m5 := Ob.below m5 hb
  replace hd := HD.below hd hb
  replace hx := HX.below hx hb
  replace bl := (Fr.grow bl hb)
  replace sd := A.sd sd
  clear A hb
  show Code.wp _ _ _ _ _
  refine wp_cond_false x17 ?_
  refine wp_seq ?_
  refine wr_a [.eq (.bool false), .eq (.bool false)] (by rw [sd.1]; kernel_rfl) ⟨fun hw ac u K => ?_, fun hw ac u K => ?_, trivial⟩ ?_
  · exact st_eqi 3 (.tmp 16) (.const (.int .i64 2)) rfl .i64 (o.k) (2) (K.t x16 rfl) rfl _ (by symm; rw [decide_eq_false_iff_not]; exact hk2)
  · exact st_assign (.tmp 49) rfl (K.dep 0 49 rfl)
  intro f4 w4 A hb
  replace x0 := A.t x0 rfl
  replace x1 := A.t x1 rfl
  replace x5 := A.t x5 rfl
  replace x16 := A.t x16 rfl
  replace x17 := A.t x17 rfl
  have x48 := A.e 1 48 rfl rfl
  replace m5 := Ob.below m5 hb
  replace hd := HD.below hd hb
  replace hx := HX.below hx hb
  replace bl := (Fr.grow bl hb)
  replace sd := A.sd sd
  clear A hb
  clear x17
  show Code.wp _ _ _ _ _
  refine wp_cond_false x48 ?_
  refine wp_seq ?_
  refine wr_a [.eq (.bool false), .eq (.bool false)] (by rw [sd.1]; kernel_rfl) ⟨fun hw ac u K => ?_, fun hw ac u K => ?_, trivial⟩ ?_
  · exact st_eqi 3 (.tmp 16) (.const (.int .i64 3)) rfl .i64 (o.k) (3) (K.t x16 rfl) rfl _ (by symm; rw [decide_eq_false_iff_not]; exact hk3)
  · exact st_assign (.tmp 56) rfl (K.dep 0 56 rfl)
  intro f5 w5 A hb
  replace x0 := A.t x0 rfl
  replace x1 := A.t x1 rfl
  replace x5 := A.t x5 rfl
  replace x16 := A.t x16 rfl
  replace x48 := A.t x48 rfl
  have x55 := A.e 1 55 rfl rfl
  replace m5 := Ob.below m5 hb
  replace hd := HD.below hd hb
  replace hx := HX.below hx hb
  replace bl := (Fr.grow bl hb)
  replace sd := A.sd sd
  clear A hb
  clear x48
  show Code.wp _ _ _ _ _
  refine wp_cond_false x55 ?_
  refine wp_seq ?_
  refine wr_a [.eq (.bool false), .eq (.bool false)] (by rw [sd.1]; kernel_rfl) ⟨fun hw ac u K => ?_, fun hw ac u K => ?_, trivial⟩ ?_
  · exact st_eqi 3 (.tmp 16) (.const (.int .i64 4)) rfl .i64 (o.k) (4) (K.t x16 rfl) rfl _ (by symm; rw [decide_eq_false_iff_not]; exact hk4)
  · exact st_assign (.tmp 120) rfl (K.dep 0 120 rfl)
  intro f6 w6 A hb
  replace x0 := A.t x0 rfl
  replace x1 := A.t x1 rfl
  replace x5 := A.t x5 rfl
  replace x16 := A.t x16 rfl
  replace x55 := A.t x55 rfl
  have x119 := A.e 1 119 rfl rfl
  replace m5 := Ob.below m5 hb
  replace hd := HD.below hd hb
  replace hx := HX.below hx hb
  replace bl := (Fr.grow bl hb)
  replace sd := A.sd sd
  clear A hb
  clear x55
  show Code.wp _ _ _ _ _
  refine wp_cond_false x119 ?_
  refine wp_seq ?_
  refine wr_a [.eq (.bool false), .eq (.bool false)] (by rw [sd.1]; kernel_rfl) ⟨fun hw ac u K => ?_, fun hw ac u K => ?_, trivial⟩ ?_
  · exact st_eqi 3 (.tmp 16) (.const (.int .i64 5)) rfl .i64 (o.k) (5) (K.t x16 rfl) rfl _ (by symm; rw [decide_eq_false_iff_not]; exact hk5)
  · exact st_assign (.tmp 137) rfl (K.dep 0 137 rfl)
  intro f7 w7 A hb
  replace x0 := A.t x0 rfl
  replace x1 := A.t x1 rfl
  replace x5 := A.t x5 rfl
  replace x16 := A.t x16 rfl
  replace x119 := A.t x119 rfl
  have x136 := A.e 1 136 rfl rfl
  replace m5 := Ob.below m5 hb
  replace hd := HD.below hd hb
  replace hx := HX.below hx hb
  replace bl := (Fr.grow bl hb)
  replace sd := A.sd sd
  clear A hb
  clear x119
  show Code.wp _ _ _ _ _
  refine wp_cond_false x136 ?_
  refine wp_seq ?_
  refine wr_a [.eq (.bool true), .eq (.bool true)] (by rw [sd.1]; kernel_rfl) ⟨fun hw ac u K => ?_, fun hw ac u K => ?_, trivial⟩ ?_
  · exact st_eqi 3 (.tmp 16) (.const (.int .i64 6)) rfl .i64 (o.k) (6) (K.t x16 rfl) rfl _ (by symm; rw [decide_eq_true_iff]; exact hk)
  · exact st_assign (.tmp 147) rfl (K.dep 0 147 rfl)
  intro f8 w8 A hb
  replace x0 := A.t x0 rfl
  replace x1 := A.t x1 rfl
  replace x5 := A.t x5 rfl
  replace x16 := A.t x16 rfl
  replace x136 := A.t x136 rfl
  have x146 := A.e 1 146 rfl rfl
  replace m5 := Ob.below m5 hb
  replace hd := HD.below hd hb
  replace hx := HX.below hx hb
  replace bl := (Fr.grow bl hb)
  replace sd := A.sd sd
  clear A hb
  clear x16
  clear x136
  show Code.wp _ _ _ _ _
  refine wp_cond_true x146 ?_
  refine wp_seq ?_
  have hb : Below w8.heap.size w8 w8.drew := (Below.refl _ _).drew
  refine wp_region_held_drew (S := fun W => Ob W g5 32 ([.int .i64 o.k, .int .i64 o.s, .int .i64 o.n, o.vb, o.vl])) Try.mixed (Ob.below m5 hb) (fun hS => ?_)
  replace hd := HD.below hd hb
  replace hx := HX.below hx hb
  replace bl := Fr.grow bl hb
  replace bl0 := bl
  clear hb m5
  generalize w8.drew = w9 at hd hx bl hS ⊢
  refine wh_take 0 148 (v := .pointer (some ⟨gd, 0, none⟩)) rfl rfl (by rw [sd.1]; decide) rfl (by kernel_rfl) (by kernel_rfl) (by kernel_rfl) (fun _ _ _ h => h) (run_mv rfl x0) hS ?_
  intro f10 df2 sz2 old2 new2
  replace x0 := tr old2 x0 rfl
  replace x1 := tr old2 x1 rfl
  replace x5 := tr old2 x5 rfl
  replace x146 := tr old2 x146 rfl
  have x148 := new2
  replace sd := sd2 sz2 df2 sd
  clear df2 sz2 old2 new2
  refine wh_take 1 149 (v := .pointer (some ⟨g5, 1, none⟩)) rfl rfl (by rw [sd.1]; decide) rfl (by kernel_rfl) (by kernel_rfl) (by kernel_rfl) (fun _ _ _ h => h) (run_field rfl x5 (fun w => by kernel_rfl)) hS ?_
  intro f11 df2 sz2 old2 new2
  replace x0 := tr old2 x0 rfl
  replace x1 := tr old2 x1 rfl
  replace x5 := tr old2 x5 rfl
  replace x146 := tr old2 x146 rfl
  replace x148 := tr old2 x148 rfl
  have x149 := new2
  replace sd := sd2 sz2 df2 sd
  clear df2 sz2 old2 new2
  refine wh_take 2 150 (v := .int .i64 o.s) rfl rfl (by rw [sd.1]; decide) rfl (by kernel_rfl) (by kernel_rfl) (by kernel_rfl) (fun _ _ _ h => h) (run_loadc rfl (fun w => by kernel_rfl) x149 (fun W hW => Ob.cell hW 1 rfl)) hS ?_
  intro f12 df2 sz2 old2 new2
  replace x0 := tr old2 x0 rfl
  replace x1 := tr old2 x1 rfl
  replace x5 := tr old2 x5 rfl
  replace x146 := tr old2 x146 rfl
  replace x148 := tr old2 x148 rfl
  replace x149 := tr old2 x149 rfl
  have x150 := new2
  replace sd := sd2 sz2 df2 sd
  clear df2 sz2 old2 new2
  refine wh_take 3 151 (v := .pointer (some ⟨g5, 3, none⟩)) rfl rfl (by rw [sd.1]; decide) rfl (by kernel_rfl) (by kernel_rfl) (by kernel_rfl) (fun _ _ _ h => h) (run_field rfl x5 (fun w => by kernel_rfl)) hS ?_
  intro f13 df2 sz2 old2 new2
  replace x0 := tr old2 x0 rfl
  replace x1 := tr old2 x1 rfl
  replace x5 := tr old2 x5 rfl
  replace x146 := tr old2 x146 rfl
  replace x148 := tr old2 x148 rfl
  replace x149 := tr old2 x149 rfl
  replace x150 := tr old2 x150 rfl
  have x151 := new2
  replace sd := sd2 sz2 df2 sd
  clear df2 sz2 old2 new2
  refine wh_take 4 152 (v := o.vb) rfl rfl (by rw [sd.1]; decide) rfl (by kernel_rfl) (by kernel_rfl) (by kernel_rfl) (fun _ _ _ h => h) (run_loadc rfl (fun w => by kernel_rfl) x151 (fun W hW => Ob.cell hW 3 rfl)) hS ?_
  intro f14 df2 sz2 old2 new2
  replace x0 := tr old2 x0 rfl
  replace x1 := tr old2 x1 rfl
  replace x5 := tr old2 x5 rfl
  replace x146 := tr old2 x146 rfl
  replace x148 := tr old2 x148 rfl
  replace x149 := tr old2 x149 rfl
  replace x150 := tr old2 x150 rfl
  replace x151 := tr old2 x151 rfl
  have x152 := new2
  replace sd := sd2 sz2 df2 sd
  clear df2 sz2 old2 new2
  refine wh_take 6 154 (v := .pointer (some ⟨x, 0, none⟩)) rfl rfl (by rw [sd.1]; decide) rfl (by kernel_rfl) (by kernel_rfl) (by kernel_rfl) (fun _ _ _ h => h) (run_mv rfl x1) hS ?_
  intro f15 df2 sz2 old2 new2
  replace x0 := tr old2 x0 rfl
  replace x1 := tr old2 x1 rfl
  replace x5 := tr old2 x5 rfl
  replace x146 := tr old2 x146 rfl
  replace x148 := tr old2 x148 rfl
  replace x149 := tr old2 x149 rfl
  replace x150 := tr old2 x150 rfl
  replace x151 := tr old2 x151 rfl
  replace x152 := tr old2 x152 rfl
  have x154 := new2
  replace sd := sd2 sz2 df2 sd
  clear df2 sz2 old2 new2
  refine wh_take 7 155 (v := .pointer (some ⟨g5, 1, none⟩)) rfl rfl (by rw [sd.1]; decide) rfl (by kernel_rfl) (by kernel_rfl) (by kernel_rfl) (fun _ _ _ h => h) (run_field rfl x5 (fun w => by kernel_rfl)) hS ?_
  intro f16 df2 sz2 old2 new2
  replace x0 := tr old2 x0 rfl
  replace x1 := tr old2 x1 rfl
  replace x5 := tr old2 x5 rfl
  replace x146 := tr old2 x146 rfl
  replace x148 := tr old2 x148 rfl
  replace x149 := tr old2 x149 rfl
  replace x150 := tr old2 x150 rfl
  replace x151 := tr old2 x151 rfl
  replace x152 := tr old2 x152 rfl
  replace x154 := tr old2 x154 rfl
  have x155 := new2
  replace sd := sd2 sz2 df2 sd
  clear df2 sz2 old2 new2
  refine wh_take 8 156 (v := .int .i64 o.s) rfl rfl (by rw [sd.1]; decide) rfl (by kernel_rfl) (by kernel_rfl) (by kernel_rfl) (fun _ _ _ h => h) (run_loadc rfl (fun w => by kernel_rfl) x155 (fun W hW => Ob.cell hW 1 rfl)) hS ?_
  intro f17 df2 sz2 old2 new2
  replace x0 := tr old2 x0 rfl
  replace x1 := tr old2 x1 rfl
  replace x5 := tr old2 x5 rfl
  replace x146 := tr old2 x146 rfl
  replace x148 := tr old2 x148 rfl
  replace x149 := tr old2 x149 rfl
  replace x150 := tr old2 x150 rfl
  replace x151 := tr old2 x151 rfl
  replace x152 := tr old2 x152 rfl
  replace x154 := tr old2 x154 rfl
  replace x155 := tr old2 x155 rfl
  have x156 := new2
  replace sd := sd2 sz2 df2 sd
  clear df2 sz2 old2 new2
  refine wh_take 9 157 (v := .pointer (some ⟨g5, 3, none⟩)) rfl rfl (by rw [sd.1]; decide) rfl (by kernel_rfl) (by kernel_rfl) (by kernel_rfl) (fun _ _ _ h => h) (run_field rfl x5 (fun w => by kernel_rfl)) hS ?_
  intro f18 df2 sz2 old2 new2
  replace x0 := tr old2 x0 rfl
  replace x1 := tr old2 x1 rfl
  replace x5 := tr old2 x5 rfl
  replace x146 := tr old2 x146 rfl
  replace x148 := tr old2 x148 rfl
  replace x149 := tr old2 x149 rfl
  replace x150 := tr old2 x150 rfl
  replace x151 := tr old2 x151 rfl
  replace x152 := tr old2 x152 rfl
  replace x154 := tr old2 x154 rfl
  replace x155 := tr old2 x155 rfl
  replace x156 := tr old2 x156 rfl
  have x157 := new2
  replace sd := sd2 sz2 df2 sd
  clear df2 sz2 old2 new2
  refine wh_take 10 158 (v := o.vb) rfl rfl (by rw [sd.1]; decide) rfl (by kernel_rfl) (by kernel_rfl) (by kernel_rfl) (fun _ _ _ h => h) (run_loadc rfl (fun w => by kernel_rfl) x157 (fun W hW => Ob.cell hW 3 rfl)) hS ?_
  intro f19 df2 sz2 old2 new2
  replace x0 := tr old2 x0 rfl
  replace x1 := tr old2 x1 rfl
  replace x5 := tr old2 x5 rfl
  replace x146 := tr old2 x146 rfl
  replace x148 := tr old2 x148 rfl
  replace x149 := tr old2 x149 rfl
  replace x150 := tr old2 x150 rfl
  replace x151 := tr old2 x151 rfl
  replace x152 := tr old2 x152 rfl
  replace x154 := tr old2 x154 rfl
  replace x155 := tr old2 x155 rfl
  replace x156 := tr old2 x156 rfl
  replace x157 := tr old2 x157 rfl
  have x158 := new2
  replace sd := sd2 sz2 df2 sd
  clear df2 sz2 old2 new2
  refine wh_call 5 153 rfl rfl (by rw [sd.1]; decide) rfl (by kernel_rfl) 26 (.func 26) _ _ #[.pointer (some ⟨gd, 0, none⟩), .int .i64 o.s, o.vb] rfl rfl (three_arg x148 x150 x152) Try.enter26 (fun u W' => ∃ D2 : Nat → Prop, u = .int .i64 (tmr s o.s o.bs).1 ∧ HD W' gd M D2 ((tmr s o.s o.bs).2) ∧ (∀ j, D2 j → DD j ∨ w9.heap.size ≤ j) ∧ Fr M w9 W') ((fk_dtamper hd h60 o.s (hbF bl)).mono (by rintro e w' ⟨D2, rfl, q⟩; exact ⟨_, rfl, D2, rfl, q⟩)) ?_
  rintro f20 w20 df2 sz2 old2 ⟨D2, x153, hd2, hD2, O⟩
  have OM := O
  replace O := O.mono hd.sub
  have lt9 := Ob.lt hS
  have hS2 := O.ob hS nDm5
  refine ⟨hS2, ?_⟩
  replace nDm5 : ¬ D2 g5 := fun q => (hD2 _ q).elim nDm5 (fun q => by omega)
  have hxL := hx.lt
  replace hx := hx.keep (O.block _ hxL.1 hxD.1) (O.block _ hxL.2.1 hxD.2.1) (O.block _ hxL.2.2 hxD.2.2)
  replace hxD : ¬ D2 x ∧ ¬ D2 h ∧ ¬ D2 c := ⟨fun q => (hD2 _ q).elim hxD.1 (fun q => by omega), fun q => (hD2 _ q).elim hxD.2.1 (fun q => by omega), fun q => (hD2 _ q).elim hxD.2.2 (fun q => by omega)⟩
  have bl9 := bl.next OM (fun j q => .inl (.inl q))
  replace hDD : ∀ j, D2 j → D j ∨ w.heap.size ≤ j := fun j q => (hD2 j q).elim (hDD j) (fun q => .inr (Nat.le_trans bl.size q))
  replace bl := bl9
  replace hd := hd2
  replace hS := hS2
  replace x0 := tr old2 x0 rfl
  replace x1 := tr old2 x1 rfl
  replace x5 := tr old2 x5 rfl
  replace x146 := tr old2 x146 rfl
  replace x148 := tr old2 x148 rfl
  replace x149 := tr old2 x149 rfl
  replace x150 := tr old2 x150 rfl
  replace x151 := tr old2 x151 rfl
  replace x152 := tr old2 x152 rfl
  replace x154 := tr old2 x154 rfl
  replace x155 := tr old2 x155 rfl
  replace x156 := tr old2 x156 rfl
  replace x157 := tr old2 x157 rfl
  replace x158 := tr old2 x158 rfl
  replace sd := sd2 sz2 df2 sd
  clear df2 sz2 old2 O OM hD2 hd2 hxL bl9 hS2 lt9
  clear DD
  obtain ⟨DD, rfl⟩ : ∃ E, E = D2 := ⟨_, rfl⟩
  refine wh_call 11 159 rfl rfl (by rw [sd.1]; decide) rfl (by kernel_rfl) 32 (.func 32) _ _ #[.pointer (some ⟨x, 0, none⟩), .int .i64 o.s, o.vb] rfl rfl (three_arg x154 x156 x158) Try.enter32 (fun u W' => u = .int .i64 (tmr t o.s o.bs).1 ∧ HX W' x h c ((tmr t o.s o.bs).2) ∧ Fr (fun j => j = x ∨ j = h ∨ j = c) w20 W') ((ref_tamper hx o.s (fun q => hbF (bl.next q (fun j hj => .inl (.inr hj))))).mono (by rintro e w' ⟨rfl, q⟩; exact ⟨_, rfl, rfl, q⟩)) ?_
  rintro f21 w21 df2 sz2 old2 ⟨x159, hx2, O⟩
  have hS2 := O.ob hS nXm5
  refine ⟨hS2, ?_⟩
  replace hd := hd.keep (fun j hj => O.block j (hd.lt j hj) (fun q => q.elim (fun e => hxD.1 (e ▸ hj)) (fun q => q.elim (fun e => hxD.2.1 (e ▸ hj)) (fun e => hxD.2.2 (e ▸ hj))))) O.size
  replace bl := bl.next O (fun j hj => .inl (.inr hj))
  replace hx := hx2
  replace hS := hS2
  replace x0 := tr old2 x0 rfl
  replace x1 := tr old2 x1 rfl
  replace x5 := tr old2 x5 rfl
  replace x146 := tr old2 x146 rfl
  replace x148 := tr old2 x148 rfl
  replace x149 := tr old2 x149 rfl
  replace x150 := tr old2 x150 rfl
  replace x151 := tr old2 x151 rfl
  replace x152 := tr old2 x152 rfl
  replace x154 := tr old2 x154 rfl
  replace x155 := tr old2 x155 rfl
  replace x156 := tr old2 x156 rfl
  replace x157 := tr old2 x157 rfl
  replace x158 := tr old2 x158 rfl
  replace x153 := tr old2 x153 rfl
  replace sd := sd2 sz2 df2 sd
  clear df2 sz2 old2 O hx2 hS2
  refine wh_take 12 160 (v := .bool (decide ((tmr s o.s o.bs).1 = (tmr t o.s o.bs).1))) rfl rfl (by rw [sd.1]; decide) rfl (by kernel_rfl) (by kernel_rfl) (by kernel_rfl) (fun _ _ _ h => h) (run_eqi rfl x153 x159 _ rfl) hS ?_
  intro f22 df2 sz2 old2 new2
  replace x0 := tr old2 x0 rfl
  replace x1 := tr old2 x1 rfl
  replace x5 := tr old2 x5 rfl
  replace x146 := tr old2 x146 rfl
  replace x148 := tr old2 x148 rfl
  replace x149 := tr old2 x149 rfl
  replace x150 := tr old2 x150 rfl
  replace x151 := tr old2 x151 rfl
  replace x152 := tr old2 x152 rfl
  replace x154 := tr old2 x154 rfl
  replace x155 := tr old2 x155 rfl
  replace x156 := tr old2 x156 rfl
  replace x157 := tr old2 x157 rfl
  replace x158 := tr old2 x158 rfl
  replace x153 := tr old2 x153 rfl
  replace x159 := tr old2 x159 rfl
  have x160 := new2
  replace sd := sd2 sz2 df2 sd
  clear df2 sz2 old2 new2
  refine wh_assign 13 6 rfl rfl (by rw [sd.1]; decide) rfl (by kernel_rfl) (.tmp 160) rfl hS ?_
  intro f23 df2 sz2 old2 new2
  have x6 : f23.eval (.tmp 6) = .bool (decide ((tmr s o.s o.bs).1 = (tmr t o.s o.bs).1)) := new2.trans x160
  replace x0 := tr old2 x0 rfl
  replace x1 := tr old2 x1 rfl
  replace x5 := tr old2 x5 rfl
  replace x146 := tr old2 x146 rfl
  replace x148 := tr old2 x148 rfl
  replace x149 := tr old2 x149 rfl
  replace x150 := tr old2 x150 rfl
  replace x151 := tr old2 x151 rfl
  replace x152 := tr old2 x152 rfl
  replace x154 := tr old2 x154 rfl
  replace x155 := tr old2 x155 rfl
  replace x156 := tr old2 x156 rfl
  replace x157 := tr old2 x157 rfl
  replace x158 := tr old2 x158 rfl
  replace x153 := tr old2 x153 rfl
  replace x159 := tr old2 x159 rfl
  replace x160 := tr old2 x160 rfl
  replace sd := sd2 sz2 df2 sd
  clear df2 sz2 old2 new2
  refine wpAnyH_done (by kernel_rfl) ?_ _
  clear hS
  have bl0 := bl
  clear x0
  clear x1
  clear x5
  clear x146
  clear x148
  clear x149
  clear x150
  clear x151
  clear x152
  clear x154
  clear x155
  clear x156
  clear x157
  clear x158
  clear x153
  clear x159
  clear x160
  show Code.wp _ _ _ _ _
  refine wp_ret ?_
  repeat (first | with_reducible refine then_ret ?_ | with_reducible refine block_ret ?_)
  have e8 : stepD s o = (tmr s o.s o.bs).2 := by unfold stepD; rw [if_neg hk1, if_neg hk2, if_neg hk4, if_neg hk5, if_pos hk]
  have e9 : stepD t o = (tmr t o.s o.bs).2 := by unfold stepD; rw [if_neg hk1, if_neg hk2, if_neg hk4, if_neg hk5, if_pos hk]
  exact bodyPost_ret (v := .bool (decide ((tmr s o.s o.bs).1 = (tmr t o.s o.bs).1))) (ret_slot rfl f23 _ x6 _ _) sd.2 ⟨DD, (decide ((tmr s o.s o.bs).1 = (tmr t o.s o.bs).1)), rfl, fun e => by rw [e]; simp, by rw [e8]; exact hd, by rw [e9]; exact hx, hxD, hDD, bl⟩
theorem stq4 {w : World} {gd x h c : Nat} {M D : Nat → Prop} {s t : Dst} (hd : HD w gd M D s) (hx : HX w x h c t) (hxD : ¬ D x ∧ ¬ D h ∧ ¬ D c) (_hs : s.done ≤ 1000000) (_ht : t.done ≤ 1000000) (_h60 : s.has.length ≤ 100000) (_t60 : t.has.length ≤ 100000) {o : Opn} (_hbF : ∀ {W : World}, Fr (fun j => M j ∨ j = x ∨ j = h ∨ j = c) w W → (Fk.sl o.bs).f o.vb W) (_hlF : ∀ {W : World}, Fr (fun j => M j ∨ j = x ∨ j = h ∨ j = c) w W → (Fk.is o.ls).f o.vl W) (hon : o.n ≤ 9223372036854775807) (hk1 : o.k ≠ 1) (hk2 : o.k ≠ 2) (hk3 : o.k ≠ 3) (hk : o.k = 4) :
    Calls Try.prog 12 #[.pointer (some ⟨gd, 0, none⟩), .pointer (some ⟨x, 0, none⟩), o.val] w fun e w' => ∃ (DD : Nat → Prop) (r : Bool), e = .returned (.bool r) ∧ (s = t → r = true) ∧ HD w' gd M DD (stepD s o) ∧ HX w' x h c (stepD t o) ∧ (¬ DD x ∧ ¬ DD h ∧ ¬ DD c) ∧ (∀ j, DD j → D j ∨ w.heap.size ≤ j) ∧ Fr (fun j => M j ∨ j = x ∨ j = h ∨ j = c) w w' := by
  obtain ⟨DD, hDe⟩ : ∃ E, E = D := ⟨_, rfl⟩
  rw [← hDe] at hd hxD
  have hDD : ∀ j, DD j → D j ∨ w.heap.size ≤ j := fun j q => .inl (hDe ▸ q)
  clear hDe
  have hdL := hd.lt
  have hxL := hx.lt
  go_enter Try.func12, Try.ntmps12
  refine code_both (fun f w1 => f.tmps.size = 161 ∧ f.defers = [] ∧ f.eval (.tmp 0) = .pointer (some ⟨gd, 0, none⟩) ∧ f.eval (.tmp 1) = .pointer (some ⟨x, 0, none⟩) ∧ f.eval (.tmp 2) = .agg ([.int .i64 o.k, .int .i64 o.s, .int .i64 o.n, o.vb, o.vl] : List Value).toArray ∧ HD w1 gd M DD s ∧ HX w1 x h c t ∧ Fr (fun j => M j ∨ j = x ∨ j = h ∨ j = c) w (w1)) ⟨rfl, rfl, rfl, rfl, rfl, hd, hx, Fr.refl _ _⟩ ?_
  clear hd hx
  rintro f0 w0 ⟨sz, df, x0, x1, x2, hd, hx, bl⟩
  have sd := And.intro sz df
  clear sz df
  have bl0 := bl
  refine wp_seq ?_
  refine wr_a [.nw w0.heap.size 32 ([.int .i64 o.k, .int .i64 o.s, .int .i64 o.n, o.vb, o.vl] : List Value), .eq (.bool false)] (by rw [sd.1]; kernel_rfl) ⟨fun hw ac u K => ?_, fun hw ac u K => ?_, trivial⟩ ?_
  · exact st_box 32 (.tmp 2) rfl _ _ (by rw [show _ = _ from (K.t x2 rfl)]; kernel_rfl) K.grow.size
  · exact st_assign (.const (.bool false)) rfl rfl
  intro f1 w1 A hb
  replace bl0 := bl
  replace x0 := A.t x0 rfl
  replace x1 := A.t x1 rfl
  replace x2 := A.t x2 rfl
  have x5 : Fk.f (.nw w0.heap.size 32 ([.int .i64 o.k, .int .i64 o.s, .int .i64 o.n, o.vb, o.vl] : List Value)) (f1.eval (.tmp 5)) w1 := A.has 0 5 rfl
  replace hd := HD.below hd hb
  replace hx := HX.below hx hb
  replace bl := (Fr.grow bl hb)
  replace sd := A.sd sd
  clear A hb
  clear x2
  obtain ⟨g5, hg5, e5, m5⟩ := x5
  have x5 := e5
  clear e5
  have hw5 : w.heap.size ≤ g5 := Nat.le_trans bl0.size hg5
  have nDm5 : ¬ DD g5 := fun q => by have := hdL _ q; have := bl0.size; omega
  have nXm5 : ¬ (g5 = x ∨ g5 = h ∨ g5 = c) := by have := bl0.size; omega
  clear hdL hxL
  show Code.wp _ _ _ _ _
  refine wp_seq ?_
  refine wp_seq ?_
  refine wr_a [.eq (.pointer (some ⟨g5, 0, none⟩)), .eq (.int .i64 o.k)] (by rw [sd.1]; kernel_rfl) ⟨fun hw ac u K => ?_, fun hw ac u K => ?_, trivial⟩ ?_
  · exact st_field 32 0 (.tmp 5) rfl (K.t x5 rfl) (by kernel_rfl)
  · exact st_loadc 3 (.tmp 15) rfl (by kernel_rfl) (K.dep 0 15 rfl) (Ob.cell (Ob.below m5 K.grow) 0 rfl)
  intro f2 w2 A hb
  replace x0 := A.t x0 rfl
  replace x1 := A.t x1 rfl
  replace x5 := A.t x5 rfl
  have x16 := A.e 1 16 rfl rfl
  replace m5 := Ob.below m5 hb
  replace hd := HD.below hd hb
  replace hx := HX.below hx hb
  replace bl := (Fr.grow bl hb)
  replace sd := A.sd sd
  clear A hb
  show Code.wp _ _ _ _ _
  refine wp_block ?_
  refine wp_seq ?_
  refine wr_a [.eq (.bool false), .eq (.bool false)] (by rw [sd.1]; kernel_rfl) ⟨fun hw ac u K => ?_, fun hw ac u K => ?_, trivial⟩ ?_
  · exact st_eqi 3 (.tmp 16) (.const (.int .i64 1)) rfl .i64 (o.k) (1) (K.t x16 rfl) rfl _ (by symm; rw [decide_eq_false_iff_not]; exact hk1)
  · exact st_assign (.tmp 18) rfl (K.dep 0 18 rfl)
  intro f3 w3 A hb
  replace x0 := A.t x0 rfl
  replace x1 := A.t x1 rfl
  replace x5 := A.t x5 rfl
  replace x16 := A.t x16 rfl
  have x17 := A.e 1 17 rfl rfl
  replace m5 := Ob.below m5 hb
  replace hd := HD.below hd hb
  replace hx := HX.below hx hb
  replace bl := (Fr.grow bl hb)
  replace sd := A.sd sd
  clear A hb
  show Code.wp _ _ _ _ _
  refine wp_cond_false x17 ?_
  refine wp_seq ?_
  refine wr_a [.eq (.bool false), .eq (.bool false)] (by rw [sd.1]; kernel_rfl) ⟨fun hw ac u K => ?_, fun hw ac u K => ?_, trivial⟩ ?_
  · exact st_eqi 3 (.tmp 16) (.const (.int .i64 2)) rfl .i64 (o.k) (2) (K.t x16 rfl) rfl _ (by symm; rw [decide_eq_false_iff_not]; exact hk2)
  · exact st_assign (.tmp 49) rfl (K.dep 0 49 rfl)
  intro f4 w4 A hb
  replace x0 := A.t x0 rfl
  replace x1 := A.t x1 rfl
  replace x5 := A.t x5 rfl
  replace x16 := A.t x16 rfl
  replace x17 := A.t x17 rfl
  have x48 := A.e 1 48 rfl rfl
  replace m5 := Ob.below m5 hb
  replace hd := HD.below hd hb
  replace hx := HX.below hx hb
  replace bl := (Fr.grow bl hb)
  replace sd := A.sd sd
  clear A hb
  clear x17
  show Code.wp _ _ _ _ _
  refine wp_cond_false x48 ?_
  refine wp_seq ?_
  refine wr_a [.eq (.bool false), .eq (.bool false)] (by rw [sd.1]; kernel_rfl) ⟨fun hw ac u K => ?_, fun hw ac u K => ?_, trivial⟩ ?_
  · exact st_eqi 3 (.tmp 16) (.const (.int .i64 3)) rfl .i64 (o.k) (3) (K.t x16 rfl) rfl _ (by symm; rw [decide_eq_false_iff_not]; exact hk3)
  · exact st_assign (.tmp 56) rfl (K.dep 0 56 rfl)
  intro f5 w5 A hb
  replace x0 := A.t x0 rfl
  replace x1 := A.t x1 rfl
  replace x5 := A.t x5 rfl
  replace x16 := A.t x16 rfl
  replace x48 := A.t x48 rfl
  have x55 := A.e 1 55 rfl rfl
  replace m5 := Ob.below m5 hb
  replace hd := HD.below hd hb
  replace hx := HX.below hx hb
  replace bl := (Fr.grow bl hb)
  replace sd := A.sd sd
  clear A hb
  clear x48
  show Code.wp _ _ _ _ _
  refine wp_cond_false x55 ?_
  refine wp_seq ?_
  refine wr_a [.eq (.bool true), .eq (.bool true)] (by rw [sd.1]; kernel_rfl) ⟨fun hw ac u K => ?_, fun hw ac u K => ?_, trivial⟩ ?_
  · exact st_eqi 3 (.tmp 16) (.const (.int .i64 4)) rfl .i64 (o.k) (4) (K.t x16 rfl) rfl _ (by symm; rw [decide_eq_true_iff]; exact hk)
  · exact st_assign (.tmp 120) rfl (K.dep 0 120 rfl)
  intro f6 w6 A hb
  replace x0 := A.t x0 rfl
  replace x1 := A.t x1 rfl
  replace x5 := A.t x5 rfl
  replace x16 := A.t x16 rfl
  replace x55 := A.t x55 rfl
  have x119 := A.e 1 119 rfl rfl
  replace m5 := Ob.below m5 hb
  replace hd := HD.below hd hb
  replace hx := HX.below hx hb
  replace bl := (Fr.grow bl hb)
  replace sd := A.sd sd
  clear A hb
  clear x55
  show Code.wp _ _ _ _ _
  refine wp_cond_true x119 ?_
  refine wp_seq ?_
  refine wr_s [.eq (.pointer (some ⟨gd, 0, none⟩)), .eq (.pointer (some ⟨g5, 2, none⟩)), .eq (.int .i64 o.n)] (by rw [sd.1]; kernel_rfl) ⟨fun hw ac u K => ?_, fun hw ac u K => ?_, fun hw ac u K => ?_, trivial⟩ ?_
  · exact st_move (.tmp 0) rfl (K.t x0 rfl)
  · exact st_field 32 2 (.tmp 5) rfl (K.t x5 rfl) (by kernel_rfl)
  · exact st_loadc 3 (.tmp 122) rfl (by kernel_rfl) (K.dep 1 122 rfl) (Ob.cell (Ob.below m5 K.grow) 2 rfl)
  intro f7 w7 A hb
  replace x0 := A.t x0 rfl
  replace x1 := A.t x1 rfl
  replace x5 := A.t x5 rfl
  replace x16 := A.t x16 rfl
  replace x119 := A.t x119 rfl
  have x121 := A.e 0 121 rfl rfl
  have x123 := A.e 2 123 rfl rfl
  replace m5 := Ob.below m5 hb
  replace hd := HD.below hd hb
  replace hx := HX.below hx hb
  replace bl := (Fr.grow bl hb)
  replace sd := A.sd sd
  clear A hb
  clear x0
  clear x16
  clear x119
  refine wl_call 22 (.func 22) _ _ #[.pointer (some ⟨gd, 0, none⟩), .int .i64 o.n] rfl 124 rfl (by rw [sd.1]; decide) rfl rfl (two_arg x121 x123) Try.enter22 (fun u W' => ∃ D2 : Nat → Prop, u = .tuple #[] ∧ HD W' gd M D2 ({ s with armed := decide (0 ≤ o.n), left := o.n }) ∧ (∀ j, D2 j → DD j ∨ w7.heap.size ≤ j) ∧ Fr M w7 W') ((fk_darm hd o.n hon).mono (by rintro e w' ⟨D2, rfl, q⟩; exact ⟨_, rfl, D2, rfl, q⟩)) ?_
  rintro f8 w8 df2 sz2 old2 ⟨D2, x124, hd2, hD2, O⟩
  have OM := O
  replace O := O.mono hd.sub
  replace x1 := tr old2 x1 rfl
  replace x5 := tr old2 x5 rfl
  replace x121 := tr old2 x121 rfl
  replace x123 := tr old2 x123 rfl
  have lt9 := Ob.lt m5
  replace m5 := O.ob m5 nDm5
  replace nDm5 : ¬ D2 g5 := fun q => (hD2 _ q).elim nDm5 (fun q => by omega)
  clear lt9
  have hxL := hx.lt
  replace hx := hx.keep (O.block _ hxL.1 hxD.1) (O.block _ hxL.2.1 hxD.2.1) (O.block _ hxL.2.2 hxD.2.2)
  replace hxD : ¬ D2 x ∧ ¬ D2 h ∧ ¬ D2 c := ⟨fun q => (hD2 _ q).elim hxD.1 (fun q => by omega), fun q => (hD2 _ q).elim hxD.2.1 (fun q => by omega), fun q => (hD2 _ q).elim hxD.2.2 (fun q => by omega)⟩
  have bl9 := bl.next OM (fun j q => .inl (.inl q))
  replace hDD : ∀ j, D2 j → D j ∨ w.heap.size ≤ j := fun j q => (hD2 j q).elim (hDD j) (fun q => .inr (Nat.le_trans bl.size q))
  replace bl := bl9
  replace bl0 := bl
  replace hd := hd2
  replace sd := sd2 sz2 df2 sd
  clear df2 sz2 old2 O OM hD2 hd2 hxL bl9
  clear DD
  obtain ⟨DD, rfl⟩ : ∃ E, E = D2 := ⟨_, rfl⟩
  refine wpList_nil ?_
  clear x121
  clear x123
  clear x124
  show Code.wp _ _ _ _ _
  have hb : Below w8.heap.size w8 w8.drew := (Below.refl _ _).drew
  refine wp_region_held_drew (S := fun W => Ob W g5 32 ([.int .i64 o.k, .int .i64 o.s, .int .i64 o.n, o.vb, o.vl])) Try.mixed (Ob.below m5 hb) (fun hS => ?_)
  replace hd := HD.below hd hb
  replace hx := HX.below hx hb
  replace bl := Fr.grow bl hb
  replace bl0 := bl
  clear hb m5
  generalize w8.drew = w9 at hd hx bl hS ⊢
  obtain ⟨Ch, Cc, m0, rh, rc, hl, n1, n2, n3, hma, hmm⟩ := hx
  refine wh_take 0 125 (v := .pointer (some ⟨x, 0, none⟩)) rfl rfl (by rw [sd.1]; decide) rfl (by kernel_rfl) (by kernel_rfl) (by kernel_rfl) (fun _ _ _ h => h) (run_mv rfl x1) hS ?_
  intro f10 df2 sz2 old2 new2
  replace x1 := tr old2 x1 rfl
  replace x5 := tr old2 x5 rfl
  have x125 := new2
  replace sd := sd2 sz2 df2 sd
  clear df2 sz2 old2 new2
  refine wh_take 1 126 (v := .pointer (some ⟨x, 0, none⟩)) rfl rfl (by rw [sd.1]; decide) rfl (by kernel_rfl) (by kernel_rfl) (by kernel_rfl) (fun _ _ _ h => h) (run_mv rfl x1) hS ?_
  intro f11 df2 sz2 old2 new2
  replace x1 := tr old2 x1 rfl
  replace x5 := tr old2 x5 rfl
  replace x125 := tr old2 x125 rfl
  have x126 := new2
  replace sd := sd2 sz2 df2 sd
  clear df2 sz2 old2 new2
  refine wh_take 2 127 (v := .pointer (some ⟨g5, 2, none⟩)) rfl rfl (by rw [sd.1]; decide) rfl (by kernel_rfl) (by kernel_rfl) (by kernel_rfl) (fun _ _ _ h => h) (run_field rfl x5 (fun w => by kernel_rfl)) hS ?_
  intro f12 df2 sz2 old2 new2
  replace x1 := tr old2 x1 rfl
  replace x5 := tr old2 x5 rfl
  replace x125 := tr old2 x125 rfl
  replace x126 := tr old2 x126 rfl
  have x127 := new2
  replace sd := sd2 sz2 df2 sd
  clear df2 sz2 old2 new2
  refine wh_take 3 128 (v := .int .i64 o.n) rfl rfl (by rw [sd.1]; decide) rfl (by kernel_rfl) (by kernel_rfl) (by kernel_rfl) (fun _ _ _ h => h) (run_loadc rfl (fun w => by kernel_rfl) x127 (fun W hW => Ob.cell hW 2 rfl)) hS ?_
  intro f13 df2 sz2 old2 new2
  replace x1 := tr old2 x1 rfl
  replace x5 := tr old2 x5 rfl
  replace x125 := tr old2 x125 rfl
  replace x126 := tr old2 x126 rfl
  replace x127 := tr old2 x127 rfl
  have x128 := new2
  replace sd := sd2 sz2 df2 sd
  clear df2 sz2 old2 new2
  refine wh_take 4 129 (v := .bool (decide (0 ≤ o.n))) rfl rfl (by rw [sd.1]; decide) rfl (by kernel_rfl) (by kernel_rfl) (by kernel_rfl) (fun _ _ _ h => h) (run_geqi rfl x128 rfl _ rfl) hS ?_
  intro f14 df2 sz2 old2 new2
  replace x1 := tr old2 x1 rfl
  replace x5 := tr old2 x5 rfl
  replace x125 := tr old2 x125 rfl
  replace x126 := tr old2 x126 rfl
  replace x127 := tr old2 x127 rfl
  replace x128 := tr old2 x128 rfl
  have x129 := new2
  replace sd := sd2 sz2 df2 sd
  clear df2 sz2 old2 new2
  refine wh_take 5 130 (v := .pointer (some ⟨g5, 2, none⟩)) rfl rfl (by rw [sd.1]; decide) rfl (by kernel_rfl) (by kernel_rfl) (by kernel_rfl) (fun _ _ _ h => h) (run_field rfl x5 (fun w => by kernel_rfl)) hS ?_
  intro f15 df2 sz2 old2 new2
  replace x1 := tr old2 x1 rfl
  replace x5 := tr old2 x5 rfl
  replace x125 := tr old2 x125 rfl
  replace x126 := tr old2 x126 rfl
  replace x127 := tr old2 x127 rfl
  replace x128 := tr old2 x128 rfl
  replace x129 := tr old2 x129 rfl
  have x130 := new2
  replace sd := sd2 sz2 df2 sd
  clear df2 sz2 old2 new2
  refine wh_take 6 131 (v := .int .i64 o.n) rfl rfl (by rw [sd.1]; decide) rfl (by kernel_rfl) (by kernel_rfl) (by kernel_rfl) (fun _ _ _ h => h) (run_loadc rfl (fun w => by kernel_rfl) x130 (fun W hW => Ob.cell hW 2 rfl)) hS ?_
  intro f16 df2 sz2 old2 new2
  replace x1 := tr old2 x1 rfl
  replace x5 := tr old2 x5 rfl
  replace x125 := tr old2 x125 rfl
  replace x126 := tr old2 x126 rfl
  replace x127 := tr old2 x127 rfl
  replace x128 := tr old2 x128 rfl
  replace x129 := tr old2 x129 rfl
  replace x130 := tr old2 x130 rfl
  have x131 := new2
  replace sd := sd2 sz2 df2 sd
  clear df2 sz2 old2 new2
  refine wh_take 7 132 (v := .pointer (some ⟨x, 0, none⟩)) rfl rfl (by rw [sd.1]; decide) rfl (by kernel_rfl) (by kernel_rfl) (by kernel_rfl) (fun _ _ _ h => h) (run_nilq rfl x125) hS ?_
  intro f17 df2 sz2 old2 new2
  replace x1 := tr old2 x1 rfl
  replace x5 := tr old2 x5 rfl
  replace x125 := tr old2 x125 rfl
  replace x126 := tr old2 x126 rfl
  replace x127 := tr old2 x127 rfl
  replace x128 := tr old2 x128 rfl
  replace x129 := tr old2 x129 rfl
  replace x130 := tr old2 x130 rfl
  replace x131 := tr old2 x131 rfl
  have x132 := new2
  replace sd := sd2 sz2 df2 sd
  clear df2 sz2 old2 new2
  refine wh_take 8 133 (v := .pointer (some ⟨x, 5, none⟩)) rfl rfl (by rw [sd.1]; decide) rfl (by kernel_rfl) (by kernel_rfl) (by kernel_rfl) (fun _ _ _ h => h) (run_field rfl x132 (fun w => by kernel_rfl)) hS ?_
  intro f18 df2 sz2 old2 new2
  replace x1 := tr old2 x1 rfl
  replace x5 := tr old2 x5 rfl
  replace x125 := tr old2 x125 rfl
  replace x126 := tr old2 x126 rfl
  replace x127 := tr old2 x127 rfl
  replace x128 := tr old2 x128 rfl
  replace x129 := tr old2 x129 rfl
  replace x130 := tr old2 x130 rfl
  replace x131 := tr old2 x131 rfl
  replace x132 := tr old2 x132 rfl
  have x133 := new2
  replace sd := sd2 sz2 df2 sd
  clear df2 sz2 old2 new2
  have hS2 : Ob (w9.setCell ⟨x, 5, none⟩ (.bool (decide (0 ≤ o.n)))) g5 32 ([.int .i64 o.k, .int .i64 o.s, .int .i64 o.n, o.vb, o.vl]) := Ob.setCell_other hS 5 (.bool (decide (0 ≤ o.n))) (fun e => nXm5 (.inl e))
  refine wh_stc 4 9 rfl rfl rfl (by kernel_rfl) (.tmp 133) (.tmp 129) rfl (fun w => by kernel_rfl) x 5 (.bool (decide (0 ≤ o.n))) x133 x129 rfl rfl (Ob.there m0 5 (by simp)) hS2 ?_
  replace m0 : Ob (w9.setCell ⟨x, 5, none⟩ (.bool (decide (0 ≤ o.n)))) x 66 [.slice (some ⟨h, 0, none⟩) t.has.length Ch, .slice (some ⟨c, 0, none⟩) t.has.length Cc, .int .i64 (t.size : Int), .int .i64 t.left, .int .i64 (t.done : Int), .bool (decide (0 ≤ o.n)), .bool t.down] := Ob.set m0 5 (.bool (decide (0 ≤ o.n)))
  replace rh := Rs.other (b := x) (i := 5) (v := .bool (decide (0 ≤ o.n))) rh n1.symm
  replace rc := Rs.other (b := x) (i := 5) (v := .bool (decide (0 ≤ o.n))) rc n2.symm
  have hO := (Only.refl x w9).setCell 5 (.bool (decide (0 ≤ o.n)))
  replace hd := hd.keep (fun j hj => hO.block j (hd.lt j hj) (fun e => hxD.1 (e ▸ hj))) hO.size
  clear hO
  replace bl : Fr (fun j => M j ∨ j = x ∨ j = h ∨ j = c) w (w9.setCell ⟨x, 5, none⟩ (.bool (decide (0 ≤ o.n)))) := bl.setCell (.inl (.inr (.inl rfl))) (.bool (decide (0 ≤ o.n)))
  replace hS := hS2
  clear hS2
  generalize w9.setCell ⟨x, 5, none⟩ (.bool (decide (0 ≤ o.n))) = w19 at hS m0 rh rc hd bl ⊢
  refine wh_take 10 134 (v := .pointer (some ⟨x, 0, none⟩)) rfl rfl (by rw [sd.1]; decide) rfl (by kernel_rfl) (by kernel_rfl) (by kernel_rfl) (fun _ _ _ h => h) (run_nilq rfl x126) hS ?_
  intro f20 df2 sz2 old2 new2
  replace x1 := tr old2 x1 rfl
  replace x5 := tr old2 x5 rfl
  replace x125 := tr old2 x125 rfl
  replace x126 := tr old2 x126 rfl
  replace x127 := tr old2 x127 rfl
  replace x128 := tr old2 x128 rfl
  replace x129 := tr old2 x129 rfl
  replace x130 := tr old2 x130 rfl
  replace x131 := tr old2 x131 rfl
  replace x132 := tr old2 x132 rfl
  replace x133 := tr old2 x133 rfl
  have x134 := new2
  replace sd := sd2 sz2 df2 sd
  clear df2 sz2 old2 new2
  refine wh_take 11 135 (v := .pointer (some ⟨x, 3, none⟩)) rfl rfl (by rw [sd.1]; decide) rfl (by kernel_rfl) (by kernel_rfl) (by kernel_rfl) (fun _ _ _ h => h) (run_field rfl x134 (fun w => by kernel_rfl)) hS ?_
  intro f21 df2 sz2 old2 new2
  replace x1 := tr old2 x1 rfl
  replace x5 := tr old2 x5 rfl
  replace x125 := tr old2 x125 rfl
  replace x126 := tr old2 x126 rfl
  replace x127 := tr old2 x127 rfl
  replace x128 := tr old2 x128 rfl
  replace x129 := tr old2 x129 rfl
  replace x130 := tr old2 x130 rfl
  replace x131 := tr old2 x131 rfl
  replace x132 := tr old2 x132 rfl
  replace x133 := tr old2 x133 rfl
  replace x134 := tr old2 x134 rfl
  have x135 := new2
  replace sd := sd2 sz2 df2 sd
  clear df2 sz2 old2 new2
  have hS2 : Ob (w19.setCell ⟨x, 3, none⟩ (.int .i64 o.n)) g5 32 ([.int .i64 o.k, .int .i64 o.s, .int .i64 o.n, o.vb, o.vl]) := Ob.setCell_other hS 3 (.int .i64 o.n) (fun e => nXm5 (.inl e))
  refine wh_stc 3 12 rfl rfl rfl (by kernel_rfl) (.tmp 135) (.tmp 131) rfl (fun w => by kernel_rfl) x 3 (.int .i64 o.n) x135 x131 rfl rfl (Ob.there m0 3 (by simp)) hS2 ?_
  replace m0 : Ob (w19.setCell ⟨x, 3, none⟩ (.int .i64 o.n)) x 66 [.slice (some ⟨h, 0, none⟩) t.has.length Ch, .slice (some ⟨c, 0, none⟩) t.has.length Cc, .int .i64 (t.size : Int), .int .i64 o.n, .int .i64 (t.done : Int), .bool (decide (0 ≤ o.n)), .bool t.down] := Ob.set m0 3 (.int .i64 o.n)
  replace rh := Rs.other (b := x) (i := 3) (v := .int .i64 o.n) rh n1.symm
  replace rc := Rs.other (b := x) (i := 3) (v := .int .i64 o.n) rc n2.symm
  have hO := (Only.refl x w19).setCell 3 (.int .i64 o.n)
  replace hd := hd.keep (fun j hj => hO.block j (hd.lt j hj) (fun e => hxD.1 (e ▸ hj))) hO.size
  clear hO
  replace bl : Fr (fun j => M j ∨ j = x ∨ j = h ∨ j = c) w (w19.setCell ⟨x, 3, none⟩ (.int .i64 o.n)) := bl.setCell (.inl (.inr (.inl rfl))) (.int .i64 o.n)
  replace hS := hS2
  clear hS2
  generalize w19.setCell ⟨x, 3, none⟩ (.int .i64 o.n) = w22 at hS m0 rh rc hd bl ⊢
  have hx : HX w22 x h c { t with armed := (decide (0 ≤ o.n)), left := o.n } := ⟨Ch, Cc, m0, rh, rc, hl, n1, n2, n3, fun q => of_decide_eq_true q, hon⟩
  clear m0 rh rc
  refine wpAnyH_done (by kernel_rfl) ?_ _
  clear hS
  have bl0 := bl
  clear x1
  clear x5
  clear x125
  clear x126
  clear x127
  clear x128
  clear x129
  clear x130
  clear x131
  clear x132
  clear x133
  clear x134
  clear x135
  show Code.wp _ _ _ _ _
  refine wp_seq ?_
  refine wr_a [.eq (.bool true)] (by rw [sd.1]; kernel_rfl) ⟨fun hw ac u K => ?_, trivial⟩ ?_
  · exact st_assign (.const (.bool true)) rfl rfl
  intro f23 w23 A hb
  have x6 := A.e 0 6 rfl rfl
  replace hd := HD.below hd hb
  replace hx := HX.below hx hb
  replace bl := (Fr.grow bl hb)
  replace sd := A.sd sd
  clear A hb
  show Code.wp _ _ _ _ _
  refine wp_ret ?_
  repeat (first | with_reducible refine then_ret ?_ | with_reducible refine block_ret ?_)
  have e8 : stepD s o = { s with armed := decide (0 ≤ o.n), left := o.n } := by unfold stepD; rw [if_neg hk1, if_neg hk2, if_pos hk]
  have e9 : stepD t o = { t with armed := decide (0 ≤ o.n), left := o.n } := by unfold stepD; rw [if_neg hk1, if_neg hk2, if_pos hk]
  exact bodyPost_ret (v := .bool true) (ret_slot rfl f23 _ x6 _ _) sd.2 ⟨DD, true, rfl, fun _ => rfl, by rw [e8]; exact hd, by rw [e9]; exact hx, hxD, hDD, bl⟩
end Go.Proofs.Ytjdpomilifnlaaa
