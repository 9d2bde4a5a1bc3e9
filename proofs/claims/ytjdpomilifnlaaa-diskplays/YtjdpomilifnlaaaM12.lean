/- The law's step: a Read. The law's step: a Write. -/
import Derived.Test.YtjdpomilifnlaaaM11
import Derived.Laws.AppendOwnNone
namespace Go.Proofs.Ytjdpomilifnlaaa
set_option maxRecDepth 100000
open Go.RowKit
theorem stq3 {w : World} {gd x h c : Nat} {M D : Nat → Prop} {s t : Dst} (hd : HD w gd M D s) (hx : HX w x h c t) (hxD : ¬ D x ∧ ¬ D h ∧ ¬ D c) (_hs : s.done ≤ 1000000) (_ht : t.done ≤ 1000000) (_h60 : s.has.length ≤ 100000) (_t60 : t.has.length ≤ 100000) {o : Opn} (_hbF : ∀ {W : World}, Fr (fun j => M j ∨ j = x ∨ j = h ∨ j = c) w W → (Fk.sl o.bs).f o.vb W) (_hlF : ∀ {W : World}, Fr (fun j => M j ∨ j = x ∨ j = h ∨ j = c) w W → (Fk.is o.ls).f o.vl W) (hrl : (rd s o.s).2.length ≤ 100000) (hk1 : o.k ≠ 1) (hk2 : o.k ≠ 2) (hk : o.k = 3) :
    Calls Try.prog 12 #[.pointer (some ⟨gd, 0, none⟩), .pointer (some ⟨x, 0, none⟩), o.val] w fun e w' => ∃ (DD : Nat → Prop) (r : Bool), e = .returned (.bool r) ∧ (s = t → r = true) ∧ HD w' gd M DD (stepD s o) ∧ HX w' x h c (stepD t o) ∧ (¬ DD x ∧ ¬ DD h ∧ ¬ DD c) ∧ (∀ j, DD j → D j ∨ w.heap.size ≤ j) ∧ Fr (fun j => M j ∨ j = x ∨ j = h ∨ j = c) w w' := by
  obtain ⟨er, bs, hr⟩ : ∃ er bs, rd s o.s = (er, bs) := ⟨_, _, rfl⟩
  have hr1 : (rd s o.s).1 = er := by rw [hr]
  have hr2 : (rd s o.s).2 = bs := by rw [hr]
  rw [hr2] at hrl
  obtain ⟨DD, hDe⟩ : ∃ E, E = D := ⟨_, rfl⟩
  rw [← hDe] at hd hxD
  have hDD : ∀ j, DD j → D j ∨ w.heap.size ≤ j := fun j q => .inl (hDe ▸ q)
  clear hDe
  have hdL := hd.lt
  have hxL := hx.lt
  go_enter Try.func12, Try.ntmps12
  refine code_both (fun f w1 => f.tmps.size = 161 ∧ f.defers = [] ∧ f.eval (.tmp 0) = .pointer (some ⟨gd, 0, none⟩) ∧ f.eval (.tmp 1) = .pointer (some ⟨x, 0, none⟩) ∧ f.eval (.tmp 2) = .agg ([.int .i64 o.k, .int .i64 o.s, .int .i64 o.n, o.vb, o.vl] : List Value).toArray ∧ HD w1 gd M DD s ∧ HX w1 x h c t ∧ Fr (fun j => M j ∨ j = x ∨ j = h ∨ j = c) w (w1)) ⟨rfl, rfl, rfl, rfl, rfl, hd, hx, Fr.refl _ _⟩ ?_
  clear hd hx
  rintro f0 w0 ⟨sz, df, x0, x1, x2, hd, hx, bl⟩
  have sd := And.intro sz df
  clear sz df
  have bl0 := bl
  refine wp_seq ?_
  refine wr_a [.nw w0.heap.size 32 ([.int .i64 o.k, .int .i64 o.s, .int .i64 o.n, o.vb, o.vl] : List Value), .eq (.bool false)] (by rw [sd.1]; kernel_rfl) ⟨fun hw ac u K => ?_, fun hw ac u K => ?_, trivial⟩ ?_
  · exact st_box 32 (.tmp 2) rfl _ _ (by rw [show _ = _ from (K.t x2 rfl)]; kernel_rfl) K.grow.size
  · exact st_assign (.const (.bool false)) rfl rfl
  intro f1 w1 A hb
  replace bl0 := bl
  replace x0 := A.t x0 rfl
  replace x1 := A.t x1 rfl
  replace x2 := A.t x2 rfl
  have x5 : Fk.f (.nw w0.heap.size 32 ([.int .i64 o.k, .int .i64 o.s, .int .i64 o.n, o.vb, o.vl] : List Value)) (f1.eval (.tmp 5)) w1 := A.has 0 5 rfl
  replace hd := HD.below hd hb
  replace hx := HX.below hx hb
  replace bl := (Fr.grow bl hb)
  replace sd := A.sd sd
  clear A hb
  clear x2
  obtain ⟨g5, hg5, e5, m5⟩ := x5
  have x5 := e5
  clear e5
  have hw5 : w.heap.size ≤ g5 := Nat.le_trans bl0.size hg5
  have nDm5 : ¬ DD g5 := fun q => by have := hdL _ q; have := bl0.size; omega
  have nXm5 : ¬ (g5 = x ∨ g5 = h ∨ g5 = c) := by have := bl0.size; omega
  clear hdL hxL
  show Code.wp _ _ _ _ _
  refine wp_seq ?_
  refine wp_seq ?_
  refine wr_a [.eq (.pointer (some ⟨g5, 0, none⟩)), .eq (.int .i64 o.k)] (by rw [sd.1]; kernel_rfl) ⟨fun hw ac u K => ?_, fun hw ac u K => ?_, trivial⟩ ?_
  · exact st_field 32 0 (.tmp 5) rfl (K.t x5 rfl) (by kernel_rfl)
  · exact st_loadc 3 (.tmp 15) rfl (by kernel_rfl) (K.dep 0 15 rfl) (Ob.cell (Ob.below m5 K.grow) 0 rfl)
  intro f2 w2 A hb
  replace x0 := A.t x0 rfl
  replace x1 := A.t x1 rfl
  replace x5 := A.t x5 rfl
  have x16 := A.e 1 16 rfl rfl
  replace m5 := Ob.below m5 hb
  replace hd := HD.below hd hb
  replace hx := HX.below hx hb
  replace bl := (Fr.grow bl hb)
  replace sd := A.sd sd
  clear A hb
  show Code.wp _ _ _ _ _
  refine wp_block ?_
  refine wp_seq ?_
  refine wr_a [.eq (.bool false), .eq (.bool false)] (by rw [sd.1]; kernel_rfl) ⟨fun hw ac u K => ?_, fun hw ac u K => ?_, trivial⟩ ?_
  · exact st_eqi 3 (.tmp 16) (.const (.int .i64 1)) rfl .i64 (o.k) (1) (K.t x16 rfl) rfl _ (by symm; rw [decide_eq_false_iff_not]; exact hk1)
  · exact st_assign (.tmp 18) rfl (K.dep 0 18 rfl)
  intro f3 w3 A hb
  replace x0 := A.t x0 rfl
  replace x1 := A.t x1 rfl
  replace x5 := A.t x5 rfl
  replace x16 := A.t x16 rfl
  have x17 := A.e 1 17 rfl rfl
  replace m5 := Ob.below m5 hb
  replace hd := HD.below hd hb
  replace hx := HX.below hx hb
  replace bl := (Fr.grow bl hb)
  replace sd := A.sd sd
  clear A hb
  show Code.wp _ _ _ _ _
  refine wp_cond_false x17 ?_
  refine wp_seq ?_
  refine wr_a [.eq (.bool false), .eq (.bool false)] (by rw [sd.1]; kernel_rfl) ⟨fun hw ac u K => ?_, fun hw ac u K => ?_, trivial⟩ ?_
  · exact st_eqi 3 (.tmp 16) (.const (.int .i64 2)) rfl .i64 (o.k) (2) (K.t x16 rfl) rfl _ (by symm; rw [decide_eq_false_iff_not]; exact hk2)
  · exact st_assign (.tmp 49) rfl (K.dep 0 49 rfl)
  intro f4 w4 A hb
  replace x0 := A.t x0 rfl
  replace x1 := A.t x1 rfl
  replace x5 := A.t x5 rfl
  replace x16 := A.t x16 rfl
  replace x17 := A.t x17 rfl
  have x48 := A.e 1 48 rfl rfl
  replace m5 := Ob.below m5 hb
  replace hd := HD.below hd hb
  replace hx := HX.below hx hb
  replace bl := (Fr.grow bl hb)
  replace sd := A.sd sd
  clear A hb
  clear x17
  show Code.wp _ _ _ _ _
  refine wp_cond_false x48 ?_
  refine wp_seq ?_
  refine wr_a [.eq (.bool true), .eq (.bool true)] (by rw [sd.1]; kernel_rfl) ⟨fun hw ac u K => ?_, fun hw ac u K => ?_, trivial⟩ ?_
  · exact st_eqi 3 (.tmp 16) (.const (.int .i64 3)) rfl .i64 (o.k) (3) (K.t x16 rfl) rfl _ (by symm; rw [decide_eq_true_iff]; exact hk)
  · exact st_assign (.tmp 56) rfl (K.dep 0 56 rfl)
  intro f5 w5 A hb
  replace x0 := A.t x0 rfl
  replace x1 := A.t x1 rfl
  replace x5 := A.t x5 rfl
  replace x16 := A.t x16 rfl
  replace x48 := A.t x48 rfl
  have x55 := A.e 1 55 rfl rfl
  replace m5 := Ob.below m5 hb
  replace hd := HD.below hd hb
  replace hx := HX.below hx hb
  replace bl := (Fr.grow bl hb)
  replace sd := A.sd sd
  clear A hb
  clear x48
  show Code.wp _ _ _ _ _
  refine wp_cond_true x55 ?_
  refine wp_seq ?_
  refine wr_s [.eq (.pointer (some ⟨gd, 0, none⟩)), .eq (.pointer (some ⟨g5, 1, none⟩)), .eq (.int .i64 o.s)] (by rw [sd.1]; kernel_rfl) ⟨fun hw ac u K => ?_, fun hw ac u K => ?_, fun hw ac u K => ?_, trivial⟩ ?_
  · exact st_move (.tmp 0) rfl (K.t x0 rfl)
  · exact st_field 32 1 (.tmp 5) rfl (K.t x5 rfl) (by kernel_rfl)
  · exact st_loadc 3 (.tmp 59) rfl (by kernel_rfl) (K.dep 1 59 rfl) (Ob.cell (Ob.below m5 K.grow) 1 rfl)
  intro f6 w6 A hb
  replace x0 := A.t x0 rfl
  replace x1 := A.t x1 rfl
  replace x5 := A.t x5 rfl
  replace x16 := A.t x16 rfl
  replace x55 := A.t x55 rfl
  have x58 := A.e 0 58 rfl rfl
  have x60 := A.e 2 60 rfl rfl
  replace m5 := Ob.below m5 hb
  replace hd := HD.below hd hb
  replace hx := HX.below hx hb
  replace bl := (Fr.grow bl hb)
  replace sd := A.sd sd
  clear A hb
  clear x0
  clear x16
  clear x55
  refine wl_call 16 (.func 16) _ _ #[.pointer (some ⟨gd, 0, none⟩), .int .i64 o.s] rfl 61 rfl (by rw [sd.1]; decide) rfl rfl (two_arg x58 x60) Try.enter16 (fun u W' => ∃ (D2 : Nat → Prop) (A : Option Addr) (C : Nat), u = .tuple #[.slice A bs.length C, .int .i64 er] ∧ (Fk.sl bs).f (.slice A bs.length C) W' ∧ (0 < bs.length → ∃ g, A = some ⟨g, 0, none⟩ ∧ w6.heap.size ≤ g ∧ ¬ D2 g ∧ Wb W' g bs.length) ∧ HD W' gd M D2 s ∧ (∀ j, D2 j → DD j ∨ w6.heap.size ≤ j) ∧ Fr M w6 W') ((show Calls Try.prog 16 #[.pointer (some ⟨gd, 0, none⟩), .int .i64 o.s] w6 (fun e W' => ∃ (D2 : Nat → Prop) (A : Option Addr) (C : Nat), e = .returned (.tuple #[.slice A bs.length C, .int .i64 er]) ∧ _) from by have := fk_dread hd o.s; rw [hr1, hr2] at this; exact this).mono (by rintro e w' ⟨D2, A, C, rfl, q⟩; exact ⟨_, rfl, D2, A, C, rfl, q⟩)) ?_
  rintro f7 w7 df2 sz2 old2 ⟨D2, A, C, x61, hsl, hG0, hd2, hD2, O⟩
  have OM := O
  replace O := O.mono hd.sub
  replace x1 := tr old2 x1 rfl
  replace x5 := tr old2 x5 rfl
  replace x58 := tr old2 x58 rfl
  replace x60 := tr old2 x60 rfl
  have lt9 := Ob.lt m5
  have hxL := hx.lt
  have hG : Rd w.heap.size D2 (fun j => j = x ∨ j = h ∨ j = c ∨ j = g5) A bs.length w7 := fun q => by
    obtain ⟨g, h1, h2, h3, h4⟩ := hG0 q
    exact ⟨g, h1, Nat.le_trans bl.size h2, by omega, h3, h4⟩
  replace m5 := O.ob m5 nDm5
  replace nDm5 : ¬ D2 g5 := fun q => (hD2 _ q).elim nDm5 (fun q => by omega)
  replace hx := hx.keep (O.block _ hxL.1 hxD.1) (O.block _ hxL.2.1 hxD.2.1) (O.block _ hxL.2.2 hxD.2.2)
  replace hxD : ¬ D2 x ∧ ¬ D2 h ∧ ¬ D2 c := ⟨fun q => (hD2 _ q).elim hxD.1 (fun q => by omega), fun q => (hD2 _ q).elim hxD.2.1 (fun q => by omega), fun q => (hD2 _ q).elim hxD.2.2 (fun q => by omega)⟩
  have bl9 := bl.next OM (fun j q => .inl (.inl q))
  replace hDD : ∀ j, D2 j → D j ∨ w.heap.size ≤ j := fun j q => (hD2 j q).elim (hDD j) (fun q => .inr (Nat.le_trans bl.size q))
  replace bl := bl9
  replace bl0 := bl
  replace hd := hd2
  replace sd := sd2 sz2 df2 sd
  clear df2 sz2 old2 O OM hD2 hd2 hxL bl9 lt9 hG0
  clear DD
  obtain ⟨DD, rfl⟩ : ∃ E, E = D2 := ⟨_, rfl⟩
  clear x58
  clear x60
  refine wl_one (.eq (.tuple #[.slice A bs.length C, .int .i64 er])) rfl 57 rfl (by rw [sd.1]; decide) (st_move (.tmp 61) rfl x61) ?_
  intro f8 w8 df2 sz2 old2 new2 hb
  replace x1 := tr old2 x1 rfl
  replace x5 := tr old2 x5 rfl
  replace x61 := tr old2 x61 rfl
  have x57 := Fk.e new2
  replace m5 := Ob.below m5 hb
  replace hsl := Fk.mono _ _ _ _ hsl hb
  replace hd := HD.below hd hb
  replace hx := HX.below hx hb
  replace hG := Rd.below hG hb
  replace bl := (Fr.grow bl hb)
  replace sd := sd2 sz2 df2 sd
  clear df2 sz2 old2 new2 hb
  clear x61
  refine wl_one (.eq (.slice A bs.length C)) rfl 62 rfl (by rw [sd.1]; decide) (st_ext0 (.tmp 57) rfl x57 rfl) ?_
  intro f9 w9 df2 sz2 old2 new2 hb
  replace x1 := tr old2 x1 rfl
  replace x5 := tr old2 x5 rfl
  replace x57 := tr old2 x57 rfl
  have x62 := Fk.e new2
  replace m5 := Ob.below m5 hb
  replace hsl := Fk.mono _ _ _ _ hsl hb
  replace hd := HD.below hd hb
  replace hx := HX.below hx hb
  replace hG := Rd.below hG hb
  replace bl := (Fr.grow bl hb)
  replace sd := sd2 sz2 df2 sd
  clear df2 sz2 old2 new2 hb
  refine wl_one (.eq (.int .i64 er)) rfl 63 rfl (by rw [sd.1]; decide) (st_ext1 (.tmp 57) rfl x57 rfl) ?_
  intro f10 w10 df2 sz2 old2 new2 hb
  replace x1 := tr old2 x1 rfl
  replace x5 := tr old2 x5 rfl
  replace x57 := tr old2 x57 rfl
  replace x62 := tr old2 x62 rfl
  have x63 := Fk.e new2
  replace m5 := Ob.below m5 hb
  replace hsl := Fk.mono _ _ _ _ hsl hb
  replace hd := HD.below hd hb
  replace hx := HX.below hx hb
  replace hG := Rd.below hG hb
  replace bl := (Fr.grow bl hb)
  replace sd := sd2 sz2 df2 sd
  clear df2 sz2 old2 new2 hb
  clear x57
  refine wl_one (.eq (.slice A bs.length C)) rfl 11 rfl (by rw [sd.1]; decide) (st_assign (.tmp 62) rfl x62) ?_
  intro f11 w11 df2 sz2 old2 new2 hb
  replace x1 := tr old2 x1 rfl
  replace x5 := tr old2 x5 rfl
  replace x62 := tr old2 x62 rfl
  replace x63 := tr old2 x63 rfl
  have x11 := Fk.e new2
  replace m5 := Ob.below m5 hb
  replace hsl := Fk.mono _ _ _ _ hsl hb
  replace hd := HD.below hd hb
  replace hx := HX.below hx hb
  replace hG := Rd.below hG hb
  replace bl := (Fr.grow bl hb)
  replace sd := sd2 sz2 df2 sd
  clear df2 sz2 old2 new2 hb
  clear x62
  refine wl_one (.eq (.int .i64 er)) rfl 12 rfl (by rw [sd.1]; decide) (st_assign (.tmp 63) rfl x63) ?_
  intro f12 w12 df2 sz2 old2 new2 hb
  replace x1 := tr old2 x1 rfl
  replace x5 := tr old2 x5 rfl
  replace x63 := tr old2 x63 rfl
  replace x11 := tr old2 x11 rfl
  have x12 := Fk.e new2
  replace m5 := Ob.below m5 hb
  replace hsl := Fk.mono _ _ _ _ hsl hb
  replace hd := HD.below hd hb
  replace hx := HX.below hx hb
  replace hG := Rd.below hG hb
  replace bl := (Fr.grow bl hb)
  replace sd := sd2 sz2 df2 sd
  clear df2 sz2 old2 new2 hb
  refine wpList_nil ?_
  clear x63
  obtain ⟨Ch, Cc, m0, rh, rc, hl, n1, n2, n3, hma, hmm⟩ := hx
  show Code.wp _ _ _ _ _
  refine wp_seq ?_
  refine wp_seq ?_
  by_cases hdn : t.down = true
  rotate_left
  · skip
    replace hdn : t.down = false := by simpa using hdn
    rw [hdn] at m0
    refine wr_a [.eq (.pointer (some ⟨x, 0, none⟩)), .eq (.pointer (some ⟨x, 0, none⟩)), .eq (.pointer (some ⟨x, 6, none⟩)), .eq (.bool false)] (by rw [sd.1]; kernel_rfl) ⟨fun hw ac u K => ?_, fun hw ac u K => ?_, fun hw ac u K => ?_, fun hw ac u K => ?_, trivial⟩ ?_
    · exact st_move (.tmp 1) rfl (K.t x1 rfl)
    · exact st_nil (.tmp 64) rfl (K.dep 0 64 rfl)
    · exact st_field 66 6 (.tmp 65) rfl (K.dep 1 65 rfl) (by kernel_rfl)
    · exact st_loadc 4 (.tmp 66) rfl (by kernel_rfl) (K.dep 2 66 rfl) (Ob.cell (Ob.below m0 K.grow) 6 rfl)
    intro f13 w13 A hb
    replace x1 := A.t x1 rfl
    replace x5 := A.t x5 rfl
    replace x11 := A.t x11 rfl
    replace x12 := A.t x12 rfl
    have x67 := A.e 3 67 rfl rfl
    replace m5 := Ob.below m5 hb
    replace m0 := Ob.below m0 hb
    replace hsl := Fk.mono _ _ _ _ hsl hb
    replace hd := HD.below hd hb
    replace hG := Rd.below hG hb
    replace rh := Rs.below rh hb
    replace rc := Rs.below rc hb
    replace bl := (Fr.grow bl hb)
    replace sd := A.sd sd
    clear A hb
    show Code.wp _ _ _ _ _
    refine wp_cond_false x67 ?_
    refine wp_skip ?_
    show Code.wp _ _ _ _ _
    refine wp_seq ?_
    refine wp_seq ?_
    by_cases hneg : o.s < 0
    rotate_left
    · skip
      by_cases hge : (t.has.length : Int) ≤ o.s
      rotate_left
      · skip
        obtain ⟨j, hj⟩ : ∃ j : Nat, o.s = (j : Int) := ⟨o.s.toNat, by omega⟩
        have hjt : j < t.has.length := by omega
        obtain ⟨yh, hyh⟩ : ∃ y, t.has[j]? = some y := ⟨_, List.getElem?_eq_getElem hjt⟩
        obtain ⟨yc, hyc⟩ : ∃ y, t.cch[j]? = some y := ⟨_, List.getElem?_eq_getElem (by rw [hl]; exact hjt)⟩
        refine wr_d [.eq (.pointer (some ⟨g5, 1, none⟩)), .eq (.int .i64 o.s), .eq (.bool false), .eq (.bool false), .eq (.pointer (some ⟨g5, 1, none⟩)), .eq (.int .i64 o.s), .eq (.pointer (some ⟨x, 0, none⟩)), .eq (.pointer (some ⟨x, 0, none⟩)), .eq (.pointer (some ⟨x, 0, none⟩)), .eq (.slice (some ⟨h, 0, none⟩) t.has.length Ch), .eq (.int .i64 (t.has.length : Int)), .eq (.bool false), .eq (.bool false)] Try.mixed (by rw [sd.1]; kernel_rfl) ⟨fun hw ac u K => ?_, fun hw ac u K => ?_, fun hw ac u K => ?_, fun hw ac u K => ?_, fun hw ac u K => ?_, fun hw ac u K => ?_, fun hw ac u K => ?_, fun hw ac u K => ?_, fun hw ac u K => ?_, fun hw ac u K => ?_, fun hw ac u K => ?_, fun hw ac u K => ?_, fun hw ac u K => ?_, trivial⟩ ?_
        · exact st_field 32 1 (.tmp 5) rfl (K.t x5 rfl) (by kernel_rfl)
        · exact st_loadc 3 (.tmp 75) rfl (by kernel_rfl) (K.dep 0 75 rfl) (Ob.cell (Ob.below m5 K.grow) 1 rfl)
        · exact st_lss 3 (.tmp 76) (.const (.int .i64 0)) rfl .i64 (o.s) (0) (K.dep 1 76 rfl) rfl _ (by symm; rw [decide_eq_false_iff_not]; exact hneg)
        · exact st_move (.tmp 77) rfl (K.dep 2 77 rfl)
        · exact st_field 32 1 (.tmp 5) rfl (K.t x5 rfl) (by kernel_rfl)
        · exact st_loadc 3 (.tmp 79) rfl (by kernel_rfl) (K.dep 4 79 rfl) (Ob.cell (Ob.below m5 K.grow) 1 rfl)
        · exact st_move (.tmp 1) rfl (K.t x1 rfl)
        · exact st_nil (.tmp 81) rfl (K.dep 6 81 rfl)
        · exact st_field 66 0 (.tmp 82) rfl (K.dep 7 82 rfl) (by kernel_rfl)
        · exact st_loadc 45 (.tmp 83) rfl (by kernel_rfl) (K.dep 8 83 rfl) (Ob.cell (Ob.below m0 K.grow) 0 rfl)
        · exact st_lens (.tmp 84) rfl (K.dep 9 84 rfl)
        · exact st_geq 3 (.tmp 80) (.tmp 85) rfl .i64 (o.s) ((t.has.length : Int)) (K.dep 5 80 rfl) (K.dep 10 85 rfl) _ (by symm; rw [decide_eq_false_iff_not]; exact hge)
        · exact st_pick_f' (.tmp 78) (.const (.bool true)) (.tmp 86) rfl (K.dep 3 78 rfl) (K.dep 11 86 rfl)
        intro f14 w14 A hb
        replace x1 := A.t x1 rfl
        replace x5 := A.t x5 rfl
        replace x11 := A.t x11 rfl
        replace x12 := A.t x12 rfl
        replace x67 := A.t x67 rfl
        have x87 := A.e 12 87 rfl rfl
        replace m5 := Ob.below m5 hb
        replace m0 := Ob.below m0 hb
        replace hsl := Fk.mono _ _ _ _ hsl hb
        replace hd := HD.below hd hb
        replace hG := Rd.below hG hb
        replace rh := Rs.below rh hb
        replace rc := Rs.below rc hb
        replace bl := (Fr.grow bl hb)
        replace sd := A.sd sd
        clear A hb
        clear x67
        show Code.wp _ _ _ _ _
        refine wp_cond_false x87 ?_
        refine wp_skip ?_
        show Code.wp _ _ _ _ _
        refine wp_seq ?_
        obtain ⟨qv, hqv⟩ : ∃ b, b = decide (str (bs) = str (nowv yh yc)) := ⟨_, rfl⟩
        rw [hj] at m5
        refine wr_d [.eq (.slice A bs.length C), .eq (.string (str (bs))), .eq (.pointer (some ⟨x, 0, none⟩)), .eq (.pointer (some ⟨g5, 1, none⟩)), .eq (.int .i64 (j : Int)), .eq (.string (str (nowv yh yc))), .eq (.bool qv), .eq (.bool qv)] Try.mixed (by rw [sd.1]; kernel_rfl) ⟨fun hw ac u K => ?_, fun hw ac u K => ?_, fun hw ac u K => ?_, fun hw ac u K => ?_, fun hw ac u K => ?_, fun hw ac u K => ?_, fun hw ac u K => ?_, fun hw ac u K => ?_, trivial⟩ ?_
        · exact st_move (.tmp 11) rfl (K.t x11 rfl)
        · exact st_stra (.tmp 95) rfl (fk_val (K.dep 0 95 rfl) (Fk.mono _ _ _ _ hsl K.grow))
        · exact st_move (.tmp 1) rfl (K.t x1 rfl)
        · exact st_field 32 1 (.tmp 5) rfl (K.t x5 rfl) (by kernel_rfl)
        · exact st_loadc 3 (.tmp 98) rfl (by kernel_rfl) (K.dep 3 98 rfl) (Ob.cell (Ob.below m5 K.grow) 1 rfl)
        · exact st_call 17 (.func 17) _ _ _ rfl rfl (arg2 (K.dep 2 97 rfl) (K.dep 4 99 rfl)) Try.enter17 ((now_any (Ob.below m0 K.grow) (Rs.below rh K.grow) (Rs.below rc K.grow) hjt hyh hyc).mono (by rintro e w' ⟨rfl, q⟩; exact ⟨_, rfl, rfl, q⟩))
        · exact st_eqs (.tmp 96) (.tmp 100) rfl (str (bs)) (str (nowv yh yc)) (K.dep 1 96 rfl) (K.dep 5 100 rfl) _ hqv
        · exact st_assign (.tmp 101) rfl (K.dep 6 101 rfl)
        intro f15 w15 A hb
        replace x1 := A.t x1 rfl
        replace x5 := A.t x5 rfl
        replace x11 := A.t x11 rfl
        replace x12 := A.t x12 rfl
        replace x87 := A.t x87 rfl
        have x13 := A.e 7 13 rfl rfl
        replace m5 := Ob.below m5 hb
        replace m0 := Ob.below m0 hb
        replace hsl := Fk.mono _ _ _ _ hsl hb
        replace hd := HD.below hd hb
        replace hG := Rd.below hG hb
        replace rh := Rs.below rh hb
        replace rc := Rs.below rc hb
        replace bl := (Fr.grow bl hb)
        replace sd := A.sd sd
        clear A hb
        clear x1
        clear x5
        clear x87
        clear m5
        have hx : HX w15 x h c t := ⟨Ch, Cc, by rw [hdn]; exact m0, rh, rc, hl, n1, n2, n3, hma, hmm⟩
        clear m0 rh rc
        clear hsl
        show Code.wp _ _ _ _ _
        refine wp_seq ?_
        refine wp_seq ?_
        refine wr_a [.eq (.slice A bs.length C), .eq (.int .i64 (bs.length : Int)), .eq (.int .i64 0)] (by rw [sd.1]; kernel_rfl) ⟨fun hw ac u K => ?_, fun hw ac u K => ?_, fun hw ac u K => ?_, trivial⟩ ?_
        · exact st_move (.tmp 11) rfl (K.t x11 rfl)
        · exact st_lenB (.tmp 102) rfl (K.dep 0 102 rfl)
        · exact st_move (.const (.int .i64 0)) rfl rfl
        intro f16 w16 A hb
        replace x11 := A.t x11 rfl
        replace x12 := A.t x12 rfl
        replace x13 := A.t x13 rfl
        have x103 := A.e 1 103 rfl rfl
        have x104 := A.e 2 104 rfl rfl
        replace hd := HD.below hd hb
        replace hG := Rd.below hG hb
        replace hx := HX.below hx hb
        replace bl := (Fr.grow bl hb)
        replace sd := A.sd sd
        clear A hb
        show Code.wp _ _ _ _ _
        refine wp_block ?_
        refine wp_loop (fun f v1 => ∃ k : Nat, k ≤ bs.length ∧ f.tmps.size = 161 ∧ f.defers = [] ∧ f.eval (.tmp 11) = .slice A bs.length C ∧ f.eval (.tmp 12) = .int .i64 er ∧ f.eval (.tmp 13) = .bool qv ∧ f.eval (.tmp 103) = .int .i64 (bs.length : Int) ∧ f.eval (.tmp 104) = .int .i64 (k : Int) ∧ HD v1 gd M DD s ∧ HX v1 x h c t ∧ Rd w.heap.size DD (fun j => j = x ∨ j = h ∨ j = c ∨ j = g5) A bs.length v1 ∧ Fr (fun j => M j ∨ j = x ∨ j = h ∨ j = c) w (v1)) (fun f _ => bs.length - (intOf (f.eval (.tmp 104))).toNat) ⟨0, Nat.zero_le _, sd.1, sd.2, x11, x12, x13, x103, x104, hd, hx, hG, bl⟩ ?_
        intro f17 w17 hI
        clear sd bl bl0 x11 x12 x13 x103 x104 hd hx hG
        obtain ⟨k, hk9, sz, df, x11, x12, x13, x103, x104, hd, hx, hG, bl⟩ := hI
        have sd := And.intro sz df
        clear sz df
        have bl0 := bl
        have hcnt := x104
        refine wp_seq ?_
        by_cases hlt : k < bs.length
        rotate_left
        · skip
          refine wr_a [.eq (.bool false)] (by rw [sd.1]; kernel_rfl) ⟨fun hw ac u K => ?_, trivial⟩ ?_
          · exact st_lss 3 (.tmp 104) (.tmp 103) rfl .i64 ((k : Int)) ((bs.length : Int)) (K.t x104 rfl) (K.t x103 rfl) _ (by rw [eq_comm, decide_eq_false_iff_not]; omega)
          intro f18 w18 A hb
          replace x11 := A.t x11 rfl
          replace x12 := A.t x12 rfl
          replace x13 := A.t x13 rfl
          replace x103 := A.t x103 rfl
          replace x104 := A.t x104 rfl
          have x105 := A.e 0 105 rfl rfl
          replace hd := HD.below hd hb
          replace hG := Rd.below hG hb
          replace hx := HX.below hx hb
          replace bl := (Fr.grow bl hb)
          replace sd := A.sd sd
          clear A hb
          show Code.wp _ _ _ _ _
          refine wp_seq ?_
          refine wp_cond_false x105 ?_
          refine wp_exit ?_
          show Code.wp _ _ _ _ _
          refine wp_seq ?_
          by_cases he : er = 0
          rotate_left
          · skip
            refine wr_a [.eq (.int .i64 er), .eq (.bool false), .eq (.bool false), .any, .eq (.bool false), .eq (.bool false)] (by rw [sd.1]; kernel_rfl) ⟨fun hw ac u K => ?_, fun hw ac u K => ?_, fun hw ac u K => ?_, fun hw ac u K => ?_, fun hw ac u K => ?_, fun hw ac u K => ?_, trivial⟩ ?_
            · exact st_move (.tmp 12) rfl (K.t x12 rfl)
            · exact st_eqi 37 (.tmp 114) (.const (.int .i64 0)) rfl .i64 (er) (0) (K.dep 0 114 rfl) rfl _ (by symm; rw [decide_eq_false_iff_not]; exact he)
            · exact st_move (.tmp 115) rfl (K.dep 1 115 rfl)
            · exact (Bool.false_ne_true hw).elim
            · exact st_pick_f' (.tmp 116) (.tmp 117) (.const (.bool false)) rfl (K.dep 2 116 rfl) rfl
            · exact st_assign (.tmp 118) rfl (K.dep 4 118 rfl)
            intro f19 w19 A hb
            replace x11 := A.t x11 rfl
            replace x12 := A.t x12 rfl
            replace x13 := A.t x13 rfl
            replace x103 := A.t x103 rfl
            replace x104 := A.t x104 rfl
            replace x105 := A.t x105 rfl
            have x6 := A.e 5 6 rfl rfl
            replace hd := HD.below hd hb
            replace hG := Rd.below hG hb
            replace hx := HX.below hx hb
            replace bl := (Fr.grow bl hb)
            replace sd := A.sd sd
            clear A hb
            clear x105
            show Code.wp _ _ _ _ _
            refine wp_ret ?_
            repeat (first | with_reducible refine then_ret ?_ | with_reducible refine block_ret ?_)
            have e8 : stepD s o = s := by unfold stepD; rw [if_neg hk1, if_neg hk2, if_neg (by omega), if_neg (by omega), if_neg (by omega)]
            have e9 : stepD t o = t := by unfold stepD; rw [if_neg hk1, if_neg hk2, if_neg (by omega), if_neg (by omega), if_neg (by omega)]
            exact bodyPost_ret (v := .bool false) (ret_slot rfl f19 _ x6 _ _) sd.2 ⟨DD, false, rfl, fun q => absurd (by rw [← hr1, q, rd_ok hdn hj hjt hyh hyc]) he, by rw [e8]; exact hd, by rw [e9]; exact hx, hxD, hDD, bl⟩
          refine wr_a [.eq (.int .i64 er), .eq (.bool true), .eq (.bool true), .eq (.bool qv), .eq (.bool qv), .eq (.bool qv)] (by rw [sd.1]; kernel_rfl) ⟨fun hw ac u K => ?_, fun hw ac u K => ?_, fun hw ac u K => ?_, fun hw ac u K => ?_, fun hw ac u K => ?_, fun hw ac u K => ?_, trivial⟩ ?_
          · exact st_move (.tmp 12) rfl (K.t x12 rfl)
          · exact st_eqi 37 (.tmp 114) (.const (.int .i64 0)) rfl .i64 (er) (0) (K.dep 0 114 rfl) rfl _ (by symm; rw [decide_eq_true_iff]; exact he)
          · exact st_move (.tmp 115) rfl (K.dep 1 115 rfl)
          · exact st_move (.tmp 13) rfl (K.t x13 rfl)
          · exact st_pick_t (.tmp 116) (.tmp 117) (.const (.bool false)) rfl (K.dep 2 116 rfl) (K.dep 3 117 rfl)
          · exact st_assign (.tmp 118) rfl (K.dep 4 118 rfl)
          intro f19 w19 A hb
          replace x11 := A.t x11 rfl
          replace x12 := A.t x12 rfl
          replace x13 := A.t x13 rfl
          replace x103 := A.t x103 rfl
          replace x104 := A.t x104 rfl
          replace x105 := A.t x105 rfl
          have x6 := A.e 5 6 rfl rfl
          replace hd := HD.below hd hb
          replace hG := Rd.below hG hb
          replace hx := HX.below hx hb
          replace bl := (Fr.grow bl hb)
          replace sd := A.sd sd
          clear A hb
          clear x105
          show Code.wp _ _ _ _ _
          refine wp_ret ?_
          repeat (first | with_reducible refine then_ret ?_ | with_reducible refine block_ret ?_)
          have e8 : stepD s o = s := by unfold stepD; rw [if_neg hk1, if_neg hk2, if_neg (by omega), if_neg (by omega), if_neg (by omega)]
          have e9 : stepD t o = t := by unfold stepD; rw [if_neg hk1, if_neg hk2, if_neg (by omega), if_neg (by omega), if_neg (by omega)]
          exact bodyPost_ret (v := .bool qv) (ret_slot rfl f19 _ x6 _ _) sd.2 ⟨DD, qv, rfl, fun q => by rw [hqv, decide_eq_true_iff, ← hr2, q, rd_ok hdn hj hjt hyh hyc], by rw [e8]; exact hd, by rw [e9]; exact hx, hxD, hDD, bl⟩
        refine wr_a [.eq (.bool true)] (by rw [sd.1]; kernel_rfl) ⟨fun hw ac u K => ?_, trivial⟩ ?_
        · exact st_lss 3 (.tmp 104) (.tmp 103) rfl .i64 ((k : Int)) ((bs.length : Int)) (K.t x104 rfl) (K.t x103 rfl) _ (by rw [eq_comm, decide_eq_true_iff]; omega)
        intro f18 w18 A hb
        replace x11 := A.t x11 rfl
        replace x12 := A.t x12 rfl
        replace x13 := A.t x13 rfl
        replace x103 := A.t x103 rfl
        replace x104 := A.t x104 rfl
        have x105 := A.e 0 105 rfl rfl
        replace hd := HD.below hd hb
        replace hG := Rd.below hG hb
        replace hx := HX.below hx hb
        replace bl := (Fr.grow bl hb)
        replace sd := A.sd sd
        clear A hb
        show Code.wp _ _ _ _ _
        refine wp_seq ?_
        refine wp_cond_true x105 ?_
        refine wp_skip ?_
        show Code.wp _ _ _ _ _
        refine wp_seq ?_
        refine wp_block ?_
        refine wp_seq ?_
        refine wr_a [.eq (.int .i64 (k : Int)), .eq (.int .i64 (k : Int))] (by rw [sd.1]; kernel_rfl) ⟨fun hw ac u K => ?_, fun hw ac u K => ?_, trivial⟩ ?_
        · exact st_move (.tmp 104) rfl (K.t x104 rfl)
        · exact st_assign (.tmp 106) rfl (K.dep 0 106 rfl)
        intro f19 w19 A hb
        replace x11 := A.t x11 rfl
        replace x12 := A.t x12 rfl
        replace x13 := A.t x13 rfl
        replace x103 := A.t x103 rfl
        replace x104 := A.t x104 rfl
        replace x105 := A.t x105 rfl
        have x14 := A.e 1 14 rfl rfl
        replace hd := HD.below hd hb
        replace hG := Rd.below hG hb
        replace hx := HX.below hx hb
        replace bl := (Fr.grow bl hb)
        replace sd := A.sd sd
        clear A hb
        clear x105
        show Code.wp _ _ _ _ _
        obtain ⟨g, rfl, hgw, hgX, hgD, hgb⟩ := hG (by omega)
        obtain ⟨y, hy⟩ := hgb.at hlt
        refine wr_s [.eq (.slice (some ⟨g, 0, none⟩) bs.length C), .eq (.int .i64 (k : Int)), .eq (.pointer (some ⟨g, k, none⟩)), .eq (V y), .eq (V (y + 1)), .eq (.pointer (some ⟨g, k, none⟩))] (by rw [sd.1]; kernel_rfl) ⟨fun hw ac u K => ?_, fun hw ac u K => ?_, fun hw ac u K => ?_, fun hw ac u K => ?_, fun hw ac u K => ?_, fun hw ac u K => ?_, trivial⟩ ?_
        · exact st_move (.tmp 11) rfl (K.t x11 rfl)
        · exact st_move (.tmp 14) rfl (K.t x14 rfl)
        · exact st_idxB (.tmp 107) (.tmp 108) rfl (K.dep 0 107 rfl) (k) (K.dep 1 108 rfl) hlt
        · exact st_loadc 5 (.tmp 109) rfl (by kernel_rfl) (K.dep 2 109 rfl) (cell_grow hy K.grow)
        · exact st_addu (.tmp 110) (.const (.int .u8 1)) rfl y (K.dep 3 110 rfl) rfl
        · exact st_idxB (.tmp 107) (.tmp 108) rfl (K.dep 0 107 rfl) (k) (K.dep 1 108 rfl) hlt
        intro f20 w20 A hb
        replace x11 := A.t x11 rfl
        replace x12 := A.t x12 rfl
        replace x13 := A.t x13 rfl
        replace x103 := A.t x103 rfl
        replace x104 := A.t x104 rfl
        replace x14 := A.t x14 rfl
        have x111 := A.e 4 111 rfl rfl
        have x112 := A.e 5 112 rfl rfl
        replace hd := HD.below hd hb
        replace hG := Rd.below hG hb
        replace hx := HX.below hx hb
        replace hgb := Wb.below hgb hb
        replace bl := (Fr.grow bl hb)
        replace sd := A.sd sd
        clear A hb
        clear x14
        refine wl_stc 5 rfl (.tmp 112) (.tmp 111) rfl rfl (by kernel_rfl) g k (V (y + 1)) x112 x111 rfl rfl (Wb.there hgb hlt) ?_
        replace hgb : Wb (w20.setCell ⟨g, k, none⟩ (V (y + 1))) g bs.length := hgb.set (y + 1)
        have hO := (Only.refl g w20).setCell k (V (y + 1))
        have hxL := hx.lt
        replace hd := hd.keep (fun j hj => hO.block j (hd.lt j hj) (fun e => hgD (e ▸ hj))) hO.size
        replace hx := hx.keep (hO.block _ hxL.1 (fun e => hgX (.inl e.symm))) (hO.block _ hxL.2.1 (fun e => hgX (.inr (.inl e.symm)))) (hO.block _ hxL.2.2 (fun e => hgX (.inr (.inr (.inl e.symm)))))
        replace bl : Fr (fun j => M j ∨ j = x ∨ j = h ∨ j = c) w (w20.setCell ⟨g, k, none⟩ (V (y + 1))) := bl.setCell (.inr hgw) (V (y + 1))
        clear hO hxL hG
        generalize w20.setCell ⟨g, k, none⟩ (V (y + 1)) = w21b at hgb hd hx bl ⊢
        have hG : Rd w.heap.size DD (fun j => j = x ∨ j = h ∨ j = c ∨ j = g5) (some ⟨g, 0, none⟩) bs.length w21b := fun _ => ⟨g, rfl, hgw, hgX, hgD, hgb⟩
        replace bl0 := bl
        refine wpList_nil ?_
        clear x111
        clear x112
        show Code.wp _ _ _ _ _
        refine wr_s [.eq (.int .i64 ((k + 1 : Nat) : Int))] (by rw [sd.1]; kernel_rfl) ⟨fun hw ac u K => ?_, trivial⟩ ?_
        · exact st_add (.tmp 104) (.const (.int .i64 1)) rfl (k) (1) (k + 1) (K.t x104 rfl) rfl (by omega) (by omega)
        intro f22 w22 A hb
        replace x11 := A.t x11 rfl
        replace x12 := A.t x12 rfl
        replace x13 := A.t x13 rfl
        replace x103 := A.t x103 rfl
        replace x104 := A.t x104 rfl
        have x113 := A.e 0 113 rfl rfl
        replace hd := HD.below hd hb
        replace hG := Rd.below hG hb
        replace hx := HX.below hx hb
        replace bl := (Fr.grow bl hb)
        replace sd := A.sd sd
        clear A hb
        refine wl_one (.eq (.int .i64 ((k + 1 : Nat) : Int))) rfl 104 rfl (by rw [sd.1]; decide) (st_move (.tmp 113) rfl x113) ?_
        intro f23 w23 df2 sz2 old2 new2 hb
        replace x11 := tr old2 x11 rfl
        replace x12 := tr old2 x12 rfl
        replace x13 := tr old2 x13 rfl
        replace x103 := tr old2 x103 rfl
        clear x104
        replace x113 := tr old2 x113 rfl
        have x104 := Fk.e new2
        replace hd := HD.below hd hb
        replace hG := Rd.below hG hb
        replace hx := HX.below hx hb
        replace bl := (Fr.grow bl hb)
        replace sd := sd2 sz2 df2 sd
        clear df2 sz2 old2 new2 hb
        refine wpList_nil ?_
        clear x113
        show (∃ _, _) ∧ _
        refine ⟨⟨k + 1, by omega, sd.1, sd.2, x11, x12, x13, x103, x104, hd, hx, hG, bl⟩, ?_⟩
        rw [show f23.eval (.tmp 104) = _ from x104, show _ = _ from hcnt]
        first | (simp [intOf]; done) | (simp [intOf]; omega)
      refine wr_d [.eq (.pointer (some ⟨g5, 1, none⟩)), .eq (.int .i64 o.s), .eq (.bool false), .eq (.bool false), .eq (.pointer (some ⟨g5, 1, none⟩)), .eq (.int .i64 o.s), .eq (.pointer (some ⟨x, 0, none⟩)), .eq (.pointer (some ⟨x, 0, none⟩)), .eq (.pointer (some ⟨x, 0, none⟩)), .eq (.slice (some ⟨h, 0, none⟩) t.has.length Ch), .eq (.int .i64 (t.has.length : Int)), .eq (.bool true), .eq (.bool true)] Try.mixed (by rw [sd.1]; kernel_rfl) ⟨fun hw ac u K => ?_, fun hw ac u K => ?_, fun hw ac u K => ?_, fun hw ac u K => ?_, fun hw ac u K => ?_, fun hw ac u K => ?_, fun hw ac u K => ?_, fun hw ac u K => ?_, fun hw ac u K => ?_, fun hw ac u K => ?_, fun hw ac u K => ?_, fun hw ac u K => ?_, fun hw ac u K => ?_, trivial⟩ ?_
      · exact st_field 32 1 (.tmp 5) rfl (K.t x5 rfl) (by kernel_rfl)
      · exact st_loadc 3 (.tmp 75) rfl (by kernel_rfl) (K.dep 0 75 rfl) (Ob.cell (Ob.below m5 K.grow) 1 rfl)
      · exact st_lss 3 (.tmp 76) (.const (.int .i64 0)) rfl .i64 (o.s) (0) (K.dep 1 76 rfl) rfl _ (by symm; rw [decide_eq_false_iff_not]; exact hneg)
      · exact st_move (.tmp 77) rfl (K.dep 2 77 rfl)
      · exact st_field 32 1 (.tmp 5) rfl (K.t x5 rfl) (by kernel_rfl)
      · exact st_loadc 3 (.tmp 79) rfl (by kernel_rfl) (K.dep 4 79 rfl) (Ob.cell (Ob.below m5 K.grow) 1 rfl)
      · exact st_move (.tmp 1) rfl (K.t x1 rfl)
      · exact st_nil (.tmp 81) rfl (K.dep 6 81 rfl)
      · exact st_field 66 0 (.tmp 82) rfl (K.dep 7 82 rfl) (by kernel_rfl)
      · exact st_loadc 45 (.tmp 83) rfl (by kernel_rfl) (K.dep 8 83 rfl) (Ob.cell (Ob.below m0 K.grow) 0 rfl)
      · exact st_lens (.tmp 84) rfl (K.dep 9 84 rfl)
      · exact st_geq 3 (.tmp 80) (.tmp 85) rfl .i64 (o.s) ((t.has.length : Int)) (K.dep 5 80 rfl) (K.dep 10 85 rfl) _ (by symm; rw [decide_eq_true_iff]; exact hge)
      · exact st_pick_f' (.tmp 78) (.const (.bool true)) (.tmp 86) rfl (K.dep 3 78 rfl) (K.dep 11 86 rfl)
      intro f14 w14 A hb
      replace x1 := A.t x1 rfl
      replace x5 := A.t x5 rfl
      replace x11 := A.t x11 rfl
      replace x12 := A.t x12 rfl
      replace x67 := A.t x67 rfl
      have x87 := A.e 12 87 rfl rfl
      replace m5 := Ob.below m5 hb
      replace m0 := Ob.below m0 hb
      replace hsl := Fk.mono _ _ _ _ hsl hb
      replace hd := HD.below hd hb
      replace hG := Rd.below hG hb
      replace rh := Rs.below rh hb
      replace rc := Rs.below rc hb
      replace bl := (Fr.grow bl hb)
      replace sd := A.sd sd
      clear A hb
      clear x67
      show Code.wp _ _ _ _ _
      refine wp_cond_true x87 ?_
      refine wp_seq ?_
      by_cases he : er = 11
      rotate_left
      · skip
        refine wr_a [.eq (.int .i64 er), .eq (.bool false), .eq (.bool false), .any, .any, .any, .eq (.bool false), .eq (.bool false)] (by rw [sd.1]; kernel_rfl) ⟨fun hw ac u K => ?_, fun hw ac u K => ?_, fun hw ac u K => ?_, fun hw ac u K => ?_, fun hw ac u K => ?_, fun hw ac u K => ?_, fun hw ac u K => ?_, fun hw ac u K => ?_, trivial⟩ ?_
        · exact st_move (.tmp 12) rfl (K.t x12 rfl)
        · exact st_eqi 37 (.tmp 88) (.const (.int .i64 11)) rfl .i64 (er) (11) (K.dep 0 88 rfl) rfl _ (by symm; rw [decide_eq_false_iff_not]; exact he)
        · exact st_move (.tmp 89) rfl (K.dep 1 89 rfl)
        · exact (Bool.false_ne_true hw).elim
        · exact (Bool.false_ne_true hw).elim
        · exact (Bool.false_ne_true hw).elim
        · exact st_pick_f' (.tmp 90) (.tmp 93) (.const (.bool false)) rfl (K.dep 2 90 rfl) rfl
        · exact st_assign (.tmp 94) rfl (K.dep 6 94 rfl)
        intro f15 w15 A hb
        replace x1 := A.t x1 rfl
        replace x5 := A.t x5 rfl
        replace x11 := A.t x11 rfl
        replace x12 := A.t x12 rfl
        replace x87 := A.t x87 rfl
        have x6 := A.e 7 6 rfl rfl
        replace m5 := Ob.below m5 hb
        replace m0 := Ob.below m0 hb
        replace hsl := Fk.mono _ _ _ _ hsl hb
        replace hd := HD.below hd hb
        replace hG := Rd.below hG hb
        replace rh := Rs.below rh hb
        replace rc := Rs.below rc hb
        replace bl := (Fr.grow bl hb)
        replace sd := A.sd sd
        clear A hb
        clear x1
        clear x5
        clear x11
        clear x12
        clear x87
        clear m5
        show Code.wp _ _ _ _ _
        refine wp_ret ?_
        repeat (first | with_reducible refine then_ret ?_ | with_reducible refine block_ret ?_)
        have hx : HX w15 x h c t := ⟨Ch, Cc, by rw [hdn]; exact m0, rh, rc, hl, n1, n2, n3, hma, hmm⟩
        clear m0 rh rc
        have e8 : stepD s o = s := by unfold stepD; rw [if_neg hk1, if_neg hk2, if_neg (by omega), if_neg (by omega), if_neg (by omega)]
        have e9 : stepD t o = t := by unfold stepD; rw [if_neg hk1, if_neg hk2, if_neg (by omega), if_neg (by omega), if_neg (by omega)]
        exact bodyPost_ret (v := .bool false) (ret_slot rfl f15 _ x6 _ _) sd.2 ⟨DD, false, rfl, fun q => absurd (by rw [← hr1, q, rd_range hdn (.inr hge)]) he, by rw [e8]; exact hd, by rw [e9]; exact hx, hxD, hDD, bl⟩
      by_cases hn : bs.length = 0
      rotate_left
      · skip
        refine wr_a [.eq (.int .i64 er), .eq (.bool true), .eq (.bool true), .eq (.slice A bs.length C), .eq (.int .i64 (bs.length : Int)), .eq (.bool false), .eq (.bool false), .eq (.bool false)] (by rw [sd.1]; kernel_rfl) ⟨fun hw ac u K => ?_, fun hw ac u K => ?_, fun hw ac u K => ?_, fun hw ac u K => ?_, fun hw ac u K => ?_, fun hw ac u K => ?_, fun hw ac u K => ?_, fun hw ac u K => ?_, trivial⟩ ?_
        · exact st_move (.tmp 12) rfl (K.t x12 rfl)
        · exact st_eqi 37 (.tmp 88) (.const (.int .i64 11)) rfl .i64 (er) (11) (K.dep 0 88 rfl) rfl _ (by symm; rw [decide_eq_true_iff]; exact he)
        · exact st_move (.tmp 89) rfl (K.dep 1 89 rfl)
        · exact st_move (.tmp 11) rfl (K.t x11 rfl)
        · exact st_lenB (.tmp 91) rfl (K.dep 3 91 rfl)
        · exact st_eqi 3 (.tmp 92) (.const (.int .i64 0)) rfl .i64 ((bs.length : Int)) (0) (K.dep 4 92 rfl) rfl _ (by symm; rw [decide_eq_false_iff_not]; omega)
        · exact st_pick_t (.tmp 90) (.tmp 93) (.const (.bool false)) rfl (K.dep 2 90 rfl) (K.dep 5 93 rfl)
        · exact st_assign (.tmp 94) rfl (K.dep 6 94 rfl)
        intro f15 w15 A hb
        replace x1 := A.t x1 rfl
        replace x5 := A.t x5 rfl
        replace x11 := A.t x11 rfl
        replace x12 := A.t x12 rfl
        replace x87 := A.t x87 rfl
        have x6 := A.e 7 6 rfl rfl
        replace m5 := Ob.below m5 hb
        replace m0 := Ob.below m0 hb
        replace hsl := Fk.mono _ _ _ _ hsl hb
        replace hd := HD.below hd hb
        replace hG := Rd.below hG hb
        replace rh := Rs.below rh hb
        replace rc := Rs.below rc hb
        replace bl := (Fr.grow bl hb)
        replace sd := A.sd sd
        clear A hb
        clear x1
        clear x5
        clear x11
        clear x12
        clear x87
        clear m5
        show Code.wp _ _ _ _ _
        refine wp_ret ?_
        repeat (first | with_reducible refine then_ret ?_ | with_reducible refine block_ret ?_)
        have hx : HX w15 x h c t := ⟨Ch, Cc, by rw [hdn]; exact m0, rh, rc, hl, n1, n2, n3, hma, hmm⟩
        clear m0 rh rc
        have e8 : stepD s o = s := by unfold stepD; rw [if_neg hk1, if_neg hk2, if_neg (by omega), if_neg (by omega), if_neg (by omega)]
        have e9 : stepD t o = t := by unfold stepD; rw [if_neg hk1, if_neg hk2, if_neg (by omega), if_neg (by omega), if_neg (by omega)]
        exact bodyPost_ret (v := .bool false) (ret_slot rfl f15 _ x6 _ _) sd.2 ⟨DD, false, rfl, fun q => absurd (by rw [← hr2, q, rd_range hdn (.inr hge)]; rfl) hn, by rw [e8]; exact hd, by rw [e9]; exact hx, hxD, hDD, bl⟩
      refine wr_a [.eq (.int .i64 er), .eq (.bool true), .eq (.bool true), .eq (.slice A bs.length C), .eq (.int .i64 (bs.length : Int)), .eq (.bool true), .eq (.bool true), .eq (.bool true)] (by rw [sd.1]; kernel_rfl) ⟨fun hw ac u K => ?_, fun hw ac u K => ?_, fun hw ac u K => ?_, fun hw ac u K => ?_, fun hw ac u K => ?_, fun hw ac u K => ?_, fun hw ac u K => ?_, fun hw ac u K => ?_, trivial⟩ ?_
      · exact st_move (.tmp 12) rfl (K.t x12 rfl)
      · exact st_eqi 37 (.tmp 88) (.const (.int .i64 11)) rfl .i64 (er) (11) (K.dep 0 88 rfl) rfl _ (by symm; rw [decide_eq_true_iff]; exact he)
      · exact st_move (.tmp 89) rfl (K.dep 1 89 rfl)
      · exact st_move (.tmp 11) rfl (K.t x11 rfl)
      · exact st_lenB (.tmp 91) rfl (K.dep 3 91 rfl)
      · exact st_eqi 3 (.tmp 92) (.const (.int .i64 0)) rfl .i64 ((bs.length : Int)) (0) (K.dep 4 92 rfl) rfl _ (by symm; rw [decide_eq_true_iff]; omega)
      · exact st_pick_t (.tmp 90) (.tmp 93) (.const (.bool false)) rfl (K.dep 2 90 rfl) (K.dep 5 93 rfl)
      · exact st_assign (.tmp 94) rfl (K.dep 6 94 rfl)
      intro f15 w15 A hb
      replace x1 := A.t x1 rfl
      replace x5 := A.t x5 rfl
      replace x11 := A.t x11 rfl
      replace x12 := A.t x12 rfl
      replace x87 := A.t x87 rfl
      have x6 := A.e 7 6 rfl rfl
      replace m5 := Ob.below m5 hb
      replace m0 := Ob.below m0 hb
      replace hsl := Fk.mono _ _ _ _ hsl hb
      replace hd := HD.below hd hb
      replace hG := Rd.below hG hb
      replace rh := Rs.below rh hb
      replace rc := Rs.below rc hb
      replace bl := (Fr.grow bl hb)
      replace sd := A.sd sd
      clear A hb
      clear x1
      clear x5
      clear x11
      clear x12
      clear x87
      clear m5
      show Code.wp _ _ _ _ _
      refine wp_ret ?_
      repeat (first | with_reducible refine then_ret ?_ | with_reducible refine block_ret ?_)
      have hx : HX w15 x h c t := ⟨Ch, Cc, by rw [hdn]; exact m0, rh, rc, hl, n1, n2, n3, hma, hmm⟩
      clear m0 rh rc
      have e8 : stepD s o = s := by unfold stepD; rw [if_neg hk1, if_neg hk2, if_neg (by omega), if_neg (by omega), if_neg (by omega)]
      have e9 : stepD t o = t := by unfold stepD; rw [if_neg hk1, if_neg hk2, if_neg (by omega), if_neg (by omega), if_neg (by omega)]
      exact bodyPost_ret (v := .bool true) (ret_slot rfl f15 _ x6 _ _) sd.2 ⟨DD, true, rfl, fun _ => rfl, by rw [e8]; exact hd, by rw [e9]; exact hx, hxD, hDD, bl⟩
    refine wr_d [.eq (.pointer (some ⟨g5, 1, none⟩)), .eq (.int .i64 o.s), .eq (.bool true), .eq (.bool true), .any, .any, .any, .any, .any, .any, .any, .any, .eq (.bool true)] Try.mixed (by rw [sd.1]; kernel_rfl) ⟨fun hw ac u K => ?_, fun hw ac u K => ?_, fun hw ac u K => ?_, fun hw ac u K => ?_, fun hw ac u K => ?_, fun hw ac u K => ?_, fun hw ac u K => ?_, fun hw ac u K => ?_, fun hw ac u K => ?_, fun hw ac u K => ?_, fun hw ac u K => ?_, fun hw ac u K => ?_, fun hw ac u K => ?_, trivial⟩ ?_
    · exact st_field 32 1 (.tmp 5) rfl (K.t x5 rfl) (by kernel_rfl)
    · exact st_loadc 3 (.tmp 75) rfl (by kernel_rfl) (K.dep 0 75 rfl) (Ob.cell (Ob.below m5 K.grow) 1 rfl)
    · exact st_lss 3 (.tmp 76) (.const (.int .i64 0)) rfl .i64 (o.s) (0) (K.dep 1 76 rfl) rfl _ (by symm; rw [decide_eq_true_iff]; exact hneg)
    · exact st_move (.tmp 77) rfl (K.dep 2 77 rfl)
    · exact (Bool.false_ne_true hw).elim
    · exact (Bool.false_ne_true hw).elim
    · exact (Bool.false_ne_true hw).elim
    · exact (Bool.false_ne_true hw).elim
    · exact (Bool.false_ne_true hw).elim
    · exact (Bool.false_ne_true hw).elim
    · exact (Bool.false_ne_true hw).elim
    · exact (Bool.false_ne_true hw).elim
    · exact st_pick_t (.tmp 78) (.const (.bool true)) (.tmp 86) rfl (K.dep 3 78 rfl) rfl
    intro f14 w14 A hb
    replace x1 := A.t x1 rfl
    replace x5 := A.t x5 rfl
    replace x11 := A.t x11 rfl
    replace x12 := A.t x12 rfl
    replace x67 := A.t x67 rfl
    have x87 := A.e 12 87 rfl rfl
    replace m5 := Ob.below m5 hb
    replace m0 := Ob.below m0 hb
    replace hsl := Fk.mono _ _ _ _ hsl hb
    replace hd := HD.below hd hb
    replace hG := Rd.below hG hb
    replace rh := Rs.below rh hb
    replace rc := Rs.below rc hb
    replace bl := (Fr.grow bl hb)
    replace sd := A.sd sd
    clear A hb
    clear x67
    show Code.wp _ _ _ _ _
    refine wp_cond_true x87 ?_
    refine wp_seq ?_
    by_cases he : er = 11
    rotate_left
    · skip
      refine wr_a [.eq (.int .i64 er), .eq (.bool false), .eq (.bool false), .any, .any, .any, .eq (.bool false), .eq (.bool false)] (by rw [sd.1]; kernel_rfl) ⟨fun hw ac u K => ?_, fun hw ac u K => ?_, fun hw ac u K => ?_, fun hw ac u K => ?_, fun hw ac u K => ?_, fun hw ac u K => ?_, fun hw ac u K => ?_, fun hw ac u K => ?_, trivial⟩ ?_
      · exact st_move (.tmp 12) rfl (K.t x12 rfl)
      · exact st_eqi 37 (.tmp 88) (.const (.int .i64 11)) rfl .i64 (er) (11) (K.dep 0 88 rfl) rfl _ (by symm; rw [decide_eq_false_iff_not]; exact he)
      · exact st_move (.tmp 89) rfl (K.dep 1 89 rfl)
      · exact (Bool.false_ne_true hw).elim
      · exact (Bool.false_ne_true hw).elim
      · exact (Bool.false_ne_true hw).elim
      · exact st_pick_f' (.tmp 90) (.tmp 93) (.const (.bool false)) rfl (K.dep 2 90 rfl) rfl
      · exact st_assign (.tmp 94) rfl (K.dep 6 94 rfl)
      intro f15 w15 A hb
      replace x1 := A.t x1 rfl
      replace x5 := A.t x5 rfl
      replace x11 := A.t x11 rfl
      replace x12 := A.t x12 rfl
      replace x87 := A.t x87 rfl
      have x6 := A.e 7 6 rfl rfl
      replace m5 := Ob.below m5 hb
      replace m0 := Ob.below m0 hb
      replace hsl := Fk.mono _ _ _ _ hsl hb
      replace hd := HD.below hd hb
      replace hG := Rd.below hG hb
      replace rh := Rs.below rh hb
      replace rc := Rs.below rc hb
      replace bl := (Fr.grow bl hb)
      replace sd := A.sd sd
      clear A hb
      clear x1
      clear x5
      clear x11
      clear x12
      clear x87
      clear m5
      show Code.wp _ _ _ _ _
      refine wp_ret ?_
      repeat (first | with_reducible refine then_ret ?_ | with_reducible refine block_ret ?_)
      have hx : HX w15 x h c t := ⟨Ch, Cc, by rw [hdn]; exact m0, rh, rc, hl, n1, n2, n3, hma, hmm⟩
      clear m0 rh rc
      have e8 : stepD s o = s := by unfold stepD; rw [if_neg hk1, if_neg hk2, if_neg (by omega), if_neg (by omega), if_neg (by omega)]
      have e9 : stepD t o = t := by unfold stepD; rw [if_neg hk1, if_neg hk2, if_neg (by omega), if_neg (by omega), if_neg (by omega)]
      exact bodyPost_ret (v := .bool false) (ret_slot rfl f15 _ x6 _ _) sd.2 ⟨DD, false, rfl, fun q => absurd (by rw [← hr1, q, rd_range hdn (.inl hneg)]) he, by rw [e8]; exact hd, by rw [e9]; exact hx, hxD, hDD, bl⟩
    by_cases hn : bs.length = 0
    rotate_left
    · skip
      refine wr_a [.eq (.int .i64 er), .eq (.bool true), .eq (.bool true), .eq (.slice A bs.length C), .eq (.int .i64 (bs.length : Int)), .eq (.bool false), .eq (.bool false), .eq (.bool false)] (by rw [sd.1]; kernel_rfl) ⟨fun hw ac u K => ?_, fun hw ac u K => ?_, fun hw ac u K => ?_, fun hw ac u K => ?_, fun hw ac u K => ?_, fun hw ac u K => ?_, fun hw ac u K => ?_, fun hw ac u K => ?_, trivial⟩ ?_
      · exact st_move (.tmp 12) rfl (K.t x12 rfl)
      · exact st_eqi 37 (.tmp 88) (.const (.int .i64 11)) rfl .i64 (er) (11) (K.dep 0 88 rfl) rfl _ (by symm; rw [decide_eq_true_iff]; exact he)
      · exact st_move (.tmp 89) rfl (K.dep 1 89 rfl)
      · exact st_move (.tmp 11) rfl (K.t x11 rfl)
      · exact st_lenB (.tmp 91) rfl (K.dep 3 91 rfl)
      · exact st_eqi 3 (.tmp 92) (.const (.int .i64 0)) rfl .i64 ((bs.length : Int)) (0) (K.dep 4 92 rfl) rfl _ (by symm; rw [decide_eq_false_iff_not]; omega)
      · exact st_pick_t (.tmp 90) (.tmp 93) (.const (.bool false)) rfl (K.dep 2 90 rfl) (K.dep 5 93 rfl)
      · exact st_assign (.tmp 94) rfl (K.dep 6 94 rfl)
      intro f15 w15 A hb
      replace x1 := A.t x1 rfl
      replace x5 := A.t x5 rfl
      replace x11 := A.t x11 rfl
      replace x12 := A.t x12 rfl
      replace x87 := A.t x87 rfl
      have x6 := A.e 7 6 rfl rfl
      replace m5 := Ob.below m5 hb
      replace m0 := Ob.below m0 hb
      replace hsl := Fk.mono _ _ _ _ hsl hb
      replace hd := HD.below hd hb
      replace hG := Rd.below hG hb
      replace rh := Rs.below rh hb
      replace rc := Rs.below rc hb
      replace bl := (Fr.grow bl hb)
      replace sd := A.sd sd
      clear A hb
      clear x1
      clear x5
      clear x11
      clear x12
      clear x87
      clear m5
      show Code.wp _ _ _ _ _
      refine wp_ret ?_
      repeat (first | with_reducible refine then_ret ?_ | with_reducible refine block_ret ?_)
      have hx : HX w15 x h c t := ⟨Ch, Cc, by rw [hdn]; exact m0, rh, rc, hl, n1, n2, n3, hma, hmm⟩
      clear m0 rh rc
      have e8 : stepD s o = s := by unfold stepD; rw [if_neg hk1, if_neg hk2, if_neg (by omega), if_neg (by omega), if_neg (by omega)]
      have e9 : stepD t o = t := by unfold stepD; rw [if_neg hk1, if_neg hk2, if_neg (by omega), if_neg (by omega), if_neg (by omega)]
      exact bodyPost_ret (v := .bool false) (ret_slot rfl f15 _ x6 _ _) sd.2 ⟨DD, false, rfl, fun q => absurd (by rw [← hr2, q, rd_range hdn (.inl hneg)]; rfl) hn, by rw [e8]; exact hd, by rw [e9]; exact hx, hxD, hDD, bl⟩
    refine wr_a [.eq (.int .i64 er), .eq (.bool true), .eq (.bool true), .eq (.slice A bs.length C), .eq (.int .i64 (bs.length : Int)), .eq (.bool true), .eq (.bool true), .eq (.bool true)] (by rw [sd.1]; kernel_rfl) ⟨fun hw ac u K => ?_, fun hw ac u K => ?_, fun hw ac u K => ?_, fun hw ac u K => ?_, fun hw ac u K => ?_, fun hw ac u K => ?_, fun hw ac u K => ?_, fun hw ac u K => ?_, trivial⟩ ?_
    · exact st_move (.tmp 12) rfl (K.t x12 rfl)
    · exact st_eqi 37 (.tmp 88) (.const (.int .i64 11)) rfl .i64 (er) (11) (K.dep 0 88 rfl) rfl _ (by symm; rw [decide_eq_true_iff]; exact he)
    · exact st_move (.tmp 89) rfl (K.dep 1 89 rfl)
    · exact st_move (.tmp 11) rfl (K.t x11 rfl)
    · exact st_lenB (.tmp 91) rfl (K.dep 3 91 rfl)
    · exact st_eqi 3 (.tmp 92) (.const (.int .i64 0)) rfl .i64 ((bs.length : Int)) (0) (K.dep 4 92 rfl) rfl _ (by symm; rw [decide_eq_true_iff]; omega)
    · exact st_pick_t (.tmp 90) (.tmp 93) (.const (.bool false)) rfl (K.dep 2 90 rfl) (K.dep 5 93 rfl)
    · exact st_assign (.tmp 94) rfl (K.dep 6 94 rfl)
    intro f15 w15 A hb
    replace x1 := A.t x1 rfl
    replace x5 := A.t x5 rfl
    replace x11 := A.t x11 rfl
    replace x12 := A.t x12 rfl
    replace x87 := A.t x87 rfl
    have x6 := A.e 7 6 rfl rfl
    replace m5 := Ob.below m5 hb
    replace m0 := Ob.below m0 hb
    replace hsl := Fk.mono _ _ _ _ hsl hb
    replace hd := HD.below hd hb
    replace hG := Rd.below hG hb
    replace rh := Rs.below rh hb
    replace rc := Rs.below rc hb
    replace bl := (Fr.grow bl hb)
    replace sd := A.sd sd
    clear A hb
    clear x1
    clear x5
    clear x11
    clear x12
    clear x87
    clear m5
    show Code.wp _ _ _ _ _
    refine wp_ret ?_
    repeat (first | with_reducible refine then_ret ?_ | with_reducible refine block_ret ?_)
    have hx : HX w15 x h c t := ⟨Ch, Cc, by rw [hdn]; exact m0, rh, rc, hl, n1, n2, n3, hma, hmm⟩
    clear m0 rh rc
    have e8 : stepD s o = s := by unfold stepD; rw [if_neg hk1, if_neg hk2, if_neg (by omega), if_neg (by omega), if_neg (by omega)]
    have e9 : stepD t o = t := by unfold stepD; rw [if_neg hk1, if_neg hk2, if_neg (by omega), if_neg (by omega), if_neg (by omega)]
    exact bodyPost_ret (v := .bool true) (ret_slot rfl f15 _ x6 _ _) sd.2 ⟨DD, true, rfl, fun _ => rfl, by rw [e8]; exact hd, by rw [e9]; exact hx, hxD, hDD, bl⟩
  rw [hdn] at m0
  refine wr_a [.eq (.pointer (some ⟨x, 0, none⟩)), .eq (.pointer (some ⟨x, 0, none⟩)), .eq (.pointer (some ⟨x, 6, none⟩)), .eq (.bool true)] (by rw [sd.1]; kernel_rfl) ⟨fun hw ac u K => ?_, fun hw ac u K => ?_, fun hw ac u K => ?_, fun hw ac u K => ?_, trivial⟩ ?_
  · exact st_move (.tmp 1) rfl (K.t x1 rfl)
  · exact st_nil (.tmp 64) rfl (K.dep 0 64 rfl)
  · exact st_field 66 6 (.tmp 65) rfl (K.dep 1 65 rfl) (by kernel_rfl)
  · exact st_loadc 4 (.tmp 66) rfl (by kernel_rfl) (K.dep 2 66 rfl) (Ob.cell (Ob.below m0 K.grow) 6 rfl)
  intro f13 w13 A hb
  replace x1 := A.t x1 rfl
  replace x5 := A.t x5 rfl
  replace x11 := A.t x11 rfl
  replace x12 := A.t x12 rfl
  have x67 := A.e 3 67 rfl rfl
  replace m5 := Ob.below m5 hb
  replace m0 := Ob.below m0 hb
  replace hsl := Fk.mono _ _ _ _ hsl hb
  replace hd := HD.below hd hb
  replace hG := Rd.below hG hb
  replace rh := Rs.below rh hb
  replace rc := Rs.below rc hb
  replace bl := (Fr.grow bl hb)
  replace sd := A.sd sd
  clear A hb
  show Code.wp _ _ _ _ _
  refine wp_cond_true x67 ?_
  refine wp_seq ?_
  by_cases he : er = 30
  rotate_left
  · skip
    refine wr_a [.eq (.int .i64 er), .eq (.bool false), .eq (.bool false), .any, .any, .any, .eq (.bool false), .eq (.bool false)] (by rw [sd.1]; kernel_rfl) ⟨fun hw ac u K => ?_, fun hw ac u K => ?_, fun hw ac u K => ?_, fun hw ac u K => ?_, fun hw ac u K => ?_, fun hw ac u K => ?_, fun hw ac u K => ?_, fun hw ac u K => ?_, trivial⟩ ?_
    · exact st_move (.tmp 12) rfl (K.t x12 rfl)
    · exact st_eqi 37 (.tmp 68) (.const (.int .i64 30)) rfl .i64 (er) (30) (K.dep 0 68 rfl) rfl _ (by symm; rw [decide_eq_false_iff_not]; exact he)
    · exact st_move (.tmp 69) rfl (K.dep 1 69 rfl)
    · exact (Bool.false_ne_true hw).elim
    · exact (Bool.false_ne_true hw).elim
    · exact (Bool.false_ne_true hw).elim
    · exact st_pick_f' (.tmp 70) (.tmp 73) (.const (.bool false)) rfl (K.dep 2 70 rfl) rfl
    · exact st_assign (.tmp 74) rfl (K.dep 6 74 rfl)
    intro f14 w14 A hb
    replace x1 := A.t x1 rfl
    replace x5 := A.t x5 rfl
    replace x11 := A.t x11 rfl
    replace x12 := A.t x12 rfl
    replace x67 := A.t x67 rfl
    have x6 := A.e 7 6 rfl rfl
    replace m5 := Ob.below m5 hb
    replace m0 := Ob.below m0 hb
    replace hsl := Fk.mono _ _ _ _ hsl hb
    replace hd := HD.below hd hb
    replace hG := Rd.below hG hb
    replace rh := Rs.below rh hb
    replace rc := Rs.below rc hb
    replace bl := (Fr.grow bl hb)
    replace sd := A.sd sd
    clear A hb
    clear x1
    clear x5
    clear x11
    clear x12
    clear x67
    clear m5
    show Code.wp _ _ _ _ _
    refine wp_ret ?_
    repeat (first | with_reducible refine then_ret ?_ | with_reducible refine block_ret ?_)
    have hx : HX w14 x h c t := ⟨Ch, Cc, by rw [hdn]; exact m0, rh, rc, hl, n1, n2, n3, hma, hmm⟩
    clear m0 rh rc
    have e8 : stepD s o = s := by unfold stepD; rw [if_neg hk1, if_neg hk2, if_neg (by omega), if_neg (by omega), if_neg (by omega)]
    have e9 : stepD t o = t := by unfold stepD; rw [if_neg hk1, if_neg hk2, if_neg (by omega), if_neg (by omega), if_neg (by omega)]
    exact bodyPost_ret (v := .bool false) (ret_slot rfl f14 _ x6 _ _) sd.2 ⟨DD, false, rfl, fun q => absurd (by rw [← hr1, q, rd_down hdn o.s]) he, by rw [e8]; exact hd, by rw [e9]; exact hx, hxD, hDD, bl⟩
  by_cases hn : bs.length = 0
  rotate_left
  · skip
    refine wr_a [.eq (.int .i64 er), .eq (.bool true), .eq (.bool true), .eq (.slice A bs.length C), .eq (.int .i64 (bs.length : Int)), .eq (.bool false), .eq (.bool false), .eq (.bool false)] (by rw [sd.1]; kernel_rfl) ⟨fun hw ac u K => ?_, fun hw ac u K => ?_, fun hw ac u K => ?_, fun hw ac u K => ?_, fun hw ac u K => ?_, fun hw ac u K => ?_, fun hw ac u K => ?_, fun hw ac u K => ?_, trivial⟩ ?_
    · exact st_move (.tmp 12) rfl (K.t x12 rfl)
    · exact st_eqi 37 (.tmp 68) (.const (.int .i64 30)) rfl .i64 (er) (30) (K.dep 0 68 rfl) rfl _ (by symm; rw [decide_eq_true_iff]; exact he)
    · exact st_move (.tmp 69) rfl (K.dep 1 69 rfl)
    · exact st_move (.tmp 11) rfl (K.t x11 rfl)
    · exact st_lenB (.tmp 71) rfl (K.dep 3 71 rfl)
    · exact st_eqi 3 (.tmp 72) (.const (.int .i64 0)) rfl .i64 ((bs.length : Int)) (0) (K.dep 4 72 rfl) rfl _ (by symm; rw [decide_eq_false_iff_not]; omega)
    · exact st_pick_t (.tmp 70) (.tmp 73) (.const (.bool false)) rfl (K.dep 2 70 rfl) (K.dep 5 73 rfl)
    · exact st_assign (.tmp 74) rfl (K.dep 6 74 rfl)
    intro f14 w14 A hb
    replace x1 := A.t x1 rfl
    replace x5 := A.t x5 rfl
    replace x11 := A.t x11 rfl
    replace x12 := A.t x12 rfl
    replace x67 := A.t x67 rfl
    have x6 := A.e 7 6 rfl rfl
    replace m5 := Ob.below m5 hb
    replace m0 := Ob.below m0 hb
    replace hsl := Fk.mono _ _ _ _ hsl hb
    replace hd := HD.below hd hb
    replace hG := Rd.below hG hb
    replace rh := Rs.below rh hb
    replace rc := Rs.below rc hb
    replace bl := (Fr.grow bl hb)
    replace sd := A.sd sd
    clear A hb
    clear x1
    clear x5
    clear x11
    clear x12
    clear x67
    clear m5
    show Code.wp _ _ _ _ _
    refine wp_ret ?_
    repeat (first | with_reducible refine then_ret ?_ | with_reducible refine block_ret ?_)
    have hx : HX w14 x h c t := ⟨Ch, Cc, by rw [hdn]; exact m0, rh, rc, hl, n1, n2, n3, hma, hmm⟩
    clear m0 rh rc
    have e8 : stepD s o = s := by unfold stepD; rw [if_neg hk1, if_neg hk2, if_neg (by omega), if_neg (by omega), if_neg (by omega)]
    have e9 : stepD t o = t := by unfold stepD; rw [if_neg hk1, if_neg hk2, if_neg (by omega), if_neg (by omega), if_neg (by omega)]
    exact bodyPost_ret (v := .bool false) (ret_slot rfl f14 _ x6 _ _) sd.2 ⟨DD, false, rfl, fun q => absurd (by rw [← hr2, q, rd_down hdn o.s]; rfl) hn, by rw [e8]; exact hd, by rw [e9]; exact hx, hxD, hDD, bl⟩
  refine wr_a [.eq (.int .i64 er), .eq (.bool true), .eq (.bool true), .eq (.slice A bs.length C), .eq (.int .i64 (bs.length : Int)), .eq (.bool true), .eq (.bool true), .eq (.bool true)] (by rw [sd.1]; kernel_rfl) ⟨fun hw ac u K => ?_, fun hw ac u K => ?_, fun hw ac u K => ?_, fun hw ac u K => ?_, fun hw ac u K => ?_, fun hw ac u K => ?_, fun hw ac u K => ?_, fun hw ac u K => ?_, trivial⟩ ?_
  · exact st_move (.tmp 12) rfl (K.t x12 rfl)
  · exact st_eqi 37 (.tmp 68) (.const (.int .i64 30)) rfl .i64 (er) (30) (K.dep 0 68 rfl) rfl _ (by symm; rw [decide_eq_true_iff]; exact he)
  · exact st_move (.tmp 69) rfl (K.dep 1 69 rfl)
  · exact st_move (.tmp 11) rfl (K.t x11 rfl)
  · exact st_lenB (.tmp 71) rfl (K.dep 3 71 rfl)
  · exact st_eqi 3 (.tmp 72) (.const (.int .i64 0)) rfl .i64 ((bs.length : Int)) (0) (K.dep 4 72 rfl) rfl _ (by symm; rw [decide_eq_true_iff]; omega)
  · exact st_pick_t (.tmp 70) (.tmp 73) (.const (.bool false)) rfl (K.dep 2 70 rfl) (K.dep 5 73 rfl)
  · exact st_assign (.tmp 74) rfl (K.dep 6 74 rfl)
  intro f14 w14 A hb
  replace x1 := A.t x1 rfl
  replace x5 := A.t x5 rfl
  replace x11 := A.t x11 rfl
  replace x12 := A.t x12 rfl
  replace x67 := A.t x67 rfl
  have x6 := A.e 7 6 rfl rfl
  replace m5 := Ob.below m5 hb
  replace m0 := Ob.below m0 hb
  replace hsl := Fk.mono _ _ _ _ hsl hb
  replace hd := HD.below hd hb
  replace hG := Rd.below hG hb
  replace rh := Rs.below rh hb
  replace rc := Rs.below rc hb
  replace bl := (Fr.grow bl hb)
  replace sd := A.sd sd
  clear A hb
  clear x1
  clear x5
  clear x11
  clear x12
  clear x67
  clear m5
  show Code.wp _ _ _ _ _
  refine wp_ret ?_
  repeat (first | with_reducible refine then_ret ?_ | with_reducible refine block_ret ?_)
  have hx : HX w14 x h c t := ⟨Ch, Cc, by rw [hdn]; exact m0, rh, rc, hl, n1, n2, n3, hma, hmm⟩
  clear m0 rh rc
  have e8 : stepD s o = s := by unfold stepD; rw [if_neg hk1, if_neg hk2, if_neg (by omega), if_neg (by omega), if_neg (by omega)]
  have e9 : stepD t o = t := by unfold stepD; rw [if_neg hk1, if_neg hk2, if_neg (by omega), if_neg (by omega), if_neg (by omega)]
  exact bodyPost_ret (v := .bool true) (ret_slot rfl f14 _ x6 _ _) sd.2 ⟨DD, true, rfl, fun _ => rfl, by rw [e8]; exact hd, by rw [e9]; exact hx, hxD, hDD, bl⟩
end Go.Proofs.Ytjdpomilifnlaaa
namespace Go.Proofs.Ytjdpomilifnlaaa
set_option maxRecDepth 100000
open Go.RowKit
theorem stq1 {w : World} {gd x h c : Nat} {M D : Nat → Prop} {s t : Dst} (hd : HD w gd M D s) (hx : HX w x h c t) (hxD : ¬ D x ∧ ¬ D h ∧ ¬ D c) (hs : s.done ≤ 1000000) (ht : t.done ≤ 1000000) (h60 : s.has.length ≤ 100000) (_t60 : t.has.length ≤ 100000) {o : Opn} (hbF : ∀ {W : World}, Fr (fun j => M j ∨ j = x ∨ j = h ∨ j = c) w W → (Fk.sl o.bs).f o.vb W) (hlF : ∀ {W : World}, Fr (fun j => M j ∨ j = x ∨ j = h ∨ j = c) w W → (Fk.is o.ls).f o.vl W) (hob : o.bs.length ≤ 100000) (hk : o.k = 1) :
    Calls Try.prog 12 #[.pointer (some ⟨gd, 0, none⟩), .pointer (some ⟨x, 0, none⟩), o.val] w fun e w' => ∃ (DD : Nat → Prop) (r : Bool), e = .returned (.bool r) ∧ (s = t → r = true) ∧ HD w' gd M DD (stepD s o) ∧ HX w' x h c (stepD t o) ∧ (¬ DD x ∧ ¬ DD h ∧ ¬ DD c) ∧ (∀ j, DD j → D j ∨ w.heap.size ≤ j) ∧ Fr (fun j => M j ∨ j = x ∨ j = h ∨ j = c) w w' := by
  obtain ⟨DD, hDe⟩ : ∃ E, E = D := ⟨_, rfl⟩
  rw [← hDe] at hd hxD
  have hDD : ∀ j, DD j → D j ∨ w.heap.size ≤ j := fun j q => .inl (hDe ▸ q)
  clear hDe
  have hdL := hd.lt
  have hxL := hx.lt
  go_enter Try.func12, Try.ntmps12
  refine code_both (fun f w1 => f.tmps.size = 161 ∧ f.defers = [] ∧ f.eval (.tmp 0) = .pointer (some ⟨gd, 0, none⟩) ∧ f.eval (.tmp 1) = .pointer (some ⟨x, 0, none⟩) ∧ f.eval (.tmp 2) = .agg ([.int .i64 o.k, .int .i64 o.s, .int .i64 o.n, o.vb, o.vl] : List Value).toArray ∧ HD w1 gd M DD s ∧ HX w1 x h c t ∧ Fr (fun j => M j ∨ j = x ∨ j = h ∨ j = c) w (w1)) ⟨rfl, rfl, rfl, rfl, rfl, hd, hx, Fr.refl _ _⟩ ?_
  clear hd hx
  rintro f0 w0 ⟨sz, df, x0, x1, x2, hd, hx, bl⟩
  have sd := And.intro sz df
  clear sz df
  have bl0 := bl
  refine wp_seq ?_
  refine wr_a [.nw w0.heap.size 32 ([.int .i64 o.k, .int .i64 o.s, .int .i64 o.n, o.vb, o.vl] : List Value), .eq (.bool false)] (by rw [sd.1]; kernel_rfl) ⟨fun hw ac u K => ?_, fun hw ac u K => ?_, trivial⟩ ?_
  · exact st_box 32 (.tmp 2) rfl _ _ (by rw [show _ = _ from (K.t x2 rfl)]; kernel_rfl) K.grow.size
  · exact st_assign (.const (.bool false)) rfl rfl
  intro f1 w1 A hb
  replace bl0 := bl
  replace x0 := A.t x0 rfl
  replace x1 := A.t x1 rfl
  replace x2 := A.t x2 rfl
  have x5 : Fk.f (.nw w0.heap.size 32 ([.int .i64 o.k, .int .i64 o.s, .int .i64 o.n, o.vb, o.vl] : List Value)) (f1.eval (.tmp 5)) w1 := A.has 0 5 rfl
  replace hd := HD.below hd hb
  replace hx := HX.below hx hb
  replace bl := (Fr.grow bl hb)
  replace sd := A.sd sd
  clear A hb
  clear x2
  obtain ⟨g5, hg5, e5, m5⟩ := x5
  have x5 := e5
  clear e5
  have hw5 : w.heap.size ≤ g5 := Nat.le_trans bl0.size hg5
  have nDm5 : ¬ DD g5 := fun q => by have := hdL _ q; have := bl0.size; omega
  have nXm5 : ¬ (g5 = x ∨ g5 = h ∨ g5 = c) := by have := bl0.size; omega
  clear hdL hxL
  show Code.wp _ _ _ _ _
  refine wp_seq ?_
  refine wp_seq ?_
  refine wr_a [.eq (.pointer (some ⟨g5, 0, none⟩)), .eq (.int .i64 o.k)] (by rw [sd.1]; kernel_rfl) ⟨fun hw ac u K => ?_, fun hw ac u K => ?_, trivial⟩ ?_
  · exact st_field 32 0 (.tmp 5) rfl (K.t x5 rfl) (by kernel_rfl)
  · exact st_loadc 3 (.tmp 15) rfl (by kernel_rfl) (K.dep 0 15 rfl) (Ob.cell (Ob.below m5 K.grow) 0 rfl)
  intro f2 w2 A hb
  replace x0 := A.t x0 rfl
  replace x1 := A.t x1 rfl
  replace x5 := A.t x5 rfl
  have x16 := A.e 1 16 rfl rfl
  replace m5 := Ob.below m5 hb
  replace hd := HD.below hd hb
  replace hx := HX.below hx hb
  replace bl := (Fr.grow bl hb)
  replace sd := A.sd sd
  clear A hb
  show Code.wp _ _ _ _ _
  refine wp_block ?_
  refine wp_seq ?_
  refine wr_a [.eq (.bool true), .eq (.bool true)] (by rw [sd.1]; kernel_rfl) ⟨fun hw ac u K => ?_, fun hw ac u K => ?_, trivial⟩ ?_
  · exact st_eqi 3 (.tmp 16) (.const (.int .i64 1)) rfl .i64 (o.k) (1) (K.t x16 rfl) rfl _ (by symm; rw [decide_eq_true_iff]; exact hk)
  · exact st_assign (.tmp 18) rfl (K.dep 0 18 rfl)
  intro f3 w3 A hb
  replace x0 := A.t x0 rfl
  replace x1 := A.t x1 rfl
  replace x5 := A.t x5 rfl
  replace x16 := A.t x16 rfl
  have x17 := A.e 1 17 rfl rfl
  replace m5 := Ob.below m5 hb
  replace hd := HD.below hd hb
  replace hx := HX.below hx hb
  replace bl := (Fr.grow bl hb)
  replace sd := A.sd sd
  clear A hb
  show Code.wp _ _ _ _ _
  refine wp_cond_true x17 ?_
  refine wp_seq ?_
  have hacc := Below.refl w3.heap.size w3
  have S_hd := hd
  have S_hx := hx
  have S_m5 := m5
  have S_bl := bl
  refine wr_s [.orw w3.heap.size 5 1 0 [], .eq (.pointer (some ⟨g5, 3, none⟩)), .eq (o.vb)] (by rw [sd.1]; kernel_rfl) ⟨fun hw ac u K => ?_, fun hw ac u K => ?_, fun hw ac u K => ?_, trivial⟩ ?_
  · exact st_empty8 rfl _ K.grow.size
  · exact st_field 32 3 (.tmp 5) rfl (K.t x5 rfl) (by kernel_rfl)
  · exact st_loadc 29 (.tmp 20) rfl (by kernel_rfl) (K.dep 1 20 rfl) (Ob.cell (Ob.below m5 K.grow) 3 rfl)
  intro f4 w4 A hb
  replace x0 := A.t x0 rfl
  replace x1 := A.t x1 rfl
  replace x5 := A.t x5 rfl
  replace x16 := A.t x16 rfl
  replace x17 := A.t x17 rfl
  have x19 : Fk.f (.orw w3.heap.size 5 1 0 []) (f4.eval (.tmp 19)) w4 := A.has 0 19 rfl
  have x21 := A.e 2 21 rfl rfl
  replace m5 := Ob.below m5 hb
  replace hd := HD.below hd hb
  replace hx := HX.below hx hb
  replace hacc := (bgo hacc hb)
  replace bl := (Fr.grow bl hb)
  replace sd := A.sd sd
  clear A hb
  clear x16
  clear x17
  refine wl_app8 rfl (.tmp 19) (.tmp 21) rfl 22 rfl (by rw [sd.1]; decide) x19 x21 (hbF bl) hacc hob ?_
  intro f5 w5 df2 sz2 old2 new2 hL2
  clear x19
  replace x0 := tr old2 x0 rfl
  replace x1 := tr old2 x1 rfl
  replace x5 := tr old2 x5 rfl
  replace x21 := tr old2 x21 rfl
  replace hd := HD.below S_hd hL2
  replace hx := HX.below S_hx hL2
  replace m5 := Ob.below S_m5 hL2
  replace bl := Fr.grow S_bl hL2
  obtain ⟨A, C, x22, hO8⟩ := ob8_open new2 (w0 := w.heap.size) (D := DD) (X := (fun j => j = x ∨ j = h ∨ j = c ∨ j = g5)) S_bl.size (fun j q => by
    have h1 := S_hx.lt
    have h2 := Ob.lt S_m5
    rcases q with rfl | rfl | rfl | rfl
    · exact h1.1
    · exact h1.2.1
    · exact h1.2.2
    · exact h2) (fun j q => S_hd.lt j q)
  replace bl0 := bl
  replace sd := sd2 sz2 df2 sd
  clear df2 sz2 old2 new2 hL2 hacc S_hd S_hx S_m5 S_bl
  clear x21
  refine wl_one (.eq (.slice A o.bs.length C)) rfl 7 rfl (by rw [sd.1]; decide) (st_assign (.tmp 22) rfl x22) ?_
  intro f6 w6 df2 sz2 old2 new2 hb
  replace x0 := tr old2 x0 rfl
  replace x1 := tr old2 x1 rfl
  replace x5 := tr old2 x5 rfl
  replace x22 := tr old2 x22 rfl
  have x7 := Fk.e new2
  replace m5 := Ob.below m5 hb
  replace hd := HD.below hd hb
  replace hx := HX.below hx hb
  replace hO8 := Ob8.below hO8 hb
  replace bl := (Fr.grow bl hb)
  replace sd := sd2 sz2 df2 sd
  clear df2 sz2 old2 new2 hb
  refine wpList_nil ?_
  clear x22
  show Code.wp _ _ _ _ _
  refine wp_seq ?_
  refine wr_s [.eq (.pointer (some ⟨x, 0, none⟩)), .eq (.pointer (some ⟨g5, 1, none⟩)), .eq (.int .i64 o.s), .eq (.slice A o.bs.length C)] (by rw [sd.1]; kernel_rfl) ⟨fun hw ac u K => ?_, fun hw ac u K => ?_, fun hw ac u K => ?_, fun hw ac u K => ?_, trivial⟩ ?_
  · exact st_move (.tmp 1) rfl (K.t x1 rfl)
  · exact st_field 32 1 (.tmp 5) rfl (K.t x5 rfl) (by kernel_rfl)
  · exact st_loadc 3 (.tmp 24) rfl (by kernel_rfl) (K.dep 1 24 rfl) (Ob.cell (Ob.below m5 K.grow) 1 rfl)
  · exact st_move (.tmp 7) rfl (K.t x7 rfl)
  intro f7 w7 A hb
  replace x0 := A.t x0 rfl
  replace x1 := A.t x1 rfl
  replace x5 := A.t x5 rfl
  replace x7 := A.t x7 rfl
  have x23 := A.e 0 23 rfl rfl
  have x25 := A.e 2 25 rfl rfl
  have x26 := A.e 3 26 rfl rfl
  replace m5 := Ob.below m5 hb
  replace hd := HD.below hd hb
  replace hx := HX.below hx hb
  replace hO8 := Ob8.below hO8 hb
  replace bl := (Fr.grow bl hb)
  replace sd := A.sd sd
  clear A hb
  clear x1
  refine wl_call 30 (.func 30) _ _ #[.pointer (some ⟨x, 0, none⟩), .int .i64 o.s, .slice A o.bs.length C] rfl 27 rfl (by rw [sd.1]; decide) rfl rfl (three_arg x23 x25 x26) Try.enter30 (fun u W' => u = .int .i64 (wrt t o.s o.bs).1 ∧ HX W' x h c ((wrt t o.s o.bs).2) ∧ Fr (fun j => j = x ∨ j = h ∨ j = c) w7 W') ((ref_write hx ht o.s (fun q => (hO8.keep (D2 := DD) q (fun j q => .inr (q.elim .inl (fun q => q.elim (fun q => .inr (.inl q)) (fun q => .inr (.inr (.inl q)))))) (fun j q => .inl q)).1)).mono (by rintro e w' ⟨rfl, q⟩; exact ⟨_, rfl, rfl, q⟩)) ?_
  rintro f8 w8 df2 sz2 old2 ⟨x27, hx2, O⟩
  replace x0 := tr old2 x0 rfl
  replace x5 := tr old2 x5 rfl
  replace x7 := tr old2 x7 rfl
  replace x23 := tr old2 x23 rfl
  replace x25 := tr old2 x25 rfl
  replace x26 := tr old2 x26 rfl
  replace m5 := O.ob m5 nXm5
  replace hd := hd.keep (fun j hj => O.block j (hd.lt j hj) (fun q => q.elim (fun e => hxD.1 (e ▸ hj)) (fun q => q.elim (fun e => hxD.2.1 (e ▸ hj)) (fun e => hxD.2.2 (e ▸ hj))))) O.size
  replace bl := bl.next O (fun j hj => .inl (.inr hj))
  replace bl0 := bl
  replace hx := hx2
  replace sd := sd2 sz2 df2 sd
  replace hO8 := hO8.keep O (fun j q => .inr (q.elim .inl (fun q => q.elim (fun q => .inr (.inl q)) (fun q => .inr (.inr (.inl q)))))) (fun j q => .inl q)
  clear df2 sz2 old2 O hx2
  clear x23
  clear x25
  clear x26
  refine wl_one (.eq (.int .i64 (wrt t o.s o.bs).1)) rfl 8 rfl (by rw [sd.1]; decide) (st_assign (.tmp 27) rfl x27) ?_
  intro f9 w9 df2 sz2 old2 new2 hb
  replace x0 := tr old2 x0 rfl
  replace x5 := tr old2 x5 rfl
  replace x7 := tr old2 x7 rfl
  replace x27 := tr old2 x27 rfl
  have x8 := Fk.e new2
  replace m5 := Ob.below m5 hb
  replace hd := HD.below hd hb
  replace hx := HX.below hx hb
  replace hO8 := Ob8.below hO8 hb
  replace bl := (Fr.grow bl hb)
  replace sd := sd2 sz2 df2 sd
  clear df2 sz2 old2 new2 hb
  refine wpList_nil ?_
  clear x27
  show Code.wp _ _ _ _ _
  refine wp_seq ?_
  refine wr_s [.eq (.pointer (some ⟨gd, 0, none⟩)), .eq (.pointer (some ⟨g5, 1, none⟩)), .eq (.int .i64 o.s), .eq (.slice A o.bs.length C)] (by rw [sd.1]; kernel_rfl) ⟨fun hw ac u K => ?_, fun hw ac u K => ?_, fun hw ac u K => ?_, fun hw ac u K => ?_, trivial⟩ ?_
  · exact st_move (.tmp 0) rfl (K.t x0 rfl)
  · exact st_field 32 1 (.tmp 5) rfl (K.t x5 rfl) (by kernel_rfl)
  · exact st_loadc 3 (.tmp 29) rfl (by kernel_rfl) (K.dep 1 29 rfl) (Ob.cell (Ob.below m5 K.grow) 1 rfl)
  · exact st_move (.tmp 7) rfl (K.t x7 rfl)
  intro f10 w10 A hb
  replace x0 := A.t x0 rfl
  replace x5 := A.t x5 rfl
  replace x7 := A.t x7 rfl
  replace x8 := A.t x8 rfl
  have x28 := A.e 0 28 rfl rfl
  have x30 := A.e 2 30 rfl rfl
  have x31 := A.e 3 31 rfl rfl
  replace m5 := Ob.below m5 hb
  replace hd := HD.below hd hb
  replace hx := HX.below hx hb
  replace hO8 := Ob8.below hO8 hb
  replace bl := (Fr.grow bl hb)
  replace sd := A.sd sd
  clear A hb
  clear x0
  clear x5
  refine wl_call 18 (.func 18) _ _ #[.pointer (some ⟨gd, 0, none⟩), .int .i64 o.s, .slice A o.bs.length C] rfl 32 rfl (by rw [sd.1]; decide) rfl rfl (three_arg x28 x30 x31) Try.enter18 (fun u W' => ∃ D2 : Nat → Prop, u = .int .i64 (wrt s o.s o.bs).1 ∧ HD W' gd M D2 ((wrt s o.s o.bs).2) ∧ (∀ j, D2 j → DD j ∨ w10.heap.size ≤ j) ∧ Fr M w10 W') ((fk_dwrite hd hs h60 o.s hO8.1).mono (by rintro e w' ⟨D2, rfl, q⟩; exact ⟨_, rfl, D2, rfl, q⟩)) ?_
  rintro f11 w11 df2 sz2 old2 ⟨D2, x32, hd2, hD2, O⟩
  have OM := O
  replace O := O.mono hd.sub
  replace x7 := tr old2 x7 rfl
  replace x8 := tr old2 x8 rfl
  replace x28 := tr old2 x28 rfl
  replace x30 := tr old2 x30 rfl
  replace x31 := tr old2 x31 rfl
  clear m5 nDm5
  have hxL := hx.lt
  replace hx := hx.keep (O.block _ hxL.1 hxD.1) (O.block _ hxL.2.1 hxD.2.1) (O.block _ hxL.2.2 hxD.2.2)
  replace hxD : ¬ D2 x ∧ ¬ D2 h ∧ ¬ D2 c := ⟨fun q => (hD2 _ q).elim hxD.1 (fun q => by omega), fun q => (hD2 _ q).elim hxD.2.1 (fun q => by omega), fun q => (hD2 _ q).elim hxD.2.2 (fun q => by omega)⟩
  have bl9 := bl.next OM (fun j q => .inl (.inl q))
  replace hDD : ∀ j, D2 j → D j ∨ w.heap.size ≤ j := fun j q => (hD2 j q).elim (hDD j) (fun q => .inr (Nat.le_trans bl.size q))
  replace bl := bl9
  replace bl0 := bl
  replace hd := hd2
  replace sd := sd2 sz2 df2 sd
  replace hO8 := hO8.keep O (fun j q => .inl q) hD2
  clear df2 sz2 old2 O OM hD2 hd2 hxL bl9
  clear DD
  obtain ⟨DD, rfl⟩ : ∃ E, E = D2 := ⟨_, rfl⟩
  clear x28
  clear x30
  clear x31
  refine wl_one (.eq (.int .i64 (wrt s o.s o.bs).1)) rfl 9 rfl (by rw [sd.1]; decide) (st_assign (.tmp 32) rfl x32) ?_
  intro f12 w12 df2 sz2 old2 new2 hb
  replace x7 := tr old2 x7 rfl
  replace x8 := tr old2 x8 rfl
  replace x32 := tr old2 x32 rfl
  have x9 := Fk.e new2
  replace hd := HD.below hd hb
  replace hx := HX.below hx hb
  replace hO8 := Ob8.below hO8 hb
  replace bl := (Fr.grow bl hb)
  replace sd := sd2 sz2 df2 sd
  clear df2 sz2 old2 new2 hb
  refine wpList_nil ?_
  clear x32
  have hG := hO8.2
  clear hO8
  show Code.wp _ _ _ _ _
  refine wp_seq ?_
  refine wp_seq ?_
  refine wr_a [.eq (.slice A o.bs.length C), .eq (.int .i64 (o.bs.length : Int)), .eq (.int .i64 0)] (by rw [sd.1]; kernel_rfl) ⟨fun hw ac u K => ?_, fun hw ac u K => ?_, fun hw ac u K => ?_, trivial⟩ ?_
  · exact st_move (.tmp 7) rfl (K.t x7 rfl)
  · exact st_lenB (.tmp 33) rfl (K.dep 0 33 rfl)
  · exact st_move (.const (.int .i64 0)) rfl rfl
  intro f13 w13 A hb
  replace x7 := A.t x7 rfl
  replace x8 := A.t x8 rfl
  replace x9 := A.t x9 rfl
  have x34 := A.e 1 34 rfl rfl
  have x35 := A.e 2 35 rfl rfl
  replace hd := HD.below hd hb
  replace hx := HX.below hx hb
  replace hG := Rd.below hG hb
  replace bl := (Fr.grow bl hb)
  replace sd := A.sd sd
  clear A hb
  show Code.wp _ _ _ _ _
  refine wp_block ?_
  refine wp_loop (fun f v1 => ∃ k : Nat, k ≤ o.bs.length ∧ f.tmps.size = 161 ∧ f.defers = [] ∧ f.eval (.tmp 7) = .slice A o.bs.length C ∧ f.eval (.tmp 8) = .int .i64 (wrt t o.s o.bs).1 ∧ f.eval (.tmp 9) = .int .i64 (wrt s o.s o.bs).1 ∧ f.eval (.tmp 34) = .int .i64 (o.bs.length : Int) ∧ f.eval (.tmp 35) = .int .i64 (k : Int) ∧ HD v1 gd M DD (wrt s o.s o.bs).2 ∧ HX v1 x h c (wrt t o.s o.bs).2 ∧ Rd w.heap.size DD (fun j => j = x ∨ j = h ∨ j = c ∨ j = g5) A o.bs.length v1 ∧ Fr (fun j => M j ∨ j = x ∨ j = h ∨ j = c) w (v1)) (fun f _ => o.bs.length - (intOf (f.eval (.tmp 35))).toNat) ⟨0, Nat.zero_le _, sd.1, sd.2, x7, x8, x9, x34, x35, hd, hx, hG, bl⟩ ?_
  intro f14 w14 hI
  clear sd bl bl0 x7 x8 x9 x34 x35 hd hx hG
  obtain ⟨k, hk9, sz, df, x7, x8, x9, x34, x35, hd, hx, hG, bl⟩ := hI
  have sd := And.intro sz df
  clear sz df
  have bl0 := bl
  have hcnt := x35
  refine wp_seq ?_
  by_cases hlt : k < o.bs.length
  rotate_left
  · skip
    refine wr_a [.eq (.bool false)] (by rw [sd.1]; kernel_rfl) ⟨fun hw ac u K => ?_, trivial⟩ ?_
    · exact st_lss 3 (.tmp 35) (.tmp 34) rfl .i64 ((k : Int)) ((o.bs.length : Int)) (K.t x35 rfl) (K.t x34 rfl) _ (by rw [eq_comm, decide_eq_false_iff_not]; omega)
    intro f15 w15 A hb
    replace x7 := A.t x7 rfl
    replace x8 := A.t x8 rfl
    replace x9 := A.t x9 rfl
    replace x34 := A.t x34 rfl
    replace x35 := A.t x35 rfl
    have x36 := A.e 0 36 rfl rfl
    replace hd := HD.below hd hb
    replace hx := HX.below hx hb
    replace hG := Rd.below hG hb
    replace bl := (Fr.grow bl hb)
    replace sd := A.sd sd
    clear A hb
    show Code.wp _ _ _ _ _
    refine wp_seq ?_
    refine wp_cond_false x36 ?_
    refine wp_exit ?_
    show Code.wp _ _ _ _ _
    refine wp_seq ?_
    refine wr_a [.eq (.int .i64 (wrt s o.s o.bs).1), .eq (.int .i64 (wrt t o.s o.bs).1), .eq (.bool (decide ((wrt s o.s o.bs).1 = (wrt t o.s o.bs).1))), .eq (.bool (decide ((wrt s o.s o.bs).1 = (wrt t o.s o.bs).1)))] (by rw [sd.1]; kernel_rfl) ⟨fun hw ac u K => ?_, fun hw ac u K => ?_, fun hw ac u K => ?_, fun hw ac u K => ?_, trivial⟩ ?_
    · exact st_move (.tmp 9) rfl (K.t x9 rfl)
    · exact st_move (.tmp 8) rfl (K.t x8 rfl)
    · exact st_eqi 3 (.tmp 45) (.tmp 46) rfl .i64 ((wrt s o.s o.bs).1) ((wrt t o.s o.bs).1) (K.dep 0 45 rfl) (K.dep 1 46 rfl) _ rfl
    · exact st_assign (.tmp 47) rfl (K.dep 2 47 rfl)
    intro f16 w16 A hb
    replace x7 := A.t x7 rfl
    replace x8 := A.t x8 rfl
    replace x9 := A.t x9 rfl
    replace x34 := A.t x34 rfl
    replace x35 := A.t x35 rfl
    replace x36 := A.t x36 rfl
    have x6 := A.e 3 6 rfl rfl
    replace hd := HD.below hd hb
    replace hx := HX.below hx hb
    replace hG := Rd.below hG hb
    replace bl := (Fr.grow bl hb)
    replace sd := A.sd sd
    clear A hb
    clear x36
    show Code.wp _ _ _ _ _
    refine wp_ret ?_
    repeat (first | with_reducible refine then_ret ?_ | with_reducible refine block_ret ?_)
    have e8 : stepD s o = (wrt s o.s o.bs).2 := by unfold stepD; rw [if_pos hk]
    have e9 : stepD t o = (wrt t o.s o.bs).2 := by unfold stepD; rw [if_pos hk]
    exact bodyPost_ret (v := .bool (decide ((wrt s o.s o.bs).1 = (wrt t o.s o.bs).1))) (ret_slot rfl f16 _ x6 _ _) sd.2 ⟨DD, (decide ((wrt s o.s o.bs).1 = (wrt t o.s o.bs).1)), rfl, fun e => by rw [e]; simp, by rw [e8]; exact hd, by rw [e9]; exact hx, hxD, hDD, bl⟩
  refine wr_a [.eq (.bool true)] (by rw [sd.1]; kernel_rfl) ⟨fun hw ac u K => ?_, trivial⟩ ?_
  · exact st_lss 3 (.tmp 35) (.tmp 34) rfl .i64 ((k : Int)) ((o.bs.length : Int)) (K.t x35 rfl) (K.t x34 rfl) _ (by rw [eq_comm, decide_eq_true_iff]; omega)
  intro f15 w15 A hb
  replace x7 := A.t x7 rfl
  replace x8 := A.t x8 rfl
  replace x9 := A.t x9 rfl
  replace x34 := A.t x34 rfl
  replace x35 := A.t x35 rfl
  have x36 := A.e 0 36 rfl rfl
  replace hd := HD.below hd hb
  replace hx := HX.below hx hb
  replace hG := Rd.below hG hb
  replace bl := (Fr.grow bl hb)
  replace sd := A.sd sd
  clear A hb
  show Code.wp _ _ _ _ _
  refine wp_seq ?_
  refine wp_cond_true x36 ?_
  refine wp_skip ?_
  show Code.wp _ _ _ _ _
  refine wp_seq ?_
  refine wp_block ?_
  refine wp_seq ?_
  refine wr_a [.eq (.int .i64 (k : Int)), .eq (.int .i64 (k : Int))] (by rw [sd.1]; kernel_rfl) ⟨fun hw ac u K => ?_, fun hw ac u K => ?_, trivial⟩ ?_
  · exact st_move (.tmp 35) rfl (K.t x35 rfl)
  · exact st_assign (.tmp 37) rfl (K.dep 0 37 rfl)
  intro f16 w16 A hb
  replace x7 := A.t x7 rfl
  replace x8 := A.t x8 rfl
  replace x9 := A.t x9 rfl
  replace x34 := A.t x34 rfl
  replace x35 := A.t x35 rfl
  replace x36 := A.t x36 rfl
  have x10 := A.e 1 10 rfl rfl
  replace hd := HD.below hd hb
  replace hx := HX.below hx hb
  replace hG := Rd.below hG hb
  replace bl := (Fr.grow bl hb)
  replace sd := A.sd sd
  clear A hb
  clear x36
  show Code.wp _ _ _ _ _
  obtain ⟨g, rfl, hgw, hgX, hgD, hgb⟩ := hG (by omega)
  obtain ⟨y, hy⟩ := hgb.at hlt
  refine wr_s [.eq (.slice (some ⟨g, 0, none⟩) o.bs.length C), .eq (.int .i64 (k : Int)), .eq (.pointer (some ⟨g, k, none⟩)), .eq (V y), .eq (V (y + 1)), .eq (.pointer (some ⟨g, k, none⟩))] (by rw [sd.1]; kernel_rfl) ⟨fun hw ac u K => ?_, fun hw ac u K => ?_, fun hw ac u K => ?_, fun hw ac u K => ?_, fun hw ac u K => ?_, fun hw ac u K => ?_, trivial⟩ ?_
  · exact st_move (.tmp 7) rfl (K.t x7 rfl)
  · exact st_move (.tmp 10) rfl (K.t x10 rfl)
  · exact st_idxB (.tmp 38) (.tmp 39) rfl (K.dep 0 38 rfl) (k) (K.dep 1 39 rfl) hlt
  · exact st_loadc 5 (.tmp 40) rfl (by kernel_rfl) (K.dep 2 40 rfl) (cell_grow hy K.grow)
  · exact st_addu (.tmp 41) (.const (.int .u8 1)) rfl y (K.dep 3 41 rfl) rfl
  · exact st_idxB (.tmp 38) (.tmp 39) rfl (K.dep 0 38 rfl) (k) (K.dep 1 39 rfl) hlt
  intro f17 w17 A hb
  replace x7 := A.t x7 rfl
  replace x8 := A.t x8 rfl
  replace x9 := A.t x9 rfl
  replace x34 := A.t x34 rfl
  replace x35 := A.t x35 rfl
  replace x10 := A.t x10 rfl
  have x42 := A.e 4 42 rfl rfl
  have x43 := A.e 5 43 rfl rfl
  replace hd := HD.below hd hb
  replace hx := HX.below hx hb
  replace hG := Rd.below hG hb
  replace hgb := Wb.below hgb hb
  replace bl := (Fr.grow bl hb)
  replace sd := A.sd sd
  clear A hb
  clear x10
  refine wl_stc 5 rfl (.tmp 43) (.tmp 42) rfl rfl (by kernel_rfl) g k (V (y + 1)) x43 x42 rfl rfl (Wb.there hgb hlt) ?_
  replace hgb : Wb (w17.setCell ⟨g, k, none⟩ (V (y + 1))) g o.bs.length := hgb.set (y + 1)
  have hO := (Only.refl g w17).setCell k (V (y + 1))
  have hxL := hx.lt
  replace hd := hd.keep (fun j hj => hO.block j (hd.lt j hj) (fun e => hgD (e ▸ hj))) hO.size
  replace hx := hx.keep (hO.block _ hxL.1 (fun e => hgX (.inl e.symm))) (hO.block _ hxL.2.1 (fun e => hgX (.inr (.inl e.symm)))) (hO.block _ hxL.2.2 (fun e => hgX (.inr (.inr (.inl e.symm)))))
  replace bl : Fr (fun j => M j ∨ j = x ∨ j = h ∨ j = c) w (w17.setCell ⟨g, k, none⟩ (V (y + 1))) := bl.setCell (.inr hgw) (V (y + 1))
  clear hO hxL hG
  generalize w17.setCell ⟨g, k, none⟩ (V (y + 1)) = w18b at hgb hd hx bl ⊢
  have hG : Rd w.heap.size DD (fun j => j = x ∨ j = h ∨ j = c ∨ j = g5) (some ⟨g, 0, none⟩) o.bs.length w18b := fun _ => ⟨g, rfl, hgw, hgX, hgD, hgb⟩
  replace bl0 := bl
  refine wpList_nil ?_
  clear x42
  clear x43
  show Code.wp _ _ _ _ _
  refine wr_s [.eq (.int .i64 ((k + 1 : Nat) : Int))] (by rw [sd.1]; kernel_rfl) ⟨fun hw ac u K => ?_, trivial⟩ ?_
  · exact st_add (.tmp 35) (.const (.int .i64 1)) rfl (k) (1) (k + 1) (K.t x35 rfl) rfl (by omega) (by omega)
  intro f19 w19 A hb
  replace x7 := A.t x7 rfl
  replace x8 := A.t x8 rfl
  replace x9 := A.t x9 rfl
  replace x34 := A.t x34 rfl
  replace x35 := A.t x35 rfl
  have x44 := A.e 0 44 rfl rfl
  replace hd := HD.below hd hb
  replace hx := HX.below hx hb
  replace hG := Rd.below hG hb
  replace bl := (Fr.grow bl hb)
  replace sd := A.sd sd
  clear A hb
  refine wl_one (.eq (.int .i64 ((k + 1 : Nat) : Int))) rfl 35 rfl (by rw [sd.1]; decide) (st_move (.tmp 44) rfl x44) ?_
  intro f20 w20 df2 sz2 old2 new2 hb
  replace x7 := tr old2 x7 rfl
  replace x8 := tr old2 x8 rfl
  replace x9 := tr old2 x9 rfl
  replace x34 := tr old2 x34 rfl
  clear x35
  replace x44 := tr old2 x44 rfl
  have x35 := Fk.e new2
  replace hd := HD.below hd hb
  replace hx := HX.below hx hb
  replace hG := Rd.below hG hb
  replace bl := (Fr.grow bl hb)
  replace sd := sd2 sz2 df2 sd
  clear df2 sz2 old2 new2 hb
  refine wpList_nil ?_
  clear x44
  show (∃ _, _) ∧ _
  refine ⟨⟨k + 1, by omega, sd.1, sd.2, x7, x8, x9, x34, x35, hd, hx, hG, bl⟩, ?_⟩
  rw [show f20.eval (.tmp 35) = _ from x35, show _ = _ from hcnt]
  first | (simp [intOf]; done) | (simp [intOf]; omega)
end Go.Proofs.Ytjdpomilifnlaaa
