/- Calls of the program's disk; awake. DiskPlays. -/
import Derived.Test.YtjdpomilifnlaaaM6
import Derived.Test.YtjdpomilifnlaaaM3
namespace Go.Proofs.Ytjdpomilifnlaaa
set_option maxRecDepth 100000
open Go.RowKit
def aw1 : Dst := (wrt (newd 8 16) 3 (List.replicate 16 1#8)).2
def aw2 : Dst := (wrt aw1 5 (List.replicate 16 2#8)).2
def aw3 : Dst := crs aw2 [3]
theorem aw1_ok : (wrt (newd 8 16) 3 (List.replicate 16 1#8)).1 = 0 := by rfl
theorem aw2_ok : (wrt aw1 5 (List.replicate 16 2#8)).1 = 0 := by rfl
theorem aw3_3 : rd aw3 3 = (0, List.replicate 16 0#8) := by rfl
theorem aw3_5 : rd aw3 5 = (0, List.replicate 16 2#8) := by rfl
theorem awake_any (w : World) :
    Calls Try.prog 9 #[] w fun e w' => ∃ v, e = .returned v ∧ (Fk.eq (.bool true)).f v w' ∧ Below w.heap.size w w' := by
  go_enter Try.func9, Try.ntmps9
  refine code_both (fun f w1 => f.tmps.size = 54 ∧ f.defers = [] ∧ Below w.heap.size w (w1)) ⟨rfl, rfl, Below.refl _ _⟩ ?_
  rintro f0 w0 ⟨sz, df, bl⟩
  have sd := And.intro sz df
  clear sz df
  have bl0 := bl
  refine wp_seq ?_
  refine wr_a [.eq (.bool false)] (by rw [sd.1]; kernel_rfl) ⟨fun hw ac u K => ?_, trivial⟩ ?_
  · exact st_assign (.const (.bool false)) rfl rfl
  intro f1 w1 A hb
  replace bl := bgo bl hb
  replace sd := A.sd sd
  clear A hb
  show Code.wp _ _ _ _ _
  refine wp_seq ?_
  refine wr_s [] (by rw [sd.1]; kernel_rfl) trivial ?_
  intro f2 w2 A hb
  replace bl := bgo bl hb
  replace sd := A.sd sd
  clear A hb
  refine wl_call 8 (.func 8) _ _ #[.int .i64 ((8 : Nat) : Int), .int .i64 ((16 : Nat) : Int)] rfl 6 rfl (by rw [sd.1]; decide) rfl rfl rfl Try.enter8 (fun u W' => ∃ (gd : Nat) (M D : Nat → Prop), u = .pointer (some ⟨gd, 0, none⟩) ∧ HD W' gd M D (newd (8) (16)) ∧ (∀ j, D j → w2.heap.size ≤ j) ∧ Below w2.heap.size w2 W') ((fk_dnew (N := 8) (Z := 16) (by decide) (by decide) (by decide) (by decide) w2).mono (by rintro e w' ⟨gd, M, D, rfl, q⟩; exact ⟨_, rfl, gd, M, D, rfl, q⟩)) ?_
  rintro f3 w3 df2 sz2 old2 ⟨gd, M, DD, x6, hd, hD0, hb⟩
  have hDD : ∀ j, DD j → w.heap.size ≤ j := fun j q => Nat.le_trans bl.size (hD0 j q)
  clear hD0
  replace bl0 := bl
  replace bl := bgo bl hb
  replace sd := sd2 sz2 df2 sd
  clear df2 sz2 old2 hb
  refine wl_one (.eq (.pointer (some ⟨gd, 0, none⟩))) rfl 1 rfl (by rw [sd.1]; decide) (st_assign (.tmp 6) rfl x6) ?_
  intro f4 w4 df2 sz2 old2 new2 hb
  replace x6 := tr old2 x6 rfl
  have x1 := Fk.e new2
  replace hd := HD.below hd hb
  replace bl := bgo bl hb
  replace sd := sd2 sz2 df2 sd
  clear df2 sz2 old2 new2 hb
  refine wpList_nil ?_
  clear x6
  show Code.wp _ _ _ _ _
  refine wp_seq ?_
  refine wp_seq ?_
  refine wr_s [.eq (.pointer (some ⟨gd, 0, none⟩)), .eq (.bool false), .eq (.bool false), .eq (.pointer (some ⟨gd, 0, none⟩)), .sl (List.replicate 16 1#8)] (by rw [sd.1]; kernel_rfl) ⟨fun hw ac u K => ?_, fun hw ac u K => ?_, fun hw ac u K => ?_, fun hw ac u K => ?_, fun hw ac u K => ?_, trivial⟩ ?_
  · exact st_move (.tmp 1) rfl (K.t x1 rfl)
  · exact st_bin .eql 23 23 (.tmp 7) _ rfl (K.dep 0 7 rfl) rfl (by kernel_rfl)
  · exact st_move (.tmp 8) rfl (K.dep 1 8 rfl)
  · exact st_move (.tmp 1) rfl (K.t x1 rfl)
  · exact st_call 29 (.func 29) _ _ _ rfl rfl (one_arg rfl) Try.enter29 (full_sl 1#8 _)
  intro f5 w5 A hb
  replace x1 := A.t x1 rfl
  have x9 := A.e 2 9 rfl rfl
  have x10 := A.e 3 10 rfl rfl
  have x11 : Fk.f (.sl (List.replicate 16 1#8)) (f5.eval (.tmp 11)) w5 := A.has 4 11 rfl
  replace hd := HD.below hd hb
  replace bl := bgo bl hb
  replace sd := A.sd sd
  clear A hb
  refine wl_callw 18 (.func 18) _ _ #[.pointer (some ⟨gd, 0, none⟩), .int .i64 3, f5.eval (.tmp 11)] (want_of rfl rfl x9) 12 rfl (by rw [sd.1]; decide) rfl rfl (three_arg x10 rfl rfl) Try.enter18 (fun u W' => ∃ D2 : Nat → Prop, u = .int .i64 0 ∧ HD W' gd M D2 (aw1) ∧ (∀ j, D2 j → DD j ∨ w5.heap.size ≤ j) ∧ Fr M w5 W') (((show Calls Try.prog 18 #[.pointer (some ⟨gd, 0, none⟩), .int .i64 3, f5.eval (.tmp 11)] w5 (fun e w' => ∃ D', e = .returned (.int .i64 0) ∧ HD w' gd M D' aw1 ∧ _) from by have := fk_dwrite hd (by decide) (by decide) 3 x11; rw [aw1_ok] at this; exact this)).mono (by rintro e w' ⟨D2, rfl, q⟩; exact ⟨_, rfl, D2, rfl, q⟩)) ?_
  rintro f6 w6 df2 sz2 old2 ⟨D2, x12, hd2, hD2, O⟩
  have OM := O
  replace O := O.mono hd.sub
  replace x1 := tr old2 x1 rfl
  replace x9 := tr old2 x9 rfl
  replace x10 := tr old2 x10 rfl
  clear x11
  have bl9 := bl.trans (O.below bl.size hDD)
  replace hDD : ∀ j, D2 j → w.heap.size ≤ j := fun j q => (hD2 j q).elim (hDD j) (fun q => Nat.le_trans bl.size q)
  replace bl := bl9
  replace bl0 := bl
  replace hd := hd2
  replace sd := sd2 sz2 df2 sd
  clear df2 sz2 old2 hd2 bl9
  clear O OM hD2
  clear DD
  obtain ⟨DD, rfl⟩ : ∃ E, E = D2 := ⟨_, rfl⟩
  clear x10
  refine wl_onew (.eq (.bool false)) (want_of rfl rfl x9) 13 rfl (by rw [sd.1]; decide) (st_neqi 37 (.tmp 12) (.const (.int .i64 0)) rfl .i64 (0) (0) x12 rfl _ (by rfl)) ?_
  intro f7 w7 df2 sz2 old2 new2 hb
  replace bl0 := bl
  replace x1 := tr old2 x1 rfl
  replace x9 := tr old2 x9 rfl
  replace x12 := tr old2 x12 rfl
  have x13 := Fk.e new2
  replace hd := HD.below hd hb
  replace bl := bgo bl hb
  replace sd := sd2 sz2 df2 sd
  clear df2 sz2 old2 new2 hb
  clear x12
  refine wl_one (.eq (.bool false)) rfl 14 rfl (by rw [sd.1]; decide) (st_pick_f' (.tmp 9) (.const (.bool true)) (.tmp 13) rfl x9 x13) ?_
  intro f8 w8 df2 sz2 old2 new2 hb
  replace x1 := tr old2 x1 rfl
  replace x9 := tr old2 x9 rfl
  replace x13 := tr old2 x13 rfl
  have x14 := Fk.e new2
  replace hd := HD.below hd hb
  replace bl := bgo bl hb
  replace sd := sd2 sz2 df2 sd
  clear df2 sz2 old2 new2 hb
  clear x9
  clear x13
  refine wl_one (.eq (.bool false)) rfl 15 rfl (by rw [sd.1]; decide) (st_move (.tmp 14) rfl x14) ?_
  intro f9 w9 df2 sz2 old2 new2 hb
  replace x1 := tr old2 x1 rfl
  replace x14 := tr old2 x14 rfl
  have x15 := Fk.e new2
  replace hd := HD.below hd hb
  replace bl := bgo bl hb
  replace sd := sd2 sz2 df2 sd
  clear df2 sz2 old2 new2 hb
  clear x14
  refine wl_onew (.eq (.pointer (some ⟨gd, 0, none⟩))) (want_of rfl rfl x15) 16 rfl (by rw [sd.1]; decide) (st_move (.tmp 1) rfl x1) ?_
  intro f10 w10 df2 sz2 old2 new2 hb
  replace bl0 := bl
  replace x1 := tr old2 x1 rfl
  replace x15 := tr old2 x15 rfl
  have x16 := Fk.e new2
  replace hd := HD.below hd hb
  replace bl := bgo bl hb
  replace sd := sd2 sz2 df2 sd
  clear df2 sz2 old2 new2 hb
  refine wl_onew (.sl (List.replicate 16 2#8)) (want_of rfl rfl x15) 17 rfl (by rw [sd.1]; decide) (st_call 29 (.func 29) _ _ #[.int .u8 2] rfl rfl (one_arg rfl) Try.enter29 (full_sl 2#8 _)) ?_
  intro f11 w11 df2 sz2 old2 new2 hb
  replace bl0 := bl
  replace x1 := tr old2 x1 rfl
  replace x15 := tr old2 x15 rfl
  replace x16 := tr old2 x16 rfl
  have x17 : Fk.f (.sl (List.replicate 16 2#8)) (f11.eval (.tmp 17)) w11 := new2
  replace hd := HD.below hd hb
  replace bl := bgo bl hb
  replace sd := sd2 sz2 df2 sd
  clear df2 sz2 old2 new2 hb
  refine wl_callw 18 (.func 18) _ _ #[.pointer (some ⟨gd, 0, none⟩), .int .i64 5, f11.eval (.tmp 17)] (want_of rfl rfl x15) 18 rfl (by rw [sd.1]; decide) rfl rfl (three_arg x16 rfl rfl) Try.enter18 (fun u W' => ∃ D2 : Nat → Prop, u = .int .i64 0 ∧ HD W' gd M D2 (aw2) ∧ (∀ j, D2 j → DD j ∨ w11.heap.size ≤ j) ∧ Fr M w11 W') (((show Calls Try.prog 18 #[.pointer (some ⟨gd, 0, none⟩), .int .i64 5, f11.eval (.tmp 17)] w11 (fun e w' => ∃ D', e = .returned (.int .i64 0) ∧ HD w' gd M D' aw2 ∧ _) from by have := fk_dwrite hd (by decide) (by decide) 5 x17; rw [aw2_ok] at this; exact this)).mono (by rintro e w' ⟨D2, rfl, q⟩; exact ⟨_, rfl, D2, rfl, q⟩)) ?_
  rintro f12 w12 df2 sz2 old2 ⟨D2, x18, hd2, hD2, O⟩
  have OM := O
  replace O := O.mono hd.sub
  replace x1 := tr old2 x1 rfl
  replace x15 := tr old2 x15 rfl
  replace x16 := tr old2 x16 rfl
  clear x17
  have bl9 := bl.trans (O.below bl.size hDD)
  replace hDD : ∀ j, D2 j → w.heap.size ≤ j := fun j q => (hD2 j q).elim (hDD j) (fun q => Nat.le_trans bl.size q)
  replace bl := bl9
  replace bl0 := bl
  replace hd := hd2
  replace sd := sd2 sz2 df2 sd
  clear df2 sz2 old2 hd2 bl9
  clear O OM hD2
  clear DD
  obtain ⟨DD, rfl⟩ : ∃ E, E = D2 := ⟨_, rfl⟩
  clear x16
  refine wl_onew (.eq (.bool false)) (want_of rfl rfl x15) 19 rfl (by rw [sd.1]; decide) (st_neqi 37 (.tmp 18) (.const (.int .i64 0)) rfl .i64 (0) (0) x18 rfl _ (by rfl)) ?_
  intro f13 w13 df2 sz2 old2 new2 hb
  replace bl0 := bl
  replace x1 := tr old2 x1 rfl
  replace x15 := tr old2 x15 rfl
  replace x18 := tr old2 x18 rfl
  have x19 := Fk.e new2
  replace hd := HD.below hd hb
  replace bl := bgo bl hb
  replace sd := sd2 sz2 df2 sd
  clear df2 sz2 old2 new2 hb
  clear x18
  refine wl_one (.eq (.bool false)) rfl 20 rfl (by rw [sd.1]; decide) (st_pick_f' (.tmp 15) (.const (.bool true)) (.tmp 19) rfl x15 x19) ?_
  intro f14 w14 df2 sz2 old2 new2 hb
  replace x1 := tr old2 x1 rfl
  replace x15 := tr old2 x15 rfl
  replace x19 := tr old2 x19 rfl
  have x20 := Fk.e new2
  replace hd := HD.below hd hb
  replace bl := bgo bl hb
  replace sd := sd2 sz2 df2 sd
  clear df2 sz2 old2 new2 hb
  refine wpList_nil ?_
  clear x15
  clear x19
  show Code.wp _ _ _ _ _
  refine wp_cond_false x20 ?_
  refine wp_skip ?_
  show Code.wp _ _ _ _ _
  refine wp_seq ?_
  refine wr_s [.eq (.pointer (some ⟨gd, 0, none⟩)), .oi 0 [3]] (by rw [sd.1]; kernel_rfl) ⟨fun hw ac u K => ?_, fun hw ac u K => ?_, trivial⟩ ?_
  · exact st_move (.tmp 1) rfl (K.t x1 rfl)
  · exact st_bi1 (.const (.int .i64 3)) rfl 3 rfl 0 (Nat.zero_le _)
  intro f15 w15 A hb
  replace x1 := A.t x1 rfl
  replace x20 := A.t x20 rfl
  have x21 := A.e 0 21 rfl rfl
  have x22 : Fk.f (.oi 0 [3]) (f15.eval (.tmp 22)) w15 := A.has 1 22 rfl
  replace hd := HD.below hd hb
  replace bl := bgo bl hb
  replace sd := A.sd sd
  clear A hb
  clear x20
  refine wl_call 14 (.func 14) _ _ #[.pointer (some ⟨gd, 0, none⟩), f15.eval (.tmp 22)] rfl 23 rfl (by rw [sd.1]; decide) rfl rfl (two_arg x21 rfl) Try.enter14 (fun u W' => ∃ D2 : Nat → Prop, u = .tuple #[] ∧ HD W' gd M D2 (aw3) ∧ (∀ j, D2 j → DD j ∨ w15.heap.size ≤ j) ∧ Fr M w15 W') ((fk_dcrash hd (by decide) (oi_is x22) (by decide) (by decide)).mono (by rintro e w' ⟨D2, rfl, q⟩; exact ⟨_, rfl, D2, rfl, q⟩)) ?_
  rintro f16 w16 df2 sz2 old2 ⟨D2, x23, hd2, hD2, O⟩
  have OM := O
  replace O := O.mono hd.sub
  replace x1 := tr old2 x1 rfl
  replace x21 := tr old2 x21 rfl
  clear x22
  have bl9 := bl.trans (O.below bl.size hDD)
  replace hDD : ∀ j, D2 j → w.heap.size ≤ j := fun j q => (hD2 j q).elim (hDD j) (fun q => Nat.le_trans bl.size q)
  replace bl := bl9
  replace bl0 := bl
  replace hd := hd2
  replace sd := sd2 sz2 df2 sd
  clear df2 sz2 old2 hd2 bl9
  clear O OM hD2
  clear DD
  obtain ⟨DD, rfl⟩ : ∃ E, E = D2 := ⟨_, rfl⟩
  refine wpList_nil ?_
  clear x21
  clear x23
  show Code.wp _ _ _ _ _
  refine wp_seq ?_
  refine wr_s [.eq (.pointer (some ⟨gd, 0, none⟩))] (by rw [sd.1]; kernel_rfl) ⟨fun hw ac u K => ?_, trivial⟩ ?_
  · exact st_move (.tmp 1) rfl (K.t x1 rfl)
  intro f17 w17 A hb
  replace x1 := A.t x1 rfl
  have x25 := A.e 0 25 rfl rfl
  replace hd := HD.below hd hb
  replace bl := bgo bl hb
  replace sd := A.sd sd
  clear A hb
  refine wl_call 16 (.func 16) _ _ #[.pointer (some ⟨gd, 0, none⟩), .int .i64 3] rfl 26 rfl (by rw [sd.1]; decide) rfl rfl (two_arg x25 rfl) Try.enter16 (fun u W' => ∃ (D2 : Nat → Prop) (A : Option Addr) (C : Nat), u = .tuple #[.slice A (List.replicate 16 0#8).length C, .int .i64 0] ∧ (Fk.sl (List.replicate 16 0#8)).f (.slice A (List.replicate 16 0#8).length C) W' ∧ (0 < (List.replicate 16 0#8).length → ∃ g, A = some ⟨g, 0, none⟩ ∧ w17.heap.size ≤ g ∧ ¬ D2 g ∧ Wb W' g (List.replicate 16 0#8).length) ∧ HD W' gd M D2 aw3 ∧ (∀ j, D2 j → DD j ∨ w17.heap.size ≤ j) ∧ Fr M w17 W') ((show Calls Try.prog 16 #[.pointer (some ⟨gd, 0, none⟩), .int .i64 3] w17 (fun e W' => ∃ (D2 : Nat → Prop) (A : Option Addr) (C : Nat), e = .returned (.tuple #[.slice A (List.replicate 16 0#8).length C, .int .i64 0]) ∧ _) from by have := fk_dread hd 3; rw [show (rd aw3 3).1 = 0 from by rw [aw3_3], show (rd aw3 3).2 = List.replicate 16 0#8 from by rw [aw3_3]] at this; exact this).mono (by rintro e w' ⟨D2, A, C, rfl, q⟩; exact ⟨_, rfl, D2, A, C, rfl, q⟩)) ?_
  rintro f18 w18 df2 sz2 old2 ⟨D2, A1, C1, x26, hsl, hG0, hd2, hD2, O⟩
  have OM := O
  replace O := O.mono hd.sub
  replace x1 := tr old2 x1 rfl
  replace x25 := tr old2 x25 rfl
  have hO1 : Ob8 w.heap.size D2 (fun _ => False) (List.replicate 16 0#8) A1 C1 w18 := ⟨hsl, fun q => by
    obtain ⟨g, h1, h2, h3, h4⟩ := hG0 q
    exact ⟨g, h1, Nat.le_trans bl.size h2, not_false, h3, h4⟩⟩
  clear hsl hG0
  have bl9 := bl.trans (O.below bl.size hDD)
  replace hDD : ∀ j, D2 j → w.heap.size ≤ j := fun j q => (hD2 j q).elim (hDD j) (fun q => Nat.le_trans bl.size q)
  replace bl := bl9
  replace bl0 := bl
  replace hd := hd2
  replace sd := sd2 sz2 df2 sd
  clear df2 sz2 old2 hd2 bl9
  clear O OM hD2
  clear DD
  obtain ⟨DD, rfl⟩ : ∃ E, E = D2 := ⟨_, rfl⟩
  clear x25
  refine wl_one (.eq (.tuple #[.slice A1 (List.replicate 16 0#8).length C1, .int .i64 0])) rfl 24 rfl (by rw [sd.1]; decide) (st_move (.tmp 26) rfl x26) ?_
  intro f19 w19 df2 sz2 old2 new2 hb
  replace x1 := tr old2 x1 rfl
  replace x26 := tr old2 x26 rfl
  have x24 := Fk.e new2
  replace hd := HD.below hd hb
  replace hO1 := Ob8.below hO1 hb
  replace bl := bgo bl hb
  replace sd := sd2 sz2 df2 sd
  clear df2 sz2 old2 new2 hb
  clear x26
  refine wl_one (.eq (.slice A1 (List.replicate 16 0#8).length C1)) rfl 27 rfl (by rw [sd.1]; decide) (st_ext0 (.tmp 24) rfl x24 rfl) ?_
  intro f20 w20 df2 sz2 old2 new2 hb
  replace x1 := tr old2 x1 rfl
  replace x24 := tr old2 x24 rfl
  have x27 := Fk.e new2
  replace hd := HD.below hd hb
  replace hO1 := Ob8.below hO1 hb
  replace bl := bgo bl hb
  replace sd := sd2 sz2 df2 sd
  clear df2 sz2 old2 new2 hb
  refine wl_one (.eq (.int .i64 0)) rfl 28 rfl (by rw [sd.1]; decide) (st_ext1 (.tmp 24) rfl x24 rfl) ?_
  intro f21 w21 df2 sz2 old2 new2 hb
  replace x1 := tr old2 x1 rfl
  replace x24 := tr old2 x24 rfl
  replace x27 := tr old2 x27 rfl
  have x28 := Fk.e new2
  replace hd := HD.below hd hb
  replace hO1 := Ob8.below hO1 hb
  replace bl := bgo bl hb
  replace sd := sd2 sz2 df2 sd
  clear df2 sz2 old2 new2 hb
  clear x24
  refine wl_one (.eq (.slice A1 (List.replicate 16 0#8).length C1)) rfl 2 rfl (by rw [sd.1]; decide) (st_assign (.tmp 27) rfl x27) ?_
  intro f22 w22 df2 sz2 old2 new2 hb
  replace x1 := tr old2 x1 rfl
  replace x27 := tr old2 x27 rfl
  replace x28 := tr old2 x28 rfl
  have x2 := Fk.e new2
  replace hd := HD.below hd hb
  replace hO1 := Ob8.below hO1 hb
  replace bl := bgo bl hb
  replace sd := sd2 sz2 df2 sd
  clear df2 sz2 old2 new2 hb
  clear x27
  refine wl_one (.eq (.int .i64 0)) rfl 3 rfl (by rw [sd.1]; decide) (st_assign (.tmp 28) rfl x28) ?_
  intro f23 w23 df2 sz2 old2 new2 hb
  replace x1 := tr old2 x1 rfl
  replace x28 := tr old2 x28 rfl
  replace x2 := tr old2 x2 rfl
  have x3 := Fk.e new2
  replace hd := HD.below hd hb
  replace hO1 := Ob8.below hO1 hb
  replace bl := bgo bl hb
  replace sd := sd2 sz2 df2 sd
  clear df2 sz2 old2 new2 hb
  refine wpList_nil ?_
  clear x28
  show Code.wp _ _ _ _ _
  refine wp_seq ?_
  refine wr_s [.eq (.pointer (some ⟨gd, 0, none⟩))] (by rw [sd.1]; kernel_rfl) ⟨fun hw ac u K => ?_, trivial⟩ ?_
  · exact st_move (.tmp 1) rfl (K.t x1 rfl)
  intro f24 w24 A hb
  replace x1 := A.t x1 rfl
  replace x2 := A.t x2 rfl
  replace x3 := A.t x3 rfl
  have x30 := A.e 0 30 rfl rfl
  replace hd := HD.below hd hb
  replace hO1 := Ob8.below hO1 hb
  replace bl := bgo bl hb
  replace sd := A.sd sd
  clear A hb
  clear x1
  refine wl_call 16 (.func 16) _ _ #[.pointer (some ⟨gd, 0, none⟩), .int .i64 5] rfl 31 rfl (by rw [sd.1]; decide) rfl rfl (two_arg x30 rfl) Try.enter16 (fun u W' => ∃ (D2 : Nat → Prop) (A : Option Addr) (C : Nat), u = .tuple #[.slice A (List.replicate 16 2#8).length C, .int .i64 0] ∧ (Fk.sl (List.replicate 16 2#8)).f (.slice A (List.replicate 16 2#8).length C) W' ∧ (0 < (List.replicate 16 2#8).length → ∃ g, A = some ⟨g, 0, none⟩ ∧ w24.heap.size ≤ g ∧ ¬ D2 g ∧ Wb W' g (List.replicate 16 2#8).length) ∧ HD W' gd M D2 aw3 ∧ (∀ j, D2 j → DD j ∨ w24.heap.size ≤ j) ∧ Fr M w24 W') ((show Calls Try.prog 16 #[.pointer (some ⟨gd, 0, none⟩), .int .i64 5] w24 (fun e W' => ∃ (D2 : Nat → Prop) (A : Option Addr) (C : Nat), e = .returned (.tuple #[.slice A (List.replicate 16 2#8).length C, .int .i64 0]) ∧ _) from by have := fk_dread hd 5; rw [show (rd aw3 5).1 = 0 from by rw [aw3_5], show (rd aw3 5).2 = List.replicate 16 2#8 from by rw [aw3_5]] at this; exact this).mono (by rintro e w' ⟨D2, A, C, rfl, q⟩; exact ⟨_, rfl, D2, A, C, rfl, q⟩)) ?_
  rintro f25 w25 df2 sz2 old2 ⟨D2, A2, C2, x31, hsl, hG0, hd2, hD2, O⟩
  have OM := O
  replace O := O.mono hd.sub
  replace x2 := tr old2 x2 rfl
  replace x3 := tr old2 x3 rfl
  replace x30 := tr old2 x30 rfl
  have hO2 : Ob8 w.heap.size D2 (fun _ => False) (List.replicate 16 2#8) A2 C2 w25 := ⟨hsl, fun q => by
    obtain ⟨g, h1, h2, h3, h4⟩ := hG0 q
    exact ⟨g, h1, Nat.le_trans bl.size h2, not_false, h3, h4⟩⟩
  clear hsl hG0
  have bl9 := bl.trans (O.below bl.size hDD)
  replace hDD : ∀ j, D2 j → w.heap.size ≤ j := fun j q => (hD2 j q).elim (hDD j) (fun q => Nat.le_trans bl.size q)
  replace bl := bl9
  replace bl0 := bl
  replace hd := hd2
  replace sd := sd2 sz2 df2 sd
  clear df2 sz2 old2 hd2 bl9
  replace hO1 := hO1.keep O (fun j q => .inl q) hD2
  clear O OM hD2
  clear DD
  obtain ⟨DD, rfl⟩ : ∃ E, E = D2 := ⟨_, rfl⟩
  clear x30
  refine wl_one (.eq (.tuple #[.slice A2 (List.replicate 16 2#8).length C2, .int .i64 0])) rfl 29 rfl (by rw [sd.1]; decide) (st_move (.tmp 31) rfl x31) ?_
  intro f26 w26 df2 sz2 old2 new2 hb
  replace x2 := tr old2 x2 rfl
  replace x3 := tr old2 x3 rfl
  replace x31 := tr old2 x31 rfl
  have x29 := Fk.e new2
  replace hd := HD.below hd hb
  replace hO1 := Ob8.below hO1 hb
  replace hO2 := Ob8.below hO2 hb
  replace bl := bgo bl hb
  replace sd := sd2 sz2 df2 sd
  clear df2 sz2 old2 new2 hb
  clear x31
  refine wl_one (.eq (.slice A2 (List.replicate 16 2#8).length C2)) rfl 32 rfl (by rw [sd.1]; decide) (st_ext0 (.tmp 29) rfl x29 rfl) ?_
  intro f27 w27 df2 sz2 old2 new2 hb
  replace x2 := tr old2 x2 rfl
  replace x3 := tr old2 x3 rfl
  replace x29 := tr old2 x29 rfl
  have x32 := Fk.e new2
  replace hd := HD.below hd hb
  replace hO1 := Ob8.below hO1 hb
  replace hO2 := Ob8.below hO2 hb
  replace bl := bgo bl hb
  replace sd := sd2 sz2 df2 sd
  clear df2 sz2 old2 new2 hb
  refine wl_one (.eq (.int .i64 0)) rfl 33 rfl (by rw [sd.1]; decide) (st_ext1 (.tmp 29) rfl x29 rfl) ?_
  intro f28 w28 df2 sz2 old2 new2 hb
  replace x2 := tr old2 x2 rfl
  replace x3 := tr old2 x3 rfl
  replace x29 := tr old2 x29 rfl
  replace x32 := tr old2 x32 rfl
  have x33 := Fk.e new2
  replace hd := HD.below hd hb
  replace hO1 := Ob8.below hO1 hb
  replace hO2 := Ob8.below hO2 hb
  replace bl := bgo bl hb
  replace sd := sd2 sz2 df2 sd
  clear df2 sz2 old2 new2 hb
  clear x29
  refine wl_one (.eq (.slice A2 (List.replicate 16 2#8).length C2)) rfl 4 rfl (by rw [sd.1]; decide) (st_assign (.tmp 32) rfl x32) ?_
  intro f29 w29 df2 sz2 old2 new2 hb
  replace x2 := tr old2 x2 rfl
  replace x3 := tr old2 x3 rfl
  replace x32 := tr old2 x32 rfl
  replace x33 := tr old2 x33 rfl
  have x4 := Fk.e new2
  replace hd := HD.below hd hb
  replace hO1 := Ob8.below hO1 hb
  replace hO2 := Ob8.below hO2 hb
  replace bl := bgo bl hb
  replace sd := sd2 sz2 df2 sd
  clear df2 sz2 old2 new2 hb
  clear x32
  refine wl_one (.eq (.int .i64 0)) rfl 5 rfl (by rw [sd.1]; decide) (st_assign (.tmp 33) rfl x33) ?_
  intro f30 w30 df2 sz2 old2 new2 hb
  replace x2 := tr old2 x2 rfl
  replace x3 := tr old2 x3 rfl
  replace x33 := tr old2 x33 rfl
  replace x4 := tr old2 x4 rfl
  have x5 := Fk.e new2
  replace hd := HD.below hd hb
  replace hO1 := Ob8.below hO1 hb
  replace hO2 := Ob8.below hO2 hb
  replace bl := bgo bl hb
  replace sd := sd2 sz2 df2 sd
  clear df2 sz2 old2 new2 hb
  refine wpList_nil ?_
  clear x33
  have hv1 := hO1.1
  have hv2 := hO2.1
  show Code.wp _ _ _ _ _
  refine wp_seq ?_
  refine wr_d [.eq (.int .i64 0), .eq (.bool true), .eq (.bool true), .eq (.int .i64 0), .eq (.bool true), .eq (.bool true), .eq (.bool true), .eq (.slice A1 (List.replicate 16 0#8).length C1), .eq (.string (str (List.replicate 16 0#8))), .sl (List.replicate 16 0#8), .eq (.string (str (List.replicate 16 0#8))), .eq (.bool true), .eq (.bool true), .eq (.bool true), .eq (.slice A2 (List.replicate 16 2#8).length C2), .eq (.string (str (List.replicate 16 2#8))), .sl (List.replicate 16 2#8), .eq (.string (str (List.replicate 16 2#8))), .eq (.bool true), .eq (.bool true), .eq (.bool true)] Try.mixed (by rw [sd.1]; kernel_rfl) ⟨fun hw ac u K => ?_, fun hw ac u K => ?_, fun hw ac u K => ?_, fun hw ac u K => ?_, fun hw ac u K => ?_, fun hw ac u K => ?_, fun hw ac u K => ?_, fun hw ac u K => ?_, fun hw ac u K => ?_, fun hw ac u K => ?_, fun hw ac u K => ?_, fun hw ac u K => ?_, fun hw ac u K => ?_, fun hw ac u K => ?_, fun hw ac u K => ?_, fun hw ac u K => ?_, fun hw ac u K => ?_, fun hw ac u K => ?_, fun hw ac u K => ?_, fun hw ac u K => ?_, fun hw ac u K => ?_, trivial⟩ ?_
  · exact st_move (.tmp 3) rfl (K.t x3 rfl)
  · exact st_eqi 37 (.tmp 34) (.const (.int .i64 0)) rfl .i64 (0) (0) (K.dep 0 34 rfl) rfl _ (by rfl)
  · exact st_move (.tmp 35) rfl (K.dep 1 35 rfl)
  · exact st_move (.tmp 5) rfl (K.t x5 rfl)
  · exact st_eqi 37 (.tmp 37) (.const (.int .i64 0)) rfl .i64 (0) (0) (K.dep 3 37 rfl) rfl _ (by rfl)
  · exact st_pick_t (.tmp 36) (.tmp 38) (.const (.bool false)) rfl (K.dep 2 36 rfl) (K.dep 4 38 rfl)
  · exact st_move (.tmp 39) rfl (K.dep 5 39 rfl)
  · exact st_move (.tmp 2) rfl (K.t x2 rfl)
  · exact st_stra (.tmp 41) rfl (fk_val (K.dep 7 41 rfl) (Fk.mono _ _ _ _ hv1 K.grow))
  · exact st_call 29 (.func 29) _ _ _ rfl rfl (one_arg rfl) Try.enter29 (full_sl 0#8 _)
  · exact st_stra (.tmp 43) rfl (K.dep 9 43 rfl)
  · exact st_eqs (.tmp 42) (.tmp 44) rfl (str (List.replicate 16 0#8)) (str (List.replicate 16 0#8)) (K.dep 8 42 rfl) (K.dep 10 44 rfl) _ (by simp)
  · exact st_pick_t (.tmp 40) (.tmp 45) (.const (.bool false)) rfl (K.dep 6 40 rfl) (K.dep 11 45 rfl)
  · exact st_move (.tmp 46) rfl (K.dep 12 46 rfl)
  · exact st_move (.tmp 4) rfl (K.t x4 rfl)
  · exact st_stra (.tmp 48) rfl (fk_val (K.dep 14 48 rfl) (Fk.mono _ _ _ _ hv2 K.grow))
  · exact st_call 29 (.func 29) _ _ _ rfl rfl (one_arg rfl) Try.enter29 (full_sl 2#8 _)
  · exact st_stra (.tmp 50) rfl (K.dep 16 50 rfl)
  · exact st_eqs (.tmp 49) (.tmp 51) rfl (str (List.replicate 16 2#8)) (str (List.replicate 16 2#8)) (K.dep 15 49 rfl) (K.dep 17 51 rfl) _ (by simp)
  · exact st_pick_t (.tmp 47) (.tmp 52) (.const (.bool false)) rfl (K.dep 13 47 rfl) (K.dep 18 52 rfl)
  · exact st_assign (.tmp 53) rfl (K.dep 19 53 rfl)
  intro f31 w31 A hb
  replace x2 := A.t x2 rfl
  replace x3 := A.t x3 rfl
  replace x4 := A.t x4 rfl
  replace x5 := A.t x5 rfl
  have x0 := A.e 20 0 rfl rfl
  replace hv1 := Fk.mono _ _ _ _ hv1 hb
  replace hv2 := Fk.mono _ _ _ _ hv2 hb
  replace hd := HD.below hd hb
  replace hO1 := Ob8.below hO1 hb
  replace hO2 := Ob8.below hO2 hb
  replace bl := bgo bl hb
  replace sd := A.sd sd
  clear A hb
  clear x2
  clear x3
  clear x4
  clear x5
  show Code.wp _ _ _ _ _
  refine wp_ret ?_
  repeat (first | with_reducible refine then_ret ?_ | with_reducible refine block_ret ?_)
  exact bodyPost_ret (v := .bool true) (ret_slot rfl f31 _ x0 _ _) sd.2 ⟨_, rfl, rfl, bl⟩
end Go.Proofs.Ytjdpomilifnlaaa
namespace Go.Proofs.Ytjdpomilifnlaaa
set_option maxRecDepth 100000
open Go.RowKit
theorem is_nil (w : World) : (Fk.is []).f (.slice none 0 0) w := ⟨none, 0, 0, 0, rfl, fun h => absurd h (by decide), rfl, fun j u hj => by simp [zv] at hj⟩
end Go.Proofs.Ytjdpomilifnlaaa
