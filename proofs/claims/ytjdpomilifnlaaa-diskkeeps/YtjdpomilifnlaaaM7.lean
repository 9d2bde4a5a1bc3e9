/- Calls of the program's disk; awake. DiskPlays. DiskPower. DiskCopies. DiskDiffers. The map of DiskKeeps: rows of texts. -/
import Derived.Test.YtjdpomilifnlaaaM6
import Derived.Test.YtjdpomilifnlaaaM3
namespace Go.Proofs.Ytjdpomilifnlaaa
set_option maxRecDepth 100000
open Go.RowKit
def aw1 : Dst := (wrt (newd 8 16) 3 (List.replicate 16 1#8)).2
def aw2 : Dst := (wrt aw1 5 (List.replicate 16 2#8)).2
def aw3 : Dst := crs aw2 [3]
theorem aw1_ok : (wrt (newd 8 16) 3 (List.replicate 16 1#8)).1 = 0 := by rfl
theorem aw2_ok : (wrt aw1 5 (List.replicate 16 2#8)).1 = 0 := by rfl
theorem aw3_3 : rd aw3 3 = (0, List.replicate 16 0#8) := by rfl
theorem aw3_5 : rd aw3 5 = (0, List.replicate 16 2#8) := by rfl
theorem awake_any (w : World) :
    Calls Try.prog 9 #[] w fun e w' => ∃ v, e = .returned v ∧ (Fk.eq (.bool true)).f v w' ∧ Below w.heap.size w w' := by
  go_enter Try.func9, Try.ntmps9
  refine code_both (fun f w1 => f.tmps.size = 54 ∧ f.defers = [] ∧ Below w.heap.size w (w1)) ⟨rfl, rfl, Below.refl _ _⟩ ?_
  rintro f0 w0 ⟨sz, df, bl⟩
  have sd := And.intro sz df
  clear sz df
  have bl0 := bl
  refine wp_seq ?_
  refine wr_a [.eq (.bool false)] (by rw [sd.1]; kernel_rfl) ⟨fun hw ac u K => ?_, trivial⟩ ?_
  · exact st_assign (.const (.bool false)) rfl rfl
  intro f1 w1 A hb
  replace bl := bgo bl hb
  replace sd := A.sd sd
  clear A hb
  show Code.wp _ _ _ _ _
  refine wp_seq ?_
  refine wr_s [] (by rw [sd.1]; kernel_rfl) trivial ?_
  intro f2 w2 A hb
  replace bl := bgo bl hb
  replace sd := A.sd sd
  clear A hb
  refine wl_call 8 (.func 8) _ _ #[.int .i64 ((8 : Nat) : Int), .int .i64 ((16 : Nat) : Int)] rfl 6 rfl (by rw [sd.1]; decide) rfl rfl rfl Try.enter8 (fun u W' => ∃ (gd : Nat) (M D : Nat → Prop), u = .pointer (some ⟨gd, 0, none⟩) ∧ HD W' gd M D (newd (8) (16)) ∧ (∀ j, D j → w2.heap.size ≤ j) ∧ Below w2.heap.size w2 W') ((fk_dnew (N := 8) (Z := 16) (by decide) (by decide) (by decide) (by decide) w2).mono (by rintro e w' ⟨gd, M, D, rfl, q⟩; exact ⟨_, rfl, gd, M, D, rfl, q⟩)) ?_
  rintro f3 w3 df2 sz2 old2 ⟨gd, M, DD, x6, hd, hD0, hb⟩
  have hDD : ∀ j, DD j → w.heap.size ≤ j := fun j q => Nat.le_trans bl.size (hD0 j q)
  clear hD0
  replace bl0 := bl
  replace bl := bgo bl hb
  replace sd := sd2 sz2 df2 sd
  clear df2 sz2 old2 hb
  refine wl_one (.eq (.pointer (some ⟨gd, 0, none⟩))) rfl 1 rfl (by rw [sd.1]; decide) (st_assign (.tmp 6) rfl x6) ?_
  intro f4 w4 df2 sz2 old2 new2 hb
  replace x6 := tr old2 x6 rfl
  have x1 := Fk.e new2
  replace hd := HD.below hd hb
  replace bl := bgo bl hb
  replace sd := sd2 sz2 df2 sd
  clear df2 sz2 old2 new2 hb
  refine wpList_nil ?_
  clear x6
  show Code.wp _ _ _ _ _
  refine wp_seq ?_
  refine wp_seq ?_
  refine wr_s [.eq (.pointer (some ⟨gd, 0, none⟩)), .eq (.bool false), .eq (.bool false), .eq (.pointer (some ⟨gd, 0, none⟩)), .sl (List.replicate 16 1#8)] (by rw [sd.1]; kernel_rfl) ⟨fun hw ac u K => ?_, fun hw ac u K => ?_, fun hw ac u K => ?_, fun hw ac u K => ?_, fun hw ac u K => ?_, trivial⟩ ?_
  · exact st_move (.tmp 1) rfl (K.t x1 rfl)
  · exact st_bin .eql 23 23 (.tmp 7) _ rfl (K.dep 0 7 rfl) rfl (by kernel_rfl)
  · exact st_move (.tmp 8) rfl (K.dep 1 8 rfl)
  · exact st_move (.tmp 1) rfl (K.t x1 rfl)
  · exact st_call 29 (.func 29) _ _ _ rfl rfl (one_arg rfl) Try.enter29 (full_sl 1#8 _)
  intro f5 w5 A hb
  replace x1 := A.t x1 rfl
  have x9 := A.e 2 9 rfl rfl
  have x10 := A.e 3 10 rfl rfl
  have x11 : Fk.f (.sl (List.replicate 16 1#8)) (f5.eval (.tmp 11)) w5 := A.has 4 11 rfl
  replace hd := HD.below hd hb
  replace bl := bgo bl hb
  replace sd := A.sd sd
  clear A hb
  refine wl_callw 18 (.func 18) _ _ #[.pointer (some ⟨gd, 0, none⟩), .int .i64 3, f5.eval (.tmp 11)] (want_of rfl rfl x9) 12 rfl (by rw [sd.1]; decide) rfl rfl (three_arg x10 rfl rfl) Try.enter18 (fun u W' => ∃ D2 : Nat → Prop, u = .int .i64 0 ∧ HD W' gd M D2 (aw1) ∧ (∀ j, D2 j → DD j ∨ w5.heap.size ≤ j) ∧ Fr M w5 W') (((show Calls Try.prog 18 #[.pointer (some ⟨gd, 0, none⟩), .int .i64 3, f5.eval (.tmp 11)] w5 (fun e w' => ∃ D', e = .returned (.int .i64 0) ∧ HD w' gd M D' aw1 ∧ _) from by have := fk_dwrite hd (by decide) (by decide) 3 x11; rw [aw1_ok] at this; exact this)).mono (by rintro e w' ⟨D2, rfl, q⟩; exact ⟨_, rfl, D2, rfl, q⟩)) ?_
  rintro f6 w6 df2 sz2 old2 ⟨D2, x12, hd2, hD2, O⟩
  have OM := O
  replace O := O.mono hd.sub
  replace x1 := tr old2 x1 rfl
  replace x9 := tr old2 x9 rfl
  replace x10 := tr old2 x10 rfl
  clear x11
  have bl9 := bl.trans (O.below bl.size hDD)
  replace hDD : ∀ j, D2 j → w.heap.size ≤ j := fun j q => (hD2 j q).elim (hDD j) (fun q => Nat.le_trans bl.size q)
  replace bl := bl9
  replace bl0 := bl
  replace hd := hd2
  replace sd := sd2 sz2 df2 sd
  clear df2 sz2 old2 hd2 bl9
  clear O OM hD2
  clear DD
  obtain ⟨DD, rfl⟩ : ∃ E, E = D2 := ⟨_, rfl⟩
  clear x10
  refine wl_onew (.eq (.bool false)) (want_of rfl rfl x9) 13 rfl (by rw [sd.1]; decide) (st_neqi 37 (.tmp 12) (.const (.int .i64 0)) rfl .i64 (0) (0) x12 rfl _ (by rfl)) ?_
  intro f7 w7 df2 sz2 old2 new2 hb
  replace bl0 := bl
  replace x1 := tr old2 x1 rfl
  replace x9 := tr old2 x9 rfl
  replace x12 := tr old2 x12 rfl
  have x13 := Fk.e new2
  replace hd := HD.below hd hb
  replace bl := bgo bl hb
  replace sd := sd2 sz2 df2 sd
  clear df2 sz2 old2 new2 hb
  clear x12
  refine wl_one (.eq (.bool false)) rfl 14 rfl (by rw [sd.1]; decide) (st_pick_f' (.tmp 9) (.const (.bool true)) (.tmp 13) rfl x9 x13) ?_
  intro f8 w8 df2 sz2 old2 new2 hb
  replace x1 := tr old2 x1 rfl
  replace x9 := tr old2 x9 rfl
  replace x13 := tr old2 x13 rfl
  have x14 := Fk.e new2
  replace hd := HD.below hd hb
  replace bl := bgo bl hb
  replace sd := sd2 sz2 df2 sd
  clear df2 sz2 old2 new2 hb
  clear x9
  clear x13
  refine wl_one (.eq (.bool false)) rfl 15 rfl (by rw [sd.1]; decide) (st_move (.tmp 14) rfl x14) ?_
  intro f9 w9 df2 sz2 old2 new2 hb
  replace x1 := tr old2 x1 rfl
  replace x14 := tr old2 x14 rfl
  have x15 := Fk.e new2
  replace hd := HD.below hd hb
  replace bl := bgo bl hb
  replace sd := sd2 sz2 df2 sd
  clear df2 sz2 old2 new2 hb
  clear x14
  refine wl_onew (.eq (.pointer (some ⟨gd, 0, none⟩))) (want_of rfl rfl x15) 16 rfl (by rw [sd.1]; decide) (st_move (.tmp 1) rfl x1) ?_
  intro f10 w10 df2 sz2 old2 new2 hb
  replace bl0 := bl
  replace x1 := tr old2 x1 rfl
  replace x15 := tr old2 x15 rfl
  have x16 := Fk.e new2
  replace hd := HD.below hd hb
  replace bl := bgo bl hb
  replace sd := sd2 sz2 df2 sd
  clear df2 sz2 old2 new2 hb
  refine wl_onew (.sl (List.replicate 16 2#8)) (want_of rfl rfl x15) 17 rfl (by rw [sd.1]; decide) (st_call 29 (.func 29) _ _ #[.int .u8 2] rfl rfl (one_arg rfl) Try.enter29 (full_sl 2#8 _)) ?_
  intro f11 w11 df2 sz2 old2 new2 hb
  replace bl0 := bl
  replace x1 := tr old2 x1 rfl
  replace x15 := tr old2 x15 rfl
  replace x16 := tr old2 x16 rfl
  have x17 : Fk.f (.sl (List.replicate 16 2#8)) (f11.eval (.tmp 17)) w11 := new2
  replace hd := HD.below hd hb
  replace bl := bgo bl hb
  replace sd := sd2 sz2 df2 sd
  clear df2 sz2 old2 new2 hb
  refine wl_callw 18 (.func 18) _ _ #[.pointer (some ⟨gd, 0, none⟩), .int .i64 5, f11.eval (.tmp 17)] (want_of rfl rfl x15) 18 rfl (by rw [sd.1]; decide) rfl rfl (three_arg x16 rfl rfl) Try.enter18 (fun u W' => ∃ D2 : Nat → Prop, u = .int .i64 0 ∧ HD W' gd M D2 (aw2) ∧ (∀ j, D2 j → DD j ∨ w11.heap.size ≤ j) ∧ Fr M w11 W') (((show Calls Try.prog 18 #[.pointer (some ⟨gd, 0, none⟩), .int .i64 5, f11.eval (.tmp 17)] w11 (fun e w' => ∃ D', e = .returned (.int .i64 0) ∧ HD w' gd M D' aw2 ∧ _) from by have := fk_dwrite hd (by decide) (by decide) 5 x17; rw [aw2_ok] at this; exact this)).mono (by rintro e w' ⟨D2, rfl, q⟩; exact ⟨_, rfl, D2, rfl, q⟩)) ?_
  rintro f12 w12 df2 sz2 old2 ⟨D2, x18, hd2, hD2, O⟩
  have OM := O
  replace O := O.mono hd.sub
  replace x1 := tr old2 x1 rfl
  replace x15 := tr old2 x15 rfl
  replace x16 := tr old2 x16 rfl
  clear x17
  have bl9 := bl.trans (O.below bl.size hDD)
  replace hDD : ∀ j, D2 j → w.heap.size ≤ j := fun j q => (hD2 j q).elim (hDD j) (fun q => Nat.le_trans bl.size q)
  replace bl := bl9
  replace bl0 := bl
  replace hd := hd2
  replace sd := sd2 sz2 df2 sd
  clear df2 sz2 old2 hd2 bl9
  clear O OM hD2
  clear DD
  obtain ⟨DD, rfl⟩ : ∃ E, E = D2 := ⟨_, rfl⟩
  clear x16
  refine wl_onew (.eq (.bool false)) (want_of rfl rfl x15) 19 rfl (by rw [sd.1]; decide) (st_neqi 37 (.tmp 18) (.const (.int .i64 0)) rfl .i64 (0) (0) x18 rfl _ (by rfl)) ?_
  intro f13 w13 df2 sz2 old2 new2 hb
  replace bl0 := bl
  replace x1 := tr old2 x1 rfl
  replace x15 := tr old2 x15 rfl
  replace x18 := tr old2 x18 rfl
  have x19 := Fk.e new2
  replace hd := HD.below hd hb
  replace bl := bgo bl hb
  replace sd := sd2 sz2 df2 sd
  clear df2 sz2 old2 new2 hb
  clear x18
  refine wl_one (.eq (.bool false)) rfl 20 rfl (by rw [sd.1]; decide) (st_pick_f' (.tmp 15) (.const (.bool true)) (.tmp 19) rfl x15 x19) ?_
  intro f14 w14 df2 sz2 old2 new2 hb
  replace x1 := tr old2 x1 rfl
  replace x15 := tr old2 x15 rfl
  replace x19 := tr old2 x19 rfl
  have x20 := Fk.e new2
  replace hd := HD.below hd hb
  replace bl := bgo bl hb
  replace sd := sd2 sz2 df2 sd
  clear df2 sz2 old2 new2 hb
  refine wpList_nil ?_
  clear x15
  clear x19
  show Code.wp _ _ _ _ _
  refine wp_cond_false x20 ?_
  refine wp_skip ?_
  show Code.wp _ _ _ _ _
  refine wp_seq ?_
  refine wr_s [.eq (.pointer (some ⟨gd, 0, none⟩)), .oi 0 [3]] (by rw [sd.1]; kernel_rfl) ⟨fun hw ac u K => ?_, fun hw ac u K => ?_, trivial⟩ ?_
  · exact st_move (.tmp 1) rfl (K.t x1 rfl)
  · exact st_bi1 (.const (.int .i64 3)) rfl 3 rfl 0 (Nat.zero_le _)
  intro f15 w15 A hb
  replace x1 := A.t x1 rfl
  replace x20 := A.t x20 rfl
  have x21 := A.e 0 21 rfl rfl
  have x22 : Fk.f (.oi 0 [3]) (f15.eval (.tmp 22)) w15 := A.has 1 22 rfl
  replace hd := HD.below hd hb
  replace bl := bgo bl hb
  replace sd := A.sd sd
  clear A hb
  clear x20
  refine wl_call 14 (.func 14) _ _ #[.pointer (some ⟨gd, 0, none⟩), f15.eval (.tmp 22)] rfl 23 rfl (by rw [sd.1]; decide) rfl rfl (two_arg x21 rfl) Try.enter14 (fun u W' => ∃ D2 : Nat → Prop, u = .tuple #[] ∧ HD W' gd M D2 (aw3) ∧ (∀ j, D2 j → DD j ∨ w15.heap.size ≤ j) ∧ Fr M w15 W') ((fk_dcrash hd (by decide) (oi_is x22) (by decide) (by decide)).mono (by rintro e w' ⟨D2, rfl, q⟩; exact ⟨_, rfl, D2, rfl, q⟩)) ?_
  rintro f16 w16 df2 sz2 old2 ⟨D2, x23, hd2, hD2, O⟩
  have OM := O
  replace O := O.mono hd.sub
  replace x1 := tr old2 x1 rfl
  replace x21 := tr old2 x21 rfl
  clear x22
  have bl9 := bl.trans (O.below bl.size hDD)
  replace hDD : ∀ j, D2 j → w.heap.size ≤ j := fun j q => (hD2 j q).elim (hDD j) (fun q => Nat.le_trans bl.size q)
  replace bl := bl9
  replace bl0 := bl
  replace hd := hd2
  replace sd := sd2 sz2 df2 sd
  clear df2 sz2 old2 hd2 bl9
  clear O OM hD2
  clear DD
  obtain ⟨DD, rfl⟩ : ∃ E, E = D2 := ⟨_, rfl⟩
  refine wpList_nil ?_
  clear x21
  clear x23
  show Code.wp _ _ _ _ _
  refine wp_seq ?_
  refine wr_s [.eq (.pointer (some ⟨gd, 0, none⟩))] (by rw [sd.1]; kernel_rfl) ⟨fun hw ac u K => ?_, trivial⟩ ?_
  · exact st_move (.tmp 1) rfl (K.t x1 rfl)
  intro f17 w17 A hb
  replace x1 := A.t x1 rfl
  have x25 := A.e 0 25 rfl rfl
  replace hd := HD.below hd hb
  replace bl := bgo bl hb
  replace sd := A.sd sd
  clear A hb
  refine wl_call 16 (.func 16) _ _ #[.pointer (some ⟨gd, 0, none⟩), .int .i64 3] rfl 26 rfl (by rw [sd.1]; decide) rfl rfl (two_arg x25 rfl) Try.enter16 (fun u W' => ∃ (D2 : Nat → Prop) (A : Option Addr) (C : Nat), u = .tuple #[.slice A (List.replicate 16 0#8).length C, .int .i64 0] ∧ (Fk.sl (List.replicate 16 0#8)).f (.slice A (List.replicate 16 0#8).length C) W' ∧ (0 < (List.replicate 16 0#8).length → ∃ g, A = some ⟨g, 0, none⟩ ∧ w17.heap.size ≤ g ∧ ¬ D2 g ∧ Wb W' g (List.replicate 16 0#8).length) ∧ HD W' gd M D2 aw3 ∧ (∀ j, D2 j → DD j ∨ w17.heap.size ≤ j) ∧ Fr M w17 W') ((show Calls Try.prog 16 #[.pointer (some ⟨gd, 0, none⟩), .int .i64 3] w17 (fun e W' => ∃ (D2 : Nat → Prop) (A : Option Addr) (C : Nat), e = .returned (.tuple #[.slice A (List.replicate 16 0#8).length C, .int .i64 0]) ∧ _) from by have := fk_dread hd 3; rw [show (rd aw3 3).1 = 0 from by rw [aw3_3], show (rd aw3 3).2 = List.replicate 16 0#8 from by rw [aw3_3]] at this; exact this).mono (by rintro e w' ⟨D2, A, C, rfl, q⟩; exact ⟨_, rfl, D2, A, C, rfl, q⟩)) ?_
  rintro f18 w18 df2 sz2 old2 ⟨D2, A1, C1, x26, hsl, hG0, hd2, hD2, O⟩
  have OM := O
  replace O := O.mono hd.sub
  replace x1 := tr old2 x1 rfl
  replace x25 := tr old2 x25 rfl
  have hO1 : Ob8 w.heap.size D2 (fun _ => False) (List.replicate 16 0#8) A1 C1 w18 := ⟨hsl, fun q => by
    obtain ⟨g, h1, h2, h3, h4⟩ := hG0 q
    exact ⟨g, h1, Nat.le_trans bl.size h2, not_false, h3, h4⟩⟩
  clear hsl hG0
  have bl9 := bl.trans (O.below bl.size hDD)
  replace hDD : ∀ j, D2 j → w.heap.size ≤ j := fun j q => (hD2 j q).elim (hDD j) (fun q => Nat.le_trans bl.size q)
  replace bl := bl9
  replace bl0 := bl
  replace hd := hd2
  replace sd := sd2 sz2 df2 sd
  clear df2 sz2 old2 hd2 bl9
  clear O OM hD2
  clear DD
  obtain ⟨DD, rfl⟩ : ∃ E, E = D2 := ⟨_, rfl⟩
  clear x25
  refine wl_one (.eq (.tuple #[.slice A1 (List.replicate 16 0#8).length C1, .int .i64 0])) rfl 24 rfl (by rw [sd.1]; decide) (st_move (.tmp 26) rfl x26) ?_
  intro f19 w19 df2 sz2 old2 new2 hb
  replace x1 := tr old2 x1 rfl
  replace x26 := tr old2 x26 rfl
  have x24 := Fk.e new2
  replace hd := HD.below hd hb
  replace hO1 := Ob8.below hO1 hb
  replace bl := bgo bl hb
  replace sd := sd2 sz2 df2 sd
  clear df2 sz2 old2 new2 hb
  clear x26
  refine wl_one (.eq (.slice A1 (List.replicate 16 0#8).length C1)) rfl 27 rfl (by rw [sd.1]; decide) (st_ext0 (.tmp 24) rfl x24 rfl) ?_
  intro f20 w20 df2 sz2 old2 new2 hb
  replace x1 := tr old2 x1 rfl
  replace x24 := tr old2 x24 rfl
  have x27 := Fk.e new2
  replace hd := HD.below hd hb
  replace hO1 := Ob8.below hO1 hb
  replace bl := bgo bl hb
  replace sd := sd2 sz2 df2 sd
  clear df2 sz2 old2 new2 hb
  refine wl_one (.eq (.int .i64 0)) rfl 28 rfl (by rw [sd.1]; decide) (st_ext1 (.tmp 24) rfl x24 rfl) ?_
  intro f21 w21 df2 sz2 old2 new2 hb
  replace x1 := tr old2 x1 rfl
  replace x24 := tr old2 x24 rfl
  replace x27 := tr old2 x27 rfl
  have x28 := Fk.e new2
  replace hd := HD.below hd hb
  replace hO1 := Ob8.below hO1 hb
  replace bl := bgo bl hb
  replace sd := sd2 sz2 df2 sd
  clear df2 sz2 old2 new2 hb
  clear x24
  refine wl_one (.eq (.slice A1 (List.replicate 16 0#8).length C1)) rfl 2 rfl (by rw [sd.1]; decide) (st_assign (.tmp 27) rfl x27) ?_
  intro f22 w22 df2 sz2 old2 new2 hb
  replace x1 := tr old2 x1 rfl
  replace x27 := tr old2 x27 rfl
  replace x28 := tr old2 x28 rfl
  have x2 := Fk.e new2
  replace hd := HD.below hd hb
  replace hO1 := Ob8.below hO1 hb
  replace bl := bgo bl hb
  replace sd := sd2 sz2 df2 sd
  clear df2 sz2 old2 new2 hb
  clear x27
  refine wl_one (.eq (.int .i64 0)) rfl 3 rfl (by rw [sd.1]; decide) (st_assign (.tmp 28) rfl x28) ?_
  intro f23 w23 df2 sz2 old2 new2 hb
  replace x1 := tr old2 x1 rfl
  replace x28 := tr old2 x28 rfl
  replace x2 := tr old2 x2 rfl
  have x3 := Fk.e new2
  replace hd := HD.below hd hb
  replace hO1 := Ob8.below hO1 hb
  replace bl := bgo bl hb
  replace sd := sd2 sz2 df2 sd
  clear df2 sz2 old2 new2 hb
  refine wpList_nil ?_
  clear x28
  show Code.wp _ _ _ _ _
  refine wp_seq ?_
  refine wr_s [.eq (.pointer (some ⟨gd, 0, none⟩))] (by rw [sd.1]; kernel_rfl) ⟨fun hw ac u K => ?_, trivial⟩ ?_
  · exact st_move (.tmp 1) rfl (K.t x1 rfl)
  intro f24 w24 A hb
  replace x1 := A.t x1 rfl
  replace x2 := A.t x2 rfl
  replace x3 := A.t x3 rfl
  have x30 := A.e 0 30 rfl rfl
  replace hd := HD.below hd hb
  replace hO1 := Ob8.below hO1 hb
  replace bl := bgo bl hb
  replace sd := A.sd sd
  clear A hb
  clear x1
  refine wl_call 16 (.func 16) _ _ #[.pointer (some ⟨gd, 0, none⟩), .int .i64 5] rfl 31 rfl (by rw [sd.1]; decide) rfl rfl (two_arg x30 rfl) Try.enter16 (fun u W' => ∃ (D2 : Nat → Prop) (A : Option Addr) (C : Nat), u = .tuple #[.slice A (List.replicate 16 2#8).length C, .int .i64 0] ∧ (Fk.sl (List.replicate 16 2#8)).f (.slice A (List.replicate 16 2#8).length C) W' ∧ (0 < (List.replicate 16 2#8).length → ∃ g, A = some ⟨g, 0, none⟩ ∧ w24.heap.size ≤ g ∧ ¬ D2 g ∧ Wb W' g (List.replicate 16 2#8).length) ∧ HD W' gd M D2 aw3 ∧ (∀ j, D2 j → DD j ∨ w24.heap.size ≤ j) ∧ Fr M w24 W') ((show Calls Try.prog 16 #[.pointer (some ⟨gd, 0, none⟩), .int .i64 5] w24 (fun e W' => ∃ (D2 : Nat → Prop) (A : Option Addr) (C : Nat), e = .returned (.tuple #[.slice A (List.replicate 16 2#8).length C, .int .i64 0]) ∧ _) from by have := fk_dread hd 5; rw [show (rd aw3 5).1 = 0 from by rw [aw3_5], show (rd aw3 5).2 = List.replicate 16 2#8 from by rw [aw3_5]] at this; exact this).mono (by rintro e w' ⟨D2, A, C, rfl, q⟩; exact ⟨_, rfl, D2, A, C, rfl, q⟩)) ?_
  rintro f25 w25 df2 sz2 old2 ⟨D2, A2, C2, x31, hsl, hG0, hd2, hD2, O⟩
  have OM := O
  replace O := O.mono hd.sub
  replace x2 := tr old2 x2 rfl
  replace x3 := tr old2 x3 rfl
  replace x30 := tr old2 x30 rfl
  have hO2 : Ob8 w.heap.size D2 (fun _ => False) (List.replicate 16 2#8) A2 C2 w25 := ⟨hsl, fun q => by
    obtain ⟨g, h1, h2, h3, h4⟩ := hG0 q
    exact ⟨g, h1, Nat.le_trans bl.size h2, not_false, h3, h4⟩⟩
  clear hsl hG0
  have bl9 := bl.trans (O.below bl.size hDD)
  replace hDD : ∀ j, D2 j → w.heap.size ≤ j := fun j q => (hD2 j q).elim (hDD j) (fun q => Nat.le_trans bl.size q)
  replace bl := bl9
  replace bl0 := bl
  replace hd := hd2
  replace sd := sd2 sz2 df2 sd
  clear df2 sz2 old2 hd2 bl9
  replace hO1 := hO1.keep O (fun j q => .inl q) hD2
  clear O OM hD2
  clear DD
  obtain ⟨DD, rfl⟩ : ∃ E, E = D2 := ⟨_, rfl⟩
  clear x30
  refine wl_one (.eq (.tuple #[.slice A2 (List.replicate 16 2#8).length C2, .int .i64 0])) rfl 29 rfl (by rw [sd.1]; decide) (st_move (.tmp 31) rfl x31) ?_
  intro f26 w26 df2 sz2 old2 new2 hb
  replace x2 := tr old2 x2 rfl
  replace x3 := tr old2 x3 rfl
  replace x31 := tr old2 x31 rfl
  have x29 := Fk.e new2
  replace hd := HD.below hd hb
  replace hO1 := Ob8.below hO1 hb
  replace hO2 := Ob8.below hO2 hb
  replace bl := bgo bl hb
  replace sd := sd2 sz2 df2 sd
  clear df2 sz2 old2 new2 hb
  clear x31
  refine wl_one (.eq (.slice A2 (List.replicate 16 2#8).length C2)) rfl 32 rfl (by rw [sd.1]; decide) (st_ext0 (.tmp 29) rfl x29 rfl) ?_
  intro f27 w27 df2 sz2 old2 new2 hb
  replace x2 := tr old2 x2 rfl
  replace x3 := tr old2 x3 rfl
  replace x29 := tr old2 x29 rfl
  have x32 := Fk.e new2
  replace hd := HD.below hd hb
  replace hO1 := Ob8.below hO1 hb
  replace hO2 := Ob8.below hO2 hb
  replace bl := bgo bl hb
  replace sd := sd2 sz2 df2 sd
  clear df2 sz2 old2 new2 hb
  refine wl_one (.eq (.int .i64 0)) rfl 33 rfl (by rw [sd.1]; decide) (st_ext1 (.tmp 29) rfl x29 rfl) ?_
  intro f28 w28 df2 sz2 old2 new2 hb
  replace x2 := tr old2 x2 rfl
  replace x3 := tr old2 x3 rfl
  replace x29 := tr old2 x29 rfl
  replace x32 := tr old2 x32 rfl
  have x33 := Fk.e new2
  replace hd := HD.below hd hb
  replace hO1 := Ob8.below hO1 hb
  replace hO2 := Ob8.below hO2 hb
  replace bl := bgo bl hb
  replace sd := sd2 sz2 df2 sd
  clear df2 sz2 old2 new2 hb
  clear x29
  refine wl_one (.eq (.slice A2 (List.replicate 16 2#8).length C2)) rfl 4 rfl (by rw [sd.1]; decide) (st_assign (.tmp 32) rfl x32) ?_
  intro f29 w29 df2 sz2 old2 new2 hb
  replace x2 := tr old2 x2 rfl
  replace x3 := tr old2 x3 rfl
  replace x32 := tr old2 x32 rfl
  replace x33 := tr old2 x33 rfl
  have x4 := Fk.e new2
  replace hd := HD.below hd hb
  replace hO1 := Ob8.below hO1 hb
  replace hO2 := Ob8.below hO2 hb
  replace bl := bgo bl hb
  replace sd := sd2 sz2 df2 sd
  clear df2 sz2 old2 new2 hb
  clear x32
  refine wl_one (.eq (.int .i64 0)) rfl 5 rfl (by rw [sd.1]; decide) (st_assign (.tmp 33) rfl x33) ?_
  intro f30 w30 df2 sz2 old2 new2 hb
  replace x2 := tr old2 x2 rfl
  replace x3 := tr old2 x3 rfl
  replace x33 := tr old2 x33 rfl
  replace x4 := tr old2 x4 rfl
  have x5 := Fk.e new2
  replace hd := HD.below hd hb
  replace hO1 := Ob8.below hO1 hb
  replace hO2 := Ob8.below hO2 hb
  replace bl := bgo bl hb
  replace sd := sd2 sz2 df2 sd
  clear df2 sz2 old2 new2 hb
  refine wpList_nil ?_
  clear x33
  have hv1 := hO1.1
  have hv2 := hO2.1
  show Code.wp _ _ _ _ _
  refine wp_seq ?_
  refine wr_d [.eq (.int .i64 0), .eq (.bool true), .eq (.bool true), .eq (.int .i64 0), .eq (.bool true), .eq (.bool true), .eq (.bool true), .eq (.slice A1 (List.replicate 16 0#8).length C1), .eq (.string (str (List.replicate 16 0#8))), .sl (List.replicate 16 0#8), .eq (.string (str (List.replicate 16 0#8))), .eq (.bool true), .eq (.bool true), .eq (.bool true), .eq (.slice A2 (List.replicate 16 2#8).length C2), .eq (.string (str (List.replicate 16 2#8))), .sl (List.replicate 16 2#8), .eq (.string (str (List.replicate 16 2#8))), .eq (.bool true), .eq (.bool true), .eq (.bool true)] Try.mixed (by rw [sd.1]; kernel_rfl) ⟨fun hw ac u K => ?_, fun hw ac u K => ?_, fun hw ac u K => ?_, fun hw ac u K => ?_, fun hw ac u K => ?_, fun hw ac u K => ?_, fun hw ac u K => ?_, fun hw ac u K => ?_, fun hw ac u K => ?_, fun hw ac u K => ?_, fun hw ac u K => ?_, fun hw ac u K => ?_, fun hw ac u K => ?_, fun hw ac u K => ?_, fun hw ac u K => ?_, fun hw ac u K => ?_, fun hw ac u K => ?_, fun hw ac u K => ?_, fun hw ac u K => ?_, fun hw ac u K => ?_, fun hw ac u K => ?_, trivial⟩ ?_
  · exact st_move (.tmp 3) rfl (K.t x3 rfl)
  · exact st_eqi 37 (.tmp 34) (.const (.int .i64 0)) rfl .i64 (0) (0) (K.dep 0 34 rfl) rfl _ (by rfl)
  · exact st_move (.tmp 35) rfl (K.dep 1 35 rfl)
  · exact st_move (.tmp 5) rfl (K.t x5 rfl)
  · exact st_eqi 37 (.tmp 37) (.const (.int .i64 0)) rfl .i64 (0) (0) (K.dep 3 37 rfl) rfl _ (by rfl)
  · exact st_pick_t (.tmp 36) (.tmp 38) (.const (.bool false)) rfl (K.dep 2 36 rfl) (K.dep 4 38 rfl)
  · exact st_move (.tmp 39) rfl (K.dep 5 39 rfl)
  · exact st_move (.tmp 2) rfl (K.t x2 rfl)
  · exact st_stra (.tmp 41) rfl (fk_val (K.dep 7 41 rfl) (Fk.mono _ _ _ _ hv1 K.grow))
  · exact st_call 29 (.func 29) _ _ _ rfl rfl (one_arg rfl) Try.enter29 (full_sl 0#8 _)
  · exact st_stra (.tmp 43) rfl (K.dep 9 43 rfl)
  · exact st_eqs (.tmp 42) (.tmp 44) rfl (str (List.replicate 16 0#8)) (str (List.replicate 16 0#8)) (K.dep 8 42 rfl) (K.dep 10 44 rfl) _ (by simp)
  · exact st_pick_t (.tmp 40) (.tmp 45) (.const (.bool false)) rfl (K.dep 6 40 rfl) (K.dep 11 45 rfl)
  · exact st_move (.tmp 46) rfl (K.dep 12 46 rfl)
  · exact st_move (.tmp 4) rfl (K.t x4 rfl)
  · exact st_stra (.tmp 48) rfl (fk_val (K.dep 14 48 rfl) (Fk.mono _ _ _ _ hv2 K.grow))
  · exact st_call 29 (.func 29) _ _ _ rfl rfl (one_arg rfl) Try.enter29 (full_sl 2#8 _)
  · exact st_stra (.tmp 50) rfl (K.dep 16 50 rfl)
  · exact st_eqs (.tmp 49) (.tmp 51) rfl (str (List.replicate 16 2#8)) (str (List.replicate 16 2#8)) (K.dep 15 49 rfl) (K.dep 17 51 rfl) _ (by simp)
  · exact st_pick_t (.tmp 47) (.tmp 52) (.const (.bool false)) rfl (K.dep 13 47 rfl) (K.dep 18 52 rfl)
  · exact st_assign (.tmp 53) rfl (K.dep 19 53 rfl)
  intro f31 w31 A hb
  replace x2 := A.t x2 rfl
  replace x3 := A.t x3 rfl
  replace x4 := A.t x4 rfl
  replace x5 := A.t x5 rfl
  have x0 := A.e 20 0 rfl rfl
  replace hv1 := Fk.mono _ _ _ _ hv1 hb
  replace hv2 := Fk.mono _ _ _ _ hv2 hb
  replace hd := HD.below hd hb
  replace hO1 := Ob8.below hO1 hb
  replace hO2 := Ob8.below hO2 hb
  replace bl := bgo bl hb
  replace sd := A.sd sd
  clear A hb
  clear x2
  clear x3
  clear x4
  clear x5
  show Code.wp _ _ _ _ _
  refine wp_ret ?_
  repeat (first | with_reducible refine then_ret ?_ | with_reducible refine block_ret ?_)
  exact bodyPost_ret (v := .bool true) (ret_slot rfl f31 _ x0 _ _) sd.2 ⟨_, rfl, rfl, bl⟩
end Go.Proofs.Ytjdpomilifnlaaa
namespace Go.Proofs.Ytjdpomilifnlaaa
set_option maxRecDepth 100000
open Go.RowKit
end Go.Proofs.Ytjdpomilifnlaaa
namespace Go.Proofs.Ytjdpomilifnlaaa
set_option maxRecDepth 100000
open Go.RowKit
end Go.Proofs.Ytjdpomilifnlaaa
namespace Go.Proofs.Ytjdpomilifnlaaa
set_option maxRecDepth 100000
open Go.RowKit
end Go.Proofs.Ytjdpomilifnlaaa
namespace Go.Proofs.Ytjdpomilifnlaaa
set_option maxRecDepth 100000
open Go.RowKit
/-- The power is on, and stays so. -/
def On (s : Dst) : Prop := s.armed = false ∧ s.down = false
theorem on_cmd {s : Dst} (h : On s) : On (cmd s).2 := by
  unfold cmd
  rw [if_neg (by rw [h.1]; simp)]
  exact h
theorem on_wrt {s : Dst} (h : On s) (i : Int) (b : List (BitVec 8)) : On (wrt s i b).2 := by
  unfold wrt
  split
  · exact h
  · split
    · exact h
    · split
      · exact h
      · exact on_cmd (s := { s with cch := s.cch.set i.toNat b }) h
theorem on_flu {s : Dst} (h : On s) : On (flu s).2 := by
  unfold flu
  split
  · exact h
  · split
    · exact on_cmd h
    · exact on_cmd h
theorem on_crs (s : Dst) (l : List Int) : On (crs s l) := ⟨rfl, rfl⟩
theorem on_rd {s : Dst} (h : On s) {k : Nat} (hk : k < s.has.length) : rd s (k : Int) = (0, nowd s k) := by
  unfold rd
  rw [if_neg (by rw [h.2]; simp), if_neg (by omega), Int.toNat_natCast]
end Go.Proofs.Ytjdpomilifnlaaa
namespace Go.Proofs.Ytjdpomilifnlaaa
set_option maxRecDepth 100000
open Go.RowKit
theorem os_keep {B : Nat} {l : List (List (BitVec 8))} {v : Value} {w w' : World} (h : (Fk.os B l).f v w) (hk : ∀ g, v.ownBlock = some g → w'.heap[g]? = w.heap[g]?) : (Fk.os B l).f v w' := by
  obtain ⟨h1, h2⟩ := h
  refine ⟨h1, ?_⟩
  rcases h2 with h2 | ⟨g, cap, cur, e, hB, hg, h3⟩
  · exact .inl h2
  · exact .inr ⟨g, cap, cur, e, hB, (hk g (by rw [e]; rfl)).trans hg, h3⟩
theorem os_block {B : Nat} {l : List (List (BitVec 8))} {v : Value} {w : World} (h : (Fk.os B l).f v w) (hl : l ≠ []) : ∃ g C, v = .slice (some ⟨g, 0, none⟩) l.length C ∧ B ≤ g ∧ g < w.heap.size ∧ Rs w g l := by
  obtain ⟨h1, h2⟩ := h
  rcases h2 with ⟨_, h0⟩ | ⟨g, cap, cur, e, hB, hg, _, _, _, ht⟩
  · exact absurd (List.eq_nil_of_length_eq_zero h0) hl
  · refine ⟨g, cap, e, hB, (Array.getElem?_eq_some_iff.1 hg).1, cur, hg, fun i x hi => ?_⟩
    have e2 := congrArg (·[i]?) ht
    have hil := (List.getElem?_eq_some_iff.1 hi).1
    simp only [List.getElem?_take, if_pos (show i < l.length * 1 by omega), Array.getElem?_toList] at e2
    rw [e2]
    unfold sv
    rw [List.getElem?_map, hi]
    rfl
theorem os_cut {B : Nat} {x : List (BitVec 8)} {r : List (List (BitVec 8))} {g C : Nat} {w : World} (h : (Fk.os B (x :: r)).f (.slice (some ⟨g, 0, none⟩) (x :: r).length C) w) : (Fk.os B [x]).f (.slice (some ⟨g, 0, none⟩) 1 C) w ∧ 1 ≤ C := by
  obtain ⟨h1, h2⟩ := h
  rcases h2 with ⟨e, _⟩ | ⟨g', cap, cur, e, hB, hg, h3, h4, h5, ht⟩
  · cases e
  · cases e
    have h6 : (x :: r).length = r.length + 1 := rfl
    refine ⟨⟨rfl, .inr ⟨g, C, cur, rfl, hB, hg, by show 1 ≤ C; omega, h4, h5, ?_⟩⟩, by omega⟩
    have e2 := congrArg (List.take 1) ht
    rw [List.take_take, Nat.min_eq_left (by omega)] at e2
    exact e2
theorem fr_grown {w w' : World} {row : Option Nat} (h : w.grownBy w' row) : Fr (fun j => row = some j) w w' := ⟨h.os, h.tape, h.output, h.size, fun j hj hn => h.block j hj (fun e => hn e.symm)⟩
/-- The law's map: for each number below n a row of texts of its own, apart from the others and from the blocks of X. -/
structure Mr (w : World) (B b : Nat) (X : Nat → Prop) (n : Nat) (ts : Nat → List (List (BitVec 8))) (lm : List (Int × Value)) : Prop where
  im : Im w b lm
  bB : B ≤ b
  bX : ¬ X b
  key : ∀ k v, mget lm k = some v → ∃ i : Nat, k = i ∧ i < n
  ne : ∀ i, i < n → ts i ≠ []
  row : ∀ i, i < n → ∃ v g, mget lm (i : Int) = some v ∧ (Fk.os B (ts i)).f v w ∧ v.ownBlock = some g ∧ ¬ X g
  apart : ∀ (i j : Int) (u v : Value), mget lm i = some u → mget lm j = some v → i ≠ j → u.ownBlock ≠ v.ownBlock
theorem os_ownlt {B : Nat} {l : List (List (BitVec 8))} {v : Value} {w : World} (h : (Fk.os B l).f v w) {g : Nat} (hg : v.ownBlock = some g) : g < w.heap.size ∧ B ≤ g ∧ ∃ cs, w.heap[g]? = some (.cells cs 9 (0, 0)) := by
  obtain ⟨_, h2⟩ := h
  rcases h2 with ⟨rfl, _⟩ | ⟨g', cap, cur, rfl, hB, hg', _⟩
  · cases hg
  · cases hg
    exact ⟨(Array.getElem?_eq_some_iff.1 hg').1, hB, cur, hg'⟩
theorem Mr.lt {w : World} {B b n : Nat} {X : Nat → Prop} {ts : Nat → List (List (BitVec 8))} {lm : List (Int × Value)} (h : Mr w B b X n ts lm) : b < w.heap.size := h.im.lt
/-- Other blocks have turned. -/
theorem Mr.disk {w w' : World} {B b n : Nat} {X X2 : Nat → Prop} {ts : Nat → List (List (BitVec 8))} {lm : List (Int × Value)} (h : Mr w B b X n ts lm) (O : Fr X w w') (hX : ∀ j, X2 j → X j ∨ w.heap.size ≤ j) : Mr w' B b X2 n ts lm := by
  refine ⟨h.im.keep (O.block b h.lt h.bX), h.bB, fun q => (hX b q).elim h.bX (fun q => by have := h.lt; omega), h.key, h.ne, fun i hi => ?_, h.apart⟩
  obtain ⟨v, g, h1, h2, h3, h4⟩ := h.row i hi
  have hlt := (os_ownlt h2 h3).1
  refine ⟨v, g, h1, os_keep h2 (fun g' e => ?_), h3, fun q => (hX g q).elim h4 (fun q => by omega)⟩
  rw [h3] at e
  cases e
  exact O.block g hlt h4
theorem Mr.below {w w' : World} {B b n : Nat} {X : Nat → Prop} {ts : Nat → List (List (BitVec 8))} {lm : List (Int × Value)} (h : Mr w B b X n ts lm) (hb : Below w.heap.size w w') : Mr w' B b X n ts lm := h.disk ⟨hb.os, hb.tape, hb.output, hb.size, fun j hj _ => hb.block j hj⟩ (fun _ q => .inl q)
theorem Mr.own {w : World} {B b n : Nat} {X : Nat → Prop} {ts : Nat → List (List (BitVec 8))} {lm : List (Int × Value)} (h : Mr w B b X n ts lm) {k : Int} {v : Value} (hv : mget lm k = some v) : ∃ g, v.ownBlock = some g ∧ ¬ X g ∧ B ≤ g ∧ g < w.heap.size ∧ g ≠ b := by
  obtain ⟨i, rfl, hi⟩ := h.key k v hv
  obtain ⟨u, g, h1, h2, h3, h4⟩ := h.row i hi
  rw [hv] at h1
  cases h1
  obtain ⟨q1, q2, cs, q3⟩ := os_ownlt h2 h3
  refine ⟨g, h3, h4, q2, q1, fun e => ?_⟩
  obtain ⟨_, es, clock, hm, _⟩ := h.im
  rw [e, hm] at q3
  cases q3
/-- A row is put: made anew, or grown. -/
theorem Mr.put {w w2 w3 : World} {B b n n2 : Nat} {X : Nat → Prop} {ts : Nat → List (List (BitVec 8))} {lm : List (Int × Value)} (h : Mr w B b X n ts lm) {i : Nat} {v1 v2 : Value} {P2 : List (List (BitVec 8))} (hg : w.grownBy w2 v1.ownBlock) (hv1 : v1.ownBlock = none ∨ ∃ v, mget lm (i : Int) = some v ∧ v1.ownBlock = v.ownBlock)
    (hos : (Fk.os B P2).f v2 w2) (hP : P2 ≠ []) (h2 : v2.ownBlock = v1.ownBlock ∨ v2.ownBlock = some w.heap.size) (him : Im w3 b (mput lm (i : Int) v2)) (O : Only b w2 w3) (hX : ∀ j, X j → j < w.heap.size) (hn : ∀ j, j < n2 → j = i ∨ j < n) (hi : i < n2) (hnn : n ≤ n2) :
    Mr w3 B b X n2 (fun j => if j = i then P2 else ts j) (mput lm (i : Int) v2) ∧ Fr (fun j => ¬ X j ∧ B ≤ j) w w3 := by
  have hnew : ∀ g, v2.ownBlock = some g → ¬ X g ∧ g ≠ b ∧ (∀ k u, mget lm k = some u → k ≠ (i : Int) → u.ownBlock ≠ some g) := fun g e => by
    have hfresh : g = w.heap.size → ¬ X g ∧ g ≠ b ∧ (∀ k u, mget lm k = some u → k ≠ (i : Int) → u.ownBlock ≠ some g) := fun e2 => by
      subst e2
      refine ⟨fun q => by have := hX _ q; omega, fun q => by have := h.lt; omega, fun k u hu _ q => ?_⟩
      obtain ⟨g2, q1, _, _, q4, _⟩ := h.own hu
      rw [q1] at q
      cases q
      omega
    rcases h2 with h2 | h2
    · rcases hv1 with hv1 | ⟨v, hv, hv1⟩
      · rw [h2, hv1] at e
        cases e
      · obtain ⟨g2, q1, q2, _, _, q5⟩ := h.own hv
        rw [h2, hv1, q1] at e
        cases e
        exact ⟨q2, q5, fun k u hu hk q => h.apart k (i : Int) u v hu hv hk (by rw [q, q1])⟩
    · rw [h2] at e
      cases e
      exact hfresh rfl
  have hold : ∀ k u, mget lm k = some u → k ≠ (i : Int) → ∀ g, u.ownBlock = some g → w3.heap[g]? = w.heap[g]? := fun k u hu hk g e => by
    obtain ⟨g2, q1, _, _, q4, q5⟩ := h.own hu
    rw [e] at q1
    cases q1
    refine (O.block g (Nat.lt_of_lt_of_le q4 hg.size) q5).trans (hg.block g q4 (fun e2 => ?_))
    rcases hv1 with hv1 | ⟨v, hv, hv1⟩
    · rw [hv1] at e2
      cases e2
    · exact h.apart k (i : Int) u v hu hv hk (by rw [e, ← hv1, ← e2])
  refine ⟨⟨him, h.bB, h.bX, fun k v q => ?_, fun j hj => ?_, fun j hj => ?_, fun k j u v hu hv hkj => ?_⟩, ?_⟩
  · rw [mget_put] at q
    by_cases e : k = (i : Int)
    · exact ⟨i, e, hi⟩
    · rw [if_neg e] at q
      obtain ⟨j, e2, hj⟩ := h.key k v q
      exact ⟨j, e2, by omega⟩
  · by_cases e : j = i
    · simp only [e, if_true]
      exact hP
    · simp only [e, if_false]
      exact h.ne j ((hn j hj).resolve_left e)
  · by_cases e : j = i
    · subst e
      obtain ⟨g, C, ev, hB, hlt, _⟩ := os_block hos hP
      have ho : v2.ownBlock = some g := by rw [ev]; rfl
      refine ⟨v2, g, by rw [mget_put, if_pos rfl], ?_, ho, (hnew g ho).1⟩
      simp only [if_true]
      exact os_keep hos (fun g' e => by rw [ho] at e; cases e; exact O.block g hlt (hnew g ho).2.1)
    · obtain ⟨v, g, q1, q2, q3, q4⟩ := h.row j ((hn j hj).resolve_left e)
      refine ⟨v, g, by rw [mget_put, if_neg (by omega)]; exact q1, ?_, q3, q4⟩
      simp only [e, if_false]
      exact os_keep q2 (fun g' e' => hold _ v q1 (by omega) g' e')
  · rw [mget_put] at hu hv
    by_cases e : k = (i : Int)
    · rw [if_pos e] at hu
      rw [if_neg (fun e2 => hkj (e.trans e2.symm))] at hv
      cases hu
      obtain ⟨g, C, ev, _⟩ := os_block hos hP
      have ho : v2.ownBlock = some g := by rw [ev]; rfl
      rw [ho]
      exact fun q => (hnew g ho).2.2 j v hv (fun e2 => hkj (e.trans e2.symm)) q.symm
    · rw [if_neg e] at hu
      by_cases e2 : j = (i : Int)
      · rw [if_pos e2] at hv
        cases hv
        obtain ⟨g, C, ev, _⟩ := os_block hos hP
        have ho : v2.ownBlock = some g := by rw [ev]; rfl
        rw [ho]
        exact (hnew g ho).2.2 k u hu e
      · rw [if_neg e2] at hv
        exact h.apart k j u v hu hv hkj
  · refine ⟨O.os.trans hg.os, O.tape.trans hg.tape, O.output.trans hg.output, Nat.le_trans hg.size O.size, fun j hj hs => ?_⟩
    have hjb : j ≠ b := fun e => hs (by rw [e]; exact ⟨h.bX, h.bB⟩)
    refine (O.block j (Nat.lt_of_lt_of_le hj hg.size) hjb).trans (hg.block j hj (fun e => ?_))
    rcases hv1 with hv1 | ⟨v, hv, hv1⟩
    · rw [hv1] at e
      cases e
    · obtain ⟨g2, q1, q2, q3, _, _⟩ := h.own hv
      rw [hv1, q1] at e
      cases e
      exact hs ⟨q2, q3⟩
theorem Mr.nil {w : World} {B : Nat} {X : Nat → Prop} {ts : Nat → List (List (BitVec 8))} {b : Nat} (him : Im w b []) (hB : B ≤ b) (hX : ¬ X b) : Mr w B b X 0 ts [] := ⟨him, hB, hX, fun k v q => (by cases q), fun i hi => (by omega), fun i hi => (by omega), fun i j u v q => (by cases q)⟩
theorem Mr.congr {w : World} {B b n : Nat} {X : Nat → Prop} {ts ts' : Nat → List (List (BitVec 8))} {lm : List (Int × Value)} (h : Mr w B b X n ts lm) (he : ∀ i, i < n → ts' i = ts i) : Mr w B b X n ts' lm := ⟨h.im, h.bB, h.bX, h.key, fun i hi => (by rw [he i hi]; exact h.ne i hi), fun i hi => (by rw [he i hi]; exact h.row i hi), h.apart⟩
theorem It.disk {w w' : World} {r b : Nat} {l V : List (Int × Value)} {X : Nat → Prop} (h : It w r b l V) (O : Fr X w w') (hr : ¬ X r) (hb : ¬ X b) : It w' r b l V := h.keep (O.block r h.lt.1 hr) (O.block b h.lt.2.1 hb)
/-- What may be read of a sector: what stands, and what is cached. -/
def tsd (s : Dst) (i : Nat) : List (List (BitVec 8)) := s.has.getD i [] :: (if s.cch.getD i [] = [] then [] else [s.cch.getD i []])
theorem tsd_flu {s : Dst} (h : ∀ i, s.cch.getD i [] = []) (i : Nat) : tsd s i = [nowd s i] := by
  unfold tsd nowd
  rw [if_pos (h i), if_pos (h i)]
theorem flu_on {s : Dst} (h : On s) : flu s = (0, stl (cmd s).2) := by
  have e : cmd s = (0, { s with left := if s.armed = true then s.left - 1 else s.left, done := s.done + 1 }) := by
    unfold cmd
    rw [if_neg (by rw [h.1]; simp)]
  unfold flu
  rw [if_neg (by rw [h.2]; simp), if_pos (by rw [e]), e]
theorem flu_cch {s : Dst} (h : On s) (i : Nat) : (flu s).2.cch.getD i [] = [] := by
  rw [flu_on h]
  show ((cmd s).2.cch.map fun _ => ([] : List (BitVec 8))).getD i [] = []
  rw [List.getD_eq_getElem?_getD, List.getElem?_map]
  cases (cmd s).2.cch[i]? <;> rfl
theorem wrt_no {s : Dst} (h : On s) {i : Int} {b : List (BitVec 8)} (hw : (wrt s i b).1 ≠ 0) : (wrt s i b).2 = s := by
  unfold wrt at hw ⊢
  rw [if_neg (by rw [h.2]; simp)] at hw ⊢
  split
  · rfl
  · rename_i h1
    rw [if_neg h1] at hw
    split
    · rfl
    · rename_i h2
      rw [if_neg h2] at hw
      exact absurd (by unfold cmd; rw [if_neg (by show ¬ (s.armed = true ∧ _); rw [h.1]; simp)]) hw
theorem wrt_yes {s : Dst} (h : On s) {i : Int} {b : List (BitVec 8)} (hw : (wrt s i b).1 = 0) : ∃ j : Nat, i = j ∧ j < s.has.length ∧ b.length = s.size ∧ (wrt s i b).2.has = s.has ∧ (wrt s i b).2.cch = s.cch.set j b := by
  unfold wrt at hw ⊢
  rw [if_neg (by rw [h.2]; simp)] at hw ⊢
  by_cases h1 : i < 0 ∨ (s.has.length : Int) ≤ i
  · rw [if_pos h1] at hw
    cases hw
  · rw [if_neg h1] at hw ⊢
    by_cases h2 : b.length ≠ s.size
    · rw [if_pos h2] at hw
      cases hw
    · rw [if_neg h2]
      refine ⟨i.toNat, by omega, by omega, by omega, ?_, ?_⟩
      · unfold cmd
        split <;> rfl
      · unfold cmd
        split <;> rfl
theorem tsd_wrt {s s2 : Dst} {j : Nat} {b : List (BitVec 8)} (h1 : s2.has = s.has) (h2 : s2.cch = s.cch.set j b) (hj : j < s.cch.length) (hb : b ≠ []) (i : Nat) : tsd s2 i = if i = j then [s.has.getD j []] ++ [b] else tsd s i := by
  unfold tsd
  rw [h1, h2]
  by_cases e : i = j
  · subst e
    rw [if_pos rfl, List.getD_eq_getElem?_getD (l := s.cch.set i b), List.getElem?_set_self hj]
    show s.has.getD i [] :: (if b = [] then [] else [b]) = _
    rw [if_neg hb]
    rfl
  · rw [if_neg e, List.getD_eq_getElem?_getD (l := s.cch.set j b), List.getElem?_set_ne (fun q => e q.symm), ← List.getD_eq_getElem?_getD]
theorem lose_mem (l : List Int) : ∀ (c : List (List (BitVec 8))) (i : Nat), (lose c l).getD i [] = c.getD i [] ∨ (lose c l).getD i [] = [] := by
  induction l with
  | nil => exact fun c i => .inl rfl
  | cons k l ih =>
    intro c i
    show (lose (lose1 c k) l).getD i [] = _ ∨ (lose (lose1 c k) l).getD i [] = []
    rcases ih (lose1 c k) i with h | h
    · rw [h]
      unfold lose1
      split
      · by_cases e : k.toNat = i
        · right
          rw [List.getD_eq_getElem?_getD, List.getElem?_set, if_pos e]
          split <;> rfl
        · left
          rw [List.getD_eq_getElem?_getD, List.getElem?_set_ne e, ← List.getD_eq_getElem?_getD]
      · exact .inl rfl
    · exact .inr h
theorem crs_in {s : Dst} {n z k : Nat} (g : Gd s n z k) (l : List Int) {i : Nat} (hi : i < n) : nowd (crs s l) i ∈ tsd s i := by
  have hl : (lose s.cch l).length = s.cch.length := lose_len l s.cch
  have hcc : (crs s l).cch.getD i [] = [] := by
    show ((lose s.cch l).map fun _ => ([] : List (BitVec 8))).getD i [] = []
    rw [List.getD_eq_getElem?_getD, List.getElem?_map]
    cases (lose s.cch l)[i]? <;> rfl
  have hh : (crs s l).has.getD i [] = pickc (s.has.getD i []) ((lose s.cch l).getD i []) := by
    show (List.zipWith pickc s.has (lose s.cch l)).getD i [] = _
    rw [List.getD_eq_getElem?_getD, List.getElem?_zipWith, List.getD_eq_getElem?_getD, List.getD_eq_getElem?_getD, List.getElem?_eq_getElem (show i < s.has.length by rw [g.has]; exact hi), List.getElem?_eq_getElem (show i < (lose s.cch l).length by rw [hl, g.cch]; exact hi)]
    rfl
  unfold nowd
  rw [if_pos hcc, hh]
  unfold pickc tsd
  by_cases e : (lose s.cch l).getD i [] = []
  · rw [if_pos e]
    exact List.mem_cons_self
  · rw [if_neg e]
    rcases lose_mem l s.cch i with h | h
    · rw [h] at e ⊢
      rw [if_neg e]
      exact List.mem_cons_of_mem _ List.mem_cons_self
    · exact absurd h e
theorem clp_crs {s : Dst} (l : List Int) (n : Nat) : clp (crs s l).cch n = [] := by
  unfold clp
  refine List.filterMap_eq_nil_iff.2 fun i _ => ?_
  rw [if_pos]
  show ((lose s.cch l).map fun _ => ([] : List (BitVec 8))).getD i [] = []
  rw [List.getD_eq_getElem?_getD, List.getElem?_map]
  cases (lose s.cch l)[i]? <;> rfl
theorem run_lookupF {P : Program} {t e : TypeId} (h3 : P.underlying 3 = some (.int .i64)) (ht : P.underlying t = some (.map 3 e)) {w : World} {z : Value} (hz : (zeroValue e).run P w = .ok z w) {b : Nat} {l : List (Int × Value)} (h : Im w b l) {k : Int} (hk : (Lit.int .i64 k).wf = true) :
    (Instr.lookup t (.map (some b)) (.int .i64 k) false).run P w = .ok ((mget l k).getD z) w := by
  obtain ⟨ho, es, clock, hb, hE⟩ := h
  have hc := (Maps.int_keyed h3).check w es.isEmpty (key3 h3 hk)
  have hg := MapKept.run_getObj_map (P := P) hb
  rcases im_find (w := w) h3 hE ho hk with ⟨h1, h2⟩ | ⟨j, e0, h1, _, _, h2⟩
  · rw [h2]
    simp [Instr.lookup, run_underlying ht, hg, hc, h1, hz, Result.andThen]
  · rw [h2]
    simp [Instr.lookup, run_underlying ht, hg, hc, h1, Result.andThen]
theorem mapS : Try.prog.underlying 44 = some (.map 3 45) := by kernel_rfl
theorem zeroS (w : World) : (zeroValue 45).run Try.prog w = .ok (.slice none 0 0) w := by kernel_rfl
theorem Mr.iter {w w' : World} {B b n r : Nat} {X : Nat → Prop} {ts : Nat → List (List (BitVec 8))} {lm : List (Int × Value)} (h : Mr w B b X n ts lm) (O : Only r w w') (hrow : ∀ k v, mget lm k = some v → v.ownBlock ≠ some r) (hne : r ≠ b) : Mr w' B b X n ts lm := by
  refine ⟨h.im.keep (O.block b h.lt hne.symm), h.bB, h.bX, h.key, h.ne, fun i hi => ?_, h.apart⟩
  obtain ⟨v, g, h1, h2, h3, h4⟩ := h.row i hi
  exact ⟨v, g, h1, os_keep h2 (fun g' e => O.block g' (os_ownlt h2 e).1 (fun e2 => hrow _ v h1 (by rw [e, e2]))), h3, h4⟩
theorem Mr.none {w : World} {B b n : Nat} {X : Nat → Prop} {ts : Nat → List (List (BitVec 8))} {lm : List (Int × Value)} (h : Mr w B b X n ts lm) {k : Nat} (hk : n ≤ k) : mget lm (k : Int) = none := by
  cases e : mget lm (k : Int) with
  | none => rfl
  | some v =>
    obtain ⟨i, q1, q2⟩ := h.key _ v e
    omega
section
variable {P : Program} {Q : Exit → Act → World → Prop} {o : Oper} {a : Act} {w : World} {ops : Array Oper} {S : World → Prop}
theorem st_lookF {x y : Operand} (ho : o.op = .lookup 44 x y false) {b : Nat} {l : List (Int × Value)} (hx : a.eval x = .map (some b)) (hm : Im w b l) {i : Int} (hy : a.eval y = .int .i64 i) (hi : (Lit.int .i64 i).wf = true) {u : Value} (hu : (mget l i).getD (.slice none 0 0) = u) : o.wp Try.prog a w (Ends a o.dst w (Fk.eq u).f) Q := by
  subst hu
  refine st_pure ?_ rfl
  have h1 := run_lookupF (P := Try.prog) (t := 44) Try.under3 mapS (zeroS w) hm hi
  unfold execOp
  rw [ho]
  simp [hx, hy, h1]
/-- A piece of code that ends as it should, and leaves this. -/
theorem wp_cut {c : Code} {F : Act → World → Prop} (h : Code.wp P c (fun e f v => e = .normal ∧ F f v) a w) (hk : ∀ f v, F f v → Q .normal f v) : Code.wp P c Q a w := Code.wp_mono (fun e f v q => by rw [q.1]; exact hk f v q.2) h
theorem wpOp_execl {K : Act → World → Prop} {i : Nat} (hi : ops[i]? = some o) (hg : o.guard = none) (d : Nat) (hd : o.dst = some d) (hsz : d < a.tmps.size) {v : Value} {w2 : World} (hr : (execOp a.eval o).run P w = .ok (.value v) w2)
    (h : ∀ a2, a2.defers = a.defers → a2.tmps.size = a.tmps.size → (∀ t, (t == d) = false → a2.eval (.tmp t) = a.eval (.tmp t)) → a2.eval (.tmp d) = v → K a2 w2) : wpOp P ops Q i K a w := by
  unfold wpOp
  rw [hi]
  show if Region.wanted o (yielded ops a.tmps) = true then _ else _
  rw [if_pos (by unfold Region.wanted; rw [hg])]
  refine .inl ?_
  unfold Oper.wp
  rw [hr]
  refine h _ (put_def _ _ _) (put_size _ _ _) (fun t ht => ?_) ?_
  · rw [hd]
    exact put_eval_other _ _ _ _ (fun e => by subst e; simp at ht)
  · rw [hd, put_eval_same _ _ _ hsz]
theorem wpOp_exec0 {K : Act → World → Prop} {i : Nat} (hi : ops[i]? = some o) (hg : o.guard = none) (hd : o.dst = none) {w2 : World} (hr : (execOp a.eval o).run P w = .ok .skip w2) (h : K a w2) : wpOp P ops Q i K a w := by
  unfold wpOp
  rw [hi]
  show if Region.wanted o (yielded ops a.tmps) = true then _ else _
  rw [if_pos (by unfold Region.wanted; rw [hg])]
  refine .inl ?_
  unfold Oper.wp
  rw [hr]
  show K (a.put o.dst undef) w2
  rw [hd]
  exact h
theorem wh_only (i : Nat) {fuel : Nat} {listed : Array Bool} (hr : (Region.ready .any ops listed == [i]) = true) (h : wpOp P ops Q i (fun a' w' => S w' ∧ wpAnyH P .any ops Q S fuel (listed.setIfInBounds i true) a' w') a w) : wpAnyH P .any ops Q S (fuel + 1) listed a w := by
  refine wpAnyH_all (eq_of_beq hr) (by simp) (fun k hk => ?_)
  obtain rfl : k = i := by simpa using hk
  exact h
theorem wh_either (i j : Nat) {fuel : Nat} {listed : Array Bool} (hr : (Region.ready .any ops listed == [i, j]) = true) (h1 : wpOp P ops Q i (fun a' w' => S w' ∧ wpAnyH P .any ops Q S fuel (listed.setIfInBounds i true) a' w') a w) (h2 : wpOp P ops Q j (fun a' w' => S w' ∧ wpAnyH P .any ops Q S fuel (listed.setIfInBounds j true) a' w') a w) : wpAnyH P .any ops Q S (fuel + 1) listed a w := by
  refine wpAnyH_all (eq_of_beq hr) (by simp) (fun k hk => ?_)
  rcases List.mem_cons.1 hk with rfl | hk
  · exact h1
  · obtain rfl : k = j := by simpa using hk
    exact h2
theorem run_strh {x : Operand} (ho : o.op = .convert 29 9 x) {vb : Value} {bs : List (BitVec 8)} (hx : a.eval x = vb) (hne : 0 < bs.length) (hS : ∀ w, S w → (Fk.sl bs).f vb w) : ∀ w, S w → (execOp a.eval o).run Try.prog w = .ok (.value (.string (str bs))) w := by
  intro w hw
  have h := hS w hw
  obtain ⟨sp, m, c, b, so, rfl, hs⟩ := h
  have hl := hs.len
  obtain ⟨rfl, _, hB⟩ := hs.src (by omega)
  have := run_convert_bytes_arg (P := Try.prog) w 29 5 Try.under29 Try.under5 b so m c (bs.map bv) (by simp [hl]) (fun i hi => by
    rw [hB i (by omega)]
    have : i < bs.length := by omega
    simp [this]) 9 Try.under9
  unfold execOp
  rw [ho]
  simp [hx, this, str]
theorem run_cutS {x : Operand} (ho : o.op = .slice 45 x none (some (.const (.int .i64 1))) none) {g n C : Nat} (hx : a.eval x = .slice (some ⟨g, 0, none⟩) n C) (hC : 1 ≤ C) : ∀ w, S w → (execOp a.eval o).run Try.prog w = .ok (.value (.slice (some ⟨g, 0, none⟩) 1 C)) w := by
  intro w _
  have h1 := run_slice_h (P := Try.prog) (w := w) 45 (some ⟨g, 0, none⟩) n C (by rw [show Try.prog.elem 45 = 9 by kernel_rfl]; kernel_rfl) .i64 (1 : Int) (by omega) (by omega)
  rw [show Try.prog.elem 45 = 9 by kernel_rfl, show (sizeOf 9).run Try.prog w = .ok 1 w by kernel_rfl] at h1
  have h2 := run_sliceAt_slice (P := Try.prog) (w := w) 45 (.slice (some ⟨g, 0, none⟩) n C) none (some (.int .i64 1)) none (by rw [show Try.prog.elem 45 = 9 by kernel_rfl]; kernel_rfl)
  have h3 : sliced (some ⟨g, 0, none⟩) 0 1 C 1 = Value.slice (some ⟨g, 0, none⟩) 1 C := by
    unfold sliced
    rw [if_neg (by omega)]
    simp [Addr.add_mid]
  unfold execOp
  rw [ho]
  have h4 : a.eval (.const (.int .i64 1)) = .int .i64 1 := rfl
  simp [hx, h4, h2, h1, h3]
end
end Go.Proofs.Ytjdpomilifnlaaa
