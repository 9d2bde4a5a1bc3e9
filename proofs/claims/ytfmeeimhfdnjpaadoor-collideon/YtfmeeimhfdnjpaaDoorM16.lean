/- Lists. -/
import Derived.Test.YtfmeeimhfdnjpaaDoorM15
namespace Go.Proofs.YtfmeeimhfdnjpaaDoor
set_option maxRecDepth 100000
open Go.RowKit
theorem fk_pathx {l : List (List (BitVec 8))} {i : Nat} (hi : i < l.length) (h1000 : l.length ≤ 1000) (w : World) {v : Value} (hv : (Fk.hc l).f v w) (hK : Tab w) :
    Calls Tryd.prog 23 #[v, .int .i64 (i : Int)] w fun e w' => ∃ u, e = .returned u ∧ (Fk.t2 (.hc (mpath l i)) (.int .i64 0)).f u w' ∧ Below w.heap.size w w' := by
  refine (path_ok hi h1000 w hv hK).mono ?_
  rintro e w' ⟨u, rfl, ⟨v2, e2, h2⟩, hb⟩
  exact ⟨u, rfl, ⟨v2, e2, ow_hc h2⟩, hb⟩
set_option maxHeartbeats 1000000 in
theorem fk_lists {pa pb : List Pt} (hsa : smallP pa) (hsb : smallP pb) {w : World} {va vb : Value} (ha : (Fk.mc pa).f va w) (hb : (Fk.mc pb).f vb w) (hK : Tab w) {f : Bool} (hf : f = decide (pa.length = pb.length ∧ mroot (lhs pa) = mroot (lhs pb) ∧ bys pa ≠ bys pb)) :
    Calls Tryd.prog 12 #[va, vb] w fun e w' => ∃ u, e = .returned u ∧ (Fk.c2 f).f u w' ∧ Below w.heap.size w w' := by
  have ham := ha.1
  have hbm := hb.1
  have h40 := hsa.2
  have h41 := hsb.2
  go_enter Tryd.func12, Tryd.ntmps12
  refine code_both (fun f w1 => f.tmps.size = 49 ∧ f.defers = [] ∧ f.eval (.tmp 0) = va ∧ f.eval (.tmp 1) = vb ∧ Below w.heap.size w (w1)) ⟨rfl, rfl, rfl, rfl, Below.refl _ _⟩ ?_
  rintro f0 w0 ⟨sz, df, x0, x1, bl⟩
  have sd := And.intro sz df
  clear sz df
  have bl0 := bl
  refine wp_seq ?_
  refine wr_s [] (by rw [sd.1]; kernel_rfl) trivial ?_
  intro f1 w1 A hb
  replace x0 := A.t x0 rfl
  replace x1 := A.t x1 rfl
  replace bl := bgo bl hb
  replace sd := A.sd sd
  clear A hb
  refine wl_one (.nw w1.heap.size 25 [.slice none 0 0, .slice none 0 0]) rfl 4 rfl (by rw [sd.1]; decide) (st_alloc 25 rfl _ _ (by kernel_rfl) (Nat.le_refl _)) ?_
  intro f2 w2 df2 sz2 old2 new2 hb
  replace bl0 := bl
  replace x0 := tr old2 x0 rfl
  replace x1 := tr old2 x1 rfl
  have x4 : Fk.f (.nw w1.heap.size 25 [.slice none 0 0, .slice none 0 0]) (f2.eval (.tmp 4)) w2 := new2
  replace bl := bgo bl hb
  replace sd := sd2 sz2 df2 sd
  clear df2 sz2 old2 new2 hb
  obtain ⟨g4, hg4, e4, m4⟩ := x4
  have x4 := e4
  clear e4
  have hw4 : w.heap.size ≤ g4 := Nat.le_trans bl0.size hg4
  refine wl_one (.eq (.bool false)) rfl 5 rfl (by rw [sd.1]; decide) (st_assign (.const (.bool false)) rfl rfl) ?_
  intro f3 w3 df2 sz2 old2 new2 hb
  replace x0 := tr old2 x0 rfl
  replace x1 := tr old2 x1 rfl
  replace x4 := tr old2 x4 rfl
  have x5 := Fk.e new2
  replace m4 := Ob.below m4 hb
  replace bl := bgo bl hb
  replace sd := sd2 sz2 df2 sd
  clear df2 sz2 old2 new2 hb
  refine wpList_nil ?_
  clear x5
  show Code.wp _ _ _ _ _
  refine wp_seq ?_
  refine wp_seq ?_
  by_cases hlen : pa.length = pb.length
  rotate_left
  · skip
    obtain rfl : f = false := by rw [hf]; exact decide_eq_false (fun h => hlen h.1)
    refine wr_a [.eq (va), .eq (.int .i64 (((pa).length : Nat) : Int)), .eq (vb), .eq (.int .i64 (((pb).length : Nat) : Int)), .eq (.bool true)] (by rw [sd.1]; kernel_rfl) ⟨fun hw ac u K => ?_, fun hw ac u K => ?_, fun hw ac u K => ?_, fun hw ac u K => ?_, fun hw ac u K => ?_, trivial⟩ ?_
    · exact st_move (.tmp 0) rfl (K.t x0 rfl)
    · exact st_lenm (.tmp 10) rfl (fk_val (K.dep 0 10 rfl) (Fk.mono _ _ _ _ ham (bgo bl K.grow)))
    · exact st_move (.tmp 1) rfl (K.t x1 rfl)
    · exact st_lenm (.tmp 12) rfl (fk_val (K.dep 2 12 rfl) (Fk.mono _ _ _ _ hbm (bgo bl K.grow)))
    · exact st_neqi 3 (.tmp 11) (.tmp 13) rfl .i64 ((((pa).length : Nat) : Int)) ((((pb).length : Nat) : Int)) (K.dep 1 11 rfl) (K.dep 3 13 rfl) _ (by symm; rw [decide_eq_true_iff]; exact (by omega))
    intro f4 w4 A hb
    replace x0 := A.t x0 rfl
    replace x1 := A.t x1 rfl
    replace x4 := A.t x4 rfl
    have x14 := A.e 4 14 rfl rfl
    replace m4 := Ob.below m4 hb
    replace bl := bgo bl hb
    replace sd := A.sd sd
    clear A hb
    show Code.wp _ _ _ _ _
    refine wp_cond_true x14 ?_
    refine wp_seq ?_
    refine wr_s [.eq (.agg ([.slice none 0 0, .slice none 0 0] : List Value).toArray)] (by rw [sd.1]; kernel_rfl) ⟨fun hw ac u K => ?_, trivial⟩ ?_
    · exact st_build 25 _ rfl (by kernel_rfl)
    intro f5 w5 A hb
    replace x0 := A.t x0 rfl
    replace x1 := A.t x1 rfl
    replace x4 := A.t x4 rfl
    replace x14 := A.t x14 rfl
    have x15 := A.e 0 15 rfl rfl
    replace m4 := Ob.below m4 hb
    replace bl := bgo bl hb
    replace sd := A.sd sd
    clear A hb
    clear x0
    clear x1
    clear x14
    refine wl_str rfl 25 (.tmp 4) (.tmp 15) rfl rfl (g4) ([.slice none 0 0, .slice none 0 0] : List Value).toArray x4 x15 25 _ m4 (by kernel_rfl) (by kernel_rfl) (by kernel_rfl) ?_
    replace m4 : Ob (w5.setRow g4 ([.slice none 0 0, .slice none 0 0] : List Value).toArray) (g4) 25 ([.slice none 0 0, .slice none 0 0]) := Ob.setRow m4 ([.slice none 0 0, .slice none 0 0])
    replace bl : Below w.heap.size w (w5.setRow g4 ([.slice none 0 0, .slice none 0 0] : List Value).toArray) := bl.trans (below_setRow _ _ _ _ hw4)
    generalize w5.setRow g4 ([.slice none 0 0, .slice none 0 0] : List Value).toArray = w6b at bl m4 ⊢
    clear x15
    refine wl_one (.eq (.bool false)) rfl 5 rfl (by rw [sd.1]; decide) (st_assign (.const (.bool false)) rfl rfl) ?_
    intro f7 w7 df2 sz2 old2 new2 hb
    replace x4 := tr old2 x4 rfl
    have x5 := Fk.e new2
    replace m4 := Ob.below m4 hb
    replace bl := bgo bl hb
    replace sd := sd2 sz2 df2 sd
    clear df2 sz2 old2 new2 hb
    refine wpList_nil ?_
    show Code.wp _ _ _ _ _
    refine wp_ret ?_
    repeat (first | with_reducible refine then_ret ?_ | with_reducible refine block_ret ?_)
    exact bodyPost_ret (v := .tuple #[.agg ([.slice none 0 0, .slice none 0 0] : List Value).toArray, .bool false]) (ret_c2 rfl f7 _ g4 _ _ _ x4 m4 x5) sd.2 ⟨_, rfl, c2_none _, bl⟩
  refine wr_a [.eq (va), .eq (.int .i64 (((pa).length : Nat) : Int)), .eq (vb), .eq (.int .i64 (((pb).length : Nat) : Int)), .eq (.bool false)] (by rw [sd.1]; kernel_rfl) ⟨fun hw ac u K => ?_, fun hw ac u K => ?_, fun hw ac u K => ?_, fun hw ac u K => ?_, fun hw ac u K => ?_, trivial⟩ ?_
  · exact st_move (.tmp 0) rfl (K.t x0 rfl)
  · exact st_lenm (.tmp 10) rfl (fk_val (K.dep 0 10 rfl) (Fk.mono _ _ _ _ ham (bgo bl K.grow)))
  · exact st_move (.tmp 1) rfl (K.t x1 rfl)
  · exact st_lenm (.tmp 12) rfl (fk_val (K.dep 2 12 rfl) (Fk.mono _ _ _ _ hbm (bgo bl K.grow)))
  · exact st_neqi 3 (.tmp 11) (.tmp 13) rfl .i64 ((((pa).length : Nat) : Int)) ((((pb).length : Nat) : Int)) (K.dep 1 11 rfl) (K.dep 3 13 rfl) _ (by symm; rw [decide_eq_false_iff_not]; exact (by omega))
  intro f4 w4 A hb
  replace x0 := A.t x0 rfl
  replace x1 := A.t x1 rfl
  replace x4 := A.t x4 rfl
  have x14 := A.e 4 14 rfl rfl
  replace m4 := Ob.below m4 hb
  replace bl := bgo bl hb
  replace sd := A.sd sd
  clear A hb
  show Code.wp _ _ _ _ _
  refine wp_cond_false x14 ?_
  refine wp_skip ?_
  show Code.wp _ _ _ _ _
  refine wp_seq ?_
  by_cases hy : bys pa = bys pb
  rotate_left
  · skip
    obtain ⟨i, p0, q0, hp0, hq0, hne, hall⟩ := parts_at (by omega) (show bys pa ≠ (bys pb).take pa.length by rw [List.take_of_length_le (by rw [bys_len]; omega)]; exact hy)
    have hil : i < pa.length := (List.getElem?_eq_some_iff.1 hp0).1
    have hslq : (Fk.sl q0.bs).f (.slice q0.sp q0.m q0.c) w := ⟨_, _, _, _, _, rfl, mg_ok hbm hq0⟩
    have hql : q0.bs.length ≤ 300 := Nat.le_trans (pt_small hsb hq0) (by decide)
    have hPl : (mpath (lhs pb) i).length ≤ 50 := by have := mpath_len _ (lhs pb) i rfl; rw [lhs_len] at this; omega
    obtain ⟨hd1, hd3⟩ := path_sides pb.length (lhs pb) i (lhs_len pb) (by omega)
    have hd2 := hd3 _ (lhs_at hq0)
    rw [← hlen] at hd1 hd2
    refine wr_a [.eq (va), .eq (vb), .eq (.tuple #[.int .i64 (i : Int), .bool true]), .eq (.tuple #[.int .i64 (i : Int), .bool true]), .eq (.int .i64 (i : Int)), .eq (.bool true), .eq (.int .i64 (i : Int)), .eq (.bool true)] (by rw [sd.1]; kernel_rfl) ⟨fun hw ac u K => ?_, fun hw ac u K => ?_, fun hw ac u K => ?_, fun hw ac u K => ?_, fun hw ac u K => ?_, fun hw ac u K => ?_, fun hw ac u K => ?_, fun hw ac u K => ?_, trivial⟩ ?_
    · exact st_move (.tmp 0) rfl (K.t x0 rfl)
    · exact st_move (.tmp 1) rfl (K.t x1 rfl)
    · exact st_call 27 (.func 27) _ _ _ rfl rfl (arg2 (K.dep 0 17 rfl) (K.dep 1 18 rfl)) Tryd.enter27 (fk_of (parting_diff (by omega) (by omega) (Fk.mono _ _ _ _ ham (bgo bl K.grow)) (Fk.mono _ _ _ _ hbm (bgo bl K.grow)) hp0 hq0 hne hall))
    · exact st_move (.tmp 19) rfl (K.dep 2 19 rfl)
    · exact st_tup (.tmp 16) rfl (K.dep 3 16 rfl) (by rfl)
    · exact st_tup (.tmp 16) rfl (K.dep 3 16 rfl) (by rfl)
    · exact st_assign (.tmp 20) rfl (K.dep 4 20 rfl)
    · exact st_assign (.tmp 21) rfl (K.dep 5 21 rfl)
    intro f5 w5 A hb
    replace x0 := A.t x0 rfl
    replace x1 := A.t x1 rfl
    replace x4 := A.t x4 rfl
    replace x14 := A.t x14 rfl
    have x6 := A.e 6 6 rfl rfl
    have x7 := A.e 7 7 rfl rfl
    replace m4 := Ob.below m4 hb
    replace bl := bgo bl hb
    replace sd := A.sd sd
    clear A hb
    clear x14
    show Code.wp _ _ _ _ _
    refine wp_seq ?_
    refine wp_seq ?_
    refine wr_a [.eq (.bool true), .eq (.bool false)] (by rw [sd.1]; kernel_rfl) ⟨fun hw ac u K => ?_, fun hw ac u K => ?_, trivial⟩ ?_
    · exact st_move (.tmp 7) rfl (K.t x7 rfl)
    · exact st_not (.tmp 22) rfl true (K.dep 0 22 rfl)
    intro f6 w6 A hb
    replace x0 := A.t x0 rfl
    replace x1 := A.t x1 rfl
    replace x4 := A.t x4 rfl
    replace x6 := A.t x6 rfl
    replace x7 := A.t x7 rfl
    have x23 := A.e 1 23 rfl rfl
    replace m4 := Ob.below m4 hb
    replace bl := bgo bl hb
    replace sd := A.sd sd
    clear A hb
    clear x7
    show Code.wp _ _ _ _ _
    refine wp_cond_false x23 ?_
    refine wp_skip ?_
    show Code.wp _ _ _ _ _
    refine wp_seq ?_
    refine wr_a [.eq (vb), .hc (lhs pb), .eq (.int .i64 (i : Int)), .t2 (.hc (mpath (lhs pb) i)) (.int .i64 0), .t2 (.hc (mpath (lhs pb) i)) (.int .i64 0), .hc (mpath (lhs pb) i), .eq (.int .i64 0), .hc (mpath (lhs pb) i), .eq (.int .i64 0)] (by rw [sd.1]; kernel_rfl) ⟨fun hw ac u K => ?_, fun hw ac u K => ?_, fun hw ac u K => ?_, fun hw ac u K => ?_, fun hw ac u K => ?_, fun hw ac u K => ?_, fun hw ac u K => ?_, fun hw ac u K => ?_, fun hw ac u K => ?_, trivial⟩ ?_
    · exact st_move (.tmp 1) rfl (K.t x1 rfl)
    · exact st_call 28 (.func 28) _ _ _ rfl rfl (one_arg (K.dep 0 26 rfl)) Tryd.enter28 (leaves_any (by omega) (smallP_mx hsb) _ (Fk.mono _ _ _ _ hbm (bgo bl K.grow)) (hK.below (bgo bl K.grow)) ⟨lvs_lhs pb⟩)
    · exact st_move (.tmp 6) rfl (K.t x6 rfl)
    · exact st_call 23 (.func 23) _ _ _ rfl rfl (arg2 rfl (K.dep 2 28 rfl)) Tryd.enter23 (fk_pathx (by rw [lhs_len]; omega) (by rw [lhs_len]; omega) _ (K.dep 1 27 rfl) (hK.below (bgo bl K.grow)))
    · exact st_move (.tmp 29) rfl (K.dep 3 29 rfl)
    · exact st_t2a (.tmp 25) rfl (K.dep 4 25 rfl)
    · exact st_t2b (.tmp 25) rfl (K.dep 4 25 rfl)
    · exact st_assign (.tmp 30) rfl (K.dep 5 30 rfl)
    · exact st_assign (.tmp 31) rfl (K.dep 6 31 rfl)
    intro f7 w7 A hb
    replace x0 := A.t x0 rfl
    replace x1 := A.t x1 rfl
    replace x4 := A.t x4 rfl
    replace x6 := A.t x6 rfl
    replace x23 := A.t x23 rfl
    have x8 : Fk.f (.hc (mpath (lhs pb) i)) (f7.eval (.tmp 8)) w7 := A.has 7 8 rfl
    replace m4 := Ob.below m4 hb
    replace bl := bgo bl hb
    replace sd := A.sd sd
    clear A hb
    clear x23
    obtain ⟨aP, cP, e8, _, hP8⟩ := hc_val x8
    replace x8 := e8
    clear e8
    show Code.wp _ _ _ _ _
    refine wp_seq ?_
    by_cases hrt : mroot (lhs pa) = mroot (lhs pb)
    rotate_left
    · skip
      have hd : ¬ ((mpath (lhs pb) i).length = (sds i pa.length).length ∧ ldt (lf q0.bs) (mpath (lhs pb) i) (sds i pa.length) = mroot (lhs pa)) := fun h => hrt (h.2.symm.trans hd2)
      obtain rfl : f = false := by rw [hf]; exact decide_eq_false (fun h => hrt h.2.1)
      refine wr_s [.eq (va), .eq (.int .i64 (i : Int)), .eq (vb), .eq (.int .i64 (pa.length : Int)), .eq (vb), .eq (.int .i64 (i : Int)), .pv (.slice q0.sp q0.m q0.c), .eq (.slice q0.sp q0.m q0.c), .eq (.slice aP (mpath (lhs pb) i).length cP), .eq (.agg ([.int .i64 (i : Int), .int .i64 (pa.length : Int), .slice q0.sp q0.m q0.c, .slice aP (mpath (lhs pb) i).length cP] : List Value).toArray), .c3 false 22, .c3 false 22, .cv false, .eq (.bool false), .eq (.int .i64 22)] (by rw [sd.1]; kernel_rfl) ⟨fun hw ac u K => ?_, fun hw ac u K => ?_, fun hw ac u K => ?_, fun hw ac u K => ?_, fun hw ac u K => ?_, fun hw ac u K => ?_, fun hw ac u K => ?_, fun hw ac u K => ?_, fun hw ac u K => ?_, fun hw ac u K => ?_, fun hw ac u K => ?_, fun hw ac u K => ?_, fun hw ac u K => ?_, fun hw ac u K => ?_, fun hw ac u K => ?_, trivial⟩ ?_
      · exact st_move (.tmp 0) rfl (K.t x0 rfl)
      · exact st_move (.tmp 6) rfl (K.t x6 rfl)
      · exact st_move (.tmp 1) rfl (K.t x1 rfl)
      · exact by rw [hlen]; exact st_lenm (.tmp 35) rfl (fk_val (K.dep 2 35 rfl) (Fk.mono _ _ _ _ hbm (bgo bl K.grow)))
      · exact st_move (.tmp 1) rfl (K.t x1 rfl)
      · exact st_move (.tmp 6) rfl (K.t x6 rfl)
      · exact st_idxm (.tmp 37) (.tmp 38) rfl (fk_val (K.dep 4 37 rfl) (Fk.mono _ _ _ _ hbm (bgo bl K.grow))) i q0 (K.dep 5 38 rfl) hq0
      · exact st_loadsl (.tmp 39) rfl (K.dep 6 39 rfl)
      · exact st_move (.tmp 8) rfl (K.t x8 rfl)
      · exact st_build 39 _ rfl (by simp only [List.map_toArray, List.map_cons, List.map_nil, show ac.eval (.tmp 34) = _ from (K.dep 1 34 rfl), show ac.eval (.tmp 36) = _ from (K.dep 3 36 rfl), show ac.eval (.tmp 40) = _ from (K.dep 7 40 rfl), show ac.eval (.tmp 41) = _ from (K.dep 8 41 rfl)]; kernel_rfl)
      · exact st_call 16 (.func 16) _ _ _ rfl rfl (arg2 (K.dep 0 33 rfl) (K.dep 9 42 rfl)) Tryd.enter16 (fk_cin_bad hsa hql hPl (Fk.mono _ _ _ _ ha (bgo bl K.grow)) (Fk.mono _ _ _ _ hslq (bgo bl K.grow)) (Fk.mono _ _ _ _ hP8 K.grow) (hK.below (bgo bl K.grow)) hil hd)
      · exact st_move (.tmp 43) rfl (K.dep 10 43 rfl)
      · exact st_c3a (.tmp 32) rfl (K.dep 11 32 rfl)
      · exact st_c3b (.tmp 32) rfl (K.dep 11 32 rfl)
      · exact st_c3c (.tmp 32) rfl (K.dep 11 32 rfl)
      intro f8 w8 A hb
      replace x0 := A.t x0 rfl
      replace x1 := A.t x1 rfl
      replace x4 := A.t x4 rfl
      replace x6 := A.t x6 rfl
      replace x8 := A.t x8 rfl
      have x44 : Fk.f (.cv false) (f8.eval (.tmp 44)) w8 := A.has 12 44 rfl
      have x45 := A.e 13 45 rfl rfl
      replace m4 := Ob.below m4 hb
      replace hP8 := Fk.mono _ _ _ _ hP8 hb
      replace bl := bgo bl hb
      replace sd := A.sd sd
      clear A hb
      clear x0
      clear x1
      clear x6
      clear x8
      clear hP8
      obtain ⟨Az, Bz, uz, vz, ez, hAz, hBz, lAz, lBz, hrz⟩ := x44
      obtain ⟨pAz, mAz, cAz, _, _, rfl, _⟩ := id hAz
      obtain ⟨pBz, mBz, cBz, _, _, rfl, _⟩ := id hBz
      have x44 := ez
      clear ez
      refine wl_str rfl 25 (.tmp 4) (.tmp 44) rfl rfl (g4) ([.slice pAz mAz cAz, .slice pBz mBz cBz] : List Value).toArray x4 x44 25 _ m4 (by kernel_rfl) (by kernel_rfl) (by kernel_rfl) ?_
      replace hAz := sl_setRow (ds := ([.slice pAz mAz cAz, .slice pBz mBz cBz] : List Value).toArray) hAz m4
      replace hBz := sl_setRow (ds := ([.slice pAz mAz cAz, .slice pBz mBz cBz] : List Value).toArray) hBz m4
      replace m4 : Ob (w8.setRow g4 ([.slice pAz mAz cAz, .slice pBz mBz cBz] : List Value).toArray) (g4) 25 ([.slice pAz mAz cAz, .slice pBz mBz cBz]) := Ob.setRow m4 ([.slice pAz mAz cAz, .slice pBz mBz cBz])
      replace bl : Below w.heap.size w (w8.setRow g4 ([.slice pAz mAz cAz, .slice pBz mBz cBz] : List Value).toArray) := bl.trans (below_setRow _ _ _ _ hw4)
      generalize w8.setRow g4 ([.slice pAz mAz cAz, .slice pBz mBz cBz] : List Value).toArray = w9b at bl m4 hAz hBz ⊢
      clear x44
      refine wl_one (.eq (.bool false)) rfl 5 rfl (by rw [sd.1]; decide) (st_assign (.tmp 45) rfl x45) ?_
      intro f10 w10 df2 sz2 old2 new2 hb
      replace x4 := tr old2 x4 rfl
      replace x45 := tr old2 x45 rfl
      have x5 := Fk.e new2
      replace m4 := Ob.below m4 hb
      replace hAz := Fk.mono _ _ _ _ hAz hb
      replace hBz := Fk.mono _ _ _ _ hBz hb
      replace bl := bgo bl hb
      replace sd := sd2 sz2 df2 sd
      clear df2 sz2 old2 new2 hb
      refine wpList_nil ?_
      clear x45
      show Code.wp _ _ _ _ _
      refine wp_seq ?_
      refine wr_s [.eq (.agg ([.slice pAz mAz cAz, .slice pBz mBz cBz] : List Value).toArray), .eq (.bool false)] (by rw [sd.1]; kernel_rfl) ⟨fun hw ac u K => ?_, fun hw ac u K => ?_, trivial⟩ ?_
      · exact st_loadz 25 (.tmp 4) rfl (g4) 0 [.slice pAz mAz cAz, .slice pBz mBz cBz] (by kernel_rfl) (by kernel_rfl) (K.t x4 rfl) (Ob.range (Ob.below m4 K.grow) 0 _ (fun j v hj => by simpa using hj))
      · exact st_move (.tmp 5) rfl (K.t x5 rfl)
      intro f11 w11 A hb
      replace x4 := A.t x4 rfl
      replace x5 := A.t x5 rfl
      have x47 := A.e 0 47 rfl rfl
      have x48 := A.e 1 48 rfl rfl
      replace m4 := Ob.below m4 hb
      replace hAz := Fk.mono _ _ _ _ hAz hb
      replace hBz := Fk.mono _ _ _ _ hBz hb
      replace bl := bgo bl hb
      replace sd := A.sd sd
      clear A hb
      refine wl_str rfl 25 (.tmp 4) (.tmp 47) rfl rfl (g4) ([.slice pAz mAz cAz, .slice pBz mBz cBz] : List Value).toArray x4 x47 25 _ m4 (by kernel_rfl) (by kernel_rfl) (by kernel_rfl) ?_
      replace hAz := sl_setRow (ds := ([.slice pAz mAz cAz, .slice pBz mBz cBz] : List Value).toArray) hAz m4
      replace hBz := sl_setRow (ds := ([.slice pAz mAz cAz, .slice pBz mBz cBz] : List Value).toArray) hBz m4
      replace m4 : Ob (w11.setRow g4 ([.slice pAz mAz cAz, .slice pBz mBz cBz] : List Value).toArray) (g4) 25 ([.slice pAz mAz cAz, .slice pBz mBz cBz]) := Ob.setRow m4 ([.slice pAz mAz cAz, .slice pBz mBz cBz])
      replace bl : Below w.heap.size w (w11.setRow g4 ([.slice pAz mAz cAz, .slice pBz mBz cBz] : List Value).toArray) := bl.trans (below_setRow _ _ _ _ hw4)
      generalize w11.setRow g4 ([.slice pAz mAz cAz, .slice pBz mBz cBz] : List Value).toArray = w12b at bl m4 hAz hBz ⊢
      clear x47
      refine wl_one (.eq (.bool false)) rfl 5 rfl (by rw [sd.1]; decide) (st_assign (.tmp 48) rfl x48) ?_
      intro f13 w13 df2 sz2 old2 new2 hb
      replace x4 := tr old2 x4 rfl
      clear x5
      replace x48 := tr old2 x48 rfl
      have x5 := Fk.e new2
      replace m4 := Ob.below m4 hb
      replace hAz := Fk.mono _ _ _ _ hAz hb
      replace hBz := Fk.mono _ _ _ _ hBz hb
      replace bl := bgo bl hb
      replace sd := sd2 sz2 df2 sd
      clear df2 sz2 old2 new2 hb
      refine wpList_nil ?_
      clear x48
      show Code.wp _ _ _ _ _
      refine wp_ret ?_
      repeat (first | with_reducible refine then_ret ?_ | with_reducible refine block_ret ?_)
      exact bodyPost_ret (v := .tuple #[.agg ([.slice pAz mAz cAz, .slice pBz mBz cBz] : List Value).toArray, .bool false]) (ret_c2 rfl f13 _ g4 _ _ _ x4 m4 x5) sd.2 ⟨_, rfl, ⟨Az, Bz, _, _, rfl, hAz, hBz, lAz, lBz, hrz⟩, bl⟩
    rw [← hrt] at hd2
    obtain rfl : f = true := by rw [hf]; exact decide_eq_true ⟨hlen, hrt, hy⟩
    refine wr_s [.eq (va), .eq (.int .i64 (i : Int)), .eq (vb), .eq (.int .i64 (pa.length : Int)), .eq (vb), .eq (.int .i64 (i : Int)), .pv (.slice q0.sp q0.m q0.c), .eq (.slice q0.sp q0.m q0.c), .eq (.slice aP (mpath (lhs pb) i).length cP), .eq (.agg ([.int .i64 (i : Int), .int .i64 (pa.length : Int), .slice q0.sp q0.m q0.c, .slice aP (mpath (lhs pb) i).length cP] : List Value).toArray), .c3 true 0, .c3 true 0, .cv true, .eq (.bool true), .eq (.int .i64 0)] (by rw [sd.1]; kernel_rfl) ⟨fun hw ac u K => ?_, fun hw ac u K => ?_, fun hw ac u K => ?_, fun hw ac u K => ?_, fun hw ac u K => ?_, fun hw ac u K => ?_, fun hw ac u K => ?_, fun hw ac u K => ?_, fun hw ac u K => ?_, fun hw ac u K => ?_, fun hw ac u K => ?_, fun hw ac u K => ?_, fun hw ac u K => ?_, fun hw ac u K => ?_, fun hw ac u K => ?_, trivial⟩ ?_
    · exact st_move (.tmp 0) rfl (K.t x0 rfl)
    · exact st_move (.tmp 6) rfl (K.t x6 rfl)
    · exact st_move (.tmp 1) rfl (K.t x1 rfl)
    · exact by rw [hlen]; exact st_lenm (.tmp 35) rfl (fk_val (K.dep 2 35 rfl) (Fk.mono _ _ _ _ hbm (bgo bl K.grow)))
    · exact st_move (.tmp 1) rfl (K.t x1 rfl)
    · exact st_move (.tmp 6) rfl (K.t x6 rfl)
    · exact st_idxm (.tmp 37) (.tmp 38) rfl (fk_val (K.dep 4 37 rfl) (Fk.mono _ _ _ _ hbm (bgo bl K.grow))) i q0 (K.dep 5 38 rfl) hq0
    · exact st_loadsl (.tmp 39) rfl (K.dep 6 39 rfl)
    · exact st_move (.tmp 8) rfl (K.t x8 rfl)
    · exact st_build 39 _ rfl (by simp only [List.map_toArray, List.map_cons, List.map_nil, show ac.eval (.tmp 34) = _ from (K.dep 1 34 rfl), show ac.eval (.tmp 36) = _ from (K.dep 3 36 rfl), show ac.eval (.tmp 40) = _ from (K.dep 7 40 rfl), show ac.eval (.tmp 41) = _ from (K.dep 8 41 rfl)]; kernel_rfl)
    · exact st_call 16 (.func 16) _ _ _ rfl rfl (arg2 (K.dep 0 33 rfl) (K.dep 9 42 rfl)) Tryd.enter16 (fk_cin_ok hsa hql hPl (Fk.mono _ _ _ _ ha (bgo bl K.grow)) (Fk.mono _ _ _ _ hslq (bgo bl K.grow)) (Fk.mono _ _ _ _ hP8 K.grow) (hK.below (bgo bl K.grow)) hp0 hd1 hd2 (f := true) (by simp; exact fun e => hne e.symm))
    · exact st_move (.tmp 43) rfl (K.dep 10 43 rfl)
    · exact st_c3a (.tmp 32) rfl (K.dep 11 32 rfl)
    · exact st_c3b (.tmp 32) rfl (K.dep 11 32 rfl)
    · exact st_c3c (.tmp 32) rfl (K.dep 11 32 rfl)
    intro f8 w8 A hb
    replace x0 := A.t x0 rfl
    replace x1 := A.t x1 rfl
    replace x4 := A.t x4 rfl
    replace x6 := A.t x6 rfl
    replace x8 := A.t x8 rfl
    have x44 : Fk.f (.cv true) (f8.eval (.tmp 44)) w8 := A.has 12 44 rfl
    have x45 := A.e 13 45 rfl rfl
    replace m4 := Ob.below m4 hb
    replace hP8 := Fk.mono _ _ _ _ hP8 hb
    replace bl := bgo bl hb
    replace sd := A.sd sd
    clear A hb
    clear x0
    clear x1
    clear x6
    clear x8
    clear hP8
    obtain ⟨Az, Bz, uz, vz, ez, hAz, hBz, lAz, lBz, hrz⟩ := x44
    obtain ⟨pAz, mAz, cAz, _, _, rfl, _⟩ := id hAz
    obtain ⟨pBz, mBz, cBz, _, _, rfl, _⟩ := id hBz
    have x44 := ez
    clear ez
    refine wl_str rfl 25 (.tmp 4) (.tmp 44) rfl rfl (g4) ([.slice pAz mAz cAz, .slice pBz mBz cBz] : List Value).toArray x4 x44 25 _ m4 (by kernel_rfl) (by kernel_rfl) (by kernel_rfl) ?_
    replace hAz := sl_setRow (ds := ([.slice pAz mAz cAz, .slice pBz mBz cBz] : List Value).toArray) hAz m4
    replace hBz := sl_setRow (ds := ([.slice pAz mAz cAz, .slice pBz mBz cBz] : List Value).toArray) hBz m4
    replace m4 : Ob (w8.setRow g4 ([.slice pAz mAz cAz, .slice pBz mBz cBz] : List Value).toArray) (g4) 25 ([.slice pAz mAz cAz, .slice pBz mBz cBz]) := Ob.setRow m4 ([.slice pAz mAz cAz, .slice pBz mBz cBz])
    replace bl : Below w.heap.size w (w8.setRow g4 ([.slice pAz mAz cAz, .slice pBz mBz cBz] : List Value).toArray) := bl.trans (below_setRow _ _ _ _ hw4)
    generalize w8.setRow g4 ([.slice pAz mAz cAz, .slice pBz mBz cBz] : List Value).toArray = w9b at bl m4 hAz hBz ⊢
    clear x44
    refine wl_one (.eq (.bool true)) rfl 5 rfl (by rw [sd.1]; decide) (st_assign (.tmp 45) rfl x45) ?_
    intro f10 w10 df2 sz2 old2 new2 hb
    replace x4 := tr old2 x4 rfl
    replace x45 := tr old2 x45 rfl
    have x5 := Fk.e new2
    replace m4 := Ob.below m4 hb
    replace hAz := Fk.mono _ _ _ _ hAz hb
    replace hBz := Fk.mono _ _ _ _ hBz hb
    replace bl := bgo bl hb
    replace sd := sd2 sz2 df2 sd
    clear df2 sz2 old2 new2 hb
    refine wpList_nil ?_
    clear x45
    show Code.wp _ _ _ _ _
    refine wp_seq ?_
    refine wr_s [.eq (.agg ([.slice pAz mAz cAz, .slice pBz mBz cBz] : List Value).toArray), .eq (.bool true)] (by rw [sd.1]; kernel_rfl) ⟨fun hw ac u K => ?_, fun hw ac u K => ?_, trivial⟩ ?_
    · exact st_loadz 25 (.tmp 4) rfl (g4) 0 [.slice pAz mAz cAz, .slice pBz mBz cBz] (by kernel_rfl) (by kernel_rfl) (K.t x4 rfl) (Ob.range (Ob.below m4 K.grow) 0 _ (fun j v hj => by simpa using hj))
    · exact st_move (.tmp 5) rfl (K.t x5 rfl)
    intro f11 w11 A hb
    replace x4 := A.t x4 rfl
    replace x5 := A.t x5 rfl
    have x47 := A.e 0 47 rfl rfl
    have x48 := A.e 1 48 rfl rfl
    replace m4 := Ob.below m4 hb
    replace hAz := Fk.mono _ _ _ _ hAz hb
    replace hBz := Fk.mono _ _ _ _ hBz hb
    replace bl := bgo bl hb
    replace sd := A.sd sd
    clear A hb
    refine wl_str rfl 25 (.tmp 4) (.tmp 47) rfl rfl (g4) ([.slice pAz mAz cAz, .slice pBz mBz cBz] : List Value).toArray x4 x47 25 _ m4 (by kernel_rfl) (by kernel_rfl) (by kernel_rfl) ?_
    replace hAz := sl_setRow (ds := ([.slice pAz mAz cAz, .slice pBz mBz cBz] : List Value).toArray) hAz m4
    replace hBz := sl_setRow (ds := ([.slice pAz mAz cAz, .slice pBz mBz cBz] : List Value).toArray) hBz m4
    replace m4 : Ob (w11.setRow g4 ([.slice pAz mAz cAz, .slice pBz mBz cBz] : List Value).toArray) (g4) 25 ([.slice pAz mAz cAz, .slice pBz mBz cBz]) := Ob.setRow m4 ([.slice pAz mAz cAz, .slice pBz mBz cBz])
    replace bl : Below w.heap.size w (w11.setRow g4 ([.slice pAz mAz cAz, .slice pBz mBz cBz] : List Value).toArray) := bl.trans (below_setRow _ _ _ _ hw4)
    generalize w11.setRow g4 ([.slice pAz mAz cAz, .slice pBz mBz cBz] : List Value).toArray = w12b at bl m4 hAz hBz ⊢
    clear x47
    refine wl_one (.eq (.bool true)) rfl 5 rfl (by rw [sd.1]; decide) (st_assign (.tmp 48) rfl x48) ?_
    intro f13 w13 df2 sz2 old2 new2 hb
    replace x4 := tr old2 x4 rfl
    clear x5
    replace x48 := tr old2 x48 rfl
    have x5 := Fk.e new2
    replace m4 := Ob.below m4 hb
    replace hAz := Fk.mono _ _ _ _ hAz hb
    replace hBz := Fk.mono _ _ _ _ hBz hb
    replace bl := bgo bl hb
    replace sd := sd2 sz2 df2 sd
    clear df2 sz2 old2 new2 hb
    refine wpList_nil ?_
    clear x48
    show Code.wp _ _ _ _ _
    refine wp_ret ?_
    repeat (first | with_reducible refine then_ret ?_ | with_reducible refine block_ret ?_)
    exact bodyPost_ret (v := .tuple #[.agg ([.slice pAz mAz cAz, .slice pBz mBz cBz] : List Value).toArray, .bool true]) (ret_c2 rfl f13 _ g4 _ _ _ x4 m4 x5) sd.2 ⟨_, rfl, ⟨Az, Bz, _, _, rfl, hAz, hBz, lAz, lBz, hrz⟩, bl⟩
  have hall : (bys pa).take pa.length = (bys pb).take pa.length := by rw [hy]
  obtain rfl : f = false := by rw [hf]; exact decide_eq_false (fun h => h.2.2 hy)
  refine wr_a [.eq (va), .eq (vb), .eq (.tuple #[.int .i64 0, .bool false]), .eq (.tuple #[.int .i64 0, .bool false]), .eq (.int .i64 0), .eq (.bool false), .eq (.int .i64 0), .eq (.bool false)] (by rw [sd.1]; kernel_rfl) ⟨fun hw ac u K => ?_, fun hw ac u K => ?_, fun hw ac u K => ?_, fun hw ac u K => ?_, fun hw ac u K => ?_, fun hw ac u K => ?_, fun hw ac u K => ?_, fun hw ac u K => ?_, trivial⟩ ?_
  · exact st_move (.tmp 0) rfl (K.t x0 rfl)
  · exact st_move (.tmp 1) rfl (K.t x1 rfl)
  · exact st_call 27 (.func 27) _ _ _ rfl rfl (arg2 (K.dep 0 17 rfl) (K.dep 1 18 rfl)) Tryd.enter27 (fk_of (parting_same (by omega) (by omega) (Fk.mono _ _ _ _ ham (bgo bl K.grow)) (Fk.mono _ _ _ _ hbm (bgo bl K.grow)) hall))
  · exact st_move (.tmp 19) rfl (K.dep 2 19 rfl)
  · exact st_tup (.tmp 16) rfl (K.dep 3 16 rfl) (by rfl)
  · exact st_tup (.tmp 16) rfl (K.dep 3 16 rfl) (by rfl)
  · exact st_assign (.tmp 20) rfl (K.dep 4 20 rfl)
  · exact st_assign (.tmp 21) rfl (K.dep 5 21 rfl)
  intro f5 w5 A hb
  replace x0 := A.t x0 rfl
  replace x1 := A.t x1 rfl
  replace x4 := A.t x4 rfl
  replace x14 := A.t x14 rfl
  have x6 := A.e 6 6 rfl rfl
  have x7 := A.e 7 7 rfl rfl
  replace m4 := Ob.below m4 hb
  replace bl := bgo bl hb
  replace sd := A.sd sd
  clear A hb
  clear x14
  show Code.wp _ _ _ _ _
  refine wp_seq ?_
  refine wp_seq ?_
  refine wr_a [.eq (.bool false), .eq (.bool true)] (by rw [sd.1]; kernel_rfl) ⟨fun hw ac u K => ?_, fun hw ac u K => ?_, trivial⟩ ?_
  · exact st_move (.tmp 7) rfl (K.t x7 rfl)
  · exact st_not (.tmp 22) rfl false (K.dep 0 22 rfl)
  intro f6 w6 A hb
  replace x0 := A.t x0 rfl
  replace x1 := A.t x1 rfl
  replace x4 := A.t x4 rfl
  replace x6 := A.t x6 rfl
  replace x7 := A.t x7 rfl
  have x23 := A.e 1 23 rfl rfl
  replace m4 := Ob.below m4 hb
  replace bl := bgo bl hb
  replace sd := A.sd sd
  clear A hb
  clear x7
  show Code.wp _ _ _ _ _
  refine wp_cond_true x23 ?_
  refine wp_seq ?_
  refine wr_s [.eq (.agg ([.slice none 0 0, .slice none 0 0] : List Value).toArray)] (by rw [sd.1]; kernel_rfl) ⟨fun hw ac u K => ?_, trivial⟩ ?_
  · exact st_build 25 _ rfl (by kernel_rfl)
  intro f7 w7 A hb
  replace x0 := A.t x0 rfl
  replace x1 := A.t x1 rfl
  replace x4 := A.t x4 rfl
  replace x6 := A.t x6 rfl
  replace x23 := A.t x23 rfl
  have x24 := A.e 0 24 rfl rfl
  replace m4 := Ob.below m4 hb
  replace bl := bgo bl hb
  replace sd := A.sd sd
  clear A hb
  clear x0
  clear x1
  clear x6
  clear x23
  refine wl_str rfl 25 (.tmp 4) (.tmp 24) rfl rfl (g4) ([.slice none 0 0, .slice none 0 0] : List Value).toArray x4 x24 25 _ m4 (by kernel_rfl) (by kernel_rfl) (by kernel_rfl) ?_
  replace m4 : Ob (w7.setRow g4 ([.slice none 0 0, .slice none 0 0] : List Value).toArray) (g4) 25 ([.slice none 0 0, .slice none 0 0]) := Ob.setRow m4 ([.slice none 0 0, .slice none 0 0])
  replace bl : Below w.heap.size w (w7.setRow g4 ([.slice none 0 0, .slice none 0 0] : List Value).toArray) := bl.trans (below_setRow _ _ _ _ hw4)
  generalize w7.setRow g4 ([.slice none 0 0, .slice none 0 0] : List Value).toArray = w8b at bl m4 ⊢
  clear x24
  refine wl_one (.eq (.bool false)) rfl 5 rfl (by rw [sd.1]; decide) (st_assign (.const (.bool false)) rfl rfl) ?_
  intro f9 w9 df2 sz2 old2 new2 hb
  replace x4 := tr old2 x4 rfl
  have x5 := Fk.e new2
  replace m4 := Ob.below m4 hb
  replace bl := bgo bl hb
  replace sd := sd2 sz2 df2 sd
  clear df2 sz2 old2 new2 hb
  refine wpList_nil ?_
  show Code.wp _ _ _ _ _
  refine wp_ret ?_
  repeat (first | with_reducible refine then_ret ?_ | with_reducible refine block_ret ?_)
  exact bodyPost_ret (v := .tuple #[.agg ([.slice none 0 0, .slice none 0 0] : List Value).toArray, .bool false]) (ret_c2 rfl f9 _ g4 _ _ _ x4 m4 x5) sd.2 ⟨_, rfl, c2_none _, bl⟩
end Go.Proofs.YtfmeeimhfdnjpaaDoor
