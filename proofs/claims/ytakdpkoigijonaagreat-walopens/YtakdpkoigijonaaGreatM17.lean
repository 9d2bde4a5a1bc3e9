/- WalOpens. -/
import Derived.Test.YtakdpkoigijonaaGreatM16
namespace Go.Proofs.YtakdpkoigijonaaGreat
set_option maxRecDepth 100000
open Go.RowKit
set_option maxHeartbeats 4000000 in
theorem opens_law {hb : Byt} {vh : Value} {ps : List Pt} {vj : Value} (w : World) (hh : (Fk.sl hb).f vh w) (hm : (Fk.mg ps).f vj w) :
    Calls Tryz.prog 3 #[vh, vj] w fun e w' => e = .returned (.bool true) ∧ Below w.heap.size w w' := by
  go_enter Tryz.func3, Tryz.ntmps3
  refine code_both (fun f w1 => f.tmps.size = 201 ∧ f.defers = [] ∧ f.eval (.tmp 0) = vh ∧ f.eval (.tmp 1) = vj ∧ Below w.heap.size w (w1)) ⟨rfl, rfl, rfl, rfl, Below.refl _ _⟩ ?_
  rintro f0 w0 ⟨sz, df, x0, x1, bl⟩
  have sd := And.intro sz df
  clear sz df
  have bl0 := bl
  refine wp_seq ?_
  refine wr_a [.eq (.bool false)] (by rw [sd.1]; kernel_rfl) ⟨fun hwt ac u K => ?_, trivial⟩ ?_
  · exact st_assign (.const (.bool false)) rfl rfl
  intro f1 w1 A hb
  replace x0 := A.t x0 rfl
  replace x1 := A.t x1 rfl
  replace bl := bgo bl hb
  replace sd := A.sd sd
  clear A hb
  show Code.wp _ _ _ _ _
  refine wp_seq ?_
  refine wr_s [] (by rw [sd.1]; kernel_rfl) trivial ?_
  intro f2 w2 A hb
  replace x0 := A.t x0 rfl
  replace x1 := A.t x1 rfl
  replace bl := bgo bl hb
  replace sd := A.sd sd
  clear A hb
  refine wl_call 4 (.func 4) _ _ #[.int .i64 ((9 : Nat) : Int), .int .i64 ((64 : Nat) : Int)] rfl 21 rfl (by rw [sd.1]; decide) rfl rfl rfl Tryz.enter4 (fun u W' => ∃ (gd : Nat) (M D : Nat → Prop), u = .pointer (some ⟨gd, 0, none⟩) ∧ HD W' gd M D (newd (9) (64)) ∧ (∀ j, D j → w2.heap.size ≤ j) ∧ Below w2.heap.size w2 W') ((fk_dnew (N := 9) (Z := 64) (by decide) (by decide) (by decide) (by decide) w2).mono (by rintro e w' ⟨gd, M, D, rfl, q⟩; exact ⟨_, rfl, gd, M, D, rfl, q⟩)) ?_
  rintro f3 w3 df2 sz2 old2 ⟨gd, M, DD, x21, hd, hD0, hb⟩
  have hDD : ∀ j, DD j → w.heap.size ≤ j := fun j q => Nat.le_trans bl.size (hD0 j q)
  clear hD0
  replace bl0 := bl
  replace x0 := tr old2 x0 rfl
  replace x1 := tr old2 x1 rfl
  replace bl := bgo bl hb
  replace sd := sd2 sz2 df2 sd
  clear df2 sz2 old2 hb
  refine wl_one (.eq (.pointer (some ⟨gd, 0, none⟩))) rfl 5 rfl (by rw [sd.1]; decide) (st_assign (.tmp 21) rfl x21) ?_
  intro f4 w4 df2 sz2 old2 new2 hb
  replace x0 := tr old2 x0 rfl
  replace x1 := tr old2 x1 rfl
  replace x21 := tr old2 x21 rfl
  have x5 := Fk.e new2
  replace hd := HD.below hd hb
  replace bl := bgo bl hb
  replace sd := sd2 sz2 df2 sd
  clear df2 sz2 old2 new2 hb
  refine wpList_nil ?_
  clear x21
  show Code.wp _ _ _ _ _
  refine wp_seq ?_
  refine wp_seq ?_
  by_cases hps : 10 < ps.length
  rotate_left
  · skip
    refine wr_a [.eq (.pointer (some ⟨gd, 0, none⟩)), .eq (.bool false), .eq (.bool false), .eq (vj), .eq (.int .i64 (((ps).length : Nat) : Int)), .eq (.bool false), .eq (.bool false)] (by rw [sd.1]; kernel_rfl) ⟨fun hwt ac u K => ?_, fun hwt ac u K => ?_, fun hwt ac u K => ?_, fun hwt ac u K => ?_, fun hwt ac u K => ?_, fun hwt ac u K => ?_, fun hwt ac u K => ?_, trivial⟩ ?_
    · exact st_move (.tmp 5) rfl (K.t x5 rfl)
    · exact st_bin .eql 24 24 (.tmp 22) _ rfl (K.dep 0 22 rfl) rfl (by kernel_rfl)
    · exact st_move (.tmp 23) rfl (K.dep 1 23 rfl)
    · exact st_move (.tmp 1) rfl (K.t x1 rfl)
    · exact st_lenm (.tmp 25) rfl (fk_val (K.dep 3 25 rfl) (Fk.mono _ _ _ _ hm (bgo bl K.grow)))
    · exact st_gtr 3 (.tmp 26) (.const (.int .i64 10)) rfl .i64 ((((ps).length : Nat) : Int)) (10) (K.dep 4 26 rfl) rfl _ (by rw [eq_comm, decide_eq_false_iff_not]; omega)
    · exact st_pick_f' (.tmp 24) (.const (.bool true)) (.tmp 27) rfl (K.dep 2 24 rfl) (K.dep 5 27 rfl)
    intro f5 w5 A hb
    replace x0 := A.t x0 rfl
    replace x1 := A.t x1 rfl
    replace x5 := A.t x5 rfl
    have x28 := A.e 6 28 rfl rfl
    replace hd := HD.below hd hb
    replace bl := bgo bl hb
    replace sd := A.sd sd
    clear A hb
    show Code.wp _ _ _ _ _
    refine wp_cond_false x28 ?_
    refine wp_skip ?_
    show Code.wp _ _ _ _ _
    refine wp_seq ?_
    refine wp_seq ?_
    obtain ⟨n, hn9⟩ : ∃ n : Nat, n = 9 := ⟨_, rfl⟩
    obtain ⟨z, hz9⟩ : ∃ z : Nat, z = 64 := ⟨_, rfl⟩
    obtain ⟨s0, hs0⟩ : ∃ s, s = newd n z := ⟨_, rfl⟩
    rw [← hn9, ← hz9, ← hs0] at hd
    have h6 : homN n = 4 := by rw [hn9]; rfl
    have h3 : 3 ≤ n := by omega
    have h32 : 32 ≤ z := by omega
    have hnM : n ≤ 100000 := by omega
    have gs : Gd s0 n z 0 := by rw [hs0]; exact gd_new n z
    have hT0 : TS n z s0 (stO s0) := by rw [hs0]; exact TS.new h3 (by omega)
    clear hs0
    have r4 : roomN n z = 4 := by rw [hn9, hz9]; rfl
    by_cases h64 : hb.length = 64
    rotate_left
    · skip
      have htm : tmr s0 0 hb = (10, s0) := tmr_no hT0.1.1 (by omega) (by omega)
      refine wr_s [.eq (.pointer (some ⟨gd, 0, none⟩)), .eq (vh)] (by rw [sd.1]; kernel_rfl) ⟨fun hwt ac u K => ?_, fun hwt ac u K => ?_, trivial⟩ ?_
      · exact st_move (.tmp 5) rfl (K.t x5 rfl)
      · exact st_move (.tmp 0) rfl (K.t x0 rfl)
      intro f6 w6 A hb
      replace x0 := A.t x0 rfl
      replace x1 := A.t x1 rfl
      replace x5 := A.t x5 rfl
      replace x28 := A.t x28 rfl
      have x34 := A.e 0 34 rfl rfl
      have x35 := A.e 1 35 rfl rfl
      replace hd := HD.below hd hb
      replace bl := bgo bl hb
      replace sd := A.sd sd
      clear A hb
      clear x28
      refine wl_call 6 (.func 6) _ _ #[.pointer (some ⟨gd, 0, none⟩), .int .i64 (0), vh] rfl 36 rfl (by rw [sd.1]; decide) rfl rfl (three_arg x34 rfl x35) Tryz.enter6 (fun u W' => ∃ D2 : Nat → Prop, u = .int .i64 10 ∧ HD W' gd M D2 (s0) ∧ (∀ j, D2 j → DD j ∨ w6.heap.size ≤ j) ∧ Fr M w6 W') ((fk_dtamper hd (by have := gs.has; omega) (0) (Fk.mono _ _ _ _ hh bl)).mono (by rw [htm]; rintro e w' ⟨D', rfl, q⟩; exact ⟨_, rfl, D', rfl, q⟩)) ?_
      rintro f7 w7 df2 sz2 old2 ⟨D2, x36, hd2, hD2, O⟩
      have bl9 := bl.trans (O.below bl.size (fun j q => hDD j (hd.sub j q)))
      replace hDD : ∀ j, D2 j → w.heap.size ≤ j := fun j q => (hD2 j q).elim (hDD j) (fun q => by have := bl.size; omega)
      replace bl := bl9
      replace bl0 := bl
      clear bl9
      replace hd := hd2
      clear hd2 hD2 O
      clear DD
      obtain ⟨DD, rfl⟩ : ∃ E, E = D2 := ⟨_, rfl⟩
      replace x0 := tr old2 x0 rfl
      replace x1 := tr old2 x1 rfl
      replace x5 := tr old2 x5 rfl
      replace x34 := tr old2 x34 rfl
      replace x35 := tr old2 x35 rfl
      replace sd := sd2 sz2 df2 sd
      clear df2 sz2 old2
      clear x34
      clear x35
      refine wl_one (.eq (.bool true)) rfl 37 rfl (by rw [sd.1]; decide) (st_neqi 27 (.tmp 36) (.const (.int .i64 0)) rfl .i64 (10) (0) x36 rfl _ (by simp)) ?_
      intro f8 w8 df2 sz2 old2 new2 hb
      replace x0 := tr old2 x0 rfl
      replace x1 := tr old2 x1 rfl
      replace x5 := tr old2 x5 rfl
      replace x36 := tr old2 x36 rfl
      have x37 := Fk.e new2
      replace hd := HD.below hd hb
      replace bl := bgo bl hb
      replace sd := sd2 sz2 df2 sd
      clear df2 sz2 old2 new2 hb
      refine wpList_nil ?_
      clear x36
      show Code.wp _ _ _ _ _
      refine wp_cond_true x37 ?_
      refine wp_seq ?_
      refine wr_a [.eq (vh), .eq (.int .i64 (((hb).length : Nat) : Int)), .eq (.bool true), .eq (.bool true), .eq (.bool true), .eq (.bool true), .eq (.bool true)] (by rw [sd.1]; kernel_rfl) ⟨fun hwt ac u K => ?_, fun hwt ac u K => ?_, fun hwt ac u K => ?_, fun hwt ac u K => ?_, fun hwt ac u K => ?_, fun hwt ac u K => ?_, fun hwt ac u K => ?_, trivial⟩ ?_
      · exact st_move (.tmp 0) rfl (K.t x0 rfl)
      · exact st_lenb (.tmp 38) rfl (fk_val (K.dep 0 38 rfl) (Fk.mono _ _ _ _ hh (bgo bl K.grow)))
      · exact st_neqi 3 (.tmp 39) (.const (.int .i64 64)) rfl .i64 ((((hb).length : Nat) : Int)) (64) (K.dep 1 39 rfl) rfl _ (by rw [eq_comm, decide_eq_true_iff]; omega)
      · exact st_move (.tmp 40) rfl (K.dep 2 40 rfl)
      · exact st_call 5 (.func 5) _ _ _ rfl rfl rfl Tryz.enter5 (awake12 _)
      · exact st_pick_t (.tmp 41) (.tmp 42) (.const (.bool false)) rfl (K.dep 3 41 rfl) (K.dep 4 42 rfl)
      · exact st_assign (.tmp 43) rfl (K.dep 5 43 rfl)
      intro f9 w9 A hb
      replace x0 := A.t x0 rfl
      replace x1 := A.t x1 rfl
      replace x5 := A.t x5 rfl
      replace x37 := A.t x37 rfl
      have x4 := A.e 6 4 rfl rfl
      replace hd := HD.below hd hb
      replace bl := bgo bl hb
      replace sd := A.sd sd
      clear A hb
      clear x0
      clear x1
      clear x5
      clear x37
      show Code.wp _ _ _ _ _
      refine wp_ret ?_
      repeat (first | with_reducible refine then_ret ?_ | with_reducible refine block_ret ?_)
      exact bodyPost_ret (v := .bool true) (ret_slot rfl f9 _ x4 _ _) sd.2 ⟨rfl, bl⟩
    obtain ⟨q1, q2⟩ := hT0.tm (i := 0) (by omega) (b := hb) (by omega)
    obtain ⟨gA, hgA⟩ : ∃ f, f = (fun j => if j = 0 then hb else stO s0 j) := ⟨_, rfl⟩
    have hA0 : gA 0 = hb := by rw [hgA]; rfl
    rw [← hgA] at q2
    obtain ⟨s1, hs1⟩ : ∃ x, x = (tmr s0 0 hb).2 := ⟨_, rfl⟩
    have htm : tmr s0 0 hb = (0, s1) := Prod.ext q1 hs1.symm
    have hTS : TS n z s1 gA := by rw [hs1]; exact q2
    have gs1 : Gd s1 n z 1 := by rw [hs1]; exact gd_tmr gs 0 hb
    clear q1 q2 hs1 hgA hT0
    refine wr_s [.eq (.pointer (some ⟨gd, 0, none⟩)), .eq (vh)] (by rw [sd.1]; kernel_rfl) ⟨fun hwt ac u K => ?_, fun hwt ac u K => ?_, trivial⟩ ?_
    · exact st_move (.tmp 5) rfl (K.t x5 rfl)
    · exact st_move (.tmp 0) rfl (K.t x0 rfl)
    intro f6 w6 A hb
    replace x0 := A.t x0 rfl
    replace x1 := A.t x1 rfl
    replace x5 := A.t x5 rfl
    replace x28 := A.t x28 rfl
    have x34 := A.e 0 34 rfl rfl
    have x35 := A.e 1 35 rfl rfl
    replace hd := HD.below hd hb
    replace bl := bgo bl hb
    replace sd := A.sd sd
    clear A hb
    clear x28
    refine wl_call 6 (.func 6) _ _ #[.pointer (some ⟨gd, 0, none⟩), .int .i64 (0), vh] rfl 36 rfl (by rw [sd.1]; decide) rfl rfl (three_arg x34 rfl x35) Tryz.enter6 (fun u W' => ∃ D2 : Nat → Prop, u = .int .i64 0 ∧ HD W' gd M D2 (s1) ∧ (∀ j, D2 j → DD j ∨ w6.heap.size ≤ j) ∧ Fr M w6 W') ((fk_dtamper hd (by have := gs.has; omega) (0) (Fk.mono _ _ _ _ hh bl)).mono (by rw [htm]; rintro e w' ⟨D', rfl, q⟩; exact ⟨_, rfl, D', rfl, q⟩)) ?_
    rintro f7 w7 df2 sz2 old2 ⟨D2, x36, hd2, hD2, O⟩
    have bl9 := bl.trans (O.below bl.size (fun j q => hDD j (hd.sub j q)))
    replace hDD : ∀ j, D2 j → w.heap.size ≤ j := fun j q => (hD2 j q).elim (hDD j) (fun q => by have := bl.size; omega)
    replace bl := bl9
    replace bl0 := bl
    clear bl9
    replace hd := hd2
    clear hd2 hD2 O
    clear DD
    obtain ⟨DD, rfl⟩ : ∃ E, E = D2 := ⟨_, rfl⟩
    replace x0 := tr old2 x0 rfl
    replace x1 := tr old2 x1 rfl
    replace x5 := tr old2 x5 rfl
    replace x34 := tr old2 x34 rfl
    replace x35 := tr old2 x35 rfl
    replace sd := sd2 sz2 df2 sd
    clear df2 sz2 old2
    replace gs := gs1
    clear gs1 htm
    clear x34
    clear x35
    refine wl_one (.eq (.bool false)) rfl 37 rfl (by rw [sd.1]; decide) (st_neqi 27 (.tmp 36) (.const (.int .i64 0)) rfl .i64 (0) (0) x36 rfl _ (by rfl)) ?_
    intro f8 w8 df2 sz2 old2 new2 hb
    replace x0 := tr old2 x0 rfl
    replace x1 := tr old2 x1 rfl
    replace x5 := tr old2 x5 rfl
    replace x36 := tr old2 x36 rfl
    have x37 := Fk.e new2
    replace hd := HD.below hd hb
    replace bl := bgo bl hb
    replace sd := sd2 sz2 df2 sd
    clear df2 sz2 old2 new2 hb
    refine wpList_nil ?_
    clear x36
    show Code.wp _ _ _ _ _
    refine wp_cond_false x37 ?_
    refine wp_skip ?_
    show Code.wp _ _ _ _ _
    refine wp_seq ?_
    refine wr_s [] (by rw [sd.1]; kernel_rfl) trivial ?_
    intro f9 w9 A hb
    replace x0 := A.t x0 rfl
    replace x1 := A.t x1 rfl
    replace x5 := A.t x5 rfl
    replace x37 := A.t x37 rfl
    replace hd := HD.below hd hb
    replace bl := bgo bl hb
    replace sd := A.sd sd
    clear A hb
    clear x37
    refine wl_makeS rfl (.const (.int .i64 4)) (.const (.int .i64 4)) rfl 44 rfl (by rw [sd.1]; decide) (4) (by omega) rfl rfl ?_
    intro f10 w10 gW df2 sz2 old2 x44 hwgW hW hb
    have hgDW : ¬ DD gW := fun q => by have := hd.lt _ q; omega
    replace hwgW : w.heap.size ≤ gW := Nat.le_trans bl.size hwgW
    replace bl0 := bl
    replace x0 := tr old2 x0 rfl
    replace x1 := tr old2 x1 rfl
    replace x5 := tr old2 x5 rfl
    replace hd := HD.below hd hb
    replace bl := bgo bl hb
    replace sd := sd2 sz2 df2 sd
    clear df2 sz2 old2 hb
    refine wl_one (.eq (.slice (some ⟨gW, 0, none⟩) (4) (4))) rfl 6 rfl (by rw [sd.1]; decide) (st_assign (.tmp 44) rfl x44) ?_
    intro f11 w11 df2 sz2 old2 new2 hb
    replace x0 := tr old2 x0 rfl
    replace x1 := tr old2 x1 rfl
    replace x5 := tr old2 x5 rfl
    replace x44 := tr old2 x44 rfl
    have x6 := Fk.e new2
    replace hd := HD.below hd hb
    replace hW := Rs.below hW hb
    replace bl := bgo bl hb
    replace sd := sd2 sz2 df2 sd
    clear df2 sz2 old2 new2 hb
    refine wpList_nil ?_
    clear x44
    show Code.wp _ _ _ _ _
    refine wp_seq ?_
    refine wp_seq ?_
    refine wr_a [.eq (.slice (some ⟨gW, 0, none⟩) (4) (4)), .eq (.int .i64 ((4 : Nat) : Int)), .eq (.int .i64 0)] (by rw [sd.1]; kernel_rfl) ⟨fun hwt ac u K => ?_, fun hwt ac u K => ?_, fun hwt ac u K => ?_, trivial⟩ ?_
    · exact st_move (.tmp 6) rfl (K.t x6 rfl)
    · exact st_lens (.tmp 45) rfl (K.dep 0 45 rfl)
    · exact st_move (.const (.int .i64 0)) rfl rfl
    intro f12 w12 A hb
    replace x0 := A.t x0 rfl
    replace x1 := A.t x1 rfl
    replace x5 := A.t x5 rfl
    replace x6 := A.t x6 rfl
    have x46 := A.e 1 46 rfl rfl
    have x47 := A.e 2 47 rfl rfl
    replace hd := HD.below hd hb
    replace hW := Rs.below hW hb
    replace bl := bgo bl hb
    replace sd := A.sd sd
    clear A hb
    show Code.wp _ _ _ _ _
    refine wp_block ?_
    refine wp_loop (fun f v1 => ∃ (k : Nat) (s : Dst) (DD : Nat → Prop), k ≤ 4 ∧ Gd s n z (1 + k) ∧ TS n z s (upd 1 fl9 k gA) ∧ (∀ j, DD j → w.heap.size ≤ j) ∧ ¬ DD gW ∧ f.tmps.size = 201 ∧ f.defers = [] ∧ f.eval (.tmp 0) = vh ∧ f.eval (.tmp 1) = vj ∧ f.eval (.tmp 5) = .pointer (some ⟨gd, 0, none⟩) ∧ f.eval (.tmp 6) = .slice (some ⟨gW, 0, none⟩) (4) (4) ∧ f.eval (.tmp 46) = .int .i64 ((4 : Nat) : Int) ∧ f.eval (.tmp 47) = .int .i64 (k : Int) ∧ HD v1 gd M DD s ∧ Rs v1 gW (rw9 fl9 4 k) ∧ Below w.heap.size w (v1)) (fun f _ => 4 - (intOf (f.eval (.tmp 47))).toNat) ⟨0, s1, DD, Nat.zero_le _, gs, (by rw [upd_zero]; exact hTS), hDD, hgDW, sd.1, sd.2, x0, x1, x5, x6, x46, x47, hd, (by rw [rw9_zero]; exact hW), bl⟩ ?_
    intro f13 w13 hI
    clear sd bl bl0 x0 x1 x5 x6 x46 x47 hd hW
    obtain ⟨k, s, DD, hk8, gs, hTS, hDD, hgDW, sz, df, x0, x1, x5, x6, x46, x47, hd, hW, bl⟩ := hI
    have sd := And.intro sz df
    clear sz df
    have bl0 := bl
    have hcnt := x47
    refine wp_seq ?_
    by_cases hlt : k < 4
    rotate_left
    · skip
      refine wr_a [.eq (.bool false)] (by rw [sd.1]; kernel_rfl) ⟨fun hwt ac u K => ?_, trivial⟩ ?_
      · exact st_lss 3 (.tmp 47) (.tmp 46) rfl .i64 ((k : Int)) (((4 : Nat) : Int)) (K.t x47 rfl) (K.t x46 rfl) _ (by rw [eq_comm, decide_eq_false_iff_not]; exact fun h => hlt (Int.ofNat_lt.1 h))
      intro f14 w14 A hb
      replace x0 := A.t x0 rfl
      replace x1 := A.t x1 rfl
      replace x5 := A.t x5 rfl
      replace x6 := A.t x6 rfl
      replace x46 := A.t x46 rfl
      replace x47 := A.t x47 rfl
      have x48 := A.e 0 48 rfl rfl
      replace hd := HD.below hd hb
      replace hW := Rs.below hW hb
      replace bl := bgo bl hb
      replace sd := A.sd sd
      clear A hb
      show Code.wp _ _ _ _ _
      refine wp_seq ?_
      refine wp_cond_false x48 ?_
      refine wp_exit ?_
      show Code.wp _ _ _ _ _
      refine wp_seq ?_
      clear x46
      clear x47
      obtain rfl : k = 4 := by omega
      refine wr_s [] (by rw [sd.1]; kernel_rfl) trivial ?_
      intro f15 w15 A hb
      replace x0 := A.t x0 rfl
      replace x1 := A.t x1 rfl
      replace x5 := A.t x5 rfl
      replace x6 := A.t x6 rfl
      replace x48 := A.t x48 rfl
      replace hd := HD.below hd hb
      replace hW := Rs.below hW hb
      replace bl := bgo bl hb
      replace sd := A.sd sd
      clear A hb
      clear x48
      refine wl_makeS rfl (.const (.int .i64 4)) (.const (.int .i64 4)) rfl 68 rfl (by rw [sd.1]; decide) (4) (by omega) rfl rfl ?_
      intro f16 w16 gS df2 sz2 old2 x68 hwgS hS hb
      have hgDS : ¬ DD gS := fun q => by have := hd.lt _ q; omega
      have hneW : gW ≠ gS := by have := Rs.lt hW; omega
      have hneS : gS ≠ gW := fun e => hneW e.symm
      replace hwgS : w.heap.size ≤ gS := Nat.le_trans bl.size hwgS
      replace bl0 := bl
      replace x0 := tr old2 x0 rfl
      replace x1 := tr old2 x1 rfl
      replace x5 := tr old2 x5 rfl
      replace x6 := tr old2 x6 rfl
      replace hd := HD.below hd hb
      replace hW := Rs.below hW hb
      replace bl := bgo bl hb
      replace sd := sd2 sz2 df2 sd
      clear df2 sz2 old2 hb
      refine wl_one (.eq (.slice (some ⟨gS, 0, none⟩) (4) (4))) rfl 8 rfl (by rw [sd.1]; decide) (st_assign (.tmp 68) rfl x68) ?_
      intro f17 w17 df2 sz2 old2 new2 hb
      replace x0 := tr old2 x0 rfl
      replace x1 := tr old2 x1 rfl
      replace x5 := tr old2 x5 rfl
      replace x6 := tr old2 x6 rfl
      replace x68 := tr old2 x68 rfl
      have x8 := Fk.e new2
      replace hd := HD.below hd hb
      replace hW := Rs.below hW hb
      replace hS := Rs.below hS hb
      replace bl := bgo bl hb
      replace sd := sd2 sz2 df2 sd
      clear df2 sz2 old2 new2 hb
      refine wpList_nil ?_
      clear x68
      show Code.wp _ _ _ _ _
      refine wp_seq ?_
      refine wp_seq ?_
      refine wr_a [.eq (.slice (some ⟨gS, 0, none⟩) (4) (4)), .eq (.int .i64 ((4 : Nat) : Int)), .eq (.int .i64 0)] (by rw [sd.1]; kernel_rfl) ⟨fun hwt ac u K => ?_, fun hwt ac u K => ?_, fun hwt ac u K => ?_, trivial⟩ ?_
      · exact st_move (.tmp 8) rfl (K.t x8 rfl)
      · exact st_lens (.tmp 69) rfl (K.dep 0 69 rfl)
      · exact st_move (.const (.int .i64 0)) rfl rfl
      intro f18 w18 A hb
      replace x0 := A.t x0 rfl
      replace x1 := A.t x1 rfl
      replace x5 := A.t x5 rfl
      replace x6 := A.t x6 rfl
      replace x8 := A.t x8 rfl
      have x70 := A.e 1 70 rfl rfl
      have x71 := A.e 2 71 rfl rfl
      replace hd := HD.below hd hb
      replace hW := Rs.below hW hb
      replace hS := Rs.below hS hb
      replace bl := bgo bl hb
      replace sd := A.sd sd
      clear A hb
      show Code.wp _ _ _ _ _
      refine wp_block ?_
      refine wp_loop (fun f v1 => ∃ (k : Nat) (s : Dst) (DD : Nat → Prop), k ≤ 4 ∧ Gd s n z (5 + k) ∧ TS n z s (upd 5 (dt9 ps) k (upd 1 fl9 4 gA)) ∧ (∀ j, DD j → w.heap.size ≤ j) ∧ ¬ DD gW ∧ ¬ DD gS ∧ f.tmps.size = 201 ∧ f.defers = [] ∧ f.eval (.tmp 0) = vh ∧ f.eval (.tmp 1) = vj ∧ f.eval (.tmp 5) = .pointer (some ⟨gd, 0, none⟩) ∧ f.eval (.tmp 6) = .slice (some ⟨gW, 0, none⟩) (4) (4) ∧ f.eval (.tmp 8) = .slice (some ⟨gS, 0, none⟩) (4) (4) ∧ f.eval (.tmp 70) = .int .i64 ((4 : Nat) : Int) ∧ f.eval (.tmp 71) = .int .i64 (k : Int) ∧ HD v1 gd M DD s ∧ Rs v1 gW (rw9 fl9 4 4) ∧ Rs v1 gS (rw9 (dt9 ps) 4 k) ∧ Below w.heap.size w (v1)) (fun f _ => 4 - (intOf (f.eval (.tmp 71))).toNat) ⟨0, s, DD, Nat.zero_le _, gs, (by rw [upd_zero]; exact hTS), hDD, hgDW, hgDS, sd.1, sd.2, x0, x1, x5, x6, x8, x70, x71, hd, hW, (by rw [rw9_zero]; exact hS), bl⟩ ?_
      intro f19 w19 hI
      clear sd bl bl0 x0 x1 x5 x6 x8 x70 x71 hd hW hS
      obtain ⟨k, s, DD, hk8, gs, hTS, hDD, hgDW, hgDS, sz, df, x0, x1, x5, x6, x8, x70, x71, hd, hW, hS, bl⟩ := hI
      have sd := And.intro sz df
      clear sz df
      have bl0 := bl
      have hcnt := x71
      refine wp_seq ?_
      by_cases hlt : k < 4
      rotate_left
      · skip
        refine wr_a [.eq (.bool false)] (by rw [sd.1]; kernel_rfl) ⟨fun hwt ac u K => ?_, trivial⟩ ?_
        · exact st_lss 3 (.tmp 71) (.tmp 70) rfl .i64 ((k : Int)) (((4 : Nat) : Int)) (K.t x71 rfl) (K.t x70 rfl) _ (by rw [eq_comm, decide_eq_false_iff_not]; exact fun h => hlt (Int.ofNat_lt.1 h))
        intro f20 w20 A hb
        replace x0 := A.t x0 rfl
        replace x1 := A.t x1 rfl
        replace x5 := A.t x5 rfl
        replace x6 := A.t x6 rfl
        replace x8 := A.t x8 rfl
        replace x70 := A.t x70 rfl
        replace x71 := A.t x71 rfl
        have x72 := A.e 0 72 rfl rfl
        replace hd := HD.below hd hb
        replace hW := Rs.below hW hb
        replace hS := Rs.below hS hb
        replace bl := bgo bl hb
        replace sd := A.sd sd
        clear A hb
        show Code.wp _ _ _ _ _
        refine wp_seq ?_
        refine wp_cond_false x72 ?_
        refine wp_exit ?_
        show Code.wp _ _ _ _ _
        refine wp_seq ?_
        clear x70
        clear x71
        obtain rfl : k = 4 := by omega
        obtain ⟨sT, hsT⟩ : ∃ x, x = s := ⟨_, rfl⟩
        rw [← hsT] at hd gs hTS
        clear hsT
        have hst0 : stO sT 0 = hb := by rw [hTS.2.2, upd_out (by omega), upd_out (by omega)]; exact hA0
        have hstW : ∀ i, i < 4 → stO sT (1 + i) = fl9 i := fun i hi => by rw [hTS.2.2, upd_out (by omega), upd_in hi]
        have hstS : ∀ i, i < 4 → stO sT (5 + i) = dt9 ps i := fun i hi => by rw [hTS.2.2, upd_in hi]
        have hgw := hTS.1.1
        rcases (by cases prsP n hb with | none => exact .inl rfl | some l => exact .inr ⟨l, rfl⟩ : prsP n hb = none ∨ ∃ l, prsP n hb = some l) with hp | ⟨l, hp⟩
        rotate_left
        · skip
          obtain ⟨hl4, hlh⟩ := (hd_ok h3 h32 hnM).okl hb l (by omega) hp
          obtain ⟨v9, hv9⟩ : ∃ v, v = ws (stO sT) (1 + homN n) l (rw9 fl9 4 4) := ⟨_, rfl⟩
          have hv9l : v9.length = homN n := by rw [hv9, ws_len, rw9_len (Nat.le_refl _)]; exact h6.symm
          have hv9k : ∀ k, k < homN n → v9.getD k [] = vw (homN n) l (stO sT) k := by
            rw [hv9]
            exact ws_vw (by rw [rw9_len (Nat.le_refl _)]; exact h6.symm) hlh (fun k hk => by rw [rw9_all, range_get (by omega), hstW k (by omega)])
          have hres := wopn_res (hd_ok h3 h32 hnM) h3 h32 hTS.1 hTS.2.1 (by rw [hst0]; exact hp) hv9l hv9k
          obtain ⟨t9, ht9⟩ : ∃ x, x = (wopn (homN n) (prsP n) (hdz z) sT).2 := ⟨_, rfl⟩
          have hres2 : (wopn (homN n) (prsP n) (hdz z) sT).1 = 0 ∧ Quiet n z (homN n) (prsP n) false t9 v9 ∧ (∀ j, caO t9 j = []) ∧ ((l = [] ∧ t9 = sT) ∨ stO t9 0 = hdz z []) := by
            rcases hres with ⟨q1, q2⟩ | ⟨_, q2⟩
            · rw [ht9]; exact ⟨q1, q2⟩
            · exact absurd q2.1.2.1 (by decide)
          obtain ⟨q1, hq9, hca9, hor9⟩ := hres2
          have hopd : wopn (homN n) (prsP n) (hdz z) sT = (0, t9) := Prod.ext q1 ht9.symm
          clear hres q1 ht9
          refine wr_s [.eq (vh)] (by rw [sd.1]; kernel_rfl) ⟨fun hwt ac u K => ?_, trivial⟩ ?_
          · exact st_move (.tmp 0) rfl (K.t x0 rfl)
          intro f21 w21 A hb
          replace x0 := A.t x0 rfl
          replace x1 := A.t x1 rfl
          replace x5 := A.t x5 rfl
          replace x6 := A.t x6 rfl
          replace x8 := A.t x8 rfl
          replace x72 := A.t x72 rfl
          have x111 := A.e 0 111 rfl rfl
          replace hd := HD.below hd hb
          replace hW := Rs.below hW hb
          replace hS := Rs.below hS hb
          replace bl := bgo bl hb
          replace sd := A.sd sd
          clear A hb
          clear x72
          refine wl_call 8 (.func 8) _ _ #[vh, .int .i64 9] rfl 112 rfl (by rw [sd.1]; decide) rfl rfl (two_arg x111 rfl) Tryz.enter8 (fun u W' => ∃ v, u = .tuple #[v, .bool true] ∧ (Fk.oi w21.heap.size (l.map fun k : Nat => (k : Int))).f v W' ∧ Below w21.heap.size w21 W') ((parse_ok (n := 9) (by decide) (by decide) (by omega) (by omega) (by rw [← hn9]; exact hp) (Fk.mono _ _ _ _ hh bl))) ?_
          rintro f22 w22 df2 sz2 old2 ⟨vA, x112, hoi, hb9⟩
          obtain ⟨la, hla⟩ : ∃ q, q = l.map fun k : Nat => (k : Int) := ⟨_, rfl⟩
          rw [← hla] at hoi
          have hA : IsX w22 (fun j => DD j ∨ j = gW) vA la := oi_isx hoi (fun j q => q.elim (fun q => hd.lt j q) (fun q => by rw [q]; exact hW.lt))
          clear hoi
          replace bl0 := bl
          replace x0 := tr old2 x0 rfl
          replace x1 := tr old2 x1 rfl
          replace x5 := tr old2 x5 rfl
          replace x6 := tr old2 x6 rfl
          replace x8 := tr old2 x8 rfl
          replace x111 := tr old2 x111 rfl
          replace hd := HD.below hd hb9
          replace hW := Rs.below hW hb9
          replace hS := Rs.below hS hb9
          replace bl := bgo bl hb9
          replace sd := sd2 sz2 df2 sd
          clear df2 sz2 old2 hb9
          clear x111
          refine wl_one (.eq (.tuple #[vA, .bool true])) rfl 110 rfl (by rw [sd.1]; decide) (st_move (.tmp 112) rfl x112) ?_
          intro f23 w23 df2 sz2 old2 new2 hb
          replace x0 := tr old2 x0 rfl
          replace x1 := tr old2 x1 rfl
          replace x5 := tr old2 x5 rfl
          replace x6 := tr old2 x6 rfl
          replace x8 := tr old2 x8 rfl
          replace x112 := tr old2 x112 rfl
          have x110 := Fk.e new2
          replace hd := HD.below hd hb
          replace hW := Rs.below hW hb
          replace hS := Rs.below hS hb
          replace hA := IsX.below hA hb
          replace bl := bgo bl hb
          replace sd := sd2 sz2 df2 sd
          clear df2 sz2 old2 new2 hb
          clear x112
          refine wl_one (.eq (vA)) rfl 113 rfl (by rw [sd.1]; decide) (st_extv (.tmp 110) 0 rfl x110 rfl) ?_
          intro f24 w24 df2 sz2 old2 new2 hb
          replace x0 := tr old2 x0 rfl
          replace x1 := tr old2 x1 rfl
          replace x5 := tr old2 x5 rfl
          replace x6 := tr old2 x6 rfl
          replace x8 := tr old2 x8 rfl
          replace x110 := tr old2 x110 rfl
          have x113 := Fk.e new2
          replace hd := HD.below hd hb
          replace hW := Rs.below hW hb
          replace hS := Rs.below hS hb
          replace hA := IsX.below hA hb
          replace bl := bgo bl hb
          replace sd := sd2 sz2 df2 sd
          clear df2 sz2 old2 new2 hb
          refine wl_one (.eq (.bool true)) rfl 114 rfl (by rw [sd.1]; decide) (st_extv (.tmp 110) 1 rfl x110 rfl) ?_
          intro f25 w25 df2 sz2 old2 new2 hb
          replace x0 := tr old2 x0 rfl
          replace x1 := tr old2 x1 rfl
          replace x5 := tr old2 x5 rfl
          replace x6 := tr old2 x6 rfl
          replace x8 := tr old2 x8 rfl
          replace x110 := tr old2 x110 rfl
          replace x113 := tr old2 x113 rfl
          have x114 := Fk.e new2
          replace hd := HD.below hd hb
          replace hW := Rs.below hW hb
          replace hS := Rs.below hS hb
          replace hA := IsX.below hA hb
          replace bl := bgo bl hb
          replace sd := sd2 sz2 df2 sd
          clear df2 sz2 old2 new2 hb
          clear x110
          refine wl_one (.eq (vA)) rfl 10 rfl (by rw [sd.1]; decide) (st_assign (.tmp 113) rfl x113) ?_
          intro f26 w26 df2 sz2 old2 new2 hb
          replace x0 := tr old2 x0 rfl
          replace x1 := tr old2 x1 rfl
          replace x5 := tr old2 x5 rfl
          replace x6 := tr old2 x6 rfl
          replace x8 := tr old2 x8 rfl
          replace x113 := tr old2 x113 rfl
          replace x114 := tr old2 x114 rfl
          have x10 := Fk.e new2
          replace hd := HD.below hd hb
          replace hW := Rs.below hW hb
          replace hS := Rs.below hS hb
          replace hA := IsX.below hA hb
          replace bl := bgo bl hb
          replace sd := sd2 sz2 df2 sd
          clear df2 sz2 old2 new2 hb
          clear x113
          refine wl_one (.eq (.bool true)) rfl 11 rfl (by rw [sd.1]; decide) (st_assign (.tmp 114) rfl x114) ?_
          intro f27 w27 df2 sz2 old2 new2 hb
          replace x0 := tr old2 x0 rfl
          replace x1 := tr old2 x1 rfl
          replace x5 := tr old2 x5 rfl
          replace x6 := tr old2 x6 rfl
          replace x8 := tr old2 x8 rfl
          replace x114 := tr old2 x114 rfl
          replace x10 := tr old2 x10 rfl
          have x11 := Fk.e new2
          replace hd := HD.below hd hb
          replace hW := Rs.below hW hb
          replace hS := Rs.below hS hb
          replace hA := IsX.below hA hb
          replace bl := bgo bl hb
          replace sd := sd2 sz2 df2 sd
          clear df2 sz2 old2 new2 hb
          refine wpList_nil ?_
          clear x114
          show Code.wp _ _ _ _ _
          refine wp_seq ?_
          refine wr_s [.eq (.pointer (some ⟨gd, 0, none⟩))] (by rw [sd.1]; kernel_rfl) ⟨fun hwt ac u K => ?_, trivial⟩ ?_
          · exact st_move (.tmp 5) rfl (K.t x5 rfl)
          intro f28 w28 A hb
          replace x0 := A.t x0 rfl
          replace x1 := A.t x1 rfl
          replace x5 := A.t x5 rfl
          replace x6 := A.t x6 rfl
          replace x8 := A.t x8 rfl
          replace x10 := A.t x10 rfl
          replace x11 := A.t x11 rfl
          have x116 := A.e 0 116 rfl rfl
          replace hd := HD.below hd hb
          replace hW := Rs.below hW hb
          replace hS := Rs.below hS hb
          replace hA := IsX.below hA hb
          replace bl := bgo bl hb
          replace sd := A.sd sd
          clear A hb
          refine wl_call 9 (.func 9) _ _ #[.pointer (some ⟨gd, 0, none⟩)] rfl 117 rfl (by rw [sd.1]; decide) rfl rfl (one_arg x116) Tryz.enter9 (fun u W' => ∃ (D2 : Nat → Prop) (gw : Nat) (VV : Nat → Prop), u = .tuple #[.pointer (some ⟨gw, 0, none⟩), .int .i64 0] ∧ HD W' gd M D2 (t9) ∧ Gd (t9) n z (9 + 4 * (n + 2)) ∧ HW W' gw gd VV n z false ∧ (∀ j, VV j → w28.heap.size ≤ j ∧ ¬ D2 j) ∧ (∀ j, D2 j → DD j ∨ w28.heap.size ≤ j) ∧ Fr M w28 W') (open_ok12 hd gs hgw (by omega) hopd) ?_
          rintro f29 w29 df2 sz2 old2 ⟨D2, gw, VV, x117, hd2, gs2, hw, hVN, hD2, O⟩
          have hVw : ∀ j, VV j → w.heap.size ≤ j := fun j q => Nat.le_trans bl.size (hVN j q).1
          have hVD : ∀ j, VV j → ¬ D2 j := fun j q => (hVN j q).2
          have lt9 := Rs.lt hW
          replace hW := Rs.keep hW (O.block _ lt9 (fun q => hgDW (hd.sub _ q)))
          replace hgDW : ¬ D2 gW := fun q => (hD2 _ q).elim hgDW (fun q => by omega)
          have hgVW : ¬ VV gW := fun q => by have := (hVN _ q).1; omega
          clear lt9
          have lt9 := Rs.lt hS
          replace hS := Rs.keep hS (O.block _ lt9 (fun q => hgDS (hd.sub _ q)))
          replace hgDS : ¬ D2 gS := fun q => (hD2 _ q).elim hgDS (fun q => by omega)
          have hgVS : ¬ VV gS := fun q => by have := (hVN _ q).1; omega
          clear lt9
          replace hA : IsX _ (fun j => D2 j ∨ j = gW) vA la := IsX.fr hA O (fun j q => .inl (hd.sub _ q)) (fun j q => q.elim (fun q => (hD2 _ q).imp .inl id) (fun q => .inl (.inr q)))
          have bl9 := bl.trans (O.below bl.size (fun j q => hDD j (hd.sub j q)))
          replace hDD : ∀ j, D2 j → w.heap.size ≤ j := fun j q => (hD2 j q).elim (hDD j) (fun q => by have := bl.size; omega)
          replace bl := bl9
          replace bl0 := bl
          clear bl9
          replace hd := hd2
          replace gs := gs2
          clear gs2 hVN
          clear hd2 hD2 O
          clear DD
          obtain ⟨DD, rfl⟩ : ∃ E, E = D2 := ⟨_, rfl⟩
          replace x0 := tr old2 x0 rfl
          replace x1 := tr old2 x1 rfl
          replace x5 := tr old2 x5 rfl
          replace x6 := tr old2 x6 rfl
          replace x8 := tr old2 x8 rfl
          replace x10 := tr old2 x10 rfl
          replace x11 := tr old2 x11 rfl
          replace x116 := tr old2 x116 rfl
          replace sd := sd2 sz2 df2 sd
          clear df2 sz2 old2
          clear x116
          refine wl_one (.eq (.tuple #[.pointer (some ⟨gw, 0, none⟩), .int .i64 0])) rfl 115 rfl (by rw [sd.1]; decide) (st_move (.tmp 117) rfl x117) ?_
          intro f30 w30 df2 sz2 old2 new2 hb
          replace x0 := tr old2 x0 rfl
          replace x1 := tr old2 x1 rfl
          replace x5 := tr old2 x5 rfl
          replace x6 := tr old2 x6 rfl
          replace x8 := tr old2 x8 rfl
          replace x10 := tr old2 x10 rfl
          replace x11 := tr old2 x11 rfl
          replace x117 := tr old2 x117 rfl
          have x115 := Fk.e new2
          replace hW := Rs.below hW hb
          replace hS := Rs.below hS hb
          replace hA := IsX.below hA hb
          replace hd := HD.below hd hb
          replace hw := HW.below hw hb
          replace bl := bgo bl hb
          replace sd := sd2 sz2 df2 sd
          clear df2 sz2 old2 new2 hb
          clear x117
          refine wl_one (.eq (.pointer (some ⟨gw, 0, none⟩))) rfl 118 rfl (by rw [sd.1]; decide) (st_extv (.tmp 115) 0 rfl x115 rfl) ?_
          intro f31 w31 df2 sz2 old2 new2 hb
          replace x0 := tr old2 x0 rfl
          replace x1 := tr old2 x1 rfl
          replace x5 := tr old2 x5 rfl
          replace x6 := tr old2 x6 rfl
          replace x8 := tr old2 x8 rfl
          replace x10 := tr old2 x10 rfl
          replace x11 := tr old2 x11 rfl
          replace x115 := tr old2 x115 rfl
          have x118 := Fk.e new2
          replace hW := Rs.below hW hb
          replace hS := Rs.below hS hb
          replace hA := IsX.below hA hb
          replace hd := HD.below hd hb
          replace hw := HW.below hw hb
          replace bl := bgo bl hb
          replace sd := sd2 sz2 df2 sd
          clear df2 sz2 old2 new2 hb
          refine wl_one (.eq (.int .i64 0)) rfl 119 rfl (by rw [sd.1]; decide) (st_extv (.tmp 115) 1 rfl x115 rfl) ?_
          intro f32 w32 df2 sz2 old2 new2 hb
          replace x0 := tr old2 x0 rfl
          replace x1 := tr old2 x1 rfl
          replace x5 := tr old2 x5 rfl
          replace x6 := tr old2 x6 rfl
          replace x8 := tr old2 x8 rfl
          replace x10 := tr old2 x10 rfl
          replace x11 := tr old2 x11 rfl
          replace x115 := tr old2 x115 rfl
          replace x118 := tr old2 x118 rfl
          have x119 := Fk.e new2
          replace hW := Rs.below hW hb
          replace hS := Rs.below hS hb
          replace hA := IsX.below hA hb
          replace hd := HD.below hd hb
          replace hw := HW.below hw hb
          replace bl := bgo bl hb
          replace sd := sd2 sz2 df2 sd
          clear df2 sz2 old2 new2 hb
          clear x115
          refine wl_one (.eq (.pointer (some ⟨gw, 0, none⟩))) rfl 12 rfl (by rw [sd.1]; decide) (st_assign (.tmp 118) rfl x118) ?_
          intro f33 w33 df2 sz2 old2 new2 hb
          replace x0 := tr old2 x0 rfl
          replace x1 := tr old2 x1 rfl
          replace x5 := tr old2 x5 rfl
          replace x6 := tr old2 x6 rfl
          replace x8 := tr old2 x8 rfl
          replace x10 := tr old2 x10 rfl
          replace x11 := tr old2 x11 rfl
          replace x118 := tr old2 x118 rfl
          replace x119 := tr old2 x119 rfl
          have x12 := Fk.e new2
          replace hW := Rs.below hW hb
          replace hS := Rs.below hS hb
          replace hA := IsX.below hA hb
          replace hd := HD.below hd hb
          replace hw := HW.below hw hb
          replace bl := bgo bl hb
          replace sd := sd2 sz2 df2 sd
          clear df2 sz2 old2 new2 hb
          clear x118
          refine wl_one (.eq (.int .i64 0)) rfl 13 rfl (by rw [sd.1]; decide) (st_assign (.tmp 119) rfl x119) ?_
          intro f34 w34 df2 sz2 old2 new2 hb
          replace x0 := tr old2 x0 rfl
          replace x1 := tr old2 x1 rfl
          replace x5 := tr old2 x5 rfl
          replace x6 := tr old2 x6 rfl
          replace x8 := tr old2 x8 rfl
          replace x10 := tr old2 x10 rfl
          replace x11 := tr old2 x11 rfl
          replace x119 := tr old2 x119 rfl
          replace x12 := tr old2 x12 rfl
          have x13 := Fk.e new2
          replace hW := Rs.below hW hb
          replace hS := Rs.below hS hb
          replace hA := IsX.below hA hb
          replace hd := HD.below hd hb
          replace hw := HW.below hw hb
          replace bl := bgo bl hb
          replace sd := sd2 sz2 df2 sd
          clear df2 sz2 old2 new2 hb
          refine wpList_nil ?_
          clear x119
          show Code.wp _ _ _ _ _
          refine wp_seq ?_
          refine wp_seq ?_
          refine wr_a [.eq (.bool true), .eq (.bool false)] (by rw [sd.1]; kernel_rfl) ⟨fun hwt ac u K => ?_, fun hwt ac u K => ?_, trivial⟩ ?_
          · exact st_move (.tmp 11) rfl (K.t x11 rfl)
          · exact st_not (.tmp 120) rfl true (K.dep 0 120 rfl)
          intro f35 w35 A hb
          replace x0 := A.t x0 rfl
          replace x1 := A.t x1 rfl
          replace x5 := A.t x5 rfl
          replace x6 := A.t x6 rfl
          replace x8 := A.t x8 rfl
          replace x10 := A.t x10 rfl
          replace x11 := A.t x11 rfl
          replace x12 := A.t x12 rfl
          replace x13 := A.t x13 rfl
          have x121 := A.e 1 121 rfl rfl
          replace hW := Rs.below hW hb
          replace hS := Rs.below hS hb
          replace hA := IsX.below hA hb
          replace hd := HD.below hd hb
          replace hw := HW.below hw hb
          replace bl := bgo bl hb
          replace sd := A.sd sd
          clear A hb
          clear x11
          show Code.wp _ _ _ _ _
          refine wp_cond_false x121 ?_
          refine wp_skip ?_
          show Code.wp _ _ _ _ _
          refine wp_seq ?_
          refine wp_seq ?_
          refine wr_a [.eq (.int .i64 0), .eq (.bool false), .eq (.bool false), .eq (.pointer (some ⟨gw, 0, none⟩)), .eq (.bool false), .eq (.bool false)] (by rw [sd.1]; kernel_rfl) ⟨fun hwt ac u K => ?_, fun hwt ac u K => ?_, fun hwt ac u K => ?_, fun hwt ac u K => ?_, fun hwt ac u K => ?_, fun hwt ac u K => ?_, trivial⟩ ?_
          · exact st_move (.tmp 13) rfl (K.t x13 rfl)
          · exact st_neqi 27 (.tmp 131) (.const (.int .i64 0)) rfl .i64 (0) (0) (K.dep 0 131 rfl) rfl _ (by rfl)
          · exact st_move (.tmp 132) rfl (K.dep 1 132 rfl)
          · exact st_move (.tmp 12) rfl (K.t x12 rfl)
          · exact st_bin .eql 34 34 (.tmp 134) _ rfl (K.dep 3 134 rfl) rfl (by kernel_rfl)
          · exact st_pick_f' (.tmp 133) (.const (.bool true)) (.tmp 135) rfl (K.dep 2 133 rfl) (K.dep 4 135 rfl)
          intro f36 w36 A hb
          replace x0 := A.t x0 rfl
          replace x1 := A.t x1 rfl
          replace x5 := A.t x5 rfl
          replace x6 := A.t x6 rfl
          replace x8 := A.t x8 rfl
          replace x10 := A.t x10 rfl
          replace x12 := A.t x12 rfl
          replace x13 := A.t x13 rfl
          replace x121 := A.t x121 rfl
          have x136 := A.e 5 136 rfl rfl
          replace hW := Rs.below hW hb
          replace hS := Rs.below hS hb
          replace hA := IsX.below hA hb
          replace hd := HD.below hd hb
          replace hw := HW.below hw hb
          replace bl := bgo bl hb
          replace sd := A.sd sd
          clear A hb
          clear x13
          clear x121
          show Code.wp _ _ _ _ _
          refine wp_cond_false x136 ?_
          refine wp_skip ?_
          show Code.wp _ _ _ _ _
          refine wp_seq ?_
          refine wp_seq ?_
          have hlal : la.length = l.length := by rw [hla, List.length_map]
          clear hstW hopd hv9k hv9l
          refine wr_a [.eq (vA), .eq (.int .i64 (la.length : Int)), .eq (.int .i64 0)] (by rw [sd.1]; kernel_rfl) ⟨fun hwt ac u K => ?_, fun hwt ac u K => ?_, fun hwt ac u K => ?_, trivial⟩ ?_
          · exact st_move (.tmp 10) rfl (K.t x10 rfl)
          · exact st_lenis (.tmp 137) rfl (fk_val (K.dep 0 137 rfl) (Fk.mono _ _ _ _ hA.1 K.grow))
          · exact st_move (.const (.int .i64 0)) rfl rfl
          intro f37 w37 A hb
          replace x0 := A.t x0 rfl
          replace x1 := A.t x1 rfl
          replace x5 := A.t x5 rfl
          replace x6 := A.t x6 rfl
          replace x8 := A.t x8 rfl
          replace x10 := A.t x10 rfl
          replace x12 := A.t x12 rfl
          replace x136 := A.t x136 rfl
          have x137 := A.e 0 137 rfl rfl
          have x138 := A.e 1 138 rfl rfl
          have x139 := A.e 2 139 rfl rfl
          replace hW := Rs.below hW hb
          replace hS := Rs.below hS hb
          replace hA := IsX.below hA hb
          replace hd := HD.below hd hb
          replace hw := HW.below hw hb
          replace bl := bgo bl hb
          replace sd := A.sd sd
          clear A hb
          clear x136
          show Code.wp _ _ _ _ _
          refine wp_block ?_
          refine wp_loop (fun f v1 => ∃ k : Nat, k ≤ l.length ∧ f.tmps.size = 201 ∧ f.defers = [] ∧ f.eval (.tmp 0) = vh ∧ f.eval (.tmp 1) = vj ∧ f.eval (.tmp 5) = .pointer (some ⟨gd, 0, none⟩) ∧ f.eval (.tmp 6) = .slice (some ⟨gW, 0, none⟩) (4) (4) ∧ f.eval (.tmp 8) = .slice (some ⟨gS, 0, none⟩) (4) (4) ∧ f.eval (.tmp 10) = vA ∧ f.eval (.tmp 12) = .pointer (some ⟨gw, 0, none⟩) ∧ f.eval (.tmp 137) = vA ∧ f.eval (.tmp 138) = .int .i64 (la.length : Int) ∧ f.eval (.tmp 139) = .int .i64 (k : Int) ∧ HD v1 gd M DD t9 ∧ HW v1 gw gd VV n z false ∧ Rs v1 gW (ws (stO sT) (1 + homN n) (l.take k) (rw9 fl9 4 4)) ∧ Rs v1 gS (rw9 (dt9 ps) 4 4) ∧ IsX v1 (fun j => DD j ∨ j = gW) vA la ∧ Below w.heap.size w (v1)) (fun f _ => l.length - (intOf (f.eval (.tmp 139))).toNat) ⟨0, Nat.zero_le _, sd.1, sd.2, x0, x1, x5, x6, x8, x10, x12, x137, x138, x139, hd, hw, hW, hS, hA, bl⟩ ?_
          intro f38 w38 hI
          clear sd bl bl0 x0 x1 x5 x6 x8 x10 x12 x137 x138 x139 hd hw hW hS hA
          obtain ⟨k, hk8, sz, df, x0, x1, x5, x6, x8, x10, x12, x137, x138, x139, hd, hw, hW, hS, hA, bl⟩ := hI
          have sd := And.intro sz df
          clear sz df
          have bl0 := bl
          have hcnt := x139
          refine wp_seq ?_
          by_cases hlt : k < l.length
          rotate_left
          · skip
            refine wr_a [.eq (.bool false)] (by rw [sd.1]; kernel_rfl) ⟨fun hwt ac u K => ?_, trivial⟩ ?_
            · exact st_lss 3 (.tmp 139) (.tmp 138) rfl .i64 ((k : Int)) ((la.length : Int)) (K.t x139 rfl) (K.t x138 rfl) _ (by rw [eq_comm, decide_eq_false_iff_not]; omega)
            intro f39 w39 A hb
            replace x0 := A.t x0 rfl
            replace x1 := A.t x1 rfl
            replace x5 := A.t x5 rfl
            replace x6 := A.t x6 rfl
            replace x8 := A.t x8 rfl
            replace x10 := A.t x10 rfl
            replace x12 := A.t x12 rfl
            replace x137 := A.t x137 rfl
            replace x138 := A.t x138 rfl
            replace x139 := A.t x139 rfl
            have x140 := A.e 0 140 rfl rfl
            replace hd := HD.below hd hb
            replace hw := HW.below hw hb
            replace hW := Rs.below hW hb
            replace hS := Rs.below hS hb
            replace hA := IsX.below hA hb
            replace bl := bgo bl hb
            replace sd := A.sd sd
            clear A hb
            show Code.wp _ _ _ _ _
            refine wp_seq ?_
            refine wp_cond_false x140 ?_
            refine wp_exit ?_
            show Code.wp _ _ _ _ _
            refine wp_seq ?_
            obtain rfl : k = l.length := by omega
            rw [List.take_length, ← hv9] at hW
            have hdn9 := hq9.up.2.2
            have hho9 : hml t9 (homN n) = v9 := hq9.homes
            obtain ⟨bb, hbb⟩ : ∃ b, b = stO t9 0 := ⟨_, rfl⟩
            have hrd9 : rd t9 0 = (0, bb) := by rw [hbb]; exact rd_zero hq9.up (by omega) (hca9 0)
            clear hS hstS hgDS
            clear x137
            clear x138
            clear x139
            clear x8
            refine wr_s [.eq (.pointer (some ⟨gw, 0, none⟩))] (by rw [sd.1]; kernel_rfl) ⟨fun hwt ac u K => ?_, trivial⟩ ?_
            · exact st_move (.tmp 12) rfl (K.t x12 rfl)
            intro f40 w40 A hb
            replace x0 := A.t x0 rfl
            replace x1 := A.t x1 rfl
            replace x5 := A.t x5 rfl
            replace x6 := A.t x6 rfl
            replace x10 := A.t x10 rfl
            replace x12 := A.t x12 rfl
            replace x140 := A.t x140 rfl
            have x153 := A.e 0 153 rfl rfl
            replace hd := HD.below hd hb
            replace hw := HW.below hw hb
            replace hW := Rs.below hW hb
            replace hA := IsX.below hA hb
            replace bl := bgo bl hb
            replace sd := A.sd sd
            clear A hb
            clear x140
            refine wl_call 10 (.func 10) _ _ #[.pointer (some ⟨gw, 0, none⟩), .int .i64 ((homN n : Nat) : Int)] rfl 154 rfl (by rw [sd.1]; decide) rfl rfl (two_arg x153 (by rw [h6]; rfl)) Tryz.enter10 (fun u W' => ∃ (D2 : Nat → Prop) (v : Value), u = .tuple #[v, .bool true] ∧ MBs W' D2 VV (homN n) (.some (hml t9 (homN n))) v ∧ HD W' gd M D2 t9 ∧ HW W' gw gd VV n z false ∧ (∀ j, D2 j → DD j ∨ w40.heap.size ≤ j) ∧ Fr M w40 W') (homes_mb hw hd gs hdn9 hVD (by omega) (by omega)) ?_
            rintro f41 w41 df2 sz2 old2 ⟨D2, vQ, x154, hQ, hd2, hw2, hD2, O⟩
            have hVlt9 := hw.lt
            replace hVD : ∀ j, VV j → ¬ D2 j := fun j q m => (hD2 j m).elim (hVD j q) (fun m => by have := hVlt9 j q; omega)
            clear hVlt9
            have lt9 := Rs.lt hW
            replace hW := Rs.keep hW (O.block _ lt9 (fun q => hgDW (hd.sub _ q)))
            replace hgDW : ¬ D2 gW := fun q => (hD2 _ q).elim hgDW (fun q => by omega)
            clear lt9
            replace hA : IsX _ (fun j => D2 j ∨ j = gW) vA la := IsX.fr hA O (fun j q => .inl (hd.sub _ q)) (fun j q => q.elim (fun q => (hD2 _ q).imp .inl id) (fun q => .inl (.inr q)))
            have bl9 := bl.trans (O.below bl.size (fun j q => hDD j (hd.sub j q)))
            replace hDD : ∀ j, D2 j → w.heap.size ≤ j := fun j q => (hD2 j q).elim (hDD j) (fun q => by have := bl.size; omega)
            replace bl := bl9
            replace bl0 := bl
            clear bl9
            replace hd := hd2
            replace hw := hw2
            clear hw2
            clear hd2 hD2 O
            clear DD
            obtain ⟨DD, rfl⟩ : ∃ E, E = D2 := ⟨_, rfl⟩
            replace x0 := tr old2 x0 rfl
            replace x1 := tr old2 x1 rfl
            replace x5 := tr old2 x5 rfl
            replace x6 := tr old2 x6 rfl
            replace x10 := tr old2 x10 rfl
            replace x12 := tr old2 x12 rfl
            replace x153 := tr old2 x153 rfl
            replace sd := sd2 sz2 df2 sd
            clear df2 sz2 old2
            clear x153
            refine wl_one (.eq (.tuple #[vQ, .bool true])) rfl 152 rfl (by rw [sd.1]; decide) (st_move (.tmp 154) rfl x154) ?_
            intro f42 w42 df2 sz2 old2 new2 hb
            replace x0 := tr old2 x0 rfl
            replace x1 := tr old2 x1 rfl
            replace x5 := tr old2 x5 rfl
            replace x6 := tr old2 x6 rfl
            replace x10 := tr old2 x10 rfl
            replace x12 := tr old2 x12 rfl
            replace x154 := tr old2 x154 rfl
            have x152 := Fk.e new2
            replace hd := HD.below hd hb
            replace hw := HW.below hw hb
            replace hW := Rs.below hW hb
            replace hA := IsX.below hA hb
            replace hQ := MBs.below hQ hb
            replace bl := bgo bl hb
            replace sd := sd2 sz2 df2 sd
            clear df2 sz2 old2 new2 hb
            clear x154
            refine wl_one (.eq (vQ)) rfl 155 rfl (by rw [sd.1]; decide) (st_extv (.tmp 152) 0 rfl x152 rfl) ?_
            intro f43 w43 df2 sz2 old2 new2 hb
            replace x0 := tr old2 x0 rfl
            replace x1 := tr old2 x1 rfl
            replace x5 := tr old2 x5 rfl
            replace x6 := tr old2 x6 rfl
            replace x10 := tr old2 x10 rfl
            replace x12 := tr old2 x12 rfl
            replace x152 := tr old2 x152 rfl
            have x155 := Fk.e new2
            replace hd := HD.below hd hb
            replace hw := HW.below hw hb
            replace hW := Rs.below hW hb
            replace hA := IsX.below hA hb
            replace hQ := MBs.below hQ hb
            replace bl := bgo bl hb
            replace sd := sd2 sz2 df2 sd
            clear df2 sz2 old2 new2 hb
            refine wl_one (.eq (.bool true)) rfl 156 rfl (by rw [sd.1]; decide) (st_extv (.tmp 152) 1 rfl x152 rfl) ?_
            intro f44 w44 df2 sz2 old2 new2 hb
            replace x0 := tr old2 x0 rfl
            replace x1 := tr old2 x1 rfl
            replace x5 := tr old2 x5 rfl
            replace x6 := tr old2 x6 rfl
            replace x10 := tr old2 x10 rfl
            replace x12 := tr old2 x12 rfl
            replace x152 := tr old2 x152 rfl
            replace x155 := tr old2 x155 rfl
            have x156 := Fk.e new2
            replace hd := HD.below hd hb
            replace hw := HW.below hw hb
            replace hW := Rs.below hW hb
            replace hA := IsX.below hA hb
            replace hQ := MBs.below hQ hb
            replace bl := bgo bl hb
            replace sd := sd2 sz2 df2 sd
            clear df2 sz2 old2 new2 hb
            clear x152
            refine wl_one (.eq (vQ)) rfl 16 rfl (by rw [sd.1]; decide) (st_assign (.tmp 155) rfl x155) ?_
            intro f45 w45 df2 sz2 old2 new2 hb
            replace x0 := tr old2 x0 rfl
            replace x1 := tr old2 x1 rfl
            replace x5 := tr old2 x5 rfl
            replace x6 := tr old2 x6 rfl
            replace x10 := tr old2 x10 rfl
            replace x12 := tr old2 x12 rfl
            replace x155 := tr old2 x155 rfl
            replace x156 := tr old2 x156 rfl
            have x16 := Fk.e new2
            replace hd := HD.below hd hb
            replace hw := HW.below hw hb
            replace hW := Rs.below hW hb
            replace hA := IsX.below hA hb
            replace hQ := MBs.below hQ hb
            replace bl := bgo bl hb
            replace sd := sd2 sz2 df2 sd
            clear df2 sz2 old2 new2 hb
            clear x155
            refine wl_one (.eq (.bool true)) rfl 17 rfl (by rw [sd.1]; decide) (st_assign (.tmp 156) rfl x156) ?_
            intro f46 w46 df2 sz2 old2 new2 hb
            replace x0 := tr old2 x0 rfl
            replace x1 := tr old2 x1 rfl
            replace x5 := tr old2 x5 rfl
            replace x6 := tr old2 x6 rfl
            replace x10 := tr old2 x10 rfl
            replace x12 := tr old2 x12 rfl
            replace x156 := tr old2 x156 rfl
            replace x16 := tr old2 x16 rfl
            have x17 := Fk.e new2
            replace hd := HD.below hd hb
            replace hw := HW.below hw hb
            replace hW := Rs.below hW hb
            replace hA := IsX.below hA hb
            replace hQ := MBs.below hQ hb
            replace bl := bgo bl hb
            replace sd := sd2 sz2 df2 sd
            clear df2 sz2 old2 new2 hb
            refine wpList_nil ?_
            clear x156
            show Code.wp _ _ _ _ _
            refine wp_seq ?_
            clear x12
            clear hw
            refine wr_s [.eq (.pointer (some ⟨gd, 0, none⟩))] (by rw [sd.1]; kernel_rfl) ⟨fun hwt ac u K => ?_, trivial⟩ ?_
            · exact st_move (.tmp 5) rfl (K.t x5 rfl)
            intro f47 w47 A hb
            replace x0 := A.t x0 rfl
            replace x1 := A.t x1 rfl
            replace x5 := A.t x5 rfl
            replace x6 := A.t x6 rfl
            replace x10 := A.t x10 rfl
            replace x16 := A.t x16 rfl
            replace x17 := A.t x17 rfl
            have x158 := A.e 0 158 rfl rfl
            replace hd := HD.below hd hb
            replace hW := Rs.below hW hb
            replace hA := IsX.below hA hb
            replace hQ := MBs.below hQ hb
            replace bl := bgo bl hb
            replace sd := A.sd sd
            clear A hb
            refine wl_call 11 (.func 11) _ _ #[.pointer (some ⟨gd, 0, none⟩), .int .i64 0] rfl 159 rfl (by rw [sd.1]; decide) rfl rfl (two_arg x158 rfl) Tryz.enter11 (fun u W' => ∃ (D2 : Nat → Prop) (A : Option Addr) (C : Nat), u = .tuple #[.slice A bb.length C, .int .i64 0] ∧ (Fk.sl bb).f (.slice A bb.length C) W' ∧ HD W' gd M D2 t9 ∧ (∀ j, D2 j → DD j ∨ w47.heap.size ≤ j) ∧ Fr M w47 W') (dread_ok hd hrd9) ?_
            rintro f48 w48 df2 sz2 old2 ⟨D2, Ab, Cb, x159, hvb, hd2, hD2, O⟩
            clear hVD hVw
            replace hQ := MBs.eff hQ O (fun j q => .inl (hd.sub _ q)) hD2 (fun j q => .inl q)
            have lt9 := Rs.lt hW
            replace hW := Rs.keep hW (O.block _ lt9 (fun q => hgDW (hd.sub _ q)))
            replace hgDW : ¬ D2 gW := fun q => (hD2 _ q).elim hgDW (fun q => by omega)
            clear lt9
            replace hA : IsX _ (fun j => D2 j ∨ j = gW) vA la := IsX.fr hA O (fun j q => .inl (hd.sub _ q)) (fun j q => q.elim (fun q => (hD2 _ q).imp .inl id) (fun q => .inl (.inr q)))
            have bl9 := bl.trans (O.below bl.size (fun j q => hDD j (hd.sub j q)))
            replace hDD : ∀ j, D2 j → w.heap.size ≤ j := fun j q => (hD2 j q).elim (hDD j) (fun q => by have := bl.size; omega)
            replace bl := bl9
            replace bl0 := bl
            clear bl9
            replace hd := hd2
            clear hd2 hD2 O
            clear DD
            obtain ⟨DD, rfl⟩ : ∃ E, E = D2 := ⟨_, rfl⟩
            replace x0 := tr old2 x0 rfl
            replace x1 := tr old2 x1 rfl
            replace x5 := tr old2 x5 rfl
            replace x6 := tr old2 x6 rfl
            replace x10 := tr old2 x10 rfl
            replace x16 := tr old2 x16 rfl
            replace x17 := tr old2 x17 rfl
            replace x158 := tr old2 x158 rfl
            replace sd := sd2 sz2 df2 sd
            clear df2 sz2 old2
            clear x158
            refine wl_one (.eq (.tuple #[.slice Ab bb.length Cb, .int .i64 0])) rfl 157 rfl (by rw [sd.1]; decide) (st_move (.tmp 159) rfl x159) ?_
            intro f49 w49 df2 sz2 old2 new2 hb
            replace x0 := tr old2 x0 rfl
            replace x1 := tr old2 x1 rfl
            replace x5 := tr old2 x5 rfl
            replace x6 := tr old2 x6 rfl
            replace x10 := tr old2 x10 rfl
            replace x16 := tr old2 x16 rfl
            replace x17 := tr old2 x17 rfl
            replace x159 := tr old2 x159 rfl
            have x157 := Fk.e new2
            replace hvb := Fk.mono _ _ _ _ hvb hb
            replace hd := HD.below hd hb
            replace hW := Rs.below hW hb
            replace hA := IsX.below hA hb
            replace hQ := MBs.below hQ hb
            replace bl := bgo bl hb
            replace sd := sd2 sz2 df2 sd
            clear df2 sz2 old2 new2 hb
            clear x159
            refine wl_one (.eq (.slice Ab bb.length Cb)) rfl 160 rfl (by rw [sd.1]; decide) (st_extv (.tmp 157) 0 rfl x157 rfl) ?_
            intro f50 w50 df2 sz2 old2 new2 hb
            replace x0 := tr old2 x0 rfl
            replace x1 := tr old2 x1 rfl
            replace x5 := tr old2 x5 rfl
            replace x6 := tr old2 x6 rfl
            replace x10 := tr old2 x10 rfl
            replace x16 := tr old2 x16 rfl
            replace x17 := tr old2 x17 rfl
            replace x157 := tr old2 x157 rfl
            have x160 := Fk.e new2
            replace hvb := Fk.mono _ _ _ _ hvb hb
            replace hd := HD.below hd hb
            replace hW := Rs.below hW hb
            replace hA := IsX.below hA hb
            replace hQ := MBs.below hQ hb
            replace bl := bgo bl hb
            replace sd := sd2 sz2 df2 sd
            clear df2 sz2 old2 new2 hb
            refine wl_one (.eq (.int .i64 0)) rfl 161 rfl (by rw [sd.1]; decide) (st_extv (.tmp 157) 1 rfl x157 rfl) ?_
            intro f51 w51 df2 sz2 old2 new2 hb
            replace x0 := tr old2 x0 rfl
            replace x1 := tr old2 x1 rfl
            replace x5 := tr old2 x5 rfl
            replace x6 := tr old2 x6 rfl
            replace x10 := tr old2 x10 rfl
            replace x16 := tr old2 x16 rfl
            replace x17 := tr old2 x17 rfl
            replace x157 := tr old2 x157 rfl
            replace x160 := tr old2 x160 rfl
            have x161 := Fk.e new2
            replace hvb := Fk.mono _ _ _ _ hvb hb
            replace hd := HD.below hd hb
            replace hW := Rs.below hW hb
            replace hA := IsX.below hA hb
            replace hQ := MBs.below hQ hb
            replace bl := bgo bl hb
            replace sd := sd2 sz2 df2 sd
            clear df2 sz2 old2 new2 hb
            clear x157
            refine wl_one (.eq (.slice Ab bb.length Cb)) rfl 18 rfl (by rw [sd.1]; decide) (st_assign (.tmp 160) rfl x160) ?_
            intro f52 w52 df2 sz2 old2 new2 hb
            replace x0 := tr old2 x0 rfl
            replace x1 := tr old2 x1 rfl
            replace x5 := tr old2 x5 rfl
            replace x6 := tr old2 x6 rfl
            replace x10 := tr old2 x10 rfl
            replace x16 := tr old2 x16 rfl
            replace x17 := tr old2 x17 rfl
            replace x160 := tr old2 x160 rfl
            replace x161 := tr old2 x161 rfl
            have x18 := Fk.e new2
            replace hvb := Fk.mono _ _ _ _ hvb hb
            replace hd := HD.below hd hb
            replace hW := Rs.below hW hb
            replace hA := IsX.below hA hb
            replace hQ := MBs.below hQ hb
            replace bl := bgo bl hb
            replace sd := sd2 sz2 df2 sd
            clear df2 sz2 old2 new2 hb
            clear x160
            refine wl_one (.eq (.int .i64 0)) rfl 19 rfl (by rw [sd.1]; decide) (st_assign (.tmp 161) rfl x161) ?_
            intro f53 w53 df2 sz2 old2 new2 hb
            replace x0 := tr old2 x0 rfl
            replace x1 := tr old2 x1 rfl
            replace x5 := tr old2 x5 rfl
            replace x6 := tr old2 x6 rfl
            replace x10 := tr old2 x10 rfl
            replace x16 := tr old2 x16 rfl
            replace x17 := tr old2 x17 rfl
            replace x161 := tr old2 x161 rfl
            replace x18 := tr old2 x18 rfl
            have x19 := Fk.e new2
            replace hvb := Fk.mono _ _ _ _ hvb hb
            replace hd := HD.below hd hb
            replace hW := Rs.below hW hb
            replace hA := IsX.below hA hb
            replace hQ := MBs.below hQ hb
            replace bl := bgo bl hb
            replace sd := sd2 sz2 df2 sd
            clear df2 sz2 old2 new2 hb
            refine wpList_nil ?_
            clear x161
            show Code.wp _ _ _ _ _
            refine wp_seq ?_
            refine wr_a [.sl (hdz 64 []), .eq (.string (str (hdz 64 []))), .eq (.string (str (hdz 64 [])))] (by rw [sd.1]; kernel_rfl) ⟨fun hwt ac u K => ?_, fun hwt ac u K => ?_, fun hwt ac u K => ?_, trivial⟩ ?_
            · exact st_call 12 (.func 12) _ _ _ rfl rfl (arg2 rfl rfl) Tryz.enter12 (rhead_sl _)
            · exact st_stra (.tmp 162) rfl (K.dep 0 162 rfl)
            · exact st_assign (.tmp 163) rfl (K.dep 1 163 rfl)
            intro f54 w54 A hb
            replace x0 := A.t x0 rfl
            replace x1 := A.t x1 rfl
            replace x5 := A.t x5 rfl
            replace x6 := A.t x6 rfl
            replace x10 := A.t x10 rfl
            replace x16 := A.t x16 rfl
            replace x17 := A.t x17 rfl
            replace x18 := A.t x18 rfl
            replace x19 := A.t x19 rfl
            have x20 := A.e 2 20 rfl rfl
            replace hvb := Fk.mono _ _ _ _ hvb hb
            replace hd := HD.below hd hb
            replace hW := Rs.below hW hb
            replace hA := IsX.below hA hb
            replace hQ := MBs.below hQ hb
            replace bl := bgo bl hb
            replace sd := A.sd sd
            clear A hb
            show Code.wp _ _ _ _ _
            refine wp_seq ?_
            rw [hho9, h6] at hQ
            have hWm : MBs w54 (fun _ => False) (fun _ => False) 4 (.some v9) (.slice (some ⟨gW, 0, none⟩) 4 4) := .inr ⟨_, gW, 4, rfl, rfl, by rw [hv9, ws_len, rw9_len (Nat.le_refl _)], hW, fun q => q, fun q => q⟩
            have hcas : bb = hdz 64 [] ∨ (bb ≠ hdz 64 [] ∧ l.length = 0 ∧ bb = hb) := by
              by_cases q : bb = hdz 64 []
              · exact .inl q
              · rcases hor9 with ⟨q1, q2⟩ | q2
                · exact .inr ⟨q, by rw [q1]; rfl, by rw [hbb, q2]; exact hst0⟩
                · exact absurd (by rw [hbb, q2, hz9]) q
            rcases hcas with hcas | ⟨hcas, hl0, hbh⟩
            rotate_left
            · skip
              refine wr_s [] (by rw [sd.1]; kernel_rfl) trivial ?_
              intro f55 w55 A hb
              replace x0 := A.t x0 rfl
              replace x1 := A.t x1 rfl
              replace x5 := A.t x5 rfl
              replace x6 := A.t x6 rfl
              replace x10 := A.t x10 rfl
              replace x16 := A.t x16 rfl
              replace x17 := A.t x17 rfl
              replace x18 := A.t x18 rfl
              replace x19 := A.t x19 rfl
              replace x20 := A.t x20 rfl
              replace hvb := Fk.mono _ _ _ _ hvb hb
              replace hd := HD.below hd hb
              replace hW := Rs.below hW hb
              replace hA := IsX.below hA hb
              replace hQ := MBs.below hQ hb
              replace hWm := MBs.below hWm hb
              replace bl := bgo bl hb
              replace sd := A.sd sd
              clear A hb
              refine wl_one (.eq (.bool true)) rfl 164 rfl (by rw [sd.1]; decide) (st_move (.tmp 17) rfl x17) ?_
              intro f56 w56 df2 sz2 old2 new2 hb
              replace x0 := tr old2 x0 rfl
              replace x1 := tr old2 x1 rfl
              replace x5 := tr old2 x5 rfl
              replace x6 := tr old2 x6 rfl
              replace x10 := tr old2 x10 rfl
              replace x16 := tr old2 x16 rfl
              replace x17 := tr old2 x17 rfl
              replace x18 := tr old2 x18 rfl
              replace x19 := tr old2 x19 rfl
              replace x20 := tr old2 x20 rfl
              have x164 := Fk.e new2
              replace hvb := Fk.mono _ _ _ _ hvb hb
              replace hd := HD.below hd hb
              replace hW := Rs.below hW hb
              replace hA := IsX.below hA hb
              replace hQ := MBs.below hQ hb
              replace hWm := MBs.below hWm hb
              replace bl := bgo bl hb
              replace sd := sd2 sz2 df2 sd
              clear df2 sz2 old2 new2 hb
              clear x17
              refine wl_one (.eq (.bool true)) rfl 165 rfl (by rw [sd.1]; decide) (st_move (.tmp 164) rfl x164) ?_
              intro f57 w57 df2 sz2 old2 new2 hb
              replace x0 := tr old2 x0 rfl
              replace x1 := tr old2 x1 rfl
              replace x5 := tr old2 x5 rfl
              replace x6 := tr old2 x6 rfl
              replace x10 := tr old2 x10 rfl
              replace x16 := tr old2 x16 rfl
              replace x18 := tr old2 x18 rfl
              replace x19 := tr old2 x19 rfl
              replace x20 := tr old2 x20 rfl
              replace x164 := tr old2 x164 rfl
              have x165 := Fk.e new2
              replace hvb := Fk.mono _ _ _ _ hvb hb
              replace hd := HD.below hd hb
              replace hW := Rs.below hW hb
              replace hA := IsX.below hA hb
              replace hQ := MBs.below hQ hb
              replace hWm := MBs.below hWm hb
              replace bl := bgo bl hb
              replace sd := sd2 sz2 df2 sd
              clear df2 sz2 old2 new2 hb
              clear x164
              refine wl_onew (.eq (vQ)) (want_of rfl rfl x165) 166 rfl (by rw [sd.1]; decide) (st_move (.tmp 16) rfl x16) ?_
              intro f58 w58 df2 sz2 old2 new2 hb
              replace bl0 := bl
              replace x0 := tr old2 x0 rfl
              replace x1 := tr old2 x1 rfl
              replace x5 := tr old2 x5 rfl
              replace x6 := tr old2 x6 rfl
              replace x10 := tr old2 x10 rfl
              replace x16 := tr old2 x16 rfl
              replace x18 := tr old2 x18 rfl
              replace x19 := tr old2 x19 rfl
              replace x20 := tr old2 x20 rfl
              replace x165 := tr old2 x165 rfl
              have x166 := Fk.e new2
              replace hvb := Fk.mono _ _ _ _ hvb hb
              replace hd := HD.below hd hb
              replace hW := Rs.below hW hb
              replace hA := IsX.below hA hb
              replace hQ := MBs.below hQ hb
              replace hWm := MBs.below hWm hb
              replace bl := bgo bl hb
              replace sd := sd2 sz2 df2 sd
              clear df2 sz2 old2 new2 hb
              clear x16
              refine wl_onew (.eq (.slice (some ⟨gW, 0, none⟩) (4) (4))) (want_of rfl rfl x165) 167 rfl (by rw [sd.1]; decide) (st_move (.tmp 6) rfl x6) ?_
              intro f59 w59 df2 sz2 old2 new2 hb
              replace bl0 := bl
              replace x0 := tr old2 x0 rfl
              replace x1 := tr old2 x1 rfl
              replace x5 := tr old2 x5 rfl
              replace x6 := tr old2 x6 rfl
              replace x10 := tr old2 x10 rfl
              replace x18 := tr old2 x18 rfl
              replace x19 := tr old2 x19 rfl
              replace x20 := tr old2 x20 rfl
              replace x165 := tr old2 x165 rfl
              replace x166 := tr old2 x166 rfl
              have x167 := Fk.e new2
              replace hvb := Fk.mono _ _ _ _ hvb hb
              replace hd := HD.below hd hb
              replace hW := Rs.below hW hb
              replace hA := IsX.below hA hb
              replace hQ := MBs.below hQ hb
              replace hWm := MBs.below hWm hb
              replace bl := bgo bl hb
              replace sd := sd2 sz2 df2 sd
              clear df2 sz2 old2 new2 hb
              refine wl_onew (.eq (.bool true)) (want_of rfl rfl x165) 168 rfl (by rw [sd.1]; decide) (st_call 13 (.func 13) _ _ #[vQ, .slice (some ⟨gW, 0, none⟩) (4) (4)] rfl rfl (arg2 x166 x167) Tryz.enter13 (by have h9 := same_mb hQ hWm (by omega); rw [decide_eq_true rfl] at h9; exact h9)) ?_
              intro f60 w60 df2 sz2 old2 new2 hb
              replace bl0 := bl
              replace x0 := tr old2 x0 rfl
              replace x1 := tr old2 x1 rfl
              replace x5 := tr old2 x5 rfl
              replace x6 := tr old2 x6 rfl
              replace x10 := tr old2 x10 rfl
              replace x18 := tr old2 x18 rfl
              replace x19 := tr old2 x19 rfl
              replace x20 := tr old2 x20 rfl
              replace x165 := tr old2 x165 rfl
              replace x166 := tr old2 x166 rfl
              replace x167 := tr old2 x167 rfl
              have x168 := Fk.e new2
              replace hvb := Fk.mono _ _ _ _ hvb hb
              replace hd := HD.below hd hb
              replace hW := Rs.below hW hb
              replace hA := IsX.below hA hb
              replace hQ := MBs.below hQ hb
              replace hWm := MBs.below hWm hb
              replace bl := bgo bl hb
              replace sd := sd2 sz2 df2 sd
              clear df2 sz2 old2 new2 hb
              clear x166
              clear x167
              refine wl_one (.eq (.bool true)) rfl 169 rfl (by rw [sd.1]; decide) (st_pick_t (.tmp 165) (.tmp 168) (.const (.bool false)) rfl x165 x168) ?_
              intro f61 w61 df2 sz2 old2 new2 hb
              replace x0 := tr old2 x0 rfl
              replace x1 := tr old2 x1 rfl
              replace x5 := tr old2 x5 rfl
              replace x6 := tr old2 x6 rfl
              replace x10 := tr old2 x10 rfl
              replace x18 := tr old2 x18 rfl
              replace x19 := tr old2 x19 rfl
              replace x20 := tr old2 x20 rfl
              replace x165 := tr old2 x165 rfl
              replace x168 := tr old2 x168 rfl
              have x169 := Fk.e new2
              replace hvb := Fk.mono _ _ _ _ hvb hb
              replace hd := HD.below hd hb
              replace hW := Rs.below hW hb
              replace hA := IsX.below hA hb
              replace hQ := MBs.below hQ hb
              replace hWm := MBs.below hWm hb
              replace bl := bgo bl hb
              replace sd := sd2 sz2 df2 sd
              clear df2 sz2 old2 new2 hb
              clear x165
              clear x168
              refine wl_one (.eq (.bool true)) rfl 170 rfl (by rw [sd.1]; decide) (st_move (.tmp 169) rfl x169) ?_
              intro f62 w62 df2 sz2 old2 new2 hb
              replace x0 := tr old2 x0 rfl
              replace x1 := tr old2 x1 rfl
              replace x5 := tr old2 x5 rfl
              replace x6 := tr old2 x6 rfl
              replace x10 := tr old2 x10 rfl
              replace x18 := tr old2 x18 rfl
              replace x19 := tr old2 x19 rfl
              replace x20 := tr old2 x20 rfl
              replace x169 := tr old2 x169 rfl
              have x170 := Fk.e new2
              replace hvb := Fk.mono _ _ _ _ hvb hb
              replace hd := HD.below hd hb
              replace hW := Rs.below hW hb
              replace hA := IsX.below hA hb
              replace hQ := MBs.below hQ hb
              replace hWm := MBs.below hWm hb
              replace bl := bgo bl hb
              replace sd := sd2 sz2 df2 sd
              clear df2 sz2 old2 new2 hb
              clear x169
              refine wl_onew (.eq (.int .i64 0)) (want_of rfl rfl x170) 171 rfl (by rw [sd.1]; decide) (st_move (.tmp 19) rfl x19) ?_
              intro f63 w63 df2 sz2 old2 new2 hb
              replace bl0 := bl
              replace x0 := tr old2 x0 rfl
              replace x1 := tr old2 x1 rfl
              replace x5 := tr old2 x5 rfl
              replace x6 := tr old2 x6 rfl
              replace x10 := tr old2 x10 rfl
              replace x18 := tr old2 x18 rfl
              replace x19 := tr old2 x19 rfl
              replace x20 := tr old2 x20 rfl
              replace x170 := tr old2 x170 rfl
              have x171 := Fk.e new2
              replace hvb := Fk.mono _ _ _ _ hvb hb
              replace hd := HD.below hd hb
              replace hW := Rs.below hW hb
              replace hA := IsX.below hA hb
              replace hQ := MBs.below hQ hb
              replace hWm := MBs.below hWm hb
              replace bl := bgo bl hb
              replace sd := sd2 sz2 df2 sd
              clear df2 sz2 old2 new2 hb
              clear x19
              refine wl_onew (.eq (.bool true)) (want_of rfl rfl x170) 172 rfl (by rw [sd.1]; decide) (st_eqi 27 (.tmp 171) (.const (.int .i64 0)) rfl .i64 (0) (0) x171 rfl _ (by simp)) ?_
              intro f64 w64 df2 sz2 old2 new2 hb
              replace bl0 := bl
              replace x0 := tr old2 x0 rfl
              replace x1 := tr old2 x1 rfl
              replace x5 := tr old2 x5 rfl
              replace x6 := tr old2 x6 rfl
              replace x10 := tr old2 x10 rfl
              replace x18 := tr old2 x18 rfl
              replace x20 := tr old2 x20 rfl
              replace x170 := tr old2 x170 rfl
              replace x171 := tr old2 x171 rfl
              have x172 := Fk.e new2
              replace hvb := Fk.mono _ _ _ _ hvb hb
              replace hd := HD.below hd hb
              replace hW := Rs.below hW hb
              replace hA := IsX.below hA hb
              replace hQ := MBs.below hQ hb
              replace hWm := MBs.below hWm hb
              replace bl := bgo bl hb
              replace sd := sd2 sz2 df2 sd
              clear df2 sz2 old2 new2 hb
              clear x171
              refine wl_one (.eq (.bool true)) rfl 173 rfl (by rw [sd.1]; decide) (st_pick_t (.tmp 170) (.tmp 172) (.const (.bool false)) rfl x170 x172) ?_
              intro f65 w65 df2 sz2 old2 new2 hb
              replace x0 := tr old2 x0 rfl
              replace x1 := tr old2 x1 rfl
              replace x5 := tr old2 x5 rfl
              replace x6 := tr old2 x6 rfl
              replace x10 := tr old2 x10 rfl
              replace x18 := tr old2 x18 rfl
              replace x20 := tr old2 x20 rfl
              replace x170 := tr old2 x170 rfl
              replace x172 := tr old2 x172 rfl
              have x173 := Fk.e new2
              replace hvb := Fk.mono _ _ _ _ hvb hb
              replace hd := HD.below hd hb
              replace hW := Rs.below hW hb
              replace hA := IsX.below hA hb
              replace hQ := MBs.below hQ hb
              replace hWm := MBs.below hWm hb
              replace bl := bgo bl hb
              replace sd := sd2 sz2 df2 sd
              clear df2 sz2 old2 new2 hb
              clear x170
              clear x172
              refine wl_one (.eq (.bool true)) rfl 174 rfl (by rw [sd.1]; decide) (st_move (.tmp 173) rfl x173) ?_
              intro f66 w66 df2 sz2 old2 new2 hb
              replace x0 := tr old2 x0 rfl
              replace x1 := tr old2 x1 rfl
              replace x5 := tr old2 x5 rfl
              replace x6 := tr old2 x6 rfl
              replace x10 := tr old2 x10 rfl
              replace x18 := tr old2 x18 rfl
              replace x20 := tr old2 x20 rfl
              replace x173 := tr old2 x173 rfl
              have x174 := Fk.e new2
              replace hvb := Fk.mono _ _ _ _ hvb hb
              replace hd := HD.below hd hb
              replace hW := Rs.below hW hb
              replace hA := IsX.below hA hb
              replace hQ := MBs.below hQ hb
              replace hWm := MBs.below hWm hb
              replace bl := bgo bl hb
              replace sd := sd2 sz2 df2 sd
              clear df2 sz2 old2 new2 hb
              clear x173
              refine wl_onew (.eq (.slice Ab bb.length Cb)) (want_of rfl rfl x174) 175 rfl (by rw [sd.1]; decide) (st_move (.tmp 18) rfl x18) ?_
              intro f67 w67 df2 sz2 old2 new2 hb
              replace bl0 := bl
              replace x0 := tr old2 x0 rfl
              replace x1 := tr old2 x1 rfl
              replace x5 := tr old2 x5 rfl
              replace x6 := tr old2 x6 rfl
              replace x10 := tr old2 x10 rfl
              replace x18 := tr old2 x18 rfl
              replace x20 := tr old2 x20 rfl
              replace x174 := tr old2 x174 rfl
              have x175 := Fk.e new2
              replace hvb := Fk.mono _ _ _ _ hvb hb
              replace hd := HD.below hd hb
              replace hW := Rs.below hW hb
              replace hA := IsX.below hA hb
              replace hQ := MBs.below hQ hb
              replace hWm := MBs.below hWm hb
              replace bl := bgo bl hb
              replace sd := sd2 sz2 df2 sd
              clear df2 sz2 old2 new2 hb
              refine wl_onew (.eq (.string (str (bb)))) (want_of rfl rfl x174) 176 rfl (by rw [sd.1]; decide) (st_stra (.tmp 175) rfl (fk_val x175 hvb)) ?_
              intro f68 w68 df2 sz2 old2 new2 hb
              replace bl0 := bl
              replace x0 := tr old2 x0 rfl
              replace x1 := tr old2 x1 rfl
              replace x5 := tr old2 x5 rfl
              replace x6 := tr old2 x6 rfl
              replace x10 := tr old2 x10 rfl
              replace x18 := tr old2 x18 rfl
              replace x20 := tr old2 x20 rfl
              replace x174 := tr old2 x174 rfl
              replace x175 := tr old2 x175 rfl
              have x176 := Fk.e new2
              replace hvb := Fk.mono _ _ _ _ hvb hb
              replace hd := HD.below hd hb
              replace hW := Rs.below hW hb
              replace hA := IsX.below hA hb
              replace hQ := MBs.below hQ hb
              replace hWm := MBs.below hWm hb
              replace bl := bgo bl hb
              replace sd := sd2 sz2 df2 sd
              clear df2 sz2 old2 new2 hb
              clear x175
              refine wl_onew (.eq (.string (str (hdz 64 [])))) (want_of rfl rfl x174) 177 rfl (by rw [sd.1]; decide) (st_move (.tmp 20) rfl x20) ?_
              intro f69 w69 df2 sz2 old2 new2 hb
              replace bl0 := bl
              replace x0 := tr old2 x0 rfl
              replace x1 := tr old2 x1 rfl
              replace x5 := tr old2 x5 rfl
              replace x6 := tr old2 x6 rfl
              replace x10 := tr old2 x10 rfl
              replace x18 := tr old2 x18 rfl
              replace x20 := tr old2 x20 rfl
              replace x174 := tr old2 x174 rfl
              replace x176 := tr old2 x176 rfl
              have x177 := Fk.e new2
              replace hvb := Fk.mono _ _ _ _ hvb hb
              replace hd := HD.below hd hb
              replace hW := Rs.below hW hb
              replace hA := IsX.below hA hb
              replace hQ := MBs.below hQ hb
              replace hWm := MBs.below hWm hb
              replace bl := bgo bl hb
              replace sd := sd2 sz2 df2 sd
              clear df2 sz2 old2 new2 hb
              clear x20
              refine wl_onew (.eq (.bool false)) (want_of rfl rfl x174) 178 rfl (by rw [sd.1]; decide) (st_eqs (.tmp 176) (.tmp 177) rfl (str (bb)) (str (hdz 64 [])) x176 x177 _ (by rw [eq_comm, decide_eq_false_iff_not]; exact fun h => hcas (str_inj h))) ?_
              intro f70 w70 df2 sz2 old2 new2 hb
              replace bl0 := bl
              replace x0 := tr old2 x0 rfl
              replace x1 := tr old2 x1 rfl
              replace x5 := tr old2 x5 rfl
              replace x6 := tr old2 x6 rfl
              replace x10 := tr old2 x10 rfl
              replace x18 := tr old2 x18 rfl
              replace x174 := tr old2 x174 rfl
              replace x176 := tr old2 x176 rfl
              replace x177 := tr old2 x177 rfl
              have x178 := Fk.e new2
              replace hvb := Fk.mono _ _ _ _ hvb hb
              replace hd := HD.below hd hb
              replace hW := Rs.below hW hb
              replace hA := IsX.below hA hb
              replace hQ := MBs.below hQ hb
              replace hWm := MBs.below hWm hb
              replace bl := bgo bl hb
              replace sd := sd2 sz2 df2 sd
              clear df2 sz2 old2 new2 hb
              clear x176
              clear x177
              refine wl_onew (.eq (.bool false)) (want_of rfl rfl x174) 179 rfl (by rw [sd.1]; decide) (st_move (.tmp 178) rfl x178) ?_
              intro f71 w71 df2 sz2 old2 new2 hb
              replace bl0 := bl
              replace x0 := tr old2 x0 rfl
              replace x1 := tr old2 x1 rfl
              replace x5 := tr old2 x5 rfl
              replace x6 := tr old2 x6 rfl
              replace x10 := tr old2 x10 rfl
              replace x18 := tr old2 x18 rfl
              replace x174 := tr old2 x174 rfl
              replace x178 := tr old2 x178 rfl
              have x179 := Fk.e new2
              replace hvb := Fk.mono _ _ _ _ hvb hb
              replace hd := HD.below hd hb
              replace hW := Rs.below hW hb
              replace hA := IsX.below hA hb
              replace hQ := MBs.below hQ hb
              replace hWm := MBs.below hWm hb
              replace bl := bgo bl hb
              replace sd := sd2 sz2 df2 sd
              clear df2 sz2 old2 new2 hb
              clear x178
              refine wl_onew (.eq (vA)) (want_of rfl rfl x179) 180 rfl (by rw [sd.1]; decide) (st_move (.tmp 10) rfl x10) ?_
              intro f72 w72 df2 sz2 old2 new2 hb
              replace bl0 := bl
              replace x0 := tr old2 x0 rfl
              replace x1 := tr old2 x1 rfl
              replace x5 := tr old2 x5 rfl
              replace x6 := tr old2 x6 rfl
              replace x10 := tr old2 x10 rfl
              replace x18 := tr old2 x18 rfl
              replace x174 := tr old2 x174 rfl
              replace x179 := tr old2 x179 rfl
              have x180 := Fk.e new2
              replace hvb := Fk.mono _ _ _ _ hvb hb
              replace hd := HD.below hd hb
              replace hW := Rs.below hW hb
              replace hA := IsX.below hA hb
              replace hQ := MBs.below hQ hb
              replace hWm := MBs.below hWm hb
              replace bl := bgo bl hb
              replace sd := sd2 sz2 df2 sd
              clear df2 sz2 old2 new2 hb
              refine wl_onew (.eq (.int .i64 (la.length : Int))) (want_of rfl rfl x179) 181 rfl (by rw [sd.1]; decide) (st_lenis (.tmp 180) rfl (fk_val x180 hA.1)) ?_
              intro f73 w73 df2 sz2 old2 new2 hb
              replace bl0 := bl
              replace x0 := tr old2 x0 rfl
              replace x1 := tr old2 x1 rfl
              replace x5 := tr old2 x5 rfl
              replace x6 := tr old2 x6 rfl
              replace x10 := tr old2 x10 rfl
              replace x18 := tr old2 x18 rfl
              replace x174 := tr old2 x174 rfl
              replace x179 := tr old2 x179 rfl
              replace x180 := tr old2 x180 rfl
              have x181 := Fk.e new2
              replace hvb := Fk.mono _ _ _ _ hvb hb
              replace hd := HD.below hd hb
              replace hW := Rs.below hW hb
              replace hA := IsX.below hA hb
              replace hQ := MBs.below hQ hb
              replace hWm := MBs.below hWm hb
              replace bl := bgo bl hb
              replace sd := sd2 sz2 df2 sd
              clear df2 sz2 old2 new2 hb
              clear x180
              refine wl_onew (.eq (.bool true)) (want_of rfl rfl x179) 182 rfl (by rw [sd.1]; decide) (st_eqi 3 (.tmp 181) (.const (.int .i64 0)) rfl .i64 ((la.length : Int)) (0) x181 rfl _ (by rw [eq_comm, decide_eq_true_iff]; omega)) ?_
              intro f74 w74 df2 sz2 old2 new2 hb
              replace bl0 := bl
              replace x0 := tr old2 x0 rfl
              replace x1 := tr old2 x1 rfl
              replace x5 := tr old2 x5 rfl
              replace x6 := tr old2 x6 rfl
              replace x10 := tr old2 x10 rfl
              replace x18 := tr old2 x18 rfl
              replace x174 := tr old2 x174 rfl
              replace x179 := tr old2 x179 rfl
              replace x181 := tr old2 x181 rfl
              have x182 := Fk.e new2
              replace hvb := Fk.mono _ _ _ _ hvb hb
              replace hd := HD.below hd hb
              replace hW := Rs.below hW hb
              replace hA := IsX.below hA hb
              replace hQ := MBs.below hQ hb
              replace hWm := MBs.below hWm hb
              replace bl := bgo bl hb
              replace sd := sd2 sz2 df2 sd
              clear df2 sz2 old2 new2 hb
              clear x181
              refine wl_onew (.eq (.bool true)) (want_of rfl rfl x179) 183 rfl (by rw [sd.1]; decide) (st_move (.tmp 182) rfl x182) ?_
              intro f75 w75 df2 sz2 old2 new2 hb
              replace bl0 := bl
              replace x0 := tr old2 x0 rfl
              replace x1 := tr old2 x1 rfl
              replace x5 := tr old2 x5 rfl
              replace x6 := tr old2 x6 rfl
              replace x10 := tr old2 x10 rfl
              replace x18 := tr old2 x18 rfl
              replace x174 := tr old2 x174 rfl
              replace x179 := tr old2 x179 rfl
              replace x182 := tr old2 x182 rfl
              have x183 := Fk.e new2
              replace hvb := Fk.mono _ _ _ _ hvb hb
              replace hd := HD.below hd hb
              replace hW := Rs.below hW hb
              replace hA := IsX.below hA hb
              replace hQ := MBs.below hQ hb
              replace hWm := MBs.below hWm hb
              replace bl := bgo bl hb
              replace sd := sd2 sz2 df2 sd
              clear df2 sz2 old2 new2 hb
              clear x182
              refine wl_onew (.eq (.slice Ab bb.length Cb)) (want_of rfl rfl x183) 184 rfl (by rw [sd.1]; decide) (st_move (.tmp 18) rfl x18) ?_
              intro f76 w76 df2 sz2 old2 new2 hb
              replace bl0 := bl
              replace x0 := tr old2 x0 rfl
              replace x1 := tr old2 x1 rfl
              replace x5 := tr old2 x5 rfl
              replace x6 := tr old2 x6 rfl
              replace x10 := tr old2 x10 rfl
              replace x18 := tr old2 x18 rfl
              replace x174 := tr old2 x174 rfl
              replace x179 := tr old2 x179 rfl
              replace x183 := tr old2 x183 rfl
              have x184 := Fk.e new2
              replace hvb := Fk.mono _ _ _ _ hvb hb
              replace hd := HD.below hd hb
              replace hW := Rs.below hW hb
              replace hA := IsX.below hA hb
              replace hQ := MBs.below hQ hb
              replace hWm := MBs.below hWm hb
              replace bl := bgo bl hb
              replace sd := sd2 sz2 df2 sd
              clear df2 sz2 old2 new2 hb
              clear x18
              refine wl_onew (.eq (.string (str (bb)))) (want_of rfl rfl x183) 185 rfl (by rw [sd.1]; decide) (st_stra (.tmp 184) rfl (fk_val x184 hvb)) ?_
              intro f77 w77 df2 sz2 old2 new2 hb
              replace bl0 := bl
              replace x0 := tr old2 x0 rfl
              replace x1 := tr old2 x1 rfl
              replace x5 := tr old2 x5 rfl
              replace x6 := tr old2 x6 rfl
              replace x10 := tr old2 x10 rfl
              replace x174 := tr old2 x174 rfl
              replace x179 := tr old2 x179 rfl
              replace x183 := tr old2 x183 rfl
              replace x184 := tr old2 x184 rfl
              have x185 := Fk.e new2
              replace hvb := Fk.mono _ _ _ _ hvb hb
              replace hd := HD.below hd hb
              replace hW := Rs.below hW hb
              replace hA := IsX.below hA hb
              replace hQ := MBs.below hQ hb
              replace hWm := MBs.below hWm hb
              replace bl := bgo bl hb
              replace sd := sd2 sz2 df2 sd
              clear df2 sz2 old2 new2 hb
              clear x184
              refine wl_onew (.eq (vh)) (want_of rfl rfl x183) 186 rfl (by rw [sd.1]; decide) (st_move (.tmp 0) rfl x0) ?_
              intro f78 w78 df2 sz2 old2 new2 hb
              replace bl0 := bl
              replace x0 := tr old2 x0 rfl
              replace x1 := tr old2 x1 rfl
              replace x5 := tr old2 x5 rfl
              replace x6 := tr old2 x6 rfl
              replace x10 := tr old2 x10 rfl
              replace x174 := tr old2 x174 rfl
              replace x179 := tr old2 x179 rfl
              replace x183 := tr old2 x183 rfl
              replace x185 := tr old2 x185 rfl
              have x186 := Fk.e new2
              replace hvb := Fk.mono _ _ _ _ hvb hb
              replace hd := HD.below hd hb
              replace hW := Rs.below hW hb
              replace hA := IsX.below hA hb
              replace hQ := MBs.below hQ hb
              replace hWm := MBs.below hWm hb
              replace bl := bgo bl hb
              replace sd := sd2 sz2 df2 sd
              clear df2 sz2 old2 new2 hb
              refine wl_onew (.eq (.string (str (hb)))) (want_of rfl rfl x183) 187 rfl (by rw [sd.1]; decide) (st_stra (.tmp 186) rfl (fk_val x186 (Fk.mono _ _ _ _ hh bl))) ?_
              intro f79 w79 df2 sz2 old2 new2 hb
              replace bl0 := bl
              replace x0 := tr old2 x0 rfl
              replace x1 := tr old2 x1 rfl
              replace x5 := tr old2 x5 rfl
              replace x6 := tr old2 x6 rfl
              replace x10 := tr old2 x10 rfl
              replace x174 := tr old2 x174 rfl
              replace x179 := tr old2 x179 rfl
              replace x183 := tr old2 x183 rfl
              replace x185 := tr old2 x185 rfl
              replace x186 := tr old2 x186 rfl
              have x187 := Fk.e new2
              replace hvb := Fk.mono _ _ _ _ hvb hb
              replace hd := HD.below hd hb
              replace hW := Rs.below hW hb
              replace hA := IsX.below hA hb
              replace hQ := MBs.below hQ hb
              replace hWm := MBs.below hWm hb
              replace bl := bgo bl hb
              replace sd := sd2 sz2 df2 sd
              clear df2 sz2 old2 new2 hb
              clear x186
              refine wl_onew (.eq (.bool true)) (want_of rfl rfl x183) 188 rfl (by rw [sd.1]; decide) (st_eqs (.tmp 185) (.tmp 187) rfl (str (bb)) (str (hb)) x185 x187 _ (by rw [eq_comm, decide_eq_true_iff, hbh])) ?_
              intro f80 w80 df2 sz2 old2 new2 hb
              replace bl0 := bl
              replace x0 := tr old2 x0 rfl
              replace x1 := tr old2 x1 rfl
              replace x5 := tr old2 x5 rfl
              replace x6 := tr old2 x6 rfl
              replace x10 := tr old2 x10 rfl
              replace x174 := tr old2 x174 rfl
              replace x179 := tr old2 x179 rfl
              replace x183 := tr old2 x183 rfl
              replace x185 := tr old2 x185 rfl
              replace x187 := tr old2 x187 rfl
              have x188 := Fk.e new2
              replace hvb := Fk.mono _ _ _ _ hvb hb
              replace hd := HD.below hd hb
              replace hW := Rs.below hW hb
              replace hA := IsX.below hA hb
              replace hQ := MBs.below hQ hb
              replace hWm := MBs.below hWm hb
              replace bl := bgo bl hb
              replace sd := sd2 sz2 df2 sd
              clear df2 sz2 old2 new2 hb
              clear x185
              clear x187
              refine wl_onew (.eq (.bool true)) (want_of rfl rfl x179) 189 rfl (by rw [sd.1]; decide) (st_pick_t (.tmp 183) (.tmp 188) (.const (.bool false)) rfl x183 x188) ?_
              intro f81 w81 df2 sz2 old2 new2 hb
              replace bl0 := bl
              replace x0 := tr old2 x0 rfl
              replace x1 := tr old2 x1 rfl
              replace x5 := tr old2 x5 rfl
              replace x6 := tr old2 x6 rfl
              replace x10 := tr old2 x10 rfl
              replace x174 := tr old2 x174 rfl
              replace x179 := tr old2 x179 rfl
              replace x183 := tr old2 x183 rfl
              replace x188 := tr old2 x188 rfl
              have x189 := Fk.e new2
              replace hvb := Fk.mono _ _ _ _ hvb hb
              replace hd := HD.below hd hb
              replace hW := Rs.below hW hb
              replace hA := IsX.below hA hb
              replace hQ := MBs.below hQ hb
              replace hWm := MBs.below hWm hb
              replace bl := bgo bl hb
              replace sd := sd2 sz2 df2 sd
              clear df2 sz2 old2 new2 hb
              clear x183
              clear x188
              refine wl_onew (.eq (.bool true)) (want_of rfl rfl x174) 190 rfl (by rw [sd.1]; decide) (st_pick_f' (.tmp 179) (.const (.bool true)) (.tmp 189) rfl x179 x189) ?_
              intro f82 w82 df2 sz2 old2 new2 hb
              replace bl0 := bl
              replace x0 := tr old2 x0 rfl
              replace x1 := tr old2 x1 rfl
              replace x5 := tr old2 x5 rfl
              replace x6 := tr old2 x6 rfl
              replace x10 := tr old2 x10 rfl
              replace x174 := tr old2 x174 rfl
              replace x179 := tr old2 x179 rfl
              replace x189 := tr old2 x189 rfl
              have x190 := Fk.e new2
              replace hvb := Fk.mono _ _ _ _ hvb hb
              replace hd := HD.below hd hb
              replace hW := Rs.below hW hb
              replace hA := IsX.below hA hb
              replace hQ := MBs.below hQ hb
              replace hWm := MBs.below hWm hb
              replace bl := bgo bl hb
              replace sd := sd2 sz2 df2 sd
              clear df2 sz2 old2 new2 hb
              clear x179
              clear x189
              refine wl_one (.eq (.bool true)) rfl 191 rfl (by rw [sd.1]; decide) (st_pick_t (.tmp 174) (.tmp 190) (.const (.bool false)) rfl x174 x190) ?_
              intro f83 w83 df2 sz2 old2 new2 hb
              replace x0 := tr old2 x0 rfl
              replace x1 := tr old2 x1 rfl
              replace x5 := tr old2 x5 rfl
              replace x6 := tr old2 x6 rfl
              replace x10 := tr old2 x10 rfl
              replace x174 := tr old2 x174 rfl
              replace x190 := tr old2 x190 rfl
              have x191 := Fk.e new2
              replace hvb := Fk.mono _ _ _ _ hvb hb
              replace hd := HD.below hd hb
              replace hW := Rs.below hW hb
              replace hA := IsX.below hA hb
              replace hQ := MBs.below hQ hb
              replace hWm := MBs.below hWm hb
              replace bl := bgo bl hb
              replace sd := sd2 sz2 df2 sd
              clear df2 sz2 old2 new2 hb
              clear x174
              clear x190
              refine wl_one (.eq (.bool true)) rfl 192 rfl (by rw [sd.1]; decide) (st_move (.tmp 191) rfl x191) ?_
              intro f84 w84 df2 sz2 old2 new2 hb
              replace x0 := tr old2 x0 rfl
              replace x1 := tr old2 x1 rfl
              replace x5 := tr old2 x5 rfl
              replace x6 := tr old2 x6 rfl
              replace x10 := tr old2 x10 rfl
              replace x191 := tr old2 x191 rfl
              have x192 := Fk.e new2
              replace hvb := Fk.mono _ _ _ _ hvb hb
              replace hd := HD.below hd hb
              replace hW := Rs.below hW hb
              replace hA := IsX.below hA hb
              replace hQ := MBs.below hQ hb
              replace hWm := MBs.below hWm hb
              replace bl := bgo bl hb
              replace sd := sd2 sz2 df2 sd
              clear df2 sz2 old2 new2 hb
              clear x191
              refine wl_onew (.eq (.pointer (some ⟨gd, 0, none⟩))) (want_of rfl rfl x192) 193 rfl (by rw [sd.1]; decide) (st_move (.tmp 5) rfl x5) ?_
              intro f85 w85 df2 sz2 old2 new2 hb
              replace bl0 := bl
              replace x0 := tr old2 x0 rfl
              replace x1 := tr old2 x1 rfl
              replace x5 := tr old2 x5 rfl
              replace x6 := tr old2 x6 rfl
              replace x10 := tr old2 x10 rfl
              replace x192 := tr old2 x192 rfl
              have x193 := Fk.e new2
              replace hvb := Fk.mono _ _ _ _ hvb hb
              replace hd := HD.below hd hb
              replace hW := Rs.below hW hb
              replace hA := IsX.below hA hb
              replace hQ := MBs.below hQ hb
              replace hWm := MBs.below hWm hb
              replace bl := bgo bl hb
              replace sd := sd2 sz2 df2 sd
              clear df2 sz2 old2 new2 hb
              refine wl_onew (.is ([] : List Int)) (want_of rfl rfl x192) 194 rfl (by rw [sd.1]; decide) (st_call 14 (.func 14) _ _ #[.pointer (some ⟨gd, 0, none⟩)] rfl rfl (one_arg x193) Tryz.enter14 (cached_ok hd hca9)) ?_
              intro f86 w86 df2 sz2 old2 new2 hb
              replace bl0 := bl
              replace x0 := tr old2 x0 rfl
              replace x1 := tr old2 x1 rfl
              replace x5 := tr old2 x5 rfl
              replace x6 := tr old2 x6 rfl
              replace x10 := tr old2 x10 rfl
              replace x192 := tr old2 x192 rfl
              replace x193 := tr old2 x193 rfl
              have x194 : Fk.f (.is ([] : List Int)) (f86.eval (.tmp 194)) w86 := new2
              replace hvb := Fk.mono _ _ _ _ hvb hb
              replace hd := HD.below hd hb
              replace hW := Rs.below hW hb
              replace hA := IsX.below hA hb
              replace hQ := MBs.below hQ hb
              replace hWm := MBs.below hWm hb
              replace bl := bgo bl hb
              replace sd := sd2 sz2 df2 sd
              clear df2 sz2 old2 new2 hb
              clear x193
              refine wl_onew (.eq (.int .i64 ((0 : Nat) : Int))) (want_of rfl rfl x192) 195 rfl (by rw [sd.1]; decide) (st_lenis (.tmp 194) rfl x194) ?_
              intro f87 w87 df2 sz2 old2 new2 hb
              replace bl0 := bl
              replace x0 := tr old2 x0 rfl
              replace x1 := tr old2 x1 rfl
              replace x5 := tr old2 x5 rfl
              replace x6 := tr old2 x6 rfl
              replace x10 := tr old2 x10 rfl
              replace x192 := tr old2 x192 rfl
              replace x194 := f_at (old2 194 rfl) (Fk.mono _ _ _ _ x194 hb)
              have x195 := Fk.e new2
              replace hvb := Fk.mono _ _ _ _ hvb hb
              replace hd := HD.below hd hb
              replace hW := Rs.below hW hb
              replace hA := IsX.below hA hb
              replace hQ := MBs.below hQ hb
              replace hWm := MBs.below hWm hb
              replace bl := bgo bl hb
              replace sd := sd2 sz2 df2 sd
              clear df2 sz2 old2 new2 hb
              clear x194
              refine wl_onew (.eq (.bool true)) (want_of rfl rfl x192) 196 rfl (by rw [sd.1]; decide) (st_eqi 3 (.tmp 195) (.const (.int .i64 0)) rfl .i64 (((0 : Nat) : Int)) (0) x195 rfl _ (by simp)) ?_
              intro f88 w88 df2 sz2 old2 new2 hb
              replace bl0 := bl
              replace x0 := tr old2 x0 rfl
              replace x1 := tr old2 x1 rfl
              replace x5 := tr old2 x5 rfl
              replace x6 := tr old2 x6 rfl
              replace x10 := tr old2 x10 rfl
              replace x192 := tr old2 x192 rfl
              replace x195 := tr old2 x195 rfl
              have x196 := Fk.e new2
              replace hvb := Fk.mono _ _ _ _ hvb hb
              replace hd := HD.below hd hb
              replace hW := Rs.below hW hb
              replace hA := IsX.below hA hb
              replace hQ := MBs.below hQ hb
              replace hWm := MBs.below hWm hb
              replace bl := bgo bl hb
              replace sd := sd2 sz2 df2 sd
              clear df2 sz2 old2 new2 hb
              clear x195
              refine wl_one (.eq (.bool true)) rfl 197 rfl (by rw [sd.1]; decide) (st_pick_t (.tmp 192) (.tmp 196) (.const (.bool false)) rfl x192 x196) ?_
              intro f89 w89 df2 sz2 old2 new2 hb
              replace x0 := tr old2 x0 rfl
              replace x1 := tr old2 x1 rfl
              replace x5 := tr old2 x5 rfl
              replace x6 := tr old2 x6 rfl
              replace x10 := tr old2 x10 rfl
              replace x192 := tr old2 x192 rfl
              replace x196 := tr old2 x196 rfl
              have x197 := Fk.e new2
              replace hvb := Fk.mono _ _ _ _ hvb hb
              replace hd := HD.below hd hb
              replace hW := Rs.below hW hb
              replace hA := IsX.below hA hb
              replace hQ := MBs.below hQ hb
              replace hWm := MBs.below hWm hb
              replace bl := bgo bl hb
              replace sd := sd2 sz2 df2 sd
              clear df2 sz2 old2 new2 hb
              clear x192
              clear x196
              refine wl_one (.eq (.bool true)) rfl 198 rfl (by rw [sd.1]; decide) (st_move (.tmp 197) rfl x197) ?_
              intro f90 w90 df2 sz2 old2 new2 hb
              replace x0 := tr old2 x0 rfl
              replace x1 := tr old2 x1 rfl
              replace x5 := tr old2 x5 rfl
              replace x6 := tr old2 x6 rfl
              replace x10 := tr old2 x10 rfl
              replace x197 := tr old2 x197 rfl
              have x198 := Fk.e new2
              replace hvb := Fk.mono _ _ _ _ hvb hb
              replace hd := HD.below hd hb
              replace hW := Rs.below hW hb
              replace hA := IsX.below hA hb
              replace hQ := MBs.below hQ hb
              replace hWm := MBs.below hWm hb
              replace bl := bgo bl hb
              replace sd := sd2 sz2 df2 sd
              clear df2 sz2 old2 new2 hb
              clear x197
              refine wl_onew (.eq (.bool true)) (want_of rfl rfl x198) 199 rfl (by rw [sd.1]; decide) (st_call 5 (.func 5) _ _ #[] rfl rfl rfl Tryz.enter5 (awake12 _)) ?_
              intro f91 w91 df2 sz2 old2 new2 hb
              replace bl0 := bl
              replace x0 := tr old2 x0 rfl
              replace x1 := tr old2 x1 rfl
              replace x5 := tr old2 x5 rfl
              replace x6 := tr old2 x6 rfl
              replace x10 := tr old2 x10 rfl
              replace x198 := tr old2 x198 rfl
              have x199 := Fk.e new2
              replace hvb := Fk.mono _ _ _ _ hvb hb
              replace hd := HD.below hd hb
              replace hW := Rs.below hW hb
              replace hA := IsX.below hA hb
              replace hQ := MBs.below hQ hb
              replace hWm := MBs.below hWm hb
              replace bl := bgo bl hb
              replace sd := sd2 sz2 df2 sd
              clear df2 sz2 old2 new2 hb
              refine wl_one (.eq (.bool true)) rfl 200 rfl (by rw [sd.1]; decide) (st_pick_t (.tmp 198) (.tmp 199) (.const (.bool false)) rfl x198 x199) ?_
              intro f92 w92 df2 sz2 old2 new2 hb
              replace x0 := tr old2 x0 rfl
              replace x1 := tr old2 x1 rfl
              replace x5 := tr old2 x5 rfl
              replace x6 := tr old2 x6 rfl
              replace x10 := tr old2 x10 rfl
              replace x198 := tr old2 x198 rfl
              replace x199 := tr old2 x199 rfl
              have x200 := Fk.e new2
              replace hvb := Fk.mono _ _ _ _ hvb hb
              replace hd := HD.below hd hb
              replace hW := Rs.below hW hb
              replace hA := IsX.below hA hb
              replace hQ := MBs.below hQ hb
              replace hWm := MBs.below hWm hb
              replace bl := bgo bl hb
              replace sd := sd2 sz2 df2 sd
              clear df2 sz2 old2 new2 hb
              clear x198
              clear x199
              refine wl_one (.eq (.bool true)) rfl 4 rfl (by rw [sd.1]; decide) (st_assign (.tmp 200) rfl x200) ?_
              intro f93 w93 df2 sz2 old2 new2 hb
              replace x0 := tr old2 x0 rfl
              replace x1 := tr old2 x1 rfl
              replace x5 := tr old2 x5 rfl
              replace x6 := tr old2 x6 rfl
              replace x10 := tr old2 x10 rfl
              replace x200 := tr old2 x200 rfl
              have x4 := Fk.e new2
              replace hvb := Fk.mono _ _ _ _ hvb hb
              replace hd := HD.below hd hb
              replace hW := Rs.below hW hb
              replace hA := IsX.below hA hb
              replace hQ := MBs.below hQ hb
              replace hWm := MBs.below hWm hb
              replace bl := bgo bl hb
              replace sd := sd2 sz2 df2 sd
              clear df2 sz2 old2 new2 hb
              refine wpList_nil ?_
              clear x200
              show Code.wp _ _ _ _ _
              refine wp_ret ?_
              repeat (first | with_reducible refine then_ret ?_ | with_reducible refine block_ret ?_)
              exact bodyPost_ret (v := .bool true) (ret_slot rfl f93 _ x4 _ _) sd.2 ⟨rfl, bl⟩
            refine wr_s [] (by rw [sd.1]; kernel_rfl) trivial ?_
            intro f55 w55 A hb
            replace x0 := A.t x0 rfl
            replace x1 := A.t x1 rfl
            replace x5 := A.t x5 rfl
            replace x6 := A.t x6 rfl
            replace x10 := A.t x10 rfl
            replace x16 := A.t x16 rfl
            replace x17 := A.t x17 rfl
            replace x18 := A.t x18 rfl
            replace x19 := A.t x19 rfl
            replace x20 := A.t x20 rfl
            replace hvb := Fk.mono _ _ _ _ hvb hb
            replace hd := HD.below hd hb
            replace hW := Rs.below hW hb
            replace hA := IsX.below hA hb
            replace hQ := MBs.below hQ hb
            replace hWm := MBs.below hWm hb
            replace bl := bgo bl hb
            replace sd := A.sd sd
            clear A hb
            refine wl_one (.eq (.bool true)) rfl 164 rfl (by rw [sd.1]; decide) (st_move (.tmp 17) rfl x17) ?_
            intro f56 w56 df2 sz2 old2 new2 hb
            replace x0 := tr old2 x0 rfl
            replace x1 := tr old2 x1 rfl
            replace x5 := tr old2 x5 rfl
            replace x6 := tr old2 x6 rfl
            replace x10 := tr old2 x10 rfl
            replace x16 := tr old2 x16 rfl
            replace x17 := tr old2 x17 rfl
            replace x18 := tr old2 x18 rfl
            replace x19 := tr old2 x19 rfl
            replace x20 := tr old2 x20 rfl
            have x164 := Fk.e new2
            replace hvb := Fk.mono _ _ _ _ hvb hb
            replace hd := HD.below hd hb
            replace hW := Rs.below hW hb
            replace hA := IsX.below hA hb
            replace hQ := MBs.below hQ hb
            replace hWm := MBs.below hWm hb
            replace bl := bgo bl hb
            replace sd := sd2 sz2 df2 sd
            clear df2 sz2 old2 new2 hb
            clear x17
            refine wl_one (.eq (.bool true)) rfl 165 rfl (by rw [sd.1]; decide) (st_move (.tmp 164) rfl x164) ?_
            intro f57 w57 df2 sz2 old2 new2 hb
            replace x0 := tr old2 x0 rfl
            replace x1 := tr old2 x1 rfl
            replace x5 := tr old2 x5 rfl
            replace x6 := tr old2 x6 rfl
            replace x10 := tr old2 x10 rfl
            replace x16 := tr old2 x16 rfl
            replace x18 := tr old2 x18 rfl
            replace x19 := tr old2 x19 rfl
            replace x20 := tr old2 x20 rfl
            replace x164 := tr old2 x164 rfl
            have x165 := Fk.e new2
            replace hvb := Fk.mono _ _ _ _ hvb hb
            replace hd := HD.below hd hb
            replace hW := Rs.below hW hb
            replace hA := IsX.below hA hb
            replace hQ := MBs.below hQ hb
            replace hWm := MBs.below hWm hb
            replace bl := bgo bl hb
            replace sd := sd2 sz2 df2 sd
            clear df2 sz2 old2 new2 hb
            clear x164
            refine wl_onew (.eq (vQ)) (want_of rfl rfl x165) 166 rfl (by rw [sd.1]; decide) (st_move (.tmp 16) rfl x16) ?_
            intro f58 w58 df2 sz2 old2 new2 hb
            replace bl0 := bl
            replace x0 := tr old2 x0 rfl
            replace x1 := tr old2 x1 rfl
            replace x5 := tr old2 x5 rfl
            replace x6 := tr old2 x6 rfl
            replace x10 := tr old2 x10 rfl
            replace x16 := tr old2 x16 rfl
            replace x18 := tr old2 x18 rfl
            replace x19 := tr old2 x19 rfl
            replace x20 := tr old2 x20 rfl
            replace x165 := tr old2 x165 rfl
            have x166 := Fk.e new2
            replace hvb := Fk.mono _ _ _ _ hvb hb
            replace hd := HD.below hd hb
            replace hW := Rs.below hW hb
            replace hA := IsX.below hA hb
            replace hQ := MBs.below hQ hb
            replace hWm := MBs.below hWm hb
            replace bl := bgo bl hb
            replace sd := sd2 sz2 df2 sd
            clear df2 sz2 old2 new2 hb
            clear x16
            refine wl_onew (.eq (.slice (some ⟨gW, 0, none⟩) (4) (4))) (want_of rfl rfl x165) 167 rfl (by rw [sd.1]; decide) (st_move (.tmp 6) rfl x6) ?_
            intro f59 w59 df2 sz2 old2 new2 hb
            replace bl0 := bl
            replace x0 := tr old2 x0 rfl
            replace x1 := tr old2 x1 rfl
            replace x5 := tr old2 x5 rfl
            replace x6 := tr old2 x6 rfl
            replace x10 := tr old2 x10 rfl
            replace x18 := tr old2 x18 rfl
            replace x19 := tr old2 x19 rfl
            replace x20 := tr old2 x20 rfl
            replace x165 := tr old2 x165 rfl
            replace x166 := tr old2 x166 rfl
            have x167 := Fk.e new2
            replace hvb := Fk.mono _ _ _ _ hvb hb
            replace hd := HD.below hd hb
            replace hW := Rs.below hW hb
            replace hA := IsX.below hA hb
            replace hQ := MBs.below hQ hb
            replace hWm := MBs.below hWm hb
            replace bl := bgo bl hb
            replace sd := sd2 sz2 df2 sd
            clear df2 sz2 old2 new2 hb
            refine wl_onew (.eq (.bool true)) (want_of rfl rfl x165) 168 rfl (by rw [sd.1]; decide) (st_call 13 (.func 13) _ _ #[vQ, .slice (some ⟨gW, 0, none⟩) (4) (4)] rfl rfl (arg2 x166 x167) Tryz.enter13 (by have h9 := same_mb hQ hWm (by omega); rw [decide_eq_true rfl] at h9; exact h9)) ?_
            intro f60 w60 df2 sz2 old2 new2 hb
            replace bl0 := bl
            replace x0 := tr old2 x0 rfl
            replace x1 := tr old2 x1 rfl
            replace x5 := tr old2 x5 rfl
            replace x6 := tr old2 x6 rfl
            replace x10 := tr old2 x10 rfl
            replace x18 := tr old2 x18 rfl
            replace x19 := tr old2 x19 rfl
            replace x20 := tr old2 x20 rfl
            replace x165 := tr old2 x165 rfl
            replace x166 := tr old2 x166 rfl
            replace x167 := tr old2 x167 rfl
            have x168 := Fk.e new2
            replace hvb := Fk.mono _ _ _ _ hvb hb
            replace hd := HD.below hd hb
            replace hW := Rs.below hW hb
            replace hA := IsX.below hA hb
            replace hQ := MBs.below hQ hb
            replace hWm := MBs.below hWm hb
            replace bl := bgo bl hb
            replace sd := sd2 sz2 df2 sd
            clear df2 sz2 old2 new2 hb
            clear x166
            clear x167
            refine wl_one (.eq (.bool true)) rfl 169 rfl (by rw [sd.1]; decide) (st_pick_t (.tmp 165) (.tmp 168) (.const (.bool false)) rfl x165 x168) ?_
            intro f61 w61 df2 sz2 old2 new2 hb
            replace x0 := tr old2 x0 rfl
            replace x1 := tr old2 x1 rfl
            replace x5 := tr old2 x5 rfl
            replace x6 := tr old2 x6 rfl
            replace x10 := tr old2 x10 rfl
            replace x18 := tr old2 x18 rfl
            replace x19 := tr old2 x19 rfl
            replace x20 := tr old2 x20 rfl
            replace x165 := tr old2 x165 rfl
            replace x168 := tr old2 x168 rfl
            have x169 := Fk.e new2
            replace hvb := Fk.mono _ _ _ _ hvb hb
            replace hd := HD.below hd hb
            replace hW := Rs.below hW hb
            replace hA := IsX.below hA hb
            replace hQ := MBs.below hQ hb
            replace hWm := MBs.below hWm hb
            replace bl := bgo bl hb
            replace sd := sd2 sz2 df2 sd
            clear df2 sz2 old2 new2 hb
            clear x165
            clear x168
            refine wl_one (.eq (.bool true)) rfl 170 rfl (by rw [sd.1]; decide) (st_move (.tmp 169) rfl x169) ?_
            intro f62 w62 df2 sz2 old2 new2 hb
            replace x0 := tr old2 x0 rfl
            replace x1 := tr old2 x1 rfl
            replace x5 := tr old2 x5 rfl
            replace x6 := tr old2 x6 rfl
            replace x10 := tr old2 x10 rfl
            replace x18 := tr old2 x18 rfl
            replace x19 := tr old2 x19 rfl
            replace x20 := tr old2 x20 rfl
            replace x169 := tr old2 x169 rfl
            have x170 := Fk.e new2
            replace hvb := Fk.mono _ _ _ _ hvb hb
            replace hd := HD.below hd hb
            replace hW := Rs.below hW hb
            replace hA := IsX.below hA hb
            replace hQ := MBs.below hQ hb
            replace hWm := MBs.below hWm hb
            replace bl := bgo bl hb
            replace sd := sd2 sz2 df2 sd
            clear df2 sz2 old2 new2 hb
            clear x169
            refine wl_onew (.eq (.int .i64 0)) (want_of rfl rfl x170) 171 rfl (by rw [sd.1]; decide) (st_move (.tmp 19) rfl x19) ?_
            intro f63 w63 df2 sz2 old2 new2 hb
            replace bl0 := bl
            replace x0 := tr old2 x0 rfl
            replace x1 := tr old2 x1 rfl
            replace x5 := tr old2 x5 rfl
            replace x6 := tr old2 x6 rfl
            replace x10 := tr old2 x10 rfl
            replace x18 := tr old2 x18 rfl
            replace x19 := tr old2 x19 rfl
            replace x20 := tr old2 x20 rfl
            replace x170 := tr old2 x170 rfl
            have x171 := Fk.e new2
            replace hvb := Fk.mono _ _ _ _ hvb hb
            replace hd := HD.below hd hb
            replace hW := Rs.below hW hb
            replace hA := IsX.below hA hb
            replace hQ := MBs.below hQ hb
            replace hWm := MBs.below hWm hb
            replace bl := bgo bl hb
            replace sd := sd2 sz2 df2 sd
            clear df2 sz2 old2 new2 hb
            clear x19
            refine wl_onew (.eq (.bool true)) (want_of rfl rfl x170) 172 rfl (by rw [sd.1]; decide) (st_eqi 27 (.tmp 171) (.const (.int .i64 0)) rfl .i64 (0) (0) x171 rfl _ (by simp)) ?_
            intro f64 w64 df2 sz2 old2 new2 hb
            replace bl0 := bl
            replace x0 := tr old2 x0 rfl
            replace x1 := tr old2 x1 rfl
            replace x5 := tr old2 x5 rfl
            replace x6 := tr old2 x6 rfl
            replace x10 := tr old2 x10 rfl
            replace x18 := tr old2 x18 rfl
            replace x20 := tr old2 x20 rfl
            replace x170 := tr old2 x170 rfl
            replace x171 := tr old2 x171 rfl
            have x172 := Fk.e new2
            replace hvb := Fk.mono _ _ _ _ hvb hb
            replace hd := HD.below hd hb
            replace hW := Rs.below hW hb
            replace hA := IsX.below hA hb
            replace hQ := MBs.below hQ hb
            replace hWm := MBs.below hWm hb
            replace bl := bgo bl hb
            replace sd := sd2 sz2 df2 sd
            clear df2 sz2 old2 new2 hb
            clear x171
            refine wl_one (.eq (.bool true)) rfl 173 rfl (by rw [sd.1]; decide) (st_pick_t (.tmp 170) (.tmp 172) (.const (.bool false)) rfl x170 x172) ?_
            intro f65 w65 df2 sz2 old2 new2 hb
            replace x0 := tr old2 x0 rfl
            replace x1 := tr old2 x1 rfl
            replace x5 := tr old2 x5 rfl
            replace x6 := tr old2 x6 rfl
            replace x10 := tr old2 x10 rfl
            replace x18 := tr old2 x18 rfl
            replace x20 := tr old2 x20 rfl
            replace x170 := tr old2 x170 rfl
            replace x172 := tr old2 x172 rfl
            have x173 := Fk.e new2
            replace hvb := Fk.mono _ _ _ _ hvb hb
            replace hd := HD.below hd hb
            replace hW := Rs.below hW hb
            replace hA := IsX.below hA hb
            replace hQ := MBs.below hQ hb
            replace hWm := MBs.below hWm hb
            replace bl := bgo bl hb
            replace sd := sd2 sz2 df2 sd
            clear df2 sz2 old2 new2 hb
            clear x170
            clear x172
            refine wl_one (.eq (.bool true)) rfl 174 rfl (by rw [sd.1]; decide) (st_move (.tmp 173) rfl x173) ?_
            intro f66 w66 df2 sz2 old2 new2 hb
            replace x0 := tr old2 x0 rfl
            replace x1 := tr old2 x1 rfl
            replace x5 := tr old2 x5 rfl
            replace x6 := tr old2 x6 rfl
            replace x10 := tr old2 x10 rfl
            replace x18 := tr old2 x18 rfl
            replace x20 := tr old2 x20 rfl
            replace x173 := tr old2 x173 rfl
            have x174 := Fk.e new2
            replace hvb := Fk.mono _ _ _ _ hvb hb
            replace hd := HD.below hd hb
            replace hW := Rs.below hW hb
            replace hA := IsX.below hA hb
            replace hQ := MBs.below hQ hb
            replace hWm := MBs.below hWm hb
            replace bl := bgo bl hb
            replace sd := sd2 sz2 df2 sd
            clear df2 sz2 old2 new2 hb
            clear x173
            refine wl_onew (.eq (.slice Ab bb.length Cb)) (want_of rfl rfl x174) 175 rfl (by rw [sd.1]; decide) (st_move (.tmp 18) rfl x18) ?_
            intro f67 w67 df2 sz2 old2 new2 hb
            replace bl0 := bl
            replace x0 := tr old2 x0 rfl
            replace x1 := tr old2 x1 rfl
            replace x5 := tr old2 x5 rfl
            replace x6 := tr old2 x6 rfl
            replace x10 := tr old2 x10 rfl
            replace x18 := tr old2 x18 rfl
            replace x20 := tr old2 x20 rfl
            replace x174 := tr old2 x174 rfl
            have x175 := Fk.e new2
            replace hvb := Fk.mono _ _ _ _ hvb hb
            replace hd := HD.below hd hb
            replace hW := Rs.below hW hb
            replace hA := IsX.below hA hb
            replace hQ := MBs.below hQ hb
            replace hWm := MBs.below hWm hb
            replace bl := bgo bl hb
            replace sd := sd2 sz2 df2 sd
            clear df2 sz2 old2 new2 hb
            refine wl_onew (.eq (.string (str (bb)))) (want_of rfl rfl x174) 176 rfl (by rw [sd.1]; decide) (st_stra (.tmp 175) rfl (fk_val x175 hvb)) ?_
            intro f68 w68 df2 sz2 old2 new2 hb
            replace bl0 := bl
            replace x0 := tr old2 x0 rfl
            replace x1 := tr old2 x1 rfl
            replace x5 := tr old2 x5 rfl
            replace x6 := tr old2 x6 rfl
            replace x10 := tr old2 x10 rfl
            replace x18 := tr old2 x18 rfl
            replace x20 := tr old2 x20 rfl
            replace x174 := tr old2 x174 rfl
            replace x175 := tr old2 x175 rfl
            have x176 := Fk.e new2
            replace hvb := Fk.mono _ _ _ _ hvb hb
            replace hd := HD.below hd hb
            replace hW := Rs.below hW hb
            replace hA := IsX.below hA hb
            replace hQ := MBs.below hQ hb
            replace hWm := MBs.below hWm hb
            replace bl := bgo bl hb
            replace sd := sd2 sz2 df2 sd
            clear df2 sz2 old2 new2 hb
            clear x175
            refine wl_onew (.eq (.string (str (hdz 64 [])))) (want_of rfl rfl x174) 177 rfl (by rw [sd.1]; decide) (st_move (.tmp 20) rfl x20) ?_
            intro f69 w69 df2 sz2 old2 new2 hb
            replace bl0 := bl
            replace x0 := tr old2 x0 rfl
            replace x1 := tr old2 x1 rfl
            replace x5 := tr old2 x5 rfl
            replace x6 := tr old2 x6 rfl
            replace x10 := tr old2 x10 rfl
            replace x18 := tr old2 x18 rfl
            replace x20 := tr old2 x20 rfl
            replace x174 := tr old2 x174 rfl
            replace x176 := tr old2 x176 rfl
            have x177 := Fk.e new2
            replace hvb := Fk.mono _ _ _ _ hvb hb
            replace hd := HD.below hd hb
            replace hW := Rs.below hW hb
            replace hA := IsX.below hA hb
            replace hQ := MBs.below hQ hb
            replace hWm := MBs.below hWm hb
            replace bl := bgo bl hb
            replace sd := sd2 sz2 df2 sd
            clear df2 sz2 old2 new2 hb
            clear x20
            refine wl_onew (.eq (.bool true)) (want_of rfl rfl x174) 178 rfl (by rw [sd.1]; decide) (st_eqs (.tmp 176) (.tmp 177) rfl (str (bb)) (str (hdz 64 [])) x176 x177 _ (by rw [eq_comm, decide_eq_true_iff, hcas])) ?_
            intro f70 w70 df2 sz2 old2 new2 hb
            replace bl0 := bl
            replace x0 := tr old2 x0 rfl
            replace x1 := tr old2 x1 rfl
            replace x5 := tr old2 x5 rfl
            replace x6 := tr old2 x6 rfl
            replace x10 := tr old2 x10 rfl
            replace x18 := tr old2 x18 rfl
            replace x174 := tr old2 x174 rfl
            replace x176 := tr old2 x176 rfl
            replace x177 := tr old2 x177 rfl
            have x178 := Fk.e new2
            replace hvb := Fk.mono _ _ _ _ hvb hb
            replace hd := HD.below hd hb
            replace hW := Rs.below hW hb
            replace hA := IsX.below hA hb
            replace hQ := MBs.below hQ hb
            replace hWm := MBs.below hWm hb
            replace bl := bgo bl hb
            replace sd := sd2 sz2 df2 sd
            clear df2 sz2 old2 new2 hb
            clear x176
            clear x177
            refine wl_onew (.eq (.bool true)) (want_of rfl rfl x174) 179 rfl (by rw [sd.1]; decide) (st_move (.tmp 178) rfl x178) ?_
            intro f71 w71 df2 sz2 old2 new2 hb
            replace bl0 := bl
            replace x0 := tr old2 x0 rfl
            replace x1 := tr old2 x1 rfl
            replace x5 := tr old2 x5 rfl
            replace x6 := tr old2 x6 rfl
            replace x10 := tr old2 x10 rfl
            replace x18 := tr old2 x18 rfl
            replace x174 := tr old2 x174 rfl
            replace x178 := tr old2 x178 rfl
            have x179 := Fk.e new2
            replace hvb := Fk.mono _ _ _ _ hvb hb
            replace hd := HD.below hd hb
            replace hW := Rs.below hW hb
            replace hA := IsX.below hA hb
            replace hQ := MBs.below hQ hb
            replace hWm := MBs.below hWm hb
            replace bl := bgo bl hb
            replace sd := sd2 sz2 df2 sd
            clear df2 sz2 old2 new2 hb
            clear x178
            refine wl_skipw (unwant_of rfl rfl x179 rfl) 180 rfl ?_
            intro f72 df2 sz2 old2
            replace x0 := tr old2 x0 rfl
            replace x1 := tr old2 x1 rfl
            replace x5 := tr old2 x5 rfl
            replace x6 := tr old2 x6 rfl
            replace x10 := tr old2 x10 rfl
            replace x18 := tr old2 x18 rfl
            replace x174 := tr old2 x174 rfl
            replace x179 := tr old2 x179 rfl
            replace sd := sd2 sz2 df2 sd
            clear df2 sz2 old2
            refine wl_skipw (unwant_of rfl rfl x179 rfl) 181 rfl ?_
            intro f73 df2 sz2 old2
            replace x0 := tr old2 x0 rfl
            replace x1 := tr old2 x1 rfl
            replace x5 := tr old2 x5 rfl
            replace x6 := tr old2 x6 rfl
            replace x10 := tr old2 x10 rfl
            replace x18 := tr old2 x18 rfl
            replace x174 := tr old2 x174 rfl
            replace x179 := tr old2 x179 rfl
            replace sd := sd2 sz2 df2 sd
            clear df2 sz2 old2
            refine wl_skipw (unwant_of rfl rfl x179 rfl) 182 rfl ?_
            intro f74 df2 sz2 old2
            replace x0 := tr old2 x0 rfl
            replace x1 := tr old2 x1 rfl
            replace x5 := tr old2 x5 rfl
            replace x6 := tr old2 x6 rfl
            replace x10 := tr old2 x10 rfl
            replace x18 := tr old2 x18 rfl
            replace x174 := tr old2 x174 rfl
            replace x179 := tr old2 x179 rfl
            replace sd := sd2 sz2 df2 sd
            clear df2 sz2 old2
            refine wl_skipu (unwant_of rfl rfl x179 rfl) 183 rfl (by rw [sd.1]; decide) ?_
            intro f75 df2 sz2 old2 und2
            replace x0 := tr old2 x0 rfl
            replace x1 := tr old2 x1 rfl
            replace x5 := tr old2 x5 rfl
            replace x6 := tr old2 x6 rfl
            replace x10 := tr old2 x10 rfl
            replace x18 := tr old2 x18 rfl
            replace x174 := tr old2 x174 rfl
            replace x179 := tr old2 x179 rfl
            replace sd := sd2 sz2 df2 sd
            clear df2 sz2 old2
            have x183 := und2
            clear und2
            refine wl_skipw (unwant_undef rfl rfl x183) 184 rfl ?_
            intro f76 df2 sz2 old2
            replace x0 := tr old2 x0 rfl
            replace x1 := tr old2 x1 rfl
            replace x5 := tr old2 x5 rfl
            replace x6 := tr old2 x6 rfl
            replace x10 := tr old2 x10 rfl
            replace x18 := tr old2 x18 rfl
            replace x174 := tr old2 x174 rfl
            replace x179 := tr old2 x179 rfl
            replace x183 := tr old2 x183 rfl
            replace sd := sd2 sz2 df2 sd
            clear df2 sz2 old2
            clear x18
            refine wl_skipw (unwant_undef rfl rfl x183) 185 rfl ?_
            intro f77 df2 sz2 old2
            replace x0 := tr old2 x0 rfl
            replace x1 := tr old2 x1 rfl
            replace x5 := tr old2 x5 rfl
            replace x6 := tr old2 x6 rfl
            replace x10 := tr old2 x10 rfl
            replace x174 := tr old2 x174 rfl
            replace x179 := tr old2 x179 rfl
            replace x183 := tr old2 x183 rfl
            replace sd := sd2 sz2 df2 sd
            clear df2 sz2 old2
            refine wl_skipw (unwant_undef rfl rfl x183) 186 rfl ?_
            intro f78 df2 sz2 old2
            replace x0 := tr old2 x0 rfl
            replace x1 := tr old2 x1 rfl
            replace x5 := tr old2 x5 rfl
            replace x6 := tr old2 x6 rfl
            replace x10 := tr old2 x10 rfl
            replace x174 := tr old2 x174 rfl
            replace x179 := tr old2 x179 rfl
            replace x183 := tr old2 x183 rfl
            replace sd := sd2 sz2 df2 sd
            clear df2 sz2 old2
            refine wl_skipw (unwant_undef rfl rfl x183) 187 rfl ?_
            intro f79 df2 sz2 old2
            replace x0 := tr old2 x0 rfl
            replace x1 := tr old2 x1 rfl
            replace x5 := tr old2 x5 rfl
            replace x6 := tr old2 x6 rfl
            replace x10 := tr old2 x10 rfl
            replace x174 := tr old2 x174 rfl
            replace x179 := tr old2 x179 rfl
            replace x183 := tr old2 x183 rfl
            replace sd := sd2 sz2 df2 sd
            clear df2 sz2 old2
            refine wl_skipw (unwant_undef rfl rfl x183) 188 rfl ?_
            intro f80 df2 sz2 old2
            replace x0 := tr old2 x0 rfl
            replace x1 := tr old2 x1 rfl
            replace x5 := tr old2 x5 rfl
            replace x6 := tr old2 x6 rfl
            replace x10 := tr old2 x10 rfl
            replace x174 := tr old2 x174 rfl
            replace x179 := tr old2 x179 rfl
            replace x183 := tr old2 x183 rfl
            replace sd := sd2 sz2 df2 sd
            clear df2 sz2 old2
            refine wl_skipw (unwant_of rfl rfl x179 rfl) 189 rfl ?_
            intro f81 df2 sz2 old2
            replace x0 := tr old2 x0 rfl
            replace x1 := tr old2 x1 rfl
            replace x5 := tr old2 x5 rfl
            replace x6 := tr old2 x6 rfl
            replace x10 := tr old2 x10 rfl
            replace x174 := tr old2 x174 rfl
            replace x179 := tr old2 x179 rfl
            replace x183 := tr old2 x183 rfl
            replace sd := sd2 sz2 df2 sd
            clear df2 sz2 old2
            clear x183
            refine wl_onew (.eq (.bool true)) (want_of rfl rfl x174) 190 rfl (by rw [sd.1]; decide) (st_pick_t (.tmp 179) (.const (.bool true)) (.tmp 189) rfl x179 rfl) ?_
            intro f82 w82 df2 sz2 old2 new2 hb
            replace bl0 := bl
            replace x0 := tr old2 x0 rfl
            replace x1 := tr old2 x1 rfl
            replace x5 := tr old2 x5 rfl
            replace x6 := tr old2 x6 rfl
            replace x10 := tr old2 x10 rfl
            replace x174 := tr old2 x174 rfl
            replace x179 := tr old2 x179 rfl
            have x190 := Fk.e new2
            replace hvb := Fk.mono _ _ _ _ hvb hb
            replace hd := HD.below hd hb
            replace hW := Rs.below hW hb
            replace hA := IsX.below hA hb
            replace hQ := MBs.below hQ hb
            replace hWm := MBs.below hWm hb
            replace bl := bgo bl hb
            replace sd := sd2 sz2 df2 sd
            clear df2 sz2 old2 new2 hb
            clear x179
            refine wl_one (.eq (.bool true)) rfl 191 rfl (by rw [sd.1]; decide) (st_pick_t (.tmp 174) (.tmp 190) (.const (.bool false)) rfl x174 x190) ?_
            intro f83 w83 df2 sz2 old2 new2 hb
            replace x0 := tr old2 x0 rfl
            replace x1 := tr old2 x1 rfl
            replace x5 := tr old2 x5 rfl
            replace x6 := tr old2 x6 rfl
            replace x10 := tr old2 x10 rfl
            replace x174 := tr old2 x174 rfl
            replace x190 := tr old2 x190 rfl
            have x191 := Fk.e new2
            replace hvb := Fk.mono _ _ _ _ hvb hb
            replace hd := HD.below hd hb
            replace hW := Rs.below hW hb
            replace hA := IsX.below hA hb
            replace hQ := MBs.below hQ hb
            replace hWm := MBs.below hWm hb
            replace bl := bgo bl hb
            replace sd := sd2 sz2 df2 sd
            clear df2 sz2 old2 new2 hb
            clear x174
            clear x190
            refine wl_one (.eq (.bool true)) rfl 192 rfl (by rw [sd.1]; decide) (st_move (.tmp 191) rfl x191) ?_
            intro f84 w84 df2 sz2 old2 new2 hb
            replace x0 := tr old2 x0 rfl
            replace x1 := tr old2 x1 rfl
            replace x5 := tr old2 x5 rfl
            replace x6 := tr old2 x6 rfl
            replace x10 := tr old2 x10 rfl
            replace x191 := tr old2 x191 rfl
            have x192 := Fk.e new2
            replace hvb := Fk.mono _ _ _ _ hvb hb
            replace hd := HD.below hd hb
            replace hW := Rs.below hW hb
            replace hA := IsX.below hA hb
            replace hQ := MBs.below hQ hb
            replace hWm := MBs.below hWm hb
            replace bl := bgo bl hb
            replace sd := sd2 sz2 df2 sd
            clear df2 sz2 old2 new2 hb
            clear x191
            refine wl_onew (.eq (.pointer (some ⟨gd, 0, none⟩))) (want_of rfl rfl x192) 193 rfl (by rw [sd.1]; decide) (st_move (.tmp 5) rfl x5) ?_
            intro f85 w85 df2 sz2 old2 new2 hb
            replace bl0 := bl
            replace x0 := tr old2 x0 rfl
            replace x1 := tr old2 x1 rfl
            replace x5 := tr old2 x5 rfl
            replace x6 := tr old2 x6 rfl
            replace x10 := tr old2 x10 rfl
            replace x192 := tr old2 x192 rfl
            have x193 := Fk.e new2
            replace hvb := Fk.mono _ _ _ _ hvb hb
            replace hd := HD.below hd hb
            replace hW := Rs.below hW hb
            replace hA := IsX.below hA hb
            replace hQ := MBs.below hQ hb
            replace hWm := MBs.below hWm hb
            replace bl := bgo bl hb
            replace sd := sd2 sz2 df2 sd
            clear df2 sz2 old2 new2 hb
            refine wl_onew (.is ([] : List Int)) (want_of rfl rfl x192) 194 rfl (by rw [sd.1]; decide) (st_call 14 (.func 14) _ _ #[.pointer (some ⟨gd, 0, none⟩)] rfl rfl (one_arg x193) Tryz.enter14 (cached_ok hd hca9)) ?_
            intro f86 w86 df2 sz2 old2 new2 hb
            replace bl0 := bl
            replace x0 := tr old2 x0 rfl
            replace x1 := tr old2 x1 rfl
            replace x5 := tr old2 x5 rfl
            replace x6 := tr old2 x6 rfl
            replace x10 := tr old2 x10 rfl
            replace x192 := tr old2 x192 rfl
            replace x193 := tr old2 x193 rfl
            have x194 : Fk.f (.is ([] : List Int)) (f86.eval (.tmp 194)) w86 := new2
            replace hvb := Fk.mono _ _ _ _ hvb hb
            replace hd := HD.below hd hb
            replace hW := Rs.below hW hb
            replace hA := IsX.below hA hb
            replace hQ := MBs.below hQ hb
            replace hWm := MBs.below hWm hb
            replace bl := bgo bl hb
            replace sd := sd2 sz2 df2 sd
            clear df2 sz2 old2 new2 hb
            clear x193
            refine wl_onew (.eq (.int .i64 ((0 : Nat) : Int))) (want_of rfl rfl x192) 195 rfl (by rw [sd.1]; decide) (st_lenis (.tmp 194) rfl x194) ?_
            intro f87 w87 df2 sz2 old2 new2 hb
            replace bl0 := bl
            replace x0 := tr old2 x0 rfl
            replace x1 := tr old2 x1 rfl
            replace x5 := tr old2 x5 rfl
            replace x6 := tr old2 x6 rfl
            replace x10 := tr old2 x10 rfl
            replace x192 := tr old2 x192 rfl
            replace x194 := f_at (old2 194 rfl) (Fk.mono _ _ _ _ x194 hb)
            have x195 := Fk.e new2
            replace hvb := Fk.mono _ _ _ _ hvb hb
            replace hd := HD.below hd hb
            replace hW := Rs.below hW hb
            replace hA := IsX.below hA hb
            replace hQ := MBs.below hQ hb
            replace hWm := MBs.below hWm hb
            replace bl := bgo bl hb
            replace sd := sd2 sz2 df2 sd
            clear df2 sz2 old2 new2 hb
            clear x194
            refine wl_onew (.eq (.bool true)) (want_of rfl rfl x192) 196 rfl (by rw [sd.1]; decide) (st_eqi 3 (.tmp 195) (.const (.int .i64 0)) rfl .i64 (((0 : Nat) : Int)) (0) x195 rfl _ (by simp)) ?_
            intro f88 w88 df2 sz2 old2 new2 hb
            replace bl0 := bl
            replace x0 := tr old2 x0 rfl
            replace x1 := tr old2 x1 rfl
            replace x5 := tr old2 x5 rfl
            replace x6 := tr old2 x6 rfl
            replace x10 := tr old2 x10 rfl
            replace x192 := tr old2 x192 rfl
            replace x195 := tr old2 x195 rfl
            have x196 := Fk.e new2
            replace hvb := Fk.mono _ _ _ _ hvb hb
            replace hd := HD.below hd hb
            replace hW := Rs.below hW hb
            replace hA := IsX.below hA hb
            replace hQ := MBs.below hQ hb
            replace hWm := MBs.below hWm hb
            replace bl := bgo bl hb
            replace sd := sd2 sz2 df2 sd
            clear df2 sz2 old2 new2 hb
            clear x195
            refine wl_one (.eq (.bool true)) rfl 197 rfl (by rw [sd.1]; decide) (st_pick_t (.tmp 192) (.tmp 196) (.const (.bool false)) rfl x192 x196) ?_
            intro f89 w89 df2 sz2 old2 new2 hb
            replace x0 := tr old2 x0 rfl
            replace x1 := tr old2 x1 rfl
            replace x5 := tr old2 x5 rfl
            replace x6 := tr old2 x6 rfl
            replace x10 := tr old2 x10 rfl
            replace x192 := tr old2 x192 rfl
            replace x196 := tr old2 x196 rfl
            have x197 := Fk.e new2
            replace hvb := Fk.mono _ _ _ _ hvb hb
            replace hd := HD.below hd hb
            replace hW := Rs.below hW hb
            replace hA := IsX.below hA hb
            replace hQ := MBs.below hQ hb
            replace hWm := MBs.below hWm hb
            replace bl := bgo bl hb
            replace sd := sd2 sz2 df2 sd
            clear df2 sz2 old2 new2 hb
            clear x192
            clear x196
            refine wl_one (.eq (.bool true)) rfl 198 rfl (by rw [sd.1]; decide) (st_move (.tmp 197) rfl x197) ?_
            intro f90 w90 df2 sz2 old2 new2 hb
            replace x0 := tr old2 x0 rfl
            replace x1 := tr old2 x1 rfl
            replace x5 := tr old2 x5 rfl
            replace x6 := tr old2 x6 rfl
            replace x10 := tr old2 x10 rfl
            replace x197 := tr old2 x197 rfl
            have x198 := Fk.e new2
            replace hvb := Fk.mono _ _ _ _ hvb hb
            replace hd := HD.below hd hb
            replace hW := Rs.below hW hb
            replace hA := IsX.below hA hb
            replace hQ := MBs.below hQ hb
            replace hWm := MBs.below hWm hb
            replace bl := bgo bl hb
            replace sd := sd2 sz2 df2 sd
            clear df2 sz2 old2 new2 hb
            clear x197
            refine wl_onew (.eq (.bool true)) (want_of rfl rfl x198) 199 rfl (by rw [sd.1]; decide) (st_call 5 (.func 5) _ _ #[] rfl rfl rfl Tryz.enter5 (awake12 _)) ?_
            intro f91 w91 df2 sz2 old2 new2 hb
            replace bl0 := bl
            replace x0 := tr old2 x0 rfl
            replace x1 := tr old2 x1 rfl
            replace x5 := tr old2 x5 rfl
            replace x6 := tr old2 x6 rfl
            replace x10 := tr old2 x10 rfl
            replace x198 := tr old2 x198 rfl
            have x199 := Fk.e new2
            replace hvb := Fk.mono _ _ _ _ hvb hb
            replace hd := HD.below hd hb
            replace hW := Rs.below hW hb
            replace hA := IsX.below hA hb
            replace hQ := MBs.below hQ hb
            replace hWm := MBs.below hWm hb
            replace bl := bgo bl hb
            replace sd := sd2 sz2 df2 sd
            clear df2 sz2 old2 new2 hb
            refine wl_one (.eq (.bool true)) rfl 200 rfl (by rw [sd.1]; decide) (st_pick_t (.tmp 198) (.tmp 199) (.const (.bool false)) rfl x198 x199) ?_
            intro f92 w92 df2 sz2 old2 new2 hb
            replace x0 := tr old2 x0 rfl
            replace x1 := tr old2 x1 rfl
            replace x5 := tr old2 x5 rfl
            replace x6 := tr old2 x6 rfl
            replace x10 := tr old2 x10 rfl
            replace x198 := tr old2 x198 rfl
            replace x199 := tr old2 x199 rfl
            have x200 := Fk.e new2
            replace hvb := Fk.mono _ _ _ _ hvb hb
            replace hd := HD.below hd hb
            replace hW := Rs.below hW hb
            replace hA := IsX.below hA hb
            replace hQ := MBs.below hQ hb
            replace hWm := MBs.below hWm hb
            replace bl := bgo bl hb
            replace sd := sd2 sz2 df2 sd
            clear df2 sz2 old2 new2 hb
            clear x198
            clear x199
            refine wl_one (.eq (.bool true)) rfl 4 rfl (by rw [sd.1]; decide) (st_assign (.tmp 200) rfl x200) ?_
            intro f93 w93 df2 sz2 old2 new2 hb
            replace x0 := tr old2 x0 rfl
            replace x1 := tr old2 x1 rfl
            replace x5 := tr old2 x5 rfl
            replace x6 := tr old2 x6 rfl
            replace x10 := tr old2 x10 rfl
            replace x200 := tr old2 x200 rfl
            have x4 := Fk.e new2
            replace hvb := Fk.mono _ _ _ _ hvb hb
            replace hd := HD.below hd hb
            replace hW := Rs.below hW hb
            replace hA := IsX.below hA hb
            replace hQ := MBs.below hQ hb
            replace hWm := MBs.below hWm hb
            replace bl := bgo bl hb
            replace sd := sd2 sz2 df2 sd
            clear df2 sz2 old2 new2 hb
            refine wpList_nil ?_
            clear x200
            show Code.wp _ _ _ _ _
            refine wp_ret ?_
            repeat (first | with_reducible refine then_ret ?_ | with_reducible refine block_ret ?_)
            exact bodyPost_ret (v := .bool true) (ret_slot rfl f93 _ x4 _ _) sd.2 ⟨rfl, bl⟩
          obtain ⟨aa, haa⟩ : ∃ a, l[k]? = some a := ⟨_, List.getElem?_eq_getElem hlt⟩
          have hla9 : la[k]? = some (aa : Int) := by rw [hla, List.getElem?_map, haa]; rfl
          have haa4 : aa < 4 := by have := hlh aa (List.mem_of_getElem? haa); omega
          have hk4 : k < 4 := by omega
          have hSk : (rw9 (dt9 ps) 4 4)[k]? = some (dt9 ps k) := rw9_at hk4
          have hwe9 : (ws (stO sT) (1 + homN n) (l.take k) (rw9 fl9 4 4)).set aa (dt9 ps k) = ws (stO sT) (1 + homN n) (l.take (k + 1)) (rw9 fl9 4 4) := by rw [ws_take haa, ← hstS k hk4, show 5 + k = 1 + homN n + k by omega]
          refine wr_a [.eq (.bool true)] (by rw [sd.1]; kernel_rfl) ⟨fun hwt ac u K => ?_, trivial⟩ ?_
          · exact st_lss 3 (.tmp 139) (.tmp 138) rfl .i64 ((k : Int)) ((la.length : Int)) (K.t x139 rfl) (K.t x138 rfl) _ (by rw [eq_comm, decide_eq_true_iff]; omega)
          intro f39 w39 A hb
          replace x0 := A.t x0 rfl
          replace x1 := A.t x1 rfl
          replace x5 := A.t x5 rfl
          replace x6 := A.t x6 rfl
          replace x8 := A.t x8 rfl
          replace x10 := A.t x10 rfl
          replace x12 := A.t x12 rfl
          replace x137 := A.t x137 rfl
          replace x138 := A.t x138 rfl
          replace x139 := A.t x139 rfl
          have x140 := A.e 0 140 rfl rfl
          replace hd := HD.below hd hb
          replace hw := HW.below hw hb
          replace hW := Rs.below hW hb
          replace hS := Rs.below hS hb
          replace hA := IsX.below hA hb
          replace bl := bgo bl hb
          replace sd := A.sd sd
          clear A hb
          show Code.wp _ _ _ _ _
          refine wp_seq ?_
          refine wp_cond_true x140 ?_
          refine wp_skip ?_
          show Code.wp _ _ _ _ _
          refine wp_seq ?_
          refine wp_block ?_
          refine wp_seq ?_
          refine wr_a [.eq (.int .i64 (k : Int)), .prg [.int .i64 (aa : Int)], .eq (.int .i64 (aa : Int)), .eq (.int .i64 (k : Int)), .eq (.int .i64 (aa : Int))] (by rw [sd.1]; kernel_rfl) ⟨fun hwt ac u K => ?_, fun hwt ac u K => ?_, fun hwt ac u K => ?_, fun hwt ac u K => ?_, fun hwt ac u K => ?_, trivial⟩ ?_
          · exact st_move (.tmp 139) rfl (K.t x139 rfl)
          · exact st_idxis (.tmp 137) (.tmp 139) rfl (fk_val (K.t x137 rfl) (Fk.mono _ _ _ _ hA.1 K.grow)) k (K.t x139 rfl) _ hla9
          · exact st_loadr1 3 (.tmp 142) rfl (by kernel_rfl) (K.dep 1 142 rfl)
          · exact st_assign (.tmp 141) rfl (K.dep 0 141 rfl)
          · exact st_assign (.tmp 143) rfl (K.dep 2 143 rfl)
          intro f40 w40 A hb
          replace x0 := A.t x0 rfl
          replace x1 := A.t x1 rfl
          replace x5 := A.t x5 rfl
          replace x6 := A.t x6 rfl
          replace x8 := A.t x8 rfl
          replace x10 := A.t x10 rfl
          replace x12 := A.t x12 rfl
          replace x137 := A.t x137 rfl
          replace x138 := A.t x138 rfl
          replace x139 := A.t x139 rfl
          replace x140 := A.t x140 rfl
          have x14 := A.e 3 14 rfl rfl
          have x15 := A.e 4 15 rfl rfl
          replace hd := HD.below hd hb
          replace hw := HW.below hw hb
          replace hW := Rs.below hW hb
          replace hS := Rs.below hS hb
          replace hA := IsX.below hA hb
          replace bl := bgo bl hb
          replace sd := A.sd sd
          clear A hb
          clear x140
          show Code.wp _ _ _ _ _
          refine wr_s [.eq (.slice (some ⟨gW, 0, none⟩) (4) (4)), .eq (.int .i64 (aa : Int)), .eq (.slice (some ⟨gS, 0, none⟩) (4) (4)), .eq (.int .i64 (k : Int)), .eq (.pointer (some ⟨gS, k, none⟩)), .eq (.string (str (dt9 ps k))), .eq (.pointer (some ⟨gW, aa, none⟩))] (by rw [sd.1]; kernel_rfl) ⟨fun hwt ac u K => ?_, fun hwt ac u K => ?_, fun hwt ac u K => ?_, fun hwt ac u K => ?_, fun hwt ac u K => ?_, fun hwt ac u K => ?_, fun hwt ac u K => ?_, trivial⟩ ?_
          · exact st_move (.tmp 6) rfl (K.t x6 rfl)
          · exact st_move (.tmp 15) rfl (K.t x15 rfl)
          · exact st_move (.tmp 8) rfl (K.t x8 rfl)
          · exact st_move (.tmp 14) rfl (K.t x14 rfl)
          · exact st_idxs (.tmp 146) (.tmp 147) rfl (K.dep 2 146 rfl) (k) (K.dep 3 147 rfl) hk4
          · exact st_loadc 9 (.tmp 148) rfl (by kernel_rfl) (K.dep 4 148 rfl) ((Rs.below hS K.grow).cell hSk)
          · exact st_idxs (.tmp 144) (.tmp 145) rfl (K.dep 0 144 rfl) (aa) (K.dep 1 145 rfl) haa4
          intro f41 w41 A hb
          replace x0 := A.t x0 rfl
          replace x1 := A.t x1 rfl
          replace x5 := A.t x5 rfl
          replace x6 := A.t x6 rfl
          replace x8 := A.t x8 rfl
          replace x10 := A.t x10 rfl
          replace x12 := A.t x12 rfl
          replace x137 := A.t x137 rfl
          replace x138 := A.t x138 rfl
          replace x139 := A.t x139 rfl
          replace x14 := A.t x14 rfl
          replace x15 := A.t x15 rfl
          have x149 := A.e 5 149 rfl rfl
          have x150 := A.e 6 150 rfl rfl
          replace hd := HD.below hd hb
          replace hw := HW.below hw hb
          replace hW := Rs.below hW hb
          replace hS := Rs.below hS hb
          replace hA := IsX.below hA hb
          replace bl := bgo bl hb
          replace sd := A.sd sd
          clear A hb
          clear x14
          clear x15
          refine wl_stc 9 rfl (.tmp 150) (.tmp 149) rfl rfl (by kernel_rfl) gW (aa) (.string (str (dt9 ps k))) x150 x149 rfl rfl (hW.there (by rw [ws_len, rw9_len (Nat.le_refl _)]; exact haa4)) ?_
          replace hW := Rs.set hW (i := aa) (by rw [ws_len, rw9_len (Nat.le_refl _)]; exact haa4) (dt9 ps k)
          rw [hwe9] at hW
          replace hd := hd.keep (fun j q => ((Only.refl gW w41).setCell (aa) (.string (str (dt9 ps k)))).block j (hd.lt j q) (fun e => hgDW (e ▸ q))) ((Only.refl gW w41).setCell (aa) (.string (str (dt9 ps k)))).size
          replace hw := hw.keep (fun j q => ((Only.refl gW w41).setCell (aa) (.string (str (dt9 ps k)))).block j (hw.lt j q) (fun e => hgVW (e ▸ q))) ((Only.refl gW w41).setCell (aa) (.string (str (dt9 ps k)))).size
          replace hS := Rs.other (b := gW) (i := aa) (v := .string (str (dt9 ps k))) hS hneS
          replace hA := IsX.fr (X2 := (fun j => DD j ∨ j = gW)) hA (fr_only9 ((Only.refl gW w41).setCell (aa) (.string (str (dt9 ps k))))) (fun j q => .inr q) (fun j q => .inl q)
          replace bl : Below w.heap.size w (w41.setCell ⟨gW, aa, none⟩ (.string (str (dt9 ps k)))) := bl.trans (below_setCell _ _ _ _ _ hwgW)
          generalize w41.setCell ⟨gW, aa, none⟩ (.string (str (dt9 ps k))) = w42b at bl hW hd hw hS hA ⊢
          replace bl0 := bl
          refine wpList_nil ?_
          clear x149
          clear x150
          show Code.wp _ _ _ _ _
          refine wr_s [.eq (.int .i64 ((k + 1 : Nat) : Int))] (by rw [sd.1]; kernel_rfl) ⟨fun hwt ac u K => ?_, trivial⟩ ?_
          · exact st_addz (.tmp 139) (.const (.int .i64 1)) rfl _ _ _ (K.t x139 rfl) rfl (by omega) (by omega) (by omega)
          intro f43 w43 A hb
          replace x0 := A.t x0 rfl
          replace x1 := A.t x1 rfl
          replace x5 := A.t x5 rfl
          replace x6 := A.t x6 rfl
          replace x8 := A.t x8 rfl
          replace x10 := A.t x10 rfl
          replace x12 := A.t x12 rfl
          replace x137 := A.t x137 rfl
          replace x138 := A.t x138 rfl
          replace x139 := A.t x139 rfl
          have x151 := A.e 0 151 rfl rfl
          replace hd := HD.below hd hb
          replace hw := HW.below hw hb
          replace hW := Rs.below hW hb
          replace hS := Rs.below hS hb
          replace hA := IsX.below hA hb
          replace bl := bgo bl hb
          replace sd := A.sd sd
          clear A hb
          refine wl_one (.eq (.int .i64 ((k + 1 : Nat) : Int))) rfl 139 rfl (by rw [sd.1]; decide) (st_move (.tmp 151) rfl x151) ?_
          intro f44 w44 df2 sz2 old2 new2 hb
          replace x0 := tr old2 x0 rfl
          replace x1 := tr old2 x1 rfl
          replace x5 := tr old2 x5 rfl
          replace x6 := tr old2 x6 rfl
          replace x8 := tr old2 x8 rfl
          replace x10 := tr old2 x10 rfl
          replace x12 := tr old2 x12 rfl
          replace x137 := tr old2 x137 rfl
          replace x138 := tr old2 x138 rfl
          clear x139
          replace x151 := tr old2 x151 rfl
          have x139 := Fk.e new2
          replace hd := HD.below hd hb
          replace hw := HW.below hw hb
          replace hW := Rs.below hW hb
          replace hS := Rs.below hS hb
          replace hA := IsX.below hA hb
          replace bl := bgo bl hb
          replace sd := sd2 sz2 df2 sd
          clear df2 sz2 old2 new2 hb
          refine wpList_nil ?_
          clear x151
          show (∃ _, _) ∧ _
          refine ⟨⟨k + 1, by omega, sd.1, sd.2, x0, x1, x5, x6, x8, x10, x12, x137, x138, x139, hd, hw, hW, hS, hA, bl⟩, ?_⟩
          rw [show f44.eval (.tmp 139) = _ from x139, show _ = _ from hcnt]
          first | (simp [intOf]; done) | (simp [intOf]; omega)
        have hopd : wopn (homN n) (prsP n) (hdz z) sT = (32, sT) := wopn_bad h3 h32 hTS.1 (hTS.2.1 0) (by rw [hst0]; exact hp)
        refine wr_s [.eq (vh)] (by rw [sd.1]; kernel_rfl) ⟨fun hwt ac u K => ?_, trivial⟩ ?_
        · exact st_move (.tmp 0) rfl (K.t x0 rfl)
        intro f21 w21 A hb
        replace x0 := A.t x0 rfl
        replace x1 := A.t x1 rfl
        replace x5 := A.t x5 rfl
        replace x6 := A.t x6 rfl
        replace x8 := A.t x8 rfl
        replace x72 := A.t x72 rfl
        have x111 := A.e 0 111 rfl rfl
        replace hd := HD.below hd hb
        replace hW := Rs.below hW hb
        replace hS := Rs.below hS hb
        replace bl := bgo bl hb
        replace sd := A.sd sd
        clear A hb
        clear x72
        refine wl_call 8 (.func 8) _ _ #[vh, .int .i64 9] rfl 112 rfl (by rw [sd.1]; decide) rfl rfl (two_arg x111 rfl) Tryz.enter8 (fun u W' => ∃ v, u = .tuple #[v, .bool false] ∧ Below w21.heap.size w21 W') ((parse_no (n := 9) (by decide) (by decide) (by omega) (by omega) (by rw [← hn9]; exact hp) (Fk.mono _ _ _ _ hh bl))) ?_
        rintro f22 w22 df2 sz2 old2 ⟨vA, x112, hb9⟩
        replace bl0 := bl
        replace x0 := tr old2 x0 rfl
        replace x1 := tr old2 x1 rfl
        replace x5 := tr old2 x5 rfl
        replace x6 := tr old2 x6 rfl
        replace x8 := tr old2 x8 rfl
        replace x111 := tr old2 x111 rfl
        replace hd := HD.below hd hb9
        replace hW := Rs.below hW hb9
        replace hS := Rs.below hS hb9
        replace bl := bgo bl hb9
        replace sd := sd2 sz2 df2 sd
        clear df2 sz2 old2 hb9
        clear x111
        refine wl_one (.eq (.tuple #[vA, .bool false])) rfl 110 rfl (by rw [sd.1]; decide) (st_move (.tmp 112) rfl x112) ?_
        intro f23 w23 df2 sz2 old2 new2 hb
        replace x0 := tr old2 x0 rfl
        replace x1 := tr old2 x1 rfl
        replace x5 := tr old2 x5 rfl
        replace x6 := tr old2 x6 rfl
        replace x8 := tr old2 x8 rfl
        replace x112 := tr old2 x112 rfl
        have x110 := Fk.e new2
        replace hd := HD.below hd hb
        replace hW := Rs.below hW hb
        replace hS := Rs.below hS hb
        replace bl := bgo bl hb
        replace sd := sd2 sz2 df2 sd
        clear df2 sz2 old2 new2 hb
        clear x112
        refine wl_one (.eq (vA)) rfl 113 rfl (by rw [sd.1]; decide) (st_extv (.tmp 110) 0 rfl x110 rfl) ?_
        intro f24 w24 df2 sz2 old2 new2 hb
        replace x0 := tr old2 x0 rfl
        replace x1 := tr old2 x1 rfl
        replace x5 := tr old2 x5 rfl
        replace x6 := tr old2 x6 rfl
        replace x8 := tr old2 x8 rfl
        replace x110 := tr old2 x110 rfl
        have x113 := Fk.e new2
        replace hd := HD.below hd hb
        replace hW := Rs.below hW hb
        replace hS := Rs.below hS hb
        replace bl := bgo bl hb
        replace sd := sd2 sz2 df2 sd
        clear df2 sz2 old2 new2 hb
        refine wl_one (.eq (.bool false)) rfl 114 rfl (by rw [sd.1]; decide) (st_extv (.tmp 110) 1 rfl x110 rfl) ?_
        intro f25 w25 df2 sz2 old2 new2 hb
        replace x0 := tr old2 x0 rfl
        replace x1 := tr old2 x1 rfl
        replace x5 := tr old2 x5 rfl
        replace x6 := tr old2 x6 rfl
        replace x8 := tr old2 x8 rfl
        replace x110 := tr old2 x110 rfl
        replace x113 := tr old2 x113 rfl
        have x114 := Fk.e new2
        replace hd := HD.below hd hb
        replace hW := Rs.below hW hb
        replace hS := Rs.below hS hb
        replace bl := bgo bl hb
        replace sd := sd2 sz2 df2 sd
        clear df2 sz2 old2 new2 hb
        clear x110
        refine wl_one (.eq (vA)) rfl 10 rfl (by rw [sd.1]; decide) (st_assign (.tmp 113) rfl x113) ?_
        intro f26 w26 df2 sz2 old2 new2 hb
        replace x0 := tr old2 x0 rfl
        replace x1 := tr old2 x1 rfl
        replace x5 := tr old2 x5 rfl
        replace x6 := tr old2 x6 rfl
        replace x8 := tr old2 x8 rfl
        replace x113 := tr old2 x113 rfl
        replace x114 := tr old2 x114 rfl
        have x10 := Fk.e new2
        replace hd := HD.below hd hb
        replace hW := Rs.below hW hb
        replace hS := Rs.below hS hb
        replace bl := bgo bl hb
        replace sd := sd2 sz2 df2 sd
        clear df2 sz2 old2 new2 hb
        clear x113
        refine wl_one (.eq (.bool false)) rfl 11 rfl (by rw [sd.1]; decide) (st_assign (.tmp 114) rfl x114) ?_
        intro f27 w27 df2 sz2 old2 new2 hb
        replace x0 := tr old2 x0 rfl
        replace x1 := tr old2 x1 rfl
        replace x5 := tr old2 x5 rfl
        replace x6 := tr old2 x6 rfl
        replace x8 := tr old2 x8 rfl
        replace x114 := tr old2 x114 rfl
        replace x10 := tr old2 x10 rfl
        have x11 := Fk.e new2
        replace hd := HD.below hd hb
        replace hW := Rs.below hW hb
        replace hS := Rs.below hS hb
        replace bl := bgo bl hb
        replace sd := sd2 sz2 df2 sd
        clear df2 sz2 old2 new2 hb
        refine wpList_nil ?_
        clear x114
        show Code.wp _ _ _ _ _
        refine wp_seq ?_
        refine wr_s [.eq (.pointer (some ⟨gd, 0, none⟩))] (by rw [sd.1]; kernel_rfl) ⟨fun hwt ac u K => ?_, trivial⟩ ?_
        · exact st_move (.tmp 5) rfl (K.t x5 rfl)
        intro f28 w28 A hb
        replace x0 := A.t x0 rfl
        replace x1 := A.t x1 rfl
        replace x5 := A.t x5 rfl
        replace x6 := A.t x6 rfl
        replace x8 := A.t x8 rfl
        replace x10 := A.t x10 rfl
        replace x11 := A.t x11 rfl
        have x116 := A.e 0 116 rfl rfl
        replace hd := HD.below hd hb
        replace hW := Rs.below hW hb
        replace hS := Rs.below hS hb
        replace bl := bgo bl hb
        replace sd := A.sd sd
        clear A hb
        refine wl_call 9 (.func 9) _ _ #[.pointer (some ⟨gd, 0, none⟩)] rfl 117 rfl (by rw [sd.1]; decide) rfl rfl (one_arg x116) Tryz.enter9 (fun u W' => ∃ (D2 : Nat → Prop), u = .tuple #[.pointer none, .int .i64 32] ∧ HD W' gd M D2 (sT) ∧ Gd (sT) n z (9 + 4 * (n + 2)) ∧ (∀ j, D2 j → DD j ∨ w28.heap.size ≤ j) ∧ Fr M w28 W') (open_no12 hd gs hgw (by omega) (by decide) hopd) ?_
        rintro f29 w29 df2 sz2 old2 ⟨D2, x117, hd2, gs2, hD2, O⟩
        have lt9 := Rs.lt hW
        replace hW := Rs.keep hW (O.block _ lt9 (fun q => hgDW (hd.sub _ q)))
        replace hgDW : ¬ D2 gW := fun q => (hD2 _ q).elim hgDW (fun q => by omega)
        clear lt9
        have lt9 := Rs.lt hS
        replace hS := Rs.keep hS (O.block _ lt9 (fun q => hgDS (hd.sub _ q)))
        replace hgDS : ¬ D2 gS := fun q => (hD2 _ q).elim hgDS (fun q => by omega)
        clear lt9
        have bl9 := bl.trans (O.below bl.size (fun j q => hDD j (hd.sub j q)))
        replace hDD : ∀ j, D2 j → w.heap.size ≤ j := fun j q => (hD2 j q).elim (hDD j) (fun q => by have := bl.size; omega)
        replace bl := bl9
        replace bl0 := bl
        clear bl9
        replace hd := hd2
        replace gs := gs2
        clear gs2
        clear hd2 hD2 O
        clear DD
        obtain ⟨DD, rfl⟩ : ∃ E, E = D2 := ⟨_, rfl⟩
        replace x0 := tr old2 x0 rfl
        replace x1 := tr old2 x1 rfl
        replace x5 := tr old2 x5 rfl
        replace x6 := tr old2 x6 rfl
        replace x8 := tr old2 x8 rfl
        replace x10 := tr old2 x10 rfl
        replace x11 := tr old2 x11 rfl
        replace x116 := tr old2 x116 rfl
        replace sd := sd2 sz2 df2 sd
        clear df2 sz2 old2
        clear x116
        refine wl_one (.eq (.tuple #[.pointer none, .int .i64 32])) rfl 115 rfl (by rw [sd.1]; decide) (st_move (.tmp 117) rfl x117) ?_
        intro f30 w30 df2 sz2 old2 new2 hb
        replace x0 := tr old2 x0 rfl
        replace x1 := tr old2 x1 rfl
        replace x5 := tr old2 x5 rfl
        replace x6 := tr old2 x6 rfl
        replace x8 := tr old2 x8 rfl
        replace x10 := tr old2 x10 rfl
        replace x11 := tr old2 x11 rfl
        replace x117 := tr old2 x117 rfl
        have x115 := Fk.e new2
        replace hd := HD.below hd hb
        replace hW := Rs.below hW hb
        replace hS := Rs.below hS hb
        replace bl := bgo bl hb
        replace sd := sd2 sz2 df2 sd
        clear df2 sz2 old2 new2 hb
        clear x117
        refine wl_one (.eq (.pointer none)) rfl 118 rfl (by rw [sd.1]; decide) (st_extv (.tmp 115) 0 rfl x115 rfl) ?_
        intro f31 w31 df2 sz2 old2 new2 hb
        replace x0 := tr old2 x0 rfl
        replace x1 := tr old2 x1 rfl
        replace x5 := tr old2 x5 rfl
        replace x6 := tr old2 x6 rfl
        replace x8 := tr old2 x8 rfl
        replace x10 := tr old2 x10 rfl
        replace x11 := tr old2 x11 rfl
        replace x115 := tr old2 x115 rfl
        have x118 := Fk.e new2
        replace hd := HD.below hd hb
        replace hW := Rs.below hW hb
        replace hS := Rs.below hS hb
        replace bl := bgo bl hb
        replace sd := sd2 sz2 df2 sd
        clear df2 sz2 old2 new2 hb
        refine wl_one (.eq (.int .i64 32)) rfl 119 rfl (by rw [sd.1]; decide) (st_extv (.tmp 115) 1 rfl x115 rfl) ?_
        intro f32 w32 df2 sz2 old2 new2 hb
        replace x0 := tr old2 x0 rfl
        replace x1 := tr old2 x1 rfl
        replace x5 := tr old2 x5 rfl
        replace x6 := tr old2 x6 rfl
        replace x8 := tr old2 x8 rfl
        replace x10 := tr old2 x10 rfl
        replace x11 := tr old2 x11 rfl
        replace x115 := tr old2 x115 rfl
        replace x118 := tr old2 x118 rfl
        have x119 := Fk.e new2
        replace hd := HD.below hd hb
        replace hW := Rs.below hW hb
        replace hS := Rs.below hS hb
        replace bl := bgo bl hb
        replace sd := sd2 sz2 df2 sd
        clear df2 sz2 old2 new2 hb
        clear x115
        refine wl_one (.eq (.pointer none)) rfl 12 rfl (by rw [sd.1]; decide) (st_assign (.tmp 118) rfl x118) ?_
        intro f33 w33 df2 sz2 old2 new2 hb
        replace x0 := tr old2 x0 rfl
        replace x1 := tr old2 x1 rfl
        replace x5 := tr old2 x5 rfl
        replace x6 := tr old2 x6 rfl
        replace x8 := tr old2 x8 rfl
        replace x10 := tr old2 x10 rfl
        replace x11 := tr old2 x11 rfl
        replace x118 := tr old2 x118 rfl
        replace x119 := tr old2 x119 rfl
        have x12 := Fk.e new2
        replace hd := HD.below hd hb
        replace hW := Rs.below hW hb
        replace hS := Rs.below hS hb
        replace bl := bgo bl hb
        replace sd := sd2 sz2 df2 sd
        clear df2 sz2 old2 new2 hb
        clear x118
        refine wl_one (.eq (.int .i64 32)) rfl 13 rfl (by rw [sd.1]; decide) (st_assign (.tmp 119) rfl x119) ?_
        intro f34 w34 df2 sz2 old2 new2 hb
        replace x0 := tr old2 x0 rfl
        replace x1 := tr old2 x1 rfl
        replace x5 := tr old2 x5 rfl
        replace x6 := tr old2 x6 rfl
        replace x8 := tr old2 x8 rfl
        replace x10 := tr old2 x10 rfl
        replace x11 := tr old2 x11 rfl
        replace x119 := tr old2 x119 rfl
        replace x12 := tr old2 x12 rfl
        have x13 := Fk.e new2
        replace hd := HD.below hd hb
        replace hW := Rs.below hW hb
        replace hS := Rs.below hS hb
        replace bl := bgo bl hb
        replace sd := sd2 sz2 df2 sd
        clear df2 sz2 old2 new2 hb
        refine wpList_nil ?_
        clear x119
        show Code.wp _ _ _ _ _
        refine wp_seq ?_
        refine wp_seq ?_
        refine wr_a [.eq (.bool false), .eq (.bool true)] (by rw [sd.1]; kernel_rfl) ⟨fun hwt ac u K => ?_, fun hwt ac u K => ?_, trivial⟩ ?_
        · exact st_move (.tmp 11) rfl (K.t x11 rfl)
        · exact st_not (.tmp 120) rfl false (K.dep 0 120 rfl)
        intro f35 w35 A hb
        replace x0 := A.t x0 rfl
        replace x1 := A.t x1 rfl
        replace x5 := A.t x5 rfl
        replace x6 := A.t x6 rfl
        replace x8 := A.t x8 rfl
        replace x10 := A.t x10 rfl
        replace x11 := A.t x11 rfl
        replace x12 := A.t x12 rfl
        replace x13 := A.t x13 rfl
        have x121 := A.e 1 121 rfl rfl
        replace hd := HD.below hd hb
        replace hW := Rs.below hW hb
        replace hS := Rs.below hS hb
        replace bl := bgo bl hb
        replace sd := A.sd sd
        clear A hb
        clear x11
        show Code.wp _ _ _ _ _
        refine wp_cond_true x121 ?_
        refine wp_seq ?_
        refine wr_a [.eq (.int .i64 32), .eq (.bool true), .eq (.bool true), .eq (.pointer none), .eq (.bool true), .eq (.bool true), .eq (.bool true), .eq (.bool true), .eq (.bool true), .eq (.bool true)] (by rw [sd.1]; kernel_rfl) ⟨fun hwt ac u K => ?_, fun hwt ac u K => ?_, fun hwt ac u K => ?_, fun hwt ac u K => ?_, fun hwt ac u K => ?_, fun hwt ac u K => ?_, fun hwt ac u K => ?_, fun hwt ac u K => ?_, fun hwt ac u K => ?_, fun hwt ac u K => ?_, trivial⟩ ?_
        · exact st_move (.tmp 13) rfl (K.t x13 rfl)
        · exact st_eqi 27 (.tmp 122) (.const (.int .i64 32)) rfl .i64 (32) (32) (K.dep 0 122 rfl) rfl _ (by simp)
        · exact st_move (.tmp 123) rfl (K.dep 1 123 rfl)
        · exact st_move (.tmp 12) rfl (K.t x12 rfl)
        · exact st_bin .eql 34 34 (.tmp 125) _ rfl (K.dep 3 125 rfl) rfl (by kernel_rfl)
        · exact st_pick_t (.tmp 124) (.tmp 126) (.const (.bool false)) rfl (K.dep 2 124 rfl) (K.dep 4 126 rfl)
        · exact st_move (.tmp 127) rfl (K.dep 5 127 rfl)
        · exact st_call 5 (.func 5) _ _ _ rfl rfl rfl Tryz.enter5 (awake12 _)
        · exact st_pick_t (.tmp 128) (.tmp 129) (.const (.bool false)) rfl (K.dep 6 128 rfl) (K.dep 7 129 rfl)
        · exact st_assign (.tmp 130) rfl (K.dep 8 130 rfl)
        intro f36 w36 A hb
        replace x0 := A.t x0 rfl
        replace x1 := A.t x1 rfl
        replace x5 := A.t x5 rfl
        replace x6 := A.t x6 rfl
        replace x8 := A.t x8 rfl
        replace x10 := A.t x10 rfl
        replace x12 := A.t x12 rfl
        replace x13 := A.t x13 rfl
        replace x121 := A.t x121 rfl
        have x4 := A.e 9 4 rfl rfl
        replace hd := HD.below hd hb
        replace hW := Rs.below hW hb
        replace hS := Rs.below hS hb
        replace bl := bgo bl hb
        replace sd := A.sd sd
        clear A hb
        clear x10
        clear x12
        clear x13
        clear x121
        show Code.wp _ _ _ _ _
        refine wp_ret ?_
        repeat (first | with_reducible refine then_ret ?_ | with_reducible refine block_ret ?_)
        exact bodyPost_ret (v := .bool true) (ret_slot rfl f36 _ x4 _ _) sd.2 ⟨rfl, bl⟩
      refine wr_a [.eq (.bool true)] (by rw [sd.1]; kernel_rfl) ⟨fun hwt ac u K => ?_, trivial⟩ ?_
      · exact st_lss 3 (.tmp 71) (.tmp 70) rfl .i64 ((k : Int)) (((4 : Nat) : Int)) (K.t x71 rfl) (K.t x70 rfl) _ (by rw [eq_comm, decide_eq_true_iff]; exact Int.ofNat_lt.2 hlt)
      intro f20 w20 A hb
      replace x0 := A.t x0 rfl
      replace x1 := A.t x1 rfl
      replace x5 := A.t x5 rfl
      replace x6 := A.t x6 rfl
      replace x8 := A.t x8 rfl
      replace x70 := A.t x70 rfl
      replace x71 := A.t x71 rfl
      have x72 := A.e 0 72 rfl rfl
      replace hd := HD.below hd hb
      replace hW := Rs.below hW hb
      replace hS := Rs.below hS hb
      replace bl := bgo bl hb
      replace sd := A.sd sd
      clear A hb
      show Code.wp _ _ _ _ _
      refine wp_seq ?_
      refine wp_cond_true x72 ?_
      refine wp_skip ?_
      show Code.wp _ _ _ _ _
      refine wp_seq ?_
      refine wp_block ?_
      refine wp_seq ?_
      refine wr_a [.eq (.int .i64 (k : Int)), .eq (.int .i64 (k : Int))] (by rw [sd.1]; kernel_rfl) ⟨fun hwt ac u K => ?_, fun hwt ac u K => ?_, trivial⟩ ?_
      · exact st_move (.tmp 71) rfl (K.t x71 rfl)
      · exact st_assign (.tmp 73) rfl (K.dep 0 73 rfl)
      intro f21 w21 A hb
      replace x0 := A.t x0 rfl
      replace x1 := A.t x1 rfl
      replace x5 := A.t x5 rfl
      replace x6 := A.t x6 rfl
      replace x8 := A.t x8 rfl
      replace x70 := A.t x70 rfl
      replace x71 := A.t x71 rfl
      replace x72 := A.t x72 rfl
      have x9 := A.e 1 9 rfl rfl
      replace hd := HD.below hd hb
      replace hW := Rs.below hW hb
      replace hS := Rs.below hS hb
      replace bl := bgo bl hb
      replace sd := A.sd sd
      clear A hb
      clear x72
      show Code.wp _ _ _ _ _
      refine wp_seq ?_
      refine wr_s [.eq (.slice (some ⟨gS, 0, none⟩) (4) (4)), .eq (.int .i64 (k : Int)), .sl (zs 64), .eq (.string (str (zs 64))), .eq (.pointer (some ⟨gS, k, none⟩))] (by rw [sd.1]; kernel_rfl) ⟨fun hwt ac u K => ?_, fun hwt ac u K => ?_, fun hwt ac u K => ?_, fun hwt ac u K => ?_, fun hwt ac u K => ?_, trivial⟩ ?_
      · exact st_move (.tmp 8) rfl (K.t x8 rfl)
      · exact st_move (.tmp 9) rfl (K.t x9 rfl)
      · exact st_call 7 (.func 7) _ _ _ rfl rfl (one_arg rfl) Tryz.enter7 (full64_sl 0#8 _)
      · exact st_stra (.tmp 76) rfl (K.dep 2 76 rfl)
      · exact st_idxs (.tmp 74) (.tmp 75) rfl (K.dep 0 74 rfl) (k) (K.dep 1 75 rfl) hlt
      intro f22 w22 A hb
      replace x0 := A.t x0 rfl
      replace x1 := A.t x1 rfl
      replace x5 := A.t x5 rfl
      replace x6 := A.t x6 rfl
      replace x8 := A.t x8 rfl
      replace x70 := A.t x70 rfl
      replace x71 := A.t x71 rfl
      replace x9 := A.t x9 rfl
      have x77 := A.e 3 77 rfl rfl
      have x78 := A.e 4 78 rfl rfl
      replace hd := HD.below hd hb
      replace hW := Rs.below hW hb
      replace hS := Rs.below hS hb
      replace bl := bgo bl hb
      replace sd := A.sd sd
      clear A hb
      refine wl_stc 9 rfl (.tmp 78) (.tmp 77) rfl rfl (by kernel_rfl) gS (k) (.string (str (zs 64))) x78 x77 rfl rfl (hS.there (by rw [rw9_len hk8]; exact hlt)) ?_
      replace hS := Rs.set hS (i := k) (by rw [rw9_len hk8]; exact hlt) (zs 64)
      
      replace hd := hd.keep (fun j q => ((Only.refl gS w22).setCell (k) (.string (str (zs 64)))).block j (hd.lt j q) (fun e => hgDS (e ▸ q))) ((Only.refl gS w22).setCell (k) (.string (str (zs 64)))).size
      replace hW := Rs.other (b := gS) (i := k) (v := .string (str (zs 64))) hW hneW
      replace bl : Below w.heap.size w (w22.setCell ⟨gS, k, none⟩ (.string (str (zs 64)))) := bl.trans (below_setCell _ _ _ _ _ hwgS)
      generalize w22.setCell ⟨gS, k, none⟩ (.string (str (zs 64))) = w23b at bl hS hd hW ⊢
      replace bl0 := bl
      refine wpList_nil ?_
      clear x77
      clear x78
      show Code.wp _ _ _ _ _
      refine wp_seq ?_
      refine wp_seq ?_
      rcases (Classical.em (k < ps.length)).symm with hkp | hkp
      rotate_left
      · skip
        obtain ⟨p, hpk⟩ : ∃ p, ps[k]? = some p := ⟨_, List.getElem?_eq_getElem hkp⟩
        have hp : (Fk.sl p.bs).f (.slice p.sp p.m p.c) w := ⟨_, _, _, _, _, rfl, mg_ok hm hpk⟩
        by_cases hp64 : p.bs.length = 64
        rotate_left
        · skip
          have hdt := dt9_not hpk hp64
          rw [← hdt, rw9_set hlt] at hS
          refine wr_a [.eq (.int .i64 (k : Int)), .eq (vj), .eq (.int .i64 (((ps).length : Nat) : Int)), .eq (.bool true), .eq (.bool true), .eq (vj), .eq (.int .i64 (k : Int)), .pv (.slice p.sp p.m p.c), .eq (.slice p.sp p.m p.c), .eq (.int .i64 (((p.bs).length : Nat) : Int)), .eq (.bool false), .eq (.bool false)] (by rw [sd.1]; kernel_rfl) ⟨fun hwt ac u K => ?_, fun hwt ac u K => ?_, fun hwt ac u K => ?_, fun hwt ac u K => ?_, fun hwt ac u K => ?_, fun hwt ac u K => ?_, fun hwt ac u K => ?_, fun hwt ac u K => ?_, fun hwt ac u K => ?_, fun hwt ac u K => ?_, fun hwt ac u K => ?_, fun hwt ac u K => ?_, trivial⟩ ?_
          · exact st_move (.tmp 9) rfl (K.t x9 rfl)
          · exact st_move (.tmp 1) rfl (K.t x1 rfl)
          · exact st_lenm (.tmp 80) rfl (fk_val (K.dep 1 80 rfl) (Fk.mono _ _ _ _ hm (bgo bl K.grow)))
          · exact st_lss 3 (.tmp 79) (.tmp 81) rfl .i64 ((k : Int)) ((((ps).length : Nat) : Int)) (K.dep 0 79 rfl) (K.dep 2 81 rfl) _ (by rw [eq_comm, decide_eq_true_iff]; exact Int.ofNat_lt.2 hkp)
          · exact st_move (.tmp 82) rfl (K.dep 3 82 rfl)
          · exact st_move (.tmp 1) rfl (K.t x1 rfl)
          · exact st_move (.tmp 9) rfl (K.t x9 rfl)
          · exact st_idxm (.tmp 84) (.tmp 85) rfl (fk_val (K.dep 5 84 rfl) (Fk.mono _ _ _ _ hm (bgo bl K.grow))) k p (K.dep 6 85 rfl) hpk
          · exact st_loadsl (.tmp 86) rfl (K.dep 7 86 rfl)
          · exact st_lenb (.tmp 87) rfl (fk_val (K.dep 8 87 rfl) (Fk.mono _ _ _ _ hp (bgo bl K.grow)))
          · exact st_eqi 3 (.tmp 88) (.const (.int .i64 64)) rfl .i64 ((((p.bs).length : Nat) : Int)) (64) (K.dep 9 88 rfl) rfl _ (by rw [eq_comm, decide_eq_false_iff_not]; omega)
          · exact st_pick_t (.tmp 83) (.tmp 89) (.const (.bool false)) rfl (K.dep 4 83 rfl) (K.dep 10 89 rfl)
          intro f24 w24 A hb
          replace x0 := A.t x0 rfl
          replace x1 := A.t x1 rfl
          replace x5 := A.t x5 rfl
          replace x6 := A.t x6 rfl
          replace x8 := A.t x8 rfl
          replace x70 := A.t x70 rfl
          replace x71 := A.t x71 rfl
          replace x9 := A.t x9 rfl
          have x90 := A.e 11 90 rfl rfl
          replace hd := HD.below hd hb
          replace hW := Rs.below hW hb
          replace hS := Rs.below hS hb
          replace bl := bgo bl hb
          replace sd := A.sd sd
          clear A hb
          show Code.wp _ _ _ _ _
          refine wp_cond_false x90 ?_
          refine wp_skip ?_
          show Code.wp _ _ _ _ _
          refine wp_seq ?_
          obtain ⟨q1, q2⟩ := hTS.tm (i := 5 + k) (by omega) (b := dt9 ps k) (by rw [dt9_len]; omega)
          rw [upd_succ] at q2
          obtain ⟨s2, hs2⟩ : ∃ x, x = (tmr s ((5 + k : Nat) : Int) (dt9 ps k)).2 := ⟨_, rfl⟩
          have htm : tmr s ((5 + k : Nat) : Int) (dt9 ps k) = (0, s2) := Prod.ext q1 hs2.symm
          rw [← hs2] at q2
          have gs2 := gd_tmr gs ((5 + k : Nat) : Int) (dt9 ps k)
          rw [← hs2] at gs2
          clear q1 hs2
          have hSk : (rw9 (dt9 ps) 4 (k + 1))[k]? = some (dt9 ps k) := by rw [← rw9_set hlt, List.getElem?_set_self (by rw [rw9_len hk8]; exact hlt)]
          refine wr_s [.eq (.pointer (some ⟨gd, 0, none⟩)), .eq (.int .i64 (k : Int)), .eq (.int .i64 ((5 + k : Nat) : Int)), .eq (.slice (some ⟨gS, 0, none⟩) (4) (4)), .eq (.int .i64 (k : Int)), .eq (.pointer (some ⟨gS, k, none⟩)), .eq (.string (str (dt9 ps k))), .sl (dt9 ps k)] (by rw [sd.1]; kernel_rfl) ⟨fun hwt ac u K => ?_, fun hwt ac u K => ?_, fun hwt ac u K => ?_, fun hwt ac u K => ?_, fun hwt ac u K => ?_, fun hwt ac u K => ?_, fun hwt ac u K => ?_, fun hwt ac u K => ?_, trivial⟩ ?_
          · exact st_move (.tmp 5) rfl (K.t x5 rfl)
          · exact st_move (.tmp 9) rfl (K.t x9 rfl)
          · exact st_addz (.const (.int .i64 5)) (.tmp 100) rfl _ _ _ rfl (K.dep 1 100 rfl) (by omega) (by omega) (by omega)
          · exact st_move (.tmp 8) rfl (K.t x8 rfl)
          · exact st_move (.tmp 9) rfl (K.t x9 rfl)
          · exact st_idxs (.tmp 102) (.tmp 103) rfl (K.dep 3 102 rfl) (k) (K.dep 4 103 rfl) hlt
          · exact st_loadc 9 (.tmp 104) rfl (by kernel_rfl) (K.dep 5 104 rfl) ((Rs.below hS K.grow).cell hSk)
          · exact st_bstr (.tmp 105) rfl (K.dep 6 105 rfl)
          intro f25 w25 A hb
          replace x0 := A.t x0 rfl
          replace x1 := A.t x1 rfl
          replace x5 := A.t x5 rfl
          replace x6 := A.t x6 rfl
          replace x8 := A.t x8 rfl
          replace x70 := A.t x70 rfl
          replace x71 := A.t x71 rfl
          replace x9 := A.t x9 rfl
          replace x90 := A.t x90 rfl
          have x99 := A.e 0 99 rfl rfl
          have x101 := A.e 2 101 rfl rfl
          have x106 : Fk.f (.sl (dt9 ps k)) (f25.eval (.tmp 106)) w25 := A.has 7 106 rfl
          replace hd := HD.below hd hb
          replace hW := Rs.below hW hb
          replace hS := Rs.below hS hb
          replace bl := bgo bl hb
          replace sd := A.sd sd
          clear A hb
          clear x9
          clear x90
          obtain ⟨vB, hvB⟩ : ∃ v, v = f25.eval (.tmp 106) := ⟨_, rfl⟩
          have hB : (Fk.sl (dt9 ps k)).f vB w25 := hvB ▸ x106
          have xB := hvB.symm
          clear hvB
          refine wl_call 6 (.func 6) _ _ #[.pointer (some ⟨gd, 0, none⟩), .int .i64 (((5 + k : Nat) : Int)), vB] rfl 107 rfl (by rw [sd.1]; decide) rfl rfl (three_arg x99 x101 xB) Tryz.enter6 (fun u W' => ∃ D2 : Nat → Prop, u = .int .i64 0 ∧ HD W' gd M D2 (s2) ∧ (∀ j, D2 j → DD j ∨ w25.heap.size ≤ j) ∧ Fr M w25 W') ((fk_dtamper hd (by have := gs.has; omega) (((5 + k : Nat) : Int)) hB).mono (by rw [htm]; rintro e w' ⟨D', rfl, q⟩; exact ⟨_, rfl, D', rfl, q⟩)) ?_
          rintro f26 w26 df2 sz2 old2 ⟨D2, x107, hd2, hD2, O⟩
          have lt9 := Rs.lt hW
          replace hW := Rs.keep hW (O.block _ lt9 (fun q => hgDW (hd.sub _ q)))
          replace hgDW : ¬ D2 gW := fun q => (hD2 _ q).elim hgDW (fun q => by omega)
          clear lt9
          have lt9 := Rs.lt hS
          replace hS := Rs.keep hS (O.block _ lt9 (fun q => hgDS (hd.sub _ q)))
          replace hgDS : ¬ D2 gS := fun q => (hD2 _ q).elim hgDS (fun q => by omega)
          clear lt9
          have bl9 := bl.trans (O.below bl.size (fun j q => hDD j (hd.sub j q)))
          replace hDD : ∀ j, D2 j → w.heap.size ≤ j := fun j q => (hD2 j q).elim (hDD j) (fun q => by have := bl.size; omega)
          replace bl := bl9
          replace bl0 := bl
          clear bl9
          replace hd := hd2
          clear hd2 hD2 O
          clear DD
          obtain ⟨DD, rfl⟩ : ∃ E, E = D2 := ⟨_, rfl⟩
          replace x0 := tr old2 x0 rfl
          replace x1 := tr old2 x1 rfl
          replace x5 := tr old2 x5 rfl
          replace x6 := tr old2 x6 rfl
          replace x8 := tr old2 x8 rfl
          replace x70 := tr old2 x70 rfl
          replace x71 := tr old2 x71 rfl
          replace x99 := tr old2 x99 rfl
          replace x101 := tr old2 x101 rfl
          clear x106
          replace sd := sd2 sz2 df2 sd
          clear df2 sz2 old2
          clear xB hB vB
          clear x99
          clear x101
          refine wl_one (.eq (.bool false)) rfl 108 rfl (by rw [sd.1]; decide) (st_neqi 27 (.tmp 107) (.const (.int .i64 0)) rfl .i64 (0) (0) x107 rfl _ (by rfl)) ?_
          intro f27 w27 df2 sz2 old2 new2 hb
          replace x0 := tr old2 x0 rfl
          replace x1 := tr old2 x1 rfl
          replace x5 := tr old2 x5 rfl
          replace x6 := tr old2 x6 rfl
          replace x8 := tr old2 x8 rfl
          replace x70 := tr old2 x70 rfl
          replace x71 := tr old2 x71 rfl
          replace x107 := tr old2 x107 rfl
          have x108 := Fk.e new2
          replace hd := HD.below hd hb
          replace hW := Rs.below hW hb
          replace hS := Rs.below hS hb
          replace bl := bgo bl hb
          replace sd := sd2 sz2 df2 sd
          clear df2 sz2 old2 new2 hb
          refine wpList_nil ?_
          clear x107
          show Code.wp _ _ _ _ _
          refine wp_cond_false x108 ?_
          refine wp_skip ?_
          show Code.wp _ _ _ _ _
          refine wr_s [.eq (.int .i64 ((k + 1 : Nat) : Int))] (by rw [sd.1]; kernel_rfl) ⟨fun hwt ac u K => ?_, trivial⟩ ?_
          · exact st_addz (.tmp 71) (.const (.int .i64 1)) rfl _ _ _ (K.t x71 rfl) rfl (by omega) (by omega) (by omega)
          intro f28 w28 A hb
          replace x0 := A.t x0 rfl
          replace x1 := A.t x1 rfl
          replace x5 := A.t x5 rfl
          replace x6 := A.t x6 rfl
          replace x8 := A.t x8 rfl
          replace x70 := A.t x70 rfl
          replace x71 := A.t x71 rfl
          replace x108 := A.t x108 rfl
          have x109 := A.e 0 109 rfl rfl
          replace hd := HD.below hd hb
          replace hW := Rs.below hW hb
          replace hS := Rs.below hS hb
          replace bl := bgo bl hb
          replace sd := A.sd sd
          clear A hb
          clear x108
          refine wl_one (.eq (.int .i64 ((k + 1 : Nat) : Int))) rfl 71 rfl (by rw [sd.1]; decide) (st_move (.tmp 109) rfl x109) ?_
          intro f29 w29 df2 sz2 old2 new2 hb
          replace x0 := tr old2 x0 rfl
          replace x1 := tr old2 x1 rfl
          replace x5 := tr old2 x5 rfl
          replace x6 := tr old2 x6 rfl
          replace x8 := tr old2 x8 rfl
          replace x70 := tr old2 x70 rfl
          clear x71
          replace x109 := tr old2 x109 rfl
          have x71 := Fk.e new2
          replace hd := HD.below hd hb
          replace hW := Rs.below hW hb
          replace hS := Rs.below hS hb
          replace bl := bgo bl hb
          replace sd := sd2 sz2 df2 sd
          clear df2 sz2 old2 new2 hb
          refine wpList_nil ?_
          clear x109
          show (∃ _, _) ∧ _
          refine ⟨⟨k + 1, s2, DD, by omega, gs2, q2, hDD, hgDW, hgDS, sd.1, sd.2, x0, x1, x5, x6, x8, x70, x71, hd, hW, hS, bl⟩, ?_⟩
          rw [show f29.eval (.tmp 71) = _ from x71, show _ = _ from hcnt]
          first | (simp [intOf]; done) | (simp [intOf]; omega)
        have hdt := dt9_some hpk hp64
        have hwe9 : ((rw9 (dt9 ps) 4 k).set k (zs 64)).set k p.bs = rw9 (dt9 ps) 4 (k + 1) := by rw [List.set_set, ← hdt, rw9_set hlt]
        refine wr_a [.eq (.int .i64 (k : Int)), .eq (vj), .eq (.int .i64 (((ps).length : Nat) : Int)), .eq (.bool true), .eq (.bool true), .eq (vj), .eq (.int .i64 (k : Int)), .pv (.slice p.sp p.m p.c), .eq (.slice p.sp p.m p.c), .eq (.int .i64 (((p.bs).length : Nat) : Int)), .eq (.bool true), .eq (.bool true)] (by rw [sd.1]; kernel_rfl) ⟨fun hwt ac u K => ?_, fun hwt ac u K => ?_, fun hwt ac u K => ?_, fun hwt ac u K => ?_, fun hwt ac u K => ?_, fun hwt ac u K => ?_, fun hwt ac u K => ?_, fun hwt ac u K => ?_, fun hwt ac u K => ?_, fun hwt ac u K => ?_, fun hwt ac u K => ?_, fun hwt ac u K => ?_, trivial⟩ ?_
        · exact st_move (.tmp 9) rfl (K.t x9 rfl)
        · exact st_move (.tmp 1) rfl (K.t x1 rfl)
        · exact st_lenm (.tmp 80) rfl (fk_val (K.dep 1 80 rfl) (Fk.mono _ _ _ _ hm (bgo bl K.grow)))
        · exact st_lss 3 (.tmp 79) (.tmp 81) rfl .i64 ((k : Int)) ((((ps).length : Nat) : Int)) (K.dep 0 79 rfl) (K.dep 2 81 rfl) _ (by rw [eq_comm, decide_eq_true_iff]; exact Int.ofNat_lt.2 hkp)
        · exact st_move (.tmp 82) rfl (K.dep 3 82 rfl)
        · exact st_move (.tmp 1) rfl (K.t x1 rfl)
        · exact st_move (.tmp 9) rfl (K.t x9 rfl)
        · exact st_idxm (.tmp 84) (.tmp 85) rfl (fk_val (K.dep 5 84 rfl) (Fk.mono _ _ _ _ hm (bgo bl K.grow))) k p (K.dep 6 85 rfl) hpk
        · exact st_loadsl (.tmp 86) rfl (K.dep 7 86 rfl)
        · exact st_lenb (.tmp 87) rfl (fk_val (K.dep 8 87 rfl) (Fk.mono _ _ _ _ hp (bgo bl K.grow)))
        · exact st_eqi 3 (.tmp 88) (.const (.int .i64 64)) rfl .i64 ((((p.bs).length : Nat) : Int)) (64) (K.dep 9 88 rfl) rfl _ (by rw [eq_comm, decide_eq_true_iff]; omega)
        · exact st_pick_t (.tmp 83) (.tmp 89) (.const (.bool false)) rfl (K.dep 4 83 rfl) (K.dep 10 89 rfl)
        intro f24 w24 A hb
        replace x0 := A.t x0 rfl
        replace x1 := A.t x1 rfl
        replace x5 := A.t x5 rfl
        replace x6 := A.t x6 rfl
        replace x8 := A.t x8 rfl
        replace x70 := A.t x70 rfl
        replace x71 := A.t x71 rfl
        replace x9 := A.t x9 rfl
        have x90 := A.e 11 90 rfl rfl
        replace hd := HD.below hd hb
        replace hW := Rs.below hW hb
        replace hS := Rs.below hS hb
        replace bl := bgo bl hb
        replace sd := A.sd sd
        clear A hb
        show Code.wp _ _ _ _ _
        refine wp_cond_true x90 ?_
        refine wr_s [.eq (.slice (some ⟨gS, 0, none⟩) (4) (4)), .eq (.int .i64 (k : Int)), .eq (vj), .eq (.int .i64 (k : Int)), .pv (.slice p.sp p.m p.c), .eq (.slice p.sp p.m p.c), .eq (.string (str (p.bs))), .eq (.pointer (some ⟨gS, k, none⟩))] (by rw [sd.1]; kernel_rfl) ⟨fun hwt ac u K => ?_, fun hwt ac u K => ?_, fun hwt ac u K => ?_, fun hwt ac u K => ?_, fun hwt ac u K => ?_, fun hwt ac u K => ?_, fun hwt ac u K => ?_, fun hwt ac u K => ?_, trivial⟩ ?_
        · exact st_move (.tmp 8) rfl (K.t x8 rfl)
        · exact st_move (.tmp 9) rfl (K.t x9 rfl)
        · exact st_move (.tmp 1) rfl (K.t x1 rfl)
        · exact st_move (.tmp 9) rfl (K.t x9 rfl)
        · exact st_idxm (.tmp 93) (.tmp 94) rfl (fk_val (K.dep 2 93 rfl) (Fk.mono _ _ _ _ hm (bgo bl K.grow))) k p (K.dep 3 94 rfl) hpk
        · exact st_loadsl (.tmp 95) rfl (K.dep 4 95 rfl)
        · exact st_stra (.tmp 96) rfl (fk_val (K.dep 5 96 rfl) (Fk.mono _ _ _ _ hp (bgo bl K.grow)))
        · exact st_idxs (.tmp 91) (.tmp 92) rfl (K.dep 0 91 rfl) (k) (K.dep 1 92 rfl) hlt
        intro f25 w25 A hb
        replace x0 := A.t x0 rfl
        replace x1 := A.t x1 rfl
        replace x5 := A.t x5 rfl
        replace x6 := A.t x6 rfl
        replace x8 := A.t x8 rfl
        replace x70 := A.t x70 rfl
        replace x71 := A.t x71 rfl
        replace x9 := A.t x9 rfl
        replace x90 := A.t x90 rfl
        have x97 := A.e 6 97 rfl rfl
        have x98 := A.e 7 98 rfl rfl
        replace hd := HD.below hd hb
        replace hW := Rs.below hW hb
        replace hS := Rs.below hS hb
        replace bl := bgo bl hb
        replace sd := A.sd sd
        clear A hb
        clear x90
        refine wl_stc 9 rfl (.tmp 98) (.tmp 97) rfl rfl (by kernel_rfl) gS (k) (.string (str (p.bs))) x98 x97 rfl rfl (hS.there (by rw [List.length_set, rw9_len hk8]; exact hlt)) ?_
        replace hS := Rs.set hS (i := k) (by rw [List.length_set, rw9_len hk8]; exact hlt) (p.bs)
        rw [hwe9] at hS
        replace hd := hd.keep (fun j q => ((Only.refl gS w25).setCell (k) (.string (str (p.bs)))).block j (hd.lt j q) (fun e => hgDS (e ▸ q))) ((Only.refl gS w25).setCell (k) (.string (str (p.bs)))).size
        replace hW := Rs.other (b := gS) (i := k) (v := .string (str (p.bs))) hW hneW
        replace bl : Below w.heap.size w (w25.setCell ⟨gS, k, none⟩ (.string (str (p.bs)))) := bl.trans (below_setCell _ _ _ _ _ hwgS)
        generalize w25.setCell ⟨gS, k, none⟩ (.string (str (p.bs))) = w26b at bl hS hd hW ⊢
        replace bl0 := bl
        refine wpList_nil ?_
        clear x97
        clear x98
        show Code.wp _ _ _ _ _
        refine wp_seq ?_
        obtain ⟨q1, q2⟩ := hTS.tm (i := 5 + k) (by omega) (b := dt9 ps k) (by rw [dt9_len]; omega)
        rw [upd_succ] at q2
        obtain ⟨s2, hs2⟩ : ∃ x, x = (tmr s ((5 + k : Nat) : Int) (dt9 ps k)).2 := ⟨_, rfl⟩
        have htm : tmr s ((5 + k : Nat) : Int) (dt9 ps k) = (0, s2) := Prod.ext q1 hs2.symm
        rw [← hs2] at q2
        have gs2 := gd_tmr gs ((5 + k : Nat) : Int) (dt9 ps k)
        rw [← hs2] at gs2
        clear q1 hs2
        have hSk : (rw9 (dt9 ps) 4 (k + 1))[k]? = some (dt9 ps k) := by rw [← rw9_set hlt, List.getElem?_set_self (by rw [rw9_len hk8]; exact hlt)]
        refine wr_s [.eq (.pointer (some ⟨gd, 0, none⟩)), .eq (.int .i64 (k : Int)), .eq (.int .i64 ((5 + k : Nat) : Int)), .eq (.slice (some ⟨gS, 0, none⟩) (4) (4)), .eq (.int .i64 (k : Int)), .eq (.pointer (some ⟨gS, k, none⟩)), .eq (.string (str (dt9 ps k))), .sl (dt9 ps k)] (by rw [sd.1]; kernel_rfl) ⟨fun hwt ac u K => ?_, fun hwt ac u K => ?_, fun hwt ac u K => ?_, fun hwt ac u K => ?_, fun hwt ac u K => ?_, fun hwt ac u K => ?_, fun hwt ac u K => ?_, fun hwt ac u K => ?_, trivial⟩ ?_
        · exact st_move (.tmp 5) rfl (K.t x5 rfl)
        · exact st_move (.tmp 9) rfl (K.t x9 rfl)
        · exact st_addz (.const (.int .i64 5)) (.tmp 100) rfl _ _ _ rfl (K.dep 1 100 rfl) (by omega) (by omega) (by omega)
        · exact st_move (.tmp 8) rfl (K.t x8 rfl)
        · exact st_move (.tmp 9) rfl (K.t x9 rfl)
        · exact st_idxs (.tmp 102) (.tmp 103) rfl (K.dep 3 102 rfl) (k) (K.dep 4 103 rfl) hlt
        · exact st_loadc 9 (.tmp 104) rfl (by kernel_rfl) (K.dep 5 104 rfl) ((Rs.below hS K.grow).cell hSk)
        · exact st_bstr (.tmp 105) rfl (K.dep 6 105 rfl)
        intro f27 w27 A hb
        replace x0 := A.t x0 rfl
        replace x1 := A.t x1 rfl
        replace x5 := A.t x5 rfl
        replace x6 := A.t x6 rfl
        replace x8 := A.t x8 rfl
        replace x70 := A.t x70 rfl
        replace x71 := A.t x71 rfl
        replace x9 := A.t x9 rfl
        have x99 := A.e 0 99 rfl rfl
        have x101 := A.e 2 101 rfl rfl
        have x106 : Fk.f (.sl (dt9 ps k)) (f27.eval (.tmp 106)) w27 := A.has 7 106 rfl
        replace hd := HD.below hd hb
        replace hW := Rs.below hW hb
        replace hS := Rs.below hS hb
        replace bl := bgo bl hb
        replace sd := A.sd sd
        clear A hb
        clear x9
        obtain ⟨vB, hvB⟩ : ∃ v, v = f27.eval (.tmp 106) := ⟨_, rfl⟩
        have hB : (Fk.sl (dt9 ps k)).f vB w27 := hvB ▸ x106
        have xB := hvB.symm
        clear hvB
        refine wl_call 6 (.func 6) _ _ #[.pointer (some ⟨gd, 0, none⟩), .int .i64 (((5 + k : Nat) : Int)), vB] rfl 107 rfl (by rw [sd.1]; decide) rfl rfl (three_arg x99 x101 xB) Tryz.enter6 (fun u W' => ∃ D2 : Nat → Prop, u = .int .i64 0 ∧ HD W' gd M D2 (s2) ∧ (∀ j, D2 j → DD j ∨ w27.heap.size ≤ j) ∧ Fr M w27 W') ((fk_dtamper hd (by have := gs.has; omega) (((5 + k : Nat) : Int)) hB).mono (by rw [htm]; rintro e w' ⟨D', rfl, q⟩; exact ⟨_, rfl, D', rfl, q⟩)) ?_
        rintro f28 w28 df2 sz2 old2 ⟨D2, x107, hd2, hD2, O⟩
        have lt9 := Rs.lt hW
        replace hW := Rs.keep hW (O.block _ lt9 (fun q => hgDW (hd.sub _ q)))
        replace hgDW : ¬ D2 gW := fun q => (hD2 _ q).elim hgDW (fun q => by omega)
        clear lt9
        have lt9 := Rs.lt hS
        replace hS := Rs.keep hS (O.block _ lt9 (fun q => hgDS (hd.sub _ q)))
        replace hgDS : ¬ D2 gS := fun q => (hD2 _ q).elim hgDS (fun q => by omega)
        clear lt9
        have bl9 := bl.trans (O.below bl.size (fun j q => hDD j (hd.sub j q)))
        replace hDD : ∀ j, D2 j → w.heap.size ≤ j := fun j q => (hD2 j q).elim (hDD j) (fun q => by have := bl.size; omega)
        replace bl := bl9
        replace bl0 := bl
        clear bl9
        replace hd := hd2
        clear hd2 hD2 O
        clear DD
        obtain ⟨DD, rfl⟩ : ∃ E, E = D2 := ⟨_, rfl⟩
        replace x0 := tr old2 x0 rfl
        replace x1 := tr old2 x1 rfl
        replace x5 := tr old2 x5 rfl
        replace x6 := tr old2 x6 rfl
        replace x8 := tr old2 x8 rfl
        replace x70 := tr old2 x70 rfl
        replace x71 := tr old2 x71 rfl
        replace x99 := tr old2 x99 rfl
        replace x101 := tr old2 x101 rfl
        clear x106
        replace sd := sd2 sz2 df2 sd
        clear df2 sz2 old2
        clear xB hB vB
        clear x99
        clear x101
        refine wl_one (.eq (.bool false)) rfl 108 rfl (by rw [sd.1]; decide) (st_neqi 27 (.tmp 107) (.const (.int .i64 0)) rfl .i64 (0) (0) x107 rfl _ (by rfl)) ?_
        intro f29 w29 df2 sz2 old2 new2 hb
        replace x0 := tr old2 x0 rfl
        replace x1 := tr old2 x1 rfl
        replace x5 := tr old2 x5 rfl
        replace x6 := tr old2 x6 rfl
        replace x8 := tr old2 x8 rfl
        replace x70 := tr old2 x70 rfl
        replace x71 := tr old2 x71 rfl
        replace x107 := tr old2 x107 rfl
        have x108 := Fk.e new2
        replace hd := HD.below hd hb
        replace hW := Rs.below hW hb
        replace hS := Rs.below hS hb
        replace bl := bgo bl hb
        replace sd := sd2 sz2 df2 sd
        clear df2 sz2 old2 new2 hb
        refine wpList_nil ?_
        clear x107
        show Code.wp _ _ _ _ _
        refine wp_cond_false x108 ?_
        refine wp_skip ?_
        show Code.wp _ _ _ _ _
        refine wr_s [.eq (.int .i64 ((k + 1 : Nat) : Int))] (by rw [sd.1]; kernel_rfl) ⟨fun hwt ac u K => ?_, trivial⟩ ?_
        · exact st_addz (.tmp 71) (.const (.int .i64 1)) rfl _ _ _ (K.t x71 rfl) rfl (by omega) (by omega) (by omega)
        intro f30 w30 A hb
        replace x0 := A.t x0 rfl
        replace x1 := A.t x1 rfl
        replace x5 := A.t x5 rfl
        replace x6 := A.t x6 rfl
        replace x8 := A.t x8 rfl
        replace x70 := A.t x70 rfl
        replace x71 := A.t x71 rfl
        replace x108 := A.t x108 rfl
        have x109 := A.e 0 109 rfl rfl
        replace hd := HD.below hd hb
        replace hW := Rs.below hW hb
        replace hS := Rs.below hS hb
        replace bl := bgo bl hb
        replace sd := A.sd sd
        clear A hb
        clear x108
        refine wl_one (.eq (.int .i64 ((k + 1 : Nat) : Int))) rfl 71 rfl (by rw [sd.1]; decide) (st_move (.tmp 109) rfl x109) ?_
        intro f31 w31 df2 sz2 old2 new2 hb
        replace x0 := tr old2 x0 rfl
        replace x1 := tr old2 x1 rfl
        replace x5 := tr old2 x5 rfl
        replace x6 := tr old2 x6 rfl
        replace x8 := tr old2 x8 rfl
        replace x70 := tr old2 x70 rfl
        clear x71
        replace x109 := tr old2 x109 rfl
        have x71 := Fk.e new2
        replace hd := HD.below hd hb
        replace hW := Rs.below hW hb
        replace hS := Rs.below hS hb
        replace bl := bgo bl hb
        replace sd := sd2 sz2 df2 sd
        clear df2 sz2 old2 new2 hb
        refine wpList_nil ?_
        clear x109
        show (∃ _, _) ∧ _
        refine ⟨⟨k + 1, s2, DD, by omega, gs2, q2, hDD, hgDW, hgDS, sd.1, sd.2, x0, x1, x5, x6, x8, x70, x71, hd, hW, hS, bl⟩, ?_⟩
        rw [show f31.eval (.tmp 71) = _ from x71, show _ = _ from hcnt]
        first | (simp [intOf]; done) | (simp [intOf]; omega)
      have hdt := dt9_none hkp
      rw [← hdt, rw9_set hlt] at hS
      refine wr_a [.eq (.int .i64 (k : Int)), .eq (vj), .eq (.int .i64 (((ps).length : Nat) : Int)), .eq (.bool false), .eq (.bool false), .any, .any, .any, .any, .any, .any, .eq (.bool false)] (by rw [sd.1]; kernel_rfl) ⟨fun hwt ac u K => ?_, fun hwt ac u K => ?_, fun hwt ac u K => ?_, fun hwt ac u K => ?_, fun hwt ac u K => ?_, fun hwt ac u K => ?_, fun hwt ac u K => ?_, fun hwt ac u K => ?_, fun hwt ac u K => ?_, fun hwt ac u K => ?_, fun hwt ac u K => ?_, fun hwt ac u K => ?_, trivial⟩ ?_
      · exact st_move (.tmp 9) rfl (K.t x9 rfl)
      · exact st_move (.tmp 1) rfl (K.t x1 rfl)
      · exact st_lenm (.tmp 80) rfl (fk_val (K.dep 1 80 rfl) (Fk.mono _ _ _ _ hm (bgo bl K.grow)))
      · exact st_lss 3 (.tmp 79) (.tmp 81) rfl .i64 ((k : Int)) ((((ps).length : Nat) : Int)) (K.dep 0 79 rfl) (K.dep 2 81 rfl) _ (by rw [eq_comm, decide_eq_false_iff_not]; exact fun h => hkp (Int.ofNat_lt.1 h))
      · exact st_move (.tmp 82) rfl (K.dep 3 82 rfl)
      · exact (Bool.false_ne_true hwt).elim
      · exact (Bool.false_ne_true hwt).elim
      · exact (Bool.false_ne_true hwt).elim
      · exact (Bool.false_ne_true hwt).elim
      · exact (Bool.false_ne_true hwt).elim
      · exact (Bool.false_ne_true hwt).elim
      · exact st_pick_f' (.tmp 83) (.tmp 89) (.const (.bool false)) rfl (K.dep 4 83 rfl) rfl
      intro f24 w24 A hb
      replace x0 := A.t x0 rfl
      replace x1 := A.t x1 rfl
      replace x5 := A.t x5 rfl
      replace x6 := A.t x6 rfl
      replace x8 := A.t x8 rfl
      replace x70 := A.t x70 rfl
      replace x71 := A.t x71 rfl
      replace x9 := A.t x9 rfl
      have x90 := A.e 11 90 rfl rfl
      replace hd := HD.below hd hb
      replace hW := Rs.below hW hb
      replace hS := Rs.below hS hb
      replace bl := bgo bl hb
      replace sd := A.sd sd
      clear A hb
      show Code.wp _ _ _ _ _
      refine wp_cond_false x90 ?_
      refine wp_skip ?_
      show Code.wp _ _ _ _ _
      refine wp_seq ?_
      obtain ⟨q1, q2⟩ := hTS.tm (i := 5 + k) (by omega) (b := dt9 ps k) (by rw [dt9_len]; omega)
      rw [upd_succ] at q2
      obtain ⟨s2, hs2⟩ : ∃ x, x = (tmr s ((5 + k : Nat) : Int) (dt9 ps k)).2 := ⟨_, rfl⟩
      have htm : tmr s ((5 + k : Nat) : Int) (dt9 ps k) = (0, s2) := Prod.ext q1 hs2.symm
      rw [← hs2] at q2
      have gs2 := gd_tmr gs ((5 + k : Nat) : Int) (dt9 ps k)
      rw [← hs2] at gs2
      clear q1 hs2
      have hSk : (rw9 (dt9 ps) 4 (k + 1))[k]? = some (dt9 ps k) := by rw [← rw9_set hlt, List.getElem?_set_self (by rw [rw9_len hk8]; exact hlt)]
      refine wr_s [.eq (.pointer (some ⟨gd, 0, none⟩)), .eq (.int .i64 (k : Int)), .eq (.int .i64 ((5 + k : Nat) : Int)), .eq (.slice (some ⟨gS, 0, none⟩) (4) (4)), .eq (.int .i64 (k : Int)), .eq (.pointer (some ⟨gS, k, none⟩)), .eq (.string (str (dt9 ps k))), .sl (dt9 ps k)] (by rw [sd.1]; kernel_rfl) ⟨fun hwt ac u K => ?_, fun hwt ac u K => ?_, fun hwt ac u K => ?_, fun hwt ac u K => ?_, fun hwt ac u K => ?_, fun hwt ac u K => ?_, fun hwt ac u K => ?_, fun hwt ac u K => ?_, trivial⟩ ?_
      · exact st_move (.tmp 5) rfl (K.t x5 rfl)
      · exact st_move (.tmp 9) rfl (K.t x9 rfl)
      · exact st_addz (.const (.int .i64 5)) (.tmp 100) rfl _ _ _ rfl (K.dep 1 100 rfl) (by omega) (by omega) (by omega)
      · exact st_move (.tmp 8) rfl (K.t x8 rfl)
      · exact st_move (.tmp 9) rfl (K.t x9 rfl)
      · exact st_idxs (.tmp 102) (.tmp 103) rfl (K.dep 3 102 rfl) (k) (K.dep 4 103 rfl) hlt
      · exact st_loadc 9 (.tmp 104) rfl (by kernel_rfl) (K.dep 5 104 rfl) ((Rs.below hS K.grow).cell hSk)
      · exact st_bstr (.tmp 105) rfl (K.dep 6 105 rfl)
      intro f25 w25 A hb
      replace x0 := A.t x0 rfl
      replace x1 := A.t x1 rfl
      replace x5 := A.t x5 rfl
      replace x6 := A.t x6 rfl
      replace x8 := A.t x8 rfl
      replace x70 := A.t x70 rfl
      replace x71 := A.t x71 rfl
      replace x9 := A.t x9 rfl
      replace x90 := A.t x90 rfl
      have x99 := A.e 0 99 rfl rfl
      have x101 := A.e 2 101 rfl rfl
      have x106 : Fk.f (.sl (dt9 ps k)) (f25.eval (.tmp 106)) w25 := A.has 7 106 rfl
      replace hd := HD.below hd hb
      replace hW := Rs.below hW hb
      replace hS := Rs.below hS hb
      replace bl := bgo bl hb
      replace sd := A.sd sd
      clear A hb
      clear x9
      clear x90
      obtain ⟨vB, hvB⟩ : ∃ v, v = f25.eval (.tmp 106) := ⟨_, rfl⟩
      have hB : (Fk.sl (dt9 ps k)).f vB w25 := hvB ▸ x106
      have xB := hvB.symm
      clear hvB
      refine wl_call 6 (.func 6) _ _ #[.pointer (some ⟨gd, 0, none⟩), .int .i64 (((5 + k : Nat) : Int)), vB] rfl 107 rfl (by rw [sd.1]; decide) rfl rfl (three_arg x99 x101 xB) Tryz.enter6 (fun u W' => ∃ D2 : Nat → Prop, u = .int .i64 0 ∧ HD W' gd M D2 (s2) ∧ (∀ j, D2 j → DD j ∨ w25.heap.size ≤ j) ∧ Fr M w25 W') ((fk_dtamper hd (by have := gs.has; omega) (((5 + k : Nat) : Int)) hB).mono (by rw [htm]; rintro e w' ⟨D', rfl, q⟩; exact ⟨_, rfl, D', rfl, q⟩)) ?_
      rintro f26 w26 df2 sz2 old2 ⟨D2, x107, hd2, hD2, O⟩
      have lt9 := Rs.lt hW
      replace hW := Rs.keep hW (O.block _ lt9 (fun q => hgDW (hd.sub _ q)))
      replace hgDW : ¬ D2 gW := fun q => (hD2 _ q).elim hgDW (fun q => by omega)
      clear lt9
      have lt9 := Rs.lt hS
      replace hS := Rs.keep hS (O.block _ lt9 (fun q => hgDS (hd.sub _ q)))
      replace hgDS : ¬ D2 gS := fun q => (hD2 _ q).elim hgDS (fun q => by omega)
      clear lt9
      have bl9 := bl.trans (O.below bl.size (fun j q => hDD j (hd.sub j q)))
      replace hDD : ∀ j, D2 j → w.heap.size ≤ j := fun j q => (hD2 j q).elim (hDD j) (fun q => by have := bl.size; omega)
      replace bl := bl9
      replace bl0 := bl
      clear bl9
      replace hd := hd2
      clear hd2 hD2 O
      clear DD
      obtain ⟨DD, rfl⟩ : ∃ E, E = D2 := ⟨_, rfl⟩
      replace x0 := tr old2 x0 rfl
      replace x1 := tr old2 x1 rfl
      replace x5 := tr old2 x5 rfl
      replace x6 := tr old2 x6 rfl
      replace x8 := tr old2 x8 rfl
      replace x70 := tr old2 x70 rfl
      replace x71 := tr old2 x71 rfl
      replace x99 := tr old2 x99 rfl
      replace x101 := tr old2 x101 rfl
      clear x106
      replace sd := sd2 sz2 df2 sd
      clear df2 sz2 old2
      clear xB hB vB
      clear x99
      clear x101
      refine wl_one (.eq (.bool false)) rfl 108 rfl (by rw [sd.1]; decide) (st_neqi 27 (.tmp 107) (.const (.int .i64 0)) rfl .i64 (0) (0) x107 rfl _ (by rfl)) ?_
      intro f27 w27 df2 sz2 old2 new2 hb
      replace x0 := tr old2 x0 rfl
      replace x1 := tr old2 x1 rfl
      replace x5 := tr old2 x5 rfl
      replace x6 := tr old2 x6 rfl
      replace x8 := tr old2 x8 rfl
      replace x70 := tr old2 x70 rfl
      replace x71 := tr old2 x71 rfl
      replace x107 := tr old2 x107 rfl
      have x108 := Fk.e new2
      replace hd := HD.below hd hb
      replace hW := Rs.below hW hb
      replace hS := Rs.below hS hb
      replace bl := bgo bl hb
      replace sd := sd2 sz2 df2 sd
      clear df2 sz2 old2 new2 hb
      refine wpList_nil ?_
      clear x107
      show Code.wp _ _ _ _ _
      refine wp_cond_false x108 ?_
      refine wp_skip ?_
      show Code.wp _ _ _ _ _
      refine wr_s [.eq (.int .i64 ((k + 1 : Nat) : Int))] (by rw [sd.1]; kernel_rfl) ⟨fun hwt ac u K => ?_, trivial⟩ ?_
      · exact st_addz (.tmp 71) (.const (.int .i64 1)) rfl _ _ _ (K.t x71 rfl) rfl (by omega) (by omega) (by omega)
      intro f28 w28 A hb
      replace x0 := A.t x0 rfl
      replace x1 := A.t x1 rfl
      replace x5 := A.t x5 rfl
      replace x6 := A.t x6 rfl
      replace x8 := A.t x8 rfl
      replace x70 := A.t x70 rfl
      replace x71 := A.t x71 rfl
      replace x108 := A.t x108 rfl
      have x109 := A.e 0 109 rfl rfl
      replace hd := HD.below hd hb
      replace hW := Rs.below hW hb
      replace hS := Rs.below hS hb
      replace bl := bgo bl hb
      replace sd := A.sd sd
      clear A hb
      clear x108
      refine wl_one (.eq (.int .i64 ((k + 1 : Nat) : Int))) rfl 71 rfl (by rw [sd.1]; decide) (st_move (.tmp 109) rfl x109) ?_
      intro f29 w29 df2 sz2 old2 new2 hb
      replace x0 := tr old2 x0 rfl
      replace x1 := tr old2 x1 rfl
      replace x5 := tr old2 x5 rfl
      replace x6 := tr old2 x6 rfl
      replace x8 := tr old2 x8 rfl
      replace x70 := tr old2 x70 rfl
      clear x71
      replace x109 := tr old2 x109 rfl
      have x71 := Fk.e new2
      replace hd := HD.below hd hb
      replace hW := Rs.below hW hb
      replace hS := Rs.below hS hb
      replace bl := bgo bl hb
      replace sd := sd2 sz2 df2 sd
      clear df2 sz2 old2 new2 hb
      refine wpList_nil ?_
      clear x109
      show (∃ _, _) ∧ _
      refine ⟨⟨k + 1, s2, DD, by omega, gs2, q2, hDD, hgDW, hgDS, sd.1, sd.2, x0, x1, x5, x6, x8, x70, x71, hd, hW, hS, bl⟩, ?_⟩
      rw [show f29.eval (.tmp 71) = _ from x71, show _ = _ from hcnt]
      first | (simp [intOf]; done) | (simp [intOf]; omega)
    refine wr_a [.eq (.bool true)] (by rw [sd.1]; kernel_rfl) ⟨fun hwt ac u K => ?_, trivial⟩ ?_
    · exact st_lss 3 (.tmp 47) (.tmp 46) rfl .i64 ((k : Int)) (((4 : Nat) : Int)) (K.t x47 rfl) (K.t x46 rfl) _ (by rw [eq_comm, decide_eq_true_iff]; exact Int.ofNat_lt.2 hlt)
    intro f14 w14 A hb
    replace x0 := A.t x0 rfl
    replace x1 := A.t x1 rfl
    replace x5 := A.t x5 rfl
    replace x6 := A.t x6 rfl
    replace x46 := A.t x46 rfl
    replace x47 := A.t x47 rfl
    have x48 := A.e 0 48 rfl rfl
    replace hd := HD.below hd hb
    replace hW := Rs.below hW hb
    replace bl := bgo bl hb
    replace sd := A.sd sd
    clear A hb
    show Code.wp _ _ _ _ _
    refine wp_seq ?_
    refine wp_cond_true x48 ?_
    refine wp_skip ?_
    show Code.wp _ _ _ _ _
    refine wp_seq ?_
    refine wp_block ?_
    refine wp_seq ?_
    refine wr_a [.eq (.int .i64 (k : Int)), .eq (.int .i64 (k : Int))] (by rw [sd.1]; kernel_rfl) ⟨fun hwt ac u K => ?_, fun hwt ac u K => ?_, trivial⟩ ?_
    · exact st_move (.tmp 47) rfl (K.t x47 rfl)
    · exact st_assign (.tmp 49) rfl (K.dep 0 49 rfl)
    intro f15 w15 A hb
    replace x0 := A.t x0 rfl
    replace x1 := A.t x1 rfl
    replace x5 := A.t x5 rfl
    replace x6 := A.t x6 rfl
    replace x46 := A.t x46 rfl
    replace x47 := A.t x47 rfl
    replace x48 := A.t x48 rfl
    have x7 := A.e 1 7 rfl rfl
    replace hd := HD.below hd hb
    replace hW := Rs.below hW hb
    replace bl := bgo bl hb
    replace sd := A.sd sd
    clear A hb
    clear x48
    show Code.wp _ _ _ _ _
    refine wp_seq ?_
    refine wr_s [.eq (.slice (some ⟨gW, 0, none⟩) (4) (4)), .eq (.int .i64 (k : Int)), .eq (.int .i64 (k : Int)), .eq (.int .i64 ((k + 1 : Nat) : Int)), .eq (V (kb (((k + 1 : Nat) : Int)))), .sl (List.replicate 64 (kb ((k + 1 : Nat) : Int))), .eq (.string (str (List.replicate 64 (kb ((k + 1 : Nat) : Int))))), .eq (.pointer (some ⟨gW, k, none⟩))] (by rw [sd.1]; kernel_rfl) ⟨fun hwt ac u K => ?_, fun hwt ac u K => ?_, fun hwt ac u K => ?_, fun hwt ac u K => ?_, fun hwt ac u K => ?_, fun hwt ac u K => ?_, fun hwt ac u K => ?_, fun hwt ac u K => ?_, trivial⟩ ?_
    · exact st_move (.tmp 6) rfl (K.t x6 rfl)
    · exact st_move (.tmp 7) rfl (K.t x7 rfl)
    · exact st_move (.tmp 7) rfl (K.t x7 rfl)
    · exact st_addz (.tmp 52) (.const (.int .i64 1)) rfl _ _ _ (K.dep 2 52 rfl) rfl (by omega) (by omega) (by omega)
    · exact st_conv8 (.tmp 53) rfl _ (K.dep 3 53 rfl)
    · exact st_call 7 (.func 7) _ _ _ rfl rfl (one_arg (K.dep 4 54 rfl)) Tryz.enter7 (full64_sl _ _)
    · exact st_stra (.tmp 55) rfl (K.dep 5 55 rfl)
    · exact st_idxs (.tmp 50) (.tmp 51) rfl (K.dep 0 50 rfl) (k) (K.dep 1 51 rfl) hlt
    intro f16 w16 A hb
    replace x0 := A.t x0 rfl
    replace x1 := A.t x1 rfl
    replace x5 := A.t x5 rfl
    replace x6 := A.t x6 rfl
    replace x46 := A.t x46 rfl
    replace x47 := A.t x47 rfl
    replace x7 := A.t x7 rfl
    have x56 := A.e 6 56 rfl rfl
    have x57 := A.e 7 57 rfl rfl
    replace hd := HD.below hd hb
    replace hW := Rs.below hW hb
    replace bl := bgo bl hb
    replace sd := A.sd sd
    clear A hb
    refine wl_stc 9 rfl (.tmp 57) (.tmp 56) rfl rfl (by kernel_rfl) gW (k) (.string (str (fl9 k))) x57 x56 rfl rfl (hW.there (by rw [rw9_len hk8]; exact hlt)) ?_
    replace hW := Rs.set hW (i := k) (by rw [rw9_len hk8]; exact hlt) (fl9 k)
    rw [rw9_set hlt] at hW
    replace hd := hd.keep (fun j q => ((Only.refl gW w16).setCell (k) (.string (str (fl9 k)))).block j (hd.lt j q) (fun e => hgDW (e ▸ q))) ((Only.refl gW w16).setCell (k) (.string (str (fl9 k)))).size
    replace bl : Below w.heap.size w (w16.setCell ⟨gW, k, none⟩ (.string (str (fl9 k)))) := bl.trans (below_setCell _ _ _ _ _ hwgW)
    generalize w16.setCell ⟨gW, k, none⟩ (.string (str (fl9 k))) = w17b at bl hW hd ⊢
    replace bl0 := bl
    refine wpList_nil ?_
    clear x56
    clear x57
    show Code.wp _ _ _ _ _
    refine wp_seq ?_
    obtain ⟨q1, q2⟩ := hTS.tm (i := 1 + k) (by omega) (b := fl9 k) (by rw [fl9_len]; omega)
    rw [upd_succ] at q2
    obtain ⟨s2, hs2⟩ : ∃ x, x = (tmr s ((1 + k : Nat) : Int) (fl9 k)).2 := ⟨_, rfl⟩
    have htm : tmr s ((1 + k : Nat) : Int) (fl9 k) = (0, s2) := Prod.ext q1 hs2.symm
    rw [← hs2] at q2
    have gs2 := gd_tmr gs ((1 + k : Nat) : Int) (fl9 k)
    rw [← hs2] at gs2
    clear q1 hs2
    refine wr_s [.eq (.pointer (some ⟨gd, 0, none⟩)), .eq (.int .i64 (k : Int)), .eq (.int .i64 ((1 + k : Nat) : Int)), .eq (.int .i64 (k : Int)), .eq (.int .i64 ((k + 1 : Nat) : Int)), .eq (V (kb (((k + 1 : Nat) : Int)))), .sl (List.replicate 64 (kb ((k + 1 : Nat) : Int)))] (by rw [sd.1]; kernel_rfl) ⟨fun hwt ac u K => ?_, fun hwt ac u K => ?_, fun hwt ac u K => ?_, fun hwt ac u K => ?_, fun hwt ac u K => ?_, fun hwt ac u K => ?_, fun hwt ac u K => ?_, trivial⟩ ?_
    · exact st_move (.tmp 5) rfl (K.t x5 rfl)
    · exact st_move (.tmp 7) rfl (K.t x7 rfl)
    · exact st_addz (.const (.int .i64 1)) (.tmp 59) rfl _ _ _ rfl (K.dep 1 59 rfl) (by omega) (by omega) (by omega)
    · exact st_move (.tmp 7) rfl (K.t x7 rfl)
    · exact st_addz (.tmp 61) (.const (.int .i64 1)) rfl _ _ _ (K.dep 3 61 rfl) rfl (by omega) (by omega) (by omega)
    · exact st_conv8 (.tmp 62) rfl _ (K.dep 4 62 rfl)
    · exact st_call 7 (.func 7) _ _ _ rfl rfl (one_arg (K.dep 5 63 rfl)) Tryz.enter7 (full64_sl _ _)
    intro f18 w18 A hb
    replace x0 := A.t x0 rfl
    replace x1 := A.t x1 rfl
    replace x5 := A.t x5 rfl
    replace x6 := A.t x6 rfl
    replace x46 := A.t x46 rfl
    replace x47 := A.t x47 rfl
    replace x7 := A.t x7 rfl
    have x58 := A.e 0 58 rfl rfl
    have x60 := A.e 2 60 rfl rfl
    have x64 : Fk.f (.sl (List.replicate 64 (kb ((k + 1 : Nat) : Int)))) (f18.eval (.tmp 64)) w18 := A.has 6 64 rfl
    replace hd := HD.below hd hb
    replace hW := Rs.below hW hb
    replace bl := bgo bl hb
    replace sd := A.sd sd
    clear A hb
    clear x7
    obtain ⟨vB, hvB⟩ : ∃ v, v = f18.eval (.tmp 64) := ⟨_, rfl⟩
    have hB : (Fk.sl (fl9 k)).f vB w18 := hvB ▸ x64
    have xB := hvB.symm
    clear hvB
    refine wl_call 6 (.func 6) _ _ #[.pointer (some ⟨gd, 0, none⟩), .int .i64 (((1 + k : Nat) : Int)), vB] rfl 65 rfl (by rw [sd.1]; decide) rfl rfl (three_arg x58 x60 xB) Tryz.enter6 (fun u W' => ∃ D2 : Nat → Prop, u = .int .i64 0 ∧ HD W' gd M D2 (s2) ∧ (∀ j, D2 j → DD j ∨ w18.heap.size ≤ j) ∧ Fr M w18 W') ((fk_dtamper hd (by have := gs.has; omega) (((1 + k : Nat) : Int)) hB).mono (by rw [htm]; rintro e w' ⟨D', rfl, q⟩; exact ⟨_, rfl, D', rfl, q⟩)) ?_
    rintro f19 w19 df2 sz2 old2 ⟨D2, x65, hd2, hD2, O⟩
    have lt9 := Rs.lt hW
    replace hW := Rs.keep hW (O.block _ lt9 (fun q => hgDW (hd.sub _ q)))
    replace hgDW : ¬ D2 gW := fun q => (hD2 _ q).elim hgDW (fun q => by omega)
    clear lt9
    have bl9 := bl.trans (O.below bl.size (fun j q => hDD j (hd.sub j q)))
    replace hDD : ∀ j, D2 j → w.heap.size ≤ j := fun j q => (hD2 j q).elim (hDD j) (fun q => by have := bl.size; omega)
    replace bl := bl9
    replace bl0 := bl
    clear bl9
    replace hd := hd2
    clear hd2 hD2 O
    clear DD
    obtain ⟨DD, rfl⟩ : ∃ E, E = D2 := ⟨_, rfl⟩
    replace x0 := tr old2 x0 rfl
    replace x1 := tr old2 x1 rfl
    replace x5 := tr old2 x5 rfl
    replace x6 := tr old2 x6 rfl
    replace x46 := tr old2 x46 rfl
    replace x47 := tr old2 x47 rfl
    replace x58 := tr old2 x58 rfl
    replace x60 := tr old2 x60 rfl
    clear x64
    replace sd := sd2 sz2 df2 sd
    clear df2 sz2 old2
    clear xB hB vB
    clear x58
    clear x60
    refine wl_one (.eq (.bool false)) rfl 66 rfl (by rw [sd.1]; decide) (st_neqi 27 (.tmp 65) (.const (.int .i64 0)) rfl .i64 (0) (0) x65 rfl _ (by rfl)) ?_
    intro f20 w20 df2 sz2 old2 new2 hb
    replace x0 := tr old2 x0 rfl
    replace x1 := tr old2 x1 rfl
    replace x5 := tr old2 x5 rfl
    replace x6 := tr old2 x6 rfl
    replace x46 := tr old2 x46 rfl
    replace x47 := tr old2 x47 rfl
    replace x65 := tr old2 x65 rfl
    have x66 := Fk.e new2
    replace hd := HD.below hd hb
    replace hW := Rs.below hW hb
    replace bl := bgo bl hb
    replace sd := sd2 sz2 df2 sd
    clear df2 sz2 old2 new2 hb
    refine wpList_nil ?_
    clear x65
    show Code.wp _ _ _ _ _
    refine wp_cond_false x66 ?_
    refine wp_skip ?_
    show Code.wp _ _ _ _ _
    refine wr_s [.eq (.int .i64 ((k + 1 : Nat) : Int))] (by rw [sd.1]; kernel_rfl) ⟨fun hwt ac u K => ?_, trivial⟩ ?_
    · exact st_addz (.tmp 47) (.const (.int .i64 1)) rfl _ _ _ (K.t x47 rfl) rfl (by omega) (by omega) (by omega)
    intro f21 w21 A hb
    replace x0 := A.t x0 rfl
    replace x1 := A.t x1 rfl
    replace x5 := A.t x5 rfl
    replace x6 := A.t x6 rfl
    replace x46 := A.t x46 rfl
    replace x47 := A.t x47 rfl
    replace x66 := A.t x66 rfl
    have x67 := A.e 0 67 rfl rfl
    replace hd := HD.below hd hb
    replace hW := Rs.below hW hb
    replace bl := bgo bl hb
    replace sd := A.sd sd
    clear A hb
    clear x66
    refine wl_one (.eq (.int .i64 ((k + 1 : Nat) : Int))) rfl 47 rfl (by rw [sd.1]; decide) (st_move (.tmp 67) rfl x67) ?_
    intro f22 w22 df2 sz2 old2 new2 hb
    replace x0 := tr old2 x0 rfl
    replace x1 := tr old2 x1 rfl
    replace x5 := tr old2 x5 rfl
    replace x6 := tr old2 x6 rfl
    replace x46 := tr old2 x46 rfl
    clear x47
    replace x67 := tr old2 x67 rfl
    have x47 := Fk.e new2
    replace hd := HD.below hd hb
    replace hW := Rs.below hW hb
    replace bl := bgo bl hb
    replace sd := sd2 sz2 df2 sd
    clear df2 sz2 old2 new2 hb
    refine wpList_nil ?_
    clear x67
    show (∃ _, _) ∧ _
    refine ⟨⟨k + 1, s2, DD, by omega, gs2, q2, hDD, hgDW, sd.1, sd.2, x0, x1, x5, x6, x46, x47, hd, hW, bl⟩, ?_⟩
    rw [show f22.eval (.tmp 47) = _ from x47, show _ = _ from hcnt]
    first | (simp [intOf]; done) | (simp [intOf]; omega)
  refine wr_a [.eq (.pointer (some ⟨gd, 0, none⟩)), .eq (.bool false), .eq (.bool false), .eq (vj), .eq (.int .i64 (((ps).length : Nat) : Int)), .eq (.bool true), .eq (.bool true)] (by rw [sd.1]; kernel_rfl) ⟨fun hwt ac u K => ?_, fun hwt ac u K => ?_, fun hwt ac u K => ?_, fun hwt ac u K => ?_, fun hwt ac u K => ?_, fun hwt ac u K => ?_, fun hwt ac u K => ?_, trivial⟩ ?_
  · exact st_move (.tmp 5) rfl (K.t x5 rfl)
  · exact st_bin .eql 24 24 (.tmp 22) _ rfl (K.dep 0 22 rfl) rfl (by kernel_rfl)
  · exact st_move (.tmp 23) rfl (K.dep 1 23 rfl)
  · exact st_move (.tmp 1) rfl (K.t x1 rfl)
  · exact st_lenm (.tmp 25) rfl (fk_val (K.dep 3 25 rfl) (Fk.mono _ _ _ _ hm (bgo bl K.grow)))
  · exact st_gtr 3 (.tmp 26) (.const (.int .i64 10)) rfl .i64 ((((ps).length : Nat) : Int)) (10) (K.dep 4 26 rfl) rfl _ (by rw [eq_comm, decide_eq_true_iff]; omega)
  · exact st_pick_f' (.tmp 24) (.const (.bool true)) (.tmp 27) rfl (K.dep 2 24 rfl) (K.dep 5 27 rfl)
  intro f5 w5 A hb
  replace x0 := A.t x0 rfl
  replace x1 := A.t x1 rfl
  replace x5 := A.t x5 rfl
  have x28 := A.e 6 28 rfl rfl
  replace hd := HD.below hd hb
  replace bl := bgo bl hb
  replace sd := A.sd sd
  clear A hb
  show Code.wp _ _ _ _ _
  refine wp_cond_true x28 ?_
  refine wp_seq ?_
  refine wr_a [.eq (.pointer (some ⟨gd, 0, none⟩)), .eq (.bool true), .eq (.bool true), .eq (.bool true), .eq (.bool true), .eq (.bool true)] (by rw [sd.1]; kernel_rfl) ⟨fun hwt ac u K => ?_, fun hwt ac u K => ?_, fun hwt ac u K => ?_, fun hwt ac u K => ?_, fun hwt ac u K => ?_, fun hwt ac u K => ?_, trivial⟩ ?_
  · exact st_move (.tmp 5) rfl (K.t x5 rfl)
  · exact st_bin .neq 24 24 (.tmp 29) _ rfl (K.dep 0 29 rfl) rfl (by kernel_rfl)
  · exact st_move (.tmp 30) rfl (K.dep 1 30 rfl)
  · exact st_call 5 (.func 5) _ _ _ rfl rfl rfl Tryz.enter5 (awake12 _)
  · exact st_pick_t (.tmp 31) (.tmp 32) (.const (.bool false)) rfl (K.dep 2 31 rfl) (K.dep 3 32 rfl)
  · exact st_assign (.tmp 33) rfl (K.dep 4 33 rfl)
  intro f6 w6 A hb
  replace x0 := A.t x0 rfl
  replace x1 := A.t x1 rfl
  replace x5 := A.t x5 rfl
  replace x28 := A.t x28 rfl
  have x4 := A.e 5 4 rfl rfl
  replace hd := HD.below hd hb
  replace bl := bgo bl hb
  replace sd := A.sd sd
  clear A hb
  clear x0
  clear x1
  clear x5
  clear x28
  show Code.wp _ _ _ _ _
  refine wp_ret ?_
  repeat (first | with_reducible refine then_ret ?_ | with_reducible refine block_ret ?_)
  exact bodyPost_ret (v := .bool true) (ret_slot rfl f6 _ x4 _ _) sd.2 ⟨rfl, bl⟩
end Go.Proofs.YtakdpkoigijonaaGreat
