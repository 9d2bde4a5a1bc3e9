/- grown. -/
import Derived.Test.YtfmeeimhfdnjpaaDoorM15
namespace Go.Proofs.YtfmeeimhfdnjpaaDoor
set_option maxRecDepth 100000
open Go.RowKit
theorem bys_cut {po pn : List Pt} {k : Nat} (hk : k ≤ po.length) (h1 : bys (po.take k) = bys (pn.take k)) (h : bys po ≠ (bys pn).take po.length) : bys (po.drop k) ≠ (bys (pn.drop k)).take (po.drop k).length := by
  intro e
  apply h
  rw [bys_take, bys_take] at h1
  rw [bys_drop, bys_drop, List.length_drop] at e
  rw [← List.take_append_drop k (bys po), h1, e, ← List.drop_take]
  have e2 : (bys pn).take k = ((bys pn).take po.length).take k := by rw [List.take_take, Nat.min_eq_left hk]
  rw [e2, List.take_append_drop]
theorem bys_cutl {po pn : List Pt} {k : Nat} (hk : po.length ≤ k) (h : bys po ≠ (bys pn).take po.length) : bys po ≠ (bys (pn.take k)).take po.length := by
  rw [bys_take, List.take_take, Nat.min_eq_left hk]
  exact h
theorem gldl {po pn : List Pt} {k : Nat} {Q : List (List (BitVec 8))} {x y : List (BitVec 8)} (h2 : 2 ≤ pn.length) (hk : spl pn.length = k) (hm : po.length < pn.length) (hj : po.length ≤ k) (h : Led po.length pn.length Q x y) (hy : mroot (lhs pn) = y) :
    ∃ P0 z s, Q = P0 ++ [z] ∧ Led po.length k P0 x s ∧ nd (mroot (lhs (pn.take k))) (mroot (lhs (pn.drop k))) = nd s z := by
  obtain ⟨P0, z, s, h1, h3, h4⟩ := led_left h2 (by omega) (by rw [hk]; exact hj) h
  refine ⟨P0, z, s, h1, by rw [hk] at h3; exact h3, ?_⟩
  rw [← h4, ← hy, mroot_two (l := lhs pn) (by rw [lhs_len]; exact h2), lhs_len, hk, lhs_take, lhs_drop]
theorem gldr {po pn : List Pt} {k : Nat} {Q : List (List (BitVec 8))} {x y : List (BitVec 8)} (h2 : 2 ≤ pn.length) (hk : spl pn.length = k) (hm : po.length < pn.length) (hj : ¬ po.length ≤ k) (h : Led po.length pn.length Q x y) (hx : mroot (lhs po) = x) (hy : mroot (lhs pn) = y) :
    ∃ P0 z r s, Q = P0 ++ [z] ∧ Led (po.length - k) (pn.length - k) P0 r s ∧ spl po.length = k ∧ nd (mroot (lhs (po.take k))) (mroot (lhs (po.drop k))) = nd z r ∧ nd (mroot (lhs (pn.take k))) (mroot (lhs (pn.drop k))) = nd z s := by
  obtain ⟨P0, z, r, s, h1, h3, h4, h5⟩ := led_right h2 (by omega) (by rw [hk]; exact hj) h
  have hp : 1 ≤ k := by rw [← hk]; exact spl_pos _
  have hs : spl po.length = k := by rw [← hk]; exact spl_between h2 (by omega) (by omega)
  refine ⟨P0, z, r, s, h1, by rw [hk] at h3; exact h3, hs, ?_, ?_⟩
  · rw [← h4, ← hx, mroot_two (l := lhs po) (by rw [lhs_len]; omega), lhs_len, hs, lhs_take, lhs_drop]
  · rw [← h5, ← hy, mroot_two (l := lhs pn) (by rw [lhs_len]; exact h2), lhs_len, hk, lhs_take, lhs_drop]
set_option maxHeartbeats 2000000 in
theorem fk_grown {po pn : List Pt} (hso : smallP po) (hsn : smallP pn) (h1 : 1 ≤ po.length) (hle : po.length ≤ pn.length) (hne : bys po ≠ (bys pn).take po.length) {P : List (List (BitVec 8))} (hL : Led po.length pn.length P (mroot (lhs po)) (mroot (lhs pn))) {w : World} {vo vn vp : Value} (ho : (Fk.mc po).f vo w) (hn : (Fk.mc pn).f vn w) (hp : (Fk.hc P).f vp w) (hK : Tab w) :
    Calls Tryd.prog 36 #[vo, vn, vp] w fun e w' => ∃ u, e = .returned u ∧ (Fk.cv true).f u w' ∧ Below w.heap.size w w' := by
  go_enter Tryd.func36, Tryd.ntmps36
  refine code_both (fun f w1 => f.tmps.size = 130 ∧ f.defers = [] ∧ f.eval (.tmp 0) = vo ∧ f.eval (.tmp 1) = vn ∧ f.eval (.tmp 2) = vp ∧ Below w.heap.size w (w1)) ⟨rfl, rfl, rfl, rfl, rfl, Below.refl _ _⟩ ?_
  rintro f0 w0 ⟨sz, df, x0, x1, x2, bl⟩
  have sd := And.intro sz df
  clear sz df
  have bl0 := bl
  refine wp_seq ?_
  refine wr_s [] (by rw [sd.1]; kernel_rfl) trivial ?_
  intro f1 w1 A hb
  replace x0 := A.t x0 rfl
  replace x1 := A.t x1 rfl
  replace x2 := A.t x2 rfl
  replace bl := bgo bl hb
  replace sd := A.sd sd
  clear A hb
  refine wl_one (.nw w1.heap.size 25 [.slice none 0 0, .slice none 0 0]) rfl 6 rfl (by rw [sd.1]; decide) (st_alloc 25 rfl _ _ (by kernel_rfl) (Nat.le_refl _)) ?_
  intro f2 w2 df2 sz2 old2 new2 hb
  replace bl0 := bl
  replace x0 := tr old2 x0 rfl
  replace x1 := tr old2 x1 rfl
  replace x2 := tr old2 x2 rfl
  have x6 : Fk.f (.nw w1.heap.size 25 [.slice none 0 0, .slice none 0 0]) (f2.eval (.tmp 6)) w2 := new2
  replace bl := bgo bl hb
  replace sd := sd2 sz2 df2 sd
  clear df2 sz2 old2 new2 hb
  obtain ⟨g6, hg6, e6, m6⟩ := x6
  have x6 := e6
  clear e6
  have hw6 : w.heap.size ≤ g6 := Nat.le_trans bl0.size hg6
  refine wpList_nil ?_
  show Code.wp _ _ _ _ _
  refine wp_seq ?_
  refine wp_block ?_
  refine wp_loop (fun f v1 => ∃ (qo qn : List Pt) (Q : List (List (BitVec 8))), smallP qo ∧ smallP qn ∧ 1 ≤ qo.length ∧ qo.length ≤ qn.length ∧ bys qo ≠ (bys qn).take qo.length ∧ Led qo.length qn.length Q (mroot (lhs qo)) (mroot (lhs qn)) ∧ f.tmps.size = 130 ∧ f.defers = [] ∧ f.eval (.tmp 6) = .pointer (some ⟨g6, 0, none⟩) ∧ Fk.f (.mc (qo)) (f.eval (.tmp 0)) v1 ∧ Fk.f (.mc (qn)) (f.eval (.tmp 1)) v1 ∧ Fk.f (.hc (Q)) (f.eval (.tmp 2)) v1 ∧ Ob v1 (g6) 25 ([.slice none 0 0, .slice none 0 0]) ∧ Below w.heap.size w (v1)) (fun f _ => slen (f.eval (.tmp 1))) ⟨po, pn, P, hso, hsn, h1, hle, hne, hL, sd.1, sd.2, x6, (by rw [x0]; exact Fk.mono _ _ _ _ ho bl), (by rw [x1]; exact Fk.mono _ _ _ _ hn bl), (by rw [x2]; exact Fk.mono _ _ _ _ hp bl), m6, bl⟩ ?_
  intro f3 w3 hI
  clear sd bl bl0 x0 x1 x2 x6 m6
  obtain ⟨qo, qn, Q, hso, hsn, h1, hle, hne, hL, sz, df, x6, x0, x1, x2, m6, bl⟩ := hI
  have sd := And.intro sz df
  clear sz df
  have bl0 := bl
  have hcnt : slen (f3.eval (.tmp 1)) = qn.length := slen_mc x1
  refine wp_seq ?_
  refine wp_seq ?_
  have h40 := hsn.2
  by_cases hlt : qo.length < qn.length
  rotate_left
  · skip
    have hll : qo.length = qn.length := by omega
    have hrt : mroot (lhs qo) = mroot (lhs qn) := by rw [hll] at hL; exact (led_one hL).2.symm
    have hbb : bys qo ≠ bys qn := fun e => hne (by rw [e, List.take_of_length_le (by rw [bys_len]; omega)])
    refine wr_a [.mc (qo), .eq (.int .i64 (((qo).length : Nat) : Int)), .mc (qn), .eq (.int .i64 (((qn).length : Nat) : Int)), .eq (.bool false)] (by rw [sd.1]; kernel_rfl) ⟨fun hw ac u K => ?_, fun hw ac u K => ?_, fun hw ac u K => ?_, fun hw ac u K => ?_, fun hw ac u K => ?_, trivial⟩ ?_
    · exact st_move (.tmp 0) rfl (f_at (K.old 0 rfl) (Fk.mono _ _ _ _ x0 K.grow))
    · exact st_lenm (.tmp 25) rfl (mc_mg (K.dep 0 25 rfl))
    · exact st_move (.tmp 1) rfl (f_at (K.old 1 rfl) (Fk.mono _ _ _ _ x1 K.grow))
    · exact st_lenm (.tmp 27) rfl (mc_mg (K.dep 2 27 rfl))
    · exact st_lss 3 (.tmp 26) (.tmp 28) rfl .i64 ((((qo).length : Nat) : Int)) ((((qn).length : Nat) : Int)) (K.dep 1 26 rfl) (K.dep 3 28 rfl) _ (by symm; rw [decide_eq_false_iff_not]; exact (by omega))
    intro f4 w4 A hb
    replace x0 := f_at (A.old 0 rfl) (Fk.mono _ _ _ _ x0 hb)
    replace x1 := f_at (A.old 1 rfl) (Fk.mono _ _ _ _ x1 hb)
    replace x2 := f_at (A.old 2 rfl) (Fk.mono _ _ _ _ x2 hb)
    replace x6 := A.t x6 rfl
    have x29 := A.e 4 29 rfl rfl
    replace m6 := Ob.below m6 hb
    replace bl := bgo bl hb
    replace sd := A.sd sd
    clear A hb
    show Code.wp _ _ _ _ _
    refine wp_cond_false x29 ?_
    refine wp_exit ?_
    show Code.wp _ _ _ _ _
    refine wp_seq ?_
    refine wr_s [.mc (qo), .mc (qn), .c2 true, .c2 true, .cv true, .eq (.bool true), .nw w4.heap.size 25 [.slice none 0 0, .slice none 0 0]] (by rw [sd.1]; kernel_rfl) ⟨fun hw ac u K => ?_, fun hw ac u K => ?_, fun hw ac u K => ?_, fun hw ac u K => ?_, fun hw ac u K => ?_, fun hw ac u K => ?_, fun hw ac u K => ?_, trivial⟩ ?_
    · exact st_move (.tmp 0) rfl (f_at (K.old 0 rfl) (Fk.mono _ _ _ _ x0 K.grow))
    · exact st_move (.tmp 1) rfl (f_at (K.old 1 rfl) (Fk.mono _ _ _ _ x1 K.grow))
    · exact st_call 12 (.func 12) _ _ _ rfl rfl (arg2 rfl rfl) Tryd.enter12 (fk_lists hso hsn (K.dep 0 124 rfl) (K.dep 1 125 rfl) (hK.below (bgo bl K.grow)) (by symm; rw [decide_eq_true_iff]; exact ⟨hll, hrt, hbb⟩))
    · exact st_move (.tmp 126) rfl (K.dep 2 126 rfl)
    · exact st_c2a (.tmp 123) rfl (K.dep 3 123 rfl)
    · exact st_c2b (.tmp 123) rfl (K.dep 3 123 rfl)
    · exact st_alloc 25 rfl _ _ (by kernel_rfl) K.grow.size
    intro f5 w5 A hb
    have S_x0 : Fk.f (.mc (qo)) (f5.eval (.tmp 0)) w4 := f_at (A.old 0 rfl) x0
    have S_x1 : Fk.f (.mc (qn)) (f5.eval (.tmp 1)) w4 := f_at (A.old 1 rfl) x1
    have S_x2 : Fk.f (.hc (Q)) (f5.eval (.tmp 2)) w4 := f_at (A.old 2 rfl) x2
    have hbS0 := Below.refl w4.heap.size w4
    have hbS := hb
    replace bl0 := bl
    replace x0 := f_at (A.old 0 rfl) (Fk.mono _ _ _ _ x0 hb)
    replace x1 := f_at (A.old 1 rfl) (Fk.mono _ _ _ _ x1 hb)
    replace x2 := f_at (A.old 2 rfl) (Fk.mono _ _ _ _ x2 hb)
    replace x6 := A.t x6 rfl
    replace x29 := A.t x29 rfl
    have x23 : Fk.f (.nw w4.heap.size 25 [.slice none 0 0, .slice none 0 0]) (f5.eval (.tmp 23)) w5 := A.has 6 23 rfl
    have x127 : Fk.f (.cv true) (f5.eval (.tmp 127)) w5 := A.has 4 127 rfl
    have x128 := A.e 5 128 rfl rfl
    have lt_m6 := Ob.lt m6
    replace m6 := Ob.below m6 hb
    replace bl := bgo bl hb
    replace sd := A.sd sd
    clear A hb
    clear x29
    obtain ⟨g23, hg23, e23, m23⟩ := x23
    have x23 := e23
    clear e23
    have nm6_23 : g6 ≠ g23 := Nat.ne_of_lt (Nat.lt_of_lt_of_le lt_m6 hg23)
    have hw23 : w.heap.size ≤ g23 := Nat.le_trans bl0.size hg23
    have hs23 := Nat.le_trans hbS0.size hg23
    obtain ⟨Av, Bv, uv, vv, ev, hAv, hBv, lAv, lBv, hrv⟩ := x127
    obtain ⟨pAv, mAv, cAv, _, _, rfl, _⟩ := id hAv
    obtain ⟨pBv, mBv, cBv, _, _, rfl, _⟩ := id hBv
    have x127 := ev
    clear ev
    refine wl_str rfl 25 (.tmp 23) (.tmp 127) rfl rfl (g23) ([.slice pAv mAv cAv, .slice pBv mBv cBv] : List Value).toArray x23 x127 25 _ m23 (by kernel_rfl) (by kernel_rfl) (by kernel_rfl) ?_
    replace hAv := sl_setRow (ds := ([.slice pAv mAv cAv, .slice pBv mBv cBv] : List Value).toArray) hAv m23
    replace hBv := sl_setRow (ds := ([.slice pAv mAv cAv, .slice pBv mBv cBv] : List Value).toArray) hBv m23
    replace m6 : Ob (w5.setRow g23 ([.slice pAv mAv cAv, .slice pBv mBv cBv] : List Value).toArray) (g6) 25 ([.slice none 0 0, .slice none 0 0]) := Ob.setRow_other m6 _ nm6_23
    replace m23 : Ob (w5.setRow g23 ([.slice pAv mAv cAv, .slice pBv mBv cBv] : List Value).toArray) (g23) 25 ([.slice pAv mAv cAv, .slice pBv mBv cBv]) := Ob.setRow m23 ([.slice pAv mAv cAv, .slice pBv mBv cBv])
    replace hbS : Below _ _ (w5.setRow g23 ([.slice pAv mAv cAv, .slice pBv mBv cBv] : List Value).toArray) := hbS.trans (below_setRow _ _ _ _ hs23)
    replace bl : Below w.heap.size w (w5.setRow g23 ([.slice pAv mAv cAv, .slice pBv mBv cBv] : List Value).toArray) := bl.trans (below_setRow _ _ _ _ hw23)
    generalize w5.setRow g23 ([.slice pAv mAv cAv, .slice pBv mBv cBv] : List Value).toArray = w6b at bl m6 m23 hAv hBv hbS ⊢
    replace x0 : Fk.f (.mc (qo)) (f5.eval (.tmp 0)) w6b := Fk.mono _ _ _ _ S_x0 hbS
    replace x1 : Fk.f (.mc (qn)) (f5.eval (.tmp 1)) w6b := Fk.mono _ _ _ _ S_x1 hbS
    replace x2 : Fk.f (.hc (Q)) (f5.eval (.tmp 2)) w6b := Fk.mono _ _ _ _ S_x2 hbS
    clear x127
    refine wl_one (.eq (.bool true)) rfl 24 rfl (by rw [sd.1]; decide) (st_assign (.tmp 128) rfl x128) ?_
    intro f7 w7 df2 sz2 old2 new2 hb
    replace hbS0 := hbS
    replace hbS := hbS.trans (Below.mono hb hbS.size)
    replace S_x0 := f_at (old2 0 rfl) S_x0
    replace S_x1 := f_at (old2 1 rfl) S_x1
    replace S_x2 := f_at (old2 2 rfl) S_x2
    replace x0 := f_at (old2 0 rfl) (Fk.mono _ _ _ _ x0 hb)
    replace x1 := f_at (old2 1 rfl) (Fk.mono _ _ _ _ x1 hb)
    replace x2 := f_at (old2 2 rfl) (Fk.mono _ _ _ _ x2 hb)
    replace x6 := tr old2 x6 rfl
    replace x23 := tr old2 x23 rfl
    replace x128 := tr old2 x128 rfl
    have x24 := Fk.e new2
    replace m6 := Ob.below m6 hb
    replace m23 := Ob.below m23 hb
    replace hAv := Fk.mono _ _ _ _ hAv hb
    replace hBv := Fk.mono _ _ _ _ hBv hb
    replace bl := bgo bl hb
    replace sd := sd2 sz2 df2 sd
    clear df2 sz2 old2 new2 hb
    refine wpList_nil ?_
    clear hbS hbS0 S_x0 S_x1 S_x2
    clear x128
    clear x24
    show Code.wp _ _ _ _ _
    refine wp_seq ?_
    clear x0
    clear x1
    clear x2
    refine wr_s [.eq (.agg ([.slice pAv mAv cAv, .slice pBv mBv cBv] : List Value).toArray)] (by rw [sd.1]; kernel_rfl) ⟨fun hw ac u K => ?_, trivial⟩ ?_
    · exact st_loadz 25 (.tmp 23) rfl (g23) 0 [.slice pAv mAv cAv, .slice pBv mBv cBv] (by kernel_rfl) (by kernel_rfl) (K.t x23 rfl) (Ob.range (Ob.below m23 K.grow) 0 _ (fun j v hj => by simpa using hj))
    intro f8 w8 A hb
    replace x6 := A.t x6 rfl
    replace x23 := A.t x23 rfl
    have x129 := A.e 0 129 rfl rfl
    replace m6 := Ob.below m6 hb
    replace m23 := Ob.below m23 hb
    replace hAv := Fk.mono _ _ _ _ hAv hb
    replace hBv := Fk.mono _ _ _ _ hBv hb
    replace bl := bgo bl hb
    replace sd := A.sd sd
    clear A hb
    clear x23
    refine wl_str rfl 25 (.tmp 6) (.tmp 129) rfl rfl (g6) ([.slice pAv mAv cAv, .slice pBv mBv cBv] : List Value).toArray x6 x129 25 _ m6 (by kernel_rfl) (by kernel_rfl) (by kernel_rfl) ?_
    replace hAv := sl_setRow (ds := ([.slice pAv mAv cAv, .slice pBv mBv cBv] : List Value).toArray) hAv m6
    replace hBv := sl_setRow (ds := ([.slice pAv mAv cAv, .slice pBv mBv cBv] : List Value).toArray) hBv m6
    replace m6 : Ob (w8.setRow g6 ([.slice pAv mAv cAv, .slice pBv mBv cBv] : List Value).toArray) (g6) 25 ([.slice pAv mAv cAv, .slice pBv mBv cBv]) := Ob.setRow m6 ([.slice pAv mAv cAv, .slice pBv mBv cBv])
    replace m23 : Ob (w8.setRow g6 ([.slice pAv mAv cAv, .slice pBv mBv cBv] : List Value).toArray) (g23) 25 ([.slice pAv mAv cAv, .slice pBv mBv cBv]) := Ob.setRow_other m23 _ nm6_23.symm
    replace bl : Below w.heap.size w (w8.setRow g6 ([.slice pAv mAv cAv, .slice pBv mBv cBv] : List Value).toArray) := bl.trans (below_setRow _ _ _ _ hw6)
    generalize w8.setRow g6 ([.slice pAv mAv cAv, .slice pBv mBv cBv] : List Value).toArray = w9b at bl m6 m23 hAv hBv ⊢
    refine wpList_nil ?_
    clear x129
    clear m23
    show Code.wp _ _ _ _ _
    refine wp_ret ?_
    repeat (first | with_reducible refine then_ret ?_ | with_reducible refine block_ret ?_)
    exact bodyPost_ret (v := .agg ([.slice pAv mAv cAv, .slice pBv mBv cBv] : List Value).toArray) (ret_c1 rfl f8 _ g6 _ _ x6 m6) sd.2 ⟨_, rfl, ⟨Av, Bv, _, _, rfl, hAv, hBv, lAv, lBv, hrv⟩, bl⟩
  have h2 : 2 ≤ qn.length := by omega
  obtain ⟨k, hk⟩ : ∃ k, spl qn.length = k := ⟨_, rfl⟩
  have hk1 : k < qn.length := by rw [← hk]; exact spl_lt h2
  have hk2 : 1 ≤ k := by rw [← hk]; exact spl_pos _
  have hQs := led_short hL
  obtain ⟨xa, exa⟩ : ∃ x, Box (mroot (lhs (qn.take k)) = x) := ⟨_, ⟨rfl⟩⟩
  obtain ⟨ya, eya⟩ : ∃ x, Box (mroot (lhs (qn.drop k)) = x) := ⟨_, ⟨rfl⟩⟩
  have hxa : xa.length = 32 := by rw [← exa.out]; exact mroot_len (lhs_32 _)
  have hya : ya.length = 32 := by rw [← eya.out]; exact mroot_len (lhs_32 _)
  by_cases hmk : qo.length ≤ k
  rotate_left
  · skip
    obtain ⟨P0, z, r0, s0, rfl, hL0, hko, hno, hnd⟩ := gldr h2 hk hlt hmk hL rfl rfl
    have hPz : (P0 ++ [z])[P0.length]? = some z := by simp
    have hz0 : z.length = 32 := hc_len x2 z (by simp)
    have hP0 : P0.length ≤ 60 := by rw [List.length_append] at hQs; omega
    obtain ⟨hr0, hs0⟩ := led_lens hL0 (fun q hq => hc_len x2 q (by simp [hq]))
    rw [exa.out, eya.out] at hnd
    obtain ⟨ua, eua⟩ : ∃ x, Box (mroot (lhs (qo.take k)) = x) := ⟨_, ⟨rfl⟩⟩
    obtain ⟨ub, eub⟩ : ∃ x, Box (mroot (lhs (qo.drop k)) = x) := ⟨_, ⟨rfl⟩⟩
    have hua : ua.length = 32 := by rw [← eua.out]; exact mroot_len (lhs_32 _)
    have hub : ub.length = 32 := by rw [← eub.out]; exact mroot_len (lhs_32 _)
    rw [eua.out, eub.out] at hno
    refine wr_a [.mc (qo), .eq (.int .i64 (((qo).length : Nat) : Int)), .mc (qn), .eq (.int .i64 (((qn).length : Nat) : Int)), .eq (.bool true)] (by rw [sd.1]; kernel_rfl) ⟨fun hw ac u K => ?_, fun hw ac u K => ?_, fun hw ac u K => ?_, fun hw ac u K => ?_, fun hw ac u K => ?_, trivial⟩ ?_
    · exact st_move (.tmp 0) rfl (f_at (K.old 0 rfl) (Fk.mono _ _ _ _ x0 K.grow))
    · exact st_lenm (.tmp 25) rfl (mc_mg (K.dep 0 25 rfl))
    · exact st_move (.tmp 1) rfl (f_at (K.old 1 rfl) (Fk.mono _ _ _ _ x1 K.grow))
    · exact st_lenm (.tmp 27) rfl (mc_mg (K.dep 2 27 rfl))
    · exact st_lss 3 (.tmp 26) (.tmp 28) rfl .i64 ((((qo).length : Nat) : Int)) ((((qn).length : Nat) : Int)) (K.dep 1 26 rfl) (K.dep 3 28 rfl) _ (by symm; rw [decide_eq_true_iff]; exact (by omega))
    intro f4 w4 A hb
    replace x0 := f_at (A.old 0 rfl) (Fk.mono _ _ _ _ x0 hb)
    replace x1 := f_at (A.old 1 rfl) (Fk.mono _ _ _ _ x1 hb)
    replace x2 := f_at (A.old 2 rfl) (Fk.mono _ _ _ _ x2 hb)
    replace x6 := A.t x6 rfl
    have x29 := A.e 4 29 rfl rfl
    replace m6 := Ob.below m6 hb
    replace bl := bgo bl hb
    replace sd := A.sd sd
    clear A hb
    show Code.wp _ _ _ _ _
    refine wp_cond_true x29 ?_
    refine wp_skip ?_
    show Code.wp _ _ _ _ _
    refine wp_block ?_
    refine wp_seq ?_
    refine wr_a [.mc (qn), .eq (.int .i64 (((qn).length : Nat) : Int)), .eq (.int .i64 (k : Int)), .hc (P0 ++ [z]), .eq (.int .i64 ((P0.length + 1 : Nat) : Int)), .eq (.int .i64 (P0.length : Int)), .eq (.int .i64 (k : Int)), .eq (.int .i64 (P0.length : Int))] (by rw [sd.1]; kernel_rfl) ⟨fun hw ac u K => ?_, fun hw ac u K => ?_, fun hw ac u K => ?_, fun hw ac u K => ?_, fun hw ac u K => ?_, fun hw ac u K => ?_, fun hw ac u K => ?_, fun hw ac u K => ?_, trivial⟩ ?_
    · exact st_move (.tmp 1) rfl (f_at (K.old 1 rfl) (Fk.mono _ _ _ _ x1 K.grow))
    · exact st_lenm (.tmp 30) rfl (mc_mg (K.dep 0 30 rfl))
    · exact st_call 35 (.func 35) _ _ _ rfl rfl (one_arg (K.dep 1 31 rfl)) Tryd.enter35 (by rw [← hk]; exact fk_of (split_hi qn.length h2 (by omega) _))
    · exact st_move (.tmp 2) rfl (f_at (K.old 2 rfl) (Fk.mono _ _ _ _ x2 K.grow))
    · exact st_lenc (.tmp 33) rfl (P0.length + 1) (by simp) (K.dep 3 33 rfl)
    · exact st_subz (.tmp 34) (.const (.int .i64 1)) rfl _ 1 _ (K.dep 4 34 rfl) rfl (by omega) (by omega) (by omega)
    · exact st_assign (.tmp 32) rfl (K.dep 2 32 rfl)
    · exact st_assign (.tmp 35) rfl (K.dep 5 35 rfl)
    intro f5 w5 A hb
    replace x0 := f_at (A.old 0 rfl) (Fk.mono _ _ _ _ x0 hb)
    replace x1 := f_at (A.old 1 rfl) (Fk.mono _ _ _ _ x1 hb)
    replace x2 := f_at (A.old 2 rfl) (Fk.mono _ _ _ _ x2 hb)
    replace x6 := A.t x6 rfl
    replace x29 := A.t x29 rfl
    have x7 := A.e 6 7 rfl rfl
    have x8 := A.e 7 8 rfl rfl
    replace m6 := Ob.below m6 hb
    replace bl := bgo bl hb
    replace sd := A.sd sd
    clear A hb
    clear x29
    show Code.wp _ _ _ _ _
    refine wp_seq ?_
    obtain ⟨qA, qC, e2, hqC, hpv⟩ := hc_val x2
    replace x2 := e2
    clear e2
    obtain ⟨lb, lo, eA, hlb, hra, _⟩ := hc_nth hpv hPz
    refine wp_region_held_drew (S := fun W => W.rangeAt lb (lo + P0.length * 32) (z.map V)) Tryd.mixed (range_below hra (Below.refl _ _).drew) (fun hS => ?_)
    have hbS : Below w5.heap.size w5 w5.drew := (Below.refl _ _).drew
    generalize w5.drew = w6 at hS hbS ⊢
    refine wh_take 0 36 (v := .slice qA (P0 ++ [z]).length qC) rfl rfl (by rw [sd.1]; decide) rfl (by kernel_rfl) (by kernel_rfl) (by kernel_rfl) (fun _ _ _ h => h) (run_mv rfl x2) hS ?_
    intro f7 df2 sz2 old2 new2
    replace x0 := f_at (old2 0 rfl) x0
    replace x1 := f_at (old2 1 rfl) x1
    replace x2 := tr old2 x2 rfl
    replace x6 := tr old2 x6 rfl
    replace x7 := tr old2 x7 rfl
    replace x8 := tr old2 x8 rfl
    have x36 := new2
    replace sd := sd2 sz2 df2 sd
    clear df2 sz2 old2 new2
    refine wh_take 1 37 (v := .int .i64 (P0.length : Int)) rfl rfl (by rw [sd.1]; decide) rfl (by kernel_rfl) (by kernel_rfl) (by kernel_rfl) (fun _ _ _ h => h) (run_mv rfl x8) hS ?_
    intro f8 df2 sz2 old2 new2
    replace x0 := f_at (old2 0 rfl) x0
    replace x1 := f_at (old2 1 rfl) x1
    replace x2 := tr old2 x2 rfl
    replace x6 := tr old2 x6 rfl
    replace x7 := tr old2 x7 rfl
    replace x8 := tr old2 x8 rfl
    replace x36 := tr old2 x36 rfl
    have x37 := new2
    replace sd := sd2 sz2 df2 sd
    clear df2 sz2 old2 new2
    refine wh_take 2 38 (v := .pointer (some ⟨lb, lo + P0.length * 32, none⟩)) rfl rfl (by rw [sd.1]; decide) rfl (by kernel_rfl) (by kernel_rfl) (by kernel_rfl) (fun _ _ _ h => h) (run_idxn rfl x36 eA P0.length x37 (by simp)) hS ?_
    intro f9 df2 sz2 old2 new2
    replace x0 := f_at (old2 0 rfl) x0
    replace x1 := f_at (old2 1 rfl) x1
    replace x2 := tr old2 x2 rfl
    replace x6 := tr old2 x6 rfl
    replace x7 := tr old2 x7 rfl
    replace x8 := tr old2 x8 rfl
    replace x36 := tr old2 x36 rfl
    replace x37 := tr old2 x37 rfl
    have x38 := new2
    replace sd := sd2 sz2 df2 sd
    clear df2 sz2 old2 new2
    refine wh_take 3 39 (v := .agg ((z).map V).toArray) rfl rfl (by rw [sd.1]; decide) rfl (by kernel_rfl) (by kernel_rfl) (by kernel_rfl) (fun _ _ _ h => h) (run_ldh rfl hz0 x38 (fun W hW => hW)) hS ?_
    intro f10 df2 sz2 old2 new2
    replace x0 := f_at (old2 0 rfl) x0
    replace x1 := f_at (old2 1 rfl) x1
    replace x2 := tr old2 x2 rfl
    replace x6 := tr old2 x6 rfl
    replace x7 := tr old2 x7 rfl
    replace x8 := tr old2 x8 rfl
    replace x36 := tr old2 x36 rfl
    replace x37 := tr old2 x37 rfl
    replace x38 := tr old2 x38 rfl
    have x39 := new2
    replace sd := sd2 sz2 df2 sd
    clear df2 sz2 old2 new2
    refine wh_take 4 40 (v := .slice qA (P0 ++ [z]).length qC) rfl rfl (by rw [sd.1]; decide) rfl (by kernel_rfl) (by kernel_rfl) (by kernel_rfl) (fun _ _ _ h => h) (run_mv rfl x2) hS ?_
    intro f11 df2 sz2 old2 new2
    replace x0 := f_at (old2 0 rfl) x0
    replace x1 := f_at (old2 1 rfl) x1
    replace x2 := tr old2 x2 rfl
    replace x6 := tr old2 x6 rfl
    replace x7 := tr old2 x7 rfl
    replace x8 := tr old2 x8 rfl
    replace x36 := tr old2 x36 rfl
    replace x37 := tr old2 x37 rfl
    replace x38 := tr old2 x38 rfl
    replace x39 := tr old2 x39 rfl
    have x40 := new2
    replace sd := sd2 sz2 df2 sd
    clear df2 sz2 old2 new2
    refine wh_take 5 41 (v := .int .i64 (P0.length : Int)) rfl rfl (by rw [sd.1]; decide) rfl (by kernel_rfl) (by kernel_rfl) (by kernel_rfl) (fun _ _ _ h => h) (run_mv rfl x8) hS ?_
    intro f12 df2 sz2 old2 new2
    replace x0 := f_at (old2 0 rfl) x0
    replace x1 := f_at (old2 1 rfl) x1
    replace x2 := tr old2 x2 rfl
    replace x6 := tr old2 x6 rfl
    replace x7 := tr old2 x7 rfl
    replace x8 := tr old2 x8 rfl
    replace x36 := tr old2 x36 rfl
    replace x37 := tr old2 x37 rfl
    replace x38 := tr old2 x38 rfl
    replace x39 := tr old2 x39 rfl
    replace x40 := tr old2 x40 rfl
    have x41 := new2
    replace sd := sd2 sz2 df2 sd
    clear df2 sz2 old2 new2
    refine wh_take 6 42 (v := sliced qA 0 P0.length qC 32) rfl rfl (by rw [sd.1]; decide) rfl (by kernel_rfl) (by kernel_rfl) (by kernel_rfl) (fun _ _ _ h => h) (run_cutv rfl x40 P0.length x41 (by rw [List.length_append] at hqC; omega)) hS ?_
    intro f13 df2 sz2 old2 new2
    replace x0 := f_at (old2 0 rfl) x0
    replace x1 := f_at (old2 1 rfl) x1
    replace x2 := tr old2 x2 rfl
    replace x6 := tr old2 x6 rfl
    replace x7 := tr old2 x7 rfl
    replace x8 := tr old2 x8 rfl
    replace x36 := tr old2 x36 rfl
    replace x37 := tr old2 x37 rfl
    replace x38 := tr old2 x38 rfl
    replace x39 := tr old2 x39 rfl
    replace x40 := tr old2 x40 rfl
    replace x41 := tr old2 x41 rfl
    have x42 := new2
    replace sd := sd2 sz2 df2 sd
    clear df2 sz2 old2 new2
    have hS1 := range_below hS ((Below.refl _ w6).alloc (Nat.le_refl _) (.cells (hz.map V).toArray 33))
    refine wh_alloc 7 9 rfl rfl (by rw [sd.1]; decide) rfl (by kernel_rfl) rfl hS1 ?_
    intro f14 df2 sz2 old2 new2
    replace x0 := f_at (old2 0 rfl) x0
    replace x1 := f_at (old2 1 rfl) x1
    replace x2 := tr old2 x2 rfl
    replace x6 := tr old2 x6 rfl
    replace x7 := tr old2 x7 rfl
    replace x8 := tr old2 x8 rfl
    replace x36 := tr old2 x36 rfl
    replace x37 := tr old2 x37 rfl
    replace x38 := tr old2 x38 rfl
    replace x39 := tr old2 x39 rfl
    replace x40 := tr old2 x40 rfl
    replace x41 := tr old2 x41 rfl
    replace x42 := tr old2 x42 rfl
    have m9 : Ob (w6.alloc (.cells (hz.map V).toArray 33)) w6.heap.size 33 (hz.map V) := Ob.alloc _ _ _
    have hs9 := hbS.size
    replace hbS : Below w5.heap.size w5 (w6.alloc (.cells (hz.map V).toArray 33)) := hbS.alloc hbS.size _
    have x9 : f14.eval (.tmp 9) = .pointer (some ⟨w6.heap.size, 0, none⟩) := new2
    obtain ⟨g9, e9⟩ : ∃ g, w6.heap.size = g := ⟨_, rfl⟩
    rw [e9] at m9 hs9 x9
    replace sd := sd2 sz2 df2 sd
    clear df2 sz2 old2 new2 hS
    generalize w6.alloc (.cells (hz.map V).toArray 33) = w14 at hS1 hbS m9 ⊢
    clear e9
    have hS2 : (w14.setRow g9 ((z).map V : List Value).toArray).rangeAt lb (lo + P0.length * 32) (z.map V) := range_setRow hS1 (Nat.ne_of_lt (Nat.lt_of_lt_of_le hlb hs9)) _
    refine wh_store 8 rfl rfl rfl (by kernel_rfl) (.tmp 9) (.tmp 39) rfl g9 (z) (hz) x9 x39 m9 hz_len hz0 hS2 ?_
    replace m9 : Ob (w14.setRow g9 ((z).map V : List Value).toArray) (g9) 33 ((z).map V) := Ob.setRow m9 ((z).map V)
    replace hbS : Below w5.heap.size w5 (w14.setRow g9 ((z).map V : List Value).toArray) := hbS.trans (below_setRow _ _ _ _ hs9)
    clear hS1
    generalize w14.setRow g9 ((z).map V : List Value).toArray = w15 at hS2 hbS m9 ⊢
    refine wh_assign 9 10 rfl rfl (by rw [sd.1]; decide) rfl (by kernel_rfl) (.tmp 42) rfl hS2 ?_
    intro f16 df2 sz2 old2 new2
    have x10 : f16.eval (.tmp 10) = sliced qA 0 P0.length qC 32 := new2.trans x42
    replace x0 := f_at (old2 0 rfl) x0
    replace x1 := f_at (old2 1 rfl) x1
    replace x2 := tr old2 x2 rfl
    replace x6 := tr old2 x6 rfl
    replace x7 := tr old2 x7 rfl
    replace x8 := tr old2 x8 rfl
    replace x36 := tr old2 x36 rfl
    replace x37 := tr old2 x37 rfl
    replace x38 := tr old2 x38 rfl
    replace x39 := tr old2 x39 rfl
    replace x40 := tr old2 x40 rfl
    replace x41 := tr old2 x41 rfl
    replace x42 := tr old2 x42 rfl
    replace x9 := tr old2 x9 rfl
    replace sd := sd2 sz2 df2 sd
    clear df2 sz2 old2 new2
    refine wpAnyH_done (by kernel_rfl) ?_ _
    clear hS2
    have hc0 : (Fk.hc P0).f (sliced qA 0 P0.length qC 32) w5 := by have := hc_cut hpv (n := P0.length) (by simp); rw [List.take_left' rfl] at this; exact this
    replace x10 : Fk.f (.hc (P0)) (f16.eval (.tmp 10)) w15 := by rw [show f16.eval (.tmp 10) = _ from x10]; exact Fk.mono _ _ _ _ hc0 hbS
    clear hc0
    replace x0 := Fk.mono _ _ _ _ x0 hbS
    replace x1 := Fk.mono _ _ _ _ x1 hbS
    have nm6_9 : g6 ≠ g9 := Nat.ne_of_lt (Nat.lt_of_lt_of_le (Ob.lt m6) hs9)
    replace m6 := Ob.below m6 hbS
    have hw9 : w.heap.size ≤ g9 := Nat.le_trans bl.size hs9
    replace bl0 := bl
    replace bl := bl.trans (Below.mono hbS bl.size)
    clear hbS
    clear x2
    clear x8
    clear x36
    clear x37
    clear x38
    clear x39
    clear x40
    clear x41
    clear x42
    show Code.wp _ _ _ _ _
    refine wp_seq ?_
    refine wp_seq ?_
    refine wr_a [.mc (qo), .eq (.int .i64 (((qo).length : Nat) : Int)), .eq (.int .i64 (k : Int)), .eq (.bool false)] (by rw [sd.1]; kernel_rfl) ⟨fun hw ac u K => ?_, fun hw ac u K => ?_, fun hw ac u K => ?_, fun hw ac u K => ?_, trivial⟩ ?_
    · exact st_move (.tmp 0) rfl (f_at (K.old 0 rfl) (Fk.mono _ _ _ _ x0 K.grow))
    · exact st_lenm (.tmp 43) rfl (mc_mg (K.dep 0 43 rfl))
    · exact st_move (.tmp 7) rfl (K.t x7 rfl)
    · exact st_leq 3 (.tmp 44) (.tmp 45) rfl .i64 ((((qo).length : Nat) : Int)) ((k : Int)) (K.dep 1 44 rfl) (K.dep 2 45 rfl) _ (by symm; rw [decide_eq_false_iff_not]; exact (by omega))
    intro f17 w17 A hb
    replace x0 := f_at (A.old 0 rfl) (Fk.mono _ _ _ _ x0 hb)
    replace x1 := f_at (A.old 1 rfl) (Fk.mono _ _ _ _ x1 hb)
    replace x6 := A.t x6 rfl
    replace x7 := A.t x7 rfl
    replace x9 := A.t x9 rfl
    replace x10 := f_at (A.old 10 rfl) (Fk.mono _ _ _ _ x10 hb)
    have x46 := A.e 3 46 rfl rfl
    replace m6 := Ob.below m6 hb
    replace m9 := Ob.below m9 hb
    replace bl := bgo bl hb
    replace sd := A.sd sd
    clear A hb
    show Code.wp _ _ _ _ _
    refine wp_cond_false x46 ?_
    refine wp_seq ?_
    refine wr_s [.mc (qo), .eq (.int .i64 (((qo).length : Nat) : Int)), .eq (.int .i64 (k : Int)), .eq (.int .i64 ((qo.length - k : Nat) : Int)), .mc (qn), .eq (.int .i64 (((qn).length : Nat) : Int)), .eq (.int .i64 (k : Int)), .eq (.int .i64 ((qn.length - k : Nat) : Int)), .hc (P0), .eq (.tuple #[.agg ((r0).map V).toArray, .agg ((s0).map V).toArray]), .eq (.tuple #[.agg ((r0).map V).toArray, .agg ((s0).map V).toArray]), .eq (.agg ((r0).map V).toArray), .eq (.agg ((s0).map V).toArray)] (by rw [sd.1]; kernel_rfl) ⟨fun hw ac u K => ?_, fun hw ac u K => ?_, fun hw ac u K => ?_, fun hw ac u K => ?_, fun hw ac u K => ?_, fun hw ac u K => ?_, fun hw ac u K => ?_, fun hw ac u K => ?_, fun hw ac u K => ?_, fun hw ac u K => ?_, fun hw ac u K => ?_, fun hw ac u K => ?_, fun hw ac u K => ?_, trivial⟩ ?_
    · exact st_move (.tmp 0) rfl (f_at (K.old 0 rfl) (Fk.mono _ _ _ _ x0 K.grow))
    · exact st_lenm (.tmp 70) rfl (mc_mg (K.dep 0 70 rfl))
    · exact st_move (.tmp 7) rfl (K.t x7 rfl)
    · exact st_subz (.tmp 71) (.tmp 72) rfl _ _ _ (K.dep 1 71 rfl) (K.dep 2 72 rfl) (by omega) (by omega) (by omega)
    · exact st_move (.tmp 1) rfl (f_at (K.old 1 rfl) (Fk.mono _ _ _ _ x1 K.grow))
    · exact st_lenm (.tmp 74) rfl (mc_mg (K.dep 4 74 rfl))
    · exact st_move (.tmp 7) rfl (K.t x7 rfl)
    · exact st_subz (.tmp 75) (.tmp 76) rfl _ _ _ (K.dep 5 75 rfl) (K.dep 6 76 rfl) (by omega) (by omega) (by omega)
    · exact st_move (.tmp 10) rfl (f_at (K.old 10 rfl) (Fk.mono _ _ _ _ x10 K.grow))
    · exact st_call 51 (.func 51) _ _ _ rfl rfl (arg3 (K.dep 3 73 rfl) (K.dep 7 77 rfl) rfl) Tryd.enter51 (fk_of (led_any (qn.length - k) (qo.length - k) P0 r0 s0 _ _ hL0 (K.dep 8 78 rfl) (by omega) (by omega) (by omega) (hK.below (bgo bl K.grow))))
    · exact st_move (.tmp 79) rfl (K.dep 9 79 rfl)
    · exact st_ext0 (.tmp 69) rfl (K.dep 10 69 rfl) rfl
    · exact st_ext1 (.tmp 69) rfl (K.dep 10 69 rfl) rfl
    intro f18 w18 A hb
    have S_x0 : Fk.f (.mc (qo)) (f18.eval (.tmp 0)) w17 := f_at (A.old 0 rfl) x0
    have S_x1 : Fk.f (.mc (qn)) (f18.eval (.tmp 1)) w17 := f_at (A.old 1 rfl) x1
    have S_x10 : Fk.f (.hc (P0)) (f18.eval (.tmp 10)) w17 := f_at (A.old 10 rfl) x10
    have hbS0 := Below.refl w17.heap.size w17
    have hbS := hb
    replace x0 := f_at (A.old 0 rfl) (Fk.mono _ _ _ _ x0 hb)
    replace x1 := f_at (A.old 1 rfl) (Fk.mono _ _ _ _ x1 hb)
    replace x6 := A.t x6 rfl
    replace x7 := A.t x7 rfl
    replace x9 := A.t x9 rfl
    replace x10 := f_at (A.old 10 rfl) (Fk.mono _ _ _ _ x10 hb)
    replace x46 := A.t x46 rfl
    have x80 := A.e 11 80 rfl rfl
    have x81 := A.e 12 81 rfl rfl
    replace m6 := Ob.below m6 hb
    replace m9 := Ob.below m9 hb
    replace bl := bgo bl hb
    replace sd := A.sd sd
    clear A hb
    clear x46
    refine wl_one (.nw w18.heap.size 33 ((hz).map V)) rfl 15 rfl (by rw [sd.1]; decide) (st_alloc33 rfl _ (Nat.le_refl _)) ?_
    intro f19 w19 df2 sz2 old2 new2 hb
    replace hbS0 := hbS
    replace hbS := hbS.trans (Below.mono hb hbS.size)
    replace S_x0 := f_at (old2 0 rfl) S_x0
    replace S_x1 := f_at (old2 1 rfl) S_x1
    replace S_x10 := f_at (old2 10 rfl) S_x10
    replace bl0 := bl
    replace x0 := f_at (old2 0 rfl) (Fk.mono _ _ _ _ x0 hb)
    replace x1 := f_at (old2 1 rfl) (Fk.mono _ _ _ _ x1 hb)
    replace x6 := tr old2 x6 rfl
    replace x7 := tr old2 x7 rfl
    replace x9 := tr old2 x9 rfl
    replace x10 := f_at (old2 10 rfl) (Fk.mono _ _ _ _ x10 hb)
    replace x80 := tr old2 x80 rfl
    replace x81 := tr old2 x81 rfl
    have x15 : Fk.f (.nw w18.heap.size 33 ((hz).map V)) (f19.eval (.tmp 15)) w19 := new2
    have lt_m6 := Ob.lt m6
    replace m6 := Ob.below m6 hb
    have lt_m9 := Ob.lt m9
    replace m9 := Ob.below m9 hb
    replace bl := bgo bl hb
    replace sd := sd2 sz2 df2 sd
    clear df2 sz2 old2 new2 hb
    obtain ⟨g15, hg15, e15, m15⟩ := x15
    have x15 := e15
    clear e15
    have nm6_15 : g6 ≠ g15 := Nat.ne_of_lt (Nat.lt_of_lt_of_le lt_m6 hg15)
    have nm9_15 : g9 ≠ g15 := Nat.ne_of_lt (Nat.lt_of_lt_of_le lt_m9 hg15)
    have hw15 : w.heap.size ≤ g15 := Nat.le_trans bl0.size hg15
    have hs15 := Nat.le_trans hbS0.size hg15
    refine wl_one (.nw w19.heap.size 33 ((hz).map V)) rfl 16 rfl (by rw [sd.1]; decide) (st_alloc33 rfl _ (Nat.le_refl _)) ?_
    intro f20 w20 df2 sz2 old2 new2 hb
    replace hbS0 := hbS
    replace hbS := hbS.trans (Below.mono hb hbS.size)
    replace S_x0 := f_at (old2 0 rfl) S_x0
    replace S_x1 := f_at (old2 1 rfl) S_x1
    replace S_x10 := f_at (old2 10 rfl) S_x10
    replace bl0 := bl
    replace x0 := f_at (old2 0 rfl) (Fk.mono _ _ _ _ x0 hb)
    replace x1 := f_at (old2 1 rfl) (Fk.mono _ _ _ _ x1 hb)
    replace x6 := tr old2 x6 rfl
    replace x7 := tr old2 x7 rfl
    replace x9 := tr old2 x9 rfl
    replace x10 := f_at (old2 10 rfl) (Fk.mono _ _ _ _ x10 hb)
    replace x80 := tr old2 x80 rfl
    replace x81 := tr old2 x81 rfl
    replace x15 := tr old2 x15 rfl
    have x16 : Fk.f (.nw w19.heap.size 33 ((hz).map V)) (f20.eval (.tmp 16)) w20 := new2
    have lt_m6 := Ob.lt m6
    replace m6 := Ob.below m6 hb
    have lt_m9 := Ob.lt m9
    replace m9 := Ob.below m9 hb
    have lt_m15 := Ob.lt m15
    replace m15 := Ob.below m15 hb
    replace bl := bgo bl hb
    replace sd := sd2 sz2 df2 sd
    clear df2 sz2 old2 new2 hb
    obtain ⟨g16, hg16, e16, m16⟩ := x16
    have x16 := e16
    clear e16
    have nm6_16 : g6 ≠ g16 := Nat.ne_of_lt (Nat.lt_of_lt_of_le lt_m6 hg16)
    have nm9_16 : g9 ≠ g16 := Nat.ne_of_lt (Nat.lt_of_lt_of_le lt_m9 hg16)
    have nm15_16 : g15 ≠ g16 := Nat.ne_of_lt (Nat.lt_of_lt_of_le lt_m15 hg16)
    have hw16 : w.heap.size ≤ g16 := Nat.le_trans bl0.size hg16
    have hs16 := Nat.le_trans hbS0.size hg16
    refine wl_store rfl (.tmp 15) (.tmp 80) rfl rfl (g15) (r0) (hz) x15 x80 m15 hz_len hr0 ?_
    replace m6 : Ob (w20.setRow g15 ((r0).map V : List Value).toArray) (g6) 25 ([.slice none 0 0, .slice none 0 0]) := Ob.setRow_other m6 _ nm6_15
    replace m9 : Ob (w20.setRow g15 ((r0).map V : List Value).toArray) (g9) 33 ((z).map V) := Ob.setRow_other m9 _ nm9_15
    replace m15 : Ob (w20.setRow g15 ((r0).map V : List Value).toArray) (g15) 33 ((r0).map V) := Ob.setRow m15 ((r0).map V)
    replace m16 : Ob (w20.setRow g15 ((r0).map V : List Value).toArray) (g16) 33 ((hz).map V) := Ob.setRow_other m16 _ nm15_16.symm
    replace hbS : Below _ _ (w20.setRow g15 ((r0).map V : List Value).toArray) := hbS.trans (below_setRow _ _ _ _ hs15)
    replace bl : Below w.heap.size w (w20.setRow g15 ((r0).map V : List Value).toArray) := bl.trans (below_setRow _ _ _ _ hw15)
    generalize w20.setRow g15 ((r0).map V : List Value).toArray = w21b at bl m6 m9 m15 m16 hbS ⊢
    replace x0 : Fk.f (.mc (qo)) (f20.eval (.tmp 0)) w21b := Fk.mono _ _ _ _ S_x0 hbS
    replace x1 : Fk.f (.mc (qn)) (f20.eval (.tmp 1)) w21b := Fk.mono _ _ _ _ S_x1 hbS
    replace x10 : Fk.f (.hc (P0)) (f20.eval (.tmp 10)) w21b := Fk.mono _ _ _ _ S_x10 hbS
    clear x80
    refine wl_store rfl (.tmp 16) (.tmp 81) rfl rfl (g16) (s0) (hz) x16 x81 m16 hz_len hs0 ?_
    replace m6 : Ob (w21b.setRow g16 ((s0).map V : List Value).toArray) (g6) 25 ([.slice none 0 0, .slice none 0 0]) := Ob.setRow_other m6 _ nm6_16
    replace m9 : Ob (w21b.setRow g16 ((s0).map V : List Value).toArray) (g9) 33 ((z).map V) := Ob.setRow_other m9 _ nm9_16
    replace m15 : Ob (w21b.setRow g16 ((s0).map V : List Value).toArray) (g15) 33 ((r0).map V) := Ob.setRow_other m15 _ nm15_16
    replace m16 : Ob (w21b.setRow g16 ((s0).map V : List Value).toArray) (g16) 33 ((s0).map V) := Ob.setRow m16 ((s0).map V)
    replace hbS : Below _ _ (w21b.setRow g16 ((s0).map V : List Value).toArray) := hbS.trans (below_setRow _ _ _ _ hs16)
    replace bl : Below w.heap.size w (w21b.setRow g16 ((s0).map V : List Value).toArray) := bl.trans (below_setRow _ _ _ _ hw16)
    generalize w21b.setRow g16 ((s0).map V : List Value).toArray = w22b at bl m6 m9 m15 m16 hbS ⊢
    replace x0 : Fk.f (.mc (qo)) (f20.eval (.tmp 0)) w22b := Fk.mono _ _ _ _ S_x0 hbS
    replace x1 : Fk.f (.mc (qn)) (f20.eval (.tmp 1)) w22b := Fk.mono _ _ _ _ S_x1 hbS
    replace x10 : Fk.f (.hc (P0)) (f20.eval (.tmp 10)) w22b := Fk.mono _ _ _ _ S_x10 hbS
    refine wpList_nil ?_
    clear hbS hbS0 S_x0 S_x1 S_x10
    clear x81
    show Code.wp _ _ _ _ _
    refine wp_seq ?_
    refine wp_seq ?_
    by_cases hs1 : ua = z ∧ ub = r0
    rotate_left
    · skip
      refine wp_region_late [.mc (qo), .eq (.agg ((ua ++ ub).map V).toArray), .eq (.agg ((z).map V).toArray), .eq (.agg ((r0).map V).toArray), .eq (.agg ((z ++ r0).map V).toArray), .c2 true, .c2 true, .cv true, .eq (.bool true), .nw w22b.heap.size 25 [.slice none 0 0, .slice none 0 0]] 8 90 _ _ [11] Tryd.mixed (by kernel_rfl) (by kernel_rfl) (by kernel_rfl) (by kernel_rfl) (by kernel_rfl) rfl rfl (by kernel_rfl) rfl (by kernel_rfl) rfl (by rw [sd.1]; kernel_rfl) (by kernel_rfl) (fun ac u K => ⟨_, late_c2 rfl (K.dep 6 82 rfl), rfl⟩) ⟨fun hw ac u K => ?_, fun hw ac u K => ?_, fun hw ac u K => ?_, fun hw ac u K => ?_, fun hw ac u K => ?_, fun hw ac u K => ?_, fun hw ac u K => ?_, fun hw ac u K => ?_, fun hw ac u K => ?_, fun hw ac u K => ?_, trivial⟩ ?_
      · exact st_move (.tmp 0) rfl (f_at (K.old 0 rfl) (Fk.mono _ _ _ _ x0 K.grow))
      · exact st_call 45 (.func 45) _ _ _ rfl rfl (one_arg rfl) Tryd.enter45 (fk_halves (by omega) (smallP_mx hso) (by omega) (K.dep 0 83 rfl) (hK.below (bgo bl K.grow)) hko eua eub)
      · exact st_load33 (.tmp 9) rfl (g9) (z) (K.t x9 rfl) hz0 (Ob.below m9 K.grow)
      · exact st_load33 (.tmp 15) rfl (g15) (r0) (K.t x15 rfl) hr0 (Ob.below m15 K.grow)
      · exact st_build2h (.tmp 85) (.tmp 86) rfl hz0 hr0 (K.dep 2 85 rfl) (K.dep 3 86 rfl)
      · exact st_call 46 (.func 46) _ _ _ rfl rfl (arg2 (K.dep 1 84 rfl) (K.dep 4 87 rfl)) Tryd.enter46 (fk_against hua hub hz0 hr0 hno (by simp [hs1]) _)
      · exact st_move (.tmp 88) rfl (K.dep 5 88 rfl)
      · exact st_c2a (.tmp 82) rfl (K.dep 6 82 rfl)
      · exact st_c2b (.tmp 82) rfl (K.dep 6 82 rfl)
      · exact st_alloc 25 rfl _ _ (by kernel_rfl) K.grow.size
      intro f23 w23 A hb
      have S_x0 : Fk.f (.mc (qo)) (f23.eval (.tmp 0)) w22b := f_at (A.old 0 rfl) x0
      have S_x1 : Fk.f (.mc (qn)) (f23.eval (.tmp 1)) w22b := f_at (A.old 1 rfl) x1
      have S_x10 : Fk.f (.hc (P0)) (f23.eval (.tmp 10)) w22b := f_at (A.old 10 rfl) x10
      have hbS0 := Below.refl w22b.heap.size w22b
      have hbS := hb
      replace bl0 := bl
      replace x0 := f_at (A.old 0 rfl) (Fk.mono _ _ _ _ x0 hb)
      replace x1 := f_at (A.old 1 rfl) (Fk.mono _ _ _ _ x1 hb)
      replace x6 := A.t x6 rfl
      replace x7 := A.t x7 rfl
      replace x9 := A.t x9 rfl
      replace x10 := f_at (A.old 10 rfl) (Fk.mono _ _ _ _ x10 hb)
      replace x15 := A.t x15 rfl
      replace x16 := A.t x16 rfl
      have x17 : Fk.f (.nw w22b.heap.size 25 [.slice none 0 0, .slice none 0 0]) (f23.eval (.tmp 17)) w23 := A.has 9 17 rfl
      have x89 : Fk.f (.cv true) (f23.eval (.tmp 89)) w23 := A.has 7 89 rfl
      have x90 := A.e 8 90 rfl rfl
      have lt_m6 := Ob.lt m6
      replace m6 := Ob.below m6 hb
      have lt_m9 := Ob.lt m9
      replace m9 := Ob.below m9 hb
      have lt_m15 := Ob.lt m15
      replace m15 := Ob.below m15 hb
      have lt_m16 := Ob.lt m16
      replace m16 := Ob.below m16 hb
      replace bl := bgo bl hb
      replace sd := A.sd sd
      clear A hb
      clear x15
      obtain ⟨g17, hg17, e17, m17⟩ := x17
      have x17 := e17
      clear e17
      have nm6_17 : g6 ≠ g17 := Nat.ne_of_lt (Nat.lt_of_lt_of_le lt_m6 hg17)
      have nm9_17 : g9 ≠ g17 := Nat.ne_of_lt (Nat.lt_of_lt_of_le lt_m9 hg17)
      have nm15_17 : g15 ≠ g17 := Nat.ne_of_lt (Nat.lt_of_lt_of_le lt_m15 hg17)
      have nm16_17 : g16 ≠ g17 := Nat.ne_of_lt (Nat.lt_of_lt_of_le lt_m16 hg17)
      have hw17 : w.heap.size ≤ g17 := Nat.le_trans bl0.size hg17
      have hs17 := Nat.le_trans hbS0.size hg17
      obtain ⟨Az, Bz, uz, vz, ez, hAz, hBz, lAz, lBz, hrz⟩ := x89
      obtain ⟨pAz, mAz, cAz, _, _, rfl, _⟩ := id hAz
      obtain ⟨pBz, mBz, cBz, _, _, rfl, _⟩ := id hBz
      have x89 := ez
      clear ez
      refine ⟨_, run_str 25 (.tmp 17) (.tmp 89) rfl (g17) ([.slice pAz mAz cAz, .slice pBz mBz cBz] : List Value).toArray x17 x89 25 _ m17 (by kernel_rfl) (by kernel_rfl) (by kernel_rfl), ?_⟩
      replace hAz := sl_setRow (ds := ([.slice pAz mAz cAz, .slice pBz mBz cBz] : List Value).toArray) hAz m17
      replace hBz := sl_setRow (ds := ([.slice pAz mAz cAz, .slice pBz mBz cBz] : List Value).toArray) hBz m17
      replace m6 : Ob (w23.setRow g17 ([.slice pAz mAz cAz, .slice pBz mBz cBz] : List Value).toArray) (g6) 25 ([.slice none 0 0, .slice none 0 0]) := Ob.setRow_other m6 _ nm6_17
      replace m9 : Ob (w23.setRow g17 ([.slice pAz mAz cAz, .slice pBz mBz cBz] : List Value).toArray) (g9) 33 ((z).map V) := Ob.setRow_other m9 _ nm9_17
      replace m15 : Ob (w23.setRow g17 ([.slice pAz mAz cAz, .slice pBz mBz cBz] : List Value).toArray) (g15) 33 ((r0).map V) := Ob.setRow_other m15 _ nm15_17
      replace m16 : Ob (w23.setRow g17 ([.slice pAz mAz cAz, .slice pBz mBz cBz] : List Value).toArray) (g16) 33 ((s0).map V) := Ob.setRow_other m16 _ nm16_17
      replace m17 : Ob (w23.setRow g17 ([.slice pAz mAz cAz, .slice pBz mBz cBz] : List Value).toArray) (g17) 25 ([.slice pAz mAz cAz, .slice pBz mBz cBz]) := Ob.setRow m17 ([.slice pAz mAz cAz, .slice pBz mBz cBz])
      replace hbS : Below _ _ (w23.setRow g17 ([.slice pAz mAz cAz, .slice pBz mBz cBz] : List Value).toArray) := hbS.trans (below_setRow _ _ _ _ hs17)
      replace bl : Below w.heap.size w (w23.setRow g17 ([.slice pAz mAz cAz, .slice pBz mBz cBz] : List Value).toArray) := bl.trans (below_setRow _ _ _ _ hw17)
      generalize w23.setRow g17 ([.slice pAz mAz cAz, .slice pBz mBz cBz] : List Value).toArray = w24b at bl m6 m9 m15 m16 m17 hAz hBz hbS ⊢
      replace x0 : Fk.f (.mc (qo)) (f23.eval (.tmp 0)) w24b := Fk.mono _ _ _ _ S_x0 hbS
      replace x1 : Fk.f (.mc (qn)) (f23.eval (.tmp 1)) w24b := Fk.mono _ _ _ _ S_x1 hbS
      replace x10 : Fk.f (.hc (P0)) (f23.eval (.tmp 10)) w24b := Fk.mono _ _ _ _ S_x10 hbS
      clear x89
      refine wl_one (.eq (.bool true)) rfl 18 rfl (by rw [sd.1]; decide) (st_assign (.tmp 90) rfl x90) ?_
      intro f25 w25 df2 sz2 old2 new2 hb
      replace hbS0 := hbS
      replace hbS := hbS.trans (Below.mono hb hbS.size)
      replace S_x0 := f_at (old2 0 rfl) S_x0
      replace S_x1 := f_at (old2 1 rfl) S_x1
      replace S_x10 := f_at (old2 10 rfl) S_x10
      replace x0 := f_at (old2 0 rfl) (Fk.mono _ _ _ _ x0 hb)
      replace x1 := f_at (old2 1 rfl) (Fk.mono _ _ _ _ x1 hb)
      replace x6 := tr old2 x6 rfl
      replace x7 := tr old2 x7 rfl
      replace x9 := tr old2 x9 rfl
      replace x10 := f_at (old2 10 rfl) (Fk.mono _ _ _ _ x10 hb)
      replace x16 := tr old2 x16 rfl
      replace x17 := tr old2 x17 rfl
      replace x90 := tr old2 x90 rfl
      have x18 := Fk.e new2
      replace m6 := Ob.below m6 hb
      replace m9 := Ob.below m9 hb
      replace m15 := Ob.below m15 hb
      replace m16 := Ob.below m16 hb
      replace m17 := Ob.below m17 hb
      replace hAz := Fk.mono _ _ _ _ hAz hb
      replace hBz := Fk.mono _ _ _ _ hBz hb
      replace bl := bgo bl hb
      replace sd := sd2 sz2 df2 sd
      clear df2 sz2 old2 new2 hb
      refine wpList_nil ?_
      clear hbS hbS0 S_x0 S_x1 S_x10
      clear x90
      clear m15
      show Code.wp _ _ _ _ _
      refine wp_seq ?_
      refine wr_a [.eq (.bool true)] (by rw [sd.1]; kernel_rfl) ⟨fun hw ac u K => ?_, trivial⟩ ?_
      · exact st_move (.tmp 18) rfl (K.t x18 rfl)
      intro f26 w26 A hb
      replace x0 := f_at (A.old 0 rfl) (Fk.mono _ _ _ _ x0 hb)
      replace x1 := f_at (A.old 1 rfl) (Fk.mono _ _ _ _ x1 hb)
      replace x6 := A.t x6 rfl
      replace x7 := A.t x7 rfl
      replace x9 := A.t x9 rfl
      replace x10 := f_at (A.old 10 rfl) (Fk.mono _ _ _ _ x10 hb)
      replace x16 := A.t x16 rfl
      replace x17 := A.t x17 rfl
      replace x18 := A.t x18 rfl
      have x91 := A.e 0 91 rfl rfl
      replace m6 := Ob.below m6 hb
      replace m9 := Ob.below m9 hb
      replace m16 := Ob.below m16 hb
      replace m17 := Ob.below m17 hb
      replace hAz := Fk.mono _ _ _ _ hAz hb
      replace hBz := Fk.mono _ _ _ _ hBz hb
      replace bl := bgo bl hb
      replace sd := A.sd sd
      clear A hb
      clear x18
      show Code.wp _ _ _ _ _
      refine wp_cond_true x91 ?_
      refine wp_seq ?_
      clear x0
      clear x1
      clear x10
      refine wr_s [.eq (.agg ([.slice pAz mAz cAz, .slice pBz mBz cBz] : List Value).toArray)] (by rw [sd.1]; kernel_rfl) ⟨fun hw ac u K => ?_, trivial⟩ ?_
      · exact st_loadz 25 (.tmp 17) rfl (g17) 0 [.slice pAz mAz cAz, .slice pBz mBz cBz] (by kernel_rfl) (by kernel_rfl) (K.t x17 rfl) (Ob.range (Ob.below m17 K.grow) 0 _ (fun j v hj => by simpa using hj))
      intro f27 w27 A hb
      replace x6 := A.t x6 rfl
      replace x7 := A.t x7 rfl
      replace x9 := A.t x9 rfl
      replace x16 := A.t x16 rfl
      replace x17 := A.t x17 rfl
      replace x91 := A.t x91 rfl
      have x92 := A.e 0 92 rfl rfl
      replace m6 := Ob.below m6 hb
      replace m9 := Ob.below m9 hb
      replace m16 := Ob.below m16 hb
      replace m17 := Ob.below m17 hb
      replace hAz := Fk.mono _ _ _ _ hAz hb
      replace hBz := Fk.mono _ _ _ _ hBz hb
      replace bl := bgo bl hb
      replace sd := A.sd sd
      clear A hb
      clear x7
      clear x9
      clear x16
      clear x17
      clear x91
      refine wl_str rfl 25 (.tmp 6) (.tmp 92) rfl rfl (g6) ([.slice pAz mAz cAz, .slice pBz mBz cBz] : List Value).toArray x6 x92 25 _ m6 (by kernel_rfl) (by kernel_rfl) (by kernel_rfl) ?_
      replace hAz := sl_setRow (ds := ([.slice pAz mAz cAz, .slice pBz mBz cBz] : List Value).toArray) hAz m6
      replace hBz := sl_setRow (ds := ([.slice pAz mAz cAz, .slice pBz mBz cBz] : List Value).toArray) hBz m6
      replace m6 : Ob (w27.setRow g6 ([.slice pAz mAz cAz, .slice pBz mBz cBz] : List Value).toArray) (g6) 25 ([.slice pAz mAz cAz, .slice pBz mBz cBz]) := Ob.setRow m6 ([.slice pAz mAz cAz, .slice pBz mBz cBz])
      replace m9 : Ob (w27.setRow g6 ([.slice pAz mAz cAz, .slice pBz mBz cBz] : List Value).toArray) (g9) 33 ((z).map V) := Ob.setRow_other m9 _ nm6_9.symm
      replace m16 : Ob (w27.setRow g6 ([.slice pAz mAz cAz, .slice pBz mBz cBz] : List Value).toArray) (g16) 33 ((s0).map V) := Ob.setRow_other m16 _ nm6_16.symm
      replace m17 : Ob (w27.setRow g6 ([.slice pAz mAz cAz, .slice pBz mBz cBz] : List Value).toArray) (g17) 25 ([.slice pAz mAz cAz, .slice pBz mBz cBz]) := Ob.setRow_other m17 _ nm6_17.symm
      replace bl : Below w.heap.size w (w27.setRow g6 ([.slice pAz mAz cAz, .slice pBz mBz cBz] : List Value).toArray) := bl.trans (below_setRow _ _ _ _ hw6)
      generalize w27.setRow g6 ([.slice pAz mAz cAz, .slice pBz mBz cBz] : List Value).toArray = w28b at bl m6 m9 m16 m17 hAz hBz ⊢
      refine wpList_nil ?_
      clear x92
      clear m9 m16 m17
      show Code.wp _ _ _ _ _
      refine wp_ret ?_
      repeat (first | with_reducible refine then_ret ?_ | with_reducible refine block_ret ?_)
      exact bodyPost_ret (v := .agg ([.slice pAz mAz cAz, .slice pBz mBz cBz] : List Value).toArray) (ret_c1 rfl f27 _ g6 _ _ x6 m6) sd.2 ⟨_, rfl, ⟨Az, Bz, _, _, rfl, hAz, hBz, lAz, lBz, hrz⟩, bl⟩
    refine wp_region_late [.mc (qo), .eq (.agg ((ua ++ ub).map V).toArray), .eq (.agg ((z).map V).toArray), .eq (.agg ((r0).map V).toArray), .eq (.agg ((z ++ r0).map V).toArray), .c2 false, .c2 false, .cv false, .eq (.bool false), .nw w22b.heap.size 25 [.slice none 0 0, .slice none 0 0]] 8 90 _ _ [11] Tryd.mixed (by kernel_rfl) (by kernel_rfl) (by kernel_rfl) (by kernel_rfl) (by kernel_rfl) rfl rfl (by kernel_rfl) rfl (by kernel_rfl) rfl (by rw [sd.1]; kernel_rfl) (by kernel_rfl) (fun ac u K => ⟨_, late_c2 rfl (K.dep 6 82 rfl), rfl⟩) ⟨fun hw ac u K => ?_, fun hw ac u K => ?_, fun hw ac u K => ?_, fun hw ac u K => ?_, fun hw ac u K => ?_, fun hw ac u K => ?_, fun hw ac u K => ?_, fun hw ac u K => ?_, fun hw ac u K => ?_, fun hw ac u K => ?_, trivial⟩ ?_
    · exact st_move (.tmp 0) rfl (f_at (K.old 0 rfl) (Fk.mono _ _ _ _ x0 K.grow))
    · exact st_call 45 (.func 45) _ _ _ rfl rfl (one_arg rfl) Tryd.enter45 (fk_halves (by omega) (smallP_mx hso) (by omega) (K.dep 0 83 rfl) (hK.below (bgo bl K.grow)) hko eua eub)
    · exact st_load33 (.tmp 9) rfl (g9) (z) (K.t x9 rfl) hz0 (Ob.below m9 K.grow)
    · exact st_load33 (.tmp 15) rfl (g15) (r0) (K.t x15 rfl) hr0 (Ob.below m15 K.grow)
    · exact st_build2h (.tmp 85) (.tmp 86) rfl hz0 hr0 (K.dep 2 85 rfl) (K.dep 3 86 rfl)
    · exact st_call 46 (.func 46) _ _ _ rfl rfl (arg2 (K.dep 1 84 rfl) (K.dep 4 87 rfl)) Tryd.enter46 (fk_against hua hub hz0 hr0 hno (by simp only [hs1]; simp) _)
    · exact st_move (.tmp 88) rfl (K.dep 5 88 rfl)
    · exact st_c2a (.tmp 82) rfl (K.dep 6 82 rfl)
    · exact st_c2b (.tmp 82) rfl (K.dep 6 82 rfl)
    · exact st_alloc 25 rfl _ _ (by kernel_rfl) K.grow.size
    intro f23 w23 A hb
    have S_x0 : Fk.f (.mc (qo)) (f23.eval (.tmp 0)) w22b := f_at (A.old 0 rfl) x0
    have S_x1 : Fk.f (.mc (qn)) (f23.eval (.tmp 1)) w22b := f_at (A.old 1 rfl) x1
    have S_x10 : Fk.f (.hc (P0)) (f23.eval (.tmp 10)) w22b := f_at (A.old 10 rfl) x10
    have hbS0 := Below.refl w22b.heap.size w22b
    have hbS := hb
    replace bl0 := bl
    replace x0 := f_at (A.old 0 rfl) (Fk.mono _ _ _ _ x0 hb)
    replace x1 := f_at (A.old 1 rfl) (Fk.mono _ _ _ _ x1 hb)
    replace x6 := A.t x6 rfl
    replace x7 := A.t x7 rfl
    replace x9 := A.t x9 rfl
    replace x10 := f_at (A.old 10 rfl) (Fk.mono _ _ _ _ x10 hb)
    replace x15 := A.t x15 rfl
    replace x16 := A.t x16 rfl
    have x17 : Fk.f (.nw w22b.heap.size 25 [.slice none 0 0, .slice none 0 0]) (f23.eval (.tmp 17)) w23 := A.has 9 17 rfl
    have x89 : Fk.f (.cv false) (f23.eval (.tmp 89)) w23 := A.has 7 89 rfl
    have x90 := A.e 8 90 rfl rfl
    have lt_m6 := Ob.lt m6
    replace m6 := Ob.below m6 hb
    have lt_m9 := Ob.lt m9
    replace m9 := Ob.below m9 hb
    have lt_m15 := Ob.lt m15
    replace m15 := Ob.below m15 hb
    have lt_m16 := Ob.lt m16
    replace m16 := Ob.below m16 hb
    replace bl := bgo bl hb
    replace sd := A.sd sd
    clear A hb
    clear x15
    obtain ⟨g17, hg17, e17, m17⟩ := x17
    have x17 := e17
    clear e17
    have nm6_17 : g6 ≠ g17 := Nat.ne_of_lt (Nat.lt_of_lt_of_le lt_m6 hg17)
    have nm9_17 : g9 ≠ g17 := Nat.ne_of_lt (Nat.lt_of_lt_of_le lt_m9 hg17)
    have nm15_17 : g15 ≠ g17 := Nat.ne_of_lt (Nat.lt_of_lt_of_le lt_m15 hg17)
    have nm16_17 : g16 ≠ g17 := Nat.ne_of_lt (Nat.lt_of_lt_of_le lt_m16 hg17)
    have hw17 : w.heap.size ≤ g17 := Nat.le_trans bl0.size hg17
    have hs17 := Nat.le_trans hbS0.size hg17
    obtain ⟨Az, Bz, uz, vz, ez, hAz, hBz, lAz, lBz, hrz⟩ := x89
    obtain ⟨pAz, mAz, cAz, _, _, rfl, _⟩ := id hAz
    obtain ⟨pBz, mBz, cBz, _, _, rfl, _⟩ := id hBz
    have x89 := ez
    clear ez
    refine ⟨_, run_str 25 (.tmp 17) (.tmp 89) rfl (g17) ([.slice pAz mAz cAz, .slice pBz mBz cBz] : List Value).toArray x17 x89 25 _ m17 (by kernel_rfl) (by kernel_rfl) (by kernel_rfl), ?_⟩
    replace hAz := sl_setRow (ds := ([.slice pAz mAz cAz, .slice pBz mBz cBz] : List Value).toArray) hAz m17
    replace hBz := sl_setRow (ds := ([.slice pAz mAz cAz, .slice pBz mBz cBz] : List Value).toArray) hBz m17
    replace m6 : Ob (w23.setRow g17 ([.slice pAz mAz cAz, .slice pBz mBz cBz] : List Value).toArray) (g6) 25 ([.slice none 0 0, .slice none 0 0]) := Ob.setRow_other m6 _ nm6_17
    replace m9 : Ob (w23.setRow g17 ([.slice pAz mAz cAz, .slice pBz mBz cBz] : List Value).toArray) (g9) 33 ((z).map V) := Ob.setRow_other m9 _ nm9_17
    replace m15 : Ob (w23.setRow g17 ([.slice pAz mAz cAz, .slice pBz mBz cBz] : List Value).toArray) (g15) 33 ((r0).map V) := Ob.setRow_other m15 _ nm15_17
    replace m16 : Ob (w23.setRow g17 ([.slice pAz mAz cAz, .slice pBz mBz cBz] : List Value).toArray) (g16) 33 ((s0).map V) := Ob.setRow_other m16 _ nm16_17
    replace m17 : Ob (w23.setRow g17 ([.slice pAz mAz cAz, .slice pBz mBz cBz] : List Value).toArray) (g17) 25 ([.slice pAz mAz cAz, .slice pBz mBz cBz]) := Ob.setRow m17 ([.slice pAz mAz cAz, .slice pBz mBz cBz])
    replace hbS : Below _ _ (w23.setRow g17 ([.slice pAz mAz cAz, .slice pBz mBz cBz] : List Value).toArray) := hbS.trans (below_setRow _ _ _ _ hs17)
    replace bl : Below w.heap.size w (w23.setRow g17 ([.slice pAz mAz cAz, .slice pBz mBz cBz] : List Value).toArray) := bl.trans (below_setRow _ _ _ _ hw17)
    generalize w23.setRow g17 ([.slice pAz mAz cAz, .slice pBz mBz cBz] : List Value).toArray = w24b at bl m6 m9 m15 m16 m17 hAz hBz hbS ⊢
    replace x0 : Fk.f (.mc (qo)) (f23.eval (.tmp 0)) w24b := Fk.mono _ _ _ _ S_x0 hbS
    replace x1 : Fk.f (.mc (qn)) (f23.eval (.tmp 1)) w24b := Fk.mono _ _ _ _ S_x1 hbS
    replace x10 : Fk.f (.hc (P0)) (f23.eval (.tmp 10)) w24b := Fk.mono _ _ _ _ S_x10 hbS
    clear x89
    refine wl_one (.eq (.bool false)) rfl 18 rfl (by rw [sd.1]; decide) (st_assign (.tmp 90) rfl x90) ?_
    intro f25 w25 df2 sz2 old2 new2 hb
    replace hbS0 := hbS
    replace hbS := hbS.trans (Below.mono hb hbS.size)
    replace S_x0 := f_at (old2 0 rfl) S_x0
    replace S_x1 := f_at (old2 1 rfl) S_x1
    replace S_x10 := f_at (old2 10 rfl) S_x10
    replace x0 := f_at (old2 0 rfl) (Fk.mono _ _ _ _ x0 hb)
    replace x1 := f_at (old2 1 rfl) (Fk.mono _ _ _ _ x1 hb)
    replace x6 := tr old2 x6 rfl
    replace x7 := tr old2 x7 rfl
    replace x9 := tr old2 x9 rfl
    replace x10 := f_at (old2 10 rfl) (Fk.mono _ _ _ _ x10 hb)
    replace x16 := tr old2 x16 rfl
    replace x17 := tr old2 x17 rfl
    replace x90 := tr old2 x90 rfl
    have x18 := Fk.e new2
    replace m6 := Ob.below m6 hb
    replace m9 := Ob.below m9 hb
    replace m15 := Ob.below m15 hb
    replace m16 := Ob.below m16 hb
    replace m17 := Ob.below m17 hb
    replace hAz := Fk.mono _ _ _ _ hAz hb
    replace hBz := Fk.mono _ _ _ _ hBz hb
    replace bl := bgo bl hb
    replace sd := sd2 sz2 df2 sd
    clear df2 sz2 old2 new2 hb
    refine wpList_nil ?_
    clear hbS hbS0 S_x0 S_x1 S_x10
    clear x90
    clear m15
    clear hAz hBz hrz lAz lBz
    show Code.wp _ _ _ _ _
    refine wp_seq ?_
    refine wr_a [.eq (.bool false)] (by rw [sd.1]; kernel_rfl) ⟨fun hw ac u K => ?_, trivial⟩ ?_
    · exact st_move (.tmp 18) rfl (K.t x18 rfl)
    intro f26 w26 A hb
    replace x0 := f_at (A.old 0 rfl) (Fk.mono _ _ _ _ x0 hb)
    replace x1 := f_at (A.old 1 rfl) (Fk.mono _ _ _ _ x1 hb)
    replace x6 := A.t x6 rfl
    replace x7 := A.t x7 rfl
    replace x9 := A.t x9 rfl
    replace x10 := f_at (A.old 10 rfl) (Fk.mono _ _ _ _ x10 hb)
    replace x16 := A.t x16 rfl
    replace x17 := A.t x17 rfl
    replace x18 := A.t x18 rfl
    have x91 := A.e 0 91 rfl rfl
    replace m6 := Ob.below m6 hb
    replace m9 := Ob.below m9 hb
    replace m16 := Ob.below m16 hb
    replace m17 := Ob.below m17 hb
    replace bl := bgo bl hb
    replace sd := A.sd sd
    clear A hb
    clear x18
    show Code.wp _ _ _ _ _
    refine wp_cond_false x91 ?_
    refine wp_skip ?_
    show Code.wp _ _ _ _ _
    refine wp_seq ?_
    refine wp_seq ?_
    by_cases hs2 : xa = z ∧ ya = s0
    rotate_left
    · skip
      refine wp_region_late [.mc (qn), .eq (.agg ((xa ++ ya).map V).toArray), .eq (.agg ((z).map V).toArray), .eq (.agg ((s0).map V).toArray), .eq (.agg ((z ++ s0).map V).toArray), .c2 true, .c2 true, .cv true, .eq (.bool true), .nw w26.heap.size 25 [.slice none 0 0, .slice none 0 0]] 8 101 _ _ [11] Tryd.mixed (by kernel_rfl) (by kernel_rfl) (by kernel_rfl) (by kernel_rfl) (by kernel_rfl) rfl rfl (by kernel_rfl) rfl (by kernel_rfl) rfl (by rw [sd.1]; kernel_rfl) (by kernel_rfl) (fun ac u K => ⟨_, late_c2 rfl (K.dep 6 93 rfl), rfl⟩) ⟨fun hw ac u K => ?_, fun hw ac u K => ?_, fun hw ac u K => ?_, fun hw ac u K => ?_, fun hw ac u K => ?_, fun hw ac u K => ?_, fun hw ac u K => ?_, fun hw ac u K => ?_, fun hw ac u K => ?_, fun hw ac u K => ?_, trivial⟩ ?_
      · exact st_move (.tmp 1) rfl (f_at (K.old 1 rfl) (Fk.mono _ _ _ _ x1 K.grow))
      · exact st_call 45 (.func 45) _ _ _ rfl rfl (one_arg rfl) Tryd.enter45 (fk_halves (by omega) (smallP_mx hsn) h2 (K.dep 0 94 rfl) (hK.below (bgo bl K.grow)) hk exa eya)
      · exact st_load33 (.tmp 9) rfl (g9) (z) (K.t x9 rfl) hz0 (Ob.below m9 K.grow)
      · exact st_load33 (.tmp 16) rfl (g16) (s0) (K.t x16 rfl) hs0 (Ob.below m16 K.grow)
      · exact st_build2h (.tmp 96) (.tmp 97) rfl hz0 hs0 (K.dep 2 96 rfl) (K.dep 3 97 rfl)
      · exact st_call 46 (.func 46) _ _ _ rfl rfl (arg2 (K.dep 1 95 rfl) (K.dep 4 98 rfl)) Tryd.enter46 (fk_against hxa hya hz0 hs0 hnd (by simp [hs2]) _)
      · exact st_move (.tmp 99) rfl (K.dep 5 99 rfl)
      · exact st_c2a (.tmp 93) rfl (K.dep 6 93 rfl)
      · exact st_c2b (.tmp 93) rfl (K.dep 6 93 rfl)
      · exact st_alloc 25 rfl _ _ (by kernel_rfl) K.grow.size
      intro f27 w27 A hb
      have S_x0 : Fk.f (.mc (qo)) (f27.eval (.tmp 0)) w26 := f_at (A.old 0 rfl) x0
      have S_x1 : Fk.f (.mc (qn)) (f27.eval (.tmp 1)) w26 := f_at (A.old 1 rfl) x1
      have S_x10 : Fk.f (.hc (P0)) (f27.eval (.tmp 10)) w26 := f_at (A.old 10 rfl) x10
      have hbS0 := Below.refl w26.heap.size w26
      have hbS := hb
      replace bl0 := bl
      replace x0 := f_at (A.old 0 rfl) (Fk.mono _ _ _ _ x0 hb)
      replace x1 := f_at (A.old 1 rfl) (Fk.mono _ _ _ _ x1 hb)
      replace x6 := A.t x6 rfl
      replace x7 := A.t x7 rfl
      replace x9 := A.t x9 rfl
      replace x10 := f_at (A.old 10 rfl) (Fk.mono _ _ _ _ x10 hb)
      replace x16 := A.t x16 rfl
      replace x17 := A.t x17 rfl
      replace x91 := A.t x91 rfl
      have x19 : Fk.f (.nw w26.heap.size 25 [.slice none 0 0, .slice none 0 0]) (f27.eval (.tmp 19)) w27 := A.has 9 19 rfl
      have x100 : Fk.f (.cv true) (f27.eval (.tmp 100)) w27 := A.has 7 100 rfl
      have x101 := A.e 8 101 rfl rfl
      have lt_m6 := Ob.lt m6
      replace m6 := Ob.below m6 hb
      have lt_m9 := Ob.lt m9
      replace m9 := Ob.below m9 hb
      have lt_m16 := Ob.lt m16
      replace m16 := Ob.below m16 hb
      have lt_m17 := Ob.lt m17
      replace m17 := Ob.below m17 hb
      replace bl := bgo bl hb
      replace sd := A.sd sd
      clear A hb
      clear x9
      clear x16
      clear x17
      clear x91
      obtain ⟨g19, hg19, e19, m19⟩ := x19
      have x19 := e19
      clear e19
      have nm6_19 : g6 ≠ g19 := Nat.ne_of_lt (Nat.lt_of_lt_of_le lt_m6 hg19)
      have nm9_19 : g9 ≠ g19 := Nat.ne_of_lt (Nat.lt_of_lt_of_le lt_m9 hg19)
      have nm16_19 : g16 ≠ g19 := Nat.ne_of_lt (Nat.lt_of_lt_of_le lt_m16 hg19)
      have nm17_19 : g17 ≠ g19 := Nat.ne_of_lt (Nat.lt_of_lt_of_le lt_m17 hg19)
      have hw19 : w.heap.size ≤ g19 := Nat.le_trans bl0.size hg19
      have hs19 := Nat.le_trans hbS0.size hg19
      obtain ⟨Ay, By, uy, vy, ey, hAy, hBy, lAy, lBy, hry⟩ := x100
      obtain ⟨pAy, mAy, cAy, _, _, rfl, _⟩ := id hAy
      obtain ⟨pBy, mBy, cBy, _, _, rfl, _⟩ := id hBy
      have x100 := ey
      clear ey
      refine ⟨_, run_str 25 (.tmp 19) (.tmp 100) rfl (g19) ([.slice pAy mAy cAy, .slice pBy mBy cBy] : List Value).toArray x19 x100 25 _ m19 (by kernel_rfl) (by kernel_rfl) (by kernel_rfl), ?_⟩
      replace hAy := sl_setRow (ds := ([.slice pAy mAy cAy, .slice pBy mBy cBy] : List Value).toArray) hAy m19
      replace hBy := sl_setRow (ds := ([.slice pAy mAy cAy, .slice pBy mBy cBy] : List Value).toArray) hBy m19
      replace m6 : Ob (w27.setRow g19 ([.slice pAy mAy cAy, .slice pBy mBy cBy] : List Value).toArray) (g6) 25 ([.slice none 0 0, .slice none 0 0]) := Ob.setRow_other m6 _ nm6_19
      replace m9 : Ob (w27.setRow g19 ([.slice pAy mAy cAy, .slice pBy mBy cBy] : List Value).toArray) (g9) 33 ((z).map V) := Ob.setRow_other m9 _ nm9_19
      replace m16 : Ob (w27.setRow g19 ([.slice pAy mAy cAy, .slice pBy mBy cBy] : List Value).toArray) (g16) 33 ((s0).map V) := Ob.setRow_other m16 _ nm16_19
      replace m17 : Ob (w27.setRow g19 ([.slice pAy mAy cAy, .slice pBy mBy cBy] : List Value).toArray) (g17) 25 ([.slice pAz mAz cAz, .slice pBz mBz cBz]) := Ob.setRow_other m17 _ nm17_19
      replace m19 : Ob (w27.setRow g19 ([.slice pAy mAy cAy, .slice pBy mBy cBy] : List Value).toArray) (g19) 25 ([.slice pAy mAy cAy, .slice pBy mBy cBy]) := Ob.setRow m19 ([.slice pAy mAy cAy, .slice pBy mBy cBy])
      replace hbS : Below _ _ (w27.setRow g19 ([.slice pAy mAy cAy, .slice pBy mBy cBy] : List Value).toArray) := hbS.trans (below_setRow _ _ _ _ hs19)
      replace bl : Below w.heap.size w (w27.setRow g19 ([.slice pAy mAy cAy, .slice pBy mBy cBy] : List Value).toArray) := bl.trans (below_setRow _ _ _ _ hw19)
      generalize w27.setRow g19 ([.slice pAy mAy cAy, .slice pBy mBy cBy] : List Value).toArray = w28b at bl m6 m9 m16 m17 m19 hAy hBy hbS ⊢
      replace x0 : Fk.f (.mc (qo)) (f27.eval (.tmp 0)) w28b := Fk.mono _ _ _ _ S_x0 hbS
      replace x1 : Fk.f (.mc (qn)) (f27.eval (.tmp 1)) w28b := Fk.mono _ _ _ _ S_x1 hbS
      replace x10 : Fk.f (.hc (P0)) (f27.eval (.tmp 10)) w28b := Fk.mono _ _ _ _ S_x10 hbS
      clear x100
      refine wl_one (.eq (.bool true)) rfl 20 rfl (by rw [sd.1]; decide) (st_assign (.tmp 101) rfl x101) ?_
      intro f29 w29 df2 sz2 old2 new2 hb
      replace hbS0 := hbS
      replace hbS := hbS.trans (Below.mono hb hbS.size)
      replace S_x0 := f_at (old2 0 rfl) S_x0
      replace S_x1 := f_at (old2 1 rfl) S_x1
      replace S_x10 := f_at (old2 10 rfl) S_x10
      replace x0 := f_at (old2 0 rfl) (Fk.mono _ _ _ _ x0 hb)
      replace x1 := f_at (old2 1 rfl) (Fk.mono _ _ _ _ x1 hb)
      replace x6 := tr old2 x6 rfl
      replace x7 := tr old2 x7 rfl
      replace x10 := f_at (old2 10 rfl) (Fk.mono _ _ _ _ x10 hb)
      replace x19 := tr old2 x19 rfl
      replace x101 := tr old2 x101 rfl
      have x20 := Fk.e new2
      replace m6 := Ob.below m6 hb
      replace m9 := Ob.below m9 hb
      replace m16 := Ob.below m16 hb
      replace m17 := Ob.below m17 hb
      replace m19 := Ob.below m19 hb
      replace hAy := Fk.mono _ _ _ _ hAy hb
      replace hBy := Fk.mono _ _ _ _ hBy hb
      replace bl := bgo bl hb
      replace sd := sd2 sz2 df2 sd
      clear df2 sz2 old2 new2 hb
      refine wpList_nil ?_
      clear hbS hbS0 S_x0 S_x1 S_x10
      clear x101
      clear m9 m16 m17
      show Code.wp _ _ _ _ _
      refine wp_seq ?_
      refine wr_a [.eq (.bool true)] (by rw [sd.1]; kernel_rfl) ⟨fun hw ac u K => ?_, trivial⟩ ?_
      · exact st_move (.tmp 20) rfl (K.t x20 rfl)
      intro f30 w30 A hb
      replace x0 := f_at (A.old 0 rfl) (Fk.mono _ _ _ _ x0 hb)
      replace x1 := f_at (A.old 1 rfl) (Fk.mono _ _ _ _ x1 hb)
      replace x6 := A.t x6 rfl
      replace x7 := A.t x7 rfl
      replace x10 := f_at (A.old 10 rfl) (Fk.mono _ _ _ _ x10 hb)
      replace x19 := A.t x19 rfl
      replace x20 := A.t x20 rfl
      have x102 := A.e 0 102 rfl rfl
      replace m6 := Ob.below m6 hb
      replace m19 := Ob.below m19 hb
      replace hAy := Fk.mono _ _ _ _ hAy hb
      replace hBy := Fk.mono _ _ _ _ hBy hb
      replace bl := bgo bl hb
      replace sd := A.sd sd
      clear A hb
      clear x20
      show Code.wp _ _ _ _ _
      refine wp_cond_true x102 ?_
      refine wp_seq ?_
      clear x0
      clear x1
      clear x10
      refine wr_s [.eq (.agg ([.slice pAy mAy cAy, .slice pBy mBy cBy] : List Value).toArray)] (by rw [sd.1]; kernel_rfl) ⟨fun hw ac u K => ?_, trivial⟩ ?_
      · exact st_loadz 25 (.tmp 19) rfl (g19) 0 [.slice pAy mAy cAy, .slice pBy mBy cBy] (by kernel_rfl) (by kernel_rfl) (K.t x19 rfl) (Ob.range (Ob.below m19 K.grow) 0 _ (fun j v hj => by simpa using hj))
      intro f31 w31 A hb
      replace x6 := A.t x6 rfl
      replace x7 := A.t x7 rfl
      replace x19 := A.t x19 rfl
      replace x102 := A.t x102 rfl
      have x103 := A.e 0 103 rfl rfl
      replace m6 := Ob.below m6 hb
      replace m19 := Ob.below m19 hb
      replace hAy := Fk.mono _ _ _ _ hAy hb
      replace hBy := Fk.mono _ _ _ _ hBy hb
      replace bl := bgo bl hb
      replace sd := A.sd sd
      clear A hb
      clear x7
      clear x19
      clear x102
      refine wl_str rfl 25 (.tmp 6) (.tmp 103) rfl rfl (g6) ([.slice pAy mAy cAy, .slice pBy mBy cBy] : List Value).toArray x6 x103 25 _ m6 (by kernel_rfl) (by kernel_rfl) (by kernel_rfl) ?_
      replace hAy := sl_setRow (ds := ([.slice pAy mAy cAy, .slice pBy mBy cBy] : List Value).toArray) hAy m6
      replace hBy := sl_setRow (ds := ([.slice pAy mAy cAy, .slice pBy mBy cBy] : List Value).toArray) hBy m6
      replace m6 : Ob (w31.setRow g6 ([.slice pAy mAy cAy, .slice pBy mBy cBy] : List Value).toArray) (g6) 25 ([.slice pAy mAy cAy, .slice pBy mBy cBy]) := Ob.setRow m6 ([.slice pAy mAy cAy, .slice pBy mBy cBy])
      replace m19 : Ob (w31.setRow g6 ([.slice pAy mAy cAy, .slice pBy mBy cBy] : List Value).toArray) (g19) 25 ([.slice pAy mAy cAy, .slice pBy mBy cBy]) := Ob.setRow_other m19 _ nm6_19.symm
      replace bl : Below w.heap.size w (w31.setRow g6 ([.slice pAy mAy cAy, .slice pBy mBy cBy] : List Value).toArray) := bl.trans (below_setRow _ _ _ _ hw6)
      generalize w31.setRow g6 ([.slice pAy mAy cAy, .slice pBy mBy cBy] : List Value).toArray = w32b at bl m6 m19 hAy hBy ⊢
      refine wpList_nil ?_
      clear x103
      clear m19
      show Code.wp _ _ _ _ _
      refine wp_ret ?_
      repeat (first | with_reducible refine then_ret ?_ | with_reducible refine block_ret ?_)
      exact bodyPost_ret (v := .agg ([.slice pAy mAy cAy, .slice pBy mBy cBy] : List Value).toArray) (ret_c1 rfl f31 _ g6 _ _ x6 m6) sd.2 ⟨_, rfl, ⟨Ay, By, _, _, rfl, hAy, hBy, lAy, lBy, hry⟩, bl⟩
    refine wp_region_late [.mc (qn), .eq (.agg ((xa ++ ya).map V).toArray), .eq (.agg ((z).map V).toArray), .eq (.agg ((s0).map V).toArray), .eq (.agg ((z ++ s0).map V).toArray), .c2 false, .c2 false, .cv false, .eq (.bool false), .nw w26.heap.size 25 [.slice none 0 0, .slice none 0 0]] 8 101 _ _ [11] Tryd.mixed (by kernel_rfl) (by kernel_rfl) (by kernel_rfl) (by kernel_rfl) (by kernel_rfl) rfl rfl (by kernel_rfl) rfl (by kernel_rfl) rfl (by rw [sd.1]; kernel_rfl) (by kernel_rfl) (fun ac u K => ⟨_, late_c2 rfl (K.dep 6 93 rfl), rfl⟩) ⟨fun hw ac u K => ?_, fun hw ac u K => ?_, fun hw ac u K => ?_, fun hw ac u K => ?_, fun hw ac u K => ?_, fun hw ac u K => ?_, fun hw ac u K => ?_, fun hw ac u K => ?_, fun hw ac u K => ?_, fun hw ac u K => ?_, trivial⟩ ?_
    · exact st_move (.tmp 1) rfl (f_at (K.old 1 rfl) (Fk.mono _ _ _ _ x1 K.grow))
    · exact st_call 45 (.func 45) _ _ _ rfl rfl (one_arg rfl) Tryd.enter45 (fk_halves (by omega) (smallP_mx hsn) h2 (K.dep 0 94 rfl) (hK.below (bgo bl K.grow)) hk exa eya)
    · exact st_load33 (.tmp 9) rfl (g9) (z) (K.t x9 rfl) hz0 (Ob.below m9 K.grow)
    · exact st_load33 (.tmp 16) rfl (g16) (s0) (K.t x16 rfl) hs0 (Ob.below m16 K.grow)
    · exact st_build2h (.tmp 96) (.tmp 97) rfl hz0 hs0 (K.dep 2 96 rfl) (K.dep 3 97 rfl)
    · exact st_call 46 (.func 46) _ _ _ rfl rfl (arg2 (K.dep 1 95 rfl) (K.dep 4 98 rfl)) Tryd.enter46 (fk_against hxa hya hz0 hs0 hnd (by simp only [hs2]; simp) _)
    · exact st_move (.tmp 99) rfl (K.dep 5 99 rfl)
    · exact st_c2a (.tmp 93) rfl (K.dep 6 93 rfl)
    · exact st_c2b (.tmp 93) rfl (K.dep 6 93 rfl)
    · exact st_alloc 25 rfl _ _ (by kernel_rfl) K.grow.size
    intro f27 w27 A hb
    have S_x0 : Fk.f (.mc (qo)) (f27.eval (.tmp 0)) w26 := f_at (A.old 0 rfl) x0
    have S_x1 : Fk.f (.mc (qn)) (f27.eval (.tmp 1)) w26 := f_at (A.old 1 rfl) x1
    have S_x10 : Fk.f (.hc (P0)) (f27.eval (.tmp 10)) w26 := f_at (A.old 10 rfl) x10
    have hbS0 := Below.refl w26.heap.size w26
    have hbS := hb
    replace bl0 := bl
    replace x0 := f_at (A.old 0 rfl) (Fk.mono _ _ _ _ x0 hb)
    replace x1 := f_at (A.old 1 rfl) (Fk.mono _ _ _ _ x1 hb)
    replace x6 := A.t x6 rfl
    replace x7 := A.t x7 rfl
    replace x9 := A.t x9 rfl
    replace x10 := f_at (A.old 10 rfl) (Fk.mono _ _ _ _ x10 hb)
    replace x16 := A.t x16 rfl
    replace x17 := A.t x17 rfl
    replace x91 := A.t x91 rfl
    have x19 : Fk.f (.nw w26.heap.size 25 [.slice none 0 0, .slice none 0 0]) (f27.eval (.tmp 19)) w27 := A.has 9 19 rfl
    have x100 : Fk.f (.cv false) (f27.eval (.tmp 100)) w27 := A.has 7 100 rfl
    have x101 := A.e 8 101 rfl rfl
    have lt_m6 := Ob.lt m6
    replace m6 := Ob.below m6 hb
    have lt_m9 := Ob.lt m9
    replace m9 := Ob.below m9 hb
    have lt_m16 := Ob.lt m16
    replace m16 := Ob.below m16 hb
    have lt_m17 := Ob.lt m17
    replace m17 := Ob.below m17 hb
    replace bl := bgo bl hb
    replace sd := A.sd sd
    clear A hb
    clear x9
    clear x16
    clear x17
    clear x91
    obtain ⟨g19, hg19, e19, m19⟩ := x19
    have x19 := e19
    clear e19
    have nm6_19 : g6 ≠ g19 := Nat.ne_of_lt (Nat.lt_of_lt_of_le lt_m6 hg19)
    have nm9_19 : g9 ≠ g19 := Nat.ne_of_lt (Nat.lt_of_lt_of_le lt_m9 hg19)
    have nm16_19 : g16 ≠ g19 := Nat.ne_of_lt (Nat.lt_of_lt_of_le lt_m16 hg19)
    have nm17_19 : g17 ≠ g19 := Nat.ne_of_lt (Nat.lt_of_lt_of_le lt_m17 hg19)
    have hw19 : w.heap.size ≤ g19 := Nat.le_trans bl0.size hg19
    have hs19 := Nat.le_trans hbS0.size hg19
    obtain ⟨Ay, By, uy, vy, ey, hAy, hBy, lAy, lBy, hry⟩ := x100
    obtain ⟨pAy, mAy, cAy, _, _, rfl, _⟩ := id hAy
    obtain ⟨pBy, mBy, cBy, _, _, rfl, _⟩ := id hBy
    have x100 := ey
    clear ey
    refine ⟨_, run_str 25 (.tmp 19) (.tmp 100) rfl (g19) ([.slice pAy mAy cAy, .slice pBy mBy cBy] : List Value).toArray x19 x100 25 _ m19 (by kernel_rfl) (by kernel_rfl) (by kernel_rfl), ?_⟩
    replace hAy := sl_setRow (ds := ([.slice pAy mAy cAy, .slice pBy mBy cBy] : List Value).toArray) hAy m19
    replace hBy := sl_setRow (ds := ([.slice pAy mAy cAy, .slice pBy mBy cBy] : List Value).toArray) hBy m19
    replace m6 : Ob (w27.setRow g19 ([.slice pAy mAy cAy, .slice pBy mBy cBy] : List Value).toArray) (g6) 25 ([.slice none 0 0, .slice none 0 0]) := Ob.setRow_other m6 _ nm6_19
    replace m9 : Ob (w27.setRow g19 ([.slice pAy mAy cAy, .slice pBy mBy cBy] : List Value).toArray) (g9) 33 ((z).map V) := Ob.setRow_other m9 _ nm9_19
    replace m16 : Ob (w27.setRow g19 ([.slice pAy mAy cAy, .slice pBy mBy cBy] : List Value).toArray) (g16) 33 ((s0).map V) := Ob.setRow_other m16 _ nm16_19
    replace m17 : Ob (w27.setRow g19 ([.slice pAy mAy cAy, .slice pBy mBy cBy] : List Value).toArray) (g17) 25 ([.slice pAz mAz cAz, .slice pBz mBz cBz]) := Ob.setRow_other m17 _ nm17_19
    replace m19 : Ob (w27.setRow g19 ([.slice pAy mAy cAy, .slice pBy mBy cBy] : List Value).toArray) (g19) 25 ([.slice pAy mAy cAy, .slice pBy mBy cBy]) := Ob.setRow m19 ([.slice pAy mAy cAy, .slice pBy mBy cBy])
    replace hbS : Below _ _ (w27.setRow g19 ([.slice pAy mAy cAy, .slice pBy mBy cBy] : List Value).toArray) := hbS.trans (below_setRow _ _ _ _ hs19)
    replace bl : Below w.heap.size w (w27.setRow g19 ([.slice pAy mAy cAy, .slice pBy mBy cBy] : List Value).toArray) := bl.trans (below_setRow _ _ _ _ hw19)
    generalize w27.setRow g19 ([.slice pAy mAy cAy, .slice pBy mBy cBy] : List Value).toArray = w28b at bl m6 m9 m16 m17 m19 hAy hBy hbS ⊢
    replace x0 : Fk.f (.mc (qo)) (f27.eval (.tmp 0)) w28b := Fk.mono _ _ _ _ S_x0 hbS
    replace x1 : Fk.f (.mc (qn)) (f27.eval (.tmp 1)) w28b := Fk.mono _ _ _ _ S_x1 hbS
    replace x10 : Fk.f (.hc (P0)) (f27.eval (.tmp 10)) w28b := Fk.mono _ _ _ _ S_x10 hbS
    clear x100
    refine wl_one (.eq (.bool false)) rfl 20 rfl (by rw [sd.1]; decide) (st_assign (.tmp 101) rfl x101) ?_
    intro f29 w29 df2 sz2 old2 new2 hb
    replace hbS0 := hbS
    replace hbS := hbS.trans (Below.mono hb hbS.size)
    replace S_x0 := f_at (old2 0 rfl) S_x0
    replace S_x1 := f_at (old2 1 rfl) S_x1
    replace S_x10 := f_at (old2 10 rfl) S_x10
    replace x0 := f_at (old2 0 rfl) (Fk.mono _ _ _ _ x0 hb)
    replace x1 := f_at (old2 1 rfl) (Fk.mono _ _ _ _ x1 hb)
    replace x6 := tr old2 x6 rfl
    replace x7 := tr old2 x7 rfl
    replace x10 := f_at (old2 10 rfl) (Fk.mono _ _ _ _ x10 hb)
    replace x19 := tr old2 x19 rfl
    replace x101 := tr old2 x101 rfl
    have x20 := Fk.e new2
    replace m6 := Ob.below m6 hb
    replace m9 := Ob.below m9 hb
    replace m16 := Ob.below m16 hb
    replace m17 := Ob.below m17 hb
    replace m19 := Ob.below m19 hb
    replace hAy := Fk.mono _ _ _ _ hAy hb
    replace hBy := Fk.mono _ _ _ _ hBy hb
    replace bl := bgo bl hb
    replace sd := sd2 sz2 df2 sd
    clear df2 sz2 old2 new2 hb
    refine wpList_nil ?_
    clear hbS hbS0 S_x0 S_x1 S_x10
    clear x101
    clear m9 m16 m17
    clear hAy hBy hry lAy lBy
    show Code.wp _ _ _ _ _
    refine wp_seq ?_
    refine wr_a [.eq (.bool false)] (by rw [sd.1]; kernel_rfl) ⟨fun hw ac u K => ?_, trivial⟩ ?_
    · exact st_move (.tmp 20) rfl (K.t x20 rfl)
    intro f30 w30 A hb
    replace x0 := f_at (A.old 0 rfl) (Fk.mono _ _ _ _ x0 hb)
    replace x1 := f_at (A.old 1 rfl) (Fk.mono _ _ _ _ x1 hb)
    replace x6 := A.t x6 rfl
    replace x7 := A.t x7 rfl
    replace x10 := f_at (A.old 10 rfl) (Fk.mono _ _ _ _ x10 hb)
    replace x19 := A.t x19 rfl
    replace x20 := A.t x20 rfl
    have x102 := A.e 0 102 rfl rfl
    replace m6 := Ob.below m6 hb
    replace m19 := Ob.below m19 hb
    replace bl := bgo bl hb
    replace sd := A.sd sd
    clear A hb
    clear x20
    show Code.wp _ _ _ _ _
    refine wp_cond_false x102 ?_
    refine wp_skip ?_
    show Code.wp _ _ _ _ _
    refine wp_seq ?_
    refine wp_seq ?_
    by_cases hbb : bys (qo.take k) = bys (qn.take k)
    rotate_left
    · skip
      refine wp_region_late [.mc (qo), .eq (.int .i64 (k : Int)), .mc (qo.take k), .mc (qn), .eq (.int .i64 (k : Int)), .mc (qn.take k), .c2 true, .c2 true, .cv true, .eq (.bool true), .nw w30.heap.size 25 [.slice none 0 0, .slice none 0 0]] 9 113 _ _ [12] Tryd.mixed (by kernel_rfl) (by kernel_rfl) (by kernel_rfl) (by kernel_rfl) (by kernel_rfl) rfl rfl (by kernel_rfl) rfl (by kernel_rfl) rfl (by rw [sd.1]; kernel_rfl) (by kernel_rfl) (fun ac u K => ⟨_, late_c2 rfl (K.dep 7 104 rfl), rfl⟩) ⟨fun hw ac u K => ?_, fun hw ac u K => ?_, fun hw ac u K => ?_, fun hw ac u K => ?_, fun hw ac u K => ?_, fun hw ac u K => ?_, fun hw ac u K => ?_, fun hw ac u K => ?_, fun hw ac u K => ?_, fun hw ac u K => ?_, fun hw ac u K => ?_, trivial⟩ ?_
      · exact st_move (.tmp 0) rfl (f_at (K.old 0 rfl) (Fk.mono _ _ _ _ x0 K.grow))
      · exact st_move (.tmp 7) rfl (K.t x7 rfl)
      · exact st_cutmc (.tmp 105) (.tmp 106) rfl (K.dep 0 105 rfl) k (K.dep 1 106 rfl) (by omega)
      · exact st_move (.tmp 1) rfl (f_at (K.old 1 rfl) (Fk.mono _ _ _ _ x1 K.grow))
      · exact st_move (.tmp 7) rfl (K.t x7 rfl)
      · exact st_cutmc (.tmp 108) (.tmp 109) rfl (K.dep 3 108 rfl) k (K.dep 4 109 rfl) (by omega)
      · exact st_call 12 (.func 12) _ _ _ rfl rfl (arg2 rfl rfl) Tryd.enter12 (fk_lists (smallP_take hso k) (smallP_take hsn k) (K.dep 2 107 rfl) (K.dep 5 110 rfl) (hK.below (bgo bl K.grow)) (by symm; rw [decide_eq_true_iff]; exact ⟨by rw [List.length_take, List.length_take]; omega, by rw [eua.out, exa.out, hs1.1, hs2.1], hbb⟩))
      · exact st_move (.tmp 111) rfl (K.dep 6 111 rfl)
      · exact st_c2a (.tmp 104) rfl (K.dep 7 104 rfl)
      · exact st_c2b (.tmp 104) rfl (K.dep 7 104 rfl)
      · exact st_alloc 25 rfl _ _ (by kernel_rfl) K.grow.size
      intro f31 w31 A hb
      have S_x0 : Fk.f (.mc (qo)) (f31.eval (.tmp 0)) w30 := f_at (A.old 0 rfl) x0
      have S_x1 : Fk.f (.mc (qn)) (f31.eval (.tmp 1)) w30 := f_at (A.old 1 rfl) x1
      have S_x10 : Fk.f (.hc (P0)) (f31.eval (.tmp 10)) w30 := f_at (A.old 10 rfl) x10
      have hbS0 := Below.refl w30.heap.size w30
      have hbS := hb
      replace bl0 := bl
      replace x0 := f_at (A.old 0 rfl) (Fk.mono _ _ _ _ x0 hb)
      replace x1 := f_at (A.old 1 rfl) (Fk.mono _ _ _ _ x1 hb)
      replace x6 := A.t x6 rfl
      replace x7 := A.t x7 rfl
      replace x10 := f_at (A.old 10 rfl) (Fk.mono _ _ _ _ x10 hb)
      replace x19 := A.t x19 rfl
      replace x102 := A.t x102 rfl
      have x21 : Fk.f (.nw w30.heap.size 25 [.slice none 0 0, .slice none 0 0]) (f31.eval (.tmp 21)) w31 := A.has 10 21 rfl
      have x112 : Fk.f (.cv true) (f31.eval (.tmp 112)) w31 := A.has 8 112 rfl
      have x113 := A.e 9 113 rfl rfl
      have lt_m6 := Ob.lt m6
      replace m6 := Ob.below m6 hb
      have lt_m19 := Ob.lt m19
      replace m19 := Ob.below m19 hb
      replace bl := bgo bl hb
      replace sd := A.sd sd
      clear A hb
      clear x19
      clear x102
      obtain ⟨g21, hg21, e21, m21⟩ := x21
      have x21 := e21
      clear e21
      have nm6_21 : g6 ≠ g21 := Nat.ne_of_lt (Nat.lt_of_lt_of_le lt_m6 hg21)
      have nm19_21 : g19 ≠ g21 := Nat.ne_of_lt (Nat.lt_of_lt_of_le lt_m19 hg21)
      have hw21 : w.heap.size ≤ g21 := Nat.le_trans bl0.size hg21
      have hs21 := Nat.le_trans hbS0.size hg21
      obtain ⟨Ax, Bx, ux, vx, ex, hAx, hBx, lAx, lBx, hrx⟩ := x112
      obtain ⟨pAx, mAx, cAx, _, _, rfl, _⟩ := id hAx
      obtain ⟨pBx, mBx, cBx, _, _, rfl, _⟩ := id hBx
      have x112 := ex
      clear ex
      refine ⟨_, run_str 25 (.tmp 21) (.tmp 112) rfl (g21) ([.slice pAx mAx cAx, .slice pBx mBx cBx] : List Value).toArray x21 x112 25 _ m21 (by kernel_rfl) (by kernel_rfl) (by kernel_rfl), ?_⟩
      replace hAx := sl_setRow (ds := ([.slice pAx mAx cAx, .slice pBx mBx cBx] : List Value).toArray) hAx m21
      replace hBx := sl_setRow (ds := ([.slice pAx mAx cAx, .slice pBx mBx cBx] : List Value).toArray) hBx m21
      replace m6 : Ob (w31.setRow g21 ([.slice pAx mAx cAx, .slice pBx mBx cBx] : List Value).toArray) (g6) 25 ([.slice none 0 0, .slice none 0 0]) := Ob.setRow_other m6 _ nm6_21
      replace m19 : Ob (w31.setRow g21 ([.slice pAx mAx cAx, .slice pBx mBx cBx] : List Value).toArray) (g19) 25 ([.slice pAy mAy cAy, .slice pBy mBy cBy]) := Ob.setRow_other m19 _ nm19_21
      replace m21 : Ob (w31.setRow g21 ([.slice pAx mAx cAx, .slice pBx mBx cBx] : List Value).toArray) (g21) 25 ([.slice pAx mAx cAx, .slice pBx mBx cBx]) := Ob.setRow m21 ([.slice pAx mAx cAx, .slice pBx mBx cBx])
      replace hbS : Below _ _ (w31.setRow g21 ([.slice pAx mAx cAx, .slice pBx mBx cBx] : List Value).toArray) := hbS.trans (below_setRow _ _ _ _ hs21)
      replace bl : Below w.heap.size w (w31.setRow g21 ([.slice pAx mAx cAx, .slice pBx mBx cBx] : List Value).toArray) := bl.trans (below_setRow _ _ _ _ hw21)
      generalize w31.setRow g21 ([.slice pAx mAx cAx, .slice pBx mBx cBx] : List Value).toArray = w32b at bl m6 m19 m21 hAx hBx hbS ⊢
      replace x0 : Fk.f (.mc (qo)) (f31.eval (.tmp 0)) w32b := Fk.mono _ _ _ _ S_x0 hbS
      replace x1 : Fk.f (.mc (qn)) (f31.eval (.tmp 1)) w32b := Fk.mono _ _ _ _ S_x1 hbS
      replace x10 : Fk.f (.hc (P0)) (f31.eval (.tmp 10)) w32b := Fk.mono _ _ _ _ S_x10 hbS
      clear x112
      refine wl_one (.eq (.bool true)) rfl 22 rfl (by rw [sd.1]; decide) (st_assign (.tmp 113) rfl x113) ?_
      intro f33 w33 df2 sz2 old2 new2 hb
      replace hbS0 := hbS
      replace hbS := hbS.trans (Below.mono hb hbS.size)
      replace S_x0 := f_at (old2 0 rfl) S_x0
      replace S_x1 := f_at (old2 1 rfl) S_x1
      replace S_x10 := f_at (old2 10 rfl) S_x10
      replace x0 := f_at (old2 0 rfl) (Fk.mono _ _ _ _ x0 hb)
      replace x1 := f_at (old2 1 rfl) (Fk.mono _ _ _ _ x1 hb)
      replace x6 := tr old2 x6 rfl
      replace x7 := tr old2 x7 rfl
      replace x10 := f_at (old2 10 rfl) (Fk.mono _ _ _ _ x10 hb)
      replace x21 := tr old2 x21 rfl
      replace x113 := tr old2 x113 rfl
      have x22 := Fk.e new2
      replace m6 := Ob.below m6 hb
      replace m19 := Ob.below m19 hb
      replace m21 := Ob.below m21 hb
      replace hAx := Fk.mono _ _ _ _ hAx hb
      replace hBx := Fk.mono _ _ _ _ hBx hb
      replace bl := bgo bl hb
      replace sd := sd2 sz2 df2 sd
      clear df2 sz2 old2 new2 hb
      refine wpList_nil ?_
      clear hbS hbS0 S_x0 S_x1 S_x10
      clear x113
      clear m19
      show Code.wp _ _ _ _ _
      refine wp_seq ?_
      refine wr_a [.eq (.bool true)] (by rw [sd.1]; kernel_rfl) ⟨fun hw ac u K => ?_, trivial⟩ ?_
      · exact st_move (.tmp 22) rfl (K.t x22 rfl)
      intro f34 w34 A hb
      replace x0 := f_at (A.old 0 rfl) (Fk.mono _ _ _ _ x0 hb)
      replace x1 := f_at (A.old 1 rfl) (Fk.mono _ _ _ _ x1 hb)
      replace x6 := A.t x6 rfl
      replace x7 := A.t x7 rfl
      replace x10 := f_at (A.old 10 rfl) (Fk.mono _ _ _ _ x10 hb)
      replace x21 := A.t x21 rfl
      replace x22 := A.t x22 rfl
      have x114 := A.e 0 114 rfl rfl
      replace m6 := Ob.below m6 hb
      replace m21 := Ob.below m21 hb
      replace hAx := Fk.mono _ _ _ _ hAx hb
      replace hBx := Fk.mono _ _ _ _ hBx hb
      replace bl := bgo bl hb
      replace sd := A.sd sd
      clear A hb
      clear x22
      show Code.wp _ _ _ _ _
      refine wp_cond_true x114 ?_
      refine wp_seq ?_
      clear x0
      clear x1
      clear x10
      refine wr_s [.eq (.agg ([.slice pAx mAx cAx, .slice pBx mBx cBx] : List Value).toArray)] (by rw [sd.1]; kernel_rfl) ⟨fun hw ac u K => ?_, trivial⟩ ?_
      · exact st_loadz 25 (.tmp 21) rfl (g21) 0 [.slice pAx mAx cAx, .slice pBx mBx cBx] (by kernel_rfl) (by kernel_rfl) (K.t x21 rfl) (Ob.range (Ob.below m21 K.grow) 0 _ (fun j v hj => by simpa using hj))
      intro f35 w35 A hb
      replace x6 := A.t x6 rfl
      replace x7 := A.t x7 rfl
      replace x21 := A.t x21 rfl
      replace x114 := A.t x114 rfl
      have x115 := A.e 0 115 rfl rfl
      replace m6 := Ob.below m6 hb
      replace m21 := Ob.below m21 hb
      replace hAx := Fk.mono _ _ _ _ hAx hb
      replace hBx := Fk.mono _ _ _ _ hBx hb
      replace bl := bgo bl hb
      replace sd := A.sd sd
      clear A hb
      clear x7
      clear x21
      clear x114
      refine wl_str rfl 25 (.tmp 6) (.tmp 115) rfl rfl (g6) ([.slice pAx mAx cAx, .slice pBx mBx cBx] : List Value).toArray x6 x115 25 _ m6 (by kernel_rfl) (by kernel_rfl) (by kernel_rfl) ?_
      replace hAx := sl_setRow (ds := ([.slice pAx mAx cAx, .slice pBx mBx cBx] : List Value).toArray) hAx m6
      replace hBx := sl_setRow (ds := ([.slice pAx mAx cAx, .slice pBx mBx cBx] : List Value).toArray) hBx m6
      replace m6 : Ob (w35.setRow g6 ([.slice pAx mAx cAx, .slice pBx mBx cBx] : List Value).toArray) (g6) 25 ([.slice pAx mAx cAx, .slice pBx mBx cBx]) := Ob.setRow m6 ([.slice pAx mAx cAx, .slice pBx mBx cBx])
      replace m21 : Ob (w35.setRow g6 ([.slice pAx mAx cAx, .slice pBx mBx cBx] : List Value).toArray) (g21) 25 ([.slice pAx mAx cAx, .slice pBx mBx cBx]) := Ob.setRow_other m21 _ nm6_21.symm
      replace bl : Below w.heap.size w (w35.setRow g6 ([.slice pAx mAx cAx, .slice pBx mBx cBx] : List Value).toArray) := bl.trans (below_setRow _ _ _ _ hw6)
      generalize w35.setRow g6 ([.slice pAx mAx cAx, .slice pBx mBx cBx] : List Value).toArray = w36b at bl m6 m21 hAx hBx ⊢
      refine wpList_nil ?_
      clear x115
      clear m21
      show Code.wp _ _ _ _ _
      refine wp_ret ?_
      repeat (first | with_reducible refine then_ret ?_ | with_reducible refine block_ret ?_)
      exact bodyPost_ret (v := .agg ([.slice pAx mAx cAx, .slice pBx mBx cBx] : List Value).toArray) (ret_c1 rfl f35 _ g6 _ _ x6 m6) sd.2 ⟨_, rfl, ⟨Ax, Bx, _, _, rfl, hAx, hBx, lAx, lBx, hrx⟩, bl⟩
    refine wp_region_late [.mc (qo), .eq (.int .i64 (k : Int)), .mc (qo.take k), .mc (qn), .eq (.int .i64 (k : Int)), .mc (qn.take k), .c2 false, .c2 false, .cv false, .eq (.bool false), .nw w30.heap.size 25 [.slice none 0 0, .slice none 0 0]] 9 113 _ _ [12] Tryd.mixed (by kernel_rfl) (by kernel_rfl) (by kernel_rfl) (by kernel_rfl) (by kernel_rfl) rfl rfl (by kernel_rfl) rfl (by kernel_rfl) rfl (by rw [sd.1]; kernel_rfl) (by kernel_rfl) (fun ac u K => ⟨_, late_c2 rfl (K.dep 7 104 rfl), rfl⟩) ⟨fun hw ac u K => ?_, fun hw ac u K => ?_, fun hw ac u K => ?_, fun hw ac u K => ?_, fun hw ac u K => ?_, fun hw ac u K => ?_, fun hw ac u K => ?_, fun hw ac u K => ?_, fun hw ac u K => ?_, fun hw ac u K => ?_, fun hw ac u K => ?_, trivial⟩ ?_
    · exact st_move (.tmp 0) rfl (f_at (K.old 0 rfl) (Fk.mono _ _ _ _ x0 K.grow))
    · exact st_move (.tmp 7) rfl (K.t x7 rfl)
    · exact st_cutmc (.tmp 105) (.tmp 106) rfl (K.dep 0 105 rfl) k (K.dep 1 106 rfl) (by omega)
    · exact st_move (.tmp 1) rfl (f_at (K.old 1 rfl) (Fk.mono _ _ _ _ x1 K.grow))
    · exact st_move (.tmp 7) rfl (K.t x7 rfl)
    · exact st_cutmc (.tmp 108) (.tmp 109) rfl (K.dep 3 108 rfl) k (K.dep 4 109 rfl) (by omega)
    · exact st_call 12 (.func 12) _ _ _ rfl rfl (arg2 rfl rfl) Tryd.enter12 (fk_lists (smallP_take hso k) (smallP_take hsn k) (K.dep 2 107 rfl) (K.dep 5 110 rfl) (hK.below (bgo bl K.grow)) (by simp [hbb]))
    · exact st_move (.tmp 111) rfl (K.dep 6 111 rfl)
    · exact st_c2a (.tmp 104) rfl (K.dep 7 104 rfl)
    · exact st_c2b (.tmp 104) rfl (K.dep 7 104 rfl)
    · exact st_alloc 25 rfl _ _ (by kernel_rfl) K.grow.size
    intro f31 w31 A hb
    have S_x0 : Fk.f (.mc (qo)) (f31.eval (.tmp 0)) w30 := f_at (A.old 0 rfl) x0
    have S_x1 : Fk.f (.mc (qn)) (f31.eval (.tmp 1)) w30 := f_at (A.old 1 rfl) x1
    have S_x10 : Fk.f (.hc (P0)) (f31.eval (.tmp 10)) w30 := f_at (A.old 10 rfl) x10
    have hbS0 := Below.refl w30.heap.size w30
    have hbS := hb
    replace bl0 := bl
    replace x0 := f_at (A.old 0 rfl) (Fk.mono _ _ _ _ x0 hb)
    replace x1 := f_at (A.old 1 rfl) (Fk.mono _ _ _ _ x1 hb)
    replace x6 := A.t x6 rfl
    replace x7 := A.t x7 rfl
    replace x10 := f_at (A.old 10 rfl) (Fk.mono _ _ _ _ x10 hb)
    replace x19 := A.t x19 rfl
    replace x102 := A.t x102 rfl
    have x21 : Fk.f (.nw w30.heap.size 25 [.slice none 0 0, .slice none 0 0]) (f31.eval (.tmp 21)) w31 := A.has 10 21 rfl
    have x112 : Fk.f (.cv false) (f31.eval (.tmp 112)) w31 := A.has 8 112 rfl
    have x113 := A.e 9 113 rfl rfl
    have lt_m6 := Ob.lt m6
    replace m6 := Ob.below m6 hb
    have lt_m19 := Ob.lt m19
    replace m19 := Ob.below m19 hb
    replace bl := bgo bl hb
    replace sd := A.sd sd
    clear A hb
    clear x19
    clear x102
    obtain ⟨g21, hg21, e21, m21⟩ := x21
    have x21 := e21
    clear e21
    have nm6_21 : g6 ≠ g21 := Nat.ne_of_lt (Nat.lt_of_lt_of_le lt_m6 hg21)
    have nm19_21 : g19 ≠ g21 := Nat.ne_of_lt (Nat.lt_of_lt_of_le lt_m19 hg21)
    have hw21 : w.heap.size ≤ g21 := Nat.le_trans bl0.size hg21
    have hs21 := Nat.le_trans hbS0.size hg21
    obtain ⟨Ax, Bx, ux, vx, ex, hAx, hBx, lAx, lBx, hrx⟩ := x112
    obtain ⟨pAx, mAx, cAx, _, _, rfl, _⟩ := id hAx
    obtain ⟨pBx, mBx, cBx, _, _, rfl, _⟩ := id hBx
    have x112 := ex
    clear ex
    refine ⟨_, run_str 25 (.tmp 21) (.tmp 112) rfl (g21) ([.slice pAx mAx cAx, .slice pBx mBx cBx] : List Value).toArray x21 x112 25 _ m21 (by kernel_rfl) (by kernel_rfl) (by kernel_rfl), ?_⟩
    replace hAx := sl_setRow (ds := ([.slice pAx mAx cAx, .slice pBx mBx cBx] : List Value).toArray) hAx m21
    replace hBx := sl_setRow (ds := ([.slice pAx mAx cAx, .slice pBx mBx cBx] : List Value).toArray) hBx m21
    replace m6 : Ob (w31.setRow g21 ([.slice pAx mAx cAx, .slice pBx mBx cBx] : List Value).toArray) (g6) 25 ([.slice none 0 0, .slice none 0 0]) := Ob.setRow_other m6 _ nm6_21
    replace m19 : Ob (w31.setRow g21 ([.slice pAx mAx cAx, .slice pBx mBx cBx] : List Value).toArray) (g19) 25 ([.slice pAy mAy cAy, .slice pBy mBy cBy]) := Ob.setRow_other m19 _ nm19_21
    replace m21 : Ob (w31.setRow g21 ([.slice pAx mAx cAx, .slice pBx mBx cBx] : List Value).toArray) (g21) 25 ([.slice pAx mAx cAx, .slice pBx mBx cBx]) := Ob.setRow m21 ([.slice pAx mAx cAx, .slice pBx mBx cBx])
    replace hbS : Below _ _ (w31.setRow g21 ([.slice pAx mAx cAx, .slice pBx mBx cBx] : List Value).toArray) := hbS.trans (below_setRow _ _ _ _ hs21)
    replace bl : Below w.heap.size w (w31.setRow g21 ([.slice pAx mAx cAx, .slice pBx mBx cBx] : List Value).toArray) := bl.trans (below_setRow _ _ _ _ hw21)
    generalize w31.setRow g21 ([.slice pAx mAx cAx, .slice pBx mBx cBx] : List Value).toArray = w32b at bl m6 m19 m21 hAx hBx hbS ⊢
    replace x0 : Fk.f (.mc (qo)) (f31.eval (.tmp 0)) w32b := Fk.mono _ _ _ _ S_x0 hbS
    replace x1 : Fk.f (.mc (qn)) (f31.eval (.tmp 1)) w32b := Fk.mono _ _ _ _ S_x1 hbS
    replace x10 : Fk.f (.hc (P0)) (f31.eval (.tmp 10)) w32b := Fk.mono _ _ _ _ S_x10 hbS
    clear x112
    refine wl_one (.eq (.bool false)) rfl 22 rfl (by rw [sd.1]; decide) (st_assign (.tmp 113) rfl x113) ?_
    intro f33 w33 df2 sz2 old2 new2 hb
    replace hbS0 := hbS
    replace hbS := hbS.trans (Below.mono hb hbS.size)
    replace S_x0 := f_at (old2 0 rfl) S_x0
    replace S_x1 := f_at (old2 1 rfl) S_x1
    replace S_x10 := f_at (old2 10 rfl) S_x10
    replace x0 := f_at (old2 0 rfl) (Fk.mono _ _ _ _ x0 hb)
    replace x1 := f_at (old2 1 rfl) (Fk.mono _ _ _ _ x1 hb)
    replace x6 := tr old2 x6 rfl
    replace x7 := tr old2 x7 rfl
    replace x10 := f_at (old2 10 rfl) (Fk.mono _ _ _ _ x10 hb)
    replace x21 := tr old2 x21 rfl
    replace x113 := tr old2 x113 rfl
    have x22 := Fk.e new2
    replace m6 := Ob.below m6 hb
    replace m19 := Ob.below m19 hb
    replace m21 := Ob.below m21 hb
    replace hAx := Fk.mono _ _ _ _ hAx hb
    replace hBx := Fk.mono _ _ _ _ hBx hb
    replace bl := bgo bl hb
    replace sd := sd2 sz2 df2 sd
    clear df2 sz2 old2 new2 hb
    refine wpList_nil ?_
    clear hbS hbS0 S_x0 S_x1 S_x10
    clear x113
    clear m19
    clear hAx hBx hrx lAx lBx
    show Code.wp _ _ _ _ _
    refine wp_seq ?_
    refine wr_a [.eq (.bool false)] (by rw [sd.1]; kernel_rfl) ⟨fun hw ac u K => ?_, trivial⟩ ?_
    · exact st_move (.tmp 22) rfl (K.t x22 rfl)
    intro f34 w34 A hb
    replace x0 := f_at (A.old 0 rfl) (Fk.mono _ _ _ _ x0 hb)
    replace x1 := f_at (A.old 1 rfl) (Fk.mono _ _ _ _ x1 hb)
    replace x6 := A.t x6 rfl
    replace x7 := A.t x7 rfl
    replace x10 := f_at (A.old 10 rfl) (Fk.mono _ _ _ _ x10 hb)
    replace x21 := A.t x21 rfl
    replace x22 := A.t x22 rfl
    have x114 := A.e 0 114 rfl rfl
    replace m6 := Ob.below m6 hb
    replace m21 := Ob.below m21 hb
    replace bl := bgo bl hb
    replace sd := A.sd sd
    clear A hb
    clear x22
    show Code.wp _ _ _ _ _
    refine wp_cond_false x114 ?_
    refine wp_skip ?_
    show Code.wp _ _ _ _ _
    obtain ⟨oA, oC, e0, hoC, ho2⟩ := mc_val x0
    replace x0 := e0
    clear e0
    obtain ⟨nA, nC, e1, hnC, hn2⟩ := mc_val x1
    replace x1 := e1
    clear e1
    refine wp_region_held_drew (S := fun W => W = w34.drew) Tryd.mixed rfl (fun hS => ?_)
    have hb : Below w34.heap.size w34 w34.drew := (Below.refl _ _).drew
    replace x10 := Fk.mono _ _ _ _ x10 hb
    replace bl0 := bl
    have lt_m6 := Ob.lt m6
    replace m6 := Ob.below m6 hb
    have lt_m21 := Ob.lt m21
    replace m21 := Ob.below m21 hb
    replace ho2 := Fk.mono _ _ _ _ ho2 hb
    replace hn2 := Fk.mono _ _ _ _ hn2 hb
    replace bl := bgo bl hb
    clear hb hS
    generalize w34.drew = w35 at x10 m6 m21 ho2 hn2 bl ⊢
    have hS : w35 = w35 := rfl
    refine wh_take 0 116 (v := .slice oA qo.length oC) rfl rfl (by rw [sd.1]; decide) rfl (by kernel_rfl) (by kernel_rfl) (by kernel_rfl) (fun _ _ _ h => h) (run_mv rfl x0) hS ?_
    intro f36 df2 sz2 old2 new2
    replace x0 := tr old2 x0 rfl
    replace x1 := tr old2 x1 rfl
    replace x6 := tr old2 x6 rfl
    replace x7 := tr old2 x7 rfl
    replace x10 := f_at (old2 10 rfl) x10
    replace x21 := tr old2 x21 rfl
    replace x114 := tr old2 x114 rfl
    have x116 := new2
    replace sd := sd2 sz2 df2 sd
    clear df2 sz2 old2 new2
    refine wh_take 1 117 (v := .int .i64 (k : Int)) rfl rfl (by rw [sd.1]; decide) rfl (by kernel_rfl) (by kernel_rfl) (by kernel_rfl) (fun _ _ _ h => h) (run_mv rfl x7) hS ?_
    intro f37 df2 sz2 old2 new2
    replace x0 := tr old2 x0 rfl
    replace x1 := tr old2 x1 rfl
    replace x6 := tr old2 x6 rfl
    replace x7 := tr old2 x7 rfl
    replace x10 := f_at (old2 10 rfl) x10
    replace x21 := tr old2 x21 rfl
    replace x114 := tr old2 x114 rfl
    replace x116 := tr old2 x116 rfl
    have x117 := new2
    replace sd := sd2 sz2 df2 sd
    clear df2 sz2 old2 new2
    refine wh_take 2 118 (v := sliced oA k qo.length oC 1) rfl rfl (by rw [sd.1]; decide) rfl (by kernel_rfl) (by kernel_rfl) (by kernel_rfl) (fun _ _ _ h => h) (run_restm rfl x116 k x117 (by omega)) hS ?_
    intro f38 df2 sz2 old2 new2
    replace x0 := tr old2 x0 rfl
    replace x1 := tr old2 x1 rfl
    replace x6 := tr old2 x6 rfl
    replace x7 := tr old2 x7 rfl
    replace x10 := f_at (old2 10 rfl) x10
    replace x21 := tr old2 x21 rfl
    replace x114 := tr old2 x114 rfl
    replace x116 := tr old2 x116 rfl
    replace x117 := tr old2 x117 rfl
    have x118 := new2
    replace sd := sd2 sz2 df2 sd
    clear df2 sz2 old2 new2
    refine wh_take 3 119 (v := .slice nA qn.length nC) rfl rfl (by rw [sd.1]; decide) rfl (by kernel_rfl) (by kernel_rfl) (by kernel_rfl) (fun _ _ _ h => h) (run_mv rfl x1) hS ?_
    intro f39 df2 sz2 old2 new2
    replace x0 := tr old2 x0 rfl
    replace x1 := tr old2 x1 rfl
    replace x6 := tr old2 x6 rfl
    replace x7 := tr old2 x7 rfl
    replace x10 := f_at (old2 10 rfl) x10
    replace x21 := tr old2 x21 rfl
    replace x114 := tr old2 x114 rfl
    replace x116 := tr old2 x116 rfl
    replace x117 := tr old2 x117 rfl
    replace x118 := tr old2 x118 rfl
    have x119 := new2
    replace sd := sd2 sz2 df2 sd
    clear df2 sz2 old2 new2
    refine wh_take 4 120 (v := .int .i64 (k : Int)) rfl rfl (by rw [sd.1]; decide) rfl (by kernel_rfl) (by kernel_rfl) (by kernel_rfl) (fun _ _ _ h => h) (run_mv rfl x7) hS ?_
    intro f40 df2 sz2 old2 new2
    replace x0 := tr old2 x0 rfl
    replace x1 := tr old2 x1 rfl
    replace x6 := tr old2 x6 rfl
    replace x7 := tr old2 x7 rfl
    replace x10 := f_at (old2 10 rfl) x10
    replace x21 := tr old2 x21 rfl
    replace x114 := tr old2 x114 rfl
    replace x116 := tr old2 x116 rfl
    replace x117 := tr old2 x117 rfl
    replace x118 := tr old2 x118 rfl
    replace x119 := tr old2 x119 rfl
    have x120 := new2
    replace sd := sd2 sz2 df2 sd
    clear df2 sz2 old2 new2
    refine wh_take 5 121 (v := sliced nA k qn.length nC 1) rfl rfl (by rw [sd.1]; decide) rfl (by kernel_rfl) (by kernel_rfl) (by kernel_rfl) (fun _ _ _ h => h) (run_restm rfl x119 k x120 (by omega)) hS ?_
    intro f41 df2 sz2 old2 new2
    replace x0 := tr old2 x0 rfl
    replace x1 := tr old2 x1 rfl
    replace x6 := tr old2 x6 rfl
    replace x7 := tr old2 x7 rfl
    replace x10 := f_at (old2 10 rfl) x10
    replace x21 := tr old2 x21 rfl
    replace x114 := tr old2 x114 rfl
    replace x116 := tr old2 x116 rfl
    replace x117 := tr old2 x117 rfl
    replace x118 := tr old2 x118 rfl
    replace x119 := tr old2 x119 rfl
    replace x120 := tr old2 x120 rfl
    have x121 := new2
    replace sd := sd2 sz2 df2 sd
    clear df2 sz2 old2 new2
    refine wh_assign 6 0 rfl rfl (by rw [sd.1]; decide) rfl (by kernel_rfl) (.tmp 118) rfl hS ?_
    intro f42 df2 sz2 old2 new2
    clear x0
    have x0 : f42.eval (.tmp 0) = sliced oA k qo.length oC 1 := new2.trans x118
    replace x1 := tr old2 x1 rfl
    replace x6 := tr old2 x6 rfl
    replace x7 := tr old2 x7 rfl
    replace x10 := f_at (old2 10 rfl) x10
    replace x21 := tr old2 x21 rfl
    replace x114 := tr old2 x114 rfl
    replace x116 := tr old2 x116 rfl
    replace x117 := tr old2 x117 rfl
    replace x118 := tr old2 x118 rfl
    replace x119 := tr old2 x119 rfl
    replace x120 := tr old2 x120 rfl
    replace x121 := tr old2 x121 rfl
    replace sd := sd2 sz2 df2 sd
    clear df2 sz2 old2 new2
    refine wh_assign 7 1 rfl rfl (by rw [sd.1]; decide) rfl (by kernel_rfl) (.tmp 121) rfl hS ?_
    intro f43 df2 sz2 old2 new2
    clear x1
    have x1 : f43.eval (.tmp 1) = sliced nA k qn.length nC 1 := new2.trans x121
    replace x6 := tr old2 x6 rfl
    replace x7 := tr old2 x7 rfl
    replace x10 := f_at (old2 10 rfl) x10
    replace x21 := tr old2 x21 rfl
    replace x114 := tr old2 x114 rfl
    replace x116 := tr old2 x116 rfl
    replace x117 := tr old2 x117 rfl
    replace x118 := tr old2 x118 rfl
    replace x119 := tr old2 x119 rfl
    replace x120 := tr old2 x120 rfl
    replace x121 := tr old2 x121 rfl
    replace x0 := tr old2 x0 rfl
    replace sd := sd2 sz2 df2 sd
    clear df2 sz2 old2 new2
    refine wpAnyH_done (by kernel_rfl) ?_ _
    clear hS
    clear x7
    clear x21
    clear x114
    clear x116
    clear x117
    clear x118
    clear x119
    clear x120
    clear x121
    replace x0 : Fk.f (.mc (qo.drop k)) (f43.eval (.tmp 0)) w35 := by rw [show f43.eval (.tmp 0) = _ from x0]; exact mc_drop ho2 (by omega)
    replace x1 : Fk.f (.mc (qn.drop k)) (f43.eval (.tmp 1)) w35 := by rw [show f43.eval (.tmp 1) = _ from x1]; exact mc_drop hn2 (by omega)
    clear ho2 hn2
    show Code.wp _ _ _ _ _
    refine wr_a [.hc (P0), .hc (P0)] (by rw [sd.1]; kernel_rfl) ⟨fun hw ac u K => ?_, fun hw ac u K => ?_, trivial⟩ ?_
    · exact st_move (.tmp 10) rfl (f_at (K.old 10 rfl) (Fk.mono _ _ _ _ x10 K.grow))
    · exact st_assign (.tmp 122) rfl (K.dep 0 122 rfl)
    intro f44 w44 A hb
    replace x6 := A.t x6 rfl
    replace x10 := f_at (A.old 10 rfl) (Fk.mono _ _ _ _ x10 hb)
    replace x0 := f_at (A.old 0 rfl) (Fk.mono _ _ _ _ x0 hb)
    replace x1 := f_at (A.old 1 rfl) (Fk.mono _ _ _ _ x1 hb)
    have x2 : Fk.f (.hc (P0)) (f44.eval (.tmp 2)) w44 := A.has 1 2 rfl
    replace m6 := Ob.below m6 hb
    replace m21 := Ob.below m21 hb
    replace bl := bgo bl hb
    replace sd := A.sd sd
    clear A hb
    clear x10
    clear m21
    show (∃ _, _) ∧ _
    refine ⟨⟨qo.drop k, qn.drop k, P0, smallP_drop hso k, smallP_drop hsn k, (by rw [List.length_drop]; omega), (by rw [List.length_drop, List.length_drop]; omega), bys_cut (by omega) hbb hne, (by rw [List.length_drop, List.length_drop, eub.out, eya.out, hs1.2, hs2.2]; exact hL0), sd.1, sd.2, x6, x0, x1, x2, m6, bl⟩, ?_⟩
    rw [slen_mc x1, hcnt, List.length_drop]
    omega
  obtain ⟨P0, z, s0, rfl, hL0, hnd⟩ := gldl h2 hk hlt hmk hL rfl
  have hPz : (P0 ++ [z])[P0.length]? = some z := by simp
  have hz0 : z.length = 32 := hc_len x2 z (by simp)
  have hP0 : P0.length ≤ 60 := by rw [List.length_append] at hQs; omega
  have hs0 : s0.length = 32 := (led_lens hL0 (fun q hq => hc_len x2 q (by simp [hq]))).2
  rw [exa.out, eya.out] at hnd
  obtain ⟨xo, exo⟩ : ∃ x, mroot (lhs qo) = x := ⟨_, rfl⟩
  rw [exo] at hL0
  have hxo : xo.length = 32 := by rw [← exo]; exact mroot_len (lhs_32 _)
  refine wr_a [.mc (qo), .eq (.int .i64 (((qo).length : Nat) : Int)), .mc (qn), .eq (.int .i64 (((qn).length : Nat) : Int)), .eq (.bool true)] (by rw [sd.1]; kernel_rfl) ⟨fun hw ac u K => ?_, fun hw ac u K => ?_, fun hw ac u K => ?_, fun hw ac u K => ?_, fun hw ac u K => ?_, trivial⟩ ?_
  · exact st_move (.tmp 0) rfl (f_at (K.old 0 rfl) (Fk.mono _ _ _ _ x0 K.grow))
  · exact st_lenm (.tmp 25) rfl (mc_mg (K.dep 0 25 rfl))
  · exact st_move (.tmp 1) rfl (f_at (K.old 1 rfl) (Fk.mono _ _ _ _ x1 K.grow))
  · exact st_lenm (.tmp 27) rfl (mc_mg (K.dep 2 27 rfl))
  · exact st_lss 3 (.tmp 26) (.tmp 28) rfl .i64 ((((qo).length : Nat) : Int)) ((((qn).length : Nat) : Int)) (K.dep 1 26 rfl) (K.dep 3 28 rfl) _ (by symm; rw [decide_eq_true_iff]; exact (by omega))
  intro f4 w4 A hb
  replace x0 := f_at (A.old 0 rfl) (Fk.mono _ _ _ _ x0 hb)
  replace x1 := f_at (A.old 1 rfl) (Fk.mono _ _ _ _ x1 hb)
  replace x2 := f_at (A.old 2 rfl) (Fk.mono _ _ _ _ x2 hb)
  replace x6 := A.t x6 rfl
  have x29 := A.e 4 29 rfl rfl
  replace m6 := Ob.below m6 hb
  replace bl := bgo bl hb
  replace sd := A.sd sd
  clear A hb
  show Code.wp _ _ _ _ _
  refine wp_cond_true x29 ?_
  refine wp_skip ?_
  show Code.wp _ _ _ _ _
  refine wp_block ?_
  refine wp_seq ?_
  refine wr_a [.mc (qn), .eq (.int .i64 (((qn).length : Nat) : Int)), .eq (.int .i64 (k : Int)), .hc (P0 ++ [z]), .eq (.int .i64 ((P0.length + 1 : Nat) : Int)), .eq (.int .i64 (P0.length : Int)), .eq (.int .i64 (k : Int)), .eq (.int .i64 (P0.length : Int))] (by rw [sd.1]; kernel_rfl) ⟨fun hw ac u K => ?_, fun hw ac u K => ?_, fun hw ac u K => ?_, fun hw ac u K => ?_, fun hw ac u K => ?_, fun hw ac u K => ?_, fun hw ac u K => ?_, fun hw ac u K => ?_, trivial⟩ ?_
  · exact st_move (.tmp 1) rfl (f_at (K.old 1 rfl) (Fk.mono _ _ _ _ x1 K.grow))
  · exact st_lenm (.tmp 30) rfl (mc_mg (K.dep 0 30 rfl))
  · exact st_call 35 (.func 35) _ _ _ rfl rfl (one_arg (K.dep 1 31 rfl)) Tryd.enter35 (by rw [← hk]; exact fk_of (split_hi qn.length h2 (by omega) _))
  · exact st_move (.tmp 2) rfl (f_at (K.old 2 rfl) (Fk.mono _ _ _ _ x2 K.grow))
  · exact st_lenc (.tmp 33) rfl (P0.length + 1) (by simp) (K.dep 3 33 rfl)
  · exact st_subz (.tmp 34) (.const (.int .i64 1)) rfl _ 1 _ (K.dep 4 34 rfl) rfl (by omega) (by omega) (by omega)
  · exact st_assign (.tmp 32) rfl (K.dep 2 32 rfl)
  · exact st_assign (.tmp 35) rfl (K.dep 5 35 rfl)
  intro f5 w5 A hb
  replace x0 := f_at (A.old 0 rfl) (Fk.mono _ _ _ _ x0 hb)
  replace x1 := f_at (A.old 1 rfl) (Fk.mono _ _ _ _ x1 hb)
  replace x2 := f_at (A.old 2 rfl) (Fk.mono _ _ _ _ x2 hb)
  replace x6 := A.t x6 rfl
  replace x29 := A.t x29 rfl
  have x7 := A.e 6 7 rfl rfl
  have x8 := A.e 7 8 rfl rfl
  replace m6 := Ob.below m6 hb
  replace bl := bgo bl hb
  replace sd := A.sd sd
  clear A hb
  clear x29
  show Code.wp _ _ _ _ _
  refine wp_seq ?_
  obtain ⟨qA, qC, e2, hqC, hpv⟩ := hc_val x2
  replace x2 := e2
  clear e2
  obtain ⟨lb, lo, eA, hlb, hra, _⟩ := hc_nth hpv hPz
  refine wp_region_held_drew (S := fun W => W.rangeAt lb (lo + P0.length * 32) (z.map V)) Tryd.mixed (range_below hra (Below.refl _ _).drew) (fun hS => ?_)
  have hbS : Below w5.heap.size w5 w5.drew := (Below.refl _ _).drew
  generalize w5.drew = w6 at hS hbS ⊢
  refine wh_take 0 36 (v := .slice qA (P0 ++ [z]).length qC) rfl rfl (by rw [sd.1]; decide) rfl (by kernel_rfl) (by kernel_rfl) (by kernel_rfl) (fun _ _ _ h => h) (run_mv rfl x2) hS ?_
  intro f7 df2 sz2 old2 new2
  replace x0 := f_at (old2 0 rfl) x0
  replace x1 := f_at (old2 1 rfl) x1
  replace x2 := tr old2 x2 rfl
  replace x6 := tr old2 x6 rfl
  replace x7 := tr old2 x7 rfl
  replace x8 := tr old2 x8 rfl
  have x36 := new2
  replace sd := sd2 sz2 df2 sd
  clear df2 sz2 old2 new2
  refine wh_take 1 37 (v := .int .i64 (P0.length : Int)) rfl rfl (by rw [sd.1]; decide) rfl (by kernel_rfl) (by kernel_rfl) (by kernel_rfl) (fun _ _ _ h => h) (run_mv rfl x8) hS ?_
  intro f8 df2 sz2 old2 new2
  replace x0 := f_at (old2 0 rfl) x0
  replace x1 := f_at (old2 1 rfl) x1
  replace x2 := tr old2 x2 rfl
  replace x6 := tr old2 x6 rfl
  replace x7 := tr old2 x7 rfl
  replace x8 := tr old2 x8 rfl
  replace x36 := tr old2 x36 rfl
  have x37 := new2
  replace sd := sd2 sz2 df2 sd
  clear df2 sz2 old2 new2
  refine wh_take 2 38 (v := .pointer (some ⟨lb, lo + P0.length * 32, none⟩)) rfl rfl (by rw [sd.1]; decide) rfl (by kernel_rfl) (by kernel_rfl) (by kernel_rfl) (fun _ _ _ h => h) (run_idxn rfl x36 eA P0.length x37 (by simp)) hS ?_
  intro f9 df2 sz2 old2 new2
  replace x0 := f_at (old2 0 rfl) x0
  replace x1 := f_at (old2 1 rfl) x1
  replace x2 := tr old2 x2 rfl
  replace x6 := tr old2 x6 rfl
  replace x7 := tr old2 x7 rfl
  replace x8 := tr old2 x8 rfl
  replace x36 := tr old2 x36 rfl
  replace x37 := tr old2 x37 rfl
  have x38 := new2
  replace sd := sd2 sz2 df2 sd
  clear df2 sz2 old2 new2
  refine wh_take 3 39 (v := .agg ((z).map V).toArray) rfl rfl (by rw [sd.1]; decide) rfl (by kernel_rfl) (by kernel_rfl) (by kernel_rfl) (fun _ _ _ h => h) (run_ldh rfl hz0 x38 (fun W hW => hW)) hS ?_
  intro f10 df2 sz2 old2 new2
  replace x0 := f_at (old2 0 rfl) x0
  replace x1 := f_at (old2 1 rfl) x1
  replace x2 := tr old2 x2 rfl
  replace x6 := tr old2 x6 rfl
  replace x7 := tr old2 x7 rfl
  replace x8 := tr old2 x8 rfl
  replace x36 := tr old2 x36 rfl
  replace x37 := tr old2 x37 rfl
  replace x38 := tr old2 x38 rfl
  have x39 := new2
  replace sd := sd2 sz2 df2 sd
  clear df2 sz2 old2 new2
  refine wh_take 4 40 (v := .slice qA (P0 ++ [z]).length qC) rfl rfl (by rw [sd.1]; decide) rfl (by kernel_rfl) (by kernel_rfl) (by kernel_rfl) (fun _ _ _ h => h) (run_mv rfl x2) hS ?_
  intro f11 df2 sz2 old2 new2
  replace x0 := f_at (old2 0 rfl) x0
  replace x1 := f_at (old2 1 rfl) x1
  replace x2 := tr old2 x2 rfl
  replace x6 := tr old2 x6 rfl
  replace x7 := tr old2 x7 rfl
  replace x8 := tr old2 x8 rfl
  replace x36 := tr old2 x36 rfl
  replace x37 := tr old2 x37 rfl
  replace x38 := tr old2 x38 rfl
  replace x39 := tr old2 x39 rfl
  have x40 := new2
  replace sd := sd2 sz2 df2 sd
  clear df2 sz2 old2 new2
  refine wh_take 5 41 (v := .int .i64 (P0.length : Int)) rfl rfl (by rw [sd.1]; decide) rfl (by kernel_rfl) (by kernel_rfl) (by kernel_rfl) (fun _ _ _ h => h) (run_mv rfl x8) hS ?_
  intro f12 df2 sz2 old2 new2
  replace x0 := f_at (old2 0 rfl) x0
  replace x1 := f_at (old2 1 rfl) x1
  replace x2 := tr old2 x2 rfl
  replace x6 := tr old2 x6 rfl
  replace x7 := tr old2 x7 rfl
  replace x8 := tr old2 x8 rfl
  replace x36 := tr old2 x36 rfl
  replace x37 := tr old2 x37 rfl
  replace x38 := tr old2 x38 rfl
  replace x39 := tr old2 x39 rfl
  replace x40 := tr old2 x40 rfl
  have x41 := new2
  replace sd := sd2 sz2 df2 sd
  clear df2 sz2 old2 new2
  refine wh_take 6 42 (v := sliced qA 0 P0.length qC 32) rfl rfl (by rw [sd.1]; decide) rfl (by kernel_rfl) (by kernel_rfl) (by kernel_rfl) (fun _ _ _ h => h) (run_cutv rfl x40 P0.length x41 (by rw [List.length_append] at hqC; omega)) hS ?_
  intro f13 df2 sz2 old2 new2
  replace x0 := f_at (old2 0 rfl) x0
  replace x1 := f_at (old2 1 rfl) x1
  replace x2 := tr old2 x2 rfl
  replace x6 := tr old2 x6 rfl
  replace x7 := tr old2 x7 rfl
  replace x8 := tr old2 x8 rfl
  replace x36 := tr old2 x36 rfl
  replace x37 := tr old2 x37 rfl
  replace x38 := tr old2 x38 rfl
  replace x39 := tr old2 x39 rfl
  replace x40 := tr old2 x40 rfl
  replace x41 := tr old2 x41 rfl
  have x42 := new2
  replace sd := sd2 sz2 df2 sd
  clear df2 sz2 old2 new2
  have hS1 := range_below hS ((Below.refl _ w6).alloc (Nat.le_refl _) (.cells (hz.map V).toArray 33))
  refine wh_alloc 7 9 rfl rfl (by rw [sd.1]; decide) rfl (by kernel_rfl) rfl hS1 ?_
  intro f14 df2 sz2 old2 new2
  replace x0 := f_at (old2 0 rfl) x0
  replace x1 := f_at (old2 1 rfl) x1
  replace x2 := tr old2 x2 rfl
  replace x6 := tr old2 x6 rfl
  replace x7 := tr old2 x7 rfl
  replace x8 := tr old2 x8 rfl
  replace x36 := tr old2 x36 rfl
  replace x37 := tr old2 x37 rfl
  replace x38 := tr old2 x38 rfl
  replace x39 := tr old2 x39 rfl
  replace x40 := tr old2 x40 rfl
  replace x41 := tr old2 x41 rfl
  replace x42 := tr old2 x42 rfl
  have m9 : Ob (w6.alloc (.cells (hz.map V).toArray 33)) w6.heap.size 33 (hz.map V) := Ob.alloc _ _ _
  have hs9 := hbS.size
  replace hbS : Below w5.heap.size w5 (w6.alloc (.cells (hz.map V).toArray 33)) := hbS.alloc hbS.size _
  have x9 : f14.eval (.tmp 9) = .pointer (some ⟨w6.heap.size, 0, none⟩) := new2
  obtain ⟨g9, e9⟩ : ∃ g, w6.heap.size = g := ⟨_, rfl⟩
  rw [e9] at m9 hs9 x9
  replace sd := sd2 sz2 df2 sd
  clear df2 sz2 old2 new2 hS
  generalize w6.alloc (.cells (hz.map V).toArray 33) = w14 at hS1 hbS m9 ⊢
  clear e9
  have hS2 : (w14.setRow g9 ((z).map V : List Value).toArray).rangeAt lb (lo + P0.length * 32) (z.map V) := range_setRow hS1 (Nat.ne_of_lt (Nat.lt_of_lt_of_le hlb hs9)) _
  refine wh_store 8 rfl rfl rfl (by kernel_rfl) (.tmp 9) (.tmp 39) rfl g9 (z) (hz) x9 x39 m9 hz_len hz0 hS2 ?_
  replace m9 : Ob (w14.setRow g9 ((z).map V : List Value).toArray) (g9) 33 ((z).map V) := Ob.setRow m9 ((z).map V)
  replace hbS : Below w5.heap.size w5 (w14.setRow g9 ((z).map V : List Value).toArray) := hbS.trans (below_setRow _ _ _ _ hs9)
  clear hS1
  generalize w14.setRow g9 ((z).map V : List Value).toArray = w15 at hS2 hbS m9 ⊢
  refine wh_assign 9 10 rfl rfl (by rw [sd.1]; decide) rfl (by kernel_rfl) (.tmp 42) rfl hS2 ?_
  intro f16 df2 sz2 old2 new2
  have x10 : f16.eval (.tmp 10) = sliced qA 0 P0.length qC 32 := new2.trans x42
  replace x0 := f_at (old2 0 rfl) x0
  replace x1 := f_at (old2 1 rfl) x1
  replace x2 := tr old2 x2 rfl
  replace x6 := tr old2 x6 rfl
  replace x7 := tr old2 x7 rfl
  replace x8 := tr old2 x8 rfl
  replace x36 := tr old2 x36 rfl
  replace x37 := tr old2 x37 rfl
  replace x38 := tr old2 x38 rfl
  replace x39 := tr old2 x39 rfl
  replace x40 := tr old2 x40 rfl
  replace x41 := tr old2 x41 rfl
  replace x42 := tr old2 x42 rfl
  replace x9 := tr old2 x9 rfl
  replace sd := sd2 sz2 df2 sd
  clear df2 sz2 old2 new2
  refine wpAnyH_done (by kernel_rfl) ?_ _
  clear hS2
  have hc0 : (Fk.hc P0).f (sliced qA 0 P0.length qC 32) w5 := by have := hc_cut hpv (n := P0.length) (by simp); rw [List.take_left' rfl] at this; exact this
  replace x10 : Fk.f (.hc (P0)) (f16.eval (.tmp 10)) w15 := by rw [show f16.eval (.tmp 10) = _ from x10]; exact Fk.mono _ _ _ _ hc0 hbS
  clear hc0
  replace x0 := Fk.mono _ _ _ _ x0 hbS
  replace x1 := Fk.mono _ _ _ _ x1 hbS
  have nm6_9 : g6 ≠ g9 := Nat.ne_of_lt (Nat.lt_of_lt_of_le (Ob.lt m6) hs9)
  replace m6 := Ob.below m6 hbS
  have hw9 : w.heap.size ≤ g9 := Nat.le_trans bl.size hs9
  replace bl0 := bl
  replace bl := bl.trans (Below.mono hbS bl.size)
  clear hbS
  clear x2
  clear x8
  clear x36
  clear x37
  clear x38
  clear x39
  clear x40
  clear x41
  clear x42
  show Code.wp _ _ _ _ _
  refine wp_seq ?_
  refine wp_seq ?_
  refine wr_a [.mc (qo), .eq (.int .i64 (((qo).length : Nat) : Int)), .eq (.int .i64 (k : Int)), .eq (.bool true)] (by rw [sd.1]; kernel_rfl) ⟨fun hw ac u K => ?_, fun hw ac u K => ?_, fun hw ac u K => ?_, fun hw ac u K => ?_, trivial⟩ ?_
  · exact st_move (.tmp 0) rfl (f_at (K.old 0 rfl) (Fk.mono _ _ _ _ x0 K.grow))
  · exact st_lenm (.tmp 43) rfl (mc_mg (K.dep 0 43 rfl))
  · exact st_move (.tmp 7) rfl (K.t x7 rfl)
  · exact st_leq 3 (.tmp 44) (.tmp 45) rfl .i64 ((((qo).length : Nat) : Int)) ((k : Int)) (K.dep 1 44 rfl) (K.dep 2 45 rfl) _ (by symm; rw [decide_eq_true_iff]; exact (by omega))
  intro f17 w17 A hb
  replace x0 := f_at (A.old 0 rfl) (Fk.mono _ _ _ _ x0 hb)
  replace x1 := f_at (A.old 1 rfl) (Fk.mono _ _ _ _ x1 hb)
  replace x6 := A.t x6 rfl
  replace x7 := A.t x7 rfl
  replace x9 := A.t x9 rfl
  replace x10 := f_at (A.old 10 rfl) (Fk.mono _ _ _ _ x10 hb)
  have x46 := A.e 3 46 rfl rfl
  replace m6 := Ob.below m6 hb
  replace m9 := Ob.below m9 hb
  replace bl := bgo bl hb
  replace sd := A.sd sd
  clear A hb
  show Code.wp _ _ _ _ _
  refine wp_cond_true x46 ?_
  refine wp_seq ?_
  refine wr_s [.mc (qo), .eq (.int .i64 (((qo).length : Nat) : Int)), .eq (.int .i64 (k : Int)), .hc (P0), .eq (.tuple #[.agg ((xo).map V).toArray, .agg ((s0).map V).toArray]), .eq (.tuple #[.agg ((xo).map V).toArray, .agg ((s0).map V).toArray]), .eq (.agg ((xo).map V).toArray), .eq (.agg ((s0).map V).toArray)] (by rw [sd.1]; kernel_rfl) ⟨fun hw ac u K => ?_, fun hw ac u K => ?_, fun hw ac u K => ?_, fun hw ac u K => ?_, fun hw ac u K => ?_, fun hw ac u K => ?_, fun hw ac u K => ?_, fun hw ac u K => ?_, trivial⟩ ?_
  · exact st_move (.tmp 0) rfl (f_at (K.old 0 rfl) (Fk.mono _ _ _ _ x0 K.grow))
  · exact st_lenm (.tmp 48) rfl (mc_mg (K.dep 0 48 rfl))
  · exact st_move (.tmp 7) rfl (K.t x7 rfl)
  · exact st_move (.tmp 10) rfl (f_at (K.old 10 rfl) (Fk.mono _ _ _ _ x10 K.grow))
  · exact st_call 51 (.func 51) _ _ _ rfl rfl (arg3 (K.dep 1 49 rfl) (K.dep 2 50 rfl) rfl) Tryd.enter51 (fk_of (led_any k qo.length P0 xo s0 _ _ hL0 (K.dep 3 51 rfl) h1 hmk (by omega) (hK.below (bgo bl K.grow))))
  · exact st_move (.tmp 52) rfl (K.dep 4 52 rfl)
  · exact st_ext0 (.tmp 47) rfl (K.dep 5 47 rfl) rfl
  · exact st_ext1 (.tmp 47) rfl (K.dep 5 47 rfl) rfl
  intro f18 w18 A hb
  have S_x0 : Fk.f (.mc (qo)) (f18.eval (.tmp 0)) w17 := f_at (A.old 0 rfl) x0
  have S_x1 : Fk.f (.mc (qn)) (f18.eval (.tmp 1)) w17 := f_at (A.old 1 rfl) x1
  have S_x10 : Fk.f (.hc (P0)) (f18.eval (.tmp 10)) w17 := f_at (A.old 10 rfl) x10
  have hbS0 := Below.refl w17.heap.size w17
  have hbS := hb
  replace x0 := f_at (A.old 0 rfl) (Fk.mono _ _ _ _ x0 hb)
  replace x1 := f_at (A.old 1 rfl) (Fk.mono _ _ _ _ x1 hb)
  replace x6 := A.t x6 rfl
  replace x7 := A.t x7 rfl
  replace x9 := A.t x9 rfl
  replace x10 := f_at (A.old 10 rfl) (Fk.mono _ _ _ _ x10 hb)
  replace x46 := A.t x46 rfl
  have x53 := A.e 6 53 rfl rfl
  have x54 := A.e 7 54 rfl rfl
  replace m6 := Ob.below m6 hb
  replace m9 := Ob.below m9 hb
  replace bl := bgo bl hb
  replace sd := A.sd sd
  clear A hb
  clear x46
  refine wl_one (.nw w18.heap.size 33 ((hz).map V)) rfl 11 rfl (by rw [sd.1]; decide) (st_alloc33 rfl _ (Nat.le_refl _)) ?_
  intro f19 w19 df2 sz2 old2 new2 hb
  replace hbS0 := hbS
  replace hbS := hbS.trans (Below.mono hb hbS.size)
  replace S_x0 := f_at (old2 0 rfl) S_x0
  replace S_x1 := f_at (old2 1 rfl) S_x1
  replace S_x10 := f_at (old2 10 rfl) S_x10
  replace bl0 := bl
  replace x0 := f_at (old2 0 rfl) (Fk.mono _ _ _ _ x0 hb)
  replace x1 := f_at (old2 1 rfl) (Fk.mono _ _ _ _ x1 hb)
  replace x6 := tr old2 x6 rfl
  replace x7 := tr old2 x7 rfl
  replace x9 := tr old2 x9 rfl
  replace x10 := f_at (old2 10 rfl) (Fk.mono _ _ _ _ x10 hb)
  replace x53 := tr old2 x53 rfl
  replace x54 := tr old2 x54 rfl
  have x11 : Fk.f (.nw w18.heap.size 33 ((hz).map V)) (f19.eval (.tmp 11)) w19 := new2
  have lt_m6 := Ob.lt m6
  replace m6 := Ob.below m6 hb
  have lt_m9 := Ob.lt m9
  replace m9 := Ob.below m9 hb
  replace bl := bgo bl hb
  replace sd := sd2 sz2 df2 sd
  clear df2 sz2 old2 new2 hb
  obtain ⟨g11, hg11, e11, m11⟩ := x11
  have x11 := e11
  clear e11
  have nm6_11 : g6 ≠ g11 := Nat.ne_of_lt (Nat.lt_of_lt_of_le lt_m6 hg11)
  have nm9_11 : g9 ≠ g11 := Nat.ne_of_lt (Nat.lt_of_lt_of_le lt_m9 hg11)
  have hw11 : w.heap.size ≤ g11 := Nat.le_trans bl0.size hg11
  have hs11 := Nat.le_trans hbS0.size hg11
  refine wl_one (.nw w19.heap.size 33 ((hz).map V)) rfl 12 rfl (by rw [sd.1]; decide) (st_alloc33 rfl _ (Nat.le_refl _)) ?_
  intro f20 w20 df2 sz2 old2 new2 hb
  replace hbS0 := hbS
  replace hbS := hbS.trans (Below.mono hb hbS.size)
  replace S_x0 := f_at (old2 0 rfl) S_x0
  replace S_x1 := f_at (old2 1 rfl) S_x1
  replace S_x10 := f_at (old2 10 rfl) S_x10
  replace bl0 := bl
  replace x0 := f_at (old2 0 rfl) (Fk.mono _ _ _ _ x0 hb)
  replace x1 := f_at (old2 1 rfl) (Fk.mono _ _ _ _ x1 hb)
  replace x6 := tr old2 x6 rfl
  replace x7 := tr old2 x7 rfl
  replace x9 := tr old2 x9 rfl
  replace x10 := f_at (old2 10 rfl) (Fk.mono _ _ _ _ x10 hb)
  replace x53 := tr old2 x53 rfl
  replace x54 := tr old2 x54 rfl
  replace x11 := tr old2 x11 rfl
  have x12 : Fk.f (.nw w19.heap.size 33 ((hz).map V)) (f20.eval (.tmp 12)) w20 := new2
  have lt_m6 := Ob.lt m6
  replace m6 := Ob.below m6 hb
  have lt_m9 := Ob.lt m9
  replace m9 := Ob.below m9 hb
  have lt_m11 := Ob.lt m11
  replace m11 := Ob.below m11 hb
  replace bl := bgo bl hb
  replace sd := sd2 sz2 df2 sd
  clear df2 sz2 old2 new2 hb
  obtain ⟨g12, hg12, e12, m12⟩ := x12
  have x12 := e12
  clear e12
  have nm6_12 : g6 ≠ g12 := Nat.ne_of_lt (Nat.lt_of_lt_of_le lt_m6 hg12)
  have nm9_12 : g9 ≠ g12 := Nat.ne_of_lt (Nat.lt_of_lt_of_le lt_m9 hg12)
  have nm11_12 : g11 ≠ g12 := Nat.ne_of_lt (Nat.lt_of_lt_of_le lt_m11 hg12)
  have hw12 : w.heap.size ≤ g12 := Nat.le_trans bl0.size hg12
  have hs12 := Nat.le_trans hbS0.size hg12
  refine wl_store rfl (.tmp 11) (.tmp 53) rfl rfl (g11) (xo) (hz) x11 x53 m11 hz_len hxo ?_
  replace m6 : Ob (w20.setRow g11 ((xo).map V : List Value).toArray) (g6) 25 ([.slice none 0 0, .slice none 0 0]) := Ob.setRow_other m6 _ nm6_11
  replace m9 : Ob (w20.setRow g11 ((xo).map V : List Value).toArray) (g9) 33 ((z).map V) := Ob.setRow_other m9 _ nm9_11
  replace m11 : Ob (w20.setRow g11 ((xo).map V : List Value).toArray) (g11) 33 ((xo).map V) := Ob.setRow m11 ((xo).map V)
  replace m12 : Ob (w20.setRow g11 ((xo).map V : List Value).toArray) (g12) 33 ((hz).map V) := Ob.setRow_other m12 _ nm11_12.symm
  replace hbS : Below _ _ (w20.setRow g11 ((xo).map V : List Value).toArray) := hbS.trans (below_setRow _ _ _ _ hs11)
  replace bl : Below w.heap.size w (w20.setRow g11 ((xo).map V : List Value).toArray) := bl.trans (below_setRow _ _ _ _ hw11)
  generalize w20.setRow g11 ((xo).map V : List Value).toArray = w21b at bl m6 m9 m11 m12 hbS ⊢
  replace x0 : Fk.f (.mc (qo)) (f20.eval (.tmp 0)) w21b := Fk.mono _ _ _ _ S_x0 hbS
  replace x1 : Fk.f (.mc (qn)) (f20.eval (.tmp 1)) w21b := Fk.mono _ _ _ _ S_x1 hbS
  replace x10 : Fk.f (.hc (P0)) (f20.eval (.tmp 10)) w21b := Fk.mono _ _ _ _ S_x10 hbS
  clear x53
  clear x11
  refine wl_store rfl (.tmp 12) (.tmp 54) rfl rfl (g12) (s0) (hz) x12 x54 m12 hz_len hs0 ?_
  replace m6 : Ob (w21b.setRow g12 ((s0).map V : List Value).toArray) (g6) 25 ([.slice none 0 0, .slice none 0 0]) := Ob.setRow_other m6 _ nm6_12
  replace m9 : Ob (w21b.setRow g12 ((s0).map V : List Value).toArray) (g9) 33 ((z).map V) := Ob.setRow_other m9 _ nm9_12
  replace m11 : Ob (w21b.setRow g12 ((s0).map V : List Value).toArray) (g11) 33 ((xo).map V) := Ob.setRow_other m11 _ nm11_12
  replace m12 : Ob (w21b.setRow g12 ((s0).map V : List Value).toArray) (g12) 33 ((s0).map V) := Ob.setRow m12 ((s0).map V)
  replace hbS : Below _ _ (w21b.setRow g12 ((s0).map V : List Value).toArray) := hbS.trans (below_setRow _ _ _ _ hs12)
  replace bl : Below w.heap.size w (w21b.setRow g12 ((s0).map V : List Value).toArray) := bl.trans (below_setRow _ _ _ _ hw12)
  generalize w21b.setRow g12 ((s0).map V : List Value).toArray = w22b at bl m6 m9 m11 m12 hbS ⊢
  replace x0 : Fk.f (.mc (qo)) (f20.eval (.tmp 0)) w22b := Fk.mono _ _ _ _ S_x0 hbS
  replace x1 : Fk.f (.mc (qn)) (f20.eval (.tmp 1)) w22b := Fk.mono _ _ _ _ S_x1 hbS
  replace x10 : Fk.f (.hc (P0)) (f20.eval (.tmp 10)) w22b := Fk.mono _ _ _ _ S_x10 hbS
  refine wpList_nil ?_
  clear hbS hbS0 S_x0 S_x1 S_x10
  clear x54
  clear m11
  show Code.wp _ _ _ _ _
  refine wp_seq ?_
  refine wp_seq ?_
  by_cases hsm : xa = s0 ∧ ya = z
  rotate_left
  · skip
    refine wp_region_late [.mc (qn), .eq (.agg ((xa ++ ya).map V).toArray), .eq (.agg ((s0).map V).toArray), .eq (.agg ((z).map V).toArray), .eq (.agg ((s0 ++ z).map V).toArray), .c2 true, .c2 true, .cv true, .eq (.bool true), .nw w22b.heap.size 25 [.slice none 0 0, .slice none 0 0]] 8 63 _ _ [11] Tryd.mixed (by kernel_rfl) (by kernel_rfl) (by kernel_rfl) (by kernel_rfl) (by kernel_rfl) rfl rfl (by kernel_rfl) rfl (by kernel_rfl) rfl (by rw [sd.1]; kernel_rfl) (by kernel_rfl) (fun ac u K => ⟨_, late_c2 rfl (K.dep 6 55 rfl), rfl⟩) ⟨fun hw ac u K => ?_, fun hw ac u K => ?_, fun hw ac u K => ?_, fun hw ac u K => ?_, fun hw ac u K => ?_, fun hw ac u K => ?_, fun hw ac u K => ?_, fun hw ac u K => ?_, fun hw ac u K => ?_, fun hw ac u K => ?_, trivial⟩ ?_
    · exact st_move (.tmp 1) rfl (f_at (K.old 1 rfl) (Fk.mono _ _ _ _ x1 K.grow))
    · exact st_call 45 (.func 45) _ _ _ rfl rfl (one_arg rfl) Tryd.enter45 (fk_halves (by omega) (smallP_mx hsn) h2 (K.dep 0 56 rfl) (hK.below (bgo bl K.grow)) hk exa eya)
    · exact st_load33 (.tmp 12) rfl (g12) (s0) (K.t x12 rfl) hs0 (Ob.below m12 K.grow)
    · exact st_load33 (.tmp 9) rfl (g9) (z) (K.t x9 rfl) hz0 (Ob.below m9 K.grow)
    · exact st_build2h (.tmp 58) (.tmp 59) rfl hs0 hz0 (K.dep 2 58 rfl) (K.dep 3 59 rfl)
    · exact st_call 46 (.func 46) _ _ _ rfl rfl (arg2 (K.dep 1 57 rfl) (K.dep 4 60 rfl)) Tryd.enter46 (fk_against hxa hya hs0 hz0 hnd (by simp [hsm]) _)
    · exact st_move (.tmp 61) rfl (K.dep 5 61 rfl)
    · exact st_c2a (.tmp 55) rfl (K.dep 6 55 rfl)
    · exact st_c2b (.tmp 55) rfl (K.dep 6 55 rfl)
    · exact st_alloc 25 rfl _ _ (by kernel_rfl) K.grow.size
    intro f23 w23 A hb
    have S_x0 : Fk.f (.mc (qo)) (f23.eval (.tmp 0)) w22b := f_at (A.old 0 rfl) x0
    have S_x1 : Fk.f (.mc (qn)) (f23.eval (.tmp 1)) w22b := f_at (A.old 1 rfl) x1
    have S_x10 : Fk.f (.hc (P0)) (f23.eval (.tmp 10)) w22b := f_at (A.old 10 rfl) x10
    have hbS0 := Below.refl w22b.heap.size w22b
    have hbS := hb
    replace bl0 := bl
    replace x0 := f_at (A.old 0 rfl) (Fk.mono _ _ _ _ x0 hb)
    replace x1 := f_at (A.old 1 rfl) (Fk.mono _ _ _ _ x1 hb)
    replace x6 := A.t x6 rfl
    replace x7 := A.t x7 rfl
    replace x9 := A.t x9 rfl
    replace x10 := f_at (A.old 10 rfl) (Fk.mono _ _ _ _ x10 hb)
    replace x12 := A.t x12 rfl
    have x13 : Fk.f (.nw w22b.heap.size 25 [.slice none 0 0, .slice none 0 0]) (f23.eval (.tmp 13)) w23 := A.has 9 13 rfl
    have x62 : Fk.f (.cv true) (f23.eval (.tmp 62)) w23 := A.has 7 62 rfl
    have x63 := A.e 8 63 rfl rfl
    have lt_m6 := Ob.lt m6
    replace m6 := Ob.below m6 hb
    have lt_m9 := Ob.lt m9
    replace m9 := Ob.below m9 hb
    have lt_m12 := Ob.lt m12
    replace m12 := Ob.below m12 hb
    replace bl := bgo bl hb
    replace sd := A.sd sd
    clear A hb
    clear x9
    clear x12
    obtain ⟨g13, hg13, e13, m13⟩ := x13
    have x13 := e13
    clear e13
    have nm6_13 : g6 ≠ g13 := Nat.ne_of_lt (Nat.lt_of_lt_of_le lt_m6 hg13)
    have nm9_13 : g9 ≠ g13 := Nat.ne_of_lt (Nat.lt_of_lt_of_le lt_m9 hg13)
    have nm12_13 : g12 ≠ g13 := Nat.ne_of_lt (Nat.lt_of_lt_of_le lt_m12 hg13)
    have hw13 : w.heap.size ≤ g13 := Nat.le_trans bl0.size hg13
    have hs13 := Nat.le_trans hbS0.size hg13
    obtain ⟨Az, Bz, uz, vz, ez, hAz, hBz, lAz, lBz, hrz⟩ := x62
    obtain ⟨pAz, mAz, cAz, _, _, rfl, _⟩ := id hAz
    obtain ⟨pBz, mBz, cBz, _, _, rfl, _⟩ := id hBz
    have x62 := ez
    clear ez
    refine ⟨_, run_str 25 (.tmp 13) (.tmp 62) rfl (g13) ([.slice pAz mAz cAz, .slice pBz mBz cBz] : List Value).toArray x13 x62 25 _ m13 (by kernel_rfl) (by kernel_rfl) (by kernel_rfl), ?_⟩
    replace hAz := sl_setRow (ds := ([.slice pAz mAz cAz, .slice pBz mBz cBz] : List Value).toArray) hAz m13
    replace hBz := sl_setRow (ds := ([.slice pAz mAz cAz, .slice pBz mBz cBz] : List Value).toArray) hBz m13
    replace m6 : Ob (w23.setRow g13 ([.slice pAz mAz cAz, .slice pBz mBz cBz] : List Value).toArray) (g6) 25 ([.slice none 0 0, .slice none 0 0]) := Ob.setRow_other m6 _ nm6_13
    replace m9 : Ob (w23.setRow g13 ([.slice pAz mAz cAz, .slice pBz mBz cBz] : List Value).toArray) (g9) 33 ((z).map V) := Ob.setRow_other m9 _ nm9_13
    replace m12 : Ob (w23.setRow g13 ([.slice pAz mAz cAz, .slice pBz mBz cBz] : List Value).toArray) (g12) 33 ((s0).map V) := Ob.setRow_other m12 _ nm12_13
    replace m13 : Ob (w23.setRow g13 ([.slice pAz mAz cAz, .slice pBz mBz cBz] : List Value).toArray) (g13) 25 ([.slice pAz mAz cAz, .slice pBz mBz cBz]) := Ob.setRow m13 ([.slice pAz mAz cAz, .slice pBz mBz cBz])
    replace hbS : Below _ _ (w23.setRow g13 ([.slice pAz mAz cAz, .slice pBz mBz cBz] : List Value).toArray) := hbS.trans (below_setRow _ _ _ _ hs13)
    replace bl : Below w.heap.size w (w23.setRow g13 ([.slice pAz mAz cAz, .slice pBz mBz cBz] : List Value).toArray) := bl.trans (below_setRow _ _ _ _ hw13)
    generalize w23.setRow g13 ([.slice pAz mAz cAz, .slice pBz mBz cBz] : List Value).toArray = w24b at bl m6 m9 m12 m13 hAz hBz hbS ⊢
    replace x0 : Fk.f (.mc (qo)) (f23.eval (.tmp 0)) w24b := Fk.mono _ _ _ _ S_x0 hbS
    replace x1 : Fk.f (.mc (qn)) (f23.eval (.tmp 1)) w24b := Fk.mono _ _ _ _ S_x1 hbS
    replace x10 : Fk.f (.hc (P0)) (f23.eval (.tmp 10)) w24b := Fk.mono _ _ _ _ S_x10 hbS
    clear x62
    refine wl_one (.eq (.bool true)) rfl 14 rfl (by rw [sd.1]; decide) (st_assign (.tmp 63) rfl x63) ?_
    intro f25 w25 df2 sz2 old2 new2 hb
    replace hbS0 := hbS
    replace hbS := hbS.trans (Below.mono hb hbS.size)
    replace S_x0 := f_at (old2 0 rfl) S_x0
    replace S_x1 := f_at (old2 1 rfl) S_x1
    replace S_x10 := f_at (old2 10 rfl) S_x10
    replace x0 := f_at (old2 0 rfl) (Fk.mono _ _ _ _ x0 hb)
    replace x1 := f_at (old2 1 rfl) (Fk.mono _ _ _ _ x1 hb)
    replace x6 := tr old2 x6 rfl
    replace x7 := tr old2 x7 rfl
    replace x10 := f_at (old2 10 rfl) (Fk.mono _ _ _ _ x10 hb)
    replace x13 := tr old2 x13 rfl
    replace x63 := tr old2 x63 rfl
    have x14 := Fk.e new2
    replace m6 := Ob.below m6 hb
    replace m9 := Ob.below m9 hb
    replace m12 := Ob.below m12 hb
    replace m13 := Ob.below m13 hb
    replace hAz := Fk.mono _ _ _ _ hAz hb
    replace hBz := Fk.mono _ _ _ _ hBz hb
    replace bl := bgo bl hb
    replace sd := sd2 sz2 df2 sd
    clear df2 sz2 old2 new2 hb
    refine wpList_nil ?_
    clear hbS hbS0 S_x0 S_x1 S_x10
    clear x63
    clear m9 m12
    show Code.wp _ _ _ _ _
    refine wp_seq ?_
    refine wr_a [.eq (.bool true)] (by rw [sd.1]; kernel_rfl) ⟨fun hw ac u K => ?_, trivial⟩ ?_
    · exact st_move (.tmp 14) rfl (K.t x14 rfl)
    intro f26 w26 A hb
    replace x0 := f_at (A.old 0 rfl) (Fk.mono _ _ _ _ x0 hb)
    replace x1 := f_at (A.old 1 rfl) (Fk.mono _ _ _ _ x1 hb)
    replace x6 := A.t x6 rfl
    replace x7 := A.t x7 rfl
    replace x10 := f_at (A.old 10 rfl) (Fk.mono _ _ _ _ x10 hb)
    replace x13 := A.t x13 rfl
    replace x14 := A.t x14 rfl
    have x64 := A.e 0 64 rfl rfl
    replace m6 := Ob.below m6 hb
    replace m13 := Ob.below m13 hb
    replace hAz := Fk.mono _ _ _ _ hAz hb
    replace hBz := Fk.mono _ _ _ _ hBz hb
    replace bl := bgo bl hb
    replace sd := A.sd sd
    clear A hb
    clear x14
    show Code.wp _ _ _ _ _
    refine wp_cond_true x64 ?_
    refine wp_seq ?_
    clear x0
    clear x1
    clear x10
    refine wr_s [.eq (.agg ([.slice pAz mAz cAz, .slice pBz mBz cBz] : List Value).toArray)] (by rw [sd.1]; kernel_rfl) ⟨fun hw ac u K => ?_, trivial⟩ ?_
    · exact st_loadz 25 (.tmp 13) rfl (g13) 0 [.slice pAz mAz cAz, .slice pBz mBz cBz] (by kernel_rfl) (by kernel_rfl) (K.t x13 rfl) (Ob.range (Ob.below m13 K.grow) 0 _ (fun j v hj => by simpa using hj))
    intro f27 w27 A hb
    replace x6 := A.t x6 rfl
    replace x7 := A.t x7 rfl
    replace x13 := A.t x13 rfl
    replace x64 := A.t x64 rfl
    have x65 := A.e 0 65 rfl rfl
    replace m6 := Ob.below m6 hb
    replace m13 := Ob.below m13 hb
    replace hAz := Fk.mono _ _ _ _ hAz hb
    replace hBz := Fk.mono _ _ _ _ hBz hb
    replace bl := bgo bl hb
    replace sd := A.sd sd
    clear A hb
    clear x7
    clear x13
    clear x64
    refine wl_str rfl 25 (.tmp 6) (.tmp 65) rfl rfl (g6) ([.slice pAz mAz cAz, .slice pBz mBz cBz] : List Value).toArray x6 x65 25 _ m6 (by kernel_rfl) (by kernel_rfl) (by kernel_rfl) ?_
    replace hAz := sl_setRow (ds := ([.slice pAz mAz cAz, .slice pBz mBz cBz] : List Value).toArray) hAz m6
    replace hBz := sl_setRow (ds := ([.slice pAz mAz cAz, .slice pBz mBz cBz] : List Value).toArray) hBz m6
    replace m6 : Ob (w27.setRow g6 ([.slice pAz mAz cAz, .slice pBz mBz cBz] : List Value).toArray) (g6) 25 ([.slice pAz mAz cAz, .slice pBz mBz cBz]) := Ob.setRow m6 ([.slice pAz mAz cAz, .slice pBz mBz cBz])
    replace m13 : Ob (w27.setRow g6 ([.slice pAz mAz cAz, .slice pBz mBz cBz] : List Value).toArray) (g13) 25 ([.slice pAz mAz cAz, .slice pBz mBz cBz]) := Ob.setRow_other m13 _ nm6_13.symm
    replace bl : Below w.heap.size w (w27.setRow g6 ([.slice pAz mAz cAz, .slice pBz mBz cBz] : List Value).toArray) := bl.trans (below_setRow _ _ _ _ hw6)
    generalize w27.setRow g6 ([.slice pAz mAz cAz, .slice pBz mBz cBz] : List Value).toArray = w28b at bl m6 m13 hAz hBz ⊢
    refine wpList_nil ?_
    clear x65
    clear m13
    show Code.wp _ _ _ _ _
    refine wp_ret ?_
    repeat (first | with_reducible refine then_ret ?_ | with_reducible refine block_ret ?_)
    exact bodyPost_ret (v := .agg ([.slice pAz mAz cAz, .slice pBz mBz cBz] : List Value).toArray) (ret_c1 rfl f27 _ g6 _ _ x6 m6) sd.2 ⟨_, rfl, ⟨Az, Bz, _, _, rfl, hAz, hBz, lAz, lBz, hrz⟩, bl⟩
  refine wp_region_late [.mc (qn), .eq (.agg ((xa ++ ya).map V).toArray), .eq (.agg ((s0).map V).toArray), .eq (.agg ((z).map V).toArray), .eq (.agg ((s0 ++ z).map V).toArray), .c2 false, .c2 false, .cv false, .eq (.bool false), .nw w22b.heap.size 25 [.slice none 0 0, .slice none 0 0]] 8 63 _ _ [11] Tryd.mixed (by kernel_rfl) (by kernel_rfl) (by kernel_rfl) (by kernel_rfl) (by kernel_rfl) rfl rfl (by kernel_rfl) rfl (by kernel_rfl) rfl (by rw [sd.1]; kernel_rfl) (by kernel_rfl) (fun ac u K => ⟨_, late_c2 rfl (K.dep 6 55 rfl), rfl⟩) ⟨fun hw ac u K => ?_, fun hw ac u K => ?_, fun hw ac u K => ?_, fun hw ac u K => ?_, fun hw ac u K => ?_, fun hw ac u K => ?_, fun hw ac u K => ?_, fun hw ac u K => ?_, fun hw ac u K => ?_, fun hw ac u K => ?_, trivial⟩ ?_
  · exact st_move (.tmp 1) rfl (f_at (K.old 1 rfl) (Fk.mono _ _ _ _ x1 K.grow))
  · exact st_call 45 (.func 45) _ _ _ rfl rfl (one_arg rfl) Tryd.enter45 (fk_halves (by omega) (smallP_mx hsn) h2 (K.dep 0 56 rfl) (hK.below (bgo bl K.grow)) hk exa eya)
  · exact st_load33 (.tmp 12) rfl (g12) (s0) (K.t x12 rfl) hs0 (Ob.below m12 K.grow)
  · exact st_load33 (.tmp 9) rfl (g9) (z) (K.t x9 rfl) hz0 (Ob.below m9 K.grow)
  · exact st_build2h (.tmp 58) (.tmp 59) rfl hs0 hz0 (K.dep 2 58 rfl) (K.dep 3 59 rfl)
  · exact st_call 46 (.func 46) _ _ _ rfl rfl (arg2 (K.dep 1 57 rfl) (K.dep 4 60 rfl)) Tryd.enter46 (fk_against hxa hya hs0 hz0 hnd (by simp only [hsm]; simp) _)
  · exact st_move (.tmp 61) rfl (K.dep 5 61 rfl)
  · exact st_c2a (.tmp 55) rfl (K.dep 6 55 rfl)
  · exact st_c2b (.tmp 55) rfl (K.dep 6 55 rfl)
  · exact st_alloc 25 rfl _ _ (by kernel_rfl) K.grow.size
  intro f23 w23 A hb
  have S_x0 : Fk.f (.mc (qo)) (f23.eval (.tmp 0)) w22b := f_at (A.old 0 rfl) x0
  have S_x1 : Fk.f (.mc (qn)) (f23.eval (.tmp 1)) w22b := f_at (A.old 1 rfl) x1
  have S_x10 : Fk.f (.hc (P0)) (f23.eval (.tmp 10)) w22b := f_at (A.old 10 rfl) x10
  have hbS0 := Below.refl w22b.heap.size w22b
  have hbS := hb
  replace bl0 := bl
  replace x0 := f_at (A.old 0 rfl) (Fk.mono _ _ _ _ x0 hb)
  replace x1 := f_at (A.old 1 rfl) (Fk.mono _ _ _ _ x1 hb)
  replace x6 := A.t x6 rfl
  replace x7 := A.t x7 rfl
  replace x9 := A.t x9 rfl
  replace x10 := f_at (A.old 10 rfl) (Fk.mono _ _ _ _ x10 hb)
  replace x12 := A.t x12 rfl
  have x13 : Fk.f (.nw w22b.heap.size 25 [.slice none 0 0, .slice none 0 0]) (f23.eval (.tmp 13)) w23 := A.has 9 13 rfl
  have x62 : Fk.f (.cv false) (f23.eval (.tmp 62)) w23 := A.has 7 62 rfl
  have x63 := A.e 8 63 rfl rfl
  have lt_m6 := Ob.lt m6
  replace m6 := Ob.below m6 hb
  have lt_m9 := Ob.lt m9
  replace m9 := Ob.below m9 hb
  have lt_m12 := Ob.lt m12
  replace m12 := Ob.below m12 hb
  replace bl := bgo bl hb
  replace sd := A.sd sd
  clear A hb
  clear x9
  clear x12
  obtain ⟨g13, hg13, e13, m13⟩ := x13
  have x13 := e13
  clear e13
  have nm6_13 : g6 ≠ g13 := Nat.ne_of_lt (Nat.lt_of_lt_of_le lt_m6 hg13)
  have nm9_13 : g9 ≠ g13 := Nat.ne_of_lt (Nat.lt_of_lt_of_le lt_m9 hg13)
  have nm12_13 : g12 ≠ g13 := Nat.ne_of_lt (Nat.lt_of_lt_of_le lt_m12 hg13)
  have hw13 : w.heap.size ≤ g13 := Nat.le_trans bl0.size hg13
  have hs13 := Nat.le_trans hbS0.size hg13
  obtain ⟨Az, Bz, uz, vz, ez, hAz, hBz, lAz, lBz, hrz⟩ := x62
  obtain ⟨pAz, mAz, cAz, _, _, rfl, _⟩ := id hAz
  obtain ⟨pBz, mBz, cBz, _, _, rfl, _⟩ := id hBz
  have x62 := ez
  clear ez
  refine ⟨_, run_str 25 (.tmp 13) (.tmp 62) rfl (g13) ([.slice pAz mAz cAz, .slice pBz mBz cBz] : List Value).toArray x13 x62 25 _ m13 (by kernel_rfl) (by kernel_rfl) (by kernel_rfl), ?_⟩
  replace hAz := sl_setRow (ds := ([.slice pAz mAz cAz, .slice pBz mBz cBz] : List Value).toArray) hAz m13
  replace hBz := sl_setRow (ds := ([.slice pAz mAz cAz, .slice pBz mBz cBz] : List Value).toArray) hBz m13
  replace m6 : Ob (w23.setRow g13 ([.slice pAz mAz cAz, .slice pBz mBz cBz] : List Value).toArray) (g6) 25 ([.slice none 0 0, .slice none 0 0]) := Ob.setRow_other m6 _ nm6_13
  replace m9 : Ob (w23.setRow g13 ([.slice pAz mAz cAz, .slice pBz mBz cBz] : List Value).toArray) (g9) 33 ((z).map V) := Ob.setRow_other m9 _ nm9_13
  replace m12 : Ob (w23.setRow g13 ([.slice pAz mAz cAz, .slice pBz mBz cBz] : List Value).toArray) (g12) 33 ((s0).map V) := Ob.setRow_other m12 _ nm12_13
  replace m13 : Ob (w23.setRow g13 ([.slice pAz mAz cAz, .slice pBz mBz cBz] : List Value).toArray) (g13) 25 ([.slice pAz mAz cAz, .slice pBz mBz cBz]) := Ob.setRow m13 ([.slice pAz mAz cAz, .slice pBz mBz cBz])
  replace hbS : Below _ _ (w23.setRow g13 ([.slice pAz mAz cAz, .slice pBz mBz cBz] : List Value).toArray) := hbS.trans (below_setRow _ _ _ _ hs13)
  replace bl : Below w.heap.size w (w23.setRow g13 ([.slice pAz mAz cAz, .slice pBz mBz cBz] : List Value).toArray) := bl.trans (below_setRow _ _ _ _ hw13)
  generalize w23.setRow g13 ([.slice pAz mAz cAz, .slice pBz mBz cBz] : List Value).toArray = w24b at bl m6 m9 m12 m13 hAz hBz hbS ⊢
  replace x0 : Fk.f (.mc (qo)) (f23.eval (.tmp 0)) w24b := Fk.mono _ _ _ _ S_x0 hbS
  replace x1 : Fk.f (.mc (qn)) (f23.eval (.tmp 1)) w24b := Fk.mono _ _ _ _ S_x1 hbS
  replace x10 : Fk.f (.hc (P0)) (f23.eval (.tmp 10)) w24b := Fk.mono _ _ _ _ S_x10 hbS
  clear x62
  refine wl_one (.eq (.bool false)) rfl 14 rfl (by rw [sd.1]; decide) (st_assign (.tmp 63) rfl x63) ?_
  intro f25 w25 df2 sz2 old2 new2 hb
  replace hbS0 := hbS
  replace hbS := hbS.trans (Below.mono hb hbS.size)
  replace S_x0 := f_at (old2 0 rfl) S_x0
  replace S_x1 := f_at (old2 1 rfl) S_x1
  replace S_x10 := f_at (old2 10 rfl) S_x10
  replace x0 := f_at (old2 0 rfl) (Fk.mono _ _ _ _ x0 hb)
  replace x1 := f_at (old2 1 rfl) (Fk.mono _ _ _ _ x1 hb)
  replace x6 := tr old2 x6 rfl
  replace x7 := tr old2 x7 rfl
  replace x10 := f_at (old2 10 rfl) (Fk.mono _ _ _ _ x10 hb)
  replace x13 := tr old2 x13 rfl
  replace x63 := tr old2 x63 rfl
  have x14 := Fk.e new2
  replace m6 := Ob.below m6 hb
  replace m9 := Ob.below m9 hb
  replace m12 := Ob.below m12 hb
  replace m13 := Ob.below m13 hb
  replace hAz := Fk.mono _ _ _ _ hAz hb
  replace hBz := Fk.mono _ _ _ _ hBz hb
  replace bl := bgo bl hb
  replace sd := sd2 sz2 df2 sd
  clear df2 sz2 old2 new2 hb
  refine wpList_nil ?_
  clear hbS hbS0 S_x0 S_x1 S_x10
  clear x63
  clear m9 m12
  clear hAz hBz hrz lAz lBz
  show Code.wp _ _ _ _ _
  refine wp_seq ?_
  refine wr_a [.eq (.bool false)] (by rw [sd.1]; kernel_rfl) ⟨fun hw ac u K => ?_, trivial⟩ ?_
  · exact st_move (.tmp 14) rfl (K.t x14 rfl)
  intro f26 w26 A hb
  replace x0 := f_at (A.old 0 rfl) (Fk.mono _ _ _ _ x0 hb)
  replace x1 := f_at (A.old 1 rfl) (Fk.mono _ _ _ _ x1 hb)
  replace x6 := A.t x6 rfl
  replace x7 := A.t x7 rfl
  replace x10 := f_at (A.old 10 rfl) (Fk.mono _ _ _ _ x10 hb)
  replace x13 := A.t x13 rfl
  replace x14 := A.t x14 rfl
  have x64 := A.e 0 64 rfl rfl
  replace m6 := Ob.below m6 hb
  replace m13 := Ob.below m13 hb
  replace bl := bgo bl hb
  replace sd := A.sd sd
  clear A hb
  clear x14
  show Code.wp _ _ _ _ _
  refine wp_cond_false x64 ?_
  refine wp_skip ?_
  show Code.wp _ _ _ _ _
  refine wr_s [.mc (qn), .eq (.int .i64 (k : Int)), .mc (qn.take k)] (by rw [sd.1]; kernel_rfl) ⟨fun hw ac u K => ?_, fun hw ac u K => ?_, fun hw ac u K => ?_, trivial⟩ ?_
  · exact st_move (.tmp 1) rfl (f_at (K.old 1 rfl) (Fk.mono _ _ _ _ x1 K.grow))
  · exact st_move (.tmp 7) rfl (K.t x7 rfl)
  · exact st_cutmc (.tmp 66) (.tmp 67) rfl (K.dep 0 66 rfl) k (K.dep 1 67 rfl) (by omega)
  intro f27 w27 A hb
  replace x0 := f_at (A.old 0 rfl) (Fk.mono _ _ _ _ x0 hb)
  replace x1 := f_at (A.old 1 rfl) (Fk.mono _ _ _ _ x1 hb)
  replace x6 := A.t x6 rfl
  replace x7 := A.t x7 rfl
  replace x10 := f_at (A.old 10 rfl) (Fk.mono _ _ _ _ x10 hb)
  replace x13 := A.t x13 rfl
  replace x64 := A.t x64 rfl
  have x68 : Fk.f (.mc (qn.take k)) (f27.eval (.tmp 68)) w27 := A.has 2 68 rfl
  replace m6 := Ob.below m6 hb
  replace m13 := Ob.below m13 hb
  replace bl := bgo bl hb
  replace sd := A.sd sd
  clear A hb
  clear x7
  clear x13
  clear x64
  refine wl_one (.mc (qn.take k)) rfl 1 rfl (by rw [sd.1]; decide) (st_assign (.tmp 68) rfl x68) ?_
  intro f28 w28 df2 sz2 old2 new2 hb
  replace x0 := f_at (old2 0 rfl) (Fk.mono _ _ _ _ x0 hb)
  clear x1
  replace x6 := tr old2 x6 rfl
  replace x10 := f_at (old2 10 rfl) (Fk.mono _ _ _ _ x10 hb)
  replace x68 := f_at (old2 68 rfl) (Fk.mono _ _ _ _ x68 hb)
  have x1 : Fk.f (.mc (qn.take k)) (f28.eval (.tmp 1)) w28 := new2
  replace m6 := Ob.below m6 hb
  replace m13 := Ob.below m13 hb
  replace bl := bgo bl hb
  replace sd := sd2 sz2 df2 sd
  clear df2 sz2 old2 new2 hb
  refine wpList_nil ?_
  clear x68
  clear m13
  show Code.wp _ _ _ _ _
  refine wr_a [.hc (P0), .hc (P0)] (by rw [sd.1]; kernel_rfl) ⟨fun hw ac u K => ?_, fun hw ac u K => ?_, trivial⟩ ?_
  · exact st_move (.tmp 10) rfl (f_at (K.old 10 rfl) (Fk.mono _ _ _ _ x10 K.grow))
  · exact st_assign (.tmp 122) rfl (K.dep 0 122 rfl)
  intro f29 w29 A hb
  replace x0 := f_at (A.old 0 rfl) (Fk.mono _ _ _ _ x0 hb)
  replace x6 := A.t x6 rfl
  replace x10 := f_at (A.old 10 rfl) (Fk.mono _ _ _ _ x10 hb)
  replace x1 := f_at (A.old 1 rfl) (Fk.mono _ _ _ _ x1 hb)
  have x2 : Fk.f (.hc (P0)) (f29.eval (.tmp 2)) w29 := A.has 1 2 rfl
  replace m6 := Ob.below m6 hb
  replace bl := bgo bl hb
  replace sd := A.sd sd
  clear A hb
  clear x10
  show (∃ _, _) ∧ _
  refine ⟨⟨qo, qn.take k, P0, hso, smallP_take hsn k, h1, (by rw [List.length_take]; omega), bys_cutl hmk hne, (by rw [List.length_take, Nat.min_eq_left (by omega), exo, exa.out, hsm.1]; exact hL0), sd.1, sd.2, x6, x0, x1, x2, m6, bl⟩, ?_⟩
  rw [slen_mc x1, hcnt, List.length_take]
  omega
end Go.Proofs.YtfmeeimhfdnjpaaDoor
