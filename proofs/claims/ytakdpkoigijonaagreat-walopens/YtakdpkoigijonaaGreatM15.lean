/- The landed wal: repair, Open, Commit; its contracts. The law's homes. -/
import Derived.Test.YtakdpkoigijonaaGreatM14
namespace Go.Proofs.YtakdpkoigijonaaGreat
set_option maxRecDepth 100000
open Go.RowKit
theorem wopn_up {n z : Nat} {s : Dst} (h3 : 3 ≤ n) (h32 : 32 ≤ z) (hl : s.has.length = n) (hz : s.size = z) : wopn (homN n) (prsP n) (hdz z) s = if s.down = true then (30, s) else match prsP n (nowO s 0) with | none => (32, s) | some [] => (0, s) | some l => whome (hdz z) s (jr (nowO s) (1 + homN n) l) := by
  unfold wopn
  rw [if_neg (by rw [hl, hz]; omega)]
  rfl
theorem wopn_no {n z : Nat} {s : Dst} (h : n < 3 ∨ z < 32) (hl : s.has.length = n) (hz : s.size = z) : wopn (homN n) (prsP n) (hdz z) s = (11, s) := by
  unfold wopn
  rw [if_pos (by rw [hl, hz]; exact h)]
theorem ino_one (z : Nat) (s : Dst) (l : List (Nat × Byt)) : ino [fun s => whome (hdz z) s l] s = whome (hdz z) s l := rfl
/-- What journaled answers. -/
def JouIs (n : Nat) (M : Nat → Prop) (s : Dst) (vl : Value) (r : Int) (w : World) : Prop := (s.down = true ∧ r = 30) ∨ (s.down = false ∧ prsP n (nowd s 0) = none ∧ r = 32) ∨ (s.down = false ∧ ∃ at9 l, prsP n (nowd s 0) = some at9 ∧ r = 0 ∧ l.length = at9.length ∧ prc l = jr (nowO s) (1 + homN n) at9 ∧ (∀ c ∈ l, 0 ≤ c.p ∧ c.p ≤ 100000) ∧ ∀ W, Fr M w W → (Fk.sr RC l).f vl W)
theorem srF {M : Nat → Prop} {l : List Cng} {vl : Value} {w w' : World} (h : ∀ W, Fr M w W → (Fk.sr RC l).f vl W) (hb : Below w.heap.size w w') : ∀ W, Fr M w' W → (Fk.sr RC l).f vl W := fun W hF => h W ((Fr.of_below hb).trans hF)
theorem JouIs.below {n : Nat} {M : Nat → Prop} {s : Dst} {vl : Value} {r : Int} {w w' : World} (h : JouIs n M s vl r w) (hb : Below w.heap.size w w') : JouIs n M s vl r w' := h.imp id (fun q => q.imp id (fun q => by
  obtain ⟨q0, at9, l, q1, q2, q3, q4, q5, q6⟩ := q
  exact ⟨q0, at9, l, q1, q2, q3, q4, q5, fun W hF => q6 W ((Fr.of_below hb).trans hF)⟩))
theorem fk_xrepair {w : World} {gw gd n z k9 : Nat} {M D : Nat → Prop} {dn : Bool} {s : Dst} (mw : Ob w gw 62 [.pointer (some ⟨gd, 0, none⟩), .bool dn]) (hd : HD w gd M D s) (gs : Gd s n z k9) (hgM : ¬ M gw) (h3 : 3 ≤ n) (h32 : 32 ≤ z) (gw9 : Gw s n z) (hk : k9 + 4 * (n + 2) ≤ 1000000) :
    Calls Tryz.prog 28 #[.pointer (some ⟨gw, 0, none⟩)] w fun e w' => ∃ D', e = .returned (.int .i64 (wopn (homN n) (prsP n) (hdz z) s).1) ∧ HD w' gd M D' (wopn (homN n) (prsP n) (hdz z) s).2 ∧ Gd (wopn (homN n) (prsP n) (hdz z) s).2 n z (k9 + 4 * (n + 2)) ∧ (∀ j, D' j → D j ∨ w.heap.size ≤ j) ∧ Fr M w w' := by
  obtain ⟨⟨hn1, hn2⟩, hz1, hz2⟩ := HD.nz hd gs
  have hMlt : ∀ j, M j → j < w.heap.size := fun j q => hd.lt j (hd.sub j q)
  obtain ⟨DD, hD9⟩ : ∃ E, E = D := ⟨_, rfl⟩
  rw [← hD9] at hd
  have hDD : ∀ j, DD j → D j ∨ w.heap.size ≤ j := fun j q => .inl (hD9 ▸ q)
  clear hD9
  go_enter Tryz.func28, Tryz.ntmps28
  refine code_both (fun f w1 => f.tmps.size = 23 ∧ f.defers = [] ∧ f.eval (.tmp 0) = .pointer (some ⟨gw, 0, none⟩) ∧ HD w1 gd M DD s ∧ Fr (M) w (w1)) ⟨rfl, rfl, rfl, hd, Fr.refl _ _⟩ ?_
  clear hd
  rintro f0 w0 ⟨sz, df, x0, hd, bl⟩
  have sd := And.intro sz df
  clear sz df
  have bl0 := bl
  refine wp_seq ?_
  refine wr_a [.eq (.int .i64 0)] (by rw [sd.1]; kernel_rfl) ⟨fun hw ac u K => ?_, trivial⟩ ?_
  · exact st_assign (.const (.int .i64 0)) rfl rfl
  intro f1 w1 A hb
  replace x0 := A.t x0 rfl
  replace hd := HD.below hd hb
  replace bl := (Fr.grow bl hb)
  replace sd := A.sd sd
  clear A hb
  show Code.wp _ _ _ _ _
  refine wp_seq ?_
  refine wr_s [.eq (.pointer (some ⟨gw, 0, none⟩))] (by rw [sd.1]; kernel_rfl) ⟨fun hw ac u K => ?_, trivial⟩ ?_
  · exact st_move (.tmp 0) rfl (K.t x0 rfl)
  intro f2 w2 A hb
  replace x0 := A.t x0 rfl
  have x6 := A.e 0 6 rfl rfl
  replace hd := HD.below hd hb
  replace bl := (Fr.grow bl hb)
  replace sd := A.sd sd
  clear A hb
  refine wl_call 45 (.func 45) _ _ #[.pointer (some ⟨gw, 0, none⟩)] rfl 7 rfl (by rw [sd.1]; decide) rfl rfl (one_arg x6) Tryz.enter45 (fun u W' => ∃ (D2 : Nat → Prop) (vl : Value) (r : Int), u = .tuple #[vl, .int .i64 r] ∧ HD W' gd M D2 s ∧ (∀ j, D2 j → DD j ∨ w2.heap.size ≤ j) ∧ Fr M w2 W' ∧ JouIs n M s vl r W') ((fk_xjournaled (Ob.keep mw (bl.block _ (Ob.lt mw) hgM)) hd gs hgM h3 h32 gw9).mono (by
    rintro e w' ⟨D', u, r, rfl, q⟩
    exact ⟨_, rfl, D', u, r, rfl, q⟩)) ?_
  rintro f3 w3 df2 sz2 old2 ⟨D2, vl, r9, x7, hd2, hD2, O, hJ⟩
  replace hd := hd2
  clear hd2
  replace x0 := tr old2 x0 rfl
  replace x6 := tr old2 x6 rfl
  replace hDD : ∀ j, D2 j → D j ∨ w.heap.size ≤ j := fun j q => (hD2 j q).elim (hDD j) (fun q => .inr (Nat.le_trans bl.size q))
  replace bl := bl.trans O
  replace bl0 := bl
  clear hD2 O
  obtain ⟨DD, rfl⟩ : ∃ E, E = D2 := ⟨_, rfl⟩
  replace sd := sd2 sz2 df2 sd
  clear df2 sz2 old2
  clear x6
  refine wl_one (.eq (.tuple #[vl, .int .i64 r9])) rfl 5 rfl (by rw [sd.1]; decide) (st_move (.tmp 7) rfl x7) ?_
  intro f4 w4 df2 sz2 old2 new2 hb
  replace x0 := tr old2 x0 rfl
  replace x7 := tr old2 x7 rfl
  have x5 := Fk.e new2
  replace hd := HD.below hd hb
  replace hJ := JouIs.below hJ hb
  replace bl := (Fr.grow bl hb)
  replace sd := sd2 sz2 df2 sd
  clear df2 sz2 old2 new2 hb
  clear x7
  refine wl_one (.eq (vl)) rfl 8 rfl (by rw [sd.1]; decide) (st_extv (.tmp 5) 0 rfl x5 rfl) ?_
  intro f5 w5 df2 sz2 old2 new2 hb
  replace x0 := tr old2 x0 rfl
  replace x5 := tr old2 x5 rfl
  have x8 := Fk.e new2
  replace hd := HD.below hd hb
  replace hJ := JouIs.below hJ hb
  replace bl := (Fr.grow bl hb)
  replace sd := sd2 sz2 df2 sd
  clear df2 sz2 old2 new2 hb
  refine wl_one (.eq (.int .i64 r9)) rfl 9 rfl (by rw [sd.1]; decide) (st_extv (.tmp 5) 1 rfl x5 rfl) ?_
  intro f6 w6 df2 sz2 old2 new2 hb
  replace x0 := tr old2 x0 rfl
  replace x5 := tr old2 x5 rfl
  replace x8 := tr old2 x8 rfl
  have x9 := Fk.e new2
  replace hd := HD.below hd hb
  replace hJ := JouIs.below hJ hb
  replace bl := (Fr.grow bl hb)
  replace sd := sd2 sz2 df2 sd
  clear df2 sz2 old2 new2 hb
  clear x5
  refine wl_one (.eq (vl)) rfl 3 rfl (by rw [sd.1]; decide) (st_assign (.tmp 8) rfl x8) ?_
  intro f7 w7 df2 sz2 old2 new2 hb
  replace x0 := tr old2 x0 rfl
  replace x8 := tr old2 x8 rfl
  replace x9 := tr old2 x9 rfl
  have x3 := Fk.e new2
  replace hd := HD.below hd hb
  replace hJ := JouIs.below hJ hb
  replace bl := (Fr.grow bl hb)
  replace sd := sd2 sz2 df2 sd
  clear df2 sz2 old2 new2 hb
  clear x8
  refine wl_one (.eq (.int .i64 r9)) rfl 4 rfl (by rw [sd.1]; decide) (st_assign (.tmp 9) rfl x9) ?_
  intro f8 w8 df2 sz2 old2 new2 hb
  replace x0 := tr old2 x0 rfl
  replace x9 := tr old2 x9 rfl
  replace x3 := tr old2 x3 rfl
  have x4 := Fk.e new2
  replace hd := HD.below hd hb
  replace hJ := JouIs.below hJ hb
  replace bl := (Fr.grow bl hb)
  replace sd := sd2 sz2 df2 sd
  clear df2 sz2 old2 new2 hb
  refine wpList_nil ?_
  clear x9
  show Code.wp _ _ _ _ _
  refine wp_seq ?_
  refine wp_seq ?_
  unfold JouIs at hJ
  rcases hJ with ⟨hdn, hr9⟩ | ⟨hdn, hpr, hr9⟩ | ⟨hdn, at9, l, hpr, hr9, hll, hprc, hpp, hsr⟩
  · skip
    refine wr_a [.eq (.int .i64 r9), .eq (.bool true), .eq (.bool true), .any, .any, .any, .eq (.bool true)] (by rw [sd.1]; kernel_rfl) ⟨fun hw ac u K => ?_, fun hw ac u K => ?_, fun hw ac u K => ?_, fun hw ac u K => ?_, fun hw ac u K => ?_, fun hw ac u K => ?_, fun hw ac u K => ?_, trivial⟩ ?_
    · exact st_move (.tmp 4) rfl (K.t x4 rfl)
    · exact st_neqi 27 (.tmp 10) (.const (.int .i64 0)) rfl .i64 (r9) (0) (K.dep 0 10 rfl) rfl _ (by rw [hr9]; decide)
    · exact st_move (.tmp 11) rfl (K.dep 1 11 rfl)
    · exact (Bool.false_ne_true hw).elim
    · exact (Bool.false_ne_true hw).elim
    · exact (Bool.false_ne_true hw).elim
    · exact st_pick_t (.tmp 12) (.const (.bool true)) (.tmp 15) rfl (K.dep 2 12 rfl) rfl
    intro f9 w9 A hb
    replace x0 := A.t x0 rfl
    replace x3 := A.t x3 rfl
    replace x4 := A.t x4 rfl
    have x16 := A.e 6 16 rfl rfl
    replace hd := HD.below hd hb
    replace bl := (Fr.grow bl hb)
    replace sd := A.sd sd
    clear A hb
    show Code.wp _ _ _ _ _
    refine wp_cond_true x16 ?_
    refine wp_seq ?_
    refine wr_a [.eq (.int .i64 r9), .eq (.int .i64 r9)] (by rw [sd.1]; kernel_rfl) ⟨fun hw ac u K => ?_, fun hw ac u K => ?_, trivial⟩ ?_
    · exact st_move (.tmp 4) rfl (K.t x4 rfl)
    · exact st_assign (.tmp 17) rfl (K.dep 0 17 rfl)
    intro f10 w10 A hb
    replace x0 := A.t x0 rfl
    replace x3 := A.t x3 rfl
    replace x4 := A.t x4 rfl
    replace x16 := A.t x16 rfl
    have x2 := A.e 1 2 rfl rfl
    replace hd := HD.below hd hb
    replace bl := (Fr.grow bl hb)
    replace sd := A.sd sd
    clear A hb
    clear x0
    clear x3
    clear x4
    clear x16
    show Code.wp _ _ _ _ _
    refine wp_ret ?_
    repeat (first | with_reducible refine then_ret ?_ | with_reducible refine block_ret ?_)
    have hwo : wopn (homN n) (prsP n) (hdz z) s = (r9, s) := by rw [wopn_up h3 h32 gs.has gs.size]; rw [if_pos hdn, hr9]
    exact bodyPost_ret (v := .int .i64 r9) (ret_slot rfl f10 _ x2 _ _) sd.2 ⟨DD, by rw [hwo], by rw [hwo]; exact hd, by rw [hwo]; exact gs.le (by omega), hDD, bl⟩
  · skip
    refine wr_a [.eq (.int .i64 r9), .eq (.bool true), .eq (.bool true), .any, .any, .any, .eq (.bool true)] (by rw [sd.1]; kernel_rfl) ⟨fun hw ac u K => ?_, fun hw ac u K => ?_, fun hw ac u K => ?_, fun hw ac u K => ?_, fun hw ac u K => ?_, fun hw ac u K => ?_, fun hw ac u K => ?_, trivial⟩ ?_
    · exact st_move (.tmp 4) rfl (K.t x4 rfl)
    · exact st_neqi 27 (.tmp 10) (.const (.int .i64 0)) rfl .i64 (r9) (0) (K.dep 0 10 rfl) rfl _ (by rw [hr9]; decide)
    · exact st_move (.tmp 11) rfl (K.dep 1 11 rfl)
    · exact (Bool.false_ne_true hw).elim
    · exact (Bool.false_ne_true hw).elim
    · exact (Bool.false_ne_true hw).elim
    · exact st_pick_t (.tmp 12) (.const (.bool true)) (.tmp 15) rfl (K.dep 2 12 rfl) rfl
    intro f9 w9 A hb
    replace x0 := A.t x0 rfl
    replace x3 := A.t x3 rfl
    replace x4 := A.t x4 rfl
    have x16 := A.e 6 16 rfl rfl
    replace hd := HD.below hd hb
    replace bl := (Fr.grow bl hb)
    replace sd := A.sd sd
    clear A hb
    show Code.wp _ _ _ _ _
    refine wp_cond_true x16 ?_
    refine wp_seq ?_
    refine wr_a [.eq (.int .i64 r9), .eq (.int .i64 r9)] (by rw [sd.1]; kernel_rfl) ⟨fun hw ac u K => ?_, fun hw ac u K => ?_, trivial⟩ ?_
    · exact st_move (.tmp 4) rfl (K.t x4 rfl)
    · exact st_assign (.tmp 17) rfl (K.dep 0 17 rfl)
    intro f10 w10 A hb
    replace x0 := A.t x0 rfl
    replace x3 := A.t x3 rfl
    replace x4 := A.t x4 rfl
    replace x16 := A.t x16 rfl
    have x2 := A.e 1 2 rfl rfl
    replace hd := HD.below hd hb
    replace bl := (Fr.grow bl hb)
    replace sd := A.sd sd
    clear A hb
    clear x0
    clear x3
    clear x4
    clear x16
    show Code.wp _ _ _ _ _
    refine wp_ret ?_
    repeat (first | with_reducible refine then_ret ?_ | with_reducible refine block_ret ?_)
    have hwo : wopn (homN n) (prsP n) (hdz z) s = (r9, s) := by rw [wopn_up h3 h32 gs.has gs.size]; rw [if_neg (by rw [hdn]; simp), show prsP n (nowO s 0) = none from hpr, hr9]
    exact bodyPost_ret (v := .int .i64 r9) (ret_slot rfl f10 _ x2 _ _) sd.2 ⟨DD, by rw [hwo], by rw [hwo]; exact hd, by rw [hwo]; exact gs.le (by omega), hDD, bl⟩
  have hokl := (hd_ok h3 h32 (show n ≤ 100000 by omega)).okl (nowd s 0) at9 (gw9.now (by omega)) hpr
  have hroom := (hd_ok h3 h32 (show n ≤ 100000 by omega)).room
  have hnow : (Fk.sr RC l).f vl w8 := hsr _ (Fr.refl _ _)
  have hor : l.length = 0 ∨ l.length ≠ 0 := by omega
  rcases hor with hor | hor
  rotate_left
  · skip
    refine wr_a [.eq (.int .i64 r9), .eq (.bool false), .eq (.bool false), .eq (vl), .eq (.int .i64 (l.length : Int)), .eq (.bool false), .eq (.bool false)] (by rw [sd.1]; kernel_rfl) ⟨fun hw ac u K => ?_, fun hw ac u K => ?_, fun hw ac u K => ?_, fun hw ac u K => ?_, fun hw ac u K => ?_, fun hw ac u K => ?_, fun hw ac u K => ?_, trivial⟩ ?_
    · exact st_move (.tmp 4) rfl (K.t x4 rfl)
    · exact st_neqi 27 (.tmp 10) (.const (.int .i64 0)) rfl .i64 (r9) (0) (K.dep 0 10 rfl) rfl _ (by rw [hr9]; simp)
    · exact st_move (.tmp 11) rfl (K.dep 1 11 rfl)
    · exact st_move (.tmp 3) rfl (K.t x3 rfl)
    · exact st_lensc (.tmp 13) rfl (fk_val (K.dep 3 13 rfl) (Fk.mono _ _ _ _ hnow K.grow))
    · exact st_eqi 3 (.tmp 14) (.const (.int .i64 0)) rfl .i64 ((l.length : Int)) (0) (K.dep 4 14 rfl) rfl _ (by rw [eq_comm, decide_eq_false_iff_not]; omega)
    · exact st_pick_f' (.tmp 12) (.const (.bool true)) (.tmp 15) rfl (K.dep 2 12 rfl) (K.dep 5 15 rfl)
    intro f9 w9 A hb
    replace x0 := A.t x0 rfl
    replace x3 := A.t x3 rfl
    replace x4 := A.t x4 rfl
    have x16 := A.e 6 16 rfl rfl
    replace hd := HD.below hd hb
    replace hsr := srF hsr hb
    replace hnow := Fk.mono _ _ _ _ hnow hb
    replace bl := (Fr.grow bl hb)
    replace sd := A.sd sd
    clear A hb
    show Code.wp _ _ _ _ _
    refine wp_cond_false x16 ?_
    refine wp_skip ?_
    show Code.wp _ _ _ _ _
    refine wp_seq ?_
    clear hnow
    refine wr_s [.eq (.pointer (some ⟨gw, 0, none⟩)), .eq (vl), .stp gd n z (4 * (l.length + 1)) M (fun s => whome (hdz z) s (prc l)), .fs w.heap.size gd n z (4 * (l.length + 1)) M [fun s => whome (hdz z) s (prc l)]] (by rw [sd.1]; kernel_rfl) ⟨fun hw ac u K => ?_, fun hw ac u K => ?_, fun hw ac u K => ?_, fun hw ac u K => ?_, trivial⟩ ?_
    · exact st_move (.tmp 0) rfl (K.t x0 rfl)
    · exact st_move (.tmp 3) rfl (K.t x3 rfl)
    · exact st_call 47 (.func 47) _ _ _ rfl rfl (arg2 (K.dep 0 18 rfl) (K.dep 1 19 rfl)) Tryz.enter47 (fk_xmaking (Ob.keep mw ((Fr.grow bl K.grow).block _ (Ob.lt mw) hgM)) hgM (fun j q => by have := hMlt j q; have := (Fr.grow bl K.grow).size; omega) (by omega) (by omega) (fun q => hsr _ ((Fr.of_below K.grow).trans q)) hpp)
    · exact st_bld1 (.tmp 20) rfl (K.dep 2 20 rfl) (Fr.grow bl K.grow).size
    intro f10 w10 A hb
    replace x0 := A.t x0 rfl
    replace x3 := A.t x3 rfl
    replace x4 := A.t x4 rfl
    replace x16 := A.t x16 rfl
    have x21 : Fk.f (.fs w.heap.size gd n z (4 * (l.length + 1)) M [fun s => whome (hdz z) s (prc l)]) (f10.eval (.tmp 21)) w10 := A.has 3 21 rfl
    replace hd := HD.below hd hb
    replace hsr := srF hsr hb
    replace bl := (Fr.grow bl hb)
    replace sd := A.sd sd
    clear A hb
    clear x0
    clear x3
    clear x4
    clear x16
    refine wl_call 46 (.func 46) _ _ #[f10.eval (.tmp 21)] rfl 22 rfl (by rw [sd.1]; decide) rfl rfl (one_arg rfl) Tryz.enter46 (fun u W' => ∃ D2 : Nat → Prop, u = .int .i64 (ino [fun s => whome (hdz z) s (prc l)] s).1 ∧ HD W' gd M D2 (ino [fun s => whome (hdz z) s (prc l)] s).2 ∧ Gd (ino [fun s => whome (hdz z) s (prc l)] s).2 n z (k9 + 1 * (4 * (l.length + 1))) ∧ (∀ j, D2 j → DD j ∨ w10.heap.size ≤ j) ∧ Fr M w10 W') ((fk_inOrder x21 hMlt hd gs (by show k9 + 1 * (4 * (l.length + 1)) ≤ 1000000; omega) (by show 1 ≤ 1000; omega)).mono (by rintro e w' ⟨D', rfl, q1, q9, q2, q3⟩; exact ⟨_, rfl, D', rfl, q1, q9, q2, q3⟩)) ?_
    rintro f11 w11 df2 sz2 old2 ⟨D2, x22, hd2, gs2, hD2, O⟩
    replace hd := hd2
    clear hd2
    clear x21
    obtain ⟨r22, hr22⟩ : ∃ r, r = (ino [fun s => whome (hdz z) s (prc l)] s).1 := ⟨_, rfl⟩
    rw [← hr22] at x22
    replace hDD : ∀ j, D2 j → D j ∨ w.heap.size ≤ j := fun j q => (hD2 j q).elim (hDD j) (fun q => .inr (Nat.le_trans bl.size q))
    replace bl := bl.trans O
    replace bl0 := bl
    clear hD2 O
    obtain ⟨DD, rfl⟩ : ∃ E, E = D2 := ⟨_, rfl⟩
    replace sd := sd2 sz2 df2 sd
    clear df2 sz2 old2
    clear hsr
    refine wl_one (.eq (.int .i64 r22)) rfl 2 rfl (by rw [sd.1]; decide) (st_assign (.tmp 22) rfl x22) ?_
    intro f12 w12 df2 sz2 old2 new2 hb
    replace x22 := tr old2 x22 rfl
    have x2 := Fk.e new2
    replace hd := HD.below hd hb
    replace bl := (Fr.grow bl hb)
    replace sd := sd2 sz2 df2 sd
    clear df2 sz2 old2 new2 hb
    refine wpList_nil ?_
    clear x22
    show Code.wp _ _ _ _ _
    refine wp_ret ?_
    repeat (first | with_reducible refine then_ret ?_ | with_reducible refine block_ret ?_)
    rw [ino_one] at hr22 hd gs2
    have hwo : wopn (homN n) (prsP n) (hdz z) s = whome (hdz z) s (prc l) := by
      rw [wopn_up h3 h32 gs.has gs.size, if_neg (by rw [hdn]; simp), show prsP n (nowO s 0) = some at9 from hpr, hprc]
      obtain ⟨a9, r9, rfl⟩ : ∃ a r, at9 = a :: r := by
        cases at9 with
        | nil => exact absurd (hll.trans rfl) hor
        | cons a r => exact ⟨a, r, rfl⟩
      rfl
    exact bodyPost_ret (v := .int .i64 r22) (ret_slot rfl f12 _ x2 _ _) sd.2 ⟨DD, by rw [hwo, hr22], by rw [hwo]; exact hd, by rw [hwo]; exact gs2.le (by omega), hDD, bl⟩
  refine wr_a [.eq (.int .i64 r9), .eq (.bool false), .eq (.bool false), .eq (vl), .eq (.int .i64 (l.length : Int)), .eq (.bool true), .eq (.bool true)] (by rw [sd.1]; kernel_rfl) ⟨fun hw ac u K => ?_, fun hw ac u K => ?_, fun hw ac u K => ?_, fun hw ac u K => ?_, fun hw ac u K => ?_, fun hw ac u K => ?_, fun hw ac u K => ?_, trivial⟩ ?_
  · exact st_move (.tmp 4) rfl (K.t x4 rfl)
  · exact st_neqi 27 (.tmp 10) (.const (.int .i64 0)) rfl .i64 (r9) (0) (K.dep 0 10 rfl) rfl _ (by rw [hr9]; simp)
  · exact st_move (.tmp 11) rfl (K.dep 1 11 rfl)
  · exact st_move (.tmp 3) rfl (K.t x3 rfl)
  · exact st_lensc (.tmp 13) rfl (fk_val (K.dep 3 13 rfl) (Fk.mono _ _ _ _ hnow K.grow))
  · exact st_eqi 3 (.tmp 14) (.const (.int .i64 0)) rfl .i64 ((l.length : Int)) (0) (K.dep 4 14 rfl) rfl _ (by rw [eq_comm, decide_eq_true_iff]; omega)
  · exact st_pick_f' (.tmp 12) (.const (.bool true)) (.tmp 15) rfl (K.dep 2 12 rfl) (K.dep 5 15 rfl)
  intro f9 w9 A hb
  replace x0 := A.t x0 rfl
  replace x3 := A.t x3 rfl
  replace x4 := A.t x4 rfl
  have x16 := A.e 6 16 rfl rfl
  replace hd := HD.below hd hb
  replace hsr := srF hsr hb
  replace hnow := Fk.mono _ _ _ _ hnow hb
  replace bl := (Fr.grow bl hb)
  replace sd := A.sd sd
  clear A hb
  show Code.wp _ _ _ _ _
  refine wp_cond_true x16 ?_
  refine wp_seq ?_
  refine wr_a [.eq (.int .i64 r9), .eq (.int .i64 r9)] (by rw [sd.1]; kernel_rfl) ⟨fun hw ac u K => ?_, fun hw ac u K => ?_, trivial⟩ ?_
  · exact st_move (.tmp 4) rfl (K.t x4 rfl)
  · exact st_assign (.tmp 17) rfl (K.dep 0 17 rfl)
  intro f10 w10 A hb
  replace x0 := A.t x0 rfl
  replace x3 := A.t x3 rfl
  replace x4 := A.t x4 rfl
  replace x16 := A.t x16 rfl
  have x2 := A.e 1 2 rfl rfl
  replace hd := HD.below hd hb
  replace hsr := srF hsr hb
  replace hnow := Fk.mono _ _ _ _ hnow hb
  replace bl := (Fr.grow bl hb)
  replace sd := A.sd sd
  clear A hb
  clear x0
  clear x3
  clear x4
  clear x16
  show Code.wp _ _ _ _ _
  refine wp_ret ?_
  repeat (first | with_reducible refine then_ret ?_ | with_reducible refine block_ret ?_)
  have hwo : wopn (homN n) (prsP n) (hdz z) s = (r9, s) := by
    rw [wopn_up h3 h32 gs.has gs.size, if_neg (by rw [hdn]; simp), show prsP n (nowO s 0) = some at9 from hpr, List.eq_nil_of_length_eq_zero (show at9.length = 0 by omega), hr9]
  exact bodyPost_ret (v := .int .i64 r9) (ret_slot rfl f10 _ x2 _ _) sd.2 ⟨DD, by rw [hwo], by rw [hwo]; exact hd, by rw [hwo]; exact gs.le (by omega), hDD, bl⟩
theorem fk_wopen {w : World} {gd n z k9 : Nat} {M D : Nat → Prop} {s : Dst} (hd : HD w gd M D s) (gs : Gd s n z k9) (gw9 : Gw s n z) (hk : k9 + 4 * (n + 2) ≤ 1000000) :
    Calls Tryz.prog 9 #[.pointer (some ⟨gd, 0, none⟩)] w fun e w' => ∃ D' u, e = .returned (.tuple #[u, .int .i64 (wopn (homN n) (prsP n) (hdz z) s).1]) ∧ HD w' gd M D' (wopn (homN n) (prsP n) (hdz z) s).2 ∧ Gd (wopn (homN n) (prsP n) (hdz z) s).2 n z (k9 + 4 * (n + 2)) ∧ ((wopn (homN n) (prsP n) (hdz z) s).1 = 0 → ∃ gw V, u = .pointer (some ⟨gw, 0, none⟩) ∧ HW w' gw gd V n z false ∧ ∀ j, V j → w.heap.size ≤ j ∧ ¬ D' j) ∧ ((wopn (homN n) (prsP n) (hdz z) s).1 ≠ 0 → u = .pointer none) ∧ (∀ j, D' j → D j ∨ w.heap.size ≤ j) ∧ Fr M w w' := by
  obtain ⟨⟨hn1, hn2⟩, hz1, hz2⟩ := HD.nz hd gs
  have hDlt := hd.lt
  have hMlt : ∀ j, M j → j < w.heap.size := fun j q => hd.lt j (hd.sub j q)
  obtain ⟨DD, hD9⟩ : ∃ E, E = D := ⟨_, rfl⟩
  rw [← hD9] at hd
  have hDD : ∀ j, DD j → D j ∨ w.heap.size ≤ j := fun j q => .inl (hD9 ▸ q)
  have hDE : DD = D := hD9
  clear hD9
  go_enter Tryz.func9, Tryz.ntmps9
  refine code_both (fun f w1 => f.tmps.size = 23 ∧ f.defers = [] ∧ f.eval (.tmp 0) = .pointer (some ⟨gd, 0, none⟩) ∧ HD w1 gd M DD s ∧ Fr (M) w (w1)) ⟨rfl, rfl, rfl, hd, Fr.refl _ _⟩ ?_
  clear hd
  rintro f0 w0 ⟨sz, df, x0, hd, bl⟩
  have sd := And.intro sz df
  clear sz df
  have bl0 := bl
  refine wp_seq ?_
  refine wr_a [.eq (.pointer none), .eq (.int .i64 0)] (by rw [sd.1]; kernel_rfl) ⟨fun hw ac u K => ?_, fun hw ac u K => ?_, trivial⟩ ?_
  · exact st_assign (.const (.pointer none)) rfl rfl
  · exact st_assign (.const (.int .i64 0)) rfl rfl
  intro f1 w1 A hb
  replace x0 := A.t x0 rfl
  replace hd := HD.below hd hb
  replace bl := (Fr.grow bl hb)
  replace sd := A.sd sd
  clear A hb
  show Code.wp _ _ _ _ _
  refine wp_seq ?_
  refine wp_seq ?_
  have hor : n < 3 ∨ (3 ≤ n ∧ z < 32) ∨ (3 ≤ n ∧ 32 ≤ z) := by omega
  rcases hor with h9 | ⟨h9, h8⟩ | ⟨h9, h8⟩
  · skip
    refine wr_a [.eq (.pointer (some ⟨gd, 0, none⟩)), .eq (.int .i64 (n : Int)), .eq (.bool true), .eq (.bool true), .any, .any, .any, .eq (.bool true)] (by rw [sd.1]; kernel_rfl) ⟨fun hw ac u K => ?_, fun hw ac u K => ?_, fun hw ac u K => ?_, fun hw ac u K => ?_, fun hw ac u K => ?_, fun hw ac u K => ?_, fun hw ac u K => ?_, fun hw ac u K => ?_, trivial⟩ ?_
    · exact st_move (.tmp 0) rfl (K.t x0 rfl)
    · exact st_call 26 (.func 26) _ _ _ rfl rfl (one_arg (K.dep 0 6 rfl)) Tryz.enter26 (fk_dsecN (HD.below hd K.grow) gs)
    · exact st_lss 3 (.tmp 7) (.const (.int .i64 3)) rfl .i64 ((n : Int)) (3) (K.dep 1 7 rfl) rfl _ (by rw [eq_comm, decide_eq_true_iff]; omega)
    · exact st_move (.tmp 8) rfl (K.dep 2 8 rfl)
    · exact (Bool.false_ne_true hw).elim
    · exact (Bool.false_ne_true hw).elim
    · exact (Bool.false_ne_true hw).elim
    · exact st_pick_t (.tmp 9) (.const (.bool true)) (.tmp 12) rfl (K.dep 3 9 rfl) rfl
    intro f2 w2 A hb
    replace x0 := A.t x0 rfl
    have x13 := A.e 7 13 rfl rfl
    replace hd := HD.below hd hb
    replace bl := (Fr.grow bl hb)
    replace sd := A.sd sd
    clear A hb
    show Code.wp _ _ _ _ _
    refine wp_cond_true x13 ?_
    refine wp_seq ?_
    refine wr_a [.eq (.pointer none), .eq (.int .i64 11)] (by rw [sd.1]; kernel_rfl) ⟨fun hw ac u K => ?_, fun hw ac u K => ?_, trivial⟩ ?_
    · exact st_assign (.const (.pointer none)) rfl rfl
    · exact st_assign (.const (.int .i64 11)) rfl rfl
    intro f3 w3 A hb
    replace x0 := A.t x0 rfl
    replace x13 := A.t x13 rfl
    have x2 := A.e 0 2 rfl rfl
    have x3 := A.e 1 3 rfl rfl
    replace hd := HD.below hd hb
    replace bl := (Fr.grow bl hb)
    replace sd := A.sd sd
    clear A hb
    clear x0
    clear x13
    show Code.wp _ _ _ _ _
    refine wp_ret ?_
    repeat (first | with_reducible refine then_ret ?_ | with_reducible refine block_ret ?_)
    have hwo := wopn_no (s := s) (.inl h9) gs.has gs.size
    exact bodyPost_ret (v := .tuple #[.pointer none, .int .i64 11]) (ret_two rfl f3 _ _ x2 x3 _ _) sd.2 ⟨DD, _, by rw [hwo], by rw [hwo]; exact hd, by rw [hwo]; exact gs.le (by omega), by rw [hwo]; exact fun q => absurd q (show ¬ ((11 : Int) = 0) by decide), fun _ => rfl, hDD, bl⟩
  · skip
    refine wr_a [.eq (.pointer (some ⟨gd, 0, none⟩)), .eq (.int .i64 (n : Int)), .eq (.bool false), .eq (.bool false), .eq (.pointer (some ⟨gd, 0, none⟩)), .eq (.int .i64 (z : Int)), .eq (.bool true), .eq (.bool true)] (by rw [sd.1]; kernel_rfl) ⟨fun hw ac u K => ?_, fun hw ac u K => ?_, fun hw ac u K => ?_, fun hw ac u K => ?_, fun hw ac u K => ?_, fun hw ac u K => ?_, fun hw ac u K => ?_, fun hw ac u K => ?_, trivial⟩ ?_
    · exact st_move (.tmp 0) rfl (K.t x0 rfl)
    · exact st_call 26 (.func 26) _ _ _ rfl rfl (one_arg (K.dep 0 6 rfl)) Tryz.enter26 (fk_dsecN (HD.below hd K.grow) gs)
    · exact st_lss 3 (.tmp 7) (.const (.int .i64 3)) rfl .i64 ((n : Int)) (3) (K.dep 1 7 rfl) rfl _ (by rw [eq_comm, decide_eq_false_iff_not]; omega)
    · exact st_move (.tmp 8) rfl (K.dep 2 8 rfl)
    · exact st_move (.tmp 0) rfl (K.t x0 rfl)
    · exact st_call 27 (.func 27) _ _ _ rfl rfl (one_arg (K.dep 4 10 rfl)) Tryz.enter27 (fk_dsizN (HD.below hd K.grow) gs)
    · exact st_lss 3 (.tmp 11) (.const (.int .i64 32)) rfl .i64 ((z : Int)) (32) (K.dep 5 11 rfl) rfl _ (by rw [eq_comm, decide_eq_true_iff]; omega)
    · exact st_pick_f' (.tmp 9) (.const (.bool true)) (.tmp 12) rfl (K.dep 3 9 rfl) (K.dep 6 12 rfl)
    intro f2 w2 A hb
    replace x0 := A.t x0 rfl
    have x13 := A.e 7 13 rfl rfl
    replace hd := HD.below hd hb
    replace bl := (Fr.grow bl hb)
    replace sd := A.sd sd
    clear A hb
    show Code.wp _ _ _ _ _
    refine wp_cond_true x13 ?_
    refine wp_seq ?_
    refine wr_a [.eq (.pointer none), .eq (.int .i64 11)] (by rw [sd.1]; kernel_rfl) ⟨fun hw ac u K => ?_, fun hw ac u K => ?_, trivial⟩ ?_
    · exact st_assign (.const (.pointer none)) rfl rfl
    · exact st_assign (.const (.int .i64 11)) rfl rfl
    intro f3 w3 A hb
    replace x0 := A.t x0 rfl
    replace x13 := A.t x13 rfl
    have x2 := A.e 0 2 rfl rfl
    have x3 := A.e 1 3 rfl rfl
    replace hd := HD.below hd hb
    replace bl := (Fr.grow bl hb)
    replace sd := A.sd sd
    clear A hb
    clear x0
    clear x13
    show Code.wp _ _ _ _ _
    refine wp_ret ?_
    repeat (first | with_reducible refine then_ret ?_ | with_reducible refine block_ret ?_)
    have hwo := wopn_no (s := s) (.inr h8) gs.has gs.size
    exact bodyPost_ret (v := .tuple #[.pointer none, .int .i64 11]) (ret_two rfl f3 _ _ x2 x3 _ _) sd.2 ⟨DD, _, by rw [hwo], by rw [hwo]; exact hd, by rw [hwo]; exact gs.le (by omega), by rw [hwo]; exact fun q => absurd q (show ¬ ((11 : Int) = 0) by decide), fun _ => rfl, hDD, bl⟩
  refine wr_a [.eq (.pointer (some ⟨gd, 0, none⟩)), .eq (.int .i64 (n : Int)), .eq (.bool false), .eq (.bool false), .eq (.pointer (some ⟨gd, 0, none⟩)), .eq (.int .i64 (z : Int)), .eq (.bool false), .eq (.bool false)] (by rw [sd.1]; kernel_rfl) ⟨fun hw ac u K => ?_, fun hw ac u K => ?_, fun hw ac u K => ?_, fun hw ac u K => ?_, fun hw ac u K => ?_, fun hw ac u K => ?_, fun hw ac u K => ?_, fun hw ac u K => ?_, trivial⟩ ?_
  · exact st_move (.tmp 0) rfl (K.t x0 rfl)
  · exact st_call 26 (.func 26) _ _ _ rfl rfl (one_arg (K.dep 0 6 rfl)) Tryz.enter26 (fk_dsecN (HD.below hd K.grow) gs)
  · exact st_lss 3 (.tmp 7) (.const (.int .i64 3)) rfl .i64 ((n : Int)) (3) (K.dep 1 7 rfl) rfl _ (by rw [eq_comm, decide_eq_false_iff_not]; omega)
  · exact st_move (.tmp 8) rfl (K.dep 2 8 rfl)
  · exact st_move (.tmp 0) rfl (K.t x0 rfl)
  · exact st_call 27 (.func 27) _ _ _ rfl rfl (one_arg (K.dep 4 10 rfl)) Tryz.enter27 (fk_dsizN (HD.below hd K.grow) gs)
  · exact st_lss 3 (.tmp 11) (.const (.int .i64 32)) rfl .i64 ((z : Int)) (32) (K.dep 5 11 rfl) rfl _ (by rw [eq_comm, decide_eq_false_iff_not]; omega)
  · exact st_pick_f' (.tmp 9) (.const (.bool true)) (.tmp 12) rfl (K.dep 3 9 rfl) (K.dep 6 12 rfl)
  intro f2 w2 A hb
  replace x0 := A.t x0 rfl
  have x13 := A.e 7 13 rfl rfl
  replace hd := HD.below hd hb
  replace bl := (Fr.grow bl hb)
  replace sd := A.sd sd
  clear A hb
  show Code.wp _ _ _ _ _
  refine wp_cond_false x13 ?_
  refine wp_skip ?_
  show Code.wp _ _ _ _ _
  refine wp_seq ?_
  refine wr_a [.eq (.pointer (some ⟨gd, 0, none⟩)), .eq (.agg ([.pointer (some ⟨gd, 0, none⟩), .bool false] : List Value).toArray), .nw w2.heap.size 62 ([.pointer (some ⟨gd, 0, none⟩), .bool false] : List Value), .nw w2.heap.size 62 ([.pointer (some ⟨gd, 0, none⟩), .bool false] : List Value)] (by rw [sd.1]; kernel_rfl) ⟨fun hw ac u K => ?_, fun hw ac u K => ?_, fun hw ac u K => ?_, fun hw ac u K => ?_, trivial⟩ ?_
  · exact st_move (.tmp 0) rfl (K.t x0 rfl)
  · exact st_build 62 _ rfl (by simp only [List.map_toArray, List.map_cons, List.map_nil, show ac.eval (.tmp 14) = _ from (K.dep 0 14 rfl)]; kernel_rfl)
  · exact st_box 62 (.tmp 15) rfl _ _ (by rw [show _ = _ from (K.dep 1 15 rfl)]; kernel_rfl) K.grow.size
  · exact st_assign (.tmp 16) rfl (K.dep 2 16 rfl)
  intro f3 w3 A hb
  replace bl0 := bl
  replace x0 := A.t x0 rfl
  replace x13 := A.t x13 rfl
  have x4 : Fk.f (.nw w2.heap.size 62 ([.pointer (some ⟨gd, 0, none⟩), .bool false] : List Value)) (f3.eval (.tmp 4)) w3 := A.has 3 4 rfl
  replace hd := HD.below hd hb
  replace bl := (Fr.grow bl hb)
  replace sd := A.sd sd
  clear A hb
  clear x0
  clear x13
  obtain ⟨g4, hg4, e4, m4⟩ := x4
  have x4 := e4
  clear e4
  have hw4 : w.heap.size ≤ g4 := Nat.le_trans bl0.size hg4
  show Code.wp _ _ _ _ _
  refine wp_seq ?_
  refine wp_seq ?_
  refine wr_s [.eq (.pointer (some ⟨g4, 0, none⟩))] (by rw [sd.1]; kernel_rfl) ⟨fun hw ac u K => ?_, trivial⟩ ?_
  · exact st_move (.tmp 4) rfl (K.t x4 rfl)
  intro f4 w4 A hb
  replace x4 := A.t x4 rfl
  have x17 := A.e 0 17 rfl rfl
  replace m4 := Ob.below m4 hb
  replace hd := HD.below hd hb
  replace bl := (Fr.grow bl hb)
  replace sd := A.sd sd
  clear A hb
  have hgM4 : ¬ M g4 := fun q => by have := hMlt _ q; omega
  have hgD4 : ¬ DD g4 := fun q => by rw [hDE] at q; have := hDlt _ q; omega
  refine wl_call 28 (.func 28) _ _ #[.pointer (some ⟨g4, 0, none⟩)] rfl 18 rfl (by rw [sd.1]; decide) rfl rfl (one_arg x17) Tryz.enter28 (fun u W' => ∃ D2 : Nat → Prop, u = .int .i64 (wopn (homN n) (prsP n) (hdz z) s).1 ∧ HD W' gd M D2 (wopn (homN n) (prsP n) (hdz z) s).2 ∧ Gd (wopn (homN n) (prsP n) (hdz z) s).2 n z (k9 + 4 * (n + 2)) ∧ (∀ j, D2 j → DD j ∨ w4.heap.size ≤ j) ∧ Fr M w4 W') ((fk_xrepair m4 hd gs hgM4 h9 h8 gw9 hk).mono (by rintro e w' ⟨D', rfl, q⟩; exact ⟨_, rfl, D', rfl, q⟩)) ?_
  rintro f5 w5 df2 sz2 old2 ⟨D2, x18, hd2, gs2, hD2, O⟩
  replace hd := hd2
  clear hd2
  obtain ⟨r18, hr18⟩ : ∃ r, r = (wopn (homN n) (prsP n) (hdz z) s).1 := ⟨_, rfl⟩
  rw [← hr18] at x18
  replace x4 := tr old2 x4 rfl
  replace x17 := tr old2 x17 rfl
  have hg9 : ¬ D2 g4 := fun q => (hD2 _ q).elim hgD4 (fun q => by have := Ob.lt m4; omega)
  replace m4 := Ob.keep m4 (O.block _ (Ob.lt m4) hgM4)
  replace hDD : ∀ j, D2 j → D j ∨ w.heap.size ≤ j := fun j q => (hD2 j q).elim (hDD j) (fun q => .inr (Nat.le_trans bl.size q))
  replace bl := bl.trans O
  replace bl0 := bl
  clear hD2 O hgD4 hDE
  obtain ⟨DD, rfl⟩ : ∃ E, E = D2 := ⟨_, rfl⟩
  replace sd := sd2 sz2 df2 sd
  clear df2 sz2 old2
  clear x17
  refine wl_one (.eq (.int .i64 r18)) rfl 5 rfl (by rw [sd.1]; decide) (st_assign (.tmp 18) rfl x18) ?_
  intro f6 w6 df2 sz2 old2 new2 hb
  replace x4 := tr old2 x4 rfl
  replace x18 := tr old2 x18 rfl
  have x5 := Fk.e new2
  replace m4 := Ob.below m4 hb
  replace hd := HD.below hd hb
  replace bl := (Fr.grow bl hb)
  replace sd := sd2 sz2 df2 sd
  clear df2 sz2 old2 new2 hb
  refine wpList_nil ?_
  clear x18
  show Code.wp _ _ _ _ _
  refine wp_seq ?_
  by_cases hz0 : r18 = 0
  rotate_left
  · skip
    refine wr_a [.eq (.int .i64 r18), .eq (.bool true)] (by rw [sd.1]; kernel_rfl) ⟨fun hw ac u K => ?_, fun hw ac u K => ?_, trivial⟩ ?_
    · exact st_move (.tmp 5) rfl (K.t x5 rfl)
    · exact st_neqi 27 (.tmp 19) (.const (.int .i64 0)) rfl .i64 (r18) (0) (K.dep 0 19 rfl) rfl _ (by rw [eq_comm, decide_eq_true_iff]; exact hz0)
    intro f7 w7 A hb
    replace x4 := A.t x4 rfl
    replace x5 := A.t x5 rfl
    have x20 := A.e 1 20 rfl rfl
    replace m4 := Ob.below m4 hb
    replace hd := HD.below hd hb
    replace bl := (Fr.grow bl hb)
    replace sd := A.sd sd
    clear A hb
    show Code.wp _ _ _ _ _
    refine wp_cond_true x20 ?_
    refine wp_seq ?_
    refine wr_a [.eq (.int .i64 r18), .eq (.pointer none), .eq (.int .i64 r18)] (by rw [sd.1]; kernel_rfl) ⟨fun hw ac u K => ?_, fun hw ac u K => ?_, fun hw ac u K => ?_, trivial⟩ ?_
    · exact st_move (.tmp 5) rfl (K.t x5 rfl)
    · exact st_assign (.const (.pointer none)) rfl rfl
    · exact st_assign (.tmp 21) rfl (K.dep 0 21 rfl)
    intro f8 w8 A hb
    replace x4 := A.t x4 rfl
    replace x5 := A.t x5 rfl
    replace x20 := A.t x20 rfl
    have x2 := A.e 1 2 rfl rfl
    have x3 := A.e 2 3 rfl rfl
    replace m4 := Ob.below m4 hb
    replace hd := HD.below hd hb
    replace bl := (Fr.grow bl hb)
    replace sd := A.sd sd
    clear A hb
    clear x5
    clear x20
    show Code.wp _ _ _ _ _
    refine wp_ret ?_
    repeat (first | with_reducible refine then_ret ?_ | with_reducible refine block_ret ?_)
    exact bodyPost_ret (v := .tuple #[.pointer none, .int .i64 r18]) (ret_two rfl f8 _ _ x2 x3 _ _) sd.2 ⟨DD, _, by rw [hr18], hd, gs2, fun q => absurd (hr18.trans q) hz0, fun _ => rfl, hDD, bl⟩
  refine wr_a [.eq (.int .i64 r18), .eq (.bool false)] (by rw [sd.1]; kernel_rfl) ⟨fun hw ac u K => ?_, fun hw ac u K => ?_, trivial⟩ ?_
  · exact st_move (.tmp 5) rfl (K.t x5 rfl)
  · exact st_neqi 27 (.tmp 19) (.const (.int .i64 0)) rfl .i64 (r18) (0) (K.dep 0 19 rfl) rfl _ (by rw [hz0]; simp)
  intro f7 w7 A hb
  replace x4 := A.t x4 rfl
  replace x5 := A.t x5 rfl
  have x20 := A.e 1 20 rfl rfl
  replace m4 := Ob.below m4 hb
  replace hd := HD.below hd hb
  replace bl := (Fr.grow bl hb)
  replace sd := A.sd sd
  clear A hb
  show Code.wp _ _ _ _ _
  refine wp_cond_false x20 ?_
  refine wp_skip ?_
  show Code.wp _ _ _ _ _
  refine wp_seq ?_
  refine wr_a [.eq (.pointer (some ⟨g4, 0, none⟩)), .eq (.pointer (some ⟨g4, 0, none⟩)), .eq (.int .i64 0)] (by rw [sd.1]; kernel_rfl) ⟨fun hw ac u K => ?_, fun hw ac u K => ?_, fun hw ac u K => ?_, trivial⟩ ?_
  · exact st_move (.tmp 4) rfl (K.t x4 rfl)
  · exact st_assign (.tmp 22) rfl (K.dep 0 22 rfl)
  · exact st_assign (.const (.int .i64 0)) rfl rfl
  intro f8 w8 A hb
  replace x4 := A.t x4 rfl
  replace x5 := A.t x5 rfl
  replace x20 := A.t x20 rfl
  have x2 := A.e 1 2 rfl rfl
  have x3 := A.e 2 3 rfl rfl
  replace m4 := Ob.below m4 hb
  replace hd := HD.below hd hb
  replace bl := (Fr.grow bl hb)
  replace sd := A.sd sd
  clear A hb
  clear x5
  clear x20
  show Code.wp _ _ _ _ _
  refine wp_ret ?_
  repeat (first | with_reducible refine then_ret ?_ | with_reducible refine block_ret ?_)
  exact bodyPost_ret (v := .tuple #[.pointer (some ⟨g4, 0, none⟩), .int .i64 0]) (ret_two rfl f8 _ _ x2 x3 _ _) sd.2 ⟨DD, _, by rw [← hr18, hz0], hd, gs2, fun _ => ⟨g4, fun j => j = g4, rfl, ⟨m4, fun j => Iff.rfl⟩, fun j q => by subst q; exact ⟨hw4, hg9⟩⟩, fun q => absurd (hr18.symm.trans hz0) q, hDD, bl⟩
/-- What Commit answers, and leaves of the disk. -/
def ComIs (n z : Nat) (s : Dst) (dn : Bool) (l : List Cng) (r : Int) (s' : Dst) (dn' : Bool) : Prop := (l = [] ∧ r = 0 ∧ s' = s ∧ dn' = dn) ∨ (l ≠ [] ∧ dn = true ∧ r = 30 ∧ s' = s ∧ dn' = true) ∨ (l ≠ [] ∧ dn = false ∧ r ≠ 0 ∧ WrongIs l n z r ∧ s' = s ∧ dn' = false) ∨ (l ≠ [] ∧ dn = false ∧ WrongIs l n z 0 ∧ (r, s') = wcom (homN n) (hdz z) s (prc l) ∧ dn' = decide (r = 30))
theorem com_raw {w : World} {gw gd n z k9 : Nat} {V M D : Nat → Prop} {dn : Bool} {s : Dst} {l : List Cng} {vl : Value} (mw : Ob w gw 62 [.pointer (some ⟨gd, 0, none⟩), .bool dn]) (hV : ∀ j, V j ↔ j = gw) (hVD : ∀ j, V j → ¬ D j) (hgM : ¬ M gw) (hd : HD w gd M D s) (gs : Gd s n z k9) (h16 : 32 ≤ z) (hk : k9 + 20 * (l.length + 1) ≤ 1000000) (hl : l.length ≤ 1000) (hvF : ∀ {W : World}, Fr (fun j => M j ∨ V j) w W → (Fk.sr RC l).f vl W) :
    Calls Tryz.prog 19 #[.pointer (some ⟨gw, 0, none⟩), vl] w fun e w' => ∃ D' r s' dn', e = .returned (.int .i64 r) ∧ ComIs n z s dn l r s' dn' ∧ HD w' gd M D' s' ∧ Gd s' n z (k9 + 20 * (l.length + 1)) ∧ HW w' gw gd V n z dn' ∧ (∀ j, D' j → D j ∨ w.heap.size ≤ j) ∧ Fr (fun j => M j ∨ V j) w w' := by
  obtain ⟨⟨hn1, hn2⟩, hz1, hz2⟩ := HD.nz hd gs
  have hMlt : ∀ j, M j → j < w.heap.size := fun j q => hd.lt j (hd.sub j q)
  obtain ⟨DD, hD9⟩ : ∃ E, E = D := ⟨_, rfl⟩
  rw [← hD9] at hd
  have hDD : ∀ j, DD j → D j ∨ w.heap.size ≤ j := fun j q => .inl (hD9 ▸ q)
  clear hD9
  go_enter Tryz.func19, Tryz.ntmps19
  refine code_both (fun f w1 => f.tmps.size = 24 ∧ f.defers = [] ∧ f.eval (.tmp 0) = .pointer (some ⟨gw, 0, none⟩) ∧ f.eval (.tmp 1) = vl ∧ HD w1 gd M DD s ∧ Fr (M) w (w1)) ⟨rfl, rfl, rfl, rfl, hd, Fr.refl _ _⟩ ?_
  clear hd
  rintro f0 w0 ⟨sz, df, x0, x1, hd, bl⟩
  have sd := And.intro sz df
  clear sz df
  have bl0 := bl
  refine wp_seq ?_
  refine wr_a [.eq (.int .i64 0)] (by rw [sd.1]; kernel_rfl) ⟨fun hw ac u K => ?_, trivial⟩ ?_
  · exact st_assign (.const (.int .i64 0)) rfl rfl
  intro f1 w1 A hb
  replace x0 := A.t x0 rfl
  replace x1 := A.t x1 rfl
  replace hd := HD.below hd hb
  replace bl := (Fr.grow bl hb)
  replace sd := A.sd sd
  clear A hb
  show Code.wp _ _ _ _ _
  refine wp_seq ?_
  refine wp_seq ?_
  have hor : l = [] ∨ (l ≠ [] ∧ dn = true) ∨ (l ≠ [] ∧ dn = false) := by
    by_cases q : l = []
    · exact .inl q
    · cases dn
      · exact .inr (.inr ⟨q, rfl⟩)
      · exact .inr (.inl ⟨q, rfl⟩)
  rcases hor with hor | ⟨hor, hdn⟩ | ⟨hor, hdn⟩
  · skip
    have hlen : l.length = 0 := by rw [hor]; rfl
    refine wr_a [.eq (vl), .eq (.int .i64 (l.length : Int)), .eq (.bool true)] (by rw [sd.1]; kernel_rfl) ⟨fun hw ac u K => ?_, fun hw ac u K => ?_, fun hw ac u K => ?_, trivial⟩ ?_
    · exact st_move (.tmp 1) rfl (K.t x1 rfl)
    · exact st_lensc (.tmp 6) rfl (fk_val (K.dep 0 6 rfl) (hvF ((Fr.grow bl K.grow).mono (fun j q => .inl q))))
    · exact st_eqi 3 (.tmp 7) (.const (.int .i64 0)) rfl .i64 ((l.length : Int)) (0) (K.dep 1 7 rfl) rfl _ (by rw [eq_comm, decide_eq_true_iff]; omega)
    intro f2 w2 A hb
    replace x0 := A.t x0 rfl
    replace x1 := A.t x1 rfl
    have x8 := A.e 2 8 rfl rfl
    replace hd := HD.below hd hb
    replace bl := (Fr.grow bl hb)
    replace sd := A.sd sd
    clear A hb
    show Code.wp _ _ _ _ _
    refine wp_cond_true x8 ?_
    refine wp_seq ?_
    refine wr_a [.eq (.int .i64 0)] (by rw [sd.1]; kernel_rfl) ⟨fun hw ac u K => ?_, trivial⟩ ?_
    · exact st_assign (.const (.int .i64 0)) rfl rfl
    intro f3 w3 A hb
    replace x0 := A.t x0 rfl
    replace x1 := A.t x1 rfl
    replace x8 := A.t x8 rfl
    have x4 := A.e 0 4 rfl rfl
    replace hd := HD.below hd hb
    replace bl := (Fr.grow bl hb)
    replace sd := A.sd sd
    clear A hb
    clear x0
    clear x1
    clear x8
    show Code.wp _ _ _ _ _
    refine wp_ret ?_
    repeat (first | with_reducible refine then_ret ?_ | with_reducible refine block_ret ?_)
    exact bodyPost_ret (v := .int .i64 0) (ret_slot rfl f3 _ x4 _ _) sd.2 ⟨DD, 0, s, dn, rfl, .inl ⟨hor, rfl, rfl, rfl⟩, hd, gs.le (by omega), ⟨Ob.keep mw (bl.block _ (Ob.lt mw) hgM), hV⟩, hDD, bl.mono (fun j q => .inl q)⟩
  · skip
    have hlen : l.length ≠ 0 := fun q => hor (List.eq_nil_of_length_eq_zero q)
    subst hdn
    refine wr_a [.eq (vl), .eq (.int .i64 (l.length : Int)), .eq (.bool false)] (by rw [sd.1]; kernel_rfl) ⟨fun hw ac u K => ?_, fun hw ac u K => ?_, fun hw ac u K => ?_, trivial⟩ ?_
    · exact st_move (.tmp 1) rfl (K.t x1 rfl)
    · exact st_lensc (.tmp 6) rfl (fk_val (K.dep 0 6 rfl) (hvF ((Fr.grow bl K.grow).mono (fun j q => .inl q))))
    · exact st_eqi 3 (.tmp 7) (.const (.int .i64 0)) rfl .i64 ((l.length : Int)) (0) (K.dep 1 7 rfl) rfl _ (by rw [eq_comm, decide_eq_false_iff_not]; omega)
    intro f2 w2 A hb
    replace x0 := A.t x0 rfl
    replace x1 := A.t x1 rfl
    have x8 := A.e 2 8 rfl rfl
    replace hd := HD.below hd hb
    replace bl := (Fr.grow bl hb)
    replace sd := A.sd sd
    clear A hb
    show Code.wp _ _ _ _ _
    refine wp_cond_false x8 ?_
    refine wp_skip ?_
    show Code.wp _ _ _ _ _
    refine wp_seq ?_
    refine wp_seq ?_
    refine wr_a [.eq (.pointer (some ⟨gw, 0, none⟩)), .eq (.pointer (some ⟨gw, 0, none⟩)), .eq (.pointer (some ⟨gw, 1, none⟩)), .eq (.bool true)] (by rw [sd.1]; kernel_rfl) ⟨fun hw ac u K => ?_, fun hw ac u K => ?_, fun hw ac u K => ?_, fun hw ac u K => ?_, trivial⟩ ?_
    · exact st_move (.tmp 0) rfl (K.t x0 rfl)
    · exact st_nil (.tmp 9) rfl (K.dep 0 9 rfl)
    · exact st_field 62 1 (.tmp 10) rfl (K.dep 1 10 rfl) (by kernel_rfl)
    · exact st_loadc 4 (.tmp 11) rfl (by kernel_rfl) (K.dep 2 11 rfl) (Ob.cell (Ob.keep mw ((Fr.grow bl K.grow).block _ (Ob.lt mw) hgM)) 1 rfl)
    intro f3 w3 A hb
    replace x0 := A.t x0 rfl
    replace x1 := A.t x1 rfl
    replace x8 := A.t x8 rfl
    have x12 := A.e 3 12 rfl rfl
    replace hd := HD.below hd hb
    replace bl := (Fr.grow bl hb)
    replace sd := A.sd sd
    clear A hb
    clear x8
    show Code.wp _ _ _ _ _
    refine wp_cond_true x12 ?_
    refine wp_seq ?_
    refine wr_a [.eq (.int .i64 30)] (by rw [sd.1]; kernel_rfl) ⟨fun hw ac u K => ?_, trivial⟩ ?_
    · exact st_assign (.const (.int .i64 30)) rfl rfl
    intro f4 w4 A hb
    replace x0 := A.t x0 rfl
    replace x1 := A.t x1 rfl
    replace x12 := A.t x12 rfl
    have x4 := A.e 0 4 rfl rfl
    replace hd := HD.below hd hb
    replace bl := (Fr.grow bl hb)
    replace sd := A.sd sd
    clear A hb
    clear x0
    clear x1
    clear x12
    show Code.wp _ _ _ _ _
    refine wp_ret ?_
    repeat (first | with_reducible refine then_ret ?_ | with_reducible refine block_ret ?_)
    exact bodyPost_ret (v := .int .i64 30) (ret_slot rfl f4 _ x4 _ _) sd.2 ⟨DD, 30, s, true, rfl, .inr (.inl ⟨hor, rfl, rfl, rfl, rfl⟩), hd, gs.le (by omega), ⟨Ob.keep mw (bl.block _ (Ob.lt mw) hgM), hV⟩, hDD, bl.mono (fun j q => .inl q)⟩
  have hlen : l.length ≠ 0 := fun q => hor (List.eq_nil_of_length_eq_zero q)
  subst hdn
  refine wr_a [.eq (vl), .eq (.int .i64 (l.length : Int)), .eq (.bool false)] (by rw [sd.1]; kernel_rfl) ⟨fun hw ac u K => ?_, fun hw ac u K => ?_, fun hw ac u K => ?_, trivial⟩ ?_
  · exact st_move (.tmp 1) rfl (K.t x1 rfl)
  · exact st_lensc (.tmp 6) rfl (fk_val (K.dep 0 6 rfl) (hvF ((Fr.grow bl K.grow).mono (fun j q => .inl q))))
  · exact st_eqi 3 (.tmp 7) (.const (.int .i64 0)) rfl .i64 ((l.length : Int)) (0) (K.dep 1 7 rfl) rfl _ (by rw [eq_comm, decide_eq_false_iff_not]; omega)
  intro f2 w2 A hb
  replace x0 := A.t x0 rfl
  replace x1 := A.t x1 rfl
  have x8 := A.e 2 8 rfl rfl
  replace hd := HD.below hd hb
  replace bl := (Fr.grow bl hb)
  replace sd := A.sd sd
  clear A hb
  show Code.wp _ _ _ _ _
  refine wp_cond_false x8 ?_
  refine wp_skip ?_
  show Code.wp _ _ _ _ _
  refine wp_seq ?_
  refine wp_seq ?_
  refine wr_a [.eq (.pointer (some ⟨gw, 0, none⟩)), .eq (.pointer (some ⟨gw, 0, none⟩)), .eq (.pointer (some ⟨gw, 1, none⟩)), .eq (.bool false)] (by rw [sd.1]; kernel_rfl) ⟨fun hw ac u K => ?_, fun hw ac u K => ?_, fun hw ac u K => ?_, fun hw ac u K => ?_, trivial⟩ ?_
  · exact st_move (.tmp 0) rfl (K.t x0 rfl)
  · exact st_nil (.tmp 9) rfl (K.dep 0 9 rfl)
  · exact st_field 62 1 (.tmp 10) rfl (K.dep 1 10 rfl) (by kernel_rfl)
  · exact st_loadc 4 (.tmp 11) rfl (by kernel_rfl) (K.dep 2 11 rfl) (Ob.cell (Ob.keep mw ((Fr.grow bl K.grow).block _ (Ob.lt mw) hgM)) 1 rfl)
  intro f3 w3 A hb
  replace x0 := A.t x0 rfl
  replace x1 := A.t x1 rfl
  replace x8 := A.t x8 rfl
  have x12 := A.e 3 12 rfl rfl
  replace hd := HD.below hd hb
  replace bl := (Fr.grow bl hb)
  replace sd := A.sd sd
  clear A hb
  clear x8
  show Code.wp _ _ _ _ _
  refine wp_cond_false x12 ?_
  refine wp_skip ?_
  show Code.wp _ _ _ _ _
  refine wp_seq ?_
  refine wp_seq ?_
  refine wr_s [.eq (.pointer (some ⟨gw, 0, none⟩)), .eq (vl)] (by rw [sd.1]; kernel_rfl) ⟨fun hw ac u K => ?_, fun hw ac u K => ?_, trivial⟩ ?_
  · exact st_move (.tmp 0) rfl (K.t x0 rfl)
  · exact st_move (.tmp 1) rfl (K.t x1 rfl)
  intro f4 w4 A hb
  replace x0 := A.t x0 rfl
  replace x1 := A.t x1 rfl
  replace x12 := A.t x12 rfl
  have x13 := A.e 0 13 rfl rfl
  have x14 := A.e 1 14 rfl rfl
  replace hd := HD.below hd hb
  replace bl := (Fr.grow bl hb)
  replace sd := A.sd sd
  clear A hb
  clear x12
  refine wl_call 40 (.func 40) _ _ #[.pointer (some ⟨gw, 0, none⟩), vl] rfl 15 rfl (by rw [sd.1]; decide) rfl rfl (two_arg x13 x14) Tryz.enter40 (fun u W' => ∃ r, u = .int .i64 r ∧ WrongIs l n z r ∧ Below w4.heap.size w4 W') ((fk_xfits (Ob.keep mw (bl.block _ (Ob.lt mw) hgM)) hd gs (by omega) (by omega) (hvF (bl.mono (fun j q => .inl q)))).mono (by rintro e w' ⟨r, rfl, q⟩; exact ⟨_, rfl, r, rfl, q⟩)) ?_
  rintro f5 w5 df2 sz2 old2 ⟨r15, x15, hwr, hb⟩
  replace bl0 := bl
  replace x0 := tr old2 x0 rfl
  replace x1 := tr old2 x1 rfl
  replace x13 := tr old2 x13 rfl
  replace x14 := tr old2 x14 rfl
  replace hd := HD.below hd hb
  replace bl := (Fr.grow bl hb)
  replace sd := sd2 sz2 df2 sd
  replace bl0 := bl
  clear df2 sz2 old2 hb
  clear x13
  clear x14
  refine wl_one (.eq (.int .i64 r15)) rfl 5 rfl (by rw [sd.1]; decide) (st_assign (.tmp 15) rfl x15) ?_
  intro f6 w6 df2 sz2 old2 new2 hb
  replace x0 := tr old2 x0 rfl
  replace x1 := tr old2 x1 rfl
  replace x15 := tr old2 x15 rfl
  have x5 := Fk.e new2
  replace hd := HD.below hd hb
  replace bl := (Fr.grow bl hb)
  replace sd := sd2 sz2 df2 sd
  clear df2 sz2 old2 new2 hb
  refine wpList_nil ?_
  clear x15
  show Code.wp _ _ _ _ _
  refine wp_seq ?_
  by_cases hz0 : r15 = 0
  rotate_left
  · skip
    refine wr_a [.eq (.int .i64 r15), .eq (.bool true)] (by rw [sd.1]; kernel_rfl) ⟨fun hw ac u K => ?_, fun hw ac u K => ?_, trivial⟩ ?_
    · exact st_move (.tmp 5) rfl (K.t x5 rfl)
    · exact st_neqi 27 (.tmp 16) (.const (.int .i64 0)) rfl .i64 (r15) (0) (K.dep 0 16 rfl) rfl _ (by rw [eq_comm, decide_eq_true_iff]; exact hz0)
    intro f7 w7 A hb
    replace x0 := A.t x0 rfl
    replace x1 := A.t x1 rfl
    replace x5 := A.t x5 rfl
    have x17 := A.e 1 17 rfl rfl
    replace hd := HD.below hd hb
    replace bl := (Fr.grow bl hb)
    replace sd := A.sd sd
    clear A hb
    show Code.wp _ _ _ _ _
    refine wp_cond_true x17 ?_
    refine wp_seq ?_
    refine wr_a [.eq (.int .i64 r15), .eq (.int .i64 r15)] (by rw [sd.1]; kernel_rfl) ⟨fun hw ac u K => ?_, fun hw ac u K => ?_, trivial⟩ ?_
    · exact st_move (.tmp 5) rfl (K.t x5 rfl)
    · exact st_assign (.tmp 18) rfl (K.dep 0 18 rfl)
    intro f8 w8 A hb
    replace x0 := A.t x0 rfl
    replace x1 := A.t x1 rfl
    replace x5 := A.t x5 rfl
    replace x17 := A.t x17 rfl
    have x4 := A.e 1 4 rfl rfl
    replace hd := HD.below hd hb
    replace bl := (Fr.grow bl hb)
    replace sd := A.sd sd
    clear A hb
    clear x0
    clear x1
    clear x5
    clear x17
    show Code.wp _ _ _ _ _
    refine wp_ret ?_
    repeat (first | with_reducible refine then_ret ?_ | with_reducible refine block_ret ?_)
    exact bodyPost_ret (v := .int .i64 r15) (ret_slot rfl f8 _ x4 _ _) sd.2 ⟨DD, r15, s, false, rfl, .inr (.inr (.inl ⟨hor, rfl, hz0, hwr, rfl, rfl⟩)), hd, gs.le (by omega), ⟨Ob.keep mw (bl.block _ (Ob.lt mw) hgM), hV⟩, hDD, bl.mono (fun j q => .inl q)⟩
  rw [hz0] at hwr
  have hgood : (∀ c ∈ l, ¬ BadAt n c) ∧ l.length ≤ roomN n z := by
    rcases hwr with ⟨q, _⟩ | ⟨q, ⟨q1, _⟩ | ⟨_, ⟨q1, _⟩ | ⟨_, q2⟩⟩⟩
    · exact absurd q (by decide)
    · exact absurd q1 (by decide)
    · exact absurd q1 (by decide)
    · exact ⟨q, q2⟩
  obtain ⟨hg1, hg2⟩ := hgood
  have hho := homN_le hn1
  have hg3 : ∀ c ∈ l, 0 ≤ c.p ∧ c.p ≤ 100000 := fun c hc => by have := hg1 c hc; unfold BadAt at this; omega
  have hroom : 16 + 8 * l.length ≤ z := by unfold roomN at hg2; omega
  refine wr_a [.eq (.int .i64 r15), .eq (.bool false)] (by rw [sd.1]; kernel_rfl) ⟨fun hw ac u K => ?_, fun hw ac u K => ?_, trivial⟩ ?_
  · exact st_move (.tmp 5) rfl (K.t x5 rfl)
  · exact st_neqi 27 (.tmp 16) (.const (.int .i64 0)) rfl .i64 (r15) (0) (K.dep 0 16 rfl) rfl _ (by rw [hz0]; simp)
  intro f7 w7 A hb
  replace x0 := A.t x0 rfl
  replace x1 := A.t x1 rfl
  replace x5 := A.t x5 rfl
  have x17 := A.e 1 17 rfl rfl
  replace hd := HD.below hd hb
  replace bl := (Fr.grow bl hb)
  replace sd := A.sd sd
  clear A hb
  show Code.wp _ _ _ _ _
  refine wp_cond_false x17 ?_
  refine wp_skip ?_
  show Code.wp _ _ _ _ _
  refine wp_seq ?_
  refine wr_s [.eq (.pointer (some ⟨gw, 0, none⟩)), .eq (.pointer (some ⟨gw, 0, none⟩)), .eq (vl)] (by rw [sd.1]; kernel_rfl) ⟨fun hw ac u K => ?_, fun hw ac u K => ?_, fun hw ac u K => ?_, trivial⟩ ?_
  · exact st_move (.tmp 0) rfl (K.t x0 rfl)
  · exact st_move (.tmp 0) rfl (K.t x0 rfl)
  · exact st_move (.tmp 1) rfl (K.t x1 rfl)
  intro f8 w8 A hb
  replace x0 := A.t x0 rfl
  replace x1 := A.t x1 rfl
  replace x5 := A.t x5 rfl
  replace x17 := A.t x17 rfl
  have x19 := A.e 0 19 rfl rfl
  have x20 := A.e 1 20 rfl rfl
  have x21 := A.e 2 21 rfl rfl
  replace hd := HD.below hd hb
  replace bl := (Fr.grow bl hb)
  replace sd := A.sd sd
  clear A hb
  clear x0
  clear x1
  clear x5
  clear x17
  have hgD9 : ¬ DD gw := fun q => (hDD _ q).elim (fun q => hVD gw ((hV gw).2 rfl) q) (fun q => by have := Ob.lt mw; omega)
  have hglt := Nat.lt_of_lt_of_le (Ob.lt mw) bl.size
  refine wl_call 42 (.func 42) _ _ #[.pointer (some ⟨gw, 0, none⟩), vl] rfl 22 rfl (by rw [sd.1]; decide) rfl rfl (two_arg x20 x21) Tryz.enter42 (fun u W' => ∃ D2 : Nat → Prop, u = .int .i64 (wcom (homN n) (hdz z) s (prc l)).1 ∧ HD W' gd M D2 (wcom (homN n) (hdz z) s (prc l)).2 ∧ Gd (wcom (homN n) (hdz z) s (prc l)).2 n z (k9 + 5 * (4 * (l.length + 1))) ∧ (∀ j, D2 j → DD j ∨ w8.heap.size ≤ j) ∧ Fr M w8 W') ((fk_xcommit (Ob.keep mw (bl.block _ (Ob.lt mw) hgM)) hd gs hgM (by omega) hk (by omega) hroom (fun q => hvF ((bl.trans q).mono (fun j q => .inl q))) hg3).mono (by rintro e w' ⟨D', rfl, q1, q9, q2, q3⟩; exact ⟨_, rfl, D', rfl, q1, q9, q2, q3⟩)) ?_
  rintro f9 w9 df2 sz2 old2 ⟨D2, x22, hd2, gs2, hD2, O⟩
  have hgD2 : ¬ D2 gw := fun q => (hD2 _ q).elim hgD9 (fun q => by omega)
  replace hd := hd2
  clear hd2
  replace x19 := tr old2 x19 rfl
  replace x20 := tr old2 x20 rfl
  replace x21 := tr old2 x21 rfl
  obtain ⟨r22, hr22⟩ : ∃ r, r = (wcom (homN n) (hdz z) s (prc l)).1 := ⟨_, rfl⟩
  rw [← hr22] at x22
  replace hDD : ∀ j, D2 j → D j ∨ w.heap.size ≤ j := fun j q => (hD2 j q).elim (hDD j) (fun q => .inr (Nat.le_trans bl.size q))
  replace bl := bl.trans O
  replace bl0 := bl
  clear hD2 O
  obtain ⟨DD, rfl⟩ : ∃ E, E = D2 := ⟨_, rfl⟩
  replace sd := sd2 sz2 df2 sd
  clear df2 sz2 old2
  clear x20
  clear x21
  have hgD : ¬ DD gw := hgD2
  refine wl_call 41 (.func 41) _ _ #[.pointer (some ⟨gw, 0, none⟩), .int .i64 r22] rfl 23 rfl (by rw [sd.1]; decide) rfl rfl (two_arg x19 x22) Tryz.enter41 (fun u W' => u = .int .i64 r22 ∧ Ob W' gw 62 [.pointer (some ⟨gd, 0, none⟩), .bool (decide (r22 = 30))] ∧ Fr (fun j => j = gw) w9 W') (by
    have mwn := Ob.keep mw (bl.block _ (Ob.lt mw) hgM)
    by_cases q30 : r22 = 30
    · rw [q30]
      refine (fk_xtold_dn mwn).mono ?_
      rintro e w' ⟨rfl, q1, q2⟩
      exact ⟨_, rfl, rfl, q1, q2⟩
    · refine (fk_xtold_no (gw := gw) (w := w9) q30).mono ?_
      rintro e w' ⟨u, rfl, q1, q2⟩
      refine ⟨_, rfl, q1, ?_, Fr.of_below q2⟩
      rw [decide_eq_false q30]
      exact Ob.below mwn q2) ?_
  rintro f10 w10 df2 sz2 old2 ⟨x23, mw2, O⟩
  replace hd := hd.keep (fun j hj => O.block j (hd.lt j hj) (fun e => hgD (e ▸ hj))) O.size
  replace x19 := tr old2 x19 rfl
  replace x22 := tr old2 x22 rfl
  have bl9 : Fr (fun j => M j ∨ V j) w w10 := (bl.mono (fun j q => .inl q)).trans (O.mono (fun j q => .inr ((hV j).2 q)))
  replace sd := sd2 sz2 df2 sd
  clear df2 sz2 old2 O hgD
  clear bl bl0 mw
  have bl := bl9
  have bl0 := bl
  clear bl9
  clear x19
  clear x22
  refine wl_one (.eq (.int .i64 r22)) rfl 4 rfl (by rw [sd.1]; decide) (st_assign (.tmp 23) rfl x23) ?_
  intro f11 w11 df2 sz2 old2 new2 hb
  replace x23 := tr old2 x23 rfl
  have x4 := Fk.e new2
  replace hd := HD.below hd hb
  replace mw2 := Ob.below mw2 hb
  replace bl := (Fr.grow bl hb)
  replace sd := sd2 sz2 df2 sd
  clear df2 sz2 old2 new2 hb
  refine wpList_nil ?_
  clear x23
  show Code.wp _ _ _ _ _
  refine wp_ret ?_
  repeat (first | with_reducible refine then_ret ?_ | with_reducible refine block_ret ?_)
  exact bodyPost_ret (v := .int .i64 r22) (ret_slot rfl f11 _ x4 _ _) sd.2 ⟨DD, r22, (wcom (homN n) (hdz z) s (prc l)).2, decide (r22 = 30), rfl, .inr (.inr (.inr ⟨hor, rfl, hwr, by rw [hr22], rfl⟩)), hd, gs2.le (by omega), ⟨mw2, hV⟩, hDD, bl⟩
theorem fk_wread {w : World} {gw gd n z k9 : Nat} {V M D : Nat → Prop} {dn : Bool} {s : Dst} (hw : HW w gw gd V n z dn) (hd : HD w gd M D s) (gs : Gd s n z k9) (hVD : ∀ j, V j → ¬ D j) (hs : s.down = false) (i : Int) :
    Calls Tryz.prog 20 #[.pointer (some ⟨gw, 0, none⟩), .int .i64 i] w fun e w' => ∃ D' A b C, e = .returned (.tuple #[.slice A b.length C, .int .i64 (if dn = true then 30 else if i < 0 ∨ (homN n : Int) ≤ i then 11 else 0)]) ∧ b = (if dn = true then [] else if i < 0 ∨ (homN n : Int) ≤ i then [] else nowd s (1 + i.toNat)) ∧ (Fk.sl b).f (.slice A b.length C) w' ∧ HD w' gd M D' s ∧ HW w' gw gd V n z dn ∧ (∀ j, D' j → D j ∨ w.heap.size ≤ j) ∧ Fr M w w' := by
  obtain ⟨mw, hV⟩ := hw
  refine (fk_xread mw hd gs (fun q => hVD gw ((hV gw).2 rfl) (hd.sub gw q)) hs i).mono ?_
  rintro e w' ⟨D', A, b, C, h1, h2, h3, h4, h5, h6, h7⟩
  exact ⟨D', A, b, C, h1, h2, h3, h4, ⟨h5, hV⟩, h6, h7⟩
theorem fk_wcommit {w : World} {gw gd n z k9 : Nat} {V M D : Nat → Prop} {dn : Bool} {s : Dst} (hw : HW w gw gd V n z dn) (hd : HD w gd M D s) (gs : Gd s n z k9) (hVD : ∀ j, V j → ¬ D j) (h32 : 32 ≤ z) {l : List Cng} {vl : Value} (hk : k9 + 20 * (l.length + 1) ≤ 1000000) (hl : l.length ≤ 1000) (hvF : ∀ {W : World}, Fr (fun j => M j ∨ V j) w W → (Fk.sr RC l).f vl W) :
    Calls Tryz.prog 19 #[.pointer (some ⟨gw, 0, none⟩), vl] w fun e w' => ∃ D' r s' dn', e = .returned (.int .i64 r) ∧ ComIs n z s dn l r s' dn' ∧ HD w' gd M D' s' ∧ Gd s' n z (k9 + 20 * (l.length + 1)) ∧ HW w' gw gd V n z dn' ∧ (∀ j, D' j → D j ∨ w.heap.size ≤ j) ∧ Fr (fun j => M j ∨ V j) w w' := by
  obtain ⟨mw, hV⟩ := hw
  exact com_raw mw hV hVD (fun q => hVD gw ((hV gw).2 rfl) (hd.sub gw q)) hd gs h32 hk hl hvF
theorem fk_whomeN {w : World} {gw gd n z k9 : Nat} {V M D : Nat → Prop} {dn : Bool} {s : Dst} (hw : HW w gw gd V n z dn) (hd : HD w gd M D s) (gs : Gd s n z k9) : Calls Tryz.prog 17 #[.pointer (some ⟨gw, 0, none⟩)] w fun e w' => ∃ u, e = .returned u ∧ (Fk.eq (.int .i64 ((homN n : Nat) : Int))).f u w' ∧ Below w.heap.size w w' := fk_xhome hw.1 hd gs
theorem fk_wroomN {w : World} {gw gd n z k9 : Nat} {V M D : Nat → Prop} {dn : Bool} {s : Dst} (hw : HW w gw gd V n z dn) (hd : HD w gd M D s) (gs : Gd s n z k9) (h16 : 16 ≤ z) : Calls Tryz.prog 18 #[.pointer (some ⟨gw, 0, none⟩)] w fun e w' => ∃ u, e = .returned u ∧ (Fk.eq (.int .i64 ((roomN n z : Nat) : Int))).f u w' ∧ Below w.heap.size w w' := fk_xroom hw.1 hd gs h16
end Go.Proofs.YtakdpkoigijonaaGreat
namespace Go.Proofs.YtakdpkoigijonaaGreat
set_option maxRecDepth 100000
open Go.RowKit
theorem HW.below {w w' : World} {gw gd n z : Nat} {V : Nat → Prop} {dn : Bool} (h : HW w gw gd V n z dn) (hb : Below w.heap.size w w') : HW w' gw gd V n z dn := h.keep (fun j q => hb.block j (h.lt j q)) hb.size
theorem os_keep12 {B : Nat} {l : List (List (BitVec 8))} {v : Value} {w w' : World} (h : (Fk.os B l).f v w) (hk : ∀ g, B ≤ g → g < w.heap.size → w'.heap[g]? = w.heap[g]?) : (Fk.os B l).f v w' := by
  obtain ⟨h1, h2⟩ := h
  refine ⟨h1, ?_⟩
  rcases h2 with h2 | ⟨g, cap, cur, e, hB, hg, h3⟩
  · exact .inl h2
  · exact .inr ⟨g, cap, cur, e, hB, (hk g hB (Array.getElem?_eq_some_iff.1 hg).1).trans hg, h3⟩
theorem os_own12 {B : Nat} {l : List (List (BitVec 8))} {v : Value} {w : World} (h : (Fk.os B l).f v w) {j : Nat} (e : v.ownBlock = some j) : j < w.heap.size ∧ B ≤ j := by
  obtain ⟨_, h2⟩ := h
  rcases h2 with ⟨rfl, _⟩ | ⟨g, cap, cur, rfl, hB, hg, _⟩
  · cases e
  · cases e
    exact ⟨(Array.getElem?_eq_some_iff.1 hg).1, hB⟩
/-- What a wal tells of its home sectors. -/
def hml (s : Dst) (k : Nat) : List Byt := (List.range k).map fun i => nowd s (1 + i)
theorem hml_succ (s : Dst) (k : Nat) : hml s (k + 1) = hml s k ++ [nowd s (1 + k)] := by
  unfold hml
  rw [List.range_succ, List.map_append]
  rfl
theorem hml_len (s : Dst) (k : Nat) : (hml s k).length = k := by unfold hml; rw [List.length_map, List.length_range]
theorem fk_homes {w : World} {gw gd n z k9 m : Nat} {V M D : Nat → Prop} {s : Dst} (hw : HW w gw gd V n z false) (hd : HD w gd M D s) (gs : Gd s n z k9) (hs : s.down = false) (hVD : ∀ j, V j → ¬ D j) (hVlt : ∀ j, V j → j < w.heap.size) (hm : m ≤ homN n) (hm2 : m ≤ 1000) :
    Calls Tryz.prog 10 #[.pointer (some ⟨gw, 0, none⟩), .int .i64 (m : Int)] w fun e w' => ∃ D' v, e = .returned (.tuple #[v, .bool true]) ∧ (Fk.os w.heap.size (hml s m)).f v w' ∧ HD w' gd M D' s ∧ HW w' gw gd V n z false ∧ (∀ j, D' j → D j ∨ w.heap.size ≤ j) ∧ (∀ j, v.ownBlock = some j → ¬ D' j) ∧ Fr M w w' := by
  have hMlt : ∀ j, M j → j < w.heap.size := fun j q => hd.lt j (hd.sub j q)
  have hVM : ∀ j, V j → ¬ M j := fun j q m => hVD j q (hd.sub j m)
  obtain ⟨DD, hD9⟩ : ∃ E, E = D := ⟨_, rfl⟩
  rw [← hD9] at hd
  have hDD : ∀ j, DD j → D j ∨ w.heap.size ≤ j := fun j q => .inl (hD9 ▸ q)
  have hVDD : ∀ j, V j → ¬ DD j := fun j q m => hVD j q (hD9 ▸ m)
  clear hD9
  go_enter Tryz.func10, Tryz.ntmps10
  refine code_both (fun f w1 => f.tmps.size = 29 ∧ f.defers = [] ∧ f.eval (.tmp 0) = .pointer (some ⟨gw, 0, none⟩) ∧ f.eval (.tmp 1) = .int .i64 (m : Int) ∧ HD w1 gd M DD s ∧ HW w1 gw gd V n z false ∧ Fr (M) w (w1)) ⟨rfl, rfl, rfl, rfl, hd, hw, Fr.refl _ _⟩ ?_
  clear hd hw
  rintro f0 w0 ⟨sz, df, x0, x1, hd, hw, bl⟩
  have sd := And.intro sz df
  clear sz df
  have bl0 := bl
  refine wp_seq ?_
  refine wr_a [.eq (.slice none 0 0), .eq (.bool false)] (by rw [sd.1]; kernel_rfl) ⟨fun hw ac u K => ?_, fun hw ac u K => ?_, trivial⟩ ?_
  · exact st_assign (.const (.slice none 0 0)) rfl rfl
  · exact st_assign (.const (.bool false)) rfl rfl
  intro f1 w1 A hb
  replace x0 := A.t x0 rfl
  replace x1 := A.t x1 rfl
  replace hd := HD.below hd hb
  replace hw := HW.below hw hb
  replace bl := (Fr.grow bl hb)
  replace sd := A.sd sd
  clear A hb
  show Code.wp _ _ _ _ _
  refine wp_seq ?_
  refine wr_a [.eq (.slice none 0 0)] (by rw [sd.1]; kernel_rfl) ⟨fun hw ac u K => ?_, trivial⟩ ?_
  · exact st_assign (.const (.slice none 0 0)) rfl rfl
  intro f2 w2 A hb
  replace x0 := A.t x0 rfl
  replace x1 := A.t x1 rfl
  have x6 := A.e 0 6 rfl rfl
  replace hd := HD.below hd hb
  replace hw := HW.below hw hb
  replace bl := (Fr.grow bl hb)
  replace sd := A.sd sd
  clear A hb
  show Code.wp _ _ _ _ _
  refine wp_seq ?_
  refine wp_seq ?_
  have hos : (Fk.os w.heap.size (hml s 0)).f (.slice none 0 0) w2 := os_nil _ _
  refine wr_a [.eq (.int .i64 (m : Int)), .eq (.int .i64 0)] (by rw [sd.1]; kernel_rfl) ⟨fun hw ac u K => ?_, fun hw ac u K => ?_, trivial⟩ ?_
  · exact st_move (.tmp 1) rfl (K.t x1 rfl)
  · exact st_move (.const (.int .i64 0)) rfl rfl
  intro f3 w3 A hb
  replace x0 := A.t x0 rfl
  replace x1 := A.t x1 rfl
  replace x6 := A.t x6 rfl
  have x10 := A.e 0 10 rfl rfl
  have x11 := A.e 1 11 rfl rfl
  replace hd := HD.below hd hb
  replace hw := HW.below hw hb
  replace hos := Fk.mono _ _ _ _ hos hb
  replace bl := (Fr.grow bl hb)
  replace sd := A.sd sd
  clear A hb
  clear x1
  show Code.wp _ _ _ _ _
  refine wp_block ?_
  refine wp_loop (fun f v1 => ∃ (k : Nat) (DD : Nat → Prop) (vo : Value), k ≤ m ∧ (∀ j, vo.ownBlock = some j → ¬ DD j) ∧ (∀ j, DD j → D j ∨ w.heap.size ≤ j) ∧ (∀ j, V j → ¬ DD j) ∧ f.tmps.size = 29 ∧ f.defers = [] ∧ f.eval (.tmp 0) = .pointer (some ⟨gw, 0, none⟩) ∧ f.eval (.tmp 10) = .int .i64 (m : Int) ∧ f.eval (.tmp 11) = .int .i64 (k : Int) ∧ f.eval (.tmp 6) = vo ∧ (Fk.os w.heap.size (hml s k)).f vo v1 ∧ HD v1 gd M DD s ∧ HW v1 gw gd V n z false ∧ Fr (M) w (v1)) (fun f _ => m - (intOf (f.eval (.tmp 11))).toNat) ⟨0, DD, .slice none 0 0, Nat.zero_le _, (fun j e => by cases e), hDD, hVDD, sd.1, sd.2, x0, x10, x11, x6, hos, hd, hw, bl⟩ ?_
  intro f4 w4 hI
  clear sd bl bl0 x0 x6 x10 x11 hos hd hw
  obtain ⟨k, DD, vo, hk8, hvo, hDD, hVDD, sz, df, x0, x10, x11, x6, hos, hd, hw, bl⟩ := hI
  have sd := And.intro sz df
  clear sz df
  have bl0 := bl
  have hcnt := x11
  refine wp_seq ?_
  by_cases hlt : k < m
  rotate_left
  · skip
    have hkm : k = m := by omega
    rw [hkm] at hos
    refine wr_a [.eq (.bool false)] (by rw [sd.1]; kernel_rfl) ⟨fun hw ac u K => ?_, trivial⟩ ?_
    · exact st_lss 3 (.tmp 11) (.tmp 10) rfl .i64 ((k : Int)) ((m : Int)) (K.t x11 rfl) (K.t x10 rfl) _ (by rw [eq_comm, decide_eq_false_iff_not]; omega)
    intro f5 w5 A hb
    replace x0 := A.t x0 rfl
    replace x6 := A.t x6 rfl
    replace x10 := A.t x10 rfl
    replace x11 := A.t x11 rfl
    have x12 := A.e 0 12 rfl rfl
    replace hd := HD.below hd hb
    replace hw := HW.below hw hb
    replace hos := Fk.mono _ _ _ _ hos hb
    replace bl := (Fr.grow bl hb)
    replace sd := A.sd sd
    clear A hb
    show Code.wp _ _ _ _ _
    refine wp_seq ?_
    refine wp_cond_false x12 ?_
    refine wp_exit ?_
    show Code.wp _ _ _ _ _
    refine wp_seq ?_
    refine wr_a [.eq (vo), .eq (vo), .eq (.bool true)] (by rw [sd.1]; kernel_rfl) ⟨fun hw ac u K => ?_, fun hw ac u K => ?_, fun hw ac u K => ?_, trivial⟩ ?_
    · exact st_move (.tmp 6) rfl (K.t x6 rfl)
    · exact st_assign (.tmp 28) rfl (K.dep 0 28 rfl)
    · exact st_assign (.const (.bool true)) rfl rfl
    intro f6 w6 A hb
    replace x0 := A.t x0 rfl
    replace x6 := A.t x6 rfl
    replace x10 := A.t x10 rfl
    replace x11 := A.t x11 rfl
    replace x12 := A.t x12 rfl
    have x4 := A.e 1 4 rfl rfl
    have x5 := A.e 2 5 rfl rfl
    replace hd := HD.below hd hb
    replace hw := HW.below hw hb
    replace hos := Fk.mono _ _ _ _ hos hb
    replace bl := (Fr.grow bl hb)
    replace sd := A.sd sd
    clear A hb
    clear x12
    show Code.wp _ _ _ _ _
    refine wp_ret ?_
    repeat (first | with_reducible refine then_ret ?_ | with_reducible refine block_ret ?_)
    exact bodyPost_ret (v := .tuple #[vo, .bool true]) (ret_two rfl f6 _ _ x4 x5 _ _) sd.2 ⟨DD, vo, rfl, hos, hd, hw, hDD, hvo, bl⟩
  refine wr_a [.eq (.bool true)] (by rw [sd.1]; kernel_rfl) ⟨fun hw ac u K => ?_, trivial⟩ ?_
  · exact st_lss 3 (.tmp 11) (.tmp 10) rfl .i64 ((k : Int)) ((m : Int)) (K.t x11 rfl) (K.t x10 rfl) _ (by rw [eq_comm, decide_eq_true_iff]; omega)
  intro f5 w5 A hb
  replace x0 := A.t x0 rfl
  replace x6 := A.t x6 rfl
  replace x10 := A.t x10 rfl
  replace x11 := A.t x11 rfl
  have x12 := A.e 0 12 rfl rfl
  replace hd := HD.below hd hb
  replace hw := HW.below hw hb
  replace hos := Fk.mono _ _ _ _ hos hb
  replace bl := (Fr.grow bl hb)
  replace sd := A.sd sd
  clear A hb
  show Code.wp _ _ _ _ _
  refine wp_seq ?_
  refine wp_cond_true x12 ?_
  refine wp_skip ?_
  show Code.wp _ _ _ _ _
  refine wp_seq ?_
  refine wp_block ?_
  refine wp_seq ?_
  refine wr_a [.eq (.int .i64 (k : Int)), .eq (.int .i64 (k : Int))] (by rw [sd.1]; kernel_rfl) ⟨fun hw ac u K => ?_, fun hw ac u K => ?_, trivial⟩ ?_
  · exact st_move (.tmp 11) rfl (K.t x11 rfl)
  · exact st_assign (.tmp 13) rfl (K.dep 0 13 rfl)
  intro f6 w6 A hb
  replace x0 := A.t x0 rfl
  replace x6 := A.t x6 rfl
  replace x10 := A.t x10 rfl
  replace x11 := A.t x11 rfl
  replace x12 := A.t x12 rfl
  have x7 := A.e 1 7 rfl rfl
  replace hd := HD.below hd hb
  replace hw := HW.below hw hb
  replace hos := Fk.mono _ _ _ _ hos hb
  replace bl := (Fr.grow bl hb)
  replace sd := A.sd sd
  clear A hb
  clear x12
  show Code.wp _ _ _ _ _
  refine wp_seq ?_
  refine wr_s [.eq (.pointer (some ⟨gw, 0, none⟩)), .eq (.int .i64 (k : Int))] (by rw [sd.1]; kernel_rfl) ⟨fun hw ac u K => ?_, fun hw ac u K => ?_, trivial⟩ ?_
  · exact st_move (.tmp 0) rfl (K.t x0 rfl)
  · exact st_move (.tmp 7) rfl (K.t x7 rfl)
  intro f7 w7 A hb
  replace x0 := A.t x0 rfl
  replace x6 := A.t x6 rfl
  replace x10 := A.t x10 rfl
  replace x11 := A.t x11 rfl
  replace x7 := A.t x7 rfl
  have x15 := A.e 0 15 rfl rfl
  have x16 := A.e 1 16 rfl rfl
  replace hd := HD.below hd hb
  replace hw := HW.below hw hb
  replace hos := Fk.mono _ _ _ _ hos hb
  replace bl := (Fr.grow bl hb)
  replace sd := A.sd sd
  clear A hb
  clear x7
  refine wl_call 20 (.func 20) _ _ #[.pointer (some ⟨gw, 0, none⟩), .int .i64 (k : Int)] rfl 17 rfl (by rw [sd.1]; decide) rfl rfl (two_arg x15 x16) Tryz.enter20 (fun u W' => ∃ (D2 : Nat → Prop) (A : Option Addr) (C : Nat), u = .tuple #[.slice A (nowd s (1 + k)).length C, .int .i64 0] ∧ (Fk.sl (nowd s (1 + k))).f (.slice A (nowd s (1 + k)).length C) W' ∧ HD W' gd M D2 s ∧ HW W' gw gd V n z false ∧ (∀ j, D2 j → DD j ∨ w7.heap.size ≤ j) ∧ Fr M w7 W') ((fk_wread hw hd gs hVDD hs (k : Int)).mono (by
    rintro e w' ⟨D', A, b, C, rfl, hb, q1, q2, q3, q4, q5⟩
    rw [if_neg (by decide), if_neg (by omega)] at hb ⊢
    rw [Int.toNat_natCast] at hb
    subst hb
    exact ⟨_, rfl, D', A, C, rfl, q1, q2, q3, q4, q5⟩)) ?_
  rintro f8 w8 df2 sz2 old2 ⟨D2, A1, C1, x17, hv1, hd2, hw2, hD2, O⟩
  replace hd := hd2
  replace hw := hw2
  clear hd2 hw2
  replace x0 := tr old2 x0 rfl
  replace x6 := tr old2 x6 rfl
  replace x10 := tr old2 x10 rfl
  replace x11 := tr old2 x11 rfl
  replace x15 := tr old2 x15 rfl
  replace x16 := tr old2 x16 rfl
  have hoB : ∀ j, vo.ownBlock = some j → j < w7.heap.size := fun j e => (os_own12 hos e).1
  replace hos := os_keep12 hos (fun g hB hg => O.block g hg (fun q => by have := hMlt g q; omega))
  replace hvo : ∀ j, vo.ownBlock = some j → ¬ D2 j := fun j e q => (hD2 j q).elim (hvo j e) (fun q => by have := hoB j e; omega)
  clear hoB
  replace hVDD : ∀ j, V j → ¬ D2 j := fun j q m => (hD2 j m).elim (hVDD j q) (fun m => by have := hVlt j q; have := bl.size; omega)
  replace hDD : ∀ j, D2 j → D j ∨ w.heap.size ≤ j := fun j q => (hD2 j q).elim (hDD j) (fun q => .inr (Nat.le_trans bl.size q))
  replace bl := bl.trans O
  replace bl0 := bl
  clear hD2 O
  obtain ⟨DD, rfl⟩ : ∃ E, E = D2 := ⟨_, rfl⟩
  replace sd := sd2 sz2 df2 sd
  clear df2 sz2 old2
  clear x15
  clear x16
  refine wl_one (.eq (.tuple #[.slice A1 (nowd s (1 + k)).length C1, .int .i64 0])) rfl 14 rfl (by rw [sd.1]; decide) (st_move (.tmp 17) rfl x17) ?_
  intro f9 w9 df2 sz2 old2 new2 hb
  replace x0 := tr old2 x0 rfl
  replace x6 := tr old2 x6 rfl
  replace x10 := tr old2 x10 rfl
  replace x11 := tr old2 x11 rfl
  replace x17 := tr old2 x17 rfl
  have x14 := Fk.e new2
  replace hv1 := Fk.mono _ _ _ _ hv1 hb
  replace hd := HD.below hd hb
  replace hw := HW.below hw hb
  replace hos := Fk.mono _ _ _ _ hos hb
  replace bl := (Fr.grow bl hb)
  replace sd := sd2 sz2 df2 sd
  clear df2 sz2 old2 new2 hb
  clear x17
  refine wl_one (.eq (.slice A1 (nowd s (1 + k)).length C1)) rfl 18 rfl (by rw [sd.1]; decide) (st_extv (.tmp 14) 0 rfl x14 rfl) ?_
  intro f10 w10 df2 sz2 old2 new2 hb
  replace x0 := tr old2 x0 rfl
  replace x6 := tr old2 x6 rfl
  replace x10 := tr old2 x10 rfl
  replace x11 := tr old2 x11 rfl
  replace x14 := tr old2 x14 rfl
  have x18 := Fk.e new2
  replace hv1 := Fk.mono _ _ _ _ hv1 hb
  replace hd := HD.below hd hb
  replace hw := HW.below hw hb
  replace hos := Fk.mono _ _ _ _ hos hb
  replace bl := (Fr.grow bl hb)
  replace sd := sd2 sz2 df2 sd
  clear df2 sz2 old2 new2 hb
  refine wl_one (.eq (.int .i64 0)) rfl 19 rfl (by rw [sd.1]; decide) (st_extv (.tmp 14) 1 rfl x14 rfl) ?_
  intro f11 w11 df2 sz2 old2 new2 hb
  replace x0 := tr old2 x0 rfl
  replace x6 := tr old2 x6 rfl
  replace x10 := tr old2 x10 rfl
  replace x11 := tr old2 x11 rfl
  replace x14 := tr old2 x14 rfl
  replace x18 := tr old2 x18 rfl
  have x19 := Fk.e new2
  replace hv1 := Fk.mono _ _ _ _ hv1 hb
  replace hd := HD.below hd hb
  replace hw := HW.below hw hb
  replace hos := Fk.mono _ _ _ _ hos hb
  replace bl := (Fr.grow bl hb)
  replace sd := sd2 sz2 df2 sd
  clear df2 sz2 old2 new2 hb
  clear x14
  refine wl_one (.eq (.slice A1 (nowd s (1 + k)).length C1)) rfl 8 rfl (by rw [sd.1]; decide) (st_assign (.tmp 18) rfl x18) ?_
  intro f12 w12 df2 sz2 old2 new2 hb
  replace x0 := tr old2 x0 rfl
  replace x6 := tr old2 x6 rfl
  replace x10 := tr old2 x10 rfl
  replace x11 := tr old2 x11 rfl
  replace x18 := tr old2 x18 rfl
  replace x19 := tr old2 x19 rfl
  have x8 := Fk.e new2
  replace hv1 := Fk.mono _ _ _ _ hv1 hb
  replace hd := HD.below hd hb
  replace hw := HW.below hw hb
  replace hos := Fk.mono _ _ _ _ hos hb
  replace bl := (Fr.grow bl hb)
  replace sd := sd2 sz2 df2 sd
  clear df2 sz2 old2 new2 hb
  clear x18
  refine wl_one (.eq (.int .i64 0)) rfl 9 rfl (by rw [sd.1]; decide) (st_assign (.tmp 19) rfl x19) ?_
  intro f13 w13 df2 sz2 old2 new2 hb
  replace x0 := tr old2 x0 rfl
  replace x6 := tr old2 x6 rfl
  replace x10 := tr old2 x10 rfl
  replace x11 := tr old2 x11 rfl
  replace x19 := tr old2 x19 rfl
  replace x8 := tr old2 x8 rfl
  have x9 := Fk.e new2
  replace hv1 := Fk.mono _ _ _ _ hv1 hb
  replace hd := HD.below hd hb
  replace hw := HW.below hw hb
  replace hos := Fk.mono _ _ _ _ hos hb
  replace bl := (Fr.grow bl hb)
  replace sd := sd2 sz2 df2 sd
  clear df2 sz2 old2 new2 hb
  refine wpList_nil ?_
  clear x19
  show Code.wp _ _ _ _ _
  refine wp_seq ?_
  refine wp_seq ?_
  refine wr_a [.eq (.int .i64 0), .eq (.bool false)] (by rw [sd.1]; kernel_rfl) ⟨fun hw ac u K => ?_, fun hw ac u K => ?_, trivial⟩ ?_
  · exact st_move (.tmp 9) rfl (K.t x9 rfl)
  · exact st_neqi 27 (.tmp 20) (.const (.int .i64 0)) rfl .i64 (0) (0) (K.dep 0 20 rfl) rfl _ (by simp)
  intro f14 w14 A hb
  replace x0 := A.t x0 rfl
  replace x6 := A.t x6 rfl
  replace x10 := A.t x10 rfl
  replace x11 := A.t x11 rfl
  replace x8 := A.t x8 rfl
  replace x9 := A.t x9 rfl
  have x21 := A.e 1 21 rfl rfl
  replace hv1 := Fk.mono _ _ _ _ hv1 hb
  replace hd := HD.below hd hb
  replace hw := HW.below hw hb
  replace hos := Fk.mono _ _ _ _ hos hb
  replace bl := (Fr.grow bl hb)
  replace sd := A.sd sd
  clear A hb
  clear x9
  show Code.wp _ _ _ _ _
  refine wp_cond_false x21 ?_
  refine wp_skip ?_
  show Code.wp _ _ _ _ _
  refine wr_s [.eq (vo), .eq (.slice A1 (nowd s (1 + k)).length C1), .eq (.string (str (nowd s (1 + k)))), .os 0 [nowd s (1 + k)]] (by rw [sd.1]; kernel_rfl) ⟨fun hw ac u K => ?_, fun hw ac u K => ?_, fun hw ac u K => ?_, fun hw ac u K => ?_, trivial⟩ ?_
  · exact st_move (.tmp 6) rfl (K.t x6 rfl)
  · exact st_move (.tmp 8) rfl (K.t x8 rfl)
  · exact st_stra (.tmp 23) rfl (fk_val (K.dep 1 23 rfl) (Fk.mono _ _ _ _ hv1 K.grow))
  · exact st_blds (.tmp 24) rfl (K.dep 2 24 rfl)
  intro f15 w15 A hb
  replace x0 := A.t x0 rfl
  replace x6 := A.t x6 rfl
  replace x10 := A.t x10 rfl
  replace x11 := A.t x11 rfl
  replace x8 := A.t x8 rfl
  replace x21 := A.t x21 rfl
  have x22 := A.e 0 22 rfl rfl
  have x25 : Fk.f (.os 0 [nowd s (1 + k)]) (f15.eval (.tmp 25)) w15 := A.has 3 25 rfl
  replace hv1 := Fk.mono _ _ _ _ hv1 hb
  replace hd := HD.below hd hb
  replace hw := HW.below hw hb
  replace hos := Fk.mono _ _ _ _ hos hb
  replace bl := (Fr.grow bl hb)
  replace sd := A.sd sd
  clear A hb
  clear x8
  clear x21
  have hdl := hd.lt
  have hwl := hw.lt
  refine wl_appS rfl (.tmp 22) (.tmp 25) rfl 26 rfl (by rw [sd.1]; decide) (B := w.heap.size) (P := hml s k) bl.size x22 hos x25 (by rw [hml_len]; omega) ?_
  intro f16 w16 v9 df2 sz2 old2 x26 hos9 hgr hown
  have hrowB : ∀ j, vo.ownBlock = some j → w.heap.size ≤ j := fun j e => (os_own12 hos e).2
  replace hd := hd.keep (fun j q => hgr.block j (hdl j q) (fun e => hvo j e.symm q)) hgr.size
  replace hw := hw.keep (fun j q => hgr.block j (hwl j q) (fun e => by have := hrowB j e.symm; have := hVlt j q; omega)) hgr.size
  have hv9 : ∀ j, v9.ownBlock = some j → ¬ DD j := fun j e q => hown.elim (fun h => hvo j (h ▸ e) q) (fun h => by rw [h] at e; cases e; exact absurd (hdl _ q) (Nat.lt_irrefl _))
  clear x25
  clear x22
  replace x0 := tr old2 x0 rfl
  replace x6 := tr old2 x6 rfl
  replace x10 := tr old2 x10 rfl
  replace x11 := tr old2 x11 rfl
  rw [← hml_succ] at hos9
  replace bl : Fr M w w16 := ⟨hgr.os.trans bl.os, hgr.tape.trans bl.tape, hgr.output.trans bl.output, Nat.le_trans bl.size hgr.size, fun j hj hn => (hgr.block j (Nat.lt_of_lt_of_le hj bl.size) (fun e => by have := hrowB j e.symm; omega)).trans (bl.block j hj hn)⟩
  replace bl0 := bl
  replace sd := sd2 sz2 df2 sd
  replace hos := hos9
  clear df2 sz2 old2 hos9 hgr hown hdl hwl hrowB hv1
  refine wl_one (.eq (v9)) rfl 6 rfl (by rw [sd.1]; decide) (st_assign (.tmp 26) rfl x26) ?_
  intro f17 w17 df2 sz2 old2 new2 hb
  replace x0 := tr old2 x0 rfl
  clear x6
  replace x10 := tr old2 x10 rfl
  replace x11 := tr old2 x11 rfl
  replace x26 := tr old2 x26 rfl
  have x6 := Fk.e new2
  replace hd := HD.below hd hb
  replace hw := HW.below hw hb
  replace hos := Fk.mono _ _ _ _ hos hb
  replace bl := (Fr.grow bl hb)
  replace sd := sd2 sz2 df2 sd
  clear df2 sz2 old2 new2 hb
  refine wpList_nil ?_
  clear x26
  show Code.wp _ _ _ _ _
  refine wr_s [.eq (.int .i64 ((k + 1 : Nat) : Int))] (by rw [sd.1]; kernel_rfl) ⟨fun hw ac u K => ?_, trivial⟩ ?_
  · exact st_addz (.tmp 11) (.const (.int .i64 1)) rfl _ _ _ (K.t x11 rfl) rfl (by omega) (by omega) (by omega)
  intro f18 w18 A hb
  replace x0 := A.t x0 rfl
  replace x10 := A.t x10 rfl
  replace x11 := A.t x11 rfl
  replace x6 := A.t x6 rfl
  have x27 := A.e 0 27 rfl rfl
  replace hd := HD.below hd hb
  replace hw := HW.below hw hb
  replace hos := Fk.mono _ _ _ _ hos hb
  replace bl := (Fr.grow bl hb)
  replace sd := A.sd sd
  clear A hb
  refine wl_one (.eq (.int .i64 ((k + 1 : Nat) : Int))) rfl 11 rfl (by rw [sd.1]; decide) (st_move (.tmp 27) rfl x27) ?_
  intro f19 w19 df2 sz2 old2 new2 hb
  replace x0 := tr old2 x0 rfl
  replace x10 := tr old2 x10 rfl
  clear x11
  replace x6 := tr old2 x6 rfl
  replace x27 := tr old2 x27 rfl
  have x11 := Fk.e new2
  replace hd := HD.below hd hb
  replace hw := HW.below hw hb
  replace hos := Fk.mono _ _ _ _ hos hb
  replace bl := (Fr.grow bl hb)
  replace sd := sd2 sz2 df2 sd
  clear df2 sz2 old2 new2 hb
  refine wpList_nil ?_
  clear x27
  show (∃ _, _) ∧ _
  refine ⟨⟨k + 1, DD, v9, by omega, hv9, hDD, hVDD, sd.1, sd.2, x0, x10, x11, x6, hos, hd, hw, bl⟩, ?_⟩
  rw [show f19.eval (.tmp 11) = _ from x11, show _ = _ from hcnt]
  first | (simp [intOf]; done) | (simp [intOf]; omega)
end Go.Proofs.YtakdpkoigijonaaGreat
