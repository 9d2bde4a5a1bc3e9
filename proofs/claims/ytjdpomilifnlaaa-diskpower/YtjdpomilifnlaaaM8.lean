/- DiskPower. -/
import Derived.Test.YtjdpomilifnlaaaM7
namespace Go.Proofs.Ytjdpomilifnlaaa
set_option maxRecDepth 100000
open Go.RowKit
/-- A disk that was armed with a number: what is left, what was done. -/
def Pwr (s : Dst) (arm : Int) : Prop := (0 ≤ arm → s.armed = true ∧ 0 ≤ s.left ∧ (s.done : Int) + s.left = arm ∧ (s.down = true → s.left = 0)) ∧ (arm < 0 → s.armed = false ∧ s.down = false)
theorem pw_cmd {s : Dst} {arm : Int} (p : Pwr s arm) (hd : s.down = false) : Pwr (cmd s).2 arm ∧ (cmd s).2.down = decide ((cmd s).1 = 30) := by
  unfold cmd
  split
  · rename_i h
    refine ⟨⟨fun h0 => ?_, fun h0 => ?_⟩, by simp⟩
    · obtain ⟨h1, h2, h3, h4⟩ := p.1 h0
      exact ⟨h1, h2, h3, fun _ => h.2⟩
    · have := (p.2 h0).1
      rw [h.1] at this
      cases this
  · rename_i h
    refine ⟨⟨fun h0 => ?_, fun h0 => ?_⟩, by simp [hd]⟩
    · obtain ⟨h1, h2, h3, h4⟩ := p.1 h0
      have h5 : s.left ≠ 0 := fun e => h ⟨h1, e⟩
      refine ⟨h1, ?_, ?_, fun e => ?_⟩
      · simp only [h1, if_true]
        omega
      · simp only [h1, if_true]
        omega
      · simp only [hd] at e
        cases e
    · exact p.2 h0
theorem pw_wrt {s : Dst} {arm : Int} (p : Pwr s arm) (i : Int) (b : List (BitVec 8)) : Pwr (wrt s i b).2 arm ∧ (s.down = true → (wrt s i b).1 = 30) ∧ (wrt s i b).2.down = decide ((wrt s i b).1 = 30) := by
  unfold wrt
  split
  · rename_i h
    exact ⟨p, fun _ => rfl, by simp [h]⟩
  · rename_i h
    have h := Bool.eq_false_iff.2 h
    split
    · exact ⟨p, (fun e => by rw [h] at e; cases e), by simp [h]⟩
    · split
      · exact ⟨p, (fun e => by rw [h] at e; cases e), by simp [h]⟩
      · obtain ⟨q1, q2⟩ := pw_cmd (s := { s with cch := s.cch.set i.toNat b }) p h
        exact ⟨q1, (fun e => by rw [h] at e; cases e), q2⟩
theorem pw_flu {s : Dst} {arm : Int} (p : Pwr s arm) : Pwr (flu s).2 arm ∧ (s.down = true → (flu s).1 = 30) ∧ (flu s).2.down = decide ((flu s).1 = 30) := by
  unfold flu
  split
  · rename_i h
    exact ⟨p, fun _ => rfl, by simp [h]⟩
  · rename_i h
    have h := Bool.eq_false_iff.2 h
    obtain ⟨q1, q2⟩ := pw_cmd p h
    split
    · exact ⟨q1, (fun e => by rw [h] at e; cases e), q2⟩
    · exact ⟨q1, (fun e => by rw [h] at e; cases e), q2⟩
theorem pw_rd {s : Dst} {arm : Int} (p : Pwr s arm) (i : Int) : Pwr s arm ∧ (s.down = true → (rd s i).1 = 30) ∧ s.down = decide ((rd s i).1 = 30) := by
  refine ⟨p, fun h => by unfold rd; rw [if_pos h], ?_⟩
  unfold rd
  split
  · rename_i h
    simp [h]
  · rename_i h
    have h := Bool.eq_false_iff.2 h
    split <;> simp [h]
theorem flu_crs (s : Dst) (l : List Int) : (flu (crs s l)).1 = 0 := by simp [flu, crs, cmd]
theorem power_law {l : List Opn} {arm : Int} {v : Value} (harm : arm ≤ 9223372036854775807) (hln : l.length ≤ maxLen) (w : World) (hv : (Fk.ol l).f v w) :
    Calls Try.prog 6 #[v, .int .i64 arm] w fun e w' => e = .returned (.bool true) ∧ Below w.heap.size w w' := by
  go_enter Try.func6, Try.ntmps6
  refine code_both (fun f w1 => f.tmps.size = 109 ∧ f.defers = [] ∧ f.eval (.tmp 0) = v ∧ f.eval (.tmp 1) = .int .i64 arm ∧ Below w.heap.size w (w1)) ⟨rfl, rfl, rfl, rfl, Below.refl _ _⟩ ?_
  rintro f0 w0 ⟨sz, df, x0, x1, bl⟩
  have sd := And.intro sz df
  clear sz df
  have bl0 := bl
  refine wp_seq ?_
  refine wr_a [.eq (.bool false)] (by rw [sd.1]; kernel_rfl) ⟨fun hw ac u K => ?_, trivial⟩ ?_
  · exact st_assign (.const (.bool false)) rfl rfl
  intro f1 w1 A hb
  replace x0 := A.t x0 rfl
  replace x1 := A.t x1 rfl
  replace bl := bgo bl hb
  replace sd := A.sd sd
  clear A hb
  show Code.wp _ _ _ _ _
  refine wp_seq ?_
  refine wr_s [] (by rw [sd.1]; kernel_rfl) trivial ?_
  intro f2 w2 A hb
  replace x0 := A.t x0 rfl
  replace x1 := A.t x1 rfl
  replace bl := bgo bl hb
  replace sd := A.sd sd
  clear A hb
  refine wl_call 8 (.func 8) _ _ #[.int .i64 ((8 : Nat) : Int), .int .i64 ((16 : Nat) : Int)] rfl 10 rfl (by rw [sd.1]; decide) rfl rfl rfl Try.enter8 (fun u W' => ∃ (gd : Nat) (M D : Nat → Prop), u = .pointer (some ⟨gd, 0, none⟩) ∧ HD W' gd M D (newd (8) (16)) ∧ (∀ j, D j → w2.heap.size ≤ j) ∧ Below w2.heap.size w2 W') ((fk_dnew (N := 8) (Z := 16) (by decide) (by decide) (by decide) (by decide) w2).mono (by rintro e w' ⟨gd, M, D, rfl, q⟩; exact ⟨_, rfl, gd, M, D, rfl, q⟩)) ?_
  rintro f3 w3 df2 sz2 old2 ⟨gd, M, DD, x10, hd, hD0, hb⟩
  have hDD : ∀ j, DD j → w.heap.size ≤ j := fun j q => Nat.le_trans bl.size (hD0 j q)
  clear hD0
  replace bl0 := bl
  replace x0 := tr old2 x0 rfl
  replace x1 := tr old2 x1 rfl
  replace bl := bgo bl hb
  replace sd := sd2 sz2 df2 sd
  clear df2 sz2 old2 hb
  refine wl_one (.eq (.pointer (some ⟨gd, 0, none⟩))) rfl 5 rfl (by rw [sd.1]; decide) (st_assign (.tmp 10) rfl x10) ?_
  intro f4 w4 df2 sz2 old2 new2 hb
  replace x0 := tr old2 x0 rfl
  replace x1 := tr old2 x1 rfl
  replace x10 := tr old2 x10 rfl
  have x5 := Fk.e new2
  replace hd := HD.below hd hb
  replace bl := bgo bl hb
  replace sd := sd2 sz2 df2 sd
  clear df2 sz2 old2 new2 hb
  refine wpList_nil ?_
  clear x10
  show Code.wp _ _ _ _ _
  refine wp_seq ?_
  refine wp_seq ?_
  by_cases hsmall : smallO l 60
  rotate_left
  · skip
    refine wr_a [.eq (.pointer (some ⟨gd, 0, none⟩)), .eq (.bool false), .eq (.bool false), .eq (v), .eq (.bool false), .eq (.bool true), .eq (.bool true)] (by rw [sd.1]; kernel_rfl) ⟨fun hw ac u K => ?_, fun hw ac u K => ?_, fun hw ac u K => ?_, fun hw ac u K => ?_, fun hw ac u K => ?_, fun hw ac u K => ?_, fun hw ac u K => ?_, trivial⟩ ?_
    · exact st_move (.tmp 5) rfl (K.t x5 rfl)
    · exact st_bin .eql 23 23 (.tmp 11) _ rfl (K.dep 0 11 rfl) rfl (by kernel_rfl)
    · exact st_move (.tmp 12) rfl (K.dep 1 12 rfl)
    · exact st_move (.tmp 0) rfl (K.t x0 rfl)
    · exact st_call 10 (.func 10) _ _ _ rfl rfl (arg2 (K.dep 3 14 rfl) rfl) Try.enter10 (fk_smallo hln (Fk.mono _ _ _ _ hv (bgo bl K.grow)) (by symm; rw [decide_eq_false_iff_not]; exact hsmall))
    · exact st_not (.tmp 15) rfl false (K.dep 4 15 rfl)
    · exact st_pick_f' (.tmp 13) (.const (.bool true)) (.tmp 16) rfl (K.dep 2 13 rfl) (K.dep 5 16 rfl)
    intro f5 w5 A hb
    replace x0 := A.t x0 rfl
    replace x1 := A.t x1 rfl
    replace x5 := A.t x5 rfl
    have x17 := A.e 6 17 rfl rfl
    replace hd := HD.below hd hb
    replace bl := bgo bl hb
    replace sd := A.sd sd
    clear A hb
    show Code.wp _ _ _ _ _
    refine wp_cond_true x17 ?_
    refine wp_seq ?_
    refine wr_a [.eq (.pointer (some ⟨gd, 0, none⟩)), .eq (.bool true), .eq (.bool true), .eq (.bool true), .eq (.bool true), .eq (.bool true)] (by rw [sd.1]; kernel_rfl) ⟨fun hw ac u K => ?_, fun hw ac u K => ?_, fun hw ac u K => ?_, fun hw ac u K => ?_, fun hw ac u K => ?_, fun hw ac u K => ?_, trivial⟩ ?_
    · exact st_move (.tmp 5) rfl (K.t x5 rfl)
    · exact st_bin .neq 23 23 (.tmp 18) _ rfl (K.dep 0 18 rfl) rfl (by kernel_rfl)
    · exact st_move (.tmp 19) rfl (K.dep 1 19 rfl)
    · exact st_call 9 (.func 9) _ _ _ rfl rfl rfl Try.enter9 (awake_any _)
    · exact st_pick_t (.tmp 20) (.tmp 21) (.const (.bool false)) rfl (K.dep 2 20 rfl) (K.dep 3 21 rfl)
    · exact st_assign (.tmp 22) rfl (K.dep 4 22 rfl)
    intro f6 w6 A hb
    replace x0 := A.t x0 rfl
    replace x1 := A.t x1 rfl
    replace x5 := A.t x5 rfl
    replace x17 := A.t x17 rfl
    have x4 := A.e 5 4 rfl rfl
    replace hd := HD.below hd hb
    replace bl := bgo bl hb
    replace sd := A.sd sd
    clear A hb
    clear x0
    clear x1
    clear x5
    clear x17
    show Code.wp _ _ _ _ _
    refine wp_ret ?_
    repeat (first | with_reducible refine then_ret ?_ | with_reducible refine block_ret ?_)
    exact bodyPost_ret (v := .bool true) (ret_slot rfl f6 _ x4 _ _) sd.2 ⟨rfl, bl⟩
  refine wr_a [.eq (.pointer (some ⟨gd, 0, none⟩)), .eq (.bool false), .eq (.bool false), .eq (v), .eq (.bool true), .eq (.bool false), .eq (.bool false)] (by rw [sd.1]; kernel_rfl) ⟨fun hw ac u K => ?_, fun hw ac u K => ?_, fun hw ac u K => ?_, fun hw ac u K => ?_, fun hw ac u K => ?_, fun hw ac u K => ?_, fun hw ac u K => ?_, trivial⟩ ?_
  · exact st_move (.tmp 5) rfl (K.t x5 rfl)
  · exact st_bin .eql 23 23 (.tmp 11) _ rfl (K.dep 0 11 rfl) rfl (by kernel_rfl)
  · exact st_move (.tmp 12) rfl (K.dep 1 12 rfl)
  · exact st_move (.tmp 0) rfl (K.t x0 rfl)
  · exact st_call 10 (.func 10) _ _ _ rfl rfl (arg2 (K.dep 3 14 rfl) rfl) Try.enter10 (fk_smallo hln (Fk.mono _ _ _ _ hv (bgo bl K.grow)) (by symm; rw [decide_eq_true_iff]; exact hsmall))
  · exact st_not (.tmp 15) rfl true (K.dep 4 15 rfl)
  · exact st_pick_f' (.tmp 13) (.const (.bool true)) (.tmp 16) rfl (K.dep 2 13 rfl) (K.dep 5 16 rfl)
  intro f5 w5 A hb
  replace x0 := A.t x0 rfl
  replace x1 := A.t x1 rfl
  replace x5 := A.t x5 rfl
  have x17 := A.e 6 17 rfl rfl
  replace hd := HD.below hd hb
  replace bl := bgo bl hb
  replace sd := A.sd sd
  clear A hb
  show Code.wp _ _ _ _ _
  refine wp_cond_false x17 ?_
  refine wp_skip ?_
  show Code.wp _ _ _ _ _
  refine wp_seq ?_
  refine wr_s [.eq (.pointer (some ⟨gd, 0, none⟩)), .eq (.int .i64 arm)] (by rw [sd.1]; kernel_rfl) ⟨fun hw ac u K => ?_, fun hw ac u K => ?_, trivial⟩ ?_
  · exact st_move (.tmp 5) rfl (K.t x5 rfl)
  · exact st_move (.tmp 1) rfl (K.t x1 rfl)
  intro f6 w6 A hb
  replace x0 := A.t x0 rfl
  replace x1 := A.t x1 rfl
  replace x5 := A.t x5 rfl
  replace x17 := A.t x17 rfl
  have x23 := A.e 0 23 rfl rfl
  have x24 := A.e 1 24 rfl rfl
  replace hd := HD.below hd hb
  replace bl := bgo bl hb
  replace sd := A.sd sd
  clear A hb
  clear x17
  refine wl_call 22 (.func 22) _ _ #[.pointer (some ⟨gd, 0, none⟩), .int .i64 arm] rfl 25 rfl (by rw [sd.1]; decide) rfl rfl (two_arg x23 x24) Try.enter22 (fun u W' => ∃ D2 : Nat → Prop, u = .tuple #[] ∧ HD W' gd M D2 (({ newd 8 16 with armed := decide (0 ≤ arm), left := arm } : Dst)) ∧ (∀ j, D2 j → DD j ∨ w6.heap.size ≤ j) ∧ Fr M w6 W') ((fk_darm hd arm harm).mono (by rintro e w' ⟨D2, rfl, q⟩; exact ⟨_, rfl, D2, rfl, q⟩)) ?_
  rintro f7 w7 df2 sz2 old2 ⟨D2, x25, hd2, hD2, O⟩
  have OM := O
  replace O := O.mono hd.sub
  replace x0 := tr old2 x0 rfl
  replace x1 := tr old2 x1 rfl
  replace x5 := tr old2 x5 rfl
  replace x23 := tr old2 x23 rfl
  replace x24 := tr old2 x24 rfl
  have bl9 := bl.trans (O.below bl.size hDD)
  replace hDD : ∀ j, D2 j → w.heap.size ≤ j := fun j q => (hD2 j q).elim (hDD j) (fun q => Nat.le_trans bl.size q)
  replace bl := bl9
  replace bl0 := bl
  replace hd := hd2
  replace sd := sd2 sz2 df2 sd
  clear df2 sz2 old2 hd2 bl9
  clear O OM hD2
  clear DD
  obtain ⟨DD, rfl⟩ : ∃ E, E = D2 := ⟨_, rfl⟩
  refine wpList_nil ?_
  clear x23
  clear x24
  clear x25
  have gs0 : Gd ({ newd 8 16 with armed := decide (0 ≤ arm), left := arm } : Dst) 8 16 0 := by have q := gd_new 8 16; exact ⟨q.has, q.cch, q.size, q.done, q.hl, q.cl⟩
  have hp0 : Pwr ({ newd 8 16 with armed := decide (0 ≤ arm), left := arm } : Dst) arm := ⟨fun h0 => ⟨decide_eq_true h0, h0, by show ((0 : Nat) : Int) + arm = arm; omega, fun e => by cases e⟩, fun h0 => ⟨decide_eq_false (by omega), rfl⟩⟩
  have hll : l.length ≤ 60 := by have := hsmall.2; omega
  show Code.wp _ _ _ _ _
  refine wp_seq ?_
  refine wp_seq ?_
  refine wr_a [.eq (v), .eq (.int .i64 (((l).length : Nat) : Int)), .eq (.int .i64 0)] (by rw [sd.1]; kernel_rfl) ⟨fun hw ac u K => ?_, fun hw ac u K => ?_, fun hw ac u K => ?_, trivial⟩ ?_
  · exact st_move (.tmp 0) rfl (K.t x0 rfl)
  · exact st_leno (.tmp 26) rfl (fk_val (K.dep 0 26 rfl) (Fk.mono _ _ _ _ hv (bgo bl K.grow)))
  · exact st_move (.const (.int .i64 0)) rfl rfl
  intro f8 w8 A hb
  replace x0 := A.t x0 rfl
  replace x1 := A.t x1 rfl
  replace x5 := A.t x5 rfl
  have x26 := A.e 0 26 rfl rfl
  have x27 := A.e 1 27 rfl rfl
  have x28 := A.e 2 28 rfl rfl
  replace hd := HD.below hd hb
  replace bl := bgo bl hb
  replace sd := A.sd sd
  clear A hb
  clear x0
  show Code.wp _ _ _ _ _
  refine wp_block ?_
  refine wp_loop (fun f v1 => ∃ (k : Nat) (s : Dst) (DD : Nat → Prop), k ≤ l.length ∧ Gd s 8 16 k ∧ Pwr s arm ∧ (∀ j, DD j → w.heap.size ≤ j) ∧ f.tmps.size = 109 ∧ f.defers = [] ∧ f.eval (.tmp 1) = .int .i64 arm ∧ f.eval (.tmp 5) = .pointer (some ⟨gd, 0, none⟩) ∧ f.eval (.tmp 26) = v ∧ f.eval (.tmp 27) = .int .i64 (((l).length : Nat) : Int) ∧ f.eval (.tmp 28) = .int .i64 (k : Int) ∧ HD v1 gd M DD s ∧ Below w.heap.size w (v1)) (fun f _ => l.length - (intOf (f.eval (.tmp 28))).toNat) ⟨0, ({ newd 8 16 with armed := decide (0 ≤ arm), left := arm } : Dst), DD, Nat.zero_le _, gs0, hp0, hDD, sd.1, sd.2, x1, x5, x26, x27, x28, hd, bl⟩ ?_
  intro f9 w9 hI
  clear sd bl bl0 x1 x5 x26 x27 x28 hd
  obtain ⟨k, s, DD, hk9, gs, hpw, hDD, sz, df, x1, x5, x26, x27, x28, hd, bl⟩ := hI
  have sd := And.intro sz df
  clear sz df
  have bl0 := bl
  have hcnt := x28
  clear gs0 hp0
  refine wp_seq ?_
  by_cases hlt : k < l.length
  rotate_left
  · skip
    refine wr_a [.eq (.bool false)] (by rw [sd.1]; kernel_rfl) ⟨fun hw ac u K => ?_, trivial⟩ ?_
    · exact st_lss 3 (.tmp 28) (.tmp 27) rfl .i64 ((k : Int)) ((((l).length : Nat) : Int)) (K.t x28 rfl) (K.t x27 rfl) _ (by rw [eq_comm, decide_eq_false_iff_not]; exact fun h => hlt (Int.ofNat_lt.1 h))
    intro f10 w10 A hb
    replace x1 := A.t x1 rfl
    replace x5 := A.t x5 rfl
    replace x26 := A.t x26 rfl
    replace x27 := A.t x27 rfl
    replace x28 := A.t x28 rfl
    have x29 := A.e 0 29 rfl rfl
    replace hd := HD.below hd hb
    replace bl := bgo bl hb
    replace sd := A.sd sd
    clear A hb
    show Code.wp _ _ _ _ _
    refine wp_seq ?_
    refine wp_cond_false x29 ?_
    refine wp_exit ?_
    show Code.wp _ _ _ _ _
    refine wp_seq ?_
    refine wp_seq ?_
    clear x26
    clear x27
    clear x28
    cases hw9 : s.down
    rotate_left
    · skip
      have ha9 : (s.done : Int) = arm := by
        by_cases h0 : 0 ≤ arm
        · have q := hpw.1 h0
          have := q.2.2.2 hw9
          omega
        · have := (hpw.2 (by omega)).2
          rw [hw9] at this
          cases this
      refine wr_a [.eq (.pointer (some ⟨gd, 0, none⟩)), .eq (.bool true), .eq (.bool true), .eq (.pointer (some ⟨gd, 0, none⟩)), .eq (.int .i64 (s.done : Int)), .eq (.int .i64 arm), .eq (.bool false), .eq (.bool false)] (by rw [sd.1]; kernel_rfl) ⟨fun hw ac u K => ?_, fun hw ac u K => ?_, fun hw ac u K => ?_, fun hw ac u K => ?_, fun hw ac u K => ?_, fun hw ac u K => ?_, fun hw ac u K => ?_, fun hw ac u K => ?_, trivial⟩ ?_
      · exact st_move (.tmp 5) rfl (K.t x5 rfl)
      · exact st_call 23 (.func 23) _ _ _ rfl rfl (one_arg (K.dep 0 88 rfl)) Try.enter23 ((by have := fk_ddown (HD.below hd K.grow); rw [hw9] at this; exact this))
      · exact st_move (.tmp 89) rfl (K.dep 1 89 rfl)
      · exact st_move (.tmp 5) rfl (K.t x5 rfl)
      · exact st_call 24 (.func 24) _ _ _ rfl rfl (one_arg (K.dep 3 91 rfl)) Try.enter24 (fk_ddone (HD.below hd K.grow))
      · exact st_move (.tmp 1) rfl (K.t x1 rfl)
      · exact st_neqi 3 (.tmp 92) (.tmp 93) rfl .i64 ((s.done : Int)) (arm) (K.dep 4 92 rfl) (K.dep 5 93 rfl) _ (by rw [ha9]; simp)
      · exact st_pick_t (.tmp 90) (.tmp 94) (.const (.bool false)) rfl (K.dep 2 90 rfl) (K.dep 6 94 rfl)
      intro f11 w11 A hb
      replace x1 := A.t x1 rfl
      replace x5 := A.t x5 rfl
      replace x29 := A.t x29 rfl
      have x95 := A.e 7 95 rfl rfl
      replace hd := HD.below hd hb
      replace bl := bgo bl hb
      replace sd := A.sd sd
      clear A hb
      clear x29
      show Code.wp _ _ _ _ _
      refine wp_cond_false x95 ?_
      refine wp_skip ?_
      show Code.wp _ _ _ _ _
      refine wp_seq ?_
      refine wr_s [.eq (.pointer (some ⟨gd, 0, none⟩))] (by rw [sd.1]; kernel_rfl) ⟨fun hw ac u K => ?_, trivial⟩ ?_
      · exact st_move (.tmp 5) rfl (K.t x5 rfl)
      intro f12 w12 A hb
      replace x1 := A.t x1 rfl
      replace x5 := A.t x5 rfl
      replace x95 := A.t x95 rfl
      have x96 := A.e 0 96 rfl rfl
      replace hd := HD.below hd hb
      replace bl := bgo bl hb
      replace sd := A.sd sd
      clear A hb
      clear x95
      refine wl_call 14 (.func 14) _ _ #[.pointer (some ⟨gd, 0, none⟩), .slice none 0 0] rfl 97 rfl (by rw [sd.1]; decide) rfl rfl (two_arg x96 rfl) Try.enter14 (fun u W' => ∃ D2 : Nat → Prop, u = .tuple #[] ∧ HD W' gd M D2 (crs s []) ∧ (∀ j, D2 j → DD j ∨ w12.heap.size ≤ j) ∧ Fr M w12 W') ((fk_dcrash hd (by have := gs.has; omega) (is_nil _) (fun z hz => by cases hz) (by simp)).mono (by rintro e w' ⟨D2, rfl, q⟩; exact ⟨_, rfl, D2, rfl, q⟩)) ?_
      rintro f13 w13 df2 sz2 old2 ⟨D2, x97, hd2, hD2, O⟩
      have OM := O
      replace O := O.mono hd.sub
      replace x1 := tr old2 x1 rfl
      replace x5 := tr old2 x5 rfl
      replace x96 := tr old2 x96 rfl
      have bl9 := bl.trans (O.below bl.size hDD)
      replace hDD : ∀ j, D2 j → w.heap.size ≤ j := fun j q => (hD2 j q).elim (hDD j) (fun q => Nat.le_trans bl.size q)
      replace bl := bl9
      replace bl0 := bl
      replace hd := hd2
      replace sd := sd2 sz2 df2 sd
      clear df2 sz2 old2 hd2 bl9
      clear O OM hD2
      clear DD
      obtain ⟨DD, rfl⟩ : ∃ E, E = D2 := ⟨_, rfl⟩
      refine wpList_nil ?_
      clear x96
      clear x97
      show Code.wp _ _ _ _ _
      refine wp_seq ?_
      refine wr_s [.eq (.pointer (some ⟨gd, 0, none⟩)), .eq (.bool false), .eq (.bool true), .eq (.bool true), .eq (.pointer (some ⟨gd, 0, none⟩))] (by rw [sd.1]; kernel_rfl) ⟨fun hw ac u K => ?_, fun hw ac u K => ?_, fun hw ac u K => ?_, fun hw ac u K => ?_, fun hw ac u K => ?_, trivial⟩ ?_
      · exact st_move (.tmp 5) rfl (K.t x5 rfl)
      · exact st_call 23 (.func 23) _ _ _ rfl rfl (one_arg (K.dep 0 98 rfl)) Try.enter23 ((show Calls Try.prog 23 #[.pointer (some ⟨gd, 0, none⟩)] u (fun e w' => ∃ v, e = .returned v ∧ (Fk.eq (.bool false)).f v w' ∧ Below u.heap.size u w') from fk_ddown (HD.below hd K.grow)))
      · exact st_not (.tmp 99) rfl false (K.dep 1 99 rfl)
      · exact st_move (.tmp 100) rfl (K.dep 2 100 rfl)
      · exact st_move (.tmp 5) rfl (K.t x5 rfl)
      intro f14 w14 A hb
      replace x1 := A.t x1 rfl
      replace x5 := A.t x5 rfl
      have x101 := A.e 3 101 rfl rfl
      have x102 := A.e 4 102 rfl rfl
      replace hd := HD.below hd hb
      replace bl := bgo bl hb
      replace sd := A.sd sd
      clear A hb
      refine wl_callw 19 (.func 19) _ _ #[.pointer (some ⟨gd, 0, none⟩)] (want_of rfl rfl x101) 103 rfl (by rw [sd.1]; decide) rfl rfl (one_arg x102) Try.enter19 (fun u W' => ∃ D2 : Nat → Prop, u = .int .i64 0 ∧ HD W' gd M D2 ((flu (crs s [])).2) ∧ (∀ j, D2 j → DD j ∨ w14.heap.size ≤ j) ∧ Fr M w14 W') (((show Calls Try.prog 19 #[.pointer (some ⟨gd, 0, none⟩)] w14 (fun e w' => ∃ D', e = .returned (.int .i64 0) ∧ HD w' gd M D' (flu (crs s [])).2 ∧ _) from by have := fk_dflush hd (by have := gs.done; show s.done ≤ 1000000; omega) (by have := (gd_crs gs []).has; omega); rw [flu_crs] at this; exact this)).mono (by rintro e w' ⟨D2, rfl, q⟩; exact ⟨_, rfl, D2, rfl, q⟩)) ?_
      rintro f15 w15 df2 sz2 old2 ⟨D2, x103, hd2, hD2, O⟩
      have OM := O
      replace O := O.mono hd.sub
      replace x1 := tr old2 x1 rfl
      replace x5 := tr old2 x5 rfl
      replace x101 := tr old2 x101 rfl
      replace x102 := tr old2 x102 rfl
      have bl9 := bl.trans (O.below bl.size hDD)
      replace hDD : ∀ j, D2 j → w.heap.size ≤ j := fun j q => (hD2 j q).elim (hDD j) (fun q => Nat.le_trans bl.size q)
      replace bl := bl9
      replace bl0 := bl
      replace hd := hd2
      replace sd := sd2 sz2 df2 sd
      clear df2 sz2 old2 hd2 bl9
      clear O OM hD2
      clear DD
      obtain ⟨DD, rfl⟩ : ∃ E, E = D2 := ⟨_, rfl⟩
      clear x102
      refine wl_onew (.eq (.bool true)) (want_of rfl rfl x101) 104 rfl (by rw [sd.1]; decide) (st_eqi 37 (.tmp 103) (.const (.int .i64 0)) rfl .i64 (0) (0) x103 rfl _ (by rfl)) ?_
      intro f16 w16 df2 sz2 old2 new2 hb
      replace bl0 := bl
      replace x1 := tr old2 x1 rfl
      replace x5 := tr old2 x5 rfl
      replace x101 := tr old2 x101 rfl
      replace x103 := tr old2 x103 rfl
      have x104 := Fk.e new2
      replace hd := HD.below hd hb
      replace bl := bgo bl hb
      replace sd := sd2 sz2 df2 sd
      clear df2 sz2 old2 new2 hb
      clear x103
      refine wl_one (.eq (.bool true)) rfl 105 rfl (by rw [sd.1]; decide) (st_pick_t (.tmp 101) (.tmp 104) (.const (.bool false)) rfl x101 x104) ?_
      intro f17 w17 df2 sz2 old2 new2 hb
      replace x1 := tr old2 x1 rfl
      replace x5 := tr old2 x5 rfl
      replace x101 := tr old2 x101 rfl
      replace x104 := tr old2 x104 rfl
      have x105 := Fk.e new2
      replace hd := HD.below hd hb
      replace bl := bgo bl hb
      replace sd := sd2 sz2 df2 sd
      clear df2 sz2 old2 new2 hb
      clear x101
      clear x104
      refine wl_one (.eq (.bool true)) rfl 106 rfl (by rw [sd.1]; decide) (st_move (.tmp 105) rfl x105) ?_
      intro f18 w18 df2 sz2 old2 new2 hb
      replace x1 := tr old2 x1 rfl
      replace x5 := tr old2 x5 rfl
      replace x105 := tr old2 x105 rfl
      have x106 := Fk.e new2
      replace hd := HD.below hd hb
      replace bl := bgo bl hb
      replace sd := sd2 sz2 df2 sd
      clear df2 sz2 old2 new2 hb
      clear x105
      refine wl_onew (.eq (.bool true)) (want_of rfl rfl x106) 107 rfl (by rw [sd.1]; decide) (st_call 9 (.func 9) _ _ #[] rfl rfl rfl Try.enter9 (awake_any _)) ?_
      intro f19 w19 df2 sz2 old2 new2 hb
      replace bl0 := bl
      replace x1 := tr old2 x1 rfl
      replace x5 := tr old2 x5 rfl
      replace x106 := tr old2 x106 rfl
      have x107 := Fk.e new2
      replace hd := HD.below hd hb
      replace bl := bgo bl hb
      replace sd := sd2 sz2 df2 sd
      clear df2 sz2 old2 new2 hb
      refine wl_one (.eq (.bool true)) rfl 108 rfl (by rw [sd.1]; decide) (st_pick_t (.tmp 106) (.tmp 107) (.const (.bool false)) rfl x106 x107) ?_
      intro f20 w20 df2 sz2 old2 new2 hb
      replace x1 := tr old2 x1 rfl
      replace x5 := tr old2 x5 rfl
      replace x106 := tr old2 x106 rfl
      replace x107 := tr old2 x107 rfl
      have x108 := Fk.e new2
      replace hd := HD.below hd hb
      replace bl := bgo bl hb
      replace sd := sd2 sz2 df2 sd
      clear df2 sz2 old2 new2 hb
      clear x106
      clear x107
      refine wl_one (.eq (.bool true)) rfl 4 rfl (by rw [sd.1]; decide) (st_assign (.tmp 108) rfl x108) ?_
      intro f21 w21 df2 sz2 old2 new2 hb
      replace x1 := tr old2 x1 rfl
      replace x5 := tr old2 x5 rfl
      replace x108 := tr old2 x108 rfl
      have x4 := Fk.e new2
      replace hd := HD.below hd hb
      replace bl := bgo bl hb
      replace sd := sd2 sz2 df2 sd
      clear df2 sz2 old2 new2 hb
      refine wpList_nil ?_
      clear x108
      show Code.wp _ _ _ _ _
      refine wp_ret ?_
      repeat (first | with_reducible refine then_ret ?_ | with_reducible refine block_ret ?_)
      exact bodyPost_ret (v := .bool true) (ret_slot rfl f21 _ x4 _ _) sd.2 ⟨rfl, bl⟩
    refine wr_a [.eq (.pointer (some ⟨gd, 0, none⟩)), .eq (.bool false), .eq (.bool false), .any, .any, .any, .any, .eq (.bool false)] (by rw [sd.1]; kernel_rfl) ⟨fun hw ac u K => ?_, fun hw ac u K => ?_, fun hw ac u K => ?_, fun hw ac u K => ?_, fun hw ac u K => ?_, fun hw ac u K => ?_, fun hw ac u K => ?_, fun hw ac u K => ?_, trivial⟩ ?_
    · exact st_move (.tmp 5) rfl (K.t x5 rfl)
    · exact st_call 23 (.func 23) _ _ _ rfl rfl (one_arg (K.dep 0 88 rfl)) Try.enter23 ((by have := fk_ddown (HD.below hd K.grow); rw [hw9] at this; exact this))
    · exact st_move (.tmp 89) rfl (K.dep 1 89 rfl)
    · exact (Bool.false_ne_true hw).elim
    · exact (Bool.false_ne_true hw).elim
    · exact (Bool.false_ne_true hw).elim
    · exact (Bool.false_ne_true hw).elim
    · exact st_pick_f' (.tmp 90) (.tmp 94) (.const (.bool false)) rfl (K.dep 2 90 rfl) rfl
    intro f11 w11 A hb
    replace x1 := A.t x1 rfl
    replace x5 := A.t x5 rfl
    replace x29 := A.t x29 rfl
    have x95 := A.e 7 95 rfl rfl
    replace hd := HD.below hd hb
    replace bl := bgo bl hb
    replace sd := A.sd sd
    clear A hb
    clear x29
    show Code.wp _ _ _ _ _
    refine wp_cond_false x95 ?_
    refine wp_skip ?_
    show Code.wp _ _ _ _ _
    refine wp_seq ?_
    refine wr_s [.eq (.pointer (some ⟨gd, 0, none⟩))] (by rw [sd.1]; kernel_rfl) ⟨fun hw ac u K => ?_, trivial⟩ ?_
    · exact st_move (.tmp 5) rfl (K.t x5 rfl)
    intro f12 w12 A hb
    replace x1 := A.t x1 rfl
    replace x5 := A.t x5 rfl
    replace x95 := A.t x95 rfl
    have x96 := A.e 0 96 rfl rfl
    replace hd := HD.below hd hb
    replace bl := bgo bl hb
    replace sd := A.sd sd
    clear A hb
    clear x95
    refine wl_call 14 (.func 14) _ _ #[.pointer (some ⟨gd, 0, none⟩), .slice none 0 0] rfl 97 rfl (by rw [sd.1]; decide) rfl rfl (two_arg x96 rfl) Try.enter14 (fun u W' => ∃ D2 : Nat → Prop, u = .tuple #[] ∧ HD W' gd M D2 (crs s []) ∧ (∀ j, D2 j → DD j ∨ w12.heap.size ≤ j) ∧ Fr M w12 W') ((fk_dcrash hd (by have := gs.has; omega) (is_nil _) (fun z hz => by cases hz) (by simp)).mono (by rintro e w' ⟨D2, rfl, q⟩; exact ⟨_, rfl, D2, rfl, q⟩)) ?_
    rintro f13 w13 df2 sz2 old2 ⟨D2, x97, hd2, hD2, O⟩
    have OM := O
    replace O := O.mono hd.sub
    replace x1 := tr old2 x1 rfl
    replace x5 := tr old2 x5 rfl
    replace x96 := tr old2 x96 rfl
    have bl9 := bl.trans (O.below bl.size hDD)
    replace hDD : ∀ j, D2 j → w.heap.size ≤ j := fun j q => (hD2 j q).elim (hDD j) (fun q => Nat.le_trans bl.size q)
    replace bl := bl9
    replace bl0 := bl
    replace hd := hd2
    replace sd := sd2 sz2 df2 sd
    clear df2 sz2 old2 hd2 bl9
    clear O OM hD2
    clear DD
    obtain ⟨DD, rfl⟩ : ∃ E, E = D2 := ⟨_, rfl⟩
    refine wpList_nil ?_
    clear x96
    clear x97
    show Code.wp _ _ _ _ _
    refine wp_seq ?_
    refine wr_s [.eq (.pointer (some ⟨gd, 0, none⟩)), .eq (.bool false), .eq (.bool true), .eq (.bool true), .eq (.pointer (some ⟨gd, 0, none⟩))] (by rw [sd.1]; kernel_rfl) ⟨fun hw ac u K => ?_, fun hw ac u K => ?_, fun hw ac u K => ?_, fun hw ac u K => ?_, fun hw ac u K => ?_, trivial⟩ ?_
    · exact st_move (.tmp 5) rfl (K.t x5 rfl)
    · exact st_call 23 (.func 23) _ _ _ rfl rfl (one_arg (K.dep 0 98 rfl)) Try.enter23 ((show Calls Try.prog 23 #[.pointer (some ⟨gd, 0, none⟩)] u (fun e w' => ∃ v, e = .returned v ∧ (Fk.eq (.bool false)).f v w' ∧ Below u.heap.size u w') from fk_ddown (HD.below hd K.grow)))
    · exact st_not (.tmp 99) rfl false (K.dep 1 99 rfl)
    · exact st_move (.tmp 100) rfl (K.dep 2 100 rfl)
    · exact st_move (.tmp 5) rfl (K.t x5 rfl)
    intro f14 w14 A hb
    replace x1 := A.t x1 rfl
    replace x5 := A.t x5 rfl
    have x101 := A.e 3 101 rfl rfl
    have x102 := A.e 4 102 rfl rfl
    replace hd := HD.below hd hb
    replace bl := bgo bl hb
    replace sd := A.sd sd
    clear A hb
    refine wl_callw 19 (.func 19) _ _ #[.pointer (some ⟨gd, 0, none⟩)] (want_of rfl rfl x101) 103 rfl (by rw [sd.1]; decide) rfl rfl (one_arg x102) Try.enter19 (fun u W' => ∃ D2 : Nat → Prop, u = .int .i64 0 ∧ HD W' gd M D2 ((flu (crs s [])).2) ∧ (∀ j, D2 j → DD j ∨ w14.heap.size ≤ j) ∧ Fr M w14 W') (((show Calls Try.prog 19 #[.pointer (some ⟨gd, 0, none⟩)] w14 (fun e w' => ∃ D', e = .returned (.int .i64 0) ∧ HD w' gd M D' (flu (crs s [])).2 ∧ _) from by have := fk_dflush hd (by have := gs.done; show s.done ≤ 1000000; omega) (by have := (gd_crs gs []).has; omega); rw [flu_crs] at this; exact this)).mono (by rintro e w' ⟨D2, rfl, q⟩; exact ⟨_, rfl, D2, rfl, q⟩)) ?_
    rintro f15 w15 df2 sz2 old2 ⟨D2, x103, hd2, hD2, O⟩
    have OM := O
    replace O := O.mono hd.sub
    replace x1 := tr old2 x1 rfl
    replace x5 := tr old2 x5 rfl
    replace x101 := tr old2 x101 rfl
    replace x102 := tr old2 x102 rfl
    have bl9 := bl.trans (O.below bl.size hDD)
    replace hDD : ∀ j, D2 j → w.heap.size ≤ j := fun j q => (hD2 j q).elim (hDD j) (fun q => Nat.le_trans bl.size q)
    replace bl := bl9
    replace bl0 := bl
    replace hd := hd2
    replace sd := sd2 sz2 df2 sd
    clear df2 sz2 old2 hd2 bl9
    clear O OM hD2
    clear DD
    obtain ⟨DD, rfl⟩ : ∃ E, E = D2 := ⟨_, rfl⟩
    clear x102
    refine wl_onew (.eq (.bool true)) (want_of rfl rfl x101) 104 rfl (by rw [sd.1]; decide) (st_eqi 37 (.tmp 103) (.const (.int .i64 0)) rfl .i64 (0) (0) x103 rfl _ (by rfl)) ?_
    intro f16 w16 df2 sz2 old2 new2 hb
    replace bl0 := bl
    replace x1 := tr old2 x1 rfl
    replace x5 := tr old2 x5 rfl
    replace x101 := tr old2 x101 rfl
    replace x103 := tr old2 x103 rfl
    have x104 := Fk.e new2
    replace hd := HD.below hd hb
    replace bl := bgo bl hb
    replace sd := sd2 sz2 df2 sd
    clear df2 sz2 old2 new2 hb
    clear x103
    refine wl_one (.eq (.bool true)) rfl 105 rfl (by rw [sd.1]; decide) (st_pick_t (.tmp 101) (.tmp 104) (.const (.bool false)) rfl x101 x104) ?_
    intro f17 w17 df2 sz2 old2 new2 hb
    replace x1 := tr old2 x1 rfl
    replace x5 := tr old2 x5 rfl
    replace x101 := tr old2 x101 rfl
    replace x104 := tr old2 x104 rfl
    have x105 := Fk.e new2
    replace hd := HD.below hd hb
    replace bl := bgo bl hb
    replace sd := sd2 sz2 df2 sd
    clear df2 sz2 old2 new2 hb
    clear x101
    clear x104
    refine wl_one (.eq (.bool true)) rfl 106 rfl (by rw [sd.1]; decide) (st_move (.tmp 105) rfl x105) ?_
    intro f18 w18 df2 sz2 old2 new2 hb
    replace x1 := tr old2 x1 rfl
    replace x5 := tr old2 x5 rfl
    replace x105 := tr old2 x105 rfl
    have x106 := Fk.e new2
    replace hd := HD.below hd hb
    replace bl := bgo bl hb
    replace sd := sd2 sz2 df2 sd
    clear df2 sz2 old2 new2 hb
    clear x105
    refine wl_onew (.eq (.bool true)) (want_of rfl rfl x106) 107 rfl (by rw [sd.1]; decide) (st_call 9 (.func 9) _ _ #[] rfl rfl rfl Try.enter9 (awake_any _)) ?_
    intro f19 w19 df2 sz2 old2 new2 hb
    replace bl0 := bl
    replace x1 := tr old2 x1 rfl
    replace x5 := tr old2 x5 rfl
    replace x106 := tr old2 x106 rfl
    have x107 := Fk.e new2
    replace hd := HD.below hd hb
    replace bl := bgo bl hb
    replace sd := sd2 sz2 df2 sd
    clear df2 sz2 old2 new2 hb
    refine wl_one (.eq (.bool true)) rfl 108 rfl (by rw [sd.1]; decide) (st_pick_t (.tmp 106) (.tmp 107) (.const (.bool false)) rfl x106 x107) ?_
    intro f20 w20 df2 sz2 old2 new2 hb
    replace x1 := tr old2 x1 rfl
    replace x5 := tr old2 x5 rfl
    replace x106 := tr old2 x106 rfl
    replace x107 := tr old2 x107 rfl
    have x108 := Fk.e new2
    replace hd := HD.below hd hb
    replace bl := bgo bl hb
    replace sd := sd2 sz2 df2 sd
    clear df2 sz2 old2 new2 hb
    clear x106
    clear x107
    refine wl_one (.eq (.bool true)) rfl 4 rfl (by rw [sd.1]; decide) (st_assign (.tmp 108) rfl x108) ?_
    intro f21 w21 df2 sz2 old2 new2 hb
    replace x1 := tr old2 x1 rfl
    replace x5 := tr old2 x5 rfl
    replace x108 := tr old2 x108 rfl
    have x4 := Fk.e new2
    replace hd := HD.below hd hb
    replace bl := bgo bl hb
    replace sd := sd2 sz2 df2 sd
    clear df2 sz2 old2 new2 hb
    refine wpList_nil ?_
    clear x108
    show Code.wp _ _ _ _ _
    refine wp_ret ?_
    repeat (first | with_reducible refine then_ret ?_ | with_reducible refine block_ret ?_)
    exact bodyPost_ret (v := .bool true) (ret_slot rfl f21 _ x4 _ _) sd.2 ⟨rfl, bl⟩
  obtain ⟨oo, hook⟩ : ∃ p, l[k]? = some p := ⟨_, List.getElem?_eq_getElem hlt⟩
  have hboo : (Fk.sl oo.bs).f oo.vb w := (ol_ok hv hook).b
  have hloo : (Fk.is oo.ls).f oo.vl w := (ol_ok hv hook).l
  have hsm := o_small hsmall hook
  have hon := (ol_ok hv hook).n
  have how := (ol_ok hv hook).w
  refine wr_a [.eq (.bool true)] (by rw [sd.1]; kernel_rfl) ⟨fun hw ac u K => ?_, trivial⟩ ?_
  · exact st_lss 3 (.tmp 28) (.tmp 27) rfl .i64 ((k : Int)) ((((l).length : Nat) : Int)) (K.t x28 rfl) (K.t x27 rfl) _ (by rw [eq_comm, decide_eq_true_iff]; exact Int.ofNat_lt.2 hlt)
  intro f10 w10 A hb
  replace x1 := A.t x1 rfl
  replace x5 := A.t x5 rfl
  replace x26 := A.t x26 rfl
  replace x27 := A.t x27 rfl
  replace x28 := A.t x28 rfl
  have x29 := A.e 0 29 rfl rfl
  replace hd := HD.below hd hb
  replace bl := bgo bl hb
  replace sd := A.sd sd
  clear A hb
  show Code.wp _ _ _ _ _
  refine wp_seq ?_
  refine wp_cond_true x29 ?_
  refine wp_skip ?_
  show Code.wp _ _ _ _ _
  refine wp_seq ?_
  refine wp_block ?_
  refine wp_seq ?_
  refine wr_s [.oq oo, .eq (.agg ([.int .i64 oo.k, .int .i64 oo.s, .int .i64 oo.n, oo.vb, oo.vl] : List Value).toArray)] (by rw [sd.1]; kernel_rfl) ⟨fun hw ac u K => ?_, fun hw ac u K => ?_, trivial⟩ ?_
  · exact st_idxo (.tmp 26) (.tmp 28) rfl (fk_val (K.t x26 rfl) (Fk.mono _ _ _ _ hv (bgo bl K.grow))) k oo (K.t x28 rfl) hook
  · exact st_loado (.tmp 30) rfl (K.dep 0 30 rfl)
  intro f11 w11 A hb
  have S_hd := hd
  have hbS0 := Below.refl w10.heap.size w10
  have hbS := hb
  replace x1 := A.t x1 rfl
  replace x5 := A.t x5 rfl
  replace x26 := A.t x26 rfl
  replace x27 := A.t x27 rfl
  replace x28 := A.t x28 rfl
  replace x29 := A.t x29 rfl
  have x31 := A.e 1 31 rfl rfl
  replace hd := HD.below hd hb
  replace bl := bgo bl hb
  replace sd := A.sd sd
  clear A hb
  clear x29
  refine wl_one (.nw w11.heap.size 32 [.int .i64 0, .int .i64 0, .int .i64 0, .slice none 0 0, .slice none 0 0]) rfl 7 rfl (by rw [sd.1]; decide) (st_alloc 32 rfl _ _ (by kernel_rfl) (Nat.le_refl _)) ?_
  intro f12 w12 df2 sz2 old2 new2 hb
  replace hbS0 := hbS
  replace hbS := hbS.trans (Below.mono hb hbS.size)
  replace bl0 := bl
  replace x1 := tr old2 x1 rfl
  replace x5 := tr old2 x5 rfl
  replace x26 := tr old2 x26 rfl
  replace x27 := tr old2 x27 rfl
  replace x28 := tr old2 x28 rfl
  replace x31 := tr old2 x31 rfl
  have x7 : Fk.f (.nw w11.heap.size 32 [.int .i64 0, .int .i64 0, .int .i64 0, .slice none 0 0, .slice none 0 0]) (f12.eval (.tmp 7)) w12 := new2
  replace hd := HD.below hd hb
  replace bl := bgo bl hb
  replace sd := sd2 sz2 df2 sd
  clear df2 sz2 old2 new2 hb
  obtain ⟨g7, hg7, e7, m7⟩ := x7
  have x7 := e7
  clear e7
  have hw7 : w.heap.size ≤ g7 := Nat.le_trans bl0.size hg7
  have hs7 := Nat.le_trans hbS0.size hg7
  refine wl_str rfl 32 (.tmp 7) (.tmp 31) rfl rfl (g7) ([.int .i64 oo.k, .int .i64 oo.s, .int .i64 oo.n, oo.vb, oo.vl] : List Value).toArray x7 x31 32 _ m7 (by kernel_rfl) (by kernel_rfl) (by kernel_rfl) ?_
  replace m7 : Ob (w12.setRow g7 ([.int .i64 oo.k, .int .i64 oo.s, .int .i64 oo.n, oo.vb, oo.vl] : List Value).toArray) (g7) 32 ([.int .i64 oo.k, .int .i64 oo.s, .int .i64 oo.n, oo.vb, oo.vl]) := Ob.setRow m7 ([.int .i64 oo.k, .int .i64 oo.s, .int .i64 oo.n, oo.vb, oo.vl])
  replace hbS : Below _ _ (w12.setRow g7 ([.int .i64 oo.k, .int .i64 oo.s, .int .i64 oo.n, oo.vb, oo.vl] : List Value).toArray) := hbS.trans (below_setRow _ _ _ _ hs7)
  replace hd := HD.below S_hd hbS
  replace bl : Below w.heap.size w (w12.setRow g7 ([.int .i64 oo.k, .int .i64 oo.s, .int .i64 oo.n, oo.vb, oo.vl] : List Value).toArray) := bl.trans (below_setRow _ _ _ _ hw7)
  generalize w12.setRow g7 ([.int .i64 oo.k, .int .i64 oo.s, .int .i64 oo.n, oo.vb, oo.vl] : List Value).toArray = w13b at bl m7 hd hbS ⊢
  refine wpList_nil ?_
  clear hbS hbS0 S_hd
  clear x31
  show Code.wp _ _ _ _ _
  refine wp_seq ?_
  refine wr_a [.eq (.pointer (some ⟨gd, 0, none⟩)), .eq (.bool s.down), .eq (.bool s.down)] (by rw [sd.1]; kernel_rfl) ⟨fun hw ac u K => ?_, fun hw ac u K => ?_, fun hw ac u K => ?_, trivial⟩ ?_
  · exact st_move (.tmp 5) rfl (K.t x5 rfl)
  · exact st_call 23 (.func 23) _ _ _ rfl rfl (one_arg (K.dep 0 32 rfl)) Try.enter23 (fk_ddown (HD.below hd K.grow))
  · exact st_assign (.tmp 33) rfl (K.dep 1 33 rfl)
  intro f14 w14 A hb
  replace x1 := A.t x1 rfl
  replace x5 := A.t x5 rfl
  replace x26 := A.t x26 rfl
  replace x27 := A.t x27 rfl
  replace x28 := A.t x28 rfl
  replace x7 := A.t x7 rfl
  have x8 := A.e 2 8 rfl rfl
  replace m7 := Ob.below m7 hb
  replace hd := HD.below hd hb
  replace bl := bgo bl hb
  replace sd := A.sd sd
  clear A hb
  show Code.wp _ _ _ _ _
  refine wp_seq ?_
  refine wr_a [.eq (.int .i64 0)] (by rw [sd.1]; kernel_rfl) ⟨fun hw ac u K => ?_, trivial⟩ ?_
  · exact st_assign (.const (.int .i64 0)) rfl rfl
  intro f15 w15 A hb
  replace x1 := A.t x1 rfl
  replace x5 := A.t x5 rfl
  replace x26 := A.t x26 rfl
  replace x27 := A.t x27 rfl
  replace x28 := A.t x28 rfl
  replace x7 := A.t x7 rfl
  replace x8 := A.t x8 rfl
  replace m7 := Ob.below m7 hb
  replace hd := HD.below hd hb
  replace bl := bgo bl hb
  replace sd := A.sd sd
  clear A hb
  show Code.wp _ _ _ _ _
  refine wp_seq ?_
  refine wp_seq ?_
  refine wr_a [.eq (.pointer (some ⟨g7, 0, none⟩)), .eq (.int .i64 oo.k)] (by rw [sd.1]; kernel_rfl) ⟨fun hw ac u K => ?_, fun hw ac u K => ?_, trivial⟩ ?_
  · exact st_field 32 0 (.tmp 7) rfl (K.t x7 rfl) (by kernel_rfl)
  · exact st_loadc 3 (.tmp 34) rfl (by kernel_rfl) (K.dep 0 34 rfl) (Ob.cell (Ob.below m7 K.grow) 0 rfl)
  intro f16 w16 A hb
  replace x1 := A.t x1 rfl
  replace x5 := A.t x5 rfl
  replace x26 := A.t x26 rfl
  replace x27 := A.t x27 rfl
  replace x28 := A.t x28 rfl
  replace x7 := A.t x7 rfl
  replace x8 := A.t x8 rfl
  have x35 := A.e 1 35 rfl rfl
  replace m7 := Ob.below m7 hb
  replace hd := HD.below hd hb
  replace bl := bgo bl hb
  replace sd := A.sd sd
  clear A hb
  show Code.wp _ _ _ _ _
  refine wp_block ?_
  refine wp_seq ?_
  by_cases hk1 : oo.k = 1
  rotate_left
  · skip
    refine wr_a [.eq (.bool false), .eq (.bool false)] (by rw [sd.1]; kernel_rfl) ⟨fun hw ac u K => ?_, fun hw ac u K => ?_, trivial⟩ ?_
    · exact st_eqi 3 (.tmp 35) (.const (.int .i64 1)) rfl .i64 (oo.k) (1) (K.t x35 rfl) rfl _ (by symm; rw [decide_eq_false_iff_not]; exact hk1)
    · exact st_assign (.tmp 37) rfl (K.dep 0 37 rfl)
    intro f17 w17 A hb
    replace x1 := A.t x1 rfl
    replace x5 := A.t x5 rfl
    replace x26 := A.t x26 rfl
    replace x27 := A.t x27 rfl
    replace x28 := A.t x28 rfl
    replace x7 := A.t x7 rfl
    replace x8 := A.t x8 rfl
    replace x35 := A.t x35 rfl
    have x36 := A.e 1 36 rfl rfl
    replace m7 := Ob.below m7 hb
    replace hd := HD.below hd hb
    replace bl := bgo bl hb
    replace sd := A.sd sd
    clear A hb
    show Code.wp _ _ _ _ _
    refine wp_cond_false x36 ?_
    refine wp_seq ?_
    by_cases hk2 : oo.k = 2
    rotate_left
    · skip
      refine wr_a [.eq (.bool false), .eq (.bool false)] (by rw [sd.1]; kernel_rfl) ⟨fun hw ac u K => ?_, fun hw ac u K => ?_, trivial⟩ ?_
      · exact st_eqi 3 (.tmp 35) (.const (.int .i64 2)) rfl .i64 (oo.k) (2) (K.t x35 rfl) rfl _ (by symm; rw [decide_eq_false_iff_not]; exact hk2)
      · exact st_assign (.tmp 45) rfl (K.dep 0 45 rfl)
      intro f18 w18 A hb
      replace x1 := A.t x1 rfl
      replace x5 := A.t x5 rfl
      replace x26 := A.t x26 rfl
      replace x27 := A.t x27 rfl
      replace x28 := A.t x28 rfl
      replace x7 := A.t x7 rfl
      replace x8 := A.t x8 rfl
      replace x35 := A.t x35 rfl
      replace x36 := A.t x36 rfl
      have x44 := A.e 1 44 rfl rfl
      replace m7 := Ob.below m7 hb
      replace hd := HD.below hd hb
      replace bl := bgo bl hb
      replace sd := A.sd sd
      clear A hb
      clear x36
      show Code.wp _ _ _ _ _
      refine wp_cond_false x44 ?_
      refine wp_seq ?_
      by_cases hk3 : oo.k = 3
      rotate_left
      · skip
        refine wr_a [.eq (.bool false), .eq (.bool false)] (by rw [sd.1]; kernel_rfl) ⟨fun hw ac u K => ?_, fun hw ac u K => ?_, trivial⟩ ?_
        · exact st_eqi 3 (.tmp 35) (.const (.int .i64 3)) rfl .i64 (oo.k) (3) (K.t x35 rfl) rfl _ (by symm; rw [decide_eq_false_iff_not]; exact hk3)
        · exact st_assign (.tmp 49) rfl (K.dep 0 49 rfl)
        intro f19 w19 A hb
        replace x1 := A.t x1 rfl
        replace x5 := A.t x5 rfl
        replace x26 := A.t x26 rfl
        replace x27 := A.t x27 rfl
        replace x28 := A.t x28 rfl
        replace x7 := A.t x7 rfl
        replace x8 := A.t x8 rfl
        replace x35 := A.t x35 rfl
        replace x44 := A.t x44 rfl
        have x48 := A.e 1 48 rfl rfl
        replace m7 := Ob.below m7 hb
        replace hd := HD.below hd hb
        replace bl := bgo bl hb
        replace sd := A.sd sd
        clear A hb
        clear x35
        clear x44
        show Code.wp _ _ _ _ _
        refine wp_cond_false x48 ?_
        refine wp_exit ?_
        show Code.wp _ _ _ _ _
        refine wr_s [.eq (.int .i64 ((k + 1 : Nat) : Int))] (by rw [sd.1]; kernel_rfl) ⟨fun hw ac u K => ?_, trivial⟩ ?_
        · exact st_add (.tmp 28) (.const (.int .i64 1)) rfl (k) (1) (k + 1) (K.t x28 rfl) rfl (by omega) (by omega)
        intro f20 w20 A hb
        replace x1 := A.t x1 rfl
        replace x5 := A.t x5 rfl
        replace x26 := A.t x26 rfl
        replace x27 := A.t x27 rfl
        replace x28 := A.t x28 rfl
        replace x7 := A.t x7 rfl
        replace x8 := A.t x8 rfl
        replace x48 := A.t x48 rfl
        have x87 := A.e 0 87 rfl rfl
        replace m7 := Ob.below m7 hb
        replace hd := HD.below hd hb
        replace bl := bgo bl hb
        replace sd := A.sd sd
        clear A hb
        clear x7
        clear x8
        clear x48
        refine wl_one (.eq (.int .i64 ((k + 1 : Nat) : Int))) rfl 28 rfl (by rw [sd.1]; decide) (st_move (.tmp 87) rfl x87) ?_
        intro f21 w21 df2 sz2 old2 new2 hb
        replace x1 := tr old2 x1 rfl
        replace x5 := tr old2 x5 rfl
        replace x26 := tr old2 x26 rfl
        replace x27 := tr old2 x27 rfl
        clear x28
        replace x87 := tr old2 x87 rfl
        have x28 := Fk.e new2
        replace m7 := Ob.below m7 hb
        replace hd := HD.below hd hb
        replace bl := bgo bl hb
        replace sd := sd2 sz2 df2 sd
        clear df2 sz2 old2 new2 hb
        refine wpList_nil ?_
        clear x87
        clear m7
        show (∃ _, _) ∧ _
        refine ⟨⟨k + 1, s, DD, by omega, gs.le (Nat.le_succ _), hpw, hDD, sd.1, sd.2, x1, x5, x26, x27, x28, hd, bl⟩, ?_⟩
        rw [show f21.eval (.tmp 28) = _ from x28, show _ = _ from hcnt]
        first | (simp [intOf]; done) | (simp [intOf]; omega)
      refine wr_a [.eq (.bool true), .eq (.bool true)] (by rw [sd.1]; kernel_rfl) ⟨fun hw ac u K => ?_, fun hw ac u K => ?_, trivial⟩ ?_
      · exact st_eqi 3 (.tmp 35) (.const (.int .i64 3)) rfl .i64 (oo.k) (3) (K.t x35 rfl) rfl _ (by symm; rw [decide_eq_true_iff]; exact hk3)
      · exact st_assign (.tmp 49) rfl (K.dep 0 49 rfl)
      intro f19 w19 A hb
      replace x1 := A.t x1 rfl
      replace x5 := A.t x5 rfl
      replace x26 := A.t x26 rfl
      replace x27 := A.t x27 rfl
      replace x28 := A.t x28 rfl
      replace x7 := A.t x7 rfl
      replace x8 := A.t x8 rfl
      replace x35 := A.t x35 rfl
      replace x44 := A.t x44 rfl
      have x48 := A.e 1 48 rfl rfl
      replace m7 := Ob.below m7 hb
      replace hd := HD.below hd hb
      replace bl := bgo bl hb
      replace sd := A.sd sd
      clear A hb
      clear x35
      clear x44
      show Code.wp _ _ _ _ _
      refine wp_cond_true x48 ?_
      obtain ⟨er, bs, hrr⟩ : ∃ er bs, rd s oo.s = (er, bs) := ⟨_, _, rfl⟩
      refine wr_s [.eq (.pointer (some ⟨gd, 0, none⟩)), .eq (.pointer (some ⟨g7, 1, none⟩)), .eq (.int .i64 oo.s)] (by rw [sd.1]; kernel_rfl) ⟨fun hw ac u K => ?_, fun hw ac u K => ?_, fun hw ac u K => ?_, trivial⟩ ?_
      · exact st_move (.tmp 5) rfl (K.t x5 rfl)
      · exact st_field 32 1 (.tmp 7) rfl (K.t x7 rfl) (by kernel_rfl)
      · exact st_loadc 3 (.tmp 52) rfl (by kernel_rfl) (K.dep 1 52 rfl) (Ob.cell (Ob.below m7 K.grow) 1 rfl)
      intro f20 w20 A hb
      replace x1 := A.t x1 rfl
      replace x5 := A.t x5 rfl
      replace x26 := A.t x26 rfl
      replace x27 := A.t x27 rfl
      replace x28 := A.t x28 rfl
      replace x7 := A.t x7 rfl
      replace x8 := A.t x8 rfl
      replace x48 := A.t x48 rfl
      have x51 := A.e 0 51 rfl rfl
      have x53 := A.e 2 53 rfl rfl
      replace m7 := Ob.below m7 hb
      replace hd := HD.below hd hb
      replace bl := bgo bl hb
      replace sd := A.sd sd
      clear A hb
      clear x7
      clear x48
      refine wl_call 16 (.func 16) _ _ #[.pointer (some ⟨gd, 0, none⟩), .int .i64 oo.s] rfl 54 rfl (by rw [sd.1]; decide) rfl rfl (two_arg x51 x53) Try.enter16 (fun u W' => ∃ (D2 : Nat → Prop) (A : Option Addr) (C : Nat), u = .tuple #[.slice A (bs).length C, .int .i64 er] ∧ (Fk.sl (bs)).f (.slice A (bs).length C) W' ∧ (0 < (bs).length → ∃ g, A = some ⟨g, 0, none⟩ ∧ w20.heap.size ≤ g ∧ ¬ D2 g ∧ Wb W' g (bs).length) ∧ HD W' gd M D2 s ∧ (∀ j, D2 j → DD j ∨ w20.heap.size ≤ j) ∧ Fr M w20 W') ((show Calls Try.prog 16 #[.pointer (some ⟨gd, 0, none⟩), .int .i64 oo.s] w20 (fun e W' => ∃ (D2 : Nat → Prop) (A : Option Addr) (C : Nat), e = .returned (.tuple #[.slice A (bs).length C, .int .i64 er]) ∧ _) from by have := fk_dread hd oo.s; rw [show (rd s oo.s).1 = er from by rw [hrr], show (rd s oo.s).2 = bs from by rw [hrr]] at this; exact this).mono (by rintro e w' ⟨D2, A, C, rfl, q⟩; exact ⟨_, rfl, D2, A, C, rfl, q⟩)) ?_
      rintro f21 w21 df2 sz2 old2 ⟨D2, A1, C1, x54, hsl, hG0, hd2, hD2, O⟩
      have OM := O
      replace O := O.mono hd.sub
      replace x1 := tr old2 x1 rfl
      replace x5 := tr old2 x5 rfl
      replace x26 := tr old2 x26 rfl
      replace x27 := tr old2 x27 rfl
      replace x28 := tr old2 x28 rfl
      replace x8 := tr old2 x8 rfl
      replace x51 := tr old2 x51 rfl
      replace x53 := tr old2 x53 rfl
      clear m7
      have hO1 : Ob8 w.heap.size D2 (fun _ => False) (bs) A1 C1 w21 := ⟨hsl, fun q => by
        obtain ⟨g, h1, h2, h3, h4⟩ := hG0 q
        exact ⟨g, h1, Nat.le_trans bl.size h2, not_false, h3, h4⟩⟩
      clear hsl hG0
      have bl9 := bl.trans (O.below bl.size hDD)
      replace hDD : ∀ j, D2 j → w.heap.size ≤ j := fun j q => (hD2 j q).elim (hDD j) (fun q => Nat.le_trans bl.size q)
      replace bl := bl9
      replace bl0 := bl
      replace hd := hd2
      replace sd := sd2 sz2 df2 sd
      clear df2 sz2 old2 hd2 bl9
      clear O OM hD2
      clear DD
      obtain ⟨DD, rfl⟩ : ∃ E, E = D2 := ⟨_, rfl⟩
      clear x51
      clear x53
      refine wl_one (.eq (.tuple #[.slice A1 (bs).length C1, .int .i64 er])) rfl 50 rfl (by rw [sd.1]; decide) (st_move (.tmp 54) rfl x54) ?_
      intro f22 w22 df2 sz2 old2 new2 hb
      replace x1 := tr old2 x1 rfl
      replace x5 := tr old2 x5 rfl
      replace x26 := tr old2 x26 rfl
      replace x27 := tr old2 x27 rfl
      replace x28 := tr old2 x28 rfl
      replace x8 := tr old2 x8 rfl
      replace x54 := tr old2 x54 rfl
      have x50 := Fk.e new2
      replace hd := HD.below hd hb
      replace hO1 := Ob8.below hO1 hb
      replace bl := bgo bl hb
      replace sd := sd2 sz2 df2 sd
      clear df2 sz2 old2 new2 hb
      clear x54
      refine wl_one (.eq (.slice A1 (bs).length C1)) rfl 55 rfl (by rw [sd.1]; decide) (st_ext0 (.tmp 50) rfl x50 rfl) ?_
      intro f23 w23 df2 sz2 old2 new2 hb
      replace x1 := tr old2 x1 rfl
      replace x5 := tr old2 x5 rfl
      replace x26 := tr old2 x26 rfl
      replace x27 := tr old2 x27 rfl
      replace x28 := tr old2 x28 rfl
      replace x8 := tr old2 x8 rfl
      replace x50 := tr old2 x50 rfl
      have x55 := Fk.e new2
      replace hd := HD.below hd hb
      replace hO1 := Ob8.below hO1 hb
      replace bl := bgo bl hb
      replace sd := sd2 sz2 df2 sd
      clear df2 sz2 old2 new2 hb
      clear x55
      refine wl_one (.eq (.int .i64 er)) rfl 56 rfl (by rw [sd.1]; decide) (st_ext1 (.tmp 50) rfl x50 rfl) ?_
      intro f24 w24 df2 sz2 old2 new2 hb
      replace x1 := tr old2 x1 rfl
      replace x5 := tr old2 x5 rfl
      replace x26 := tr old2 x26 rfl
      replace x27 := tr old2 x27 rfl
      replace x28 := tr old2 x28 rfl
      replace x8 := tr old2 x8 rfl
      replace x50 := tr old2 x50 rfl
      have x56 := Fk.e new2
      replace hd := HD.below hd hb
      replace hO1 := Ob8.below hO1 hb
      replace bl := bgo bl hb
      replace sd := sd2 sz2 df2 sd
      clear df2 sz2 old2 new2 hb
      clear x50
      refine wl_one (.eq (.int .i64 er)) rfl 9 rfl (by rw [sd.1]; decide) (st_assign (.tmp 56) rfl x56) ?_
      intro f25 w25 df2 sz2 old2 new2 hb
      replace x1 := tr old2 x1 rfl
      replace x5 := tr old2 x5 rfl
      replace x26 := tr old2 x26 rfl
      replace x27 := tr old2 x27 rfl
      replace x28 := tr old2 x28 rfl
      replace x8 := tr old2 x8 rfl
      replace x56 := tr old2 x56 rfl
      have x9 := Fk.e new2
      replace hd := HD.below hd hb
      replace hO1 := Ob8.below hO1 hb
      replace bl := bgo bl hb
      replace sd := sd2 sz2 df2 sd
      clear df2 sz2 old2 new2 hb
      refine wpList_nil ?_
      clear x56
      have hp := pw_rd hpw oo.s
      have gs2 := gs.le (Nat.le_succ k)
      rw [hrr] at hp
      obtain ⟨E, rfl, rfl⟩ : ∃ E : Int × Dst, E.1 = er ∧ E.2 = s := ⟨(er, s), rfl, rfl⟩
      clear hO1
      show Code.wp _ _ _ _ _
      refine wp_seq ?_
      have hdf : arm < 0 → E.2.down = false := fun h => (hp.1.2 h).2
      have hdo : 0 ≤ arm → (E.2.done : Int) ≤ arm := fun h => by have := hp.1.1 h; omega
      have h4 : (E.2.down = true ∧ 0 ≤ arm) ∨ (E.2.down = true ∧ arm < 0) ∨ (E.2.down = false ∧ 0 ≤ arm) ∨ (E.2.down = false ∧ arm < 0) := by
        rcases Bool.eq_false_or_eq_true (E.2.down) with q | q <;> rcases Int.lt_or_le arm 0 with q2 | q2 <;> simp [q, q2] <;> omega
      rcases h4 with ⟨hw9, ha9⟩ | ⟨hw9, ha9⟩ | ⟨hw9, ha9⟩ | ⟨hw9, ha9⟩
      · skip
        rw [hw9] at x8
        refine wr_a [.eq (.bool true), .eq (.bool true), .eq (.int .i64 E.1), .eq (.bool false), .eq (.bool false), .eq (.bool false), .eq (.int .i64 arm), .eq (.bool true), .eq (.bool true), .eq (.pointer (some ⟨gd, 0, none⟩)), .eq (.int .i64 (E.2.done : Int)), .eq (.int .i64 arm), .eq (.bool false), .eq (.bool false), .eq (.bool false), .eq (.bool false), .eq (.int .i64 arm), .eq (.bool false), .eq (.bool false), .any, .any, .eq (.bool false), .eq (.bool false), .eq (.bool false), .eq (.pointer (some ⟨gd, 0, none⟩)), .eq (.bool E.2.down), .eq (.int .i64 E.1), .eq (.bool E.2.down), .eq (.bool false), .eq (.bool false)] (by rw [sd.1]; kernel_rfl) ⟨fun hw ac u K => ?_, fun hw ac u K => ?_, fun hw ac u K => ?_, fun hw ac u K => ?_, fun hw ac u K => ?_, fun hw ac u K => ?_, fun hw ac u K => ?_, fun hw ac u K => ?_, fun hw ac u K => ?_, fun hw ac u K => ?_, fun hw ac u K => ?_, fun hw ac u K => ?_, fun hw ac u K => ?_, fun hw ac u K => ?_, fun hw ac u K => ?_, fun hw ac u K => ?_, fun hw ac u K => ?_, fun hw ac u K => ?_, fun hw ac u K => ?_, fun hw ac u K => ?_, fun hw ac u K => ?_, fun hw ac u K => ?_, fun hw ac u K => ?_, fun hw ac u K => ?_, fun hw ac u K => ?_, fun hw ac u K => ?_, fun hw ac u K => ?_, fun hw ac u K => ?_, fun hw ac u K => ?_, fun hw ac u K => ?_, trivial⟩ ?_
        · exact st_move (.tmp 8) rfl (K.t x8 rfl)
        · exact st_move (.tmp 57) rfl (K.dep 0 57 rfl)
        · exact st_move (.tmp 9) rfl (K.t x9 rfl)
        · exact st_neqi 37 (.tmp 59) (.const (.int .i64 30)) rfl .i64 (E.1) (30) (K.dep 2 59 rfl) rfl _ (by symm; rw [decide_eq_false_iff_not]; exact (fun h => h (hp.2.1 hw9)))
        · exact st_pick_t (.tmp 58) (.tmp 60) (.const (.bool false)) rfl (K.dep 1 58 rfl) (K.dep 3 60 rfl)
        · exact st_move (.tmp 61) rfl (K.dep 4 61 rfl)
        · exact st_move (.tmp 1) rfl (K.t x1 rfl)
        · exact st_geq 3 (.tmp 63) (.const (.int .i64 0)) rfl .i64 (arm) (0) (K.dep 6 63 rfl) rfl _ (by rw [eq_comm, decide_eq_true_iff]; omega)
        · exact st_move (.tmp 64) rfl (K.dep 7 64 rfl)
        · exact st_move (.tmp 5) rfl (K.t x5 rfl)
        · exact st_call 24 (.func 24) _ _ _ rfl rfl (one_arg (K.dep 9 66 rfl)) Try.enter24 (fk_ddone (HD.below hd K.grow))
        · exact st_move (.tmp 1) rfl (K.t x1 rfl)
        · exact st_gtr 3 (.tmp 67) (.tmp 68) rfl .i64 ((E.2.done : Int)) (arm) (K.dep 10 67 rfl) (K.dep 11 68 rfl) _ (by have := hdo ha9; rw [eq_comm, decide_eq_false_iff_not]; omega)
        · exact st_pick_t (.tmp 65) (.tmp 69) (.const (.bool false)) rfl (K.dep 8 65 rfl) (K.dep 12 69 rfl)
        · exact st_pick_f' (.tmp 62) (.const (.bool true)) (.tmp 70) rfl (K.dep 5 62 rfl) (K.dep 13 70 rfl)
        · exact st_move (.tmp 71) rfl (K.dep 14 71 rfl)
        · exact st_move (.tmp 1) rfl (K.t x1 rfl)
        · exact st_lss 3 (.tmp 73) (.const (.int .i64 0)) rfl .i64 (arm) (0) (K.dep 16 73 rfl) rfl _ (by rw [eq_comm, decide_eq_false_iff_not]; omega)
        · exact st_move (.tmp 74) rfl (K.dep 17 74 rfl)
        · exact (Bool.false_ne_true hw).elim
        · exact (Bool.false_ne_true hw).elim
        · exact st_pick_f' (.tmp 75) (.tmp 77) (.const (.bool false)) rfl (K.dep 18 75 rfl) rfl
        · exact st_pick_f' (.tmp 72) (.const (.bool true)) (.tmp 78) rfl (K.dep 15 72 rfl) (K.dep 21 78 rfl)
        · exact st_move (.tmp 79) rfl (K.dep 22 79 rfl)
        · exact st_move (.tmp 5) rfl (K.t x5 rfl)
        · exact st_call 23 (.func 23) _ _ _ rfl rfl (one_arg (K.dep 24 81 rfl)) Try.enter23 (fk_ddown (HD.below hd K.grow))
        · exact st_move (.tmp 9) rfl (K.t x9 rfl)
        · exact st_eqi 37 (.tmp 83) (.const (.int .i64 30)) rfl .i64 (E.1) (30) (K.dep 26 83 rfl) rfl _ hp.2.2
        · exact st_neqb (.tmp 82) (.tmp 84) rfl E.2.down (K.dep 25 82 rfl) (K.dep 27 84 rfl)
        · exact st_pick_f' (.tmp 80) (.const (.bool true)) (.tmp 85) rfl (K.dep 23 80 rfl) (K.dep 28 85 rfl)
        intro f26 w26 A hb
        replace x1 := A.t x1 rfl
        replace x5 := A.t x5 rfl
        replace x26 := A.t x26 rfl
        replace x27 := A.t x27 rfl
        replace x28 := A.t x28 rfl
        replace x8 := A.t x8 rfl
        replace x9 := A.t x9 rfl
        have x86 := A.e 29 86 rfl rfl
        replace hd := HD.below hd hb
        replace bl := bgo bl hb
        replace sd := A.sd sd
        clear A hb
        clear x8
        clear x9
        show Code.wp _ _ _ _ _
        refine wp_cond_false x86 ?_
        refine wp_skip ?_
        show Code.wp _ _ _ _ _
        refine wr_s [.eq (.int .i64 ((k + 1 : Nat) : Int))] (by rw [sd.1]; kernel_rfl) ⟨fun hw ac u K => ?_, trivial⟩ ?_
        · exact st_add (.tmp 28) (.const (.int .i64 1)) rfl (k) (1) (k + 1) (K.t x28 rfl) rfl (by omega) (by omega)
        intro f27 w27 A hb
        replace x1 := A.t x1 rfl
        replace x5 := A.t x5 rfl
        replace x26 := A.t x26 rfl
        replace x27 := A.t x27 rfl
        replace x28 := A.t x28 rfl
        replace x86 := A.t x86 rfl
        have x87 := A.e 0 87 rfl rfl
        replace hd := HD.below hd hb
        replace bl := bgo bl hb
        replace sd := A.sd sd
        clear A hb
        clear x86
        refine wl_one (.eq (.int .i64 ((k + 1 : Nat) : Int))) rfl 28 rfl (by rw [sd.1]; decide) (st_move (.tmp 87) rfl x87) ?_
        intro f28 w28 df2 sz2 old2 new2 hb
        replace x1 := tr old2 x1 rfl
        replace x5 := tr old2 x5 rfl
        replace x26 := tr old2 x26 rfl
        replace x27 := tr old2 x27 rfl
        clear x28
        replace x87 := tr old2 x87 rfl
        have x28 := Fk.e new2
        replace hd := HD.below hd hb
        replace bl := bgo bl hb
        replace sd := sd2 sz2 df2 sd
        clear df2 sz2 old2 new2 hb
        refine wpList_nil ?_
        clear x87
        show (∃ _, _) ∧ _
        refine ⟨⟨k + 1, E.2, DD, by omega, gs2, hp.1, hDD, sd.1, sd.2, x1, x5, x26, x27, x28, hd, bl⟩, ?_⟩
        rw [show f28.eval (.tmp 28) = _ from x28, show _ = _ from hcnt]
        first | (simp [intOf]; done) | (simp [intOf]; omega)
      · skip
        rw [hw9] at x8
        refine wr_a [.eq (.bool true), .eq (.bool true), .eq (.int .i64 E.1), .eq (.bool false), .eq (.bool false), .eq (.bool false), .eq (.int .i64 arm), .eq (.bool false), .eq (.bool false), .any, .any, .any, .any, .eq (.bool false), .eq (.bool false), .eq (.bool false), .eq (.int .i64 arm), .eq (.bool true), .eq (.bool true), .eq (.pointer (some ⟨gd, 0, none⟩)), .eq (.bool false), .eq (.bool false), .eq (.bool false), .eq (.bool false), .eq (.pointer (some ⟨gd, 0, none⟩)), .eq (.bool E.2.down), .eq (.int .i64 E.1), .eq (.bool E.2.down), .eq (.bool false), .eq (.bool false)] (by rw [sd.1]; kernel_rfl) ⟨fun hw ac u K => ?_, fun hw ac u K => ?_, fun hw ac u K => ?_, fun hw ac u K => ?_, fun hw ac u K => ?_, fun hw ac u K => ?_, fun hw ac u K => ?_, fun hw ac u K => ?_, fun hw ac u K => ?_, fun hw ac u K => ?_, fun hw ac u K => ?_, fun hw ac u K => ?_, fun hw ac u K => ?_, fun hw ac u K => ?_, fun hw ac u K => ?_, fun hw ac u K => ?_, fun hw ac u K => ?_, fun hw ac u K => ?_, fun hw ac u K => ?_, fun hw ac u K => ?_, fun hw ac u K => ?_, fun hw ac u K => ?_, fun hw ac u K => ?_, fun hw ac u K => ?_, fun hw ac u K => ?_, fun hw ac u K => ?_, fun hw ac u K => ?_, fun hw ac u K => ?_, fun hw ac u K => ?_, fun hw ac u K => ?_, trivial⟩ ?_
        · exact st_move (.tmp 8) rfl (K.t x8 rfl)
        · exact st_move (.tmp 57) rfl (K.dep 0 57 rfl)
        · exact st_move (.tmp 9) rfl (K.t x9 rfl)
        · exact st_neqi 37 (.tmp 59) (.const (.int .i64 30)) rfl .i64 (E.1) (30) (K.dep 2 59 rfl) rfl _ (by symm; rw [decide_eq_false_iff_not]; exact (fun h => h (hp.2.1 hw9)))
        · exact st_pick_t (.tmp 58) (.tmp 60) (.const (.bool false)) rfl (K.dep 1 58 rfl) (K.dep 3 60 rfl)
        · exact st_move (.tmp 61) rfl (K.dep 4 61 rfl)
        · exact st_move (.tmp 1) rfl (K.t x1 rfl)
        · exact st_geq 3 (.tmp 63) (.const (.int .i64 0)) rfl .i64 (arm) (0) (K.dep 6 63 rfl) rfl _ (by rw [eq_comm, decide_eq_false_iff_not]; omega)
        · exact st_move (.tmp 64) rfl (K.dep 7 64 rfl)
        · exact (Bool.false_ne_true hw).elim
        · exact (Bool.false_ne_true hw).elim
        · exact (Bool.false_ne_true hw).elim
        · exact (Bool.false_ne_true hw).elim
        · exact st_pick_f' (.tmp 65) (.tmp 69) (.const (.bool false)) rfl (K.dep 8 65 rfl) rfl
        · exact st_pick_f' (.tmp 62) (.const (.bool true)) (.tmp 70) rfl (K.dep 5 62 rfl) (K.dep 13 70 rfl)
        · exact st_move (.tmp 71) rfl (K.dep 14 71 rfl)
        · exact st_move (.tmp 1) rfl (K.t x1 rfl)
        · exact st_lss 3 (.tmp 73) (.const (.int .i64 0)) rfl .i64 (arm) (0) (K.dep 16 73 rfl) rfl _ (by rw [eq_comm, decide_eq_true_iff]; omega)
        · exact st_move (.tmp 74) rfl (K.dep 17 74 rfl)
        · exact st_move (.tmp 5) rfl (K.t x5 rfl)
        · exact st_call 23 (.func 23) _ _ _ rfl rfl (one_arg (K.dep 19 76 rfl)) Try.enter23 ((by have := fk_ddown (HD.below hd K.grow); rw [hdf ha9] at this; exact this))
        · exact st_pick_t (.tmp 75) (.tmp 77) (.const (.bool false)) rfl (K.dep 18 75 rfl) (K.dep 20 77 rfl)
        · exact st_pick_f' (.tmp 72) (.const (.bool true)) (.tmp 78) rfl (K.dep 15 72 rfl) (K.dep 21 78 rfl)
        · exact st_move (.tmp 79) rfl (K.dep 22 79 rfl)
        · exact st_move (.tmp 5) rfl (K.t x5 rfl)
        · exact st_call 23 (.func 23) _ _ _ rfl rfl (one_arg (K.dep 24 81 rfl)) Try.enter23 (fk_ddown (HD.below hd K.grow))
        · exact st_move (.tmp 9) rfl (K.t x9 rfl)
        · exact st_eqi 37 (.tmp 83) (.const (.int .i64 30)) rfl .i64 (E.1) (30) (K.dep 26 83 rfl) rfl _ hp.2.2
        · exact st_neqb (.tmp 82) (.tmp 84) rfl E.2.down (K.dep 25 82 rfl) (K.dep 27 84 rfl)
        · exact st_pick_f' (.tmp 80) (.const (.bool true)) (.tmp 85) rfl (K.dep 23 80 rfl) (K.dep 28 85 rfl)
        intro f26 w26 A hb
        replace x1 := A.t x1 rfl
        replace x5 := A.t x5 rfl
        replace x26 := A.t x26 rfl
        replace x27 := A.t x27 rfl
        replace x28 := A.t x28 rfl
        replace x8 := A.t x8 rfl
        replace x9 := A.t x9 rfl
        have x86 := A.e 29 86 rfl rfl
        replace hd := HD.below hd hb
        replace bl := bgo bl hb
        replace sd := A.sd sd
        clear A hb
        clear x8
        clear x9
        show Code.wp _ _ _ _ _
        refine wp_cond_false x86 ?_
        refine wp_skip ?_
        show Code.wp _ _ _ _ _
        refine wr_s [.eq (.int .i64 ((k + 1 : Nat) : Int))] (by rw [sd.1]; kernel_rfl) ⟨fun hw ac u K => ?_, trivial⟩ ?_
        · exact st_add (.tmp 28) (.const (.int .i64 1)) rfl (k) (1) (k + 1) (K.t x28 rfl) rfl (by omega) (by omega)
        intro f27 w27 A hb
        replace x1 := A.t x1 rfl
        replace x5 := A.t x5 rfl
        replace x26 := A.t x26 rfl
        replace x27 := A.t x27 rfl
        replace x28 := A.t x28 rfl
        replace x86 := A.t x86 rfl
        have x87 := A.e 0 87 rfl rfl
        replace hd := HD.below hd hb
        replace bl := bgo bl hb
        replace sd := A.sd sd
        clear A hb
        clear x86
        refine wl_one (.eq (.int .i64 ((k + 1 : Nat) : Int))) rfl 28 rfl (by rw [sd.1]; decide) (st_move (.tmp 87) rfl x87) ?_
        intro f28 w28 df2 sz2 old2 new2 hb
        replace x1 := tr old2 x1 rfl
        replace x5 := tr old2 x5 rfl
        replace x26 := tr old2 x26 rfl
        replace x27 := tr old2 x27 rfl
        clear x28
        replace x87 := tr old2 x87 rfl
        have x28 := Fk.e new2
        replace hd := HD.below hd hb
        replace bl := bgo bl hb
        replace sd := sd2 sz2 df2 sd
        clear df2 sz2 old2 new2 hb
        refine wpList_nil ?_
        clear x87
        show (∃ _, _) ∧ _
        refine ⟨⟨k + 1, E.2, DD, by omega, gs2, hp.1, hDD, sd.1, sd.2, x1, x5, x26, x27, x28, hd, bl⟩, ?_⟩
        rw [show f28.eval (.tmp 28) = _ from x28, show _ = _ from hcnt]
        first | (simp [intOf]; done) | (simp [intOf]; omega)
      · skip
        rw [hw9] at x8
        refine wr_a [.eq (.bool false), .eq (.bool false), .any, .any, .eq (.bool false), .eq (.bool false), .eq (.int .i64 arm), .eq (.bool true), .eq (.bool true), .eq (.pointer (some ⟨gd, 0, none⟩)), .eq (.int .i64 (E.2.done : Int)), .eq (.int .i64 arm), .eq (.bool false), .eq (.bool false), .eq (.bool false), .eq (.bool false), .eq (.int .i64 arm), .eq (.bool false), .eq (.bool false), .any, .any, .eq (.bool false), .eq (.bool false), .eq (.bool false), .eq (.pointer (some ⟨gd, 0, none⟩)), .eq (.bool E.2.down), .eq (.int .i64 E.1), .eq (.bool E.2.down), .eq (.bool false), .eq (.bool false)] (by rw [sd.1]; kernel_rfl) ⟨fun hw ac u K => ?_, fun hw ac u K => ?_, fun hw ac u K => ?_, fun hw ac u K => ?_, fun hw ac u K => ?_, fun hw ac u K => ?_, fun hw ac u K => ?_, fun hw ac u K => ?_, fun hw ac u K => ?_, fun hw ac u K => ?_, fun hw ac u K => ?_, fun hw ac u K => ?_, fun hw ac u K => ?_, fun hw ac u K => ?_, fun hw ac u K => ?_, fun hw ac u K => ?_, fun hw ac u K => ?_, fun hw ac u K => ?_, fun hw ac u K => ?_, fun hw ac u K => ?_, fun hw ac u K => ?_, fun hw ac u K => ?_, fun hw ac u K => ?_, fun hw ac u K => ?_, fun hw ac u K => ?_, fun hw ac u K => ?_, fun hw ac u K => ?_, fun hw ac u K => ?_, fun hw ac u K => ?_, fun hw ac u K => ?_, trivial⟩ ?_
        · exact st_move (.tmp 8) rfl (K.t x8 rfl)
        · exact st_move (.tmp 57) rfl (K.dep 0 57 rfl)
        · exact (Bool.false_ne_true hw).elim
        · exact (Bool.false_ne_true hw).elim
        · exact st_pick_f' (.tmp 58) (.tmp 60) (.const (.bool false)) rfl (K.dep 1 58 rfl) rfl
        · exact st_move (.tmp 61) rfl (K.dep 4 61 rfl)
        · exact st_move (.tmp 1) rfl (K.t x1 rfl)
        · exact st_geq 3 (.tmp 63) (.const (.int .i64 0)) rfl .i64 (arm) (0) (K.dep 6 63 rfl) rfl _ (by rw [eq_comm, decide_eq_true_iff]; omega)
        · exact st_move (.tmp 64) rfl (K.dep 7 64 rfl)
        · exact st_move (.tmp 5) rfl (K.t x5 rfl)
        · exact st_call 24 (.func 24) _ _ _ rfl rfl (one_arg (K.dep 9 66 rfl)) Try.enter24 (fk_ddone (HD.below hd K.grow))
        · exact st_move (.tmp 1) rfl (K.t x1 rfl)
        · exact st_gtr 3 (.tmp 67) (.tmp 68) rfl .i64 ((E.2.done : Int)) (arm) (K.dep 10 67 rfl) (K.dep 11 68 rfl) _ (by have := hdo ha9; rw [eq_comm, decide_eq_false_iff_not]; omega)
        · exact st_pick_t (.tmp 65) (.tmp 69) (.const (.bool false)) rfl (K.dep 8 65 rfl) (K.dep 12 69 rfl)
        · exact st_pick_f' (.tmp 62) (.const (.bool true)) (.tmp 70) rfl (K.dep 5 62 rfl) (K.dep 13 70 rfl)
        · exact st_move (.tmp 71) rfl (K.dep 14 71 rfl)
        · exact st_move (.tmp 1) rfl (K.t x1 rfl)
        · exact st_lss 3 (.tmp 73) (.const (.int .i64 0)) rfl .i64 (arm) (0) (K.dep 16 73 rfl) rfl _ (by rw [eq_comm, decide_eq_false_iff_not]; omega)
        · exact st_move (.tmp 74) rfl (K.dep 17 74 rfl)
        · exact (Bool.false_ne_true hw).elim
        · exact (Bool.false_ne_true hw).elim
        · exact st_pick_f' (.tmp 75) (.tmp 77) (.const (.bool false)) rfl (K.dep 18 75 rfl) rfl
        · exact st_pick_f' (.tmp 72) (.const (.bool true)) (.tmp 78) rfl (K.dep 15 72 rfl) (K.dep 21 78 rfl)
        · exact st_move (.tmp 79) rfl (K.dep 22 79 rfl)
        · exact st_move (.tmp 5) rfl (K.t x5 rfl)
        · exact st_call 23 (.func 23) _ _ _ rfl rfl (one_arg (K.dep 24 81 rfl)) Try.enter23 (fk_ddown (HD.below hd K.grow))
        · exact st_move (.tmp 9) rfl (K.t x9 rfl)
        · exact st_eqi 37 (.tmp 83) (.const (.int .i64 30)) rfl .i64 (E.1) (30) (K.dep 26 83 rfl) rfl _ hp.2.2
        · exact st_neqb (.tmp 82) (.tmp 84) rfl E.2.down (K.dep 25 82 rfl) (K.dep 27 84 rfl)
        · exact st_pick_f' (.tmp 80) (.const (.bool true)) (.tmp 85) rfl (K.dep 23 80 rfl) (K.dep 28 85 rfl)
        intro f26 w26 A hb
        replace x1 := A.t x1 rfl
        replace x5 := A.t x5 rfl
        replace x26 := A.t x26 rfl
        replace x27 := A.t x27 rfl
        replace x28 := A.t x28 rfl
        replace x8 := A.t x8 rfl
        replace x9 := A.t x9 rfl
        have x86 := A.e 29 86 rfl rfl
        replace hd := HD.below hd hb
        replace bl := bgo bl hb
        replace sd := A.sd sd
        clear A hb
        clear x8
        clear x9
        show Code.wp _ _ _ _ _
        refine wp_cond_false x86 ?_
        refine wp_skip ?_
        show Code.wp _ _ _ _ _
        refine wr_s [.eq (.int .i64 ((k + 1 : Nat) : Int))] (by rw [sd.1]; kernel_rfl) ⟨fun hw ac u K => ?_, trivial⟩ ?_
        · exact st_add (.tmp 28) (.const (.int .i64 1)) rfl (k) (1) (k + 1) (K.t x28 rfl) rfl (by omega) (by omega)
        intro f27 w27 A hb
        replace x1 := A.t x1 rfl
        replace x5 := A.t x5 rfl
        replace x26 := A.t x26 rfl
        replace x27 := A.t x27 rfl
        replace x28 := A.t x28 rfl
        replace x86 := A.t x86 rfl
        have x87 := A.e 0 87 rfl rfl
        replace hd := HD.below hd hb
        replace bl := bgo bl hb
        replace sd := A.sd sd
        clear A hb
        clear x86
        refine wl_one (.eq (.int .i64 ((k + 1 : Nat) : Int))) rfl 28 rfl (by rw [sd.1]; decide) (st_move (.tmp 87) rfl x87) ?_
        intro f28 w28 df2 sz2 old2 new2 hb
        replace x1 := tr old2 x1 rfl
        replace x5 := tr old2 x5 rfl
        replace x26 := tr old2 x26 rfl
        replace x27 := tr old2 x27 rfl
        clear x28
        replace x87 := tr old2 x87 rfl
        have x28 := Fk.e new2
        replace hd := HD.below hd hb
        replace bl := bgo bl hb
        replace sd := sd2 sz2 df2 sd
        clear df2 sz2 old2 new2 hb
        refine wpList_nil ?_
        clear x87
        show (∃ _, _) ∧ _
        refine ⟨⟨k + 1, E.2, DD, by omega, gs2, hp.1, hDD, sd.1, sd.2, x1, x5, x26, x27, x28, hd, bl⟩, ?_⟩
        rw [show f28.eval (.tmp 28) = _ from x28, show _ = _ from hcnt]
        first | (simp [intOf]; done) | (simp [intOf]; omega)
      rw [hw9] at x8
      refine wr_a [.eq (.bool false), .eq (.bool false), .any, .any, .eq (.bool false), .eq (.bool false), .eq (.int .i64 arm), .eq (.bool false), .eq (.bool false), .any, .any, .any, .any, .eq (.bool false), .eq (.bool false), .eq (.bool false), .eq (.int .i64 arm), .eq (.bool true), .eq (.bool true), .eq (.pointer (some ⟨gd, 0, none⟩)), .eq (.bool false), .eq (.bool false), .eq (.bool false), .eq (.bool false), .eq (.pointer (some ⟨gd, 0, none⟩)), .eq (.bool E.2.down), .eq (.int .i64 E.1), .eq (.bool E.2.down), .eq (.bool false), .eq (.bool false)] (by rw [sd.1]; kernel_rfl) ⟨fun hw ac u K => ?_, fun hw ac u K => ?_, fun hw ac u K => ?_, fun hw ac u K => ?_, fun hw ac u K => ?_, fun hw ac u K => ?_, fun hw ac u K => ?_, fun hw ac u K => ?_, fun hw ac u K => ?_, fun hw ac u K => ?_, fun hw ac u K => ?_, fun hw ac u K => ?_, fun hw ac u K => ?_, fun hw ac u K => ?_, fun hw ac u K => ?_, fun hw ac u K => ?_, fun hw ac u K => ?_, fun hw ac u K => ?_, fun hw ac u K => ?_, fun hw ac u K => ?_, fun hw ac u K => ?_, fun hw ac u K => ?_, fun hw ac u K => ?_, fun hw ac u K => ?_, fun hw ac u K => ?_, fun hw ac u K => ?_, fun hw ac u K => ?_, fun hw ac u K => ?_, fun hw ac u K => ?_, fun hw ac u K => ?_, trivial⟩ ?_
      · exact st_move (.tmp 8) rfl (K.t x8 rfl)
      · exact st_move (.tmp 57) rfl (K.dep 0 57 rfl)
      · exact (Bool.false_ne_true hw).elim
      · exact (Bool.false_ne_true hw).elim
      · exact st_pick_f' (.tmp 58) (.tmp 60) (.const (.bool false)) rfl (K.dep 1 58 rfl) rfl
      · exact st_move (.tmp 61) rfl (K.dep 4 61 rfl)
      · exact st_move (.tmp 1) rfl (K.t x1 rfl)
      · exact st_geq 3 (.tmp 63) (.const (.int .i64 0)) rfl .i64 (arm) (0) (K.dep 6 63 rfl) rfl _ (by rw [eq_comm, decide_eq_false_iff_not]; omega)
      · exact st_move (.tmp 64) rfl (K.dep 7 64 rfl)
      · exact (Bool.false_ne_true hw).elim
      · exact (Bool.false_ne_true hw).elim
      · exact (Bool.false_ne_true hw).elim
      · exact (Bool.false_ne_true hw).elim
      · exact st_pick_f' (.tmp 65) (.tmp 69) (.const (.bool false)) rfl (K.dep 8 65 rfl) rfl
      · exact st_pick_f' (.tmp 62) (.const (.bool true)) (.tmp 70) rfl (K.dep 5 62 rfl) (K.dep 13 70 rfl)
      · exact st_move (.tmp 71) rfl (K.dep 14 71 rfl)
      · exact st_move (.tmp 1) rfl (K.t x1 rfl)
      · exact st_lss 3 (.tmp 73) (.const (.int .i64 0)) rfl .i64 (arm) (0) (K.dep 16 73 rfl) rfl _ (by rw [eq_comm, decide_eq_true_iff]; omega)
      · exact st_move (.tmp 74) rfl (K.dep 17 74 rfl)
      · exact st_move (.tmp 5) rfl (K.t x5 rfl)
      · exact st_call 23 (.func 23) _ _ _ rfl rfl (one_arg (K.dep 19 76 rfl)) Try.enter23 ((by have := fk_ddown (HD.below hd K.grow); rw [hdf ha9] at this; exact this))
      · exact st_pick_t (.tmp 75) (.tmp 77) (.const (.bool false)) rfl (K.dep 18 75 rfl) (K.dep 20 77 rfl)
      · exact st_pick_f' (.tmp 72) (.const (.bool true)) (.tmp 78) rfl (K.dep 15 72 rfl) (K.dep 21 78 rfl)
      · exact st_move (.tmp 79) rfl (K.dep 22 79 rfl)
      · exact st_move (.tmp 5) rfl (K.t x5 rfl)
      · exact st_call 23 (.func 23) _ _ _ rfl rfl (one_arg (K.dep 24 81 rfl)) Try.enter23 (fk_ddown (HD.below hd K.grow))
      · exact st_move (.tmp 9) rfl (K.t x9 rfl)
      · exact st_eqi 37 (.tmp 83) (.const (.int .i64 30)) rfl .i64 (E.1) (30) (K.dep 26 83 rfl) rfl _ hp.2.2
      · exact st_neqb (.tmp 82) (.tmp 84) rfl E.2.down (K.dep 25 82 rfl) (K.dep 27 84 rfl)
      · exact st_pick_f' (.tmp 80) (.const (.bool true)) (.tmp 85) rfl (K.dep 23 80 rfl) (K.dep 28 85 rfl)
      intro f26 w26 A hb
      replace x1 := A.t x1 rfl
      replace x5 := A.t x5 rfl
      replace x26 := A.t x26 rfl
      replace x27 := A.t x27 rfl
      replace x28 := A.t x28 rfl
      replace x8 := A.t x8 rfl
      replace x9 := A.t x9 rfl
      have x86 := A.e 29 86 rfl rfl
      replace hd := HD.below hd hb
      replace bl := bgo bl hb
      replace sd := A.sd sd
      clear A hb
      clear x8
      clear x9
      show Code.wp _ _ _ _ _
      refine wp_cond_false x86 ?_
      refine wp_skip ?_
      show Code.wp _ _ _ _ _
      refine wr_s [.eq (.int .i64 ((k + 1 : Nat) : Int))] (by rw [sd.1]; kernel_rfl) ⟨fun hw ac u K => ?_, trivial⟩ ?_
      · exact st_add (.tmp 28) (.const (.int .i64 1)) rfl (k) (1) (k + 1) (K.t x28 rfl) rfl (by omega) (by omega)
      intro f27 w27 A hb
      replace x1 := A.t x1 rfl
      replace x5 := A.t x5 rfl
      replace x26 := A.t x26 rfl
      replace x27 := A.t x27 rfl
      replace x28 := A.t x28 rfl
      replace x86 := A.t x86 rfl
      have x87 := A.e 0 87 rfl rfl
      replace hd := HD.below hd hb
      replace bl := bgo bl hb
      replace sd := A.sd sd
      clear A hb
      clear x86
      refine wl_one (.eq (.int .i64 ((k + 1 : Nat) : Int))) rfl 28 rfl (by rw [sd.1]; decide) (st_move (.tmp 87) rfl x87) ?_
      intro f28 w28 df2 sz2 old2 new2 hb
      replace x1 := tr old2 x1 rfl
      replace x5 := tr old2 x5 rfl
      replace x26 := tr old2 x26 rfl
      replace x27 := tr old2 x27 rfl
      clear x28
      replace x87 := tr old2 x87 rfl
      have x28 := Fk.e new2
      replace hd := HD.below hd hb
      replace bl := bgo bl hb
      replace sd := sd2 sz2 df2 sd
      clear df2 sz2 old2 new2 hb
      refine wpList_nil ?_
      clear x87
      show (∃ _, _) ∧ _
      refine ⟨⟨k + 1, E.2, DD, by omega, gs2, hp.1, hDD, sd.1, sd.2, x1, x5, x26, x27, x28, hd, bl⟩, ?_⟩
      rw [show f28.eval (.tmp 28) = _ from x28, show _ = _ from hcnt]
      first | (simp [intOf]; done) | (simp [intOf]; omega)
    refine wr_a [.eq (.bool true), .eq (.bool true)] (by rw [sd.1]; kernel_rfl) ⟨fun hw ac u K => ?_, fun hw ac u K => ?_, trivial⟩ ?_
    · exact st_eqi 3 (.tmp 35) (.const (.int .i64 2)) rfl .i64 (oo.k) (2) (K.t x35 rfl) rfl _ (by symm; rw [decide_eq_true_iff]; exact hk2)
    · exact st_assign (.tmp 45) rfl (K.dep 0 45 rfl)
    intro f18 w18 A hb
    replace x1 := A.t x1 rfl
    replace x5 := A.t x5 rfl
    replace x26 := A.t x26 rfl
    replace x27 := A.t x27 rfl
    replace x28 := A.t x28 rfl
    replace x7 := A.t x7 rfl
    replace x8 := A.t x8 rfl
    replace x35 := A.t x35 rfl
    replace x36 := A.t x36 rfl
    have x44 := A.e 1 44 rfl rfl
    replace m7 := Ob.below m7 hb
    replace hd := HD.below hd hb
    replace bl := bgo bl hb
    replace sd := A.sd sd
    clear A hb
    clear x36
    show Code.wp _ _ _ _ _
    refine wp_cond_true x44 ?_
    refine wr_s [.eq (.pointer (some ⟨gd, 0, none⟩))] (by rw [sd.1]; kernel_rfl) ⟨fun hw ac u K => ?_, trivial⟩ ?_
    · exact st_move (.tmp 5) rfl (K.t x5 rfl)
    intro f19 w19 A hb
    replace x1 := A.t x1 rfl
    replace x5 := A.t x5 rfl
    replace x26 := A.t x26 rfl
    replace x27 := A.t x27 rfl
    replace x28 := A.t x28 rfl
    replace x7 := A.t x7 rfl
    replace x8 := A.t x8 rfl
    replace x35 := A.t x35 rfl
    replace x44 := A.t x44 rfl
    have x46 := A.e 0 46 rfl rfl
    replace m7 := Ob.below m7 hb
    replace hd := HD.below hd hb
    replace bl := bgo bl hb
    replace sd := A.sd sd
    clear A hb
    clear x7
    clear x35
    clear x44
    refine wl_call 19 (.func 19) _ _ #[.pointer (some ⟨gd, 0, none⟩)] rfl 47 rfl (by rw [sd.1]; decide) rfl rfl (one_arg x46) Try.enter19 (fun u W' => ∃ D2 : Nat → Prop, u = .int .i64 (flu s).1 ∧ HD W' gd M D2 ((flu s).2) ∧ (∀ j, D2 j → DD j ∨ w19.heap.size ≤ j) ∧ Fr M w19 W') ((fk_dflush hd (by have := gs.done; omega) (by have := gs.has; omega)).mono (by rintro e w' ⟨D2, rfl, q⟩; exact ⟨_, rfl, D2, rfl, q⟩)) ?_
    rintro f20 w20 df2 sz2 old2 ⟨D2, x47, hd2, hD2, O⟩
    have OM := O
    replace O := O.mono hd.sub
    replace x1 := tr old2 x1 rfl
    replace x5 := tr old2 x5 rfl
    replace x26 := tr old2 x26 rfl
    replace x27 := tr old2 x27 rfl
    replace x28 := tr old2 x28 rfl
    replace x8 := tr old2 x8 rfl
    replace x46 := tr old2 x46 rfl
    clear m7
    have bl9 := bl.trans (O.below bl.size hDD)
    replace hDD : ∀ j, D2 j → w.heap.size ≤ j := fun j q => (hD2 j q).elim (hDD j) (fun q => Nat.le_trans bl.size q)
    replace bl := bl9
    replace bl0 := bl
    replace hd := hd2
    replace sd := sd2 sz2 df2 sd
    clear df2 sz2 old2 hd2 bl9
    clear O OM hD2
    clear DD
    obtain ⟨DD, rfl⟩ : ∃ E, E = D2 := ⟨_, rfl⟩
    clear x46
    refine wl_one (.eq (.int .i64 (flu s).1)) rfl 9 rfl (by rw [sd.1]; decide) (st_assign (.tmp 47) rfl x47) ?_
    intro f21 w21 df2 sz2 old2 new2 hb
    replace x1 := tr old2 x1 rfl
    replace x5 := tr old2 x5 rfl
    replace x26 := tr old2 x26 rfl
    replace x27 := tr old2 x27 rfl
    replace x28 := tr old2 x28 rfl
    replace x8 := tr old2 x8 rfl
    replace x47 := tr old2 x47 rfl
    have x9 := Fk.e new2
    replace hd := HD.below hd hb
    replace bl := bgo bl hb
    replace sd := sd2 sz2 df2 sd
    clear df2 sz2 old2 new2 hb
    refine wpList_nil ?_
    clear x47
    have hp := pw_flu hpw
    have gs2 := gd_flu gs
    obtain ⟨E, hE⟩ : ∃ q, q = flu s := ⟨_, rfl⟩
    rw [← hE] at hp gs2 hd x9
    clear hE
    show Code.wp _ _ _ _ _
    refine wp_seq ?_
    have hdf : arm < 0 → E.2.down = false := fun h => (hp.1.2 h).2
    have hdo : 0 ≤ arm → (E.2.done : Int) ≤ arm := fun h => by have := hp.1.1 h; omega
    have h4 : (s.down = true ∧ 0 ≤ arm) ∨ (s.down = true ∧ arm < 0) ∨ (s.down = false ∧ 0 ≤ arm) ∨ (s.down = false ∧ arm < 0) := by
      rcases Bool.eq_false_or_eq_true (s.down) with q | q <;> rcases Int.lt_or_le arm 0 with q2 | q2 <;> simp [q, q2] <;> omega
    rcases h4 with ⟨hw9, ha9⟩ | ⟨hw9, ha9⟩ | ⟨hw9, ha9⟩ | ⟨hw9, ha9⟩
    · skip
      rw [hw9] at x8
      refine wr_a [.eq (.bool true), .eq (.bool true), .eq (.int .i64 E.1), .eq (.bool false), .eq (.bool false), .eq (.bool false), .eq (.int .i64 arm), .eq (.bool true), .eq (.bool true), .eq (.pointer (some ⟨gd, 0, none⟩)), .eq (.int .i64 (E.2.done : Int)), .eq (.int .i64 arm), .eq (.bool false), .eq (.bool false), .eq (.bool false), .eq (.bool false), .eq (.int .i64 arm), .eq (.bool false), .eq (.bool false), .any, .any, .eq (.bool false), .eq (.bool false), .eq (.bool false), .eq (.pointer (some ⟨gd, 0, none⟩)), .eq (.bool E.2.down), .eq (.int .i64 E.1), .eq (.bool E.2.down), .eq (.bool false), .eq (.bool false)] (by rw [sd.1]; kernel_rfl) ⟨fun hw ac u K => ?_, fun hw ac u K => ?_, fun hw ac u K => ?_, fun hw ac u K => ?_, fun hw ac u K => ?_, fun hw ac u K => ?_, fun hw ac u K => ?_, fun hw ac u K => ?_, fun hw ac u K => ?_, fun hw ac u K => ?_, fun hw ac u K => ?_, fun hw ac u K => ?_, fun hw ac u K => ?_, fun hw ac u K => ?_, fun hw ac u K => ?_, fun hw ac u K => ?_, fun hw ac u K => ?_, fun hw ac u K => ?_, fun hw ac u K => ?_, fun hw ac u K => ?_, fun hw ac u K => ?_, fun hw ac u K => ?_, fun hw ac u K => ?_, fun hw ac u K => ?_, fun hw ac u K => ?_, fun hw ac u K => ?_, fun hw ac u K => ?_, fun hw ac u K => ?_, fun hw ac u K => ?_, fun hw ac u K => ?_, trivial⟩ ?_
      · exact st_move (.tmp 8) rfl (K.t x8 rfl)
      · exact st_move (.tmp 57) rfl (K.dep 0 57 rfl)
      · exact st_move (.tmp 9) rfl (K.t x9 rfl)
      · exact st_neqi 37 (.tmp 59) (.const (.int .i64 30)) rfl .i64 (E.1) (30) (K.dep 2 59 rfl) rfl _ (by symm; rw [decide_eq_false_iff_not]; exact (fun h => h (hp.2.1 hw9)))
      · exact st_pick_t (.tmp 58) (.tmp 60) (.const (.bool false)) rfl (K.dep 1 58 rfl) (K.dep 3 60 rfl)
      · exact st_move (.tmp 61) rfl (K.dep 4 61 rfl)
      · exact st_move (.tmp 1) rfl (K.t x1 rfl)
      · exact st_geq 3 (.tmp 63) (.const (.int .i64 0)) rfl .i64 (arm) (0) (K.dep 6 63 rfl) rfl _ (by rw [eq_comm, decide_eq_true_iff]; omega)
      · exact st_move (.tmp 64) rfl (K.dep 7 64 rfl)
      · exact st_move (.tmp 5) rfl (K.t x5 rfl)
      · exact st_call 24 (.func 24) _ _ _ rfl rfl (one_arg (K.dep 9 66 rfl)) Try.enter24 (fk_ddone (HD.below hd K.grow))
      · exact st_move (.tmp 1) rfl (K.t x1 rfl)
      · exact st_gtr 3 (.tmp 67) (.tmp 68) rfl .i64 ((E.2.done : Int)) (arm) (K.dep 10 67 rfl) (K.dep 11 68 rfl) _ (by have := hdo ha9; rw [eq_comm, decide_eq_false_iff_not]; omega)
      · exact st_pick_t (.tmp 65) (.tmp 69) (.const (.bool false)) rfl (K.dep 8 65 rfl) (K.dep 12 69 rfl)
      · exact st_pick_f' (.tmp 62) (.const (.bool true)) (.tmp 70) rfl (K.dep 5 62 rfl) (K.dep 13 70 rfl)
      · exact st_move (.tmp 71) rfl (K.dep 14 71 rfl)
      · exact st_move (.tmp 1) rfl (K.t x1 rfl)
      · exact st_lss 3 (.tmp 73) (.const (.int .i64 0)) rfl .i64 (arm) (0) (K.dep 16 73 rfl) rfl _ (by rw [eq_comm, decide_eq_false_iff_not]; omega)
      · exact st_move (.tmp 74) rfl (K.dep 17 74 rfl)
      · exact (Bool.false_ne_true hw).elim
      · exact (Bool.false_ne_true hw).elim
      · exact st_pick_f' (.tmp 75) (.tmp 77) (.const (.bool false)) rfl (K.dep 18 75 rfl) rfl
      · exact st_pick_f' (.tmp 72) (.const (.bool true)) (.tmp 78) rfl (K.dep 15 72 rfl) (K.dep 21 78 rfl)
      · exact st_move (.tmp 79) rfl (K.dep 22 79 rfl)
      · exact st_move (.tmp 5) rfl (K.t x5 rfl)
      · exact st_call 23 (.func 23) _ _ _ rfl rfl (one_arg (K.dep 24 81 rfl)) Try.enter23 (fk_ddown (HD.below hd K.grow))
      · exact st_move (.tmp 9) rfl (K.t x9 rfl)
      · exact st_eqi 37 (.tmp 83) (.const (.int .i64 30)) rfl .i64 (E.1) (30) (K.dep 26 83 rfl) rfl _ hp.2.2
      · exact st_neqb (.tmp 82) (.tmp 84) rfl E.2.down (K.dep 25 82 rfl) (K.dep 27 84 rfl)
      · exact st_pick_f' (.tmp 80) (.const (.bool true)) (.tmp 85) rfl (K.dep 23 80 rfl) (K.dep 28 85 rfl)
      intro f22 w22 A hb
      replace x1 := A.t x1 rfl
      replace x5 := A.t x5 rfl
      replace x26 := A.t x26 rfl
      replace x27 := A.t x27 rfl
      replace x28 := A.t x28 rfl
      replace x8 := A.t x8 rfl
      replace x9 := A.t x9 rfl
      have x86 := A.e 29 86 rfl rfl
      replace hd := HD.below hd hb
      replace bl := bgo bl hb
      replace sd := A.sd sd
      clear A hb
      clear x8
      clear x9
      show Code.wp _ _ _ _ _
      refine wp_cond_false x86 ?_
      refine wp_skip ?_
      show Code.wp _ _ _ _ _
      refine wr_s [.eq (.int .i64 ((k + 1 : Nat) : Int))] (by rw [sd.1]; kernel_rfl) ⟨fun hw ac u K => ?_, trivial⟩ ?_
      · exact st_add (.tmp 28) (.const (.int .i64 1)) rfl (k) (1) (k + 1) (K.t x28 rfl) rfl (by omega) (by omega)
      intro f23 w23 A hb
      replace x1 := A.t x1 rfl
      replace x5 := A.t x5 rfl
      replace x26 := A.t x26 rfl
      replace x27 := A.t x27 rfl
      replace x28 := A.t x28 rfl
      replace x86 := A.t x86 rfl
      have x87 := A.e 0 87 rfl rfl
      replace hd := HD.below hd hb
      replace bl := bgo bl hb
      replace sd := A.sd sd
      clear A hb
      clear x86
      refine wl_one (.eq (.int .i64 ((k + 1 : Nat) : Int))) rfl 28 rfl (by rw [sd.1]; decide) (st_move (.tmp 87) rfl x87) ?_
      intro f24 w24 df2 sz2 old2 new2 hb
      replace x1 := tr old2 x1 rfl
      replace x5 := tr old2 x5 rfl
      replace x26 := tr old2 x26 rfl
      replace x27 := tr old2 x27 rfl
      clear x28
      replace x87 := tr old2 x87 rfl
      have x28 := Fk.e new2
      replace hd := HD.below hd hb
      replace bl := bgo bl hb
      replace sd := sd2 sz2 df2 sd
      clear df2 sz2 old2 new2 hb
      refine wpList_nil ?_
      clear x87
      show (∃ _, _) ∧ _
      refine ⟨⟨k + 1, E.2, DD, by omega, gs2, hp.1, hDD, sd.1, sd.2, x1, x5, x26, x27, x28, hd, bl⟩, ?_⟩
      rw [show f24.eval (.tmp 28) = _ from x28, show _ = _ from hcnt]
      first | (simp [intOf]; done) | (simp [intOf]; omega)
    · skip
      rw [hw9] at x8
      refine wr_a [.eq (.bool true), .eq (.bool true), .eq (.int .i64 E.1), .eq (.bool false), .eq (.bool false), .eq (.bool false), .eq (.int .i64 arm), .eq (.bool false), .eq (.bool false), .any, .any, .any, .any, .eq (.bool false), .eq (.bool false), .eq (.bool false), .eq (.int .i64 arm), .eq (.bool true), .eq (.bool true), .eq (.pointer (some ⟨gd, 0, none⟩)), .eq (.bool false), .eq (.bool false), .eq (.bool false), .eq (.bool false), .eq (.pointer (some ⟨gd, 0, none⟩)), .eq (.bool E.2.down), .eq (.int .i64 E.1), .eq (.bool E.2.down), .eq (.bool false), .eq (.bool false)] (by rw [sd.1]; kernel_rfl) ⟨fun hw ac u K => ?_, fun hw ac u K => ?_, fun hw ac u K => ?_, fun hw ac u K => ?_, fun hw ac u K => ?_, fun hw ac u K => ?_, fun hw ac u K => ?_, fun hw ac u K => ?_, fun hw ac u K => ?_, fun hw ac u K => ?_, fun hw ac u K => ?_, fun hw ac u K => ?_, fun hw ac u K => ?_, fun hw ac u K => ?_, fun hw ac u K => ?_, fun hw ac u K => ?_, fun hw ac u K => ?_, fun hw ac u K => ?_, fun hw ac u K => ?_, fun hw ac u K => ?_, fun hw ac u K => ?_, fun hw ac u K => ?_, fun hw ac u K => ?_, fun hw ac u K => ?_, fun hw ac u K => ?_, fun hw ac u K => ?_, fun hw ac u K => ?_, fun hw ac u K => ?_, fun hw ac u K => ?_, fun hw ac u K => ?_, trivial⟩ ?_
      · exact st_move (.tmp 8) rfl (K.t x8 rfl)
      · exact st_move (.tmp 57) rfl (K.dep 0 57 rfl)
      · exact st_move (.tmp 9) rfl (K.t x9 rfl)
      · exact st_neqi 37 (.tmp 59) (.const (.int .i64 30)) rfl .i64 (E.1) (30) (K.dep 2 59 rfl) rfl _ (by symm; rw [decide_eq_false_iff_not]; exact (fun h => h (hp.2.1 hw9)))
      · exact st_pick_t (.tmp 58) (.tmp 60) (.const (.bool false)) rfl (K.dep 1 58 rfl) (K.dep 3 60 rfl)
      · exact st_move (.tmp 61) rfl (K.dep 4 61 rfl)
      · exact st_move (.tmp 1) rfl (K.t x1 rfl)
      · exact st_geq 3 (.tmp 63) (.const (.int .i64 0)) rfl .i64 (arm) (0) (K.dep 6 63 rfl) rfl _ (by rw [eq_comm, decide_eq_false_iff_not]; omega)
      · exact st_move (.tmp 64) rfl (K.dep 7 64 rfl)
      · exact (Bool.false_ne_true hw).elim
      · exact (Bool.false_ne_true hw).elim
      · exact (Bool.false_ne_true hw).elim
      · exact (Bool.false_ne_true hw).elim
      · exact st_pick_f' (.tmp 65) (.tmp 69) (.const (.bool false)) rfl (K.dep 8 65 rfl) rfl
      · exact st_pick_f' (.tmp 62) (.const (.bool true)) (.tmp 70) rfl (K.dep 5 62 rfl) (K.dep 13 70 rfl)
      · exact st_move (.tmp 71) rfl (K.dep 14 71 rfl)
      · exact st_move (.tmp 1) rfl (K.t x1 rfl)
      · exact st_lss 3 (.tmp 73) (.const (.int .i64 0)) rfl .i64 (arm) (0) (K.dep 16 73 rfl) rfl _ (by rw [eq_comm, decide_eq_true_iff]; omega)
      · exact st_move (.tmp 74) rfl (K.dep 17 74 rfl)
      · exact st_move (.tmp 5) rfl (K.t x5 rfl)
      · exact st_call 23 (.func 23) _ _ _ rfl rfl (one_arg (K.dep 19 76 rfl)) Try.enter23 ((by have := fk_ddown (HD.below hd K.grow); rw [hdf ha9] at this; exact this))
      · exact st_pick_t (.tmp 75) (.tmp 77) (.const (.bool false)) rfl (K.dep 18 75 rfl) (K.dep 20 77 rfl)
      · exact st_pick_f' (.tmp 72) (.const (.bool true)) (.tmp 78) rfl (K.dep 15 72 rfl) (K.dep 21 78 rfl)
      · exact st_move (.tmp 79) rfl (K.dep 22 79 rfl)
      · exact st_move (.tmp 5) rfl (K.t x5 rfl)
      · exact st_call 23 (.func 23) _ _ _ rfl rfl (one_arg (K.dep 24 81 rfl)) Try.enter23 (fk_ddown (HD.below hd K.grow))
      · exact st_move (.tmp 9) rfl (K.t x9 rfl)
      · exact st_eqi 37 (.tmp 83) (.const (.int .i64 30)) rfl .i64 (E.1) (30) (K.dep 26 83 rfl) rfl _ hp.2.2
      · exact st_neqb (.tmp 82) (.tmp 84) rfl E.2.down (K.dep 25 82 rfl) (K.dep 27 84 rfl)
      · exact st_pick_f' (.tmp 80) (.const (.bool true)) (.tmp 85) rfl (K.dep 23 80 rfl) (K.dep 28 85 rfl)
      intro f22 w22 A hb
      replace x1 := A.t x1 rfl
      replace x5 := A.t x5 rfl
      replace x26 := A.t x26 rfl
      replace x27 := A.t x27 rfl
      replace x28 := A.t x28 rfl
      replace x8 := A.t x8 rfl
      replace x9 := A.t x9 rfl
      have x86 := A.e 29 86 rfl rfl
      replace hd := HD.below hd hb
      replace bl := bgo bl hb
      replace sd := A.sd sd
      clear A hb
      clear x8
      clear x9
      show Code.wp _ _ _ _ _
      refine wp_cond_false x86 ?_
      refine wp_skip ?_
      show Code.wp _ _ _ _ _
      refine wr_s [.eq (.int .i64 ((k + 1 : Nat) : Int))] (by rw [sd.1]; kernel_rfl) ⟨fun hw ac u K => ?_, trivial⟩ ?_
      · exact st_add (.tmp 28) (.const (.int .i64 1)) rfl (k) (1) (k + 1) (K.t x28 rfl) rfl (by omega) (by omega)
      intro f23 w23 A hb
      replace x1 := A.t x1 rfl
      replace x5 := A.t x5 rfl
      replace x26 := A.t x26 rfl
      replace x27 := A.t x27 rfl
      replace x28 := A.t x28 rfl
      replace x86 := A.t x86 rfl
      have x87 := A.e 0 87 rfl rfl
      replace hd := HD.below hd hb
      replace bl := bgo bl hb
      replace sd := A.sd sd
      clear A hb
      clear x86
      refine wl_one (.eq (.int .i64 ((k + 1 : Nat) : Int))) rfl 28 rfl (by rw [sd.1]; decide) (st_move (.tmp 87) rfl x87) ?_
      intro f24 w24 df2 sz2 old2 new2 hb
      replace x1 := tr old2 x1 rfl
      replace x5 := tr old2 x5 rfl
      replace x26 := tr old2 x26 rfl
      replace x27 := tr old2 x27 rfl
      clear x28
      replace x87 := tr old2 x87 rfl
      have x28 := Fk.e new2
      replace hd := HD.below hd hb
      replace bl := bgo bl hb
      replace sd := sd2 sz2 df2 sd
      clear df2 sz2 old2 new2 hb
      refine wpList_nil ?_
      clear x87
      show (∃ _, _) ∧ _
      refine ⟨⟨k + 1, E.2, DD, by omega, gs2, hp.1, hDD, sd.1, sd.2, x1, x5, x26, x27, x28, hd, bl⟩, ?_⟩
      rw [show f24.eval (.tmp 28) = _ from x28, show _ = _ from hcnt]
      first | (simp [intOf]; done) | (simp [intOf]; omega)
    · skip
      rw [hw9] at x8
      refine wr_a [.eq (.bool false), .eq (.bool false), .any, .any, .eq (.bool false), .eq (.bool false), .eq (.int .i64 arm), .eq (.bool true), .eq (.bool true), .eq (.pointer (some ⟨gd, 0, none⟩)), .eq (.int .i64 (E.2.done : Int)), .eq (.int .i64 arm), .eq (.bool false), .eq (.bool false), .eq (.bool false), .eq (.bool false), .eq (.int .i64 arm), .eq (.bool false), .eq (.bool false), .any, .any, .eq (.bool false), .eq (.bool false), .eq (.bool false), .eq (.pointer (some ⟨gd, 0, none⟩)), .eq (.bool E.2.down), .eq (.int .i64 E.1), .eq (.bool E.2.down), .eq (.bool false), .eq (.bool false)] (by rw [sd.1]; kernel_rfl) ⟨fun hw ac u K => ?_, fun hw ac u K => ?_, fun hw ac u K => ?_, fun hw ac u K => ?_, fun hw ac u K => ?_, fun hw ac u K => ?_, fun hw ac u K => ?_, fun hw ac u K => ?_, fun hw ac u K => ?_, fun hw ac u K => ?_, fun hw ac u K => ?_, fun hw ac u K => ?_, fun hw ac u K => ?_, fun hw ac u K => ?_, fun hw ac u K => ?_, fun hw ac u K => ?_, fun hw ac u K => ?_, fun hw ac u K => ?_, fun hw ac u K => ?_, fun hw ac u K => ?_, fun hw ac u K => ?_, fun hw ac u K => ?_, fun hw ac u K => ?_, fun hw ac u K => ?_, fun hw ac u K => ?_, fun hw ac u K => ?_, fun hw ac u K => ?_, fun hw ac u K => ?_, fun hw ac u K => ?_, fun hw ac u K => ?_, trivial⟩ ?_
      · exact st_move (.tmp 8) rfl (K.t x8 rfl)
      · exact st_move (.tmp 57) rfl (K.dep 0 57 rfl)
      · exact (Bool.false_ne_true hw).elim
      · exact (Bool.false_ne_true hw).elim
      · exact st_pick_f' (.tmp 58) (.tmp 60) (.const (.bool false)) rfl (K.dep 1 58 rfl) rfl
      · exact st_move (.tmp 61) rfl (K.dep 4 61 rfl)
      · exact st_move (.tmp 1) rfl (K.t x1 rfl)
      · exact st_geq 3 (.tmp 63) (.const (.int .i64 0)) rfl .i64 (arm) (0) (K.dep 6 63 rfl) rfl _ (by rw [eq_comm, decide_eq_true_iff]; omega)
      · exact st_move (.tmp 64) rfl (K.dep 7 64 rfl)
      · exact st_move (.tmp 5) rfl (K.t x5 rfl)
      · exact st_call 24 (.func 24) _ _ _ rfl rfl (one_arg (K.dep 9 66 rfl)) Try.enter24 (fk_ddone (HD.below hd K.grow))
      · exact st_move (.tmp 1) rfl (K.t x1 rfl)
      · exact st_gtr 3 (.tmp 67) (.tmp 68) rfl .i64 ((E.2.done : Int)) (arm) (K.dep 10 67 rfl) (K.dep 11 68 rfl) _ (by have := hdo ha9; rw [eq_comm, decide_eq_false_iff_not]; omega)
      · exact st_pick_t (.tmp 65) (.tmp 69) (.const (.bool false)) rfl (K.dep 8 65 rfl) (K.dep 12 69 rfl)
      · exact st_pick_f' (.tmp 62) (.const (.bool true)) (.tmp 70) rfl (K.dep 5 62 rfl) (K.dep 13 70 rfl)
      · exact st_move (.tmp 71) rfl (K.dep 14 71 rfl)
      · exact st_move (.tmp 1) rfl (K.t x1 rfl)
      · exact st_lss 3 (.tmp 73) (.const (.int .i64 0)) rfl .i64 (arm) (0) (K.dep 16 73 rfl) rfl _ (by rw [eq_comm, decide_eq_false_iff_not]; omega)
      · exact st_move (.tmp 74) rfl (K.dep 17 74 rfl)
      · exact (Bool.false_ne_true hw).elim
      · exact (Bool.false_ne_true hw).elim
      · exact st_pick_f' (.tmp 75) (.tmp 77) (.const (.bool false)) rfl (K.dep 18 75 rfl) rfl
      · exact st_pick_f' (.tmp 72) (.const (.bool true)) (.tmp 78) rfl (K.dep 15 72 rfl) (K.dep 21 78 rfl)
      · exact st_move (.tmp 79) rfl (K.dep 22 79 rfl)
      · exact st_move (.tmp 5) rfl (K.t x5 rfl)
      · exact st_call 23 (.func 23) _ _ _ rfl rfl (one_arg (K.dep 24 81 rfl)) Try.enter23 (fk_ddown (HD.below hd K.grow))
      · exact st_move (.tmp 9) rfl (K.t x9 rfl)
      · exact st_eqi 37 (.tmp 83) (.const (.int .i64 30)) rfl .i64 (E.1) (30) (K.dep 26 83 rfl) rfl _ hp.2.2
      · exact st_neqb (.tmp 82) (.tmp 84) rfl E.2.down (K.dep 25 82 rfl) (K.dep 27 84 rfl)
      · exact st_pick_f' (.tmp 80) (.const (.bool true)) (.tmp 85) rfl (K.dep 23 80 rfl) (K.dep 28 85 rfl)
      intro f22 w22 A hb
      replace x1 := A.t x1 rfl
      replace x5 := A.t x5 rfl
      replace x26 := A.t x26 rfl
      replace x27 := A.t x27 rfl
      replace x28 := A.t x28 rfl
      replace x8 := A.t x8 rfl
      replace x9 := A.t x9 rfl
      have x86 := A.e 29 86 rfl rfl
      replace hd := HD.below hd hb
      replace bl := bgo bl hb
      replace sd := A.sd sd
      clear A hb
      clear x8
      clear x9
      show Code.wp _ _ _ _ _
      refine wp_cond_false x86 ?_
      refine wp_skip ?_
      show Code.wp _ _ _ _ _
      refine wr_s [.eq (.int .i64 ((k + 1 : Nat) : Int))] (by rw [sd.1]; kernel_rfl) ⟨fun hw ac u K => ?_, trivial⟩ ?_
      · exact st_add (.tmp 28) (.const (.int .i64 1)) rfl (k) (1) (k + 1) (K.t x28 rfl) rfl (by omega) (by omega)
      intro f23 w23 A hb
      replace x1 := A.t x1 rfl
      replace x5 := A.t x5 rfl
      replace x26 := A.t x26 rfl
      replace x27 := A.t x27 rfl
      replace x28 := A.t x28 rfl
      replace x86 := A.t x86 rfl
      have x87 := A.e 0 87 rfl rfl
      replace hd := HD.below hd hb
      replace bl := bgo bl hb
      replace sd := A.sd sd
      clear A hb
      clear x86
      refine wl_one (.eq (.int .i64 ((k + 1 : Nat) : Int))) rfl 28 rfl (by rw [sd.1]; decide) (st_move (.tmp 87) rfl x87) ?_
      intro f24 w24 df2 sz2 old2 new2 hb
      replace x1 := tr old2 x1 rfl
      replace x5 := tr old2 x5 rfl
      replace x26 := tr old2 x26 rfl
      replace x27 := tr old2 x27 rfl
      clear x28
      replace x87 := tr old2 x87 rfl
      have x28 := Fk.e new2
      replace hd := HD.below hd hb
      replace bl := bgo bl hb
      replace sd := sd2 sz2 df2 sd
      clear df2 sz2 old2 new2 hb
      refine wpList_nil ?_
      clear x87
      show (∃ _, _) ∧ _
      refine ⟨⟨k + 1, E.2, DD, by omega, gs2, hp.1, hDD, sd.1, sd.2, x1, x5, x26, x27, x28, hd, bl⟩, ?_⟩
      rw [show f24.eval (.tmp 28) = _ from x28, show _ = _ from hcnt]
      first | (simp [intOf]; done) | (simp [intOf]; omega)
    rw [hw9] at x8
    refine wr_a [.eq (.bool false), .eq (.bool false), .any, .any, .eq (.bool false), .eq (.bool false), .eq (.int .i64 arm), .eq (.bool false), .eq (.bool false), .any, .any, .any, .any, .eq (.bool false), .eq (.bool false), .eq (.bool false), .eq (.int .i64 arm), .eq (.bool true), .eq (.bool true), .eq (.pointer (some ⟨gd, 0, none⟩)), .eq (.bool false), .eq (.bool false), .eq (.bool false), .eq (.bool false), .eq (.pointer (some ⟨gd, 0, none⟩)), .eq (.bool E.2.down), .eq (.int .i64 E.1), .eq (.bool E.2.down), .eq (.bool false), .eq (.bool false)] (by rw [sd.1]; kernel_rfl) ⟨fun hw ac u K => ?_, fun hw ac u K => ?_, fun hw ac u K => ?_, fun hw ac u K => ?_, fun hw ac u K => ?_, fun hw ac u K => ?_, fun hw ac u K => ?_, fun hw ac u K => ?_, fun hw ac u K => ?_, fun hw ac u K => ?_, fun hw ac u K => ?_, fun hw ac u K => ?_, fun hw ac u K => ?_, fun hw ac u K => ?_, fun hw ac u K => ?_, fun hw ac u K => ?_, fun hw ac u K => ?_, fun hw ac u K => ?_, fun hw ac u K => ?_, fun hw ac u K => ?_, fun hw ac u K => ?_, fun hw ac u K => ?_, fun hw ac u K => ?_, fun hw ac u K => ?_, fun hw ac u K => ?_, fun hw ac u K => ?_, fun hw ac u K => ?_, fun hw ac u K => ?_, fun hw ac u K => ?_, fun hw ac u K => ?_, trivial⟩ ?_
    · exact st_move (.tmp 8) rfl (K.t x8 rfl)
    · exact st_move (.tmp 57) rfl (K.dep 0 57 rfl)
    · exact (Bool.false_ne_true hw).elim
    · exact (Bool.false_ne_true hw).elim
    · exact st_pick_f' (.tmp 58) (.tmp 60) (.const (.bool false)) rfl (K.dep 1 58 rfl) rfl
    · exact st_move (.tmp 61) rfl (K.dep 4 61 rfl)
    · exact st_move (.tmp 1) rfl (K.t x1 rfl)
    · exact st_geq 3 (.tmp 63) (.const (.int .i64 0)) rfl .i64 (arm) (0) (K.dep 6 63 rfl) rfl _ (by rw [eq_comm, decide_eq_false_iff_not]; omega)
    · exact st_move (.tmp 64) rfl (K.dep 7 64 rfl)
    · exact (Bool.false_ne_true hw).elim
    · exact (Bool.false_ne_true hw).elim
    · exact (Bool.false_ne_true hw).elim
    · exact (Bool.false_ne_true hw).elim
    · exact st_pick_f' (.tmp 65) (.tmp 69) (.const (.bool false)) rfl (K.dep 8 65 rfl) rfl
    · exact st_pick_f' (.tmp 62) (.const (.bool true)) (.tmp 70) rfl (K.dep 5 62 rfl) (K.dep 13 70 rfl)
    · exact st_move (.tmp 71) rfl (K.dep 14 71 rfl)
    · exact st_move (.tmp 1) rfl (K.t x1 rfl)
    · exact st_lss 3 (.tmp 73) (.const (.int .i64 0)) rfl .i64 (arm) (0) (K.dep 16 73 rfl) rfl _ (by rw [eq_comm, decide_eq_true_iff]; omega)
    · exact st_move (.tmp 74) rfl (K.dep 17 74 rfl)
    · exact st_move (.tmp 5) rfl (K.t x5 rfl)
    · exact st_call 23 (.func 23) _ _ _ rfl rfl (one_arg (K.dep 19 76 rfl)) Try.enter23 ((by have := fk_ddown (HD.below hd K.grow); rw [hdf ha9] at this; exact this))
    · exact st_pick_t (.tmp 75) (.tmp 77) (.const (.bool false)) rfl (K.dep 18 75 rfl) (K.dep 20 77 rfl)
    · exact st_pick_f' (.tmp 72) (.const (.bool true)) (.tmp 78) rfl (K.dep 15 72 rfl) (K.dep 21 78 rfl)
    · exact st_move (.tmp 79) rfl (K.dep 22 79 rfl)
    · exact st_move (.tmp 5) rfl (K.t x5 rfl)
    · exact st_call 23 (.func 23) _ _ _ rfl rfl (one_arg (K.dep 24 81 rfl)) Try.enter23 (fk_ddown (HD.below hd K.grow))
    · exact st_move (.tmp 9) rfl (K.t x9 rfl)
    · exact st_eqi 37 (.tmp 83) (.const (.int .i64 30)) rfl .i64 (E.1) (30) (K.dep 26 83 rfl) rfl _ hp.2.2
    · exact st_neqb (.tmp 82) (.tmp 84) rfl E.2.down (K.dep 25 82 rfl) (K.dep 27 84 rfl)
    · exact st_pick_f' (.tmp 80) (.const (.bool true)) (.tmp 85) rfl (K.dep 23 80 rfl) (K.dep 28 85 rfl)
    intro f22 w22 A hb
    replace x1 := A.t x1 rfl
    replace x5 := A.t x5 rfl
    replace x26 := A.t x26 rfl
    replace x27 := A.t x27 rfl
    replace x28 := A.t x28 rfl
    replace x8 := A.t x8 rfl
    replace x9 := A.t x9 rfl
    have x86 := A.e 29 86 rfl rfl
    replace hd := HD.below hd hb
    replace bl := bgo bl hb
    replace sd := A.sd sd
    clear A hb
    clear x8
    clear x9
    show Code.wp _ _ _ _ _
    refine wp_cond_false x86 ?_
    refine wp_skip ?_
    show Code.wp _ _ _ _ _
    refine wr_s [.eq (.int .i64 ((k + 1 : Nat) : Int))] (by rw [sd.1]; kernel_rfl) ⟨fun hw ac u K => ?_, trivial⟩ ?_
    · exact st_add (.tmp 28) (.const (.int .i64 1)) rfl (k) (1) (k + 1) (K.t x28 rfl) rfl (by omega) (by omega)
    intro f23 w23 A hb
    replace x1 := A.t x1 rfl
    replace x5 := A.t x5 rfl
    replace x26 := A.t x26 rfl
    replace x27 := A.t x27 rfl
    replace x28 := A.t x28 rfl
    replace x86 := A.t x86 rfl
    have x87 := A.e 0 87 rfl rfl
    replace hd := HD.below hd hb
    replace bl := bgo bl hb
    replace sd := A.sd sd
    clear A hb
    clear x86
    refine wl_one (.eq (.int .i64 ((k + 1 : Nat) : Int))) rfl 28 rfl (by rw [sd.1]; decide) (st_move (.tmp 87) rfl x87) ?_
    intro f24 w24 df2 sz2 old2 new2 hb
    replace x1 := tr old2 x1 rfl
    replace x5 := tr old2 x5 rfl
    replace x26 := tr old2 x26 rfl
    replace x27 := tr old2 x27 rfl
    clear x28
    replace x87 := tr old2 x87 rfl
    have x28 := Fk.e new2
    replace hd := HD.below hd hb
    replace bl := bgo bl hb
    replace sd := sd2 sz2 df2 sd
    clear df2 sz2 old2 new2 hb
    refine wpList_nil ?_
    clear x87
    show (∃ _, _) ∧ _
    refine ⟨⟨k + 1, E.2, DD, by omega, gs2, hp.1, hDD, sd.1, sd.2, x1, x5, x26, x27, x28, hd, bl⟩, ?_⟩
    rw [show f24.eval (.tmp 28) = _ from x28, show _ = _ from hcnt]
    first | (simp [intOf]; done) | (simp [intOf]; omega)
  refine wr_a [.eq (.bool true), .eq (.bool true)] (by rw [sd.1]; kernel_rfl) ⟨fun hw ac u K => ?_, fun hw ac u K => ?_, trivial⟩ ?_
  · exact st_eqi 3 (.tmp 35) (.const (.int .i64 1)) rfl .i64 (oo.k) (1) (K.t x35 rfl) rfl _ (by symm; rw [decide_eq_true_iff]; exact hk1)
  · exact st_assign (.tmp 37) rfl (K.dep 0 37 rfl)
  intro f17 w17 A hb
  replace x1 := A.t x1 rfl
  replace x5 := A.t x5 rfl
  replace x26 := A.t x26 rfl
  replace x27 := A.t x27 rfl
  replace x28 := A.t x28 rfl
  replace x7 := A.t x7 rfl
  replace x8 := A.t x8 rfl
  replace x35 := A.t x35 rfl
  have x36 := A.e 1 36 rfl rfl
  replace m7 := Ob.below m7 hb
  replace hd := HD.below hd hb
  replace bl := bgo bl hb
  replace sd := A.sd sd
  clear A hb
  show Code.wp _ _ _ _ _
  refine wp_cond_true x36 ?_
  refine wr_s [.eq (.pointer (some ⟨gd, 0, none⟩)), .eq (.pointer (some ⟨g7, 1, none⟩)), .eq (.int .i64 oo.s), .eq (.pointer (some ⟨g7, 3, none⟩)), .eq (oo.vb)] (by rw [sd.1]; kernel_rfl) ⟨fun hw ac u K => ?_, fun hw ac u K => ?_, fun hw ac u K => ?_, fun hw ac u K => ?_, fun hw ac u K => ?_, trivial⟩ ?_
  · exact st_move (.tmp 5) rfl (K.t x5 rfl)
  · exact st_field 32 1 (.tmp 7) rfl (K.t x7 rfl) (by kernel_rfl)
  · exact st_loadc 3 (.tmp 39) rfl (by kernel_rfl) (K.dep 1 39 rfl) (Ob.cell (Ob.below m7 K.grow) 1 rfl)
  · exact st_field 32 3 (.tmp 7) rfl (K.t x7 rfl) (by kernel_rfl)
  · exact st_loadc 29 (.tmp 41) rfl (by kernel_rfl) (K.dep 3 41 rfl) (Ob.cell (Ob.below m7 K.grow) 3 rfl)
  intro f18 w18 A hb
  replace x1 := A.t x1 rfl
  replace x5 := A.t x5 rfl
  replace x26 := A.t x26 rfl
  replace x27 := A.t x27 rfl
  replace x28 := A.t x28 rfl
  replace x7 := A.t x7 rfl
  replace x8 := A.t x8 rfl
  replace x35 := A.t x35 rfl
  replace x36 := A.t x36 rfl
  have x38 := A.e 0 38 rfl rfl
  have x40 := A.e 2 40 rfl rfl
  have x42 := A.e 4 42 rfl rfl
  replace m7 := Ob.below m7 hb
  replace hd := HD.below hd hb
  replace bl := bgo bl hb
  replace sd := A.sd sd
  clear A hb
  clear x7
  clear x35
  clear x36
  refine wl_call 18 (.func 18) _ _ #[.pointer (some ⟨gd, 0, none⟩), .int .i64 oo.s, oo.vb] rfl 43 rfl (by rw [sd.1]; decide) rfl rfl (three_arg x38 x40 x42) Try.enter18 (fun u W' => ∃ D2 : Nat → Prop, u = .int .i64 (wrt s oo.s oo.bs).1 ∧ HD W' gd M D2 ((wrt s oo.s oo.bs).2) ∧ (∀ j, D2 j → DD j ∨ w18.heap.size ≤ j) ∧ Fr M w18 W') ((fk_dwrite hd (by have := gs.done; omega) (by have := gs.has; omega) oo.s (Fk.mono _ _ _ _ hboo bl)).mono (by rintro e w' ⟨D2, rfl, q⟩; exact ⟨_, rfl, D2, rfl, q⟩)) ?_
  rintro f19 w19 df2 sz2 old2 ⟨D2, x43, hd2, hD2, O⟩
  have OM := O
  replace O := O.mono hd.sub
  replace x1 := tr old2 x1 rfl
  replace x5 := tr old2 x5 rfl
  replace x26 := tr old2 x26 rfl
  replace x27 := tr old2 x27 rfl
  replace x28 := tr old2 x28 rfl
  replace x8 := tr old2 x8 rfl
  replace x38 := tr old2 x38 rfl
  replace x40 := tr old2 x40 rfl
  replace x42 := tr old2 x42 rfl
  clear m7
  have bl9 := bl.trans (O.below bl.size hDD)
  replace hDD : ∀ j, D2 j → w.heap.size ≤ j := fun j q => (hD2 j q).elim (hDD j) (fun q => Nat.le_trans bl.size q)
  replace bl := bl9
  replace bl0 := bl
  replace hd := hd2
  replace sd := sd2 sz2 df2 sd
  clear df2 sz2 old2 hd2 bl9
  clear O OM hD2
  clear DD
  obtain ⟨DD, rfl⟩ : ∃ E, E = D2 := ⟨_, rfl⟩
  clear x38
  clear x40
  clear x42
  refine wl_one (.eq (.int .i64 (wrt s oo.s oo.bs).1)) rfl 9 rfl (by rw [sd.1]; decide) (st_assign (.tmp 43) rfl x43) ?_
  intro f20 w20 df2 sz2 old2 new2 hb
  replace x1 := tr old2 x1 rfl
  replace x5 := tr old2 x5 rfl
  replace x26 := tr old2 x26 rfl
  replace x27 := tr old2 x27 rfl
  replace x28 := tr old2 x28 rfl
  replace x8 := tr old2 x8 rfl
  replace x43 := tr old2 x43 rfl
  have x9 := Fk.e new2
  replace hd := HD.below hd hb
  replace bl := bgo bl hb
  replace sd := sd2 sz2 df2 sd
  clear df2 sz2 old2 new2 hb
  refine wpList_nil ?_
  clear x43
  have hp := pw_wrt hpw oo.s oo.bs
  have gs2 := gd_wrt gs oo.s oo.bs
  obtain ⟨E, hE⟩ : ∃ q, q = wrt s oo.s oo.bs := ⟨_, rfl⟩
  rw [← hE] at hp gs2 hd x9
  clear hE
  show Code.wp _ _ _ _ _
  refine wp_seq ?_
  have hdf : arm < 0 → E.2.down = false := fun h => (hp.1.2 h).2
  have hdo : 0 ≤ arm → (E.2.done : Int) ≤ arm := fun h => by have := hp.1.1 h; omega
  have h4 : (s.down = true ∧ 0 ≤ arm) ∨ (s.down = true ∧ arm < 0) ∨ (s.down = false ∧ 0 ≤ arm) ∨ (s.down = false ∧ arm < 0) := by
    rcases Bool.eq_false_or_eq_true (s.down) with q | q <;> rcases Int.lt_or_le arm 0 with q2 | q2 <;> simp [q, q2] <;> omega
  rcases h4 with ⟨hw9, ha9⟩ | ⟨hw9, ha9⟩ | ⟨hw9, ha9⟩ | ⟨hw9, ha9⟩
  · skip
    rw [hw9] at x8
    refine wr_a [.eq (.bool true), .eq (.bool true), .eq (.int .i64 E.1), .eq (.bool false), .eq (.bool false), .eq (.bool false), .eq (.int .i64 arm), .eq (.bool true), .eq (.bool true), .eq (.pointer (some ⟨gd, 0, none⟩)), .eq (.int .i64 (E.2.done : Int)), .eq (.int .i64 arm), .eq (.bool false), .eq (.bool false), .eq (.bool false), .eq (.bool false), .eq (.int .i64 arm), .eq (.bool false), .eq (.bool false), .any, .any, .eq (.bool false), .eq (.bool false), .eq (.bool false), .eq (.pointer (some ⟨gd, 0, none⟩)), .eq (.bool E.2.down), .eq (.int .i64 E.1), .eq (.bool E.2.down), .eq (.bool false), .eq (.bool false)] (by rw [sd.1]; kernel_rfl) ⟨fun hw ac u K => ?_, fun hw ac u K => ?_, fun hw ac u K => ?_, fun hw ac u K => ?_, fun hw ac u K => ?_, fun hw ac u K => ?_, fun hw ac u K => ?_, fun hw ac u K => ?_, fun hw ac u K => ?_, fun hw ac u K => ?_, fun hw ac u K => ?_, fun hw ac u K => ?_, fun hw ac u K => ?_, fun hw ac u K => ?_, fun hw ac u K => ?_, fun hw ac u K => ?_, fun hw ac u K => ?_, fun hw ac u K => ?_, fun hw ac u K => ?_, fun hw ac u K => ?_, fun hw ac u K => ?_, fun hw ac u K => ?_, fun hw ac u K => ?_, fun hw ac u K => ?_, fun hw ac u K => ?_, fun hw ac u K => ?_, fun hw ac u K => ?_, fun hw ac u K => ?_, fun hw ac u K => ?_, fun hw ac u K => ?_, trivial⟩ ?_
    · exact st_move (.tmp 8) rfl (K.t x8 rfl)
    · exact st_move (.tmp 57) rfl (K.dep 0 57 rfl)
    · exact st_move (.tmp 9) rfl (K.t x9 rfl)
    · exact st_neqi 37 (.tmp 59) (.const (.int .i64 30)) rfl .i64 (E.1) (30) (K.dep 2 59 rfl) rfl _ (by symm; rw [decide_eq_false_iff_not]; exact (fun h => h (hp.2.1 hw9)))
    · exact st_pick_t (.tmp 58) (.tmp 60) (.const (.bool false)) rfl (K.dep 1 58 rfl) (K.dep 3 60 rfl)
    · exact st_move (.tmp 61) rfl (K.dep 4 61 rfl)
    · exact st_move (.tmp 1) rfl (K.t x1 rfl)
    · exact st_geq 3 (.tmp 63) (.const (.int .i64 0)) rfl .i64 (arm) (0) (K.dep 6 63 rfl) rfl _ (by rw [eq_comm, decide_eq_true_iff]; omega)
    · exact st_move (.tmp 64) rfl (K.dep 7 64 rfl)
    · exact st_move (.tmp 5) rfl (K.t x5 rfl)
    · exact st_call 24 (.func 24) _ _ _ rfl rfl (one_arg (K.dep 9 66 rfl)) Try.enter24 (fk_ddone (HD.below hd K.grow))
    · exact st_move (.tmp 1) rfl (K.t x1 rfl)
    · exact st_gtr 3 (.tmp 67) (.tmp 68) rfl .i64 ((E.2.done : Int)) (arm) (K.dep 10 67 rfl) (K.dep 11 68 rfl) _ (by have := hdo ha9; rw [eq_comm, decide_eq_false_iff_not]; omega)
    · exact st_pick_t (.tmp 65) (.tmp 69) (.const (.bool false)) rfl (K.dep 8 65 rfl) (K.dep 12 69 rfl)
    · exact st_pick_f' (.tmp 62) (.const (.bool true)) (.tmp 70) rfl (K.dep 5 62 rfl) (K.dep 13 70 rfl)
    · exact st_move (.tmp 71) rfl (K.dep 14 71 rfl)
    · exact st_move (.tmp 1) rfl (K.t x1 rfl)
    · exact st_lss 3 (.tmp 73) (.const (.int .i64 0)) rfl .i64 (arm) (0) (K.dep 16 73 rfl) rfl _ (by rw [eq_comm, decide_eq_false_iff_not]; omega)
    · exact st_move (.tmp 74) rfl (K.dep 17 74 rfl)
    · exact (Bool.false_ne_true hw).elim
    · exact (Bool.false_ne_true hw).elim
    · exact st_pick_f' (.tmp 75) (.tmp 77) (.const (.bool false)) rfl (K.dep 18 75 rfl) rfl
    · exact st_pick_f' (.tmp 72) (.const (.bool true)) (.tmp 78) rfl (K.dep 15 72 rfl) (K.dep 21 78 rfl)
    · exact st_move (.tmp 79) rfl (K.dep 22 79 rfl)
    · exact st_move (.tmp 5) rfl (K.t x5 rfl)
    · exact st_call 23 (.func 23) _ _ _ rfl rfl (one_arg (K.dep 24 81 rfl)) Try.enter23 (fk_ddown (HD.below hd K.grow))
    · exact st_move (.tmp 9) rfl (K.t x9 rfl)
    · exact st_eqi 37 (.tmp 83) (.const (.int .i64 30)) rfl .i64 (E.1) (30) (K.dep 26 83 rfl) rfl _ hp.2.2
    · exact st_neqb (.tmp 82) (.tmp 84) rfl E.2.down (K.dep 25 82 rfl) (K.dep 27 84 rfl)
    · exact st_pick_f' (.tmp 80) (.const (.bool true)) (.tmp 85) rfl (K.dep 23 80 rfl) (K.dep 28 85 rfl)
    intro f21 w21 A hb
    replace x1 := A.t x1 rfl
    replace x5 := A.t x5 rfl
    replace x26 := A.t x26 rfl
    replace x27 := A.t x27 rfl
    replace x28 := A.t x28 rfl
    replace x8 := A.t x8 rfl
    replace x9 := A.t x9 rfl
    have x86 := A.e 29 86 rfl rfl
    replace hd := HD.below hd hb
    replace bl := bgo bl hb
    replace sd := A.sd sd
    clear A hb
    clear x8
    clear x9
    show Code.wp _ _ _ _ _
    refine wp_cond_false x86 ?_
    refine wp_skip ?_
    show Code.wp _ _ _ _ _
    refine wr_s [.eq (.int .i64 ((k + 1 : Nat) : Int))] (by rw [sd.1]; kernel_rfl) ⟨fun hw ac u K => ?_, trivial⟩ ?_
    · exact st_add (.tmp 28) (.const (.int .i64 1)) rfl (k) (1) (k + 1) (K.t x28 rfl) rfl (by omega) (by omega)
    intro f22 w22 A hb
    replace x1 := A.t x1 rfl
    replace x5 := A.t x5 rfl
    replace x26 := A.t x26 rfl
    replace x27 := A.t x27 rfl
    replace x28 := A.t x28 rfl
    replace x86 := A.t x86 rfl
    have x87 := A.e 0 87 rfl rfl
    replace hd := HD.below hd hb
    replace bl := bgo bl hb
    replace sd := A.sd sd
    clear A hb
    clear x86
    refine wl_one (.eq (.int .i64 ((k + 1 : Nat) : Int))) rfl 28 rfl (by rw [sd.1]; decide) (st_move (.tmp 87) rfl x87) ?_
    intro f23 w23 df2 sz2 old2 new2 hb
    replace x1 := tr old2 x1 rfl
    replace x5 := tr old2 x5 rfl
    replace x26 := tr old2 x26 rfl
    replace x27 := tr old2 x27 rfl
    clear x28
    replace x87 := tr old2 x87 rfl
    have x28 := Fk.e new2
    replace hd := HD.below hd hb
    replace bl := bgo bl hb
    replace sd := sd2 sz2 df2 sd
    clear df2 sz2 old2 new2 hb
    refine wpList_nil ?_
    clear x87
    show (∃ _, _) ∧ _
    refine ⟨⟨k + 1, E.2, DD, by omega, gs2, hp.1, hDD, sd.1, sd.2, x1, x5, x26, x27, x28, hd, bl⟩, ?_⟩
    rw [show f23.eval (.tmp 28) = _ from x28, show _ = _ from hcnt]
    first | (simp [intOf]; done) | (simp [intOf]; omega)
  · skip
    rw [hw9] at x8
    refine wr_a [.eq (.bool true), .eq (.bool true), .eq (.int .i64 E.1), .eq (.bool false), .eq (.bool false), .eq (.bool false), .eq (.int .i64 arm), .eq (.bool false), .eq (.bool false), .any, .any, .any, .any, .eq (.bool false), .eq (.bool false), .eq (.bool false), .eq (.int .i64 arm), .eq (.bool true), .eq (.bool true), .eq (.pointer (some ⟨gd, 0, none⟩)), .eq (.bool false), .eq (.bool false), .eq (.bool false), .eq (.bool false), .eq (.pointer (some ⟨gd, 0, none⟩)), .eq (.bool E.2.down), .eq (.int .i64 E.1), .eq (.bool E.2.down), .eq (.bool false), .eq (.bool false)] (by rw [sd.1]; kernel_rfl) ⟨fun hw ac u K => ?_, fun hw ac u K => ?_, fun hw ac u K => ?_, fun hw ac u K => ?_, fun hw ac u K => ?_, fun hw ac u K => ?_, fun hw ac u K => ?_, fun hw ac u K => ?_, fun hw ac u K => ?_, fun hw ac u K => ?_, fun hw ac u K => ?_, fun hw ac u K => ?_, fun hw ac u K => ?_, fun hw ac u K => ?_, fun hw ac u K => ?_, fun hw ac u K => ?_, fun hw ac u K => ?_, fun hw ac u K => ?_, fun hw ac u K => ?_, fun hw ac u K => ?_, fun hw ac u K => ?_, fun hw ac u K => ?_, fun hw ac u K => ?_, fun hw ac u K => ?_, fun hw ac u K => ?_, fun hw ac u K => ?_, fun hw ac u K => ?_, fun hw ac u K => ?_, fun hw ac u K => ?_, fun hw ac u K => ?_, trivial⟩ ?_
    · exact st_move (.tmp 8) rfl (K.t x8 rfl)
    · exact st_move (.tmp 57) rfl (K.dep 0 57 rfl)
    · exact st_move (.tmp 9) rfl (K.t x9 rfl)
    · exact st_neqi 37 (.tmp 59) (.const (.int .i64 30)) rfl .i64 (E.1) (30) (K.dep 2 59 rfl) rfl _ (by symm; rw [decide_eq_false_iff_not]; exact (fun h => h (hp.2.1 hw9)))
    · exact st_pick_t (.tmp 58) (.tmp 60) (.const (.bool false)) rfl (K.dep 1 58 rfl) (K.dep 3 60 rfl)
    · exact st_move (.tmp 61) rfl (K.dep 4 61 rfl)
    · exact st_move (.tmp 1) rfl (K.t x1 rfl)
    · exact st_geq 3 (.tmp 63) (.const (.int .i64 0)) rfl .i64 (arm) (0) (K.dep 6 63 rfl) rfl _ (by rw [eq_comm, decide_eq_false_iff_not]; omega)
    · exact st_move (.tmp 64) rfl (K.dep 7 64 rfl)
    · exact (Bool.false_ne_true hw).elim
    · exact (Bool.false_ne_true hw).elim
    · exact (Bool.false_ne_true hw).elim
    · exact (Bool.false_ne_true hw).elim
    · exact st_pick_f' (.tmp 65) (.tmp 69) (.const (.bool false)) rfl (K.dep 8 65 rfl) rfl
    · exact st_pick_f' (.tmp 62) (.const (.bool true)) (.tmp 70) rfl (K.dep 5 62 rfl) (K.dep 13 70 rfl)
    · exact st_move (.tmp 71) rfl (K.dep 14 71 rfl)
    · exact st_move (.tmp 1) rfl (K.t x1 rfl)
    · exact st_lss 3 (.tmp 73) (.const (.int .i64 0)) rfl .i64 (arm) (0) (K.dep 16 73 rfl) rfl _ (by rw [eq_comm, decide_eq_true_iff]; omega)
    · exact st_move (.tmp 74) rfl (K.dep 17 74 rfl)
    · exact st_move (.tmp 5) rfl (K.t x5 rfl)
    · exact st_call 23 (.func 23) _ _ _ rfl rfl (one_arg (K.dep 19 76 rfl)) Try.enter23 ((by have := fk_ddown (HD.below hd K.grow); rw [hdf ha9] at this; exact this))
    · exact st_pick_t (.tmp 75) (.tmp 77) (.const (.bool false)) rfl (K.dep 18 75 rfl) (K.dep 20 77 rfl)
    · exact st_pick_f' (.tmp 72) (.const (.bool true)) (.tmp 78) rfl (K.dep 15 72 rfl) (K.dep 21 78 rfl)
    · exact st_move (.tmp 79) rfl (K.dep 22 79 rfl)
    · exact st_move (.tmp 5) rfl (K.t x5 rfl)
    · exact st_call 23 (.func 23) _ _ _ rfl rfl (one_arg (K.dep 24 81 rfl)) Try.enter23 (fk_ddown (HD.below hd K.grow))
    · exact st_move (.tmp 9) rfl (K.t x9 rfl)
    · exact st_eqi 37 (.tmp 83) (.const (.int .i64 30)) rfl .i64 (E.1) (30) (K.dep 26 83 rfl) rfl _ hp.2.2
    · exact st_neqb (.tmp 82) (.tmp 84) rfl E.2.down (K.dep 25 82 rfl) (K.dep 27 84 rfl)
    · exact st_pick_f' (.tmp 80) (.const (.bool true)) (.tmp 85) rfl (K.dep 23 80 rfl) (K.dep 28 85 rfl)
    intro f21 w21 A hb
    replace x1 := A.t x1 rfl
    replace x5 := A.t x5 rfl
    replace x26 := A.t x26 rfl
    replace x27 := A.t x27 rfl
    replace x28 := A.t x28 rfl
    replace x8 := A.t x8 rfl
    replace x9 := A.t x9 rfl
    have x86 := A.e 29 86 rfl rfl
    replace hd := HD.below hd hb
    replace bl := bgo bl hb
    replace sd := A.sd sd
    clear A hb
    clear x8
    clear x9
    show Code.wp _ _ _ _ _
    refine wp_cond_false x86 ?_
    refine wp_skip ?_
    show Code.wp _ _ _ _ _
    refine wr_s [.eq (.int .i64 ((k + 1 : Nat) : Int))] (by rw [sd.1]; kernel_rfl) ⟨fun hw ac u K => ?_, trivial⟩ ?_
    · exact st_add (.tmp 28) (.const (.int .i64 1)) rfl (k) (1) (k + 1) (K.t x28 rfl) rfl (by omega) (by omega)
    intro f22 w22 A hb
    replace x1 := A.t x1 rfl
    replace x5 := A.t x5 rfl
    replace x26 := A.t x26 rfl
    replace x27 := A.t x27 rfl
    replace x28 := A.t x28 rfl
    replace x86 := A.t x86 rfl
    have x87 := A.e 0 87 rfl rfl
    replace hd := HD.below hd hb
    replace bl := bgo bl hb
    replace sd := A.sd sd
    clear A hb
    clear x86
    refine wl_one (.eq (.int .i64 ((k + 1 : Nat) : Int))) rfl 28 rfl (by rw [sd.1]; decide) (st_move (.tmp 87) rfl x87) ?_
    intro f23 w23 df2 sz2 old2 new2 hb
    replace x1 := tr old2 x1 rfl
    replace x5 := tr old2 x5 rfl
    replace x26 := tr old2 x26 rfl
    replace x27 := tr old2 x27 rfl
    clear x28
    replace x87 := tr old2 x87 rfl
    have x28 := Fk.e new2
    replace hd := HD.below hd hb
    replace bl := bgo bl hb
    replace sd := sd2 sz2 df2 sd
    clear df2 sz2 old2 new2 hb
    refine wpList_nil ?_
    clear x87
    show (∃ _, _) ∧ _
    refine ⟨⟨k + 1, E.2, DD, by omega, gs2, hp.1, hDD, sd.1, sd.2, x1, x5, x26, x27, x28, hd, bl⟩, ?_⟩
    rw [show f23.eval (.tmp 28) = _ from x28, show _ = _ from hcnt]
    first | (simp [intOf]; done) | (simp [intOf]; omega)
  · skip
    rw [hw9] at x8
    refine wr_a [.eq (.bool false), .eq (.bool false), .any, .any, .eq (.bool false), .eq (.bool false), .eq (.int .i64 arm), .eq (.bool true), .eq (.bool true), .eq (.pointer (some ⟨gd, 0, none⟩)), .eq (.int .i64 (E.2.done : Int)), .eq (.int .i64 arm), .eq (.bool false), .eq (.bool false), .eq (.bool false), .eq (.bool false), .eq (.int .i64 arm), .eq (.bool false), .eq (.bool false), .any, .any, .eq (.bool false), .eq (.bool false), .eq (.bool false), .eq (.pointer (some ⟨gd, 0, none⟩)), .eq (.bool E.2.down), .eq (.int .i64 E.1), .eq (.bool E.2.down), .eq (.bool false), .eq (.bool false)] (by rw [sd.1]; kernel_rfl) ⟨fun hw ac u K => ?_, fun hw ac u K => ?_, fun hw ac u K => ?_, fun hw ac u K => ?_, fun hw ac u K => ?_, fun hw ac u K => ?_, fun hw ac u K => ?_, fun hw ac u K => ?_, fun hw ac u K => ?_, fun hw ac u K => ?_, fun hw ac u K => ?_, fun hw ac u K => ?_, fun hw ac u K => ?_, fun hw ac u K => ?_, fun hw ac u K => ?_, fun hw ac u K => ?_, fun hw ac u K => ?_, fun hw ac u K => ?_, fun hw ac u K => ?_, fun hw ac u K => ?_, fun hw ac u K => ?_, fun hw ac u K => ?_, fun hw ac u K => ?_, fun hw ac u K => ?_, fun hw ac u K => ?_, fun hw ac u K => ?_, fun hw ac u K => ?_, fun hw ac u K => ?_, fun hw ac u K => ?_, fun hw ac u K => ?_, trivial⟩ ?_
    · exact st_move (.tmp 8) rfl (K.t x8 rfl)
    · exact st_move (.tmp 57) rfl (K.dep 0 57 rfl)
    · exact (Bool.false_ne_true hw).elim
    · exact (Bool.false_ne_true hw).elim
    · exact st_pick_f' (.tmp 58) (.tmp 60) (.const (.bool false)) rfl (K.dep 1 58 rfl) rfl
    · exact st_move (.tmp 61) rfl (K.dep 4 61 rfl)
    · exact st_move (.tmp 1) rfl (K.t x1 rfl)
    · exact st_geq 3 (.tmp 63) (.const (.int .i64 0)) rfl .i64 (arm) (0) (K.dep 6 63 rfl) rfl _ (by rw [eq_comm, decide_eq_true_iff]; omega)
    · exact st_move (.tmp 64) rfl (K.dep 7 64 rfl)
    · exact st_move (.tmp 5) rfl (K.t x5 rfl)
    · exact st_call 24 (.func 24) _ _ _ rfl rfl (one_arg (K.dep 9 66 rfl)) Try.enter24 (fk_ddone (HD.below hd K.grow))
    · exact st_move (.tmp 1) rfl (K.t x1 rfl)
    · exact st_gtr 3 (.tmp 67) (.tmp 68) rfl .i64 ((E.2.done : Int)) (arm) (K.dep 10 67 rfl) (K.dep 11 68 rfl) _ (by have := hdo ha9; rw [eq_comm, decide_eq_false_iff_not]; omega)
    · exact st_pick_t (.tmp 65) (.tmp 69) (.const (.bool false)) rfl (K.dep 8 65 rfl) (K.dep 12 69 rfl)
    · exact st_pick_f' (.tmp 62) (.const (.bool true)) (.tmp 70) rfl (K.dep 5 62 rfl) (K.dep 13 70 rfl)
    · exact st_move (.tmp 71) rfl (K.dep 14 71 rfl)
    · exact st_move (.tmp 1) rfl (K.t x1 rfl)
    · exact st_lss 3 (.tmp 73) (.const (.int .i64 0)) rfl .i64 (arm) (0) (K.dep 16 73 rfl) rfl _ (by rw [eq_comm, decide_eq_false_iff_not]; omega)
    · exact st_move (.tmp 74) rfl (K.dep 17 74 rfl)
    · exact (Bool.false_ne_true hw).elim
    · exact (Bool.false_ne_true hw).elim
    · exact st_pick_f' (.tmp 75) (.tmp 77) (.const (.bool false)) rfl (K.dep 18 75 rfl) rfl
    · exact st_pick_f' (.tmp 72) (.const (.bool true)) (.tmp 78) rfl (K.dep 15 72 rfl) (K.dep 21 78 rfl)
    · exact st_move (.tmp 79) rfl (K.dep 22 79 rfl)
    · exact st_move (.tmp 5) rfl (K.t x5 rfl)
    · exact st_call 23 (.func 23) _ _ _ rfl rfl (one_arg (K.dep 24 81 rfl)) Try.enter23 (fk_ddown (HD.below hd K.grow))
    · exact st_move (.tmp 9) rfl (K.t x9 rfl)
    · exact st_eqi 37 (.tmp 83) (.const (.int .i64 30)) rfl .i64 (E.1) (30) (K.dep 26 83 rfl) rfl _ hp.2.2
    · exact st_neqb (.tmp 82) (.tmp 84) rfl E.2.down (K.dep 25 82 rfl) (K.dep 27 84 rfl)
    · exact st_pick_f' (.tmp 80) (.const (.bool true)) (.tmp 85) rfl (K.dep 23 80 rfl) (K.dep 28 85 rfl)
    intro f21 w21 A hb
    replace x1 := A.t x1 rfl
    replace x5 := A.t x5 rfl
    replace x26 := A.t x26 rfl
    replace x27 := A.t x27 rfl
    replace x28 := A.t x28 rfl
    replace x8 := A.t x8 rfl
    replace x9 := A.t x9 rfl
    have x86 := A.e 29 86 rfl rfl
    replace hd := HD.below hd hb
    replace bl := bgo bl hb
    replace sd := A.sd sd
    clear A hb
    clear x8
    clear x9
    show Code.wp _ _ _ _ _
    refine wp_cond_false x86 ?_
    refine wp_skip ?_
    show Code.wp _ _ _ _ _
    refine wr_s [.eq (.int .i64 ((k + 1 : Nat) : Int))] (by rw [sd.1]; kernel_rfl) ⟨fun hw ac u K => ?_, trivial⟩ ?_
    · exact st_add (.tmp 28) (.const (.int .i64 1)) rfl (k) (1) (k + 1) (K.t x28 rfl) rfl (by omega) (by omega)
    intro f22 w22 A hb
    replace x1 := A.t x1 rfl
    replace x5 := A.t x5 rfl
    replace x26 := A.t x26 rfl
    replace x27 := A.t x27 rfl
    replace x28 := A.t x28 rfl
    replace x86 := A.t x86 rfl
    have x87 := A.e 0 87 rfl rfl
    replace hd := HD.below hd hb
    replace bl := bgo bl hb
    replace sd := A.sd sd
    clear A hb
    clear x86
    refine wl_one (.eq (.int .i64 ((k + 1 : Nat) : Int))) rfl 28 rfl (by rw [sd.1]; decide) (st_move (.tmp 87) rfl x87) ?_
    intro f23 w23 df2 sz2 old2 new2 hb
    replace x1 := tr old2 x1 rfl
    replace x5 := tr old2 x5 rfl
    replace x26 := tr old2 x26 rfl
    replace x27 := tr old2 x27 rfl
    clear x28
    replace x87 := tr old2 x87 rfl
    have x28 := Fk.e new2
    replace hd := HD.below hd hb
    replace bl := bgo bl hb
    replace sd := sd2 sz2 df2 sd
    clear df2 sz2 old2 new2 hb
    refine wpList_nil ?_
    clear x87
    show (∃ _, _) ∧ _
    refine ⟨⟨k + 1, E.2, DD, by omega, gs2, hp.1, hDD, sd.1, sd.2, x1, x5, x26, x27, x28, hd, bl⟩, ?_⟩
    rw [show f23.eval (.tmp 28) = _ from x28, show _ = _ from hcnt]
    first | (simp [intOf]; done) | (simp [intOf]; omega)
  rw [hw9] at x8
  refine wr_a [.eq (.bool false), .eq (.bool false), .any, .any, .eq (.bool false), .eq (.bool false), .eq (.int .i64 arm), .eq (.bool false), .eq (.bool false), .any, .any, .any, .any, .eq (.bool false), .eq (.bool false), .eq (.bool false), .eq (.int .i64 arm), .eq (.bool true), .eq (.bool true), .eq (.pointer (some ⟨gd, 0, none⟩)), .eq (.bool false), .eq (.bool false), .eq (.bool false), .eq (.bool false), .eq (.pointer (some ⟨gd, 0, none⟩)), .eq (.bool E.2.down), .eq (.int .i64 E.1), .eq (.bool E.2.down), .eq (.bool false), .eq (.bool false)] (by rw [sd.1]; kernel_rfl) ⟨fun hw ac u K => ?_, fun hw ac u K => ?_, fun hw ac u K => ?_, fun hw ac u K => ?_, fun hw ac u K => ?_, fun hw ac u K => ?_, fun hw ac u K => ?_, fun hw ac u K => ?_, fun hw ac u K => ?_, fun hw ac u K => ?_, fun hw ac u K => ?_, fun hw ac u K => ?_, fun hw ac u K => ?_, fun hw ac u K => ?_, fun hw ac u K => ?_, fun hw ac u K => ?_, fun hw ac u K => ?_, fun hw ac u K => ?_, fun hw ac u K => ?_, fun hw ac u K => ?_, fun hw ac u K => ?_, fun hw ac u K => ?_, fun hw ac u K => ?_, fun hw ac u K => ?_, fun hw ac u K => ?_, fun hw ac u K => ?_, fun hw ac u K => ?_, fun hw ac u K => ?_, fun hw ac u K => ?_, fun hw ac u K => ?_, trivial⟩ ?_
  · exact st_move (.tmp 8) rfl (K.t x8 rfl)
  · exact st_move (.tmp 57) rfl (K.dep 0 57 rfl)
  · exact (Bool.false_ne_true hw).elim
  · exact (Bool.false_ne_true hw).elim
  · exact st_pick_f' (.tmp 58) (.tmp 60) (.const (.bool false)) rfl (K.dep 1 58 rfl) rfl
  · exact st_move (.tmp 61) rfl (K.dep 4 61 rfl)
  · exact st_move (.tmp 1) rfl (K.t x1 rfl)
  · exact st_geq 3 (.tmp 63) (.const (.int .i64 0)) rfl .i64 (arm) (0) (K.dep 6 63 rfl) rfl _ (by rw [eq_comm, decide_eq_false_iff_not]; omega)
  · exact st_move (.tmp 64) rfl (K.dep 7 64 rfl)
  · exact (Bool.false_ne_true hw).elim
  · exact (Bool.false_ne_true hw).elim
  · exact (Bool.false_ne_true hw).elim
  · exact (Bool.false_ne_true hw).elim
  · exact st_pick_f' (.tmp 65) (.tmp 69) (.const (.bool false)) rfl (K.dep 8 65 rfl) rfl
  · exact st_pick_f' (.tmp 62) (.const (.bool true)) (.tmp 70) rfl (K.dep 5 62 rfl) (K.dep 13 70 rfl)
  · exact st_move (.tmp 71) rfl (K.dep 14 71 rfl)
  · exact st_move (.tmp 1) rfl (K.t x1 rfl)
  · exact st_lss 3 (.tmp 73) (.const (.int .i64 0)) rfl .i64 (arm) (0) (K.dep 16 73 rfl) rfl _ (by rw [eq_comm, decide_eq_true_iff]; omega)
  · exact st_move (.tmp 74) rfl (K.dep 17 74 rfl)
  · exact st_move (.tmp 5) rfl (K.t x5 rfl)
  · exact st_call 23 (.func 23) _ _ _ rfl rfl (one_arg (K.dep 19 76 rfl)) Try.enter23 ((by have := fk_ddown (HD.below hd K.grow); rw [hdf ha9] at this; exact this))
  · exact st_pick_t (.tmp 75) (.tmp 77) (.const (.bool false)) rfl (K.dep 18 75 rfl) (K.dep 20 77 rfl)
  · exact st_pick_f' (.tmp 72) (.const (.bool true)) (.tmp 78) rfl (K.dep 15 72 rfl) (K.dep 21 78 rfl)
  · exact st_move (.tmp 79) rfl (K.dep 22 79 rfl)
  · exact st_move (.tmp 5) rfl (K.t x5 rfl)
  · exact st_call 23 (.func 23) _ _ _ rfl rfl (one_arg (K.dep 24 81 rfl)) Try.enter23 (fk_ddown (HD.below hd K.grow))
  · exact st_move (.tmp 9) rfl (K.t x9 rfl)
  · exact st_eqi 37 (.tmp 83) (.const (.int .i64 30)) rfl .i64 (E.1) (30) (K.dep 26 83 rfl) rfl _ hp.2.2
  · exact st_neqb (.tmp 82) (.tmp 84) rfl E.2.down (K.dep 25 82 rfl) (K.dep 27 84 rfl)
  · exact st_pick_f' (.tmp 80) (.const (.bool true)) (.tmp 85) rfl (K.dep 23 80 rfl) (K.dep 28 85 rfl)
  intro f21 w21 A hb
  replace x1 := A.t x1 rfl
  replace x5 := A.t x5 rfl
  replace x26 := A.t x26 rfl
  replace x27 := A.t x27 rfl
  replace x28 := A.t x28 rfl
  replace x8 := A.t x8 rfl
  replace x9 := A.t x9 rfl
  have x86 := A.e 29 86 rfl rfl
  replace hd := HD.below hd hb
  replace bl := bgo bl hb
  replace sd := A.sd sd
  clear A hb
  clear x8
  clear x9
  show Code.wp _ _ _ _ _
  refine wp_cond_false x86 ?_
  refine wp_skip ?_
  show Code.wp _ _ _ _ _
  refine wr_s [.eq (.int .i64 ((k + 1 : Nat) : Int))] (by rw [sd.1]; kernel_rfl) ⟨fun hw ac u K => ?_, trivial⟩ ?_
  · exact st_add (.tmp 28) (.const (.int .i64 1)) rfl (k) (1) (k + 1) (K.t x28 rfl) rfl (by omega) (by omega)
  intro f22 w22 A hb
  replace x1 := A.t x1 rfl
  replace x5 := A.t x5 rfl
  replace x26 := A.t x26 rfl
  replace x27 := A.t x27 rfl
  replace x28 := A.t x28 rfl
  replace x86 := A.t x86 rfl
  have x87 := A.e 0 87 rfl rfl
  replace hd := HD.below hd hb
  replace bl := bgo bl hb
  replace sd := A.sd sd
  clear A hb
  clear x86
  refine wl_one (.eq (.int .i64 ((k + 1 : Nat) : Int))) rfl 28 rfl (by rw [sd.1]; decide) (st_move (.tmp 87) rfl x87) ?_
  intro f23 w23 df2 sz2 old2 new2 hb
  replace x1 := tr old2 x1 rfl
  replace x5 := tr old2 x5 rfl
  replace x26 := tr old2 x26 rfl
  replace x27 := tr old2 x27 rfl
  clear x28
  replace x87 := tr old2 x87 rfl
  have x28 := Fk.e new2
  replace hd := HD.below hd hb
  replace bl := bgo bl hb
  replace sd := sd2 sz2 df2 sd
  clear df2 sz2 old2 new2 hb
  refine wpList_nil ?_
  clear x87
  show (∃ _, _) ∧ _
  refine ⟨⟨k + 1, E.2, DD, by omega, gs2, hp.1, hDD, sd.1, sd.2, x1, x5, x26, x27, x28, hd, bl⟩, ?_⟩
  rw [show f23.eval (.tmp 28) = _ from x28, show _ = _ from hcnt]
  first | (simp [intOf]; done) | (simp [intOf]; omega)
end Go.Proofs.Ytjdpomilifnlaaa
