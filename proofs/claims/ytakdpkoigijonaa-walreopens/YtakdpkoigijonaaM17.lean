/- WalReopens. -/
import Derived.Test.YtakdpkoigijonaaM16
namespace Go.Proofs.Ytakdpkoigijonaa
set_option maxRecDepth 100000
open Go.RowKit
theorem homes_mb2 {w : World} {gw gd n z k9 : Nat} {V M D X : Nat → Prop} {s : Dst} (hw : HW w gw gd V n z false) (hd : HD w gd M D s) (gs : Gd s n z k9) (hs : s.down = false) (hVD : ∀ j, V j → ¬ D j) (h0 : 0 < homN n) (h9 : homN n ≤ 1000) (hX : ∀ j, X j → j < w.heap.size) :
    Calls Try.prog 18 #[.pointer (some ⟨gw, 0, none⟩), .int .i64 ((homN n : Nat) : Int)] w fun e w' => ∃ u, e = .returned u ∧ ∃ (D2 : Nat → Prop) (v : Value), u = .tuple #[v, .bool true] ∧ MBs w' X (fun _ => False) (homN n) (.some (hml s (homN n))) v ∧ HD w' gd M D2 s ∧ (∀ j, D2 j → D j ∨ w.heap.size ≤ j) ∧ Fr M w w' := by
  have hlt := hw.lt
  refine (fk_homes hw hd gs hs hVD hlt (Nat.le_refl _) h9).mono ?_
  rintro e w' ⟨D', v, rfl, h1, h2, h3, h4, h5, h6⟩
  refine ⟨_, rfl, D', v, rfl, ?_, h2, h4, h6⟩
  have hne : hml s (homN n) ≠ [] := fun e => by have := hml_len s (homN n); rw [e] at this; simp at this; omega
  obtain ⟨g, C, rfl, q1, q2, q3⟩ := os_block12 h1 hne
  rw [hml_len] at h5 ⊢
  exact .inr ⟨_, g, C, rfl, rfl, hml_len _ _, q3, fun q => by have := hX _ q; omega, fun q => q⟩
theorem MBs.noV {w : World} {D V : Nat → Prop} {h : Nat} {mb : Option (List Byt)} {v : Value} (q : MBs w D V h mb v) : MBs w D (fun _ => False) h mb v := by
  rcases q with q | ⟨x, g, C, h1, h2, h3, h4, h5, _⟩
  · exact .inl q
  · exact .inr ⟨x, g, C, h1, h2, h3, h4, h5, fun q => q⟩
theorem open_no12 {w : World} {gd n z k9 : Nat} {M D : Nat → Prop} {s s2 : Dst} {r : Int} (hd : HD w gd M D s) (gs : Gd s n z k9) (gw9 : Gw s n z) (hk : k9 + 4 * (n + 2) ≤ 1000000) (hr : r ≠ 0) (h0 : wopn (homN n) (prsP n) (hdz z) s = (r, s2)) :
    Calls Try.prog 9 #[.pointer (some ⟨gd, 0, none⟩)] w fun e w' => ∃ u, e = .returned u ∧ ∃ (D2 : Nat → Prop), u = .tuple #[.pointer none, .int .i64 r] ∧ HD w' gd M D2 s2 ∧ Gd s2 n z (k9 + 4 * (n + 2)) ∧ (∀ j, D2 j → D j ∨ w.heap.size ≤ j) ∧ Fr M w w' := by
  refine (fk_wopen hd gs gw9 hk).mono ?_
  rw [h0]
  rintro e w' ⟨D', u, rfl, h1, h2, _, h3, h5, h6⟩
  obtain rfl := h3 hr
  exact ⟨_, rfl, D', rfl, h1, h2, h5, h6⟩
theorem SV.gw {n z : Nat} {t : Dst} {v : List Byt} (h : SV n z t v) : Gw t n z := by
  obtain ⟨⟨a, q⟩, _⟩ := h
  exact q.1
theorem li_sv {n z : Nat} (h3 : 3 ≤ n) (h32 : 32 ≤ z) (hn : n ≤ 100000) {s : Dst} {dn : Bool} {now : List Byt} {mb : Option (List Byt)} (h : LI n z s dn now mb) (lost : List Int) : ∃ v, SV n z (crs s lost) v := by
  have hi : Inv n (homN n) (prsP n) s (fun v => v = now ∨ mb = some v) := by
    rcases h.2 with ⟨_, _, a, q⟩ | ⟨_, _, q⟩
    · exact (q.inv (hd_ok h3 h32 hn)).mono (fun v e => .inl e)
    · exact q
  obtain ⟨v, _, q⟩ := SV.crash h.gw hi lost
  exact ⟨v, q⟩
theorem com_li {n z : Nat} (h3 : 3 ≤ n) (h32 : 32 ≤ z) (hn : n ≤ 100000) {s s' : Dst} {dn dn' : Bool} {now : List Byt} {mb : Option (List Byt)} {l : List Cng} {r : Int} (h : LI n z s dn now mb) (hC : ComIs n z s dn l r s' dn') : ∃ now' mb', LI n z s' dn' now' mb' := by
  rcases hC with ⟨_, _, rfl, rfl⟩ | ⟨_, q2, _, rfl, rfl⟩ | ⟨_, q2, _, _, rfl, rfl⟩ | ⟨_, q2, q3, q4, q5⟩
  · exact ⟨_, _, h⟩
  · exact ⟨_, _, q2 ▸ h⟩
  · exact ⟨_, _, q2 ▸ h⟩
  · subst q2
    rcases LI.com h3 h32 hn h q3 with ⟨e1, e2⟩ | ⟨e1, e2⟩ <;> rw [← q4] at e1 e2
    · obtain rfl : r = 0 := e1
      exact ⟨_, _, by rw [q5]; exact e2⟩
    · obtain rfl : r = 30 := e1
      exact ⟨_, _, by rw [q5]; exact e2⟩
theorem lit64 {z : Int} (h : (Lit.int .i64 z).wf = true) : z ≤ 9223372036854775807 := by
  have h2 : (decide ((-9223372036854775808 : Int) ≤ z) && decide (z ≤ (9223372036854775807 : Int))) = true := h
  rw [Bool.and_eq_true] at h2
  exact of_decide_eq_true h2.2
theorem tail_is {l : List Int} {A : Option Addr} {C : Nat} {w : World} (h : (Fk.is l).f (.slice A l.length C) w) (hC : l.length ≤ C) (h1 : 1 ≤ l.length) : (Fk.is (l.drop 1)).f (sliced A 1 l.length C 1) w := by
  obtain ⟨A', C', lb, lo, e, hA, hl, hr⟩ := h
  cases e
  unfold sliced
  refine ⟨_, _, lb, lo + 1, by rw [List.length_drop], fun h0 => ?_, by simp [zv], fun j u hj => ?_⟩
  · rw [List.length_drop] at h0
    rw [if_neg (by omega), hA (by omega)]
    simp [Addr.add_mid]
  · have h5 := hr (j + 1) u (by simpa [zv, List.getElem?_drop, Nat.add_comm] using hj)
    rw [show lo + 1 + j = lo + (j + 1) by omega]
    exact h5
section
variable {Q : Exit → Act → World → Prop} {o : Oper} {a : Act} {w : World}
theorem st_tailis (x y : Operand) (ho : o.op = .slice 37 x (some y) none none) {n : Nat} {A : Option Addr} {C : Nat} {v : Value} (hv : v = sliced A 1 n C 1) (hx : a.eval x = .slice A n C) (_hC : n ≤ C) (hy : a.eval y = .int .i64 1) (h1 : 1 ≤ n) : o.wp Try.prog a w (Ends a o.dst w (Fk.eq v).f) Q := by
  subst hv
  refine st_pure (v := sliced A 1 n C 1) ?_ rfl
  have h1 := run_slice_l (P := Try.prog) (w := w) 37 A n C (by rw [Try.elem37z]; exact Try.under37z) .i64 1 (by omega) (by omega)
  rw [Try.elem37z, Try.size3z] at h1
  simp only [Result.andThen_ok, Int.toNat_one] at h1
  have h2 := run_sliceAt_slice (P := Try.prog) (w := w) 37 (.slice A n C) (some (.int .i64 1)) none none (by rw [Try.elem37z]; exact Try.under37z)
  unfold execOp
  rw [ho]
  simp [hx, hy, h2, h1]
end
set_option maxHeartbeats 4000000 in
theorem reopens_law {l : List Op12} {v : Value} (hln : l.length ≤ maxLen) (w : World) (hv : (Fk.sr RO l).f v w) {xs ls : List Int} {A1 : Option Addr} {C1 : Nat} {v2 : Value} (hx1 : (Fk.is xs).f (.slice A1 xs.length C1) w) (hC1 : xs.length ≤ C1) (hwx : ∀ q ∈ xs, (Lit.int .i64 q).wf = true) (hy1 : (Fk.is ls).f v2 w) (hwy : ∀ q ∈ ls, (Lit.int .i64 q).wf = true) :
    Calls Try.prog 5 #[v, .slice A1 xs.length C1, v2] w fun e w' => e = .returned (.bool true) ∧ Below w.heap.size w w' := by
  go_enter Try.func5, Try.ntmps5
  refine code_both (fun f w1 => f.tmps.size = 179 ∧ f.defers = [] ∧ f.eval (.tmp 0) = v ∧ f.eval (.tmp 1) = .slice A1 xs.length C1 ∧ f.eval (.tmp 2) = v2 ∧ Below w.heap.size w (w1)) ⟨rfl, rfl, rfl, rfl, rfl, Below.refl _ _⟩ ?_
  rintro f0 w0 ⟨sz, df, x0, x1, x2, bl⟩
  have sd := And.intro sz df
  clear sz df
  have bl0 := bl
  refine wp_seq ?_
  refine wr_a [.eq (.bool false)] (by rw [sd.1]; kernel_rfl) ⟨fun hwt ac u K => ?_, trivial⟩ ?_
  · exact st_assign (.const (.bool false)) rfl rfl
  intro f1 w1 A hb
  replace x0 := A.t x0 rfl
  replace x1 := A.t x1 rfl
  replace x2 := A.t x2 rfl
  replace bl := bgo bl hb
  replace sd := A.sd sd
  clear A hb
  show Code.wp _ _ _ _ _
  refine wp_seq ?_
  refine wr_s [] (by rw [sd.1]; kernel_rfl) trivial ?_
  intro f2 w2 A hb
  replace x0 := A.t x0 rfl
  replace x1 := A.t x1 rfl
  replace x2 := A.t x2 rfl
  replace bl := bgo bl hb
  replace sd := A.sd sd
  clear A hb
  refine wl_call 8 (.func 8) _ _ #[.int .i64 ((12 : Nat) : Int), .int .i64 ((64 : Nat) : Int)] rfl 25 rfl (by rw [sd.1]; decide) rfl rfl rfl Try.enter8 (fun u W' => ∃ (gd : Nat) (M D : Nat → Prop), u = .pointer (some ⟨gd, 0, none⟩) ∧ HD W' gd M D (newd (12) (64)) ∧ (∀ j, D j → w2.heap.size ≤ j) ∧ Below w2.heap.size w2 W') ((fk_dnew (N := 12) (Z := 64) (by decide) (by decide) (by decide) (by decide) w2).mono (by rintro e w' ⟨gd, M, D, rfl, q⟩; exact ⟨_, rfl, gd, M, D, rfl, q⟩)) ?_
  rintro f3 w3 df2 sz2 old2 ⟨gd, M, DD, x25, hd, hD0, hb⟩
  have hDD : ∀ j, DD j → w.heap.size ≤ j := fun j q => Nat.le_trans bl.size (hD0 j q)
  clear hD0
  replace bl0 := bl
  replace x0 := tr old2 x0 rfl
  replace x1 := tr old2 x1 rfl
  replace x2 := tr old2 x2 rfl
  replace bl := bgo bl hb
  replace sd := sd2 sz2 df2 sd
  clear df2 sz2 old2 hb
  refine wl_one (.eq (.pointer (some ⟨gd, 0, none⟩))) rfl 7 rfl (by rw [sd.1]; decide) (st_assign (.tmp 25) rfl x25) ?_
  intro f4 w4 df2 sz2 old2 new2 hb
  replace x0 := tr old2 x0 rfl
  replace x1 := tr old2 x1 rfl
  replace x2 := tr old2 x2 rfl
  replace x25 := tr old2 x25 rfl
  have x7 := Fk.e new2
  replace hd := HD.below hd hb
  replace bl := bgo bl hb
  replace sd := sd2 sz2 df2 sd
  clear df2 sz2 old2 new2 hb
  refine wpList_nil ?_
  clear x25
  show Code.wp _ _ _ _ _
  refine wp_seq ?_
  refine wp_seq ?_
  rcases (Classical.em (smallW l 20)).symm with hsmall | hsmall
  rotate_left
  · skip
    rcases (by omega : xs.length < 1 ∨ (1 ≤ xs.length ∧ 8 < xs.length) ∨ (1 ≤ xs.length ∧ xs.length ≤ 8 ∧ 40 < ls.length) ∨ (1 ≤ xs.length ∧ xs.length ≤ 8 ∧ ls.length ≤ 40)) with hab | hab | hab | hab
    · skip
      refine wr_a [.eq (.pointer (some ⟨gd, 0, none⟩)), .eq (.bool false), .eq (.bool false), .eq (v), .eq (.bool true), .eq (.bool false), .eq (.bool false), .eq (.bool false), .eq (.slice A1 xs.length C1), .eq (.int .i64 (((xs).length : Nat) : Int)), .eq (.bool true), .eq (.bool true), .eq (.bool true), .any, .any, .any, .eq (.bool true), .eq (.bool true), .any, .any, .any, .eq (.bool true)] (by rw [sd.1]; kernel_rfl) ⟨fun hwt ac u K => ?_, fun hwt ac u K => ?_, fun hwt ac u K => ?_, fun hwt ac u K => ?_, fun hwt ac u K => ?_, fun hwt ac u K => ?_, fun hwt ac u K => ?_, fun hwt ac u K => ?_, fun hwt ac u K => ?_, fun hwt ac u K => ?_, fun hwt ac u K => ?_, fun hwt ac u K => ?_, fun hwt ac u K => ?_, fun hwt ac u K => ?_, fun hwt ac u K => ?_, fun hwt ac u K => ?_, fun hwt ac u K => ?_, fun hwt ac u K => ?_, fun hwt ac u K => ?_, fun hwt ac u K => ?_, fun hwt ac u K => ?_, fun hwt ac u K => ?_, trivial⟩ ?_
      · exact st_move (.tmp 7) rfl (K.t x7 rfl)
      · exact st_bin .eql 25 25 (.tmp 26) _ rfl (K.dep 0 26 rfl) rfl (by kernel_rfl)
      · exact st_move (.tmp 27) rfl (K.dep 1 27 rfl)
      · exact st_move (.tmp 0) rfl (K.t x0 rfl)
      · exact st_call 6 (.func 6) _ _ _ rfl rfl (arg2 (K.dep 3 29 rfl) rfl) Try.enter6 (fk_smallw hln (Fk.mono _ _ _ _ hv (bgo bl K.grow)) (by symm; rw [decide_eq_true_iff]; exact hsmall))
      · exact st_not (.tmp 30) rfl true (K.dep 4 30 rfl)
      · exact st_pick_f' (.tmp 28) (.const (.bool true)) (.tmp 31) rfl (K.dep 2 28 rfl) (K.dep 5 31 rfl)
      · exact st_move (.tmp 32) rfl (K.dep 6 32 rfl)
      · exact st_move (.tmp 1) rfl (K.t x1 rfl)
      · exact st_lenis (.tmp 34) rfl (fk_val (K.dep 8 34 rfl) (Fk.mono _ _ _ _ hx1 (bgo bl K.grow)))
      · exact st_lss 3 (.tmp 35) (.const (.int .i64 1)) rfl .i64 ((((xs).length : Nat) : Int)) (1) (K.dep 9 35 rfl) rfl _ (by rw [eq_comm, decide_eq_true_iff]; omega)
      · exact st_pick_f' (.tmp 33) (.const (.bool true)) (.tmp 36) rfl (K.dep 7 33 rfl) (K.dep 10 36 rfl)
      · exact st_move (.tmp 37) rfl (K.dep 11 37 rfl)
      · exact (Bool.false_ne_true hwt).elim
      · exact (Bool.false_ne_true hwt).elim
      · exact (Bool.false_ne_true hwt).elim
      · exact st_pick_t (.tmp 38) (.const (.bool true)) (.tmp 41) rfl (K.dep 12 38 rfl) rfl
      · exact st_move (.tmp 42) rfl (K.dep 16 42 rfl)
      · exact (Bool.false_ne_true hwt).elim
      · exact (Bool.false_ne_true hwt).elim
      · exact (Bool.false_ne_true hwt).elim
      · exact st_pick_t (.tmp 43) (.const (.bool true)) (.tmp 46) rfl (K.dep 17 43 rfl) rfl
      intro f5 w5 A hb
      replace x0 := A.t x0 rfl
      replace x1 := A.t x1 rfl
      replace x2 := A.t x2 rfl
      replace x7 := A.t x7 rfl
      have x47 := A.e 21 47 rfl rfl
      replace hd := HD.below hd hb
      replace bl := bgo bl hb
      replace sd := A.sd sd
      clear A hb
      show Code.wp _ _ _ _ _
      refine wp_cond_true x47 ?_
      refine wp_seq ?_
      refine wr_a [.eq (.pointer (some ⟨gd, 0, none⟩)), .eq (.bool true), .eq (.bool true), .eq (.bool true), .eq (.bool true), .eq (.bool true)] (by rw [sd.1]; kernel_rfl) ⟨fun hwt ac u K => ?_, fun hwt ac u K => ?_, fun hwt ac u K => ?_, fun hwt ac u K => ?_, fun hwt ac u K => ?_, fun hwt ac u K => ?_, trivial⟩ ?_
      · exact st_move (.tmp 7) rfl (K.t x7 rfl)
      · exact st_bin .neq 25 25 (.tmp 48) _ rfl (K.dep 0 48 rfl) rfl (by kernel_rfl)
      · exact st_move (.tmp 49) rfl (K.dep 1 49 rfl)
      · exact st_call 7 (.func 7) _ _ _ rfl rfl rfl Try.enter7 (awake12 _)
      · exact st_pick_t (.tmp 50) (.tmp 51) (.const (.bool false)) rfl (K.dep 2 50 rfl) (K.dep 3 51 rfl)
      · exact st_assign (.tmp 52) rfl (K.dep 4 52 rfl)
      intro f6 w6 A hb
      replace x0 := A.t x0 rfl
      replace x1 := A.t x1 rfl
      replace x2 := A.t x2 rfl
      replace x7 := A.t x7 rfl
      replace x47 := A.t x47 rfl
      have x6 := A.e 5 6 rfl rfl
      replace hd := HD.below hd hb
      replace bl := bgo bl hb
      replace sd := A.sd sd
      clear A hb
      clear x0
      clear x1
      clear x2
      clear x7
      clear x47
      show Code.wp _ _ _ _ _
      refine wp_ret ?_
      repeat (first | with_reducible refine then_ret ?_ | with_reducible refine block_ret ?_)
      exact bodyPost_ret (v := .bool true) (ret_slot rfl f6 _ x6 _ _) sd.2 ⟨rfl, bl⟩
    · skip
      refine wr_a [.eq (.pointer (some ⟨gd, 0, none⟩)), .eq (.bool false), .eq (.bool false), .eq (v), .eq (.bool true), .eq (.bool false), .eq (.bool false), .eq (.bool false), .eq (.slice A1 xs.length C1), .eq (.int .i64 (((xs).length : Nat) : Int)), .eq (.bool false), .eq (.bool false), .eq (.bool false), .eq (.slice A1 xs.length C1), .eq (.int .i64 (((xs).length : Nat) : Int)), .eq (.bool true), .eq (.bool true), .eq (.bool true), .any, .any, .any, .eq (.bool true)] (by rw [sd.1]; kernel_rfl) ⟨fun hwt ac u K => ?_, fun hwt ac u K => ?_, fun hwt ac u K => ?_, fun hwt ac u K => ?_, fun hwt ac u K => ?_, fun hwt ac u K => ?_, fun hwt ac u K => ?_, fun hwt ac u K => ?_, fun hwt ac u K => ?_, fun hwt ac u K => ?_, fun hwt ac u K => ?_, fun hwt ac u K => ?_, fun hwt ac u K => ?_, fun hwt ac u K => ?_, fun hwt ac u K => ?_, fun hwt ac u K => ?_, fun hwt ac u K => ?_, fun hwt ac u K => ?_, fun hwt ac u K => ?_, fun hwt ac u K => ?_, fun hwt ac u K => ?_, fun hwt ac u K => ?_, trivial⟩ ?_
      · exact st_move (.tmp 7) rfl (K.t x7 rfl)
      · exact st_bin .eql 25 25 (.tmp 26) _ rfl (K.dep 0 26 rfl) rfl (by kernel_rfl)
      · exact st_move (.tmp 27) rfl (K.dep 1 27 rfl)
      · exact st_move (.tmp 0) rfl (K.t x0 rfl)
      · exact st_call 6 (.func 6) _ _ _ rfl rfl (arg2 (K.dep 3 29 rfl) rfl) Try.enter6 (fk_smallw hln (Fk.mono _ _ _ _ hv (bgo bl K.grow)) (by symm; rw [decide_eq_true_iff]; exact hsmall))
      · exact st_not (.tmp 30) rfl true (K.dep 4 30 rfl)
      · exact st_pick_f' (.tmp 28) (.const (.bool true)) (.tmp 31) rfl (K.dep 2 28 rfl) (K.dep 5 31 rfl)
      · exact st_move (.tmp 32) rfl (K.dep 6 32 rfl)
      · exact st_move (.tmp 1) rfl (K.t x1 rfl)
      · exact st_lenis (.tmp 34) rfl (fk_val (K.dep 8 34 rfl) (Fk.mono _ _ _ _ hx1 (bgo bl K.grow)))
      · exact st_lss 3 (.tmp 35) (.const (.int .i64 1)) rfl .i64 ((((xs).length : Nat) : Int)) (1) (K.dep 9 35 rfl) rfl _ (by rw [eq_comm, decide_eq_false_iff_not]; omega)
      · exact st_pick_f' (.tmp 33) (.const (.bool true)) (.tmp 36) rfl (K.dep 7 33 rfl) (K.dep 10 36 rfl)
      · exact st_move (.tmp 37) rfl (K.dep 11 37 rfl)
      · exact st_move (.tmp 1) rfl (K.t x1 rfl)
      · exact st_lenis (.tmp 39) rfl (fk_val (K.dep 13 39 rfl) (Fk.mono _ _ _ _ hx1 (bgo bl K.grow)))
      · exact st_gtr 3 (.tmp 40) (.const (.int .i64 8)) rfl .i64 ((((xs).length : Nat) : Int)) (8) (K.dep 14 40 rfl) rfl _ (by rw [eq_comm, decide_eq_true_iff]; omega)
      · exact st_pick_f' (.tmp 38) (.const (.bool true)) (.tmp 41) rfl (K.dep 12 38 rfl) (K.dep 15 41 rfl)
      · exact st_move (.tmp 42) rfl (K.dep 16 42 rfl)
      · exact (Bool.false_ne_true hwt).elim
      · exact (Bool.false_ne_true hwt).elim
      · exact (Bool.false_ne_true hwt).elim
      · exact st_pick_t (.tmp 43) (.const (.bool true)) (.tmp 46) rfl (K.dep 17 43 rfl) rfl
      intro f5 w5 A hb
      replace x0 := A.t x0 rfl
      replace x1 := A.t x1 rfl
      replace x2 := A.t x2 rfl
      replace x7 := A.t x7 rfl
      have x47 := A.e 21 47 rfl rfl
      replace hd := HD.below hd hb
      replace bl := bgo bl hb
      replace sd := A.sd sd
      clear A hb
      show Code.wp _ _ _ _ _
      refine wp_cond_true x47 ?_
      refine wp_seq ?_
      refine wr_a [.eq (.pointer (some ⟨gd, 0, none⟩)), .eq (.bool true), .eq (.bool true), .eq (.bool true), .eq (.bool true), .eq (.bool true)] (by rw [sd.1]; kernel_rfl) ⟨fun hwt ac u K => ?_, fun hwt ac u K => ?_, fun hwt ac u K => ?_, fun hwt ac u K => ?_, fun hwt ac u K => ?_, fun hwt ac u K => ?_, trivial⟩ ?_
      · exact st_move (.tmp 7) rfl (K.t x7 rfl)
      · exact st_bin .neq 25 25 (.tmp 48) _ rfl (K.dep 0 48 rfl) rfl (by kernel_rfl)
      · exact st_move (.tmp 49) rfl (K.dep 1 49 rfl)
      · exact st_call 7 (.func 7) _ _ _ rfl rfl rfl Try.enter7 (awake12 _)
      · exact st_pick_t (.tmp 50) (.tmp 51) (.const (.bool false)) rfl (K.dep 2 50 rfl) (K.dep 3 51 rfl)
      · exact st_assign (.tmp 52) rfl (K.dep 4 52 rfl)
      intro f6 w6 A hb
      replace x0 := A.t x0 rfl
      replace x1 := A.t x1 rfl
      replace x2 := A.t x2 rfl
      replace x7 := A.t x7 rfl
      replace x47 := A.t x47 rfl
      have x6 := A.e 5 6 rfl rfl
      replace hd := HD.below hd hb
      replace bl := bgo bl hb
      replace sd := A.sd sd
      clear A hb
      clear x0
      clear x1
      clear x2
      clear x7
      clear x47
      show Code.wp _ _ _ _ _
      refine wp_ret ?_
      repeat (first | with_reducible refine then_ret ?_ | with_reducible refine block_ret ?_)
      exact bodyPost_ret (v := .bool true) (ret_slot rfl f6 _ x6 _ _) sd.2 ⟨rfl, bl⟩
    · skip
      refine wr_a [.eq (.pointer (some ⟨gd, 0, none⟩)), .eq (.bool false), .eq (.bool false), .eq (v), .eq (.bool true), .eq (.bool false), .eq (.bool false), .eq (.bool false), .eq (.slice A1 xs.length C1), .eq (.int .i64 (((xs).length : Nat) : Int)), .eq (.bool false), .eq (.bool false), .eq (.bool false), .eq (.slice A1 xs.length C1), .eq (.int .i64 (((xs).length : Nat) : Int)), .eq (.bool false), .eq (.bool false), .eq (.bool false), .eq (v2), .eq (.int .i64 (((ls).length : Nat) : Int)), .eq (.bool true), .eq (.bool true)] (by rw [sd.1]; kernel_rfl) ⟨fun hwt ac u K => ?_, fun hwt ac u K => ?_, fun hwt ac u K => ?_, fun hwt ac u K => ?_, fun hwt ac u K => ?_, fun hwt ac u K => ?_, fun hwt ac u K => ?_, fun hwt ac u K => ?_, fun hwt ac u K => ?_, fun hwt ac u K => ?_, fun hwt ac u K => ?_, fun hwt ac u K => ?_, fun hwt ac u K => ?_, fun hwt ac u K => ?_, fun hwt ac u K => ?_, fun hwt ac u K => ?_, fun hwt ac u K => ?_, fun hwt ac u K => ?_, fun hwt ac u K => ?_, fun hwt ac u K => ?_, fun hwt ac u K => ?_, fun hwt ac u K => ?_, trivial⟩ ?_
      · exact st_move (.tmp 7) rfl (K.t x7 rfl)
      · exact st_bin .eql 25 25 (.tmp 26) _ rfl (K.dep 0 26 rfl) rfl (by kernel_rfl)
      · exact st_move (.tmp 27) rfl (K.dep 1 27 rfl)
      · exact st_move (.tmp 0) rfl (K.t x0 rfl)
      · exact st_call 6 (.func 6) _ _ _ rfl rfl (arg2 (K.dep 3 29 rfl) rfl) Try.enter6 (fk_smallw hln (Fk.mono _ _ _ _ hv (bgo bl K.grow)) (by symm; rw [decide_eq_true_iff]; exact hsmall))
      · exact st_not (.tmp 30) rfl true (K.dep 4 30 rfl)
      · exact st_pick_f' (.tmp 28) (.const (.bool true)) (.tmp 31) rfl (K.dep 2 28 rfl) (K.dep 5 31 rfl)
      · exact st_move (.tmp 32) rfl (K.dep 6 32 rfl)
      · exact st_move (.tmp 1) rfl (K.t x1 rfl)
      · exact st_lenis (.tmp 34) rfl (fk_val (K.dep 8 34 rfl) (Fk.mono _ _ _ _ hx1 (bgo bl K.grow)))
      · exact st_lss 3 (.tmp 35) (.const (.int .i64 1)) rfl .i64 ((((xs).length : Nat) : Int)) (1) (K.dep 9 35 rfl) rfl _ (by rw [eq_comm, decide_eq_false_iff_not]; omega)
      · exact st_pick_f' (.tmp 33) (.const (.bool true)) (.tmp 36) rfl (K.dep 7 33 rfl) (K.dep 10 36 rfl)
      · exact st_move (.tmp 37) rfl (K.dep 11 37 rfl)
      · exact st_move (.tmp 1) rfl (K.t x1 rfl)
      · exact st_lenis (.tmp 39) rfl (fk_val (K.dep 13 39 rfl) (Fk.mono _ _ _ _ hx1 (bgo bl K.grow)))
      · exact st_gtr 3 (.tmp 40) (.const (.int .i64 8)) rfl .i64 ((((xs).length : Nat) : Int)) (8) (K.dep 14 40 rfl) rfl _ (by rw [eq_comm, decide_eq_false_iff_not]; omega)
      · exact st_pick_f' (.tmp 38) (.const (.bool true)) (.tmp 41) rfl (K.dep 12 38 rfl) (K.dep 15 41 rfl)
      · exact st_move (.tmp 42) rfl (K.dep 16 42 rfl)
      · exact st_move (.tmp 2) rfl (K.t x2 rfl)
      · exact st_lenis (.tmp 44) rfl (fk_val (K.dep 18 44 rfl) (Fk.mono _ _ _ _ hy1 (bgo bl K.grow)))
      · exact st_gtr 3 (.tmp 45) (.const (.int .i64 40)) rfl .i64 ((((ls).length : Nat) : Int)) (40) (K.dep 19 45 rfl) rfl _ (by rw [eq_comm, decide_eq_true_iff]; omega)
      · exact st_pick_f' (.tmp 43) (.const (.bool true)) (.tmp 46) rfl (K.dep 17 43 rfl) (K.dep 20 46 rfl)
      intro f5 w5 A hb
      replace x0 := A.t x0 rfl
      replace x1 := A.t x1 rfl
      replace x2 := A.t x2 rfl
      replace x7 := A.t x7 rfl
      have x47 := A.e 21 47 rfl rfl
      replace hd := HD.below hd hb
      replace bl := bgo bl hb
      replace sd := A.sd sd
      clear A hb
      show Code.wp _ _ _ _ _
      refine wp_cond_true x47 ?_
      refine wp_seq ?_
      refine wr_a [.eq (.pointer (some ⟨gd, 0, none⟩)), .eq (.bool true), .eq (.bool true), .eq (.bool true), .eq (.bool true), .eq (.bool true)] (by rw [sd.1]; kernel_rfl) ⟨fun hwt ac u K => ?_, fun hwt ac u K => ?_, fun hwt ac u K => ?_, fun hwt ac u K => ?_, fun hwt ac u K => ?_, fun hwt ac u K => ?_, trivial⟩ ?_
      · exact st_move (.tmp 7) rfl (K.t x7 rfl)
      · exact st_bin .neq 25 25 (.tmp 48) _ rfl (K.dep 0 48 rfl) rfl (by kernel_rfl)
      · exact st_move (.tmp 49) rfl (K.dep 1 49 rfl)
      · exact st_call 7 (.func 7) _ _ _ rfl rfl rfl Try.enter7 (awake12 _)
      · exact st_pick_t (.tmp 50) (.tmp 51) (.const (.bool false)) rfl (K.dep 2 50 rfl) (K.dep 3 51 rfl)
      · exact st_assign (.tmp 52) rfl (K.dep 4 52 rfl)
      intro f6 w6 A hb
      replace x0 := A.t x0 rfl
      replace x1 := A.t x1 rfl
      replace x2 := A.t x2 rfl
      replace x7 := A.t x7 rfl
      replace x47 := A.t x47 rfl
      have x6 := A.e 5 6 rfl rfl
      replace hd := HD.below hd hb
      replace bl := bgo bl hb
      replace sd := A.sd sd
      clear A hb
      clear x0
      clear x1
      clear x2
      clear x7
      clear x47
      show Code.wp _ _ _ _ _
      refine wp_ret ?_
      repeat (first | with_reducible refine then_ret ?_ | with_reducible refine block_ret ?_)
      exact bodyPost_ret (v := .bool true) (ret_slot rfl f6 _ x6 _ _) sd.2 ⟨rfl, bl⟩
    refine wr_a [.eq (.pointer (some ⟨gd, 0, none⟩)), .eq (.bool false), .eq (.bool false), .eq (v), .eq (.bool true), .eq (.bool false), .eq (.bool false), .eq (.bool false), .eq (.slice A1 xs.length C1), .eq (.int .i64 (((xs).length : Nat) : Int)), .eq (.bool false), .eq (.bool false), .eq (.bool false), .eq (.slice A1 xs.length C1), .eq (.int .i64 (((xs).length : Nat) : Int)), .eq (.bool false), .eq (.bool false), .eq (.bool false), .eq (v2), .eq (.int .i64 (((ls).length : Nat) : Int)), .eq (.bool false), .eq (.bool false)] (by rw [sd.1]; kernel_rfl) ⟨fun hwt ac u K => ?_, fun hwt ac u K => ?_, fun hwt ac u K => ?_, fun hwt ac u K => ?_, fun hwt ac u K => ?_, fun hwt ac u K => ?_, fun hwt ac u K => ?_, fun hwt ac u K => ?_, fun hwt ac u K => ?_, fun hwt ac u K => ?_, fun hwt ac u K => ?_, fun hwt ac u K => ?_, fun hwt ac u K => ?_, fun hwt ac u K => ?_, fun hwt ac u K => ?_, fun hwt ac u K => ?_, fun hwt ac u K => ?_, fun hwt ac u K => ?_, fun hwt ac u K => ?_, fun hwt ac u K => ?_, fun hwt ac u K => ?_, fun hwt ac u K => ?_, trivial⟩ ?_
    · exact st_move (.tmp 7) rfl (K.t x7 rfl)
    · exact st_bin .eql 25 25 (.tmp 26) _ rfl (K.dep 0 26 rfl) rfl (by kernel_rfl)
    · exact st_move (.tmp 27) rfl (K.dep 1 27 rfl)
    · exact st_move (.tmp 0) rfl (K.t x0 rfl)
    · exact st_call 6 (.func 6) _ _ _ rfl rfl (arg2 (K.dep 3 29 rfl) rfl) Try.enter6 (fk_smallw hln (Fk.mono _ _ _ _ hv (bgo bl K.grow)) (by symm; rw [decide_eq_true_iff]; exact hsmall))
    · exact st_not (.tmp 30) rfl true (K.dep 4 30 rfl)
    · exact st_pick_f' (.tmp 28) (.const (.bool true)) (.tmp 31) rfl (K.dep 2 28 rfl) (K.dep 5 31 rfl)
    · exact st_move (.tmp 32) rfl (K.dep 6 32 rfl)
    · exact st_move (.tmp 1) rfl (K.t x1 rfl)
    · exact st_lenis (.tmp 34) rfl (fk_val (K.dep 8 34 rfl) (Fk.mono _ _ _ _ hx1 (bgo bl K.grow)))
    · exact st_lss 3 (.tmp 35) (.const (.int .i64 1)) rfl .i64 ((((xs).length : Nat) : Int)) (1) (K.dep 9 35 rfl) rfl _ (by rw [eq_comm, decide_eq_false_iff_not]; omega)
    · exact st_pick_f' (.tmp 33) (.const (.bool true)) (.tmp 36) rfl (K.dep 7 33 rfl) (K.dep 10 36 rfl)
    · exact st_move (.tmp 37) rfl (K.dep 11 37 rfl)
    · exact st_move (.tmp 1) rfl (K.t x1 rfl)
    · exact st_lenis (.tmp 39) rfl (fk_val (K.dep 13 39 rfl) (Fk.mono _ _ _ _ hx1 (bgo bl K.grow)))
    · exact st_gtr 3 (.tmp 40) (.const (.int .i64 8)) rfl .i64 ((((xs).length : Nat) : Int)) (8) (K.dep 14 40 rfl) rfl _ (by rw [eq_comm, decide_eq_false_iff_not]; omega)
    · exact st_pick_f' (.tmp 38) (.const (.bool true)) (.tmp 41) rfl (K.dep 12 38 rfl) (K.dep 15 41 rfl)
    · exact st_move (.tmp 42) rfl (K.dep 16 42 rfl)
    · exact st_move (.tmp 2) rfl (K.t x2 rfl)
    · exact st_lenis (.tmp 44) rfl (fk_val (K.dep 18 44 rfl) (Fk.mono _ _ _ _ hy1 (bgo bl K.grow)))
    · exact st_gtr 3 (.tmp 45) (.const (.int .i64 40)) rfl .i64 ((((ls).length : Nat) : Int)) (40) (K.dep 19 45 rfl) rfl _ (by rw [eq_comm, decide_eq_false_iff_not]; omega)
    · exact st_pick_f' (.tmp 43) (.const (.bool true)) (.tmp 46) rfl (K.dep 17 43 rfl) (K.dep 20 46 rfl)
    intro f5 w5 A hb
    replace x0 := A.t x0 rfl
    replace x1 := A.t x1 rfl
    replace x2 := A.t x2 rfl
    replace x7 := A.t x7 rfl
    have x47 := A.e 21 47 rfl rfl
    replace hd := HD.below hd hb
    replace bl := bgo bl hb
    replace sd := A.sd sd
    clear A hb
    show Code.wp _ _ _ _ _
    refine wp_cond_false x47 ?_
    refine wp_skip ?_
    show Code.wp _ _ _ _ _
    refine wp_seq ?_
    obtain ⟨n, hn9⟩ : ∃ n : Nat, n = 12 := ⟨_, rfl⟩
    obtain ⟨z, hz9⟩ : ∃ z : Nat, z = 64 := ⟨_, rfl⟩
    obtain ⟨s0, hs0⟩ : ∃ s, s = newd n z := ⟨_, rfl⟩
    rw [← hn9, ← hz9, ← hs0] at hd
    have h6 : homN n = 6 := by rw [hn9]; rfl
    have h3 : 3 ≤ n := by omega
    have h32 : 32 ≤ z := by omega
    have hnM : n ≤ 100000 := by omega
    have gs : Gd s0 n z 0 := by rw [hs0]; exact gd_new n z
    have hLI : LI n z s0 false (List.replicate (homN n) (zs z)) none := by rw [hs0]; exact LI.start h3 (by omega)
    have hq : Quiet n z (homN n) (prsP n) false s0 (List.replicate (homN n) (zs z)) := by rw [hs0]; exact quiet_newd h3 (by omega)
    have hgw : Gw s0 n z := hLI.gw
    have hop : wopn (homN n) (prsP n) (hdz z) s0 = (0, s0) := wopn_quiet h3 h32 hq
    clear hs0 hq
    have hll : l.length ≤ 20 := by have := hsmall.2; omega
    refine wr_s [.eq (.pointer (some ⟨gd, 0, none⟩))] (by rw [sd.1]; kernel_rfl) ⟨fun hwt ac u K => ?_, trivial⟩ ?_
    · exact st_move (.tmp 7) rfl (K.t x7 rfl)
    intro f6 w6 A hb
    replace x0 := A.t x0 rfl
    replace x1 := A.t x1 rfl
    replace x2 := A.t x2 rfl
    replace x7 := A.t x7 rfl
    replace x47 := A.t x47 rfl
    have x54 := A.e 0 54 rfl rfl
    replace hd := HD.below hd hb
    replace bl := bgo bl hb
    replace sd := A.sd sd
    clear A hb
    clear x47
    refine wl_call 9 (.func 9) _ _ #[.pointer (some ⟨gd, 0, none⟩)] rfl 55 rfl (by rw [sd.1]; decide) rfl rfl (one_arg x54) Try.enter9 (fun u W' => ∃ (D2 : Nat → Prop) (gw : Nat) (VV : Nat → Prop), u = .tuple #[.pointer (some ⟨gw, 0, none⟩), .int .i64 0] ∧ HD W' gd M D2 (s0) ∧ Gd (s0) n z (0 + 4 * (n + 2)) ∧ HW W' gw gd VV n z false ∧ (∀ j, VV j → w6.heap.size ≤ j ∧ ¬ D2 j) ∧ (∀ j, D2 j → DD j ∨ w6.heap.size ≤ j) ∧ Fr M w6 W') (open_ok12 hd gs hgw (by omega) hop) ?_
    rintro f7 w7 df2 sz2 old2 ⟨D2, gw, VV, x55, hd2, gs2, hw, hVN, hD2, O⟩
    have hVw : ∀ j, VV j → w.heap.size ≤ j := fun j q => Nat.le_trans bl.size (hVN j q).1
    have hVD : ∀ j, VV j → ¬ D2 j := fun j q => (hVN j q).2
    have bl9 := bl.trans (O.below bl.size (fun j q => hDD j (hd.sub j q)))
    replace hDD : ∀ j, D2 j → w.heap.size ≤ j := fun j q => (hD2 j q).elim (hDD j) (fun q => by have := bl.size; omega)
    replace bl := bl9
    replace bl0 := bl
    clear bl9
    replace hd := hd2
    replace gs := gs2
    clear gs2 hVN
    clear hd2 hD2 O
    clear DD
    obtain ⟨DD, rfl⟩ : ∃ E, E = D2 := ⟨_, rfl⟩
    replace x0 := tr old2 x0 rfl
    replace x1 := tr old2 x1 rfl
    replace x2 := tr old2 x2 rfl
    replace x7 := tr old2 x7 rfl
    replace x54 := tr old2 x54 rfl
    replace sd := sd2 sz2 df2 sd
    clear df2 sz2 old2
    clear x54
    refine wl_one (.eq (.tuple #[.pointer (some ⟨gw, 0, none⟩), .int .i64 0])) rfl 53 rfl (by rw [sd.1]; decide) (st_move (.tmp 55) rfl x55) ?_
    intro f8 w8 df2 sz2 old2 new2 hb
    replace x0 := tr old2 x0 rfl
    replace x1 := tr old2 x1 rfl
    replace x2 := tr old2 x2 rfl
    replace x7 := tr old2 x7 rfl
    replace x55 := tr old2 x55 rfl
    have x53 := Fk.e new2
    replace hd := HD.below hd hb
    replace hw := HW.below hw hb
    replace bl := bgo bl hb
    replace sd := sd2 sz2 df2 sd
    clear df2 sz2 old2 new2 hb
    clear x55
    refine wl_one (.eq (.pointer (some ⟨gw, 0, none⟩))) rfl 56 rfl (by rw [sd.1]; decide) (st_extv (.tmp 53) 0 rfl x53 rfl) ?_
    intro f9 w9 df2 sz2 old2 new2 hb
    replace x0 := tr old2 x0 rfl
    replace x1 := tr old2 x1 rfl
    replace x2 := tr old2 x2 rfl
    replace x7 := tr old2 x7 rfl
    replace x53 := tr old2 x53 rfl
    have x56 := Fk.e new2
    replace hd := HD.below hd hb
    replace hw := HW.below hw hb
    replace bl := bgo bl hb
    replace sd := sd2 sz2 df2 sd
    clear df2 sz2 old2 new2 hb
    refine wl_one (.eq (.int .i64 0)) rfl 57 rfl (by rw [sd.1]; decide) (st_extv (.tmp 53) 1 rfl x53 rfl) ?_
    intro f10 w10 df2 sz2 old2 new2 hb
    replace x0 := tr old2 x0 rfl
    replace x1 := tr old2 x1 rfl
    replace x2 := tr old2 x2 rfl
    replace x7 := tr old2 x7 rfl
    replace x53 := tr old2 x53 rfl
    replace x56 := tr old2 x56 rfl
    have x57 := Fk.e new2
    replace hd := HD.below hd hb
    replace hw := HW.below hw hb
    replace bl := bgo bl hb
    replace sd := sd2 sz2 df2 sd
    clear df2 sz2 old2 new2 hb
    clear x53
    refine wl_one (.eq (.pointer (some ⟨gw, 0, none⟩))) rfl 8 rfl (by rw [sd.1]; decide) (st_assign (.tmp 56) rfl x56) ?_
    intro f11 w11 df2 sz2 old2 new2 hb
    replace x0 := tr old2 x0 rfl
    replace x1 := tr old2 x1 rfl
    replace x2 := tr old2 x2 rfl
    replace x7 := tr old2 x7 rfl
    replace x56 := tr old2 x56 rfl
    replace x57 := tr old2 x57 rfl
    have x8 := Fk.e new2
    replace hd := HD.below hd hb
    replace hw := HW.below hw hb
    replace bl := bgo bl hb
    replace sd := sd2 sz2 df2 sd
    clear df2 sz2 old2 new2 hb
    clear x56
    refine wl_one (.eq (.int .i64 0)) rfl 9 rfl (by rw [sd.1]; decide) (st_assign (.tmp 57) rfl x57) ?_
    intro f12 w12 df2 sz2 old2 new2 hb
    replace x0 := tr old2 x0 rfl
    replace x1 := tr old2 x1 rfl
    replace x2 := tr old2 x2 rfl
    replace x7 := tr old2 x7 rfl
    replace x57 := tr old2 x57 rfl
    replace x8 := tr old2 x8 rfl
    have x9 := Fk.e new2
    replace hd := HD.below hd hb
    replace hw := HW.below hw hb
    replace bl := bgo bl hb
    replace sd := sd2 sz2 df2 sd
    clear df2 sz2 old2 new2 hb
    refine wpList_nil ?_
    clear x57
    show Code.wp _ _ _ _ _
    refine wp_seq ?_
    refine wp_seq ?_
    refine wr_a [.eq (.int .i64 0), .eq (.bool false), .eq (.bool false), .eq (.pointer (some ⟨gw, 0, none⟩)), .eq (.bool false), .eq (.bool false)] (by rw [sd.1]; kernel_rfl) ⟨fun hwt ac u K => ?_, fun hwt ac u K => ?_, fun hwt ac u K => ?_, fun hwt ac u K => ?_, fun hwt ac u K => ?_, fun hwt ac u K => ?_, trivial⟩ ?_
    · exact st_move (.tmp 9) rfl (K.t x9 rfl)
    · exact st_neqi 28 (.tmp 58) (.const (.int .i64 0)) rfl .i64 (0) (0) (K.dep 0 58 rfl) rfl _ (by rfl)
    · exact st_move (.tmp 59) rfl (K.dep 1 59 rfl)
    · exact st_move (.tmp 8) rfl (K.t x8 rfl)
    · exact st_bin .eql 27 27 (.tmp 61) _ rfl (K.dep 3 61 rfl) rfl (by kernel_rfl)
    · exact st_pick_f' (.tmp 60) (.const (.bool true)) (.tmp 62) rfl (K.dep 2 60 rfl) (K.dep 4 62 rfl)
    intro f13 w13 A hb
    replace x0 := A.t x0 rfl
    replace x1 := A.t x1 rfl
    replace x2 := A.t x2 rfl
    replace x7 := A.t x7 rfl
    replace x8 := A.t x8 rfl
    replace x9 := A.t x9 rfl
    have x63 := A.e 5 63 rfl rfl
    replace hd := HD.below hd hb
    replace hw := HW.below hw hb
    replace bl := bgo bl hb
    replace sd := A.sd sd
    clear A hb
    clear x9
    show Code.wp _ _ _ _ _
    refine wp_cond_false x63 ?_
    refine wp_skip ?_
    show Code.wp _ _ _ _ _
    refine wp_seq ?_
    refine wp_seq ?_
    clear hop hgw
    refine wr_a [.eq (v), .eq (.int .i64 (((l).length : Nat) : Int)), .eq (.int .i64 0)] (by rw [sd.1]; kernel_rfl) ⟨fun hwt ac u K => ?_, fun hwt ac u K => ?_, fun hwt ac u K => ?_, trivial⟩ ?_
    · exact st_move (.tmp 0) rfl (K.t x0 rfl)
    · exact st_lenso (.tmp 64) rfl (fk_val (K.dep 0 64 rfl) (Fk.mono _ _ _ _ hv (bgo bl K.grow)))
    · exact st_move (.const (.int .i64 0)) rfl rfl
    intro f14 w14 A hb
    replace x0 := A.t x0 rfl
    replace x1 := A.t x1 rfl
    replace x2 := A.t x2 rfl
    replace x7 := A.t x7 rfl
    replace x8 := A.t x8 rfl
    replace x63 := A.t x63 rfl
    have x64 := A.e 0 64 rfl rfl
    have x65 := A.e 1 65 rfl rfl
    have x66 := A.e 2 66 rfl rfl
    replace hd := HD.below hd hb
    replace hw := HW.below hw hb
    replace bl := bgo bl hb
    replace sd := A.sd sd
    clear A hb
    clear x63
    show Code.wp _ _ _ _ _
    refine wp_block ?_
    refine wp_loop (fun f v1 => ∃ (k : Nat) (s : Dst) (DD : Nat → Prop) (gw : Nat) (VV : Nat → Prop) (dn : Bool) (now : List Byt) (mb : Option (List Byt)), k ≤ l.length ∧ Gd s n z (1000 * (k + 1)) ∧ LI n z s dn now mb ∧ (∀ j, DD j → w.heap.size ≤ j) ∧ (∀ j, VV j → ¬ DD j) ∧ (∀ j, VV j → w.heap.size ≤ j) ∧ f.tmps.size = 179 ∧ f.defers = [] ∧ f.eval (.tmp 0) = v ∧ f.eval (.tmp 1) = .slice A1 xs.length C1 ∧ f.eval (.tmp 2) = v2 ∧ f.eval (.tmp 7) = .pointer (some ⟨gd, 0, none⟩) ∧ f.eval (.tmp 64) = v ∧ f.eval (.tmp 65) = .int .i64 (((l).length : Nat) : Int) ∧ f.eval (.tmp 66) = .int .i64 (k : Int) ∧ f.eval (.tmp 8) = .pointer (some ⟨gw, 0, none⟩) ∧ HD v1 gd M DD s ∧ HW v1 gw gd VV n z dn ∧ Below w.heap.size w (v1)) (fun f _ => l.length - (intOf (f.eval (.tmp 66))).toNat) ⟨0, s0, DD, gw, VV, false, _, none, Nat.zero_le _, gs.le (by omega), hLI, hDD, hVD, hVw, sd.1, sd.2, x0, x1, x2, x7, x64, x65, x66, x8, hd, hw, bl⟩ ?_
    intro f15 w15 hI
    clear sd bl bl0 x0 x1 x2 x7 x8 x64 x65 x66 hd hw
    obtain ⟨k, s, DD, gw, VV, dn, now, mb, hk8, gs, hLI, hDD, hVD, hVw, sz, df, x0, x1, x2, x7, x64, x65, x66, x8, hd, hw, bl⟩ := hI
    have sd := And.intro sz df
    clear sz df
    have bl0 := bl
    have hcnt := x66
    refine wp_seq ?_
    by_cases hlt : k < l.length
    rotate_left
    · skip
      refine wr_a [.eq (.bool false)] (by rw [sd.1]; kernel_rfl) ⟨fun hwt ac u K => ?_, trivial⟩ ?_
      · exact st_lss 3 (.tmp 66) (.tmp 65) rfl .i64 ((k : Int)) ((((l).length : Nat) : Int)) (K.t x66 rfl) (K.t x65 rfl) _ (by rw [eq_comm, decide_eq_false_iff_not]; exact fun h => hlt (Int.ofNat_lt.1 h))
      intro f16 w16 A hb
      replace x0 := A.t x0 rfl
      replace x1 := A.t x1 rfl
      replace x2 := A.t x2 rfl
      replace x7 := A.t x7 rfl
      replace x8 := A.t x8 rfl
      replace x64 := A.t x64 rfl
      replace x65 := A.t x65 rfl
      replace x66 := A.t x66 rfl
      have x67 := A.e 0 67 rfl rfl
      replace hd := HD.below hd hb
      replace hw := HW.below hw hb
      replace bl := bgo bl hb
      replace sd := A.sd sd
      clear A hb
      show Code.wp _ _ _ _ _
      refine wp_seq ?_
      refine wp_cond_false x67 ?_
      refine wp_exit ?_
      show Code.wp _ _ _ _ _
      refine wp_seq ?_
      clear x64
      clear x65
      clear x66
      clear x8
      clear hw hVD hVw
      obtain ⟨v9, hSV⟩ := li_sv h3 h32 hnM hLI ls
      have hgc : Gd (crs s ls) n z 30000 := (gd_crs gs ls).le (by omega)
      have har : (crs s ls).armed = false := rfl
      obtain ⟨sc, hsc⟩ : ∃ x, x = crs s ls := ⟨_, rfl⟩
      rw [← hsc] at hSV hgc har
      obtain ⟨o1, o2, -⟩ := SV.opens h3 h32 hnM hSV har
      obtain ⟨sOp, hsd⟩ : ∃ x, x = (wopn (homN n) (prsP n) (hdz z) sc).2 := ⟨_, rfl⟩
      have hopd : wopn (homN n) (prsP n) (hdz z) sc = (0, sOp) := Prod.ext o1 hsd.symm
      rw [← hsd] at o2
      have hdnO := o2.up.2.2
      have hhoO : hml sOp (homN n) = v9 := o2.homes
      clear o1 o2 hsd
      refine wr_s [.eq (.pointer (some ⟨gd, 0, none⟩)), .eq (v2)] (by rw [sd.1]; kernel_rfl) ⟨fun hwt ac u K => ?_, fun hwt ac u K => ?_, trivial⟩ ?_
      · exact st_move (.tmp 7) rfl (K.t x7 rfl)
      · exact st_move (.tmp 2) rfl (K.t x2 rfl)
      intro f17 w17 A hb
      replace x0 := A.t x0 rfl
      replace x1 := A.t x1 rfl
      replace x2 := A.t x2 rfl
      replace x7 := A.t x7 rfl
      replace x67 := A.t x67 rfl
      have x86 := A.e 0 86 rfl rfl
      have x87 := A.e 1 87 rfl rfl
      replace hd := HD.below hd hb
      replace bl := bgo bl hb
      replace sd := A.sd sd
      clear A hb
      clear x67
      refine wl_call 23 (.func 23) _ _ #[.pointer (some ⟨gd, 0, none⟩), v2] rfl 88 rfl (by rw [sd.1]; decide) rfl rfl (two_arg x86 x87) Try.enter23 (fun u W' => ∃ D2 : Nat → Prop, u = .tuple #[] ∧ HD W' gd M D2 (crs s ls) ∧ (∀ j, D2 j → DD j ∨ w17.heap.size ≤ j) ∧ Fr M w17 W') ((fk_dcrash hd (by have := gs.has; omega) (Fk.mono _ _ _ _ hy1 bl) hwy (by omega)).mono (by rintro e w' ⟨D', rfl, q⟩; exact ⟨_, rfl, D', rfl, q⟩)) ?_
      rintro f18 w18 df2 sz2 old2 ⟨D2, x88, hd2, hD2, O⟩
      have bl9 := bl.trans (O.below bl.size (fun j q => hDD j (hd.sub j q)))
      replace hDD : ∀ j, D2 j → w.heap.size ≤ j := fun j q => (hD2 j q).elim (hDD j) (fun q => by have := bl.size; omega)
      replace bl := bl9
      replace bl0 := bl
      clear bl9
      replace hd := hd2
      clear hd2 hD2 O
      clear DD
      obtain ⟨DD, rfl⟩ : ∃ E, E = D2 := ⟨_, rfl⟩
      replace x0 := tr old2 x0 rfl
      replace x1 := tr old2 x1 rfl
      replace x2 := tr old2 x2 rfl
      replace x7 := tr old2 x7 rfl
      replace x86 := tr old2 x86 rfl
      replace x87 := tr old2 x87 rfl
      replace sd := sd2 sz2 df2 sd
      clear df2 sz2 old2
      rw [← hsc] at hd
      clear gs
      have gs := hgc
      clear hgc hsc hLI
      refine wpList_nil ?_
      clear x86
      clear x87
      clear x88
      show Code.wp _ _ _ _ _
      refine wp_seq ?_
      refine wr_s [.eq (.pointer (some ⟨gd, 0, none⟩))] (by rw [sd.1]; kernel_rfl) ⟨fun hwt ac u K => ?_, trivial⟩ ?_
      · exact st_move (.tmp 7) rfl (K.t x7 rfl)
      intro f19 w19 A hb
      replace x0 := A.t x0 rfl
      replace x1 := A.t x1 rfl
      replace x2 := A.t x2 rfl
      replace x7 := A.t x7 rfl
      have x89 := A.e 0 89 rfl rfl
      replace hd := HD.below hd hb
      replace bl := bgo bl hb
      replace sd := A.sd sd
      clear A hb
      refine wl_call 24 (.func 24) _ _ #[.pointer (some ⟨gd, 0, none⟩)] rfl 90 rfl (by rw [sd.1]; decide) rfl rfl (one_arg x89) Try.enter24 (fun u W' => ∃ (gc : Nat) (MC EE : Nat → Prop), u = .pointer (some ⟨gc, 0, none⟩) ∧ HD W' gc MC EE sc ∧ (∀ j, MC j → w19.heap.size ≤ j) ∧ (∀ j, EE j → DD j ∨ w19.heap.size ≤ j) ∧ Below w19.heap.size w19 W') ((fk_dcopy hd (by have := gs.has; omega)).mono (by rintro e w' ⟨gc, MC, C, rfl, q1, q2, q3, q4, q5⟩; exact ⟨_, rfl, gc, MC, C, rfl, q1, q2, q4, q5⟩)) ?_
      rintro f20 w20 df2 sz2 old2 ⟨gc, MC, EE, x90, hc, hMC, hEE, hb⟩
      have hME : ∀ j, MC j → ¬ DD j := fun j q m => by have := hd.lt j m; have := hMC j q; omega
      have hMw : ∀ j, MC j → w.heap.size ≤ j := fun j q => Nat.le_trans bl.size (hMC j q)
      replace hd := HD.below hd hb
      replace bl := bl.trans (hb.mono bl.size)
      replace bl0 := bl
      clear hMC hEE hb
      replace x0 := tr old2 x0 rfl
      replace x1 := tr old2 x1 rfl
      replace x2 := tr old2 x2 rfl
      replace x7 := tr old2 x7 rfl
      replace x89 := tr old2 x89 rfl
      replace sd := sd2 sz2 df2 sd
      clear df2 sz2 old2
      clear x89
      refine wl_one (.eq (.pointer (some ⟨gc, 0, none⟩))) rfl 12 rfl (by rw [sd.1]; decide) (st_assign (.tmp 90) rfl x90) ?_
      intro f21 w21 df2 sz2 old2 new2 hb
      replace x0 := tr old2 x0 rfl
      replace x1 := tr old2 x1 rfl
      replace x2 := tr old2 x2 rfl
      replace x7 := tr old2 x7 rfl
      replace x90 := tr old2 x90 rfl
      have x12 := Fk.e new2
      replace hd := HD.below hd hb
      replace hc := HD.below hc hb
      replace bl := bgo bl hb
      replace sd := sd2 sz2 df2 sd
      clear df2 sz2 old2 new2 hb
      refine wpList_nil ?_
      clear x90
      show Code.wp _ _ _ _ _
      refine wp_seq ?_
      refine wr_s [.eq (.pointer (some ⟨gc, 0, none⟩))] (by rw [sd.1]; kernel_rfl) ⟨fun hwt ac u K => ?_, trivial⟩ ?_
      · exact st_move (.tmp 12) rfl (K.t x12 rfl)
      intro f22 w22 A hb
      replace x0 := A.t x0 rfl
      replace x1 := A.t x1 rfl
      replace x2 := A.t x2 rfl
      replace x7 := A.t x7 rfl
      replace x12 := A.t x12 rfl
      have x92 := A.e 0 92 rfl rfl
      replace hd := HD.below hd hb
      replace hc := HD.below hc hb
      replace bl := bgo bl hb
      replace sd := A.sd sd
      clear A hb
      clear x12
      refine wl_call 9 (.func 9) _ _ #[.pointer (some ⟨gc, 0, none⟩)] rfl 93 rfl (by rw [sd.1]; decide) rfl rfl (one_arg x92) Try.enter9 (fun u W' => ∃ (D2 : Nat → Prop) (gw : Nat) (VV : Nat → Prop), u = .tuple #[.pointer (some ⟨gw, 0, none⟩), .int .i64 0] ∧ HD W' gc MC D2 sOp ∧ Gd sOp n z (30000 + 4 * (n + 2)) ∧ HW W' gw gc VV n z false ∧ (∀ j, VV j → w22.heap.size ≤ j ∧ ¬ D2 j) ∧ (∀ j, D2 j → EE j ∨ w22.heap.size ≤ j) ∧ Fr MC w22 W') (open_ok12 hc gs hSV.gw (by omega) hopd) ?_
      rintro f23 w23 df2 sz2 old2 ⟨D2c, gwc, VC, x93, hc2, gsc, hwc, hVN, hD2, O⟩
      replace hd := hd.keep (fun j q => O.block j (hd.lt j q) (fun m => hME j m q)) O.size
      replace bl := bl.trans (O.below bl.size (fun j q => hMw j q))
      replace bl0 := bl
      have hVDc : ∀ j, VC j → ¬ D2c j := fun j q => (hVN j q).2
      clear hc
      have hc := hc2
      clear hc2 hVN hD2 O
      replace x0 := tr old2 x0 rfl
      replace x1 := tr old2 x1 rfl
      replace x2 := tr old2 x2 rfl
      replace x7 := tr old2 x7 rfl
      replace x92 := tr old2 x92 rfl
      replace sd := sd2 sz2 df2 sd
      clear df2 sz2 old2
      clear x92
      refine wl_one (.eq (.tuple #[.pointer (some ⟨gwc, 0, none⟩), .int .i64 0])) rfl 91 rfl (by rw [sd.1]; decide) (st_move (.tmp 93) rfl x93) ?_
      intro f24 w24 df2 sz2 old2 new2 hb
      replace x0 := tr old2 x0 rfl
      replace x1 := tr old2 x1 rfl
      replace x2 := tr old2 x2 rfl
      replace x7 := tr old2 x7 rfl
      replace x93 := tr old2 x93 rfl
      have x91 := Fk.e new2
      replace hd := HD.below hd hb
      replace hc := HD.below hc hb
      replace hwc := HW.below hwc hb
      replace bl := bgo bl hb
      replace sd := sd2 sz2 df2 sd
      clear df2 sz2 old2 new2 hb
      clear x93
      refine wl_one (.eq (.pointer (some ⟨gwc, 0, none⟩))) rfl 94 rfl (by rw [sd.1]; decide) (st_extv (.tmp 91) 0 rfl x91 rfl) ?_
      intro f25 w25 df2 sz2 old2 new2 hb
      replace x0 := tr old2 x0 rfl
      replace x1 := tr old2 x1 rfl
      replace x2 := tr old2 x2 rfl
      replace x7 := tr old2 x7 rfl
      replace x91 := tr old2 x91 rfl
      have x94 := Fk.e new2
      replace hd := HD.below hd hb
      replace hc := HD.below hc hb
      replace hwc := HW.below hwc hb
      replace bl := bgo bl hb
      replace sd := sd2 sz2 df2 sd
      clear df2 sz2 old2 new2 hb
      refine wl_one (.eq (.int .i64 0)) rfl 95 rfl (by rw [sd.1]; decide) (st_extv (.tmp 91) 1 rfl x91 rfl) ?_
      intro f26 w26 df2 sz2 old2 new2 hb
      replace x0 := tr old2 x0 rfl
      replace x1 := tr old2 x1 rfl
      replace x2 := tr old2 x2 rfl
      replace x7 := tr old2 x7 rfl
      replace x91 := tr old2 x91 rfl
      replace x94 := tr old2 x94 rfl
      have x95 := Fk.e new2
      replace hd := HD.below hd hb
      replace hc := HD.below hc hb
      replace hwc := HW.below hwc hb
      replace bl := bgo bl hb
      replace sd := sd2 sz2 df2 sd
      clear df2 sz2 old2 new2 hb
      clear x91
      refine wl_one (.eq (.pointer (some ⟨gwc, 0, none⟩))) rfl 13 rfl (by rw [sd.1]; decide) (st_assign (.tmp 94) rfl x94) ?_
      intro f27 w27 df2 sz2 old2 new2 hb
      replace x0 := tr old2 x0 rfl
      replace x1 := tr old2 x1 rfl
      replace x2 := tr old2 x2 rfl
      replace x7 := tr old2 x7 rfl
      replace x94 := tr old2 x94 rfl
      replace x95 := tr old2 x95 rfl
      have x13 := Fk.e new2
      replace hd := HD.below hd hb
      replace hc := HD.below hc hb
      replace hwc := HW.below hwc hb
      replace bl := bgo bl hb
      replace sd := sd2 sz2 df2 sd
      clear df2 sz2 old2 new2 hb
      clear x94
      refine wl_one (.eq (.int .i64 0)) rfl 9 rfl (by rw [sd.1]; decide) (st_assign (.tmp 95) rfl x95) ?_
      intro f28 w28 df2 sz2 old2 new2 hb
      replace x0 := tr old2 x0 rfl
      replace x1 := tr old2 x1 rfl
      replace x2 := tr old2 x2 rfl
      replace x7 := tr old2 x7 rfl
      replace x95 := tr old2 x95 rfl
      replace x13 := tr old2 x13 rfl
      have x9 := Fk.e new2
      replace hd := HD.below hd hb
      replace hc := HD.below hc hb
      replace hwc := HW.below hwc hb
      replace bl := bgo bl hb
      replace sd := sd2 sz2 df2 sd
      clear df2 sz2 old2 new2 hb
      refine wpList_nil ?_
      clear x95
      show Code.wp _ _ _ _ _
      refine wp_seq ?_
      refine wp_seq ?_
      refine wr_a [.eq (.int .i64 0), .eq (.bool false), .eq (.bool false), .eq (.pointer (some ⟨gwc, 0, none⟩)), .eq (.bool false), .eq (.bool false)] (by rw [sd.1]; kernel_rfl) ⟨fun hwt ac u K => ?_, fun hwt ac u K => ?_, fun hwt ac u K => ?_, fun hwt ac u K => ?_, fun hwt ac u K => ?_, fun hwt ac u K => ?_, trivial⟩ ?_
      · exact st_move (.tmp 9) rfl (K.t x9 rfl)
      · exact st_neqi 28 (.tmp 96) (.const (.int .i64 0)) rfl .i64 (0) (0) (K.dep 0 96 rfl) rfl _ (by rfl)
      · exact st_move (.tmp 97) rfl (K.dep 1 97 rfl)
      · exact st_move (.tmp 13) rfl (K.t x13 rfl)
      · exact st_bin .eql 27 27 (.tmp 99) _ rfl (K.dep 3 99 rfl) rfl (by kernel_rfl)
      · exact st_pick_f' (.tmp 98) (.const (.bool true)) (.tmp 100) rfl (K.dep 2 98 rfl) (K.dep 4 100 rfl)
      intro f29 w29 A hb
      replace x0 := A.t x0 rfl
      replace x1 := A.t x1 rfl
      replace x2 := A.t x2 rfl
      replace x7 := A.t x7 rfl
      replace x13 := A.t x13 rfl
      replace x9 := A.t x9 rfl
      have x101 := A.e 5 101 rfl rfl
      replace hd := HD.below hd hb
      replace hc := HD.below hc hb
      replace hwc := HW.below hwc hb
      replace bl := bgo bl hb
      replace sd := A.sd sd
      clear A hb
      clear x9
      show Code.wp _ _ _ _ _
      refine wp_cond_false x101 ?_
      refine wp_skip ?_
      show Code.wp _ _ _ _ _
      refine wp_seq ?_
      refine wr_a [.eq (.int .i64 ((homN n : Nat) : Int)), .eq (.int .i64 ((homN n : Nat) : Int))] (by rw [sd.1]; kernel_rfl) ⟨fun hwt ac u K => ?_, fun hwt ac u K => ?_, trivial⟩ ?_
      · exact st_call 10 (.func 10) _ _ _ rfl rfl (one_arg rfl) Try.enter10 (by have h9 := fk_home (n := 12) (by decide) (by decide) u; rw [show homN 12 = homN n from by rw [hn9]] at h9; exact h9)
      · exact st_assign (.tmp 102) rfl (K.dep 0 102 rfl)
      intro f30 w30 A hb
      replace x0 := A.t x0 rfl
      replace x1 := A.t x1 rfl
      replace x2 := A.t x2 rfl
      replace x7 := A.t x7 rfl
      replace x13 := A.t x13 rfl
      replace x101 := A.t x101 rfl
      have x14 := A.e 1 14 rfl rfl
      replace hd := HD.below hd hb
      replace hc := HD.below hc hb
      replace hwc := HW.below hwc hb
      replace bl := bgo bl hb
      replace sd := A.sd sd
      clear A hb
      clear x101
      show Code.wp _ _ _ _ _
      refine wp_seq ?_
      refine wr_s [.eq (.pointer (some ⟨gwc, 0, none⟩)), .eq (.int .i64 ((homN n : Nat) : Int))] (by rw [sd.1]; kernel_rfl) ⟨fun hwt ac u K => ?_, fun hwt ac u K => ?_, trivial⟩ ?_
      · exact st_move (.tmp 13) rfl (K.t x13 rfl)
      · exact st_move (.tmp 14) rfl (K.t x14 rfl)
      intro f31 w31 A hb
      replace x0 := A.t x0 rfl
      replace x1 := A.t x1 rfl
      replace x2 := A.t x2 rfl
      replace x7 := A.t x7 rfl
      replace x13 := A.t x13 rfl
      replace x14 := A.t x14 rfl
      have x104 := A.e 0 104 rfl rfl
      have x105 := A.e 1 105 rfl rfl
      replace hd := HD.below hd hb
      replace hc := HD.below hc hb
      replace hwc := HW.below hwc hb
      replace bl := bgo bl hb
      replace sd := A.sd sd
      clear A hb
      clear x13
      refine wl_call 18 (.func 18) _ _ #[.pointer (some ⟨gwc, 0, none⟩), .int .i64 ((homN n : Nat) : Int)] rfl 106 rfl (by rw [sd.1]; decide) rfl rfl (two_arg x104 x105) Try.enter18 (fun u W' => ∃ (D2 : Nat → Prop) (v : Value), u = .tuple #[v, .bool true] ∧ MBs W' DD (fun _ => False) (homN n) (.some (hml sOp (homN n))) v ∧ HD W' gc MC D2 sOp ∧ (∀ j, D2 j → D2c j ∨ w31.heap.size ≤ j) ∧ Fr MC w31 W') (homes_mb2 hwc hc gsc hdnO hVDc (by omega) (by omega) hd.lt) ?_
      rintro f32 w32 df2 sz2 old2 ⟨D3, vQ, x106, hQ, hc2, hD3, O⟩
      replace hd := hd.keep (fun j q => O.block j (hd.lt j q) (fun m => hME j m q)) O.size
      replace bl := bl.trans (O.below bl.size (fun j q => hMw j q))
      replace bl0 := bl
      clear hc hc2 hD3 O hwc hVDc gsc hME hMw
      rw [hhoO] at hQ
      clear hhoO hdnO hopd sOp
      replace x0 := tr old2 x0 rfl
      replace x1 := tr old2 x1 rfl
      replace x2 := tr old2 x2 rfl
      replace x7 := tr old2 x7 rfl
      replace x14 := tr old2 x14 rfl
      replace x104 := tr old2 x104 rfl
      replace x105 := tr old2 x105 rfl
      replace sd := sd2 sz2 df2 sd
      clear df2 sz2 old2
      clear x104
      clear x105
      refine wl_one (.eq (.tuple #[vQ, .bool true])) rfl 103 rfl (by rw [sd.1]; decide) (st_move (.tmp 106) rfl x106) ?_
      intro f33 w33 df2 sz2 old2 new2 hb
      replace x0 := tr old2 x0 rfl
      replace x1 := tr old2 x1 rfl
      replace x2 := tr old2 x2 rfl
      replace x7 := tr old2 x7 rfl
      replace x14 := tr old2 x14 rfl
      replace x106 := tr old2 x106 rfl
      have x103 := Fk.e new2
      replace hd := HD.below hd hb
      replace hQ := MBs.below hQ hb
      replace bl := bgo bl hb
      replace sd := sd2 sz2 df2 sd
      clear df2 sz2 old2 new2 hb
      clear x106
      refine wl_one (.eq (vQ)) rfl 107 rfl (by rw [sd.1]; decide) (st_extv (.tmp 103) 0 rfl x103 rfl) ?_
      intro f34 w34 df2 sz2 old2 new2 hb
      replace x0 := tr old2 x0 rfl
      replace x1 := tr old2 x1 rfl
      replace x2 := tr old2 x2 rfl
      replace x7 := tr old2 x7 rfl
      replace x14 := tr old2 x14 rfl
      replace x103 := tr old2 x103 rfl
      have x107 := Fk.e new2
      replace hd := HD.below hd hb
      replace hQ := MBs.below hQ hb
      replace bl := bgo bl hb
      replace sd := sd2 sz2 df2 sd
      clear df2 sz2 old2 new2 hb
      refine wl_one (.eq (.bool true)) rfl 108 rfl (by rw [sd.1]; decide) (st_extv (.tmp 103) 1 rfl x103 rfl) ?_
      intro f35 w35 df2 sz2 old2 new2 hb
      replace x0 := tr old2 x0 rfl
      replace x1 := tr old2 x1 rfl
      replace x2 := tr old2 x2 rfl
      replace x7 := tr old2 x7 rfl
      replace x14 := tr old2 x14 rfl
      replace x103 := tr old2 x103 rfl
      replace x107 := tr old2 x107 rfl
      have x108 := Fk.e new2
      replace hd := HD.below hd hb
      replace hQ := MBs.below hQ hb
      replace bl := bgo bl hb
      replace sd := sd2 sz2 df2 sd
      clear df2 sz2 old2 new2 hb
      clear x103
      refine wl_one (.eq (vQ)) rfl 15 rfl (by rw [sd.1]; decide) (st_assign (.tmp 107) rfl x107) ?_
      intro f36 w36 df2 sz2 old2 new2 hb
      replace x0 := tr old2 x0 rfl
      replace x1 := tr old2 x1 rfl
      replace x2 := tr old2 x2 rfl
      replace x7 := tr old2 x7 rfl
      replace x14 := tr old2 x14 rfl
      replace x107 := tr old2 x107 rfl
      replace x108 := tr old2 x108 rfl
      have x15 := Fk.e new2
      replace hd := HD.below hd hb
      replace hQ := MBs.below hQ hb
      replace bl := bgo bl hb
      replace sd := sd2 sz2 df2 sd
      clear df2 sz2 old2 new2 hb
      clear x107
      refine wl_one (.eq (.bool true)) rfl 16 rfl (by rw [sd.1]; decide) (st_assign (.tmp 108) rfl x108) ?_
      intro f37 w37 df2 sz2 old2 new2 hb
      replace x0 := tr old2 x0 rfl
      replace x1 := tr old2 x1 rfl
      replace x2 := tr old2 x2 rfl
      replace x7 := tr old2 x7 rfl
      replace x14 := tr old2 x14 rfl
      replace x108 := tr old2 x108 rfl
      replace x15 := tr old2 x15 rfl
      have x16 := Fk.e new2
      replace hd := HD.below hd hb
      replace hQ := MBs.below hQ hb
      replace bl := bgo bl hb
      replace sd := sd2 sz2 df2 sd
      clear df2 sz2 old2 new2 hb
      refine wpList_nil ?_
      clear x108
      show Code.wp _ _ _ _ _
      refine wp_seq ?_
      refine wp_seq ?_
      obtain ⟨ks, hks⟩ : ∃ q, q = xs.drop 1 := ⟨_, rfl⟩
      obtain ⟨vT, hvT⟩ : ∃ q, q = sliced A1 1 xs.length C1 1 := ⟨_, rfl⟩
      have hT : (Fk.is ks).f vT w := by rw [hks, hvT]; exact tail_is hx1 hC1 hab.1
      have hkl : ks.length ≤ 7 := by rw [hks, List.length_drop]; omega
      have hkw : ∀ q ∈ ks, q ≤ 9223372036854775807 := fun q hq => lit64 (hwx q (List.mem_of_mem_drop (hks ▸ hq)))
      refine wr_a [.eq (.slice A1 xs.length C1), .eq (vT), .eq (.int .i64 (((ks).length : Nat) : Int)), .eq (.int .i64 0)] (by rw [sd.1]; kernel_rfl) ⟨fun hwt ac u K => ?_, fun hwt ac u K => ?_, fun hwt ac u K => ?_, fun hwt ac u K => ?_, trivial⟩ ?_
      · exact st_move (.tmp 1) rfl (K.t x1 rfl)
      · exact st_tailis (.tmp 109) (.const (.int .i64 1)) rfl hvT (K.dep 0 109 rfl) hC1 rfl hab.1
      · exact st_lenis (.tmp 110) rfl (fk_val (K.dep 1 110 rfl) (Fk.mono _ _ _ _ hT (bgo bl K.grow)))
      · exact st_move (.const (.int .i64 0)) rfl rfl
      intro f38 w38 A hb
      replace x0 := A.t x0 rfl
      replace x1 := A.t x1 rfl
      replace x2 := A.t x2 rfl
      replace x7 := A.t x7 rfl
      replace x14 := A.t x14 rfl
      replace x15 := A.t x15 rfl
      replace x16 := A.t x16 rfl
      have x110 := A.e 1 110 rfl rfl
      have x111 := A.e 2 111 rfl rfl
      have x112 := A.e 3 112 rfl rfl
      replace hd := HD.below hd hb
      replace hQ := MBs.below hQ hb
      replace bl := bgo bl hb
      replace sd := A.sd sd
      clear A hb
      show Code.wp _ _ _ _ _
      refine wp_block ?_
      refine wp_loop (fun f v1 => ∃ (k : Nat) (t : Dst) (DD : Nat → Prop), k ≤ ks.length ∧ Gd t n z (30000 + 100 * (k + 1)) ∧ SV n z t v9 ∧ t.armed = false ∧ (∀ j, DD j → w.heap.size ≤ j) ∧ f.tmps.size = 179 ∧ f.defers = [] ∧ f.eval (.tmp 0) = v ∧ f.eval (.tmp 1) = .slice A1 xs.length C1 ∧ f.eval (.tmp 2) = v2 ∧ f.eval (.tmp 7) = .pointer (some ⟨gd, 0, none⟩) ∧ f.eval (.tmp 14) = .int .i64 ((homN n : Nat) : Int) ∧ f.eval (.tmp 15) = vQ ∧ f.eval (.tmp 16) = .bool true ∧ f.eval (.tmp 110) = vT ∧ f.eval (.tmp 111) = .int .i64 (((ks).length : Nat) : Int) ∧ f.eval (.tmp 112) = .int .i64 (k : Int) ∧ HD v1 gd M DD t ∧ MBs v1 DD (fun _ => False) (homN n) (.some v9) vQ ∧ Below w.heap.size w (v1)) (fun f _ => ks.length - (intOf (f.eval (.tmp 112))).toNat) ⟨0, sc, DD, Nat.zero_le _, gs.le (by omega), hSV, har, hDD, sd.1, sd.2, x0, x1, x2, x7, x14, x15, x16, x110, x111, x112, hd, hQ, bl⟩ ?_
      intro f39 w39 hI
      clear sd bl bl0 x0 x1 x2 x7 x14 x15 x16 x110 x111 x112 hd hQ
      obtain ⟨k, t, DD, hk8, gs, hSV, har, hDD, sz, df, x0, x1, x2, x7, x14, x15, x16, x110, x111, x112, hd, hQ, bl⟩ := hI
      have sd := And.intro sz df
      clear sz df
      have bl0 := bl
      have hcnt := x112
      refine wp_seq ?_
      by_cases hlt : k < ks.length
      rotate_left
      · skip
        refine wr_a [.eq (.bool false)] (by rw [sd.1]; kernel_rfl) ⟨fun hwt ac u K => ?_, trivial⟩ ?_
        · exact st_lss 3 (.tmp 112) (.tmp 111) rfl .i64 ((k : Int)) ((((ks).length : Nat) : Int)) (K.t x112 rfl) (K.t x111 rfl) _ (by rw [eq_comm, decide_eq_false_iff_not]; exact fun h => hlt (Int.ofNat_lt.1 h))
        intro f40 w40 A hb
        replace x0 := A.t x0 rfl
        replace x1 := A.t x1 rfl
        replace x2 := A.t x2 rfl
        replace x7 := A.t x7 rfl
        replace x14 := A.t x14 rfl
        replace x15 := A.t x15 rfl
        replace x16 := A.t x16 rfl
        replace x110 := A.t x110 rfl
        replace x111 := A.t x111 rfl
        replace x112 := A.t x112 rfl
        have x113 := A.e 0 113 rfl rfl
        replace hd := HD.below hd hb
        replace hQ := MBs.below hQ hb
        replace bl := bgo bl hb
        replace sd := A.sd sd
        clear A hb
        show Code.wp _ _ _ _ _
        refine wp_seq ?_
        refine wp_cond_false x113 ?_
        refine wp_exit ?_
        show Code.wp _ _ _ _ _
        refine wp_seq ?_
        obtain ⟨o1, o2, -⟩ := SV.opens h3 h32 hnM hSV har
        obtain ⟨tZ, htZ⟩ : ∃ x, x = (wopn (homN n) (prsP n) (hdz z) t).2 := ⟨_, rfl⟩
        have hopd : wopn (homN n) (prsP n) (hdz z) t = (0, tZ) := Prod.ext o1 htZ.symm
        rw [← htZ] at o2
        have hdnZ := o2.up.2.2
        have hhoZ : hml tZ (homN n) = v9 := o2.homes
        clear o1 o2 htZ
        clear x110
        clear x111
        clear x112
        refine wr_s [.eq (.pointer (some ⟨gd, 0, none⟩))] (by rw [sd.1]; kernel_rfl) ⟨fun hwt ac u K => ?_, trivial⟩ ?_
        · exact st_move (.tmp 7) rfl (K.t x7 rfl)
        intro f41 w41 A hb
        replace x0 := A.t x0 rfl
        replace x1 := A.t x1 rfl
        replace x2 := A.t x2 rfl
        replace x7 := A.t x7 rfl
        replace x14 := A.t x14 rfl
        replace x15 := A.t x15 rfl
        replace x16 := A.t x16 rfl
        replace x113 := A.t x113 rfl
        have x150 := A.e 0 150 rfl rfl
        replace hd := HD.below hd hb
        replace hQ := MBs.below hQ hb
        replace bl := bgo bl hb
        replace sd := A.sd sd
        clear A hb
        clear x113
        refine wl_call 9 (.func 9) _ _ #[.pointer (some ⟨gd, 0, none⟩)] rfl 151 rfl (by rw [sd.1]; decide) rfl rfl (one_arg x150) Try.enter9 (fun u W' => ∃ (D2 : Nat → Prop) (gw : Nat) (VV : Nat → Prop), u = .tuple #[.pointer (some ⟨gw, 0, none⟩), .int .i64 0] ∧ HD W' gd M D2 (tZ) ∧ Gd (tZ) n z (30000 + 100 * (k + 1) + 4 * (n + 2)) ∧ HW W' gw gd VV n z false ∧ (∀ j, VV j → w41.heap.size ≤ j ∧ ¬ D2 j) ∧ (∀ j, D2 j → DD j ∨ w41.heap.size ≤ j) ∧ Fr M w41 W') (open_ok12 hd gs hSV.gw (by omega) hopd) ?_
        rintro f42 w42 df2 sz2 old2 ⟨D2, gw, VV, x151, hd2, gs2, hw, hVN, hD2, O⟩
        have hVw : ∀ j, VV j → w.heap.size ≤ j := fun j q => Nat.le_trans bl.size (hVN j q).1
        have hVD : ∀ j, VV j → ¬ D2 j := fun j q => (hVN j q).2
        replace hQ := MBs.eff hQ O (fun j q => .inl (hd.sub _ q)) hD2 (fun j q => .inr (hVN j q).1)
        have bl9 := bl.trans (O.below bl.size (fun j q => hDD j (hd.sub j q)))
        replace hDD : ∀ j, D2 j → w.heap.size ≤ j := fun j q => (hD2 j q).elim (hDD j) (fun q => by have := bl.size; omega)
        replace bl := bl9
        replace bl0 := bl
        clear bl9
        replace hd := hd2
        replace gs := gs2
        clear gs2 hVN
        clear hd2 hD2 O
        clear DD
        obtain ⟨DD, rfl⟩ : ∃ E, E = D2 := ⟨_, rfl⟩
        replace x0 := tr old2 x0 rfl
        replace x1 := tr old2 x1 rfl
        replace x2 := tr old2 x2 rfl
        replace x7 := tr old2 x7 rfl
        replace x14 := tr old2 x14 rfl
        replace x15 := tr old2 x15 rfl
        replace x16 := tr old2 x16 rfl
        replace x150 := tr old2 x150 rfl
        replace sd := sd2 sz2 df2 sd
        clear df2 sz2 old2
        clear x150
        refine wl_one (.eq (.tuple #[.pointer (some ⟨gw, 0, none⟩), .int .i64 0])) rfl 149 rfl (by rw [sd.1]; decide) (st_move (.tmp 151) rfl x151) ?_
        intro f43 w43 df2 sz2 old2 new2 hb
        replace x0 := tr old2 x0 rfl
        replace x1 := tr old2 x1 rfl
        replace x2 := tr old2 x2 rfl
        replace x7 := tr old2 x7 rfl
        replace x14 := tr old2 x14 rfl
        replace x15 := tr old2 x15 rfl
        replace x16 := tr old2 x16 rfl
        replace x151 := tr old2 x151 rfl
        have x149 := Fk.e new2
        replace hQ := MBs.below hQ hb
        replace hd := HD.below hd hb
        replace hw := HW.below hw hb
        replace bl := bgo bl hb
        replace sd := sd2 sz2 df2 sd
        clear df2 sz2 old2 new2 hb
        clear x151
        refine wl_one (.eq (.pointer (some ⟨gw, 0, none⟩))) rfl 152 rfl (by rw [sd.1]; decide) (st_extv (.tmp 149) 0 rfl x149 rfl) ?_
        intro f44 w44 df2 sz2 old2 new2 hb
        replace x0 := tr old2 x0 rfl
        replace x1 := tr old2 x1 rfl
        replace x2 := tr old2 x2 rfl
        replace x7 := tr old2 x7 rfl
        replace x14 := tr old2 x14 rfl
        replace x15 := tr old2 x15 rfl
        replace x16 := tr old2 x16 rfl
        replace x149 := tr old2 x149 rfl
        have x152 := Fk.e new2
        replace hQ := MBs.below hQ hb
        replace hd := HD.below hd hb
        replace hw := HW.below hw hb
        replace bl := bgo bl hb
        replace sd := sd2 sz2 df2 sd
        clear df2 sz2 old2 new2 hb
        refine wl_one (.eq (.int .i64 0)) rfl 153 rfl (by rw [sd.1]; decide) (st_extv (.tmp 149) 1 rfl x149 rfl) ?_
        intro f45 w45 df2 sz2 old2 new2 hb
        replace x0 := tr old2 x0 rfl
        replace x1 := tr old2 x1 rfl
        replace x2 := tr old2 x2 rfl
        replace x7 := tr old2 x7 rfl
        replace x14 := tr old2 x14 rfl
        replace x15 := tr old2 x15 rfl
        replace x16 := tr old2 x16 rfl
        replace x149 := tr old2 x149 rfl
        replace x152 := tr old2 x152 rfl
        have x153 := Fk.e new2
        replace hQ := MBs.below hQ hb
        replace hd := HD.below hd hb
        replace hw := HW.below hw hb
        replace bl := bgo bl hb
        replace sd := sd2 sz2 df2 sd
        clear df2 sz2 old2 new2 hb
        clear x149
        refine wl_one (.eq (.pointer (some ⟨gw, 0, none⟩))) rfl 8 rfl (by rw [sd.1]; decide) (st_assign (.tmp 152) rfl x152) ?_
        intro f46 w46 df2 sz2 old2 new2 hb
        replace x0 := tr old2 x0 rfl
        replace x1 := tr old2 x1 rfl
        replace x2 := tr old2 x2 rfl
        replace x7 := tr old2 x7 rfl
        replace x14 := tr old2 x14 rfl
        replace x15 := tr old2 x15 rfl
        replace x16 := tr old2 x16 rfl
        replace x152 := tr old2 x152 rfl
        replace x153 := tr old2 x153 rfl
        have x8 := Fk.e new2
        replace hQ := MBs.below hQ hb
        replace hd := HD.below hd hb
        replace hw := HW.below hw hb
        replace bl := bgo bl hb
        replace sd := sd2 sz2 df2 sd
        clear df2 sz2 old2 new2 hb
        clear x152
        refine wl_one (.eq (.int .i64 0)) rfl 9 rfl (by rw [sd.1]; decide) (st_assign (.tmp 153) rfl x153) ?_
        intro f47 w47 df2 sz2 old2 new2 hb
        replace x0 := tr old2 x0 rfl
        replace x1 := tr old2 x1 rfl
        replace x2 := tr old2 x2 rfl
        replace x7 := tr old2 x7 rfl
        replace x14 := tr old2 x14 rfl
        replace x15 := tr old2 x15 rfl
        replace x16 := tr old2 x16 rfl
        replace x153 := tr old2 x153 rfl
        replace x8 := tr old2 x8 rfl
        have x9 := Fk.e new2
        replace hQ := MBs.below hQ hb
        replace hd := HD.below hd hb
        replace hw := HW.below hw hb
        replace bl := bgo bl hb
        replace sd := sd2 sz2 df2 sd
        clear df2 sz2 old2 new2 hb
        refine wpList_nil ?_
        clear x153
        show Code.wp _ _ _ _ _
        refine wp_seq ?_
        refine wp_seq ?_
        refine wr_a [.eq (.int .i64 0), .eq (.bool false), .eq (.bool false), .eq (.pointer (some ⟨gw, 0, none⟩)), .eq (.bool false), .eq (.bool false), .eq (.bool false), .eq (.bool true), .eq (.bool false), .eq (.bool false)] (by rw [sd.1]; kernel_rfl) ⟨fun hwt ac u K => ?_, fun hwt ac u K => ?_, fun hwt ac u K => ?_, fun hwt ac u K => ?_, fun hwt ac u K => ?_, fun hwt ac u K => ?_, fun hwt ac u K => ?_, fun hwt ac u K => ?_, fun hwt ac u K => ?_, fun hwt ac u K => ?_, trivial⟩ ?_
        · exact st_move (.tmp 9) rfl (K.t x9 rfl)
        · exact st_neqi 28 (.tmp 154) (.const (.int .i64 0)) rfl .i64 (0) (0) (K.dep 0 154 rfl) rfl _ (by rfl)
        · exact st_move (.tmp 155) rfl (K.dep 1 155 rfl)
        · exact st_move (.tmp 8) rfl (K.t x8 rfl)
        · exact st_bin .eql 27 27 (.tmp 157) _ rfl (K.dep 3 157 rfl) rfl (by kernel_rfl)
        · exact st_pick_f' (.tmp 156) (.const (.bool true)) (.tmp 158) rfl (K.dep 2 156 rfl) (K.dep 4 158 rfl)
        · exact st_move (.tmp 159) rfl (K.dep 5 159 rfl)
        · exact st_move (.tmp 16) rfl (K.t x16 rfl)
        · exact st_not (.tmp 161) rfl true (K.dep 7 161 rfl)
        · exact st_pick_f' (.tmp 160) (.const (.bool true)) (.tmp 162) rfl (K.dep 6 160 rfl) (K.dep 8 162 rfl)
        intro f48 w48 A hb
        replace x0 := A.t x0 rfl
        replace x1 := A.t x1 rfl
        replace x2 := A.t x2 rfl
        replace x7 := A.t x7 rfl
        replace x14 := A.t x14 rfl
        replace x15 := A.t x15 rfl
        replace x16 := A.t x16 rfl
        replace x8 := A.t x8 rfl
        replace x9 := A.t x9 rfl
        have x163 := A.e 9 163 rfl rfl
        replace hQ := MBs.below hQ hb
        replace hd := HD.below hd hb
        replace hw := HW.below hw hb
        replace bl := bgo bl hb
        replace sd := A.sd sd
        clear A hb
        clear x9
        show Code.wp _ _ _ _ _
        refine wp_cond_false x163 ?_
        refine wp_skip ?_
        show Code.wp _ _ _ _ _
        refine wp_seq ?_
        refine wr_s [.eq (.pointer (some ⟨gw, 0, none⟩)), .eq (.int .i64 ((homN n : Nat) : Int))] (by rw [sd.1]; kernel_rfl) ⟨fun hwt ac u K => ?_, fun hwt ac u K => ?_, trivial⟩ ?_
        · exact st_move (.tmp 8) rfl (K.t x8 rfl)
        · exact st_move (.tmp 14) rfl (K.t x14 rfl)
        intro f49 w49 A hb
        replace x0 := A.t x0 rfl
        replace x1 := A.t x1 rfl
        replace x2 := A.t x2 rfl
        replace x7 := A.t x7 rfl
        replace x14 := A.t x14 rfl
        replace x15 := A.t x15 rfl
        replace x16 := A.t x16 rfl
        replace x8 := A.t x8 rfl
        replace x163 := A.t x163 rfl
        have x165 := A.e 0 165 rfl rfl
        have x166 := A.e 1 166 rfl rfl
        replace hQ := MBs.below hQ hb
        replace hd := HD.below hd hb
        replace hw := HW.below hw hb
        replace bl := bgo bl hb
        replace sd := A.sd sd
        clear A hb
        clear x163
        refine wl_call 18 (.func 18) _ _ #[.pointer (some ⟨gw, 0, none⟩), .int .i64 ((homN n : Nat) : Int)] rfl 167 rfl (by rw [sd.1]; decide) rfl rfl (two_arg x165 x166) Try.enter18 (fun u W' => ∃ (D2 : Nat → Prop) (v : Value), u = .tuple #[v, .bool true] ∧ MBs W' D2 VV (homN n) (.some (hml tZ (homN n))) v ∧ HD W' gd M D2 tZ ∧ HW W' gw gd VV n z false ∧ (∀ j, D2 j → DD j ∨ w49.heap.size ≤ j) ∧ Fr M w49 W') (homes_mb hw hd gs hdnZ hVD (by omega) (by omega)) ?_
        rintro f50 w50 df2 sz2 old2 ⟨D2, vZ2, x167, hZ2, hd2, hw2, hD2, O⟩
        have hVlt9 := hw.lt
        replace hVD : ∀ j, VV j → ¬ D2 j := fun j q m => (hD2 j m).elim (hVD j q) (fun m => by have := hVlt9 j q; omega)
        clear hVlt9
        replace hQ := MBs.eff hQ O (fun j q => .inl (hd.sub _ q)) hD2 (fun j q => .inl q)
        have bl9 := bl.trans (O.below bl.size (fun j q => hDD j (hd.sub j q)))
        replace hDD : ∀ j, D2 j → w.heap.size ≤ j := fun j q => (hD2 j q).elim (hDD j) (fun q => by have := bl.size; omega)
        replace bl := bl9
        replace bl0 := bl
        clear bl9
        replace hd := hd2
        replace hw := hw2
        clear hw2
        clear hd2 hD2 O
        clear DD
        obtain ⟨DD, rfl⟩ : ∃ E, E = D2 := ⟨_, rfl⟩
        replace x0 := tr old2 x0 rfl
        replace x1 := tr old2 x1 rfl
        replace x2 := tr old2 x2 rfl
        replace x7 := tr old2 x7 rfl
        replace x14 := tr old2 x14 rfl
        replace x15 := tr old2 x15 rfl
        replace x16 := tr old2 x16 rfl
        replace x8 := tr old2 x8 rfl
        replace x165 := tr old2 x165 rfl
        replace x166 := tr old2 x166 rfl
        replace sd := sd2 sz2 df2 sd
        clear df2 sz2 old2
        clear x165
        clear x166
        refine wl_one (.eq (.tuple #[vZ2, .bool true])) rfl 164 rfl (by rw [sd.1]; decide) (st_move (.tmp 167) rfl x167) ?_
        intro f51 w51 df2 sz2 old2 new2 hb
        replace x0 := tr old2 x0 rfl
        replace x1 := tr old2 x1 rfl
        replace x2 := tr old2 x2 rfl
        replace x7 := tr old2 x7 rfl
        replace x14 := tr old2 x14 rfl
        replace x15 := tr old2 x15 rfl
        replace x16 := tr old2 x16 rfl
        replace x8 := tr old2 x8 rfl
        replace x167 := tr old2 x167 rfl
        have x164 := Fk.e new2
        replace hQ := MBs.below hQ hb
        replace hd := HD.below hd hb
        replace hw := HW.below hw hb
        replace hZ2 := MBs.below hZ2 hb
        replace bl := bgo bl hb
        replace sd := sd2 sz2 df2 sd
        clear df2 sz2 old2 new2 hb
        clear x167
        refine wl_one (.eq (vZ2)) rfl 168 rfl (by rw [sd.1]; decide) (st_extv (.tmp 164) 0 rfl x164 rfl) ?_
        intro f52 w52 df2 sz2 old2 new2 hb
        replace x0 := tr old2 x0 rfl
        replace x1 := tr old2 x1 rfl
        replace x2 := tr old2 x2 rfl
        replace x7 := tr old2 x7 rfl
        replace x14 := tr old2 x14 rfl
        replace x15 := tr old2 x15 rfl
        replace x16 := tr old2 x16 rfl
        replace x8 := tr old2 x8 rfl
        replace x164 := tr old2 x164 rfl
        have x168 := Fk.e new2
        replace hQ := MBs.below hQ hb
        replace hd := HD.below hd hb
        replace hw := HW.below hw hb
        replace hZ2 := MBs.below hZ2 hb
        replace bl := bgo bl hb
        replace sd := sd2 sz2 df2 sd
        clear df2 sz2 old2 new2 hb
        refine wl_one (.eq (.bool true)) rfl 169 rfl (by rw [sd.1]; decide) (st_extv (.tmp 164) 1 rfl x164 rfl) ?_
        intro f53 w53 df2 sz2 old2 new2 hb
        replace x0 := tr old2 x0 rfl
        replace x1 := tr old2 x1 rfl
        replace x2 := tr old2 x2 rfl
        replace x7 := tr old2 x7 rfl
        replace x14 := tr old2 x14 rfl
        replace x15 := tr old2 x15 rfl
        replace x16 := tr old2 x16 rfl
        replace x8 := tr old2 x8 rfl
        replace x164 := tr old2 x164 rfl
        replace x168 := tr old2 x168 rfl
        have x169 := Fk.e new2
        replace hQ := MBs.below hQ hb
        replace hd := HD.below hd hb
        replace hw := HW.below hw hb
        replace hZ2 := MBs.below hZ2 hb
        replace bl := bgo bl hb
        replace sd := sd2 sz2 df2 sd
        clear df2 sz2 old2 new2 hb
        clear x164
        refine wl_one (.eq (vZ2)) rfl 23 rfl (by rw [sd.1]; decide) (st_assign (.tmp 168) rfl x168) ?_
        intro f54 w54 df2 sz2 old2 new2 hb
        replace x0 := tr old2 x0 rfl
        replace x1 := tr old2 x1 rfl
        replace x2 := tr old2 x2 rfl
        replace x7 := tr old2 x7 rfl
        replace x14 := tr old2 x14 rfl
        replace x15 := tr old2 x15 rfl
        replace x16 := tr old2 x16 rfl
        replace x8 := tr old2 x8 rfl
        replace x168 := tr old2 x168 rfl
        replace x169 := tr old2 x169 rfl
        have x23 := Fk.e new2
        replace hQ := MBs.below hQ hb
        replace hd := HD.below hd hb
        replace hw := HW.below hw hb
        replace hZ2 := MBs.below hZ2 hb
        replace bl := bgo bl hb
        replace sd := sd2 sz2 df2 sd
        clear df2 sz2 old2 new2 hb
        clear x168
        refine wl_one (.eq (.bool true)) rfl 24 rfl (by rw [sd.1]; decide) (st_assign (.tmp 169) rfl x169) ?_
        intro f55 w55 df2 sz2 old2 new2 hb
        replace x0 := tr old2 x0 rfl
        replace x1 := tr old2 x1 rfl
        replace x2 := tr old2 x2 rfl
        replace x7 := tr old2 x7 rfl
        replace x14 := tr old2 x14 rfl
        replace x15 := tr old2 x15 rfl
        replace x16 := tr old2 x16 rfl
        replace x8 := tr old2 x8 rfl
        replace x169 := tr old2 x169 rfl
        replace x23 := tr old2 x23 rfl
        have x24 := Fk.e new2
        replace hQ := MBs.below hQ hb
        replace hd := HD.below hd hb
        replace hw := HW.below hw hb
        replace hZ2 := MBs.below hZ2 hb
        replace bl := bgo bl hb
        replace sd := sd2 sz2 df2 sd
        clear df2 sz2 old2 new2 hb
        refine wpList_nil ?_
        clear x169
        show Code.wp _ _ _ _ _
        refine wp_seq ?_
        rw [hhoZ] at hZ2
        refine wr_a [.eq (.bool true), .eq (.bool true), .eq (vZ2), .eq (vQ), .eq (.bool true), .eq (.bool true), .eq (.bool true), .eq (.bool true), .eq (.bool true), .eq (.bool true)] (by rw [sd.1]; kernel_rfl) ⟨fun hwt ac u K => ?_, fun hwt ac u K => ?_, fun hwt ac u K => ?_, fun hwt ac u K => ?_, fun hwt ac u K => ?_, fun hwt ac u K => ?_, fun hwt ac u K => ?_, fun hwt ac u K => ?_, fun hwt ac u K => ?_, fun hwt ac u K => ?_, trivial⟩ ?_
        · exact st_move (.tmp 24) rfl (K.t x24 rfl)
        · exact st_move (.tmp 170) rfl (K.dep 0 170 rfl)
        · exact st_move (.tmp 23) rfl (K.t x23 rfl)
        · exact st_move (.tmp 15) rfl (K.t x15 rfl)
        · exact st_call 19 (.func 19) _ _ _ rfl rfl (arg2 (K.dep 2 172 rfl) (K.dep 3 173 rfl)) Try.enter19 (by have h9 := same_mb (MBs.below hZ2 K.grow) (MBs.below hQ K.grow) (by omega); rw [decide_eq_true rfl] at h9; exact h9)
        · exact st_pick_t (.tmp 171) (.tmp 174) (.const (.bool false)) rfl (K.dep 1 171 rfl) (K.dep 4 174 rfl)
        · exact st_move (.tmp 175) rfl (K.dep 5 175 rfl)
        · exact st_call 7 (.func 7) _ _ _ rfl rfl rfl Try.enter7 (awake12 _)
        · exact st_pick_t (.tmp 176) (.tmp 177) (.const (.bool false)) rfl (K.dep 6 176 rfl) (K.dep 7 177 rfl)
        · exact st_assign (.tmp 178) rfl (K.dep 8 178 rfl)
        intro f56 w56 A hb
        replace x0 := A.t x0 rfl
        replace x1 := A.t x1 rfl
        replace x2 := A.t x2 rfl
        replace x7 := A.t x7 rfl
        replace x14 := A.t x14 rfl
        replace x15 := A.t x15 rfl
        replace x16 := A.t x16 rfl
        replace x8 := A.t x8 rfl
        replace x23 := A.t x23 rfl
        replace x24 := A.t x24 rfl
        have x6 := A.e 9 6 rfl rfl
        replace hQ := MBs.below hQ hb
        replace hd := HD.below hd hb
        replace hw := HW.below hw hb
        replace hZ2 := MBs.below hZ2 hb
        replace bl := bgo bl hb
        replace sd := A.sd sd
        clear A hb
        clear x23
        clear x24
        show Code.wp _ _ _ _ _
        refine wp_ret ?_
        repeat (first | with_reducible refine then_ret ?_ | with_reducible refine block_ret ?_)
        exact bodyPost_ret (v := .bool true) (ret_slot rfl f56 _ x6 _ _) sd.2 ⟨rfl, bl⟩
      obtain ⟨kk, hkk⟩ : ∃ z, ks[k]? = some z := ⟨_, List.getElem?_eq_getElem hlt⟩
      have hkk9 := hkw kk (List.mem_of_getElem? hkk)
      refine wr_a [.eq (.bool true)] (by rw [sd.1]; kernel_rfl) ⟨fun hwt ac u K => ?_, trivial⟩ ?_
      · exact st_lss 3 (.tmp 112) (.tmp 111) rfl .i64 ((k : Int)) ((((ks).length : Nat) : Int)) (K.t x112 rfl) (K.t x111 rfl) _ (by rw [eq_comm, decide_eq_true_iff]; exact Int.ofNat_lt.2 hlt)
      intro f40 w40 A hb
      replace x0 := A.t x0 rfl
      replace x1 := A.t x1 rfl
      replace x2 := A.t x2 rfl
      replace x7 := A.t x7 rfl
      replace x14 := A.t x14 rfl
      replace x15 := A.t x15 rfl
      replace x16 := A.t x16 rfl
      replace x110 := A.t x110 rfl
      replace x111 := A.t x111 rfl
      replace x112 := A.t x112 rfl
      have x113 := A.e 0 113 rfl rfl
      replace hd := HD.below hd hb
      replace hQ := MBs.below hQ hb
      replace bl := bgo bl hb
      replace sd := A.sd sd
      clear A hb
      show Code.wp _ _ _ _ _
      refine wp_seq ?_
      refine wp_cond_true x113 ?_
      refine wp_skip ?_
      show Code.wp _ _ _ _ _
      refine wp_seq ?_
      refine wp_block ?_
      refine wp_seq ?_
      refine wr_a [.prg [.int .i64 (kk)], .eq (.int .i64 (kk)), .eq (.int .i64 (kk))] (by rw [sd.1]; kernel_rfl) ⟨fun hwt ac u K => ?_, fun hwt ac u K => ?_, fun hwt ac u K => ?_, trivial⟩ ?_
      · exact st_idxis (.tmp 110) (.tmp 112) rfl (fk_val (K.t x110 rfl) (Fk.mono _ _ _ _ hT (bgo bl K.grow))) k (K.t x112 rfl) kk hkk
      · exact st_loadr1 3 (.tmp 114) rfl (by kernel_rfl) (K.dep 0 114 rfl)
      · exact st_assign (.tmp 115) rfl (K.dep 1 115 rfl)
      intro f41 w41 A hb
      replace x0 := A.t x0 rfl
      replace x1 := A.t x1 rfl
      replace x2 := A.t x2 rfl
      replace x7 := A.t x7 rfl
      replace x14 := A.t x14 rfl
      replace x15 := A.t x15 rfl
      replace x16 := A.t x16 rfl
      replace x110 := A.t x110 rfl
      replace x111 := A.t x111 rfl
      replace x112 := A.t x112 rfl
      replace x113 := A.t x113 rfl
      have x18 := A.e 2 18 rfl rfl
      replace hd := HD.below hd hb
      replace hQ := MBs.below hQ hb
      replace bl := bgo bl hb
      replace sd := A.sd sd
      clear A hb
      clear x113
      show Code.wp _ _ _ _ _
      refine wp_seq ?_
      have hSA := SV.arm hSV kk
      obtain ⟨tA, htA⟩ : ∃ x, x = { t with armed := decide (0 ≤ kk), left := kk } := ⟨_, rfl⟩
      have gsA : Gd tA n z (30000 + 100 * (k + 1)) := by rw [htA]; exact ⟨gs.has, gs.cch, gs.size, gs.done, gs.hl, gs.cl⟩
      rw [← htA] at hSA
      obtain ⟨hor, hsv⟩ := SV.open h3 h32 hnM hSA
      obtain ⟨tO, htO⟩ : ∃ x, x = (wopn (homN n) (prsP n) (hdz z) tA).2 := ⟨_, rfl⟩
      rw [← htO] at hor hsv
      refine wr_s [.eq (.pointer (some ⟨gd, 0, none⟩)), .eq (.int .i64 (kk))] (by rw [sd.1]; kernel_rfl) ⟨fun hwt ac u K => ?_, fun hwt ac u K => ?_, trivial⟩ ?_
      · exact st_move (.tmp 7) rfl (K.t x7 rfl)
      · exact st_move (.tmp 18) rfl (K.t x18 rfl)
      intro f42 w42 A hb
      replace x0 := A.t x0 rfl
      replace x1 := A.t x1 rfl
      replace x2 := A.t x2 rfl
      replace x7 := A.t x7 rfl
      replace x14 := A.t x14 rfl
      replace x15 := A.t x15 rfl
      replace x16 := A.t x16 rfl
      replace x110 := A.t x110 rfl
      replace x111 := A.t x111 rfl
      replace x112 := A.t x112 rfl
      replace x18 := A.t x18 rfl
      have x116 := A.e 0 116 rfl rfl
      have x117 := A.e 1 117 rfl rfl
      replace hd := HD.below hd hb
      replace hQ := MBs.below hQ hb
      replace bl := bgo bl hb
      replace sd := A.sd sd
      clear A hb
      clear x18
      refine wl_call 22 (.func 22) _ _ #[.pointer (some ⟨gd, 0, none⟩), .int .i64 kk] rfl 118 rfl (by rw [sd.1]; decide) rfl rfl (two_arg x116 x117) Try.enter22 (fun u W' => ∃ D2 : Nat → Prop, u = .tuple #[] ∧ HD W' gd M D2 ({ t with armed := decide (0 ≤ kk), left := kk }) ∧ (∀ j, D2 j → DD j ∨ w42.heap.size ≤ j) ∧ Fr M w42 W') ((fk_darm hd kk hkk9).mono (by rintro e w' ⟨D', rfl, q⟩; exact ⟨_, rfl, D', rfl, q⟩)) ?_
      rintro f43 w43 df2 sz2 old2 ⟨D2, x118, hd2, hD2, O⟩
      replace hQ := MBs.eff hQ O (fun j q => .inl (hd.sub _ q)) hD2 (fun j q => .inl q)
      have bl9 := bl.trans (O.below bl.size (fun j q => hDD j (hd.sub j q)))
      replace hDD : ∀ j, D2 j → w.heap.size ≤ j := fun j q => (hD2 j q).elim (hDD j) (fun q => by have := bl.size; omega)
      replace bl := bl9
      replace bl0 := bl
      clear bl9
      replace hd := hd2
      clear hd2 hD2 O
      clear DD
      obtain ⟨DD, rfl⟩ : ∃ E, E = D2 := ⟨_, rfl⟩
      replace x0 := tr old2 x0 rfl
      replace x1 := tr old2 x1 rfl
      replace x2 := tr old2 x2 rfl
      replace x7 := tr old2 x7 rfl
      replace x14 := tr old2 x14 rfl
      replace x15 := tr old2 x15 rfl
      replace x16 := tr old2 x16 rfl
      replace x110 := tr old2 x110 rfl
      replace x111 := tr old2 x111 rfl
      replace x112 := tr old2 x112 rfl
      replace x116 := tr old2 x116 rfl
      replace x117 := tr old2 x117 rfl
      replace sd := sd2 sz2 df2 sd
      clear df2 sz2 old2
      rw [← htA] at hd
      clear gs
      have gs := gsA
      clear gsA htA hSV
      refine wpList_nil ?_
      clear x116
      clear x117
      clear x118
      show Code.wp _ _ _ _ _
      refine wp_seq ?_
      refine wp_seq ?_
      rcases hor with ⟨o1, o2, o3⟩ | o1
      rotate_left
      · skip
        have hopd : wopn (homN n) (prsP n) (hdz z) tA = (30, tO) := Prod.ext o1 htO.symm
        clear htO o1
        refine wr_s [.eq (.pointer (some ⟨gd, 0, none⟩))] (by rw [sd.1]; kernel_rfl) ⟨fun hwt ac u K => ?_, trivial⟩ ?_
        · exact st_move (.tmp 7) rfl (K.t x7 rfl)
        intro f44 w44 A hb
        replace x0 := A.t x0 rfl
        replace x1 := A.t x1 rfl
        replace x2 := A.t x2 rfl
        replace x7 := A.t x7 rfl
        replace x14 := A.t x14 rfl
        replace x15 := A.t x15 rfl
        replace x16 := A.t x16 rfl
        replace x110 := A.t x110 rfl
        replace x111 := A.t x111 rfl
        replace x112 := A.t x112 rfl
        have x120 := A.e 0 120 rfl rfl
        replace hd := HD.below hd hb
        replace hQ := MBs.below hQ hb
        replace bl := bgo bl hb
        replace sd := A.sd sd
        clear A hb
        refine wl_call 9 (.func 9) _ _ #[.pointer (some ⟨gd, 0, none⟩)] rfl 121 rfl (by rw [sd.1]; decide) rfl rfl (one_arg x120) Try.enter9 (fun u W' => ∃ (D2 : Nat → Prop), u = .tuple #[.pointer none, .int .i64 30] ∧ HD W' gd M D2 (tO) ∧ Gd (tO) n z (30000 + 100 * (k + 1) + 4 * (n + 2)) ∧ (∀ j, D2 j → DD j ∨ w44.heap.size ≤ j) ∧ Fr M w44 W') (open_no12 hd gs hSA.gw (by omega) (by decide) hopd) ?_
        rintro f45 w45 df2 sz2 old2 ⟨D2, x121, hd2, gs2, hD2, O⟩
        replace hQ := MBs.eff hQ O (fun j q => .inl (hd.sub _ q)) hD2 (V2 := fun _ => False) (fun j q => .inl q)
        have bl9 := bl.trans (O.below bl.size (fun j q => hDD j (hd.sub j q)))
        replace hDD : ∀ j, D2 j → w.heap.size ≤ j := fun j q => (hD2 j q).elim (hDD j) (fun q => by have := bl.size; omega)
        replace bl := bl9
        replace bl0 := bl
        clear bl9
        replace hd := hd2
        replace gs := gs2
        clear gs2
        clear hd2 hD2 O
        clear DD
        obtain ⟨DD, rfl⟩ : ∃ E, E = D2 := ⟨_, rfl⟩
        replace x0 := tr old2 x0 rfl
        replace x1 := tr old2 x1 rfl
        replace x2 := tr old2 x2 rfl
        replace x7 := tr old2 x7 rfl
        replace x14 := tr old2 x14 rfl
        replace x15 := tr old2 x15 rfl
        replace x16 := tr old2 x16 rfl
        replace x110 := tr old2 x110 rfl
        replace x111 := tr old2 x111 rfl
        replace x112 := tr old2 x112 rfl
        replace x120 := tr old2 x120 rfl
        replace sd := sd2 sz2 df2 sd
        clear df2 sz2 old2
        clear x120
        refine wl_one (.eq (.tuple #[.pointer none, .int .i64 30])) rfl 119 rfl (by rw [sd.1]; decide) (st_move (.tmp 121) rfl x121) ?_
        intro f46 w46 df2 sz2 old2 new2 hb
        replace x0 := tr old2 x0 rfl
        replace x1 := tr old2 x1 rfl
        replace x2 := tr old2 x2 rfl
        replace x7 := tr old2 x7 rfl
        replace x14 := tr old2 x14 rfl
        replace x15 := tr old2 x15 rfl
        replace x16 := tr old2 x16 rfl
        replace x110 := tr old2 x110 rfl
        replace x111 := tr old2 x111 rfl
        replace x112 := tr old2 x112 rfl
        replace x121 := tr old2 x121 rfl
        have x119 := Fk.e new2
        replace hd := HD.below hd hb
        replace hQ := MBs.below hQ hb
        replace bl := bgo bl hb
        replace sd := sd2 sz2 df2 sd
        clear df2 sz2 old2 new2 hb
        clear x121
        refine wl_one (.eq (.pointer none)) rfl 122 rfl (by rw [sd.1]; decide) (st_extv (.tmp 119) 0 rfl x119 rfl) ?_
        intro f47 w47 df2 sz2 old2 new2 hb
        replace x0 := tr old2 x0 rfl
        replace x1 := tr old2 x1 rfl
        replace x2 := tr old2 x2 rfl
        replace x7 := tr old2 x7 rfl
        replace x14 := tr old2 x14 rfl
        replace x15 := tr old2 x15 rfl
        replace x16 := tr old2 x16 rfl
        replace x110 := tr old2 x110 rfl
        replace x111 := tr old2 x111 rfl
        replace x112 := tr old2 x112 rfl
        replace x119 := tr old2 x119 rfl
        have x122 := Fk.e new2
        replace hd := HD.below hd hb
        replace hQ := MBs.below hQ hb
        replace bl := bgo bl hb
        replace sd := sd2 sz2 df2 sd
        clear df2 sz2 old2 new2 hb
        refine wl_one (.eq (.int .i64 30)) rfl 123 rfl (by rw [sd.1]; decide) (st_extv (.tmp 119) 1 rfl x119 rfl) ?_
        intro f48 w48 df2 sz2 old2 new2 hb
        replace x0 := tr old2 x0 rfl
        replace x1 := tr old2 x1 rfl
        replace x2 := tr old2 x2 rfl
        replace x7 := tr old2 x7 rfl
        replace x14 := tr old2 x14 rfl
        replace x15 := tr old2 x15 rfl
        replace x16 := tr old2 x16 rfl
        replace x110 := tr old2 x110 rfl
        replace x111 := tr old2 x111 rfl
        replace x112 := tr old2 x112 rfl
        replace x119 := tr old2 x119 rfl
        replace x122 := tr old2 x122 rfl
        have x123 := Fk.e new2
        replace hd := HD.below hd hb
        replace hQ := MBs.below hQ hb
        replace bl := bgo bl hb
        replace sd := sd2 sz2 df2 sd
        clear df2 sz2 old2 new2 hb
        clear x119
        refine wl_one (.eq (.pointer none)) rfl 19 rfl (by rw [sd.1]; decide) (st_assign (.tmp 122) rfl x122) ?_
        intro f49 w49 df2 sz2 old2 new2 hb
        replace x0 := tr old2 x0 rfl
        replace x1 := tr old2 x1 rfl
        replace x2 := tr old2 x2 rfl
        replace x7 := tr old2 x7 rfl
        replace x14 := tr old2 x14 rfl
        replace x15 := tr old2 x15 rfl
        replace x16 := tr old2 x16 rfl
        replace x110 := tr old2 x110 rfl
        replace x111 := tr old2 x111 rfl
        replace x112 := tr old2 x112 rfl
        replace x122 := tr old2 x122 rfl
        replace x123 := tr old2 x123 rfl
        have x19 := Fk.e new2
        replace hd := HD.below hd hb
        replace hQ := MBs.below hQ hb
        replace bl := bgo bl hb
        replace sd := sd2 sz2 df2 sd
        clear df2 sz2 old2 new2 hb
        clear x122
        refine wl_one (.eq (.int .i64 30)) rfl 20 rfl (by rw [sd.1]; decide) (st_assign (.tmp 123) rfl x123) ?_
        intro f50 w50 df2 sz2 old2 new2 hb
        replace x0 := tr old2 x0 rfl
        replace x1 := tr old2 x1 rfl
        replace x2 := tr old2 x2 rfl
        replace x7 := tr old2 x7 rfl
        replace x14 := tr old2 x14 rfl
        replace x15 := tr old2 x15 rfl
        replace x16 := tr old2 x16 rfl
        replace x110 := tr old2 x110 rfl
        replace x111 := tr old2 x111 rfl
        replace x112 := tr old2 x112 rfl
        replace x123 := tr old2 x123 rfl
        replace x19 := tr old2 x19 rfl
        have x20 := Fk.e new2
        replace hd := HD.below hd hb
        replace hQ := MBs.below hQ hb
        replace bl := bgo bl hb
        replace sd := sd2 sz2 df2 sd
        clear df2 sz2 old2 new2 hb
        refine wpList_nil ?_
        clear x123
        show Code.wp _ _ _ _ _
        refine wp_seq ?_
        refine wr_a [.eq (.int .i64 30), .eq (.bool false)] (by rw [sd.1]; kernel_rfl) ⟨fun hwt ac u K => ?_, fun hwt ac u K => ?_, trivial⟩ ?_
        · exact st_move (.tmp 20) rfl (K.t x20 rfl)
        · exact st_neqi 28 (.tmp 124) (.const (.int .i64 30)) rfl .i64 (30) (30) (K.dep 0 124 rfl) rfl _ (by simp)
        intro f51 w51 A hb
        replace x0 := A.t x0 rfl
        replace x1 := A.t x1 rfl
        replace x2 := A.t x2 rfl
        replace x7 := A.t x7 rfl
        replace x14 := A.t x14 rfl
        replace x15 := A.t x15 rfl
        replace x16 := A.t x16 rfl
        replace x110 := A.t x110 rfl
        replace x111 := A.t x111 rfl
        replace x112 := A.t x112 rfl
        replace x19 := A.t x19 rfl
        replace x20 := A.t x20 rfl
        have x125 := A.e 1 125 rfl rfl
        replace hd := HD.below hd hb
        replace hQ := MBs.below hQ hb
        replace bl := bgo bl hb
        replace sd := A.sd sd
        clear A hb
        show Code.wp _ _ _ _ _
        refine wp_cond_false x125 ?_
        refine wp_skip ?_
        show Code.wp _ _ _ _ _
        clear x19
        clear x20
        refine wr_s [.eq (.pointer (some ⟨gd, 0, none⟩)), .eq (v2)] (by rw [sd.1]; kernel_rfl) ⟨fun hwt ac u K => ?_, fun hwt ac u K => ?_, trivial⟩ ?_
        · exact st_move (.tmp 7) rfl (K.t x7 rfl)
        · exact st_move (.tmp 2) rfl (K.t x2 rfl)
        intro f52 w52 A hb
        replace x0 := A.t x0 rfl
        replace x1 := A.t x1 rfl
        replace x2 := A.t x2 rfl
        replace x7 := A.t x7 rfl
        replace x14 := A.t x14 rfl
        replace x15 := A.t x15 rfl
        replace x16 := A.t x16 rfl
        replace x110 := A.t x110 rfl
        replace x111 := A.t x111 rfl
        replace x112 := A.t x112 rfl
        replace x125 := A.t x125 rfl
        have x145 := A.e 0 145 rfl rfl
        have x146 := A.e 1 146 rfl rfl
        replace hd := HD.below hd hb
        replace hQ := MBs.below hQ hb
        replace bl := bgo bl hb
        replace sd := A.sd sd
        clear A hb
        clear x125
        refine wl_call 23 (.func 23) _ _ #[.pointer (some ⟨gd, 0, none⟩), v2] rfl 147 rfl (by rw [sd.1]; decide) rfl rfl (two_arg x145 x146) Try.enter23 (fun u W' => ∃ D2 : Nat → Prop, u = .tuple #[] ∧ HD W' gd M D2 (crs tO ls) ∧ (∀ j, D2 j → DD j ∨ w52.heap.size ≤ j) ∧ Fr M w52 W') ((fk_dcrash hd (by have := gs.has; omega) (Fk.mono _ _ _ _ hy1 bl) hwy (by omega)).mono (by rintro e w' ⟨D', rfl, q⟩; exact ⟨_, rfl, D', rfl, q⟩)) ?_
        rintro f53 w53 df2 sz2 old2 ⟨D2, x147, hd2, hD2, O⟩
        replace hQ := MBs.eff hQ O (fun j q => .inl (hd.sub _ q)) hD2 (fun j q => .inl q)
        have bl9 := bl.trans (O.below bl.size (fun j q => hDD j (hd.sub j q)))
        replace hDD : ∀ j, D2 j → w.heap.size ≤ j := fun j q => (hD2 j q).elim (hDD j) (fun q => by have := bl.size; omega)
        replace bl := bl9
        replace bl0 := bl
        clear bl9
        replace hd := hd2
        clear hd2 hD2 O
        clear DD
        obtain ⟨DD, rfl⟩ : ∃ E, E = D2 := ⟨_, rfl⟩
        replace x0 := tr old2 x0 rfl
        replace x1 := tr old2 x1 rfl
        replace x2 := tr old2 x2 rfl
        replace x7 := tr old2 x7 rfl
        replace x14 := tr old2 x14 rfl
        replace x15 := tr old2 x15 rfl
        replace x16 := tr old2 x16 rfl
        replace x110 := tr old2 x110 rfl
        replace x111 := tr old2 x111 rfl
        replace x112 := tr old2 x112 rfl
        replace x145 := tr old2 x145 rfl
        replace x146 := tr old2 x146 rfl
        replace sd := sd2 sz2 df2 sd
        clear df2 sz2 old2
        refine wpList_nil ?_
        clear x145
        clear x146
        clear x147
        show Code.wp _ _ _ _ _
        refine wr_s [.eq (.int .i64 ((k + 1 : Nat) : Int))] (by rw [sd.1]; kernel_rfl) ⟨fun hwt ac u K => ?_, trivial⟩ ?_
        · exact st_addz (.tmp 112) (.const (.int .i64 1)) rfl _ _ _ (K.t x112 rfl) rfl (by omega) (by omega) (by omega)
        intro f54 w54 A hb
        replace x0 := A.t x0 rfl
        replace x1 := A.t x1 rfl
        replace x2 := A.t x2 rfl
        replace x7 := A.t x7 rfl
        replace x14 := A.t x14 rfl
        replace x15 := A.t x15 rfl
        replace x16 := A.t x16 rfl
        replace x110 := A.t x110 rfl
        replace x111 := A.t x111 rfl
        replace x112 := A.t x112 rfl
        have x148 := A.e 0 148 rfl rfl
        replace hd := HD.below hd hb
        replace hQ := MBs.below hQ hb
        replace bl := bgo bl hb
        replace sd := A.sd sd
        clear A hb
        refine wl_one (.eq (.int .i64 ((k + 1 : Nat) : Int))) rfl 112 rfl (by rw [sd.1]; decide) (st_move (.tmp 148) rfl x148) ?_
        intro f55 w55 df2 sz2 old2 new2 hb
        replace x0 := tr old2 x0 rfl
        replace x1 := tr old2 x1 rfl
        replace x2 := tr old2 x2 rfl
        replace x7 := tr old2 x7 rfl
        replace x14 := tr old2 x14 rfl
        replace x15 := tr old2 x15 rfl
        replace x16 := tr old2 x16 rfl
        replace x110 := tr old2 x110 rfl
        replace x111 := tr old2 x111 rfl
        clear x112
        replace x148 := tr old2 x148 rfl
        have x112 := Fk.e new2
        replace hd := HD.below hd hb
        replace hQ := MBs.below hQ hb
        replace bl := bgo bl hb
        replace sd := sd2 sz2 df2 sd
        clear df2 sz2 old2 new2 hb
        refine wpList_nil ?_
        clear x148
        show (∃ _, _) ∧ _
        refine ⟨⟨k + 1, crs tO ls, DD, by omega, (gd_crs gs ls).le (by omega), hsv ls, rfl, hDD, sd.1, sd.2, x0, x1, x2, x7, x14, x15, x16, x110, x111, x112, hd, hQ, bl⟩, ?_⟩
        rw [show f55.eval (.tmp 112) = _ from x112, show _ = _ from hcnt]
        first | (simp [intOf]; done) | (simp [intOf]; omega)
      have hopd : wopn (homN n) (prsP n) (hdz z) tA = (0, tO) := Prod.ext o1 htO.symm
      have hhO : hml tO (homN n) = v9 := o3
      clear htO o1 o3
      refine wr_s [.eq (.pointer (some ⟨gd, 0, none⟩))] (by rw [sd.1]; kernel_rfl) ⟨fun hwt ac u K => ?_, trivial⟩ ?_
      · exact st_move (.tmp 7) rfl (K.t x7 rfl)
      intro f44 w44 A hb
      replace x0 := A.t x0 rfl
      replace x1 := A.t x1 rfl
      replace x2 := A.t x2 rfl
      replace x7 := A.t x7 rfl
      replace x14 := A.t x14 rfl
      replace x15 := A.t x15 rfl
      replace x16 := A.t x16 rfl
      replace x110 := A.t x110 rfl
      replace x111 := A.t x111 rfl
      replace x112 := A.t x112 rfl
      have x120 := A.e 0 120 rfl rfl
      replace hd := HD.below hd hb
      replace hQ := MBs.below hQ hb
      replace bl := bgo bl hb
      replace sd := A.sd sd
      clear A hb
      refine wl_call 9 (.func 9) _ _ #[.pointer (some ⟨gd, 0, none⟩)] rfl 121 rfl (by rw [sd.1]; decide) rfl rfl (one_arg x120) Try.enter9 (fun u W' => ∃ (D2 : Nat → Prop) (gw : Nat) (VV : Nat → Prop), u = .tuple #[.pointer (some ⟨gw, 0, none⟩), .int .i64 0] ∧ HD W' gd M D2 (tO) ∧ Gd (tO) n z (30000 + 100 * (k + 1) + 4 * (n + 2)) ∧ HW W' gw gd VV n z false ∧ (∀ j, VV j → w44.heap.size ≤ j ∧ ¬ D2 j) ∧ (∀ j, D2 j → DD j ∨ w44.heap.size ≤ j) ∧ Fr M w44 W') (open_ok12 hd gs hSA.gw (by omega) hopd) ?_
      rintro f45 w45 df2 sz2 old2 ⟨D2, gw, VV, x121, hd2, gs2, hw, hVN, hD2, O⟩
      have hVw : ∀ j, VV j → w.heap.size ≤ j := fun j q => Nat.le_trans bl.size (hVN j q).1
      have hVD : ∀ j, VV j → ¬ D2 j := fun j q => (hVN j q).2
      replace hQ := MBs.eff hQ O (fun j q => .inl (hd.sub _ q)) hD2 (fun j q => .inr (hVN j q).1)
      have bl9 := bl.trans (O.below bl.size (fun j q => hDD j (hd.sub j q)))
      replace hDD : ∀ j, D2 j → w.heap.size ≤ j := fun j q => (hD2 j q).elim (hDD j) (fun q => by have := bl.size; omega)
      replace bl := bl9
      replace bl0 := bl
      clear bl9
      replace hd := hd2
      replace gs := gs2
      clear gs2 hVN
      clear hd2 hD2 O
      clear DD
      obtain ⟨DD, rfl⟩ : ∃ E, E = D2 := ⟨_, rfl⟩
      replace x0 := tr old2 x0 rfl
      replace x1 := tr old2 x1 rfl
      replace x2 := tr old2 x2 rfl
      replace x7 := tr old2 x7 rfl
      replace x14 := tr old2 x14 rfl
      replace x15 := tr old2 x15 rfl
      replace x16 := tr old2 x16 rfl
      replace x110 := tr old2 x110 rfl
      replace x111 := tr old2 x111 rfl
      replace x112 := tr old2 x112 rfl
      replace x120 := tr old2 x120 rfl
      replace sd := sd2 sz2 df2 sd
      clear df2 sz2 old2
      clear x120
      refine wl_one (.eq (.tuple #[.pointer (some ⟨gw, 0, none⟩), .int .i64 0])) rfl 119 rfl (by rw [sd.1]; decide) (st_move (.tmp 121) rfl x121) ?_
      intro f46 w46 df2 sz2 old2 new2 hb
      replace x0 := tr old2 x0 rfl
      replace x1 := tr old2 x1 rfl
      replace x2 := tr old2 x2 rfl
      replace x7 := tr old2 x7 rfl
      replace x14 := tr old2 x14 rfl
      replace x15 := tr old2 x15 rfl
      replace x16 := tr old2 x16 rfl
      replace x110 := tr old2 x110 rfl
      replace x111 := tr old2 x111 rfl
      replace x112 := tr old2 x112 rfl
      replace x121 := tr old2 x121 rfl
      have x119 := Fk.e new2
      replace hQ := MBs.below hQ hb
      replace hd := HD.below hd hb
      replace hw := HW.below hw hb
      replace bl := bgo bl hb
      replace sd := sd2 sz2 df2 sd
      clear df2 sz2 old2 new2 hb
      clear x121
      refine wl_one (.eq (.pointer (some ⟨gw, 0, none⟩))) rfl 122 rfl (by rw [sd.1]; decide) (st_extv (.tmp 119) 0 rfl x119 rfl) ?_
      intro f47 w47 df2 sz2 old2 new2 hb
      replace x0 := tr old2 x0 rfl
      replace x1 := tr old2 x1 rfl
      replace x2 := tr old2 x2 rfl
      replace x7 := tr old2 x7 rfl
      replace x14 := tr old2 x14 rfl
      replace x15 := tr old2 x15 rfl
      replace x16 := tr old2 x16 rfl
      replace x110 := tr old2 x110 rfl
      replace x111 := tr old2 x111 rfl
      replace x112 := tr old2 x112 rfl
      replace x119 := tr old2 x119 rfl
      have x122 := Fk.e new2
      replace hQ := MBs.below hQ hb
      replace hd := HD.below hd hb
      replace hw := HW.below hw hb
      replace bl := bgo bl hb
      replace sd := sd2 sz2 df2 sd
      clear df2 sz2 old2 new2 hb
      refine wl_one (.eq (.int .i64 0)) rfl 123 rfl (by rw [sd.1]; decide) (st_extv (.tmp 119) 1 rfl x119 rfl) ?_
      intro f48 w48 df2 sz2 old2 new2 hb
      replace x0 := tr old2 x0 rfl
      replace x1 := tr old2 x1 rfl
      replace x2 := tr old2 x2 rfl
      replace x7 := tr old2 x7 rfl
      replace x14 := tr old2 x14 rfl
      replace x15 := tr old2 x15 rfl
      replace x16 := tr old2 x16 rfl
      replace x110 := tr old2 x110 rfl
      replace x111 := tr old2 x111 rfl
      replace x112 := tr old2 x112 rfl
      replace x119 := tr old2 x119 rfl
      replace x122 := tr old2 x122 rfl
      have x123 := Fk.e new2
      replace hQ := MBs.below hQ hb
      replace hd := HD.below hd hb
      replace hw := HW.below hw hb
      replace bl := bgo bl hb
      replace sd := sd2 sz2 df2 sd
      clear df2 sz2 old2 new2 hb
      clear x119
      refine wl_one (.eq (.pointer (some ⟨gw, 0, none⟩))) rfl 19 rfl (by rw [sd.1]; decide) (st_assign (.tmp 122) rfl x122) ?_
      intro f49 w49 df2 sz2 old2 new2 hb
      replace x0 := tr old2 x0 rfl
      replace x1 := tr old2 x1 rfl
      replace x2 := tr old2 x2 rfl
      replace x7 := tr old2 x7 rfl
      replace x14 := tr old2 x14 rfl
      replace x15 := tr old2 x15 rfl
      replace x16 := tr old2 x16 rfl
      replace x110 := tr old2 x110 rfl
      replace x111 := tr old2 x111 rfl
      replace x112 := tr old2 x112 rfl
      replace x122 := tr old2 x122 rfl
      replace x123 := tr old2 x123 rfl
      have x19 := Fk.e new2
      replace hQ := MBs.below hQ hb
      replace hd := HD.below hd hb
      replace hw := HW.below hw hb
      replace bl := bgo bl hb
      replace sd := sd2 sz2 df2 sd
      clear df2 sz2 old2 new2 hb
      clear x122
      refine wl_one (.eq (.int .i64 0)) rfl 20 rfl (by rw [sd.1]; decide) (st_assign (.tmp 123) rfl x123) ?_
      intro f50 w50 df2 sz2 old2 new2 hb
      replace x0 := tr old2 x0 rfl
      replace x1 := tr old2 x1 rfl
      replace x2 := tr old2 x2 rfl
      replace x7 := tr old2 x7 rfl
      replace x14 := tr old2 x14 rfl
      replace x15 := tr old2 x15 rfl
      replace x16 := tr old2 x16 rfl
      replace x110 := tr old2 x110 rfl
      replace x111 := tr old2 x111 rfl
      replace x112 := tr old2 x112 rfl
      replace x123 := tr old2 x123 rfl
      replace x19 := tr old2 x19 rfl
      have x20 := Fk.e new2
      replace hQ := MBs.below hQ hb
      replace hd := HD.below hd hb
      replace hw := HW.below hw hb
      replace bl := bgo bl hb
      replace sd := sd2 sz2 df2 sd
      clear df2 sz2 old2 new2 hb
      refine wpList_nil ?_
      clear x123
      show Code.wp _ _ _ _ _
      refine wp_seq ?_
      refine wr_a [.eq (.int .i64 0), .eq (.bool true)] (by rw [sd.1]; kernel_rfl) ⟨fun hwt ac u K => ?_, fun hwt ac u K => ?_, trivial⟩ ?_
      · exact st_move (.tmp 20) rfl (K.t x20 rfl)
      · exact st_neqi 28 (.tmp 124) (.const (.int .i64 30)) rfl .i64 (0) (30) (K.dep 0 124 rfl) rfl _ (by simp)
      intro f51 w51 A hb
      replace x0 := A.t x0 rfl
      replace x1 := A.t x1 rfl
      replace x2 := A.t x2 rfl
      replace x7 := A.t x7 rfl
      replace x14 := A.t x14 rfl
      replace x15 := A.t x15 rfl
      replace x16 := A.t x16 rfl
      replace x110 := A.t x110 rfl
      replace x111 := A.t x111 rfl
      replace x112 := A.t x112 rfl
      replace x19 := A.t x19 rfl
      replace x20 := A.t x20 rfl
      have x125 := A.e 1 125 rfl rfl
      replace hQ := MBs.below hQ hb
      replace hd := HD.below hd hb
      replace hw := HW.below hw hb
      replace bl := bgo bl hb
      replace sd := A.sd sd
      clear A hb
      show Code.wp _ _ _ _ _
      refine wp_cond_true x125 ?_
      refine wp_seq ?_
      refine wp_seq ?_
      refine wr_a [.eq (.int .i64 0), .eq (.bool false), .eq (.bool false), .eq (.pointer (some ⟨gw, 0, none⟩)), .eq (.bool false), .eq (.bool false)] (by rw [sd.1]; kernel_rfl) ⟨fun hwt ac u K => ?_, fun hwt ac u K => ?_, fun hwt ac u K => ?_, fun hwt ac u K => ?_, fun hwt ac u K => ?_, fun hwt ac u K => ?_, trivial⟩ ?_
      · exact st_move (.tmp 20) rfl (K.t x20 rfl)
      · exact st_neqi 28 (.tmp 126) (.const (.int .i64 0)) rfl .i64 (0) (0) (K.dep 0 126 rfl) rfl _ (by rfl)
      · exact st_move (.tmp 127) rfl (K.dep 1 127 rfl)
      · exact st_move (.tmp 19) rfl (K.t x19 rfl)
      · exact st_bin .eql 27 27 (.tmp 129) _ rfl (K.dep 3 129 rfl) rfl (by kernel_rfl)
      · exact st_pick_f' (.tmp 128) (.const (.bool true)) (.tmp 130) rfl (K.dep 2 128 rfl) (K.dep 4 130 rfl)
      intro f52 w52 A hb
      replace x0 := A.t x0 rfl
      replace x1 := A.t x1 rfl
      replace x2 := A.t x2 rfl
      replace x7 := A.t x7 rfl
      replace x14 := A.t x14 rfl
      replace x15 := A.t x15 rfl
      replace x16 := A.t x16 rfl
      replace x110 := A.t x110 rfl
      replace x111 := A.t x111 rfl
      replace x112 := A.t x112 rfl
      replace x19 := A.t x19 rfl
      replace x20 := A.t x20 rfl
      replace x125 := A.t x125 rfl
      have x131 := A.e 5 131 rfl rfl
      replace hQ := MBs.below hQ hb
      replace hd := HD.below hd hb
      replace hw := HW.below hw hb
      replace bl := bgo bl hb
      replace sd := A.sd sd
      clear A hb
      clear x20
      clear x125
      show Code.wp _ _ _ _ _
      refine wp_cond_false x131 ?_
      refine wp_skip ?_
      show Code.wp _ _ _ _ _
      refine wp_seq ?_
      refine wr_s [.eq (.pointer (some ⟨gw, 0, none⟩)), .eq (.int .i64 ((homN n : Nat) : Int))] (by rw [sd.1]; kernel_rfl) ⟨fun hwt ac u K => ?_, fun hwt ac u K => ?_, trivial⟩ ?_
      · exact st_move (.tmp 19) rfl (K.t x19 rfl)
      · exact st_move (.tmp 14) rfl (K.t x14 rfl)
      intro f53 w53 A hb
      replace x0 := A.t x0 rfl
      replace x1 := A.t x1 rfl
      replace x2 := A.t x2 rfl
      replace x7 := A.t x7 rfl
      replace x14 := A.t x14 rfl
      replace x15 := A.t x15 rfl
      replace x16 := A.t x16 rfl
      replace x110 := A.t x110 rfl
      replace x111 := A.t x111 rfl
      replace x112 := A.t x112 rfl
      replace x19 := A.t x19 rfl
      replace x131 := A.t x131 rfl
      have x133 := A.e 0 133 rfl rfl
      have x134 := A.e 1 134 rfl rfl
      replace hQ := MBs.below hQ hb
      replace hd := HD.below hd hb
      replace hw := HW.below hw hb
      replace bl := bgo bl hb
      replace sd := A.sd sd
      clear A hb
      clear x19
      clear x131
      refine wl_call 18 (.func 18) _ _ #[.pointer (some ⟨gw, 0, none⟩), .int .i64 ((homN n : Nat) : Int)] rfl 135 rfl (by rw [sd.1]; decide) rfl rfl (two_arg x133 x134) Try.enter18 (fun u W' => ∃ (D2 : Nat → Prop) (v : Value), u = .tuple #[v, .bool true] ∧ MBs W' D2 VV (homN n) (.some (hml tO (homN n))) v ∧ HD W' gd M D2 tO ∧ HW W' gw gd VV n z false ∧ (∀ j, D2 j → DD j ∨ w53.heap.size ≤ j) ∧ Fr M w53 W') (homes_mb hw hd gs o2 hVD (by omega) (by omega)) ?_
      rintro f54 w54 df2 sz2 old2 ⟨D2, vG, x135, hG, hd2, hw2, hD2, O⟩
      have hVlt9 := hw.lt
      replace hVD : ∀ j, VV j → ¬ D2 j := fun j q m => (hD2 j m).elim (hVD j q) (fun m => by have := hVlt9 j q; omega)
      clear hVlt9
      replace hQ := MBs.eff hQ O (fun j q => .inl (hd.sub _ q)) hD2 (fun j q => .inl q)
      have bl9 := bl.trans (O.below bl.size (fun j q => hDD j (hd.sub j q)))
      replace hDD : ∀ j, D2 j → w.heap.size ≤ j := fun j q => (hD2 j q).elim (hDD j) (fun q => by have := bl.size; omega)
      replace bl := bl9
      replace bl0 := bl
      clear bl9
      replace hd := hd2
      replace hw := hw2
      clear hw2
      clear hd2 hD2 O
      clear DD
      obtain ⟨DD, rfl⟩ : ∃ E, E = D2 := ⟨_, rfl⟩
      replace x0 := tr old2 x0 rfl
      replace x1 := tr old2 x1 rfl
      replace x2 := tr old2 x2 rfl
      replace x7 := tr old2 x7 rfl
      replace x14 := tr old2 x14 rfl
      replace x15 := tr old2 x15 rfl
      replace x16 := tr old2 x16 rfl
      replace x110 := tr old2 x110 rfl
      replace x111 := tr old2 x111 rfl
      replace x112 := tr old2 x112 rfl
      replace x133 := tr old2 x133 rfl
      replace x134 := tr old2 x134 rfl
      replace sd := sd2 sz2 df2 sd
      clear df2 sz2 old2
      clear x133
      clear x134
      refine wl_one (.eq (.tuple #[vG, .bool true])) rfl 132 rfl (by rw [sd.1]; decide) (st_move (.tmp 135) rfl x135) ?_
      intro f55 w55 df2 sz2 old2 new2 hb
      replace x0 := tr old2 x0 rfl
      replace x1 := tr old2 x1 rfl
      replace x2 := tr old2 x2 rfl
      replace x7 := tr old2 x7 rfl
      replace x14 := tr old2 x14 rfl
      replace x15 := tr old2 x15 rfl
      replace x16 := tr old2 x16 rfl
      replace x110 := tr old2 x110 rfl
      replace x111 := tr old2 x111 rfl
      replace x112 := tr old2 x112 rfl
      replace x135 := tr old2 x135 rfl
      have x132 := Fk.e new2
      replace hQ := MBs.below hQ hb
      replace hd := HD.below hd hb
      replace hw := HW.below hw hb
      replace hG := MBs.below hG hb
      replace bl := bgo bl hb
      replace sd := sd2 sz2 df2 sd
      clear df2 sz2 old2 new2 hb
      clear x135
      refine wl_one (.eq (vG)) rfl 136 rfl (by rw [sd.1]; decide) (st_extv (.tmp 132) 0 rfl x132 rfl) ?_
      intro f56 w56 df2 sz2 old2 new2 hb
      replace x0 := tr old2 x0 rfl
      replace x1 := tr old2 x1 rfl
      replace x2 := tr old2 x2 rfl
      replace x7 := tr old2 x7 rfl
      replace x14 := tr old2 x14 rfl
      replace x15 := tr old2 x15 rfl
      replace x16 := tr old2 x16 rfl
      replace x110 := tr old2 x110 rfl
      replace x111 := tr old2 x111 rfl
      replace x112 := tr old2 x112 rfl
      replace x132 := tr old2 x132 rfl
      have x136 := Fk.e new2
      replace hQ := MBs.below hQ hb
      replace hd := HD.below hd hb
      replace hw := HW.below hw hb
      replace hG := MBs.below hG hb
      replace bl := bgo bl hb
      replace sd := sd2 sz2 df2 sd
      clear df2 sz2 old2 new2 hb
      refine wl_one (.eq (.bool true)) rfl 137 rfl (by rw [sd.1]; decide) (st_extv (.tmp 132) 1 rfl x132 rfl) ?_
      intro f57 w57 df2 sz2 old2 new2 hb
      replace x0 := tr old2 x0 rfl
      replace x1 := tr old2 x1 rfl
      replace x2 := tr old2 x2 rfl
      replace x7 := tr old2 x7 rfl
      replace x14 := tr old2 x14 rfl
      replace x15 := tr old2 x15 rfl
      replace x16 := tr old2 x16 rfl
      replace x110 := tr old2 x110 rfl
      replace x111 := tr old2 x111 rfl
      replace x112 := tr old2 x112 rfl
      replace x132 := tr old2 x132 rfl
      replace x136 := tr old2 x136 rfl
      have x137 := Fk.e new2
      replace hQ := MBs.below hQ hb
      replace hd := HD.below hd hb
      replace hw := HW.below hw hb
      replace hG := MBs.below hG hb
      replace bl := bgo bl hb
      replace sd := sd2 sz2 df2 sd
      clear df2 sz2 old2 new2 hb
      clear x132
      refine wl_one (.eq (vG)) rfl 21 rfl (by rw [sd.1]; decide) (st_assign (.tmp 136) rfl x136) ?_
      intro f58 w58 df2 sz2 old2 new2 hb
      replace x0 := tr old2 x0 rfl
      replace x1 := tr old2 x1 rfl
      replace x2 := tr old2 x2 rfl
      replace x7 := tr old2 x7 rfl
      replace x14 := tr old2 x14 rfl
      replace x15 := tr old2 x15 rfl
      replace x16 := tr old2 x16 rfl
      replace x110 := tr old2 x110 rfl
      replace x111 := tr old2 x111 rfl
      replace x112 := tr old2 x112 rfl
      replace x136 := tr old2 x136 rfl
      replace x137 := tr old2 x137 rfl
      have x21 := Fk.e new2
      replace hQ := MBs.below hQ hb
      replace hd := HD.below hd hb
      replace hw := HW.below hw hb
      replace hG := MBs.below hG hb
      replace bl := bgo bl hb
      replace sd := sd2 sz2 df2 sd
      clear df2 sz2 old2 new2 hb
      clear x136
      refine wl_one (.eq (.bool true)) rfl 22 rfl (by rw [sd.1]; decide) (st_assign (.tmp 137) rfl x137) ?_
      intro f59 w59 df2 sz2 old2 new2 hb
      replace x0 := tr old2 x0 rfl
      replace x1 := tr old2 x1 rfl
      replace x2 := tr old2 x2 rfl
      replace x7 := tr old2 x7 rfl
      replace x14 := tr old2 x14 rfl
      replace x15 := tr old2 x15 rfl
      replace x16 := tr old2 x16 rfl
      replace x110 := tr old2 x110 rfl
      replace x111 := tr old2 x111 rfl
      replace x112 := tr old2 x112 rfl
      replace x137 := tr old2 x137 rfl
      replace x21 := tr old2 x21 rfl
      have x22 := Fk.e new2
      replace hQ := MBs.below hQ hb
      replace hd := HD.below hd hb
      replace hw := HW.below hw hb
      replace hG := MBs.below hG hb
      replace bl := bgo bl hb
      replace sd := sd2 sz2 df2 sd
      clear df2 sz2 old2 new2 hb
      refine wpList_nil ?_
      clear x137
      show Code.wp _ _ _ _ _
      refine wp_seq ?_
      rw [hhO] at hG
      refine wr_a [.eq (.bool true), .eq (.bool true), .eq (vG), .eq (vQ), .eq (.bool true), .eq (.bool false), .eq (.bool false)] (by rw [sd.1]; kernel_rfl) ⟨fun hwt ac u K => ?_, fun hwt ac u K => ?_, fun hwt ac u K => ?_, fun hwt ac u K => ?_, fun hwt ac u K => ?_, fun hwt ac u K => ?_, fun hwt ac u K => ?_, trivial⟩ ?_
      · exact st_move (.tmp 22) rfl (K.t x22 rfl)
      · exact st_move (.tmp 138) rfl (K.dep 0 138 rfl)
      · exact st_move (.tmp 21) rfl (K.t x21 rfl)
      · exact st_move (.tmp 15) rfl (K.t x15 rfl)
      · exact st_call 19 (.func 19) _ _ _ rfl rfl (arg2 (K.dep 2 140 rfl) (K.dep 3 141 rfl)) Try.enter19 (by have h9 := same_mb (MBs.below hG K.grow) (MBs.below hQ K.grow) (by omega); rw [decide_eq_true rfl] at h9; exact h9)
      · exact st_not (.tmp 142) rfl true (K.dep 4 142 rfl)
      · exact st_pick_t (.tmp 139) (.tmp 143) (.const (.bool false)) rfl (K.dep 1 139 rfl) (K.dep 5 143 rfl)
      intro f60 w60 A hb
      replace x0 := A.t x0 rfl
      replace x1 := A.t x1 rfl
      replace x2 := A.t x2 rfl
      replace x7 := A.t x7 rfl
      replace x14 := A.t x14 rfl
      replace x15 := A.t x15 rfl
      replace x16 := A.t x16 rfl
      replace x110 := A.t x110 rfl
      replace x111 := A.t x111 rfl
      replace x112 := A.t x112 rfl
      replace x21 := A.t x21 rfl
      replace x22 := A.t x22 rfl
      have x144 := A.e 6 144 rfl rfl
      replace hQ := MBs.below hQ hb
      replace hd := HD.below hd hb
      replace hw := HW.below hw hb
      replace hG := MBs.below hG hb
      replace bl := bgo bl hb
      replace sd := A.sd sd
      clear A hb
      clear x21
      clear x22
      show Code.wp _ _ _ _ _
      refine wp_cond_false x144 ?_
      refine wp_skip ?_
      show Code.wp _ _ _ _ _
      clear hG hw hVD hVw
      replace hQ := MBs.noV hQ
      refine wr_s [.eq (.pointer (some ⟨gd, 0, none⟩)), .eq (v2)] (by rw [sd.1]; kernel_rfl) ⟨fun hwt ac u K => ?_, fun hwt ac u K => ?_, trivial⟩ ?_
      · exact st_move (.tmp 7) rfl (K.t x7 rfl)
      · exact st_move (.tmp 2) rfl (K.t x2 rfl)
      intro f61 w61 A hb
      replace x0 := A.t x0 rfl
      replace x1 := A.t x1 rfl
      replace x2 := A.t x2 rfl
      replace x7 := A.t x7 rfl
      replace x14 := A.t x14 rfl
      replace x15 := A.t x15 rfl
      replace x16 := A.t x16 rfl
      replace x110 := A.t x110 rfl
      replace x111 := A.t x111 rfl
      replace x112 := A.t x112 rfl
      replace x144 := A.t x144 rfl
      have x145 := A.e 0 145 rfl rfl
      have x146 := A.e 1 146 rfl rfl
      replace hd := HD.below hd hb
      replace hQ := MBs.below hQ hb
      replace bl := bgo bl hb
      replace sd := A.sd sd
      clear A hb
      clear x144
      refine wl_call 23 (.func 23) _ _ #[.pointer (some ⟨gd, 0, none⟩), v2] rfl 147 rfl (by rw [sd.1]; decide) rfl rfl (two_arg x145 x146) Try.enter23 (fun u W' => ∃ D2 : Nat → Prop, u = .tuple #[] ∧ HD W' gd M D2 (crs tO ls) ∧ (∀ j, D2 j → DD j ∨ w61.heap.size ≤ j) ∧ Fr M w61 W') ((fk_dcrash hd (by have := gs.has; omega) (Fk.mono _ _ _ _ hy1 bl) hwy (by omega)).mono (by rintro e w' ⟨D', rfl, q⟩; exact ⟨_, rfl, D', rfl, q⟩)) ?_
      rintro f62 w62 df2 sz2 old2 ⟨D2, x147, hd2, hD2, O⟩
      replace hQ := MBs.eff hQ O (fun j q => .inl (hd.sub _ q)) hD2 (fun j q => .inl q)
      have bl9 := bl.trans (O.below bl.size (fun j q => hDD j (hd.sub j q)))
      replace hDD : ∀ j, D2 j → w.heap.size ≤ j := fun j q => (hD2 j q).elim (hDD j) (fun q => by have := bl.size; omega)
      replace bl := bl9
      replace bl0 := bl
      clear bl9
      replace hd := hd2
      clear hd2 hD2 O
      clear DD
      obtain ⟨DD, rfl⟩ : ∃ E, E = D2 := ⟨_, rfl⟩
      replace x0 := tr old2 x0 rfl
      replace x1 := tr old2 x1 rfl
      replace x2 := tr old2 x2 rfl
      replace x7 := tr old2 x7 rfl
      replace x14 := tr old2 x14 rfl
      replace x15 := tr old2 x15 rfl
      replace x16 := tr old2 x16 rfl
      replace x110 := tr old2 x110 rfl
      replace x111 := tr old2 x111 rfl
      replace x112 := tr old2 x112 rfl
      replace x145 := tr old2 x145 rfl
      replace x146 := tr old2 x146 rfl
      replace sd := sd2 sz2 df2 sd
      clear df2 sz2 old2
      refine wpList_nil ?_
      clear x145
      clear x146
      clear x147
      show Code.wp _ _ _ _ _
      refine wr_s [.eq (.int .i64 ((k + 1 : Nat) : Int))] (by rw [sd.1]; kernel_rfl) ⟨fun hwt ac u K => ?_, trivial⟩ ?_
      · exact st_addz (.tmp 112) (.const (.int .i64 1)) rfl _ _ _ (K.t x112 rfl) rfl (by omega) (by omega) (by omega)
      intro f63 w63 A hb
      replace x0 := A.t x0 rfl
      replace x1 := A.t x1 rfl
      replace x2 := A.t x2 rfl
      replace x7 := A.t x7 rfl
      replace x14 := A.t x14 rfl
      replace x15 := A.t x15 rfl
      replace x16 := A.t x16 rfl
      replace x110 := A.t x110 rfl
      replace x111 := A.t x111 rfl
      replace x112 := A.t x112 rfl
      have x148 := A.e 0 148 rfl rfl
      replace hd := HD.below hd hb
      replace hQ := MBs.below hQ hb
      replace bl := bgo bl hb
      replace sd := A.sd sd
      clear A hb
      refine wl_one (.eq (.int .i64 ((k + 1 : Nat) : Int))) rfl 112 rfl (by rw [sd.1]; decide) (st_move (.tmp 148) rfl x148) ?_
      intro f64 w64 df2 sz2 old2 new2 hb
      replace x0 := tr old2 x0 rfl
      replace x1 := tr old2 x1 rfl
      replace x2 := tr old2 x2 rfl
      replace x7 := tr old2 x7 rfl
      replace x14 := tr old2 x14 rfl
      replace x15 := tr old2 x15 rfl
      replace x16 := tr old2 x16 rfl
      replace x110 := tr old2 x110 rfl
      replace x111 := tr old2 x111 rfl
      clear x112
      replace x148 := tr old2 x148 rfl
      have x112 := Fk.e new2
      replace hd := HD.below hd hb
      replace hQ := MBs.below hQ hb
      replace bl := bgo bl hb
      replace sd := sd2 sz2 df2 sd
      clear df2 sz2 old2 new2 hb
      refine wpList_nil ?_
      clear x148
      show (∃ _, _) ∧ _
      refine ⟨⟨k + 1, crs tO ls, DD, by omega, (gd_crs gs ls).le (by omega), hsv ls, rfl, hDD, sd.1, sd.2, x0, x1, x2, x7, x14, x15, x16, x110, x111, x112, hd, hQ, bl⟩, ?_⟩
      rw [show f64.eval (.tmp 112) = _ from x112, show _ = _ from hcnt]
      first | (simp [intOf]; done) | (simp [intOf]; omega)
    obtain ⟨oo, hook⟩ : ∃ p, l[k]? = some p := ⟨_, List.getElem?_eq_getElem hlt⟩
    have hok := sr_ok hv hook
    have hcoo : (Fk.sr RC oo.cs).f oo.vc w := hok.1
    have hsm := hsmall.1 oo (List.mem_of_getElem? hook)
    have hk20 : k < 20 := by omega
    refine wr_a [.eq (.bool true)] (by rw [sd.1]; kernel_rfl) ⟨fun hwt ac u K => ?_, trivial⟩ ?_
    · exact st_lss 3 (.tmp 66) (.tmp 65) rfl .i64 ((k : Int)) ((((l).length : Nat) : Int)) (K.t x66 rfl) (K.t x65 rfl) _ (by rw [eq_comm, decide_eq_true_iff]; exact Int.ofNat_lt.2 hlt)
    intro f16 w16 A hb
    replace x0 := A.t x0 rfl
    replace x1 := A.t x1 rfl
    replace x2 := A.t x2 rfl
    replace x7 := A.t x7 rfl
    replace x8 := A.t x8 rfl
    replace x64 := A.t x64 rfl
    replace x65 := A.t x65 rfl
    replace x66 := A.t x66 rfl
    have x67 := A.e 0 67 rfl rfl
    replace hd := HD.below hd hb
    replace hw := HW.below hw hb
    replace bl := bgo bl hb
    replace sd := A.sd sd
    clear A hb
    show Code.wp _ _ _ _ _
    refine wp_seq ?_
    refine wp_cond_true x67 ?_
    refine wp_skip ?_
    show Code.wp _ _ _ _ _
    refine wp_seq ?_
    refine wp_block ?_
    refine wp_seq ?_
    have hdl9 := hd.lt
    have hvl9 := hw.lt
    refine wr_s [.eq (.int .i64 (k : Int)), .sq RO oo, .eq (.agg ([.int .i64 oo.k, .int .i64 oo.n, oo.vc, oo.vl] : List Value).toArray), .nw w16.heap.size 39 [.int .i64 0, .int .i64 0, .slice none 0 0, .slice none 0 0], .eq (.int .i64 (k : Int))] (by rw [sd.1]; kernel_rfl) ⟨fun hwt ac u K => ?_, fun hwt ac u K => ?_, fun hwt ac u K => ?_, fun hwt ac u K => ?_, fun hwt ac u K => ?_, trivial⟩ ?_
    · exact st_move (.tmp 66) rfl (K.t x66 rfl)
    · exact st_idxso (.tmp 64) (.tmp 66) rfl (fk_val (K.t x64 rfl) (Fk.mono _ _ _ _ hv (bgo bl K.grow))) k oo (K.t x66 rfl) hook
    · exact st_loadso (.tmp 69) rfl (K.dep 1 69 rfl)
    · exact st_alloc 39 rfl _ _ (by kernel_rfl) K.grow.size
    · exact st_assign (.tmp 68) rfl (K.dep 0 68 rfl)
    intro f17 w17 A hb
    have S_hd := hd
    have S_hw := hw
    have hbS0 := Below.refl w16.heap.size w16
    have hbS := hb
    replace bl0 := bl
    replace x0 := A.t x0 rfl
    replace x1 := A.t x1 rfl
    replace x2 := A.t x2 rfl
    replace x7 := A.t x7 rfl
    replace x8 := A.t x8 rfl
    replace x64 := A.t x64 rfl
    replace x65 := A.t x65 rfl
    replace x66 := A.t x66 rfl
    replace x67 := A.t x67 rfl
    have x10 := A.e 4 10 rfl rfl
    have x11 : Fk.f (.nw w16.heap.size 39 [.int .i64 0, .int .i64 0, .slice none 0 0, .slice none 0 0]) (f17.eval (.tmp 11)) w17 := A.has 3 11 rfl
    have x70 := A.e 2 70 rfl rfl
    replace hd := HD.below hd hb
    replace hw := HW.below hw hb
    replace bl := bgo bl hb
    replace sd := A.sd sd
    clear A hb
    clear x67
    obtain ⟨g11, hg11, e11, m11⟩ := x11
    have x11 := e11
    clear e11
    have hw11 : w.heap.size ≤ g11 := Nat.le_trans bl0.size hg11
    have hs11 := Nat.le_trans hbS0.size hg11
    refine wl_str rfl 39 (.tmp 11) (.tmp 70) rfl rfl (g11) ([.int .i64 oo.k, .int .i64 oo.n, oo.vc, oo.vl] : List Value).toArray x11 x70 39 _ m11 (by kernel_rfl) (by kernel_rfl) (by kernel_rfl) ?_
    replace m11 : Ob (w17.setRow g11 ([.int .i64 oo.k, .int .i64 oo.n, oo.vc, oo.vl] : List Value).toArray) (g11) 39 ([.int .i64 oo.k, .int .i64 oo.n, oo.vc, oo.vl]) := Ob.setRow m11 ([.int .i64 oo.k, .int .i64 oo.n, oo.vc, oo.vl])
    replace hbS : Below _ _ (w17.setRow g11 ([.int .i64 oo.k, .int .i64 oo.n, oo.vc, oo.vl] : List Value).toArray) := hbS.trans (below_setRow _ _ _ _ hs11)
    replace hd := HD.below S_hd hbS
    replace hw := HW.below S_hw hbS
    replace bl : Below w.heap.size w (w17.setRow g11 ([.int .i64 oo.k, .int .i64 oo.n, oo.vc, oo.vl] : List Value).toArray) := bl.trans (below_setRow _ _ _ _ hw11)
    generalize w17.setRow g11 ([.int .i64 oo.k, .int .i64 oo.n, oo.vc, oo.vl] : List Value).toArray = w18b at bl m11 hd hw hbS ⊢
    refine wpList_nil ?_
    clear hbS hbS0 S_hd S_hw
    clear x70
    have h11D : ¬ DD g11 := fun q => by have := hdl9 _ q; omega
    have h11V : ¬ VV g11 := fun q => by have := hvl9 _ q; omega
    clear hdl9 hvl9
    show Code.wp _ _ _ _ _
    refine wp_seq ?_
    refine wp_seq ?_
    by_cases hlast : k = l.length - 1
    rotate_left
    · skip
      refine wr_a [.eq (.int .i64 (k : Int)), .eq (v), .eq (.int .i64 (((l).length : Nat) : Int)), .eq (.int .i64 ((l.length - 1 : Nat) : Int)), .eq (.bool false)] (by rw [sd.1]; kernel_rfl) ⟨fun hwt ac u K => ?_, fun hwt ac u K => ?_, fun hwt ac u K => ?_, fun hwt ac u K => ?_, fun hwt ac u K => ?_, trivial⟩ ?_
      · exact st_move (.tmp 10) rfl (K.t x10 rfl)
      · exact st_move (.tmp 0) rfl (K.t x0 rfl)
      · exact st_lenso (.tmp 72) rfl (fk_val (K.dep 1 72 rfl) (Fk.mono _ _ _ _ hv (bgo bl K.grow)))
      · exact st_sub (.tmp 73) (.const (.int .i64 1)) rfl l.length 1 (l.length - 1) (K.dep 2 73 rfl) rfl (by omega) (by omega)
      · exact st_eqi 3 (.tmp 71) (.tmp 74) rfl .i64 ((k : Int)) (((l.length - 1 : Nat) : Int)) (K.dep 0 71 rfl) (K.dep 3 74 rfl) _ (by rw [eq_comm, decide_eq_false_iff_not]; omega)
      intro f19 w19 A hb
      replace x0 := A.t x0 rfl
      replace x1 := A.t x1 rfl
      replace x2 := A.t x2 rfl
      replace x7 := A.t x7 rfl
      replace x8 := A.t x8 rfl
      replace x64 := A.t x64 rfl
      replace x65 := A.t x65 rfl
      replace x66 := A.t x66 rfl
      replace x10 := A.t x10 rfl
      replace x11 := A.t x11 rfl
      have x75 := A.e 4 75 rfl rfl
      replace m11 := Ob.below m11 hb
      replace hd := HD.below hd hb
      replace hw := HW.below hw hb
      replace bl := bgo bl hb
      replace sd := A.sd sd
      clear A hb
      clear x10
      show Code.wp _ _ _ _ _
      refine wp_cond_false x75 ?_
      refine wp_skip ?_
      show Code.wp _ _ _ _ _
      refine wr_s [.eq (.pointer (some ⟨gw, 0, none⟩)), .eq (.pointer (some ⟨g11, 2, none⟩)), .eq (oo.vc)] (by rw [sd.1]; kernel_rfl) ⟨fun hwt ac u K => ?_, fun hwt ac u K => ?_, fun hwt ac u K => ?_, trivial⟩ ?_
      · exact st_move (.tmp 8) rfl (K.t x8 rfl)
      · exact st_field 39 2 (.tmp 11) rfl (K.t x11 rfl) (by kernel_rfl)
      · exact st_loadc 36 (.tmp 82) rfl (by kernel_rfl) (K.dep 1 82 rfl) (Ob.cell (Ob.below m11 K.grow) 2 rfl)
      intro f20 w20 A hb
      replace x0 := A.t x0 rfl
      replace x1 := A.t x1 rfl
      replace x2 := A.t x2 rfl
      replace x7 := A.t x7 rfl
      replace x8 := A.t x8 rfl
      replace x64 := A.t x64 rfl
      replace x65 := A.t x65 rfl
      replace x66 := A.t x66 rfl
      replace x11 := A.t x11 rfl
      replace x75 := A.t x75 rfl
      have x81 := A.e 0 81 rfl rfl
      have x83 := A.e 2 83 rfl rfl
      replace m11 := Ob.below m11 hb
      replace hd := HD.below hd hb
      replace hw := HW.below hw hb
      replace bl := bgo bl hb
      replace sd := A.sd sd
      clear A hb
      clear x11
      clear x75
      have hvF9 : ∀ {W : World}, Fr (fun j => M j ∨ VV j) w20 W → (Fk.sr RC (oo.cs)).f (oo.vc) W := fun {W} hF => Fk.mono _ _ _ _ hcoo (bl.trans (hF.below bl.size (fun j q => q.elim (fun q => hDD j (hd.sub j q)) (hVw j))))
      refine wl_call 16 (.func 16) _ _ #[.pointer (some ⟨gw, 0, none⟩), oo.vc] rfl 84 rfl (by rw [sd.1]; decide) rfl rfl (two_arg x81 x83) Try.enter16 (fun u W' => ∃ (D2 : Nat → Prop) (r : Int) (s' : Dst) (dn' : Bool), u = .int .i64 r ∧ ComIs n z s dn (oo.cs) r s' dn' ∧ HD W' gd M D2 s' ∧ Gd s' n z (1000 * (k + 1) + 20 * ((oo.cs).length + 1)) ∧ HW W' gw gd VV n z dn' ∧ (∀ j, D2 j → DD j ∨ w20.heap.size ≤ j) ∧ Fr (fun j => M j ∨ VV j) w20 W') ((fk_wcommit hw hd gs hVD h32 (by omega) (by omega) hvF9).mono (by rintro e w' ⟨D', r, s', dn', rfl, q⟩; exact ⟨_, rfl, D', r, s', dn', rfl, q⟩)) ?_
      rintro f21 w21 df2 sz2 old2 ⟨D2, r9, s9, dn9, x84, hC, hd2, gs2, hw2, hD2, O⟩
      clear hvF9
      have hVlt9 := hw.lt
      replace hVD : ∀ j, VV j → ¬ D2 j := fun j q m => (hD2 j m).elim (hVD j q) (fun m => by have := hVlt9 j q; omega)
      clear hVlt9
      have lt9 := Ob.lt m11
      replace m11 := Ob.keep m11 (O.block _ lt9 (fun q => q.elim (fun q => h11D (hd.sub _ q)) h11V))
      replace h11D : ¬ D2 g11 := fun q => (hD2 _ q).elim h11D (fun q => by omega)
      clear lt9
      have bl9 := bl.trans (O.below bl.size (fun j q => q.elim (fun q => hDD j (hd.sub j q)) (hVw j)))
      replace hDD : ∀ j, D2 j → w.heap.size ≤ j := fun j q => (hD2 j q).elim (hDD j) (fun q => by have := bl.size; omega)
      replace bl := bl9
      replace bl0 := bl
      clear bl9
      replace hd := hd2
      replace hw := hw2
      replace gs := gs2
      clear hw2 gs2
      clear hd2 hD2 O
      clear DD
      obtain ⟨DD, rfl⟩ : ∃ E, E = D2 := ⟨_, rfl⟩
      replace x0 := tr old2 x0 rfl
      replace x1 := tr old2 x1 rfl
      replace x2 := tr old2 x2 rfl
      replace x7 := tr old2 x7 rfl
      replace x8 := tr old2 x8 rfl
      replace x64 := tr old2 x64 rfl
      replace x65 := tr old2 x65 rfl
      replace x66 := tr old2 x66 rfl
      replace x81 := tr old2 x81 rfl
      replace x83 := tr old2 x83 rfl
      replace sd := sd2 sz2 df2 sd
      clear df2 sz2 old2
      obtain ⟨now9, mb9, hLI9⟩ := com_li h3 h32 hnM hLI hC
      clear hC
      clear m11 h11D h11V
      refine wpList_nil ?_
      clear x81
      clear x83
      clear x84
      show Code.wp _ _ _ _ _
      refine wr_s [.eq (.int .i64 ((k + 1 : Nat) : Int))] (by rw [sd.1]; kernel_rfl) ⟨fun hwt ac u K => ?_, trivial⟩ ?_
      · exact st_addz (.tmp 66) (.const (.int .i64 1)) rfl _ _ _ (K.t x66 rfl) rfl (by omega) (by omega) (by omega)
      intro f22 w22 A hb
      replace x0 := A.t x0 rfl
      replace x1 := A.t x1 rfl
      replace x2 := A.t x2 rfl
      replace x7 := A.t x7 rfl
      replace x8 := A.t x8 rfl
      replace x64 := A.t x64 rfl
      replace x65 := A.t x65 rfl
      replace x66 := A.t x66 rfl
      have x85 := A.e 0 85 rfl rfl
      replace hd := HD.below hd hb
      replace hw := HW.below hw hb
      replace bl := bgo bl hb
      replace sd := A.sd sd
      clear A hb
      refine wl_one (.eq (.int .i64 ((k + 1 : Nat) : Int))) rfl 66 rfl (by rw [sd.1]; decide) (st_move (.tmp 85) rfl x85) ?_
      intro f23 w23 df2 sz2 old2 new2 hb
      replace x0 := tr old2 x0 rfl
      replace x1 := tr old2 x1 rfl
      replace x2 := tr old2 x2 rfl
      replace x7 := tr old2 x7 rfl
      replace x8 := tr old2 x8 rfl
      replace x64 := tr old2 x64 rfl
      replace x65 := tr old2 x65 rfl
      clear x66
      replace x85 := tr old2 x85 rfl
      have x66 := Fk.e new2
      replace hd := HD.below hd hb
      replace hw := HW.below hw hb
      replace bl := bgo bl hb
      replace sd := sd2 sz2 df2 sd
      clear df2 sz2 old2 new2 hb
      refine wpList_nil ?_
      clear x85
      show (∃ _, _) ∧ _
      refine ⟨⟨k + 1, s9, DD, gw, VV, dn9, now9, mb9, by omega, gs.le (by omega), hLI9, hDD, hVD, hVw, sd.1, sd.2, x0, x1, x2, x7, x64, x65, x66, x8, hd, hw, bl⟩, ?_⟩
      rw [show f23.eval (.tmp 66) = _ from x66, show _ = _ from hcnt]
      first | (simp [intOf]; done) | (simp [intOf]; omega)
    obtain ⟨k0, hk0⟩ : ∃ z, xs[0]? = some z := ⟨_, List.getElem?_eq_getElem (by omega)⟩
    have hk09 := lit64 (hwx k0 (List.mem_of_getElem? hk0))
    refine wr_a [.eq (.int .i64 (k : Int)), .eq (v), .eq (.int .i64 (((l).length : Nat) : Int)), .eq (.int .i64 ((l.length - 1 : Nat) : Int)), .eq (.bool true)] (by rw [sd.1]; kernel_rfl) ⟨fun hwt ac u K => ?_, fun hwt ac u K => ?_, fun hwt ac u K => ?_, fun hwt ac u K => ?_, fun hwt ac u K => ?_, trivial⟩ ?_
    · exact st_move (.tmp 10) rfl (K.t x10 rfl)
    · exact st_move (.tmp 0) rfl (K.t x0 rfl)
    · exact st_lenso (.tmp 72) rfl (fk_val (K.dep 1 72 rfl) (Fk.mono _ _ _ _ hv (bgo bl K.grow)))
    · exact st_sub (.tmp 73) (.const (.int .i64 1)) rfl l.length 1 (l.length - 1) (K.dep 2 73 rfl) rfl (by omega) (by omega)
    · exact st_eqi 3 (.tmp 71) (.tmp 74) rfl .i64 ((k : Int)) (((l.length - 1 : Nat) : Int)) (K.dep 0 71 rfl) (K.dep 3 74 rfl) _ (by rw [eq_comm, decide_eq_true_iff]; omega)
    intro f19 w19 A hb
    replace x0 := A.t x0 rfl
    replace x1 := A.t x1 rfl
    replace x2 := A.t x2 rfl
    replace x7 := A.t x7 rfl
    replace x8 := A.t x8 rfl
    replace x64 := A.t x64 rfl
    replace x65 := A.t x65 rfl
    replace x66 := A.t x66 rfl
    replace x10 := A.t x10 rfl
    replace x11 := A.t x11 rfl
    have x75 := A.e 4 75 rfl rfl
    replace m11 := Ob.below m11 hb
    replace hd := HD.below hd hb
    replace hw := HW.below hw hb
    replace bl := bgo bl hb
    replace sd := A.sd sd
    clear A hb
    clear x10
    show Code.wp _ _ _ _ _
    refine wp_cond_true x75 ?_
    refine wr_s [.eq (.pointer (some ⟨gd, 0, none⟩)), .eq (.slice A1 xs.length C1), .prg [.int .i64 (k0)], .eq (.int .i64 (k0))] (by rw [sd.1]; kernel_rfl) ⟨fun hwt ac u K => ?_, fun hwt ac u K => ?_, fun hwt ac u K => ?_, fun hwt ac u K => ?_, trivial⟩ ?_
    · exact st_move (.tmp 7) rfl (K.t x7 rfl)
    · exact st_move (.tmp 1) rfl (K.t x1 rfl)
    · exact st_idxis (.tmp 77) (.const (.int .i64 0)) rfl (fk_val (K.dep 1 77 rfl) (Fk.mono _ _ _ _ hx1 (bgo bl K.grow))) 0 rfl k0 hk0
    · exact st_loadr1 3 (.tmp 78) rfl (by kernel_rfl) (K.dep 2 78 rfl)
    intro f20 w20 A hb
    replace x0 := A.t x0 rfl
    replace x1 := A.t x1 rfl
    replace x2 := A.t x2 rfl
    replace x7 := A.t x7 rfl
    replace x8 := A.t x8 rfl
    replace x64 := A.t x64 rfl
    replace x65 := A.t x65 rfl
    replace x66 := A.t x66 rfl
    replace x11 := A.t x11 rfl
    replace x75 := A.t x75 rfl
    have x76 := A.e 0 76 rfl rfl
    have x79 := A.e 3 79 rfl rfl
    replace m11 := Ob.below m11 hb
    replace hd := HD.below hd hb
    replace hw := HW.below hw hb
    replace bl := bgo bl hb
    replace sd := A.sd sd
    clear A hb
    clear x75
    refine wl_call 22 (.func 22) _ _ #[.pointer (some ⟨gd, 0, none⟩), .int .i64 k0] rfl 80 rfl (by rw [sd.1]; decide) rfl rfl (two_arg x76 x79) Try.enter22 (fun u W' => ∃ D2 : Nat → Prop, u = .tuple #[] ∧ HD W' gd M D2 ({ s with armed := decide (0 ≤ k0), left := k0 }) ∧ (∀ j, D2 j → DD j ∨ w20.heap.size ≤ j) ∧ Fr M w20 W') ((fk_darm hd k0 hk09).mono (by rintro e w' ⟨D', rfl, q⟩; exact ⟨_, rfl, D', rfl, q⟩)) ?_
    rintro f21 w21 df2 sz2 old2 ⟨D2, x80, hd2, hD2, O⟩
    have hVlt9 := hw.lt
    replace hw := hw.keep (fun j q => O.block j (hw.lt j q) (fun m => hVD j q (hd.sub j m))) O.size
    replace hVD : ∀ j, VV j → ¬ D2 j := fun j q m => (hD2 j m).elim (hVD j q) (fun m => by have := hVlt9 j q; omega)
    clear hVlt9
    have lt9 := Ob.lt m11
    replace m11 := Ob.keep m11 (O.block _ lt9 (fun q => h11D (hd.sub _ q)))
    replace h11D : ¬ D2 g11 := fun q => (hD2 _ q).elim h11D (fun q => by omega)
    clear lt9
    have bl9 := bl.trans (O.below bl.size (fun j q => hDD j (hd.sub j q)))
    replace hDD : ∀ j, D2 j → w.heap.size ≤ j := fun j q => (hD2 j q).elim (hDD j) (fun q => by have := bl.size; omega)
    replace bl := bl9
    replace bl0 := bl
    clear bl9
    replace hd := hd2
    clear hd2 hD2 O
    clear DD
    obtain ⟨DD, rfl⟩ : ∃ E, E = D2 := ⟨_, rfl⟩
    replace x0 := tr old2 x0 rfl
    replace x1 := tr old2 x1 rfl
    replace x2 := tr old2 x2 rfl
    replace x7 := tr old2 x7 rfl
    replace x8 := tr old2 x8 rfl
    replace x64 := tr old2 x64 rfl
    replace x65 := tr old2 x65 rfl
    replace x66 := tr old2 x66 rfl
    replace x11 := tr old2 x11 rfl
    replace x76 := tr old2 x76 rfl
    replace x79 := tr old2 x79 rfl
    replace sd := sd2 sz2 df2 sd
    clear df2 sz2 old2
    replace gs : Gd { s with armed := decide (0 ≤ k0), left := k0 } n z (1000 * (k + 1)) := ⟨gs.has, gs.cch, gs.size, by have := gs.done; show s.done ≤ _; omega, gs.hl, gs.cl⟩
    replace hLI := hLI.arm k0
    obtain ⟨sA, hsA⟩ : ∃ x, x = { s with armed := decide (0 ≤ k0), left := k0 } := ⟨_, rfl⟩
    rw [← hsA] at hd gs hLI
    clear hsA
    refine wpList_nil ?_
    clear x76
    clear x79
    clear x80
    show Code.wp _ _ _ _ _
    refine wr_s [.eq (.pointer (some ⟨gw, 0, none⟩)), .eq (.pointer (some ⟨g11, 2, none⟩)), .eq (oo.vc)] (by rw [sd.1]; kernel_rfl) ⟨fun hwt ac u K => ?_, fun hwt ac u K => ?_, fun hwt ac u K => ?_, trivial⟩ ?_
    · exact st_move (.tmp 8) rfl (K.t x8 rfl)
    · exact st_field 39 2 (.tmp 11) rfl (K.t x11 rfl) (by kernel_rfl)
    · exact st_loadc 36 (.tmp 82) rfl (by kernel_rfl) (K.dep 1 82 rfl) (Ob.cell (Ob.below m11 K.grow) 2 rfl)
    intro f22 w22 A hb
    replace x0 := A.t x0 rfl
    replace x1 := A.t x1 rfl
    replace x2 := A.t x2 rfl
    replace x7 := A.t x7 rfl
    replace x8 := A.t x8 rfl
    replace x64 := A.t x64 rfl
    replace x65 := A.t x65 rfl
    replace x66 := A.t x66 rfl
    replace x11 := A.t x11 rfl
    have x81 := A.e 0 81 rfl rfl
    have x83 := A.e 2 83 rfl rfl
    replace m11 := Ob.below m11 hb
    replace hd := HD.below hd hb
    replace hw := HW.below hw hb
    replace bl := bgo bl hb
    replace sd := A.sd sd
    clear A hb
    clear x11
    have hvF9 : ∀ {W : World}, Fr (fun j => M j ∨ VV j) w22 W → (Fk.sr RC (oo.cs)).f (oo.vc) W := fun {W} hF => Fk.mono _ _ _ _ hcoo (bl.trans (hF.below bl.size (fun j q => q.elim (fun q => hDD j (hd.sub j q)) (hVw j))))
    refine wl_call 16 (.func 16) _ _ #[.pointer (some ⟨gw, 0, none⟩), oo.vc] rfl 84 rfl (by rw [sd.1]; decide) rfl rfl (two_arg x81 x83) Try.enter16 (fun u W' => ∃ (D2 : Nat → Prop) (r : Int) (s' : Dst) (dn' : Bool), u = .int .i64 r ∧ ComIs n z sA dn (oo.cs) r s' dn' ∧ HD W' gd M D2 s' ∧ Gd s' n z (1000 * (k + 1) + 20 * ((oo.cs).length + 1)) ∧ HW W' gw gd VV n z dn' ∧ (∀ j, D2 j → DD j ∨ w22.heap.size ≤ j) ∧ Fr (fun j => M j ∨ VV j) w22 W') ((fk_wcommit hw hd gs hVD h32 (by omega) (by omega) hvF9).mono (by rintro e w' ⟨D', r, s', dn', rfl, q⟩; exact ⟨_, rfl, D', r, s', dn', rfl, q⟩)) ?_
    rintro f23 w23 df2 sz2 old2 ⟨D2, r9, s9, dn9, x84, hC, hd2, gs2, hw2, hD2, O⟩
    clear hvF9
    have hVlt9 := hw.lt
    replace hVD : ∀ j, VV j → ¬ D2 j := fun j q m => (hD2 j m).elim (hVD j q) (fun m => by have := hVlt9 j q; omega)
    clear hVlt9
    have lt9 := Ob.lt m11
    replace m11 := Ob.keep m11 (O.block _ lt9 (fun q => q.elim (fun q => h11D (hd.sub _ q)) h11V))
    replace h11D : ¬ D2 g11 := fun q => (hD2 _ q).elim h11D (fun q => by omega)
    clear lt9
    have bl9 := bl.trans (O.below bl.size (fun j q => q.elim (fun q => hDD j (hd.sub j q)) (hVw j)))
    replace hDD : ∀ j, D2 j → w.heap.size ≤ j := fun j q => (hD2 j q).elim (hDD j) (fun q => by have := bl.size; omega)
    replace bl := bl9
    replace bl0 := bl
    clear bl9
    replace hd := hd2
    replace hw := hw2
    replace gs := gs2
    clear hw2 gs2
    clear hd2 hD2 O
    clear DD
    obtain ⟨DD, rfl⟩ : ∃ E, E = D2 := ⟨_, rfl⟩
    replace x0 := tr old2 x0 rfl
    replace x1 := tr old2 x1 rfl
    replace x2 := tr old2 x2 rfl
    replace x7 := tr old2 x7 rfl
    replace x8 := tr old2 x8 rfl
    replace x64 := tr old2 x64 rfl
    replace x65 := tr old2 x65 rfl
    replace x66 := tr old2 x66 rfl
    replace x81 := tr old2 x81 rfl
    replace x83 := tr old2 x83 rfl
    replace sd := sd2 sz2 df2 sd
    clear df2 sz2 old2
    obtain ⟨now9, mb9, hLI9⟩ := com_li h3 h32 hnM hLI hC
    clear hC
    clear m11 h11D h11V
    refine wpList_nil ?_
    clear x81
    clear x83
    clear x84
    show Code.wp _ _ _ _ _
    refine wr_s [.eq (.int .i64 ((k + 1 : Nat) : Int))] (by rw [sd.1]; kernel_rfl) ⟨fun hwt ac u K => ?_, trivial⟩ ?_
    · exact st_addz (.tmp 66) (.const (.int .i64 1)) rfl _ _ _ (K.t x66 rfl) rfl (by omega) (by omega) (by omega)
    intro f24 w24 A hb
    replace x0 := A.t x0 rfl
    replace x1 := A.t x1 rfl
    replace x2 := A.t x2 rfl
    replace x7 := A.t x7 rfl
    replace x8 := A.t x8 rfl
    replace x64 := A.t x64 rfl
    replace x65 := A.t x65 rfl
    replace x66 := A.t x66 rfl
    have x85 := A.e 0 85 rfl rfl
    replace hd := HD.below hd hb
    replace hw := HW.below hw hb
    replace bl := bgo bl hb
    replace sd := A.sd sd
    clear A hb
    refine wl_one (.eq (.int .i64 ((k + 1 : Nat) : Int))) rfl 66 rfl (by rw [sd.1]; decide) (st_move (.tmp 85) rfl x85) ?_
    intro f25 w25 df2 sz2 old2 new2 hb
    replace x0 := tr old2 x0 rfl
    replace x1 := tr old2 x1 rfl
    replace x2 := tr old2 x2 rfl
    replace x7 := tr old2 x7 rfl
    replace x8 := tr old2 x8 rfl
    replace x64 := tr old2 x64 rfl
    replace x65 := tr old2 x65 rfl
    clear x66
    replace x85 := tr old2 x85 rfl
    have x66 := Fk.e new2
    replace hd := HD.below hd hb
    replace hw := HW.below hw hb
    replace bl := bgo bl hb
    replace sd := sd2 sz2 df2 sd
    clear df2 sz2 old2 new2 hb
    refine wpList_nil ?_
    clear x85
    show (∃ _, _) ∧ _
    refine ⟨⟨k + 1, s9, DD, gw, VV, dn9, now9, mb9, by omega, gs.le (by omega), hLI9, hDD, hVD, hVw, sd.1, sd.2, x0, x1, x2, x7, x64, x65, x66, x8, hd, hw, bl⟩, ?_⟩
    rw [show f25.eval (.tmp 66) = _ from x66, show _ = _ from hcnt]
    first | (simp [intOf]; done) | (simp [intOf]; omega)
  refine wr_a [.eq (.pointer (some ⟨gd, 0, none⟩)), .eq (.bool false), .eq (.bool false), .eq (v), .eq (.bool false), .eq (.bool true), .eq (.bool true), .eq (.bool true), .any, .any, .any, .eq (.bool true), .eq (.bool true), .any, .any, .any, .eq (.bool true), .eq (.bool true), .any, .any, .any, .eq (.bool true)] (by rw [sd.1]; kernel_rfl) ⟨fun hwt ac u K => ?_, fun hwt ac u K => ?_, fun hwt ac u K => ?_, fun hwt ac u K => ?_, fun hwt ac u K => ?_, fun hwt ac u K => ?_, fun hwt ac u K => ?_, fun hwt ac u K => ?_, fun hwt ac u K => ?_, fun hwt ac u K => ?_, fun hwt ac u K => ?_, fun hwt ac u K => ?_, fun hwt ac u K => ?_, fun hwt ac u K => ?_, fun hwt ac u K => ?_, fun hwt ac u K => ?_, fun hwt ac u K => ?_, fun hwt ac u K => ?_, fun hwt ac u K => ?_, fun hwt ac u K => ?_, fun hwt ac u K => ?_, fun hwt ac u K => ?_, trivial⟩ ?_
  · exact st_move (.tmp 7) rfl (K.t x7 rfl)
  · exact st_bin .eql 25 25 (.tmp 26) _ rfl (K.dep 0 26 rfl) rfl (by kernel_rfl)
  · exact st_move (.tmp 27) rfl (K.dep 1 27 rfl)
  · exact st_move (.tmp 0) rfl (K.t x0 rfl)
  · exact st_call 6 (.func 6) _ _ _ rfl rfl (arg2 (K.dep 3 29 rfl) rfl) Try.enter6 (fk_smallw hln (Fk.mono _ _ _ _ hv (bgo bl K.grow)) (by symm; rw [decide_eq_false_iff_not]; exact hsmall))
  · exact st_not (.tmp 30) rfl false (K.dep 4 30 rfl)
  · exact st_pick_f' (.tmp 28) (.const (.bool true)) (.tmp 31) rfl (K.dep 2 28 rfl) (K.dep 5 31 rfl)
  · exact st_move (.tmp 32) rfl (K.dep 6 32 rfl)
  · exact (Bool.false_ne_true hwt).elim
  · exact (Bool.false_ne_true hwt).elim
  · exact (Bool.false_ne_true hwt).elim
  · exact st_pick_t (.tmp 33) (.const (.bool true)) (.tmp 36) rfl (K.dep 7 33 rfl) rfl
  · exact st_move (.tmp 37) rfl (K.dep 11 37 rfl)
  · exact (Bool.false_ne_true hwt).elim
  · exact (Bool.false_ne_true hwt).elim
  · exact (Bool.false_ne_true hwt).elim
  · exact st_pick_t (.tmp 38) (.const (.bool true)) (.tmp 41) rfl (K.dep 12 38 rfl) rfl
  · exact st_move (.tmp 42) rfl (K.dep 16 42 rfl)
  · exact (Bool.false_ne_true hwt).elim
  · exact (Bool.false_ne_true hwt).elim
  · exact (Bool.false_ne_true hwt).elim
  · exact st_pick_t (.tmp 43) (.const (.bool true)) (.tmp 46) rfl (K.dep 17 43 rfl) rfl
  intro f5 w5 A hb
  replace x0 := A.t x0 rfl
  replace x1 := A.t x1 rfl
  replace x2 := A.t x2 rfl
  replace x7 := A.t x7 rfl
  have x47 := A.e 21 47 rfl rfl
  replace hd := HD.below hd hb
  replace bl := bgo bl hb
  replace sd := A.sd sd
  clear A hb
  show Code.wp _ _ _ _ _
  refine wp_cond_true x47 ?_
  refine wp_seq ?_
  refine wr_a [.eq (.pointer (some ⟨gd, 0, none⟩)), .eq (.bool true), .eq (.bool true), .eq (.bool true), .eq (.bool true), .eq (.bool true)] (by rw [sd.1]; kernel_rfl) ⟨fun hwt ac u K => ?_, fun hwt ac u K => ?_, fun hwt ac u K => ?_, fun hwt ac u K => ?_, fun hwt ac u K => ?_, fun hwt ac u K => ?_, trivial⟩ ?_
  · exact st_move (.tmp 7) rfl (K.t x7 rfl)
  · exact st_bin .neq 25 25 (.tmp 48) _ rfl (K.dep 0 48 rfl) rfl (by kernel_rfl)
  · exact st_move (.tmp 49) rfl (K.dep 1 49 rfl)
  · exact st_call 7 (.func 7) _ _ _ rfl rfl rfl Try.enter7 (awake12 _)
  · exact st_pick_t (.tmp 50) (.tmp 51) (.const (.bool false)) rfl (K.dep 2 50 rfl) (K.dep 3 51 rfl)
  · exact st_assign (.tmp 52) rfl (K.dep 4 52 rfl)
  intro f6 w6 A hb
  replace x0 := A.t x0 rfl
  replace x1 := A.t x1 rfl
  replace x2 := A.t x2 rfl
  replace x7 := A.t x7 rfl
  replace x47 := A.t x47 rfl
  have x6 := A.e 5 6 rfl rfl
  replace hd := HD.below hd hb
  replace bl := bgo bl hb
  replace sd := A.sd sd
  clear A hb
  clear x0
  clear x1
  clear x2
  clear x7
  clear x47
  show Code.wp _ _ _ _ _
  refine wp_ret ?_
  repeat (first | with_reducible refine then_ret ?_ | with_reducible refine block_ret ?_)
  exact bodyPost_ret (v := .bool true) (ret_slot rfl f6 _ x6 _ _) sd.2 ⟨rfl, bl⟩
end Go.Proofs.Ytakdpkoigijonaa
