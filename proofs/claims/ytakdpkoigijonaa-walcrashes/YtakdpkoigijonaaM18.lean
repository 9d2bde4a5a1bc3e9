/- WalCrashes. -/
import Derived.Test.YtakdpkoigijonaaM17
namespace Go.Proofs.Ytakdpkoigijonaa
set_option maxRecDepth 100000
open Go.RowKit
/-- What a slice of texts of the law's own tells: nothing, or these h texts, apart from the disk and the wal. -/
def MBs (w : World) (D V : Nat → Prop) (h : Nat) (mb : Option (List Byt)) (v : Value) : Prop := (mb = none ∧ v = .slice none 0 0) ∨ ∃ x g C, mb = some x ∧ v = .slice (some ⟨g, 0, none⟩) h C ∧ x.length = h ∧ Rs w g x ∧ ¬ D g ∧ ¬ V g
theorem MBs.below {w w' : World} {D V : Nat → Prop} {h : Nat} {mb : Option (List Byt)} {v : Value} (q : MBs w D V h mb v) (hb : Below w.heap.size w w') : MBs w' D V h mb v := by
  rcases q with q | ⟨x, g, C, h1, h2, h3, h4, h5⟩
  · exact .inl q
  · exact .inr ⟨x, g, C, h1, h2, h3, h4.below hb, h5⟩
theorem MBs.eff {w w' : World} {S D V D2 V2 : Nat → Prop} {h : Nat} {mb : Option (List Byt)} {v : Value} (q : MBs w D V h mb v) (O : Fr S w w') (hS : ∀ j, S j → D j ∨ V j) (hD : ∀ j, D2 j → D j ∨ w.heap.size ≤ j) (hV : ∀ j, V2 j → V j ∨ w.heap.size ≤ j) : MBs w' D2 V2 h mb v := by
  rcases q with q | ⟨x, g, C, h1, h2, h3, h4, h5, h6⟩
  · exact .inl q
  · have hlt := h4.lt
    exact .inr ⟨x, g, C, h1, h2, h3, h4.keep (O.block _ hlt (fun q => (hS _ q).elim h5 h6)), fun q => (hD _ q).elim h5 (fun q => by omega), fun q => (hV _ q).elim h6 (fun q => by omega)⟩
theorem MBs.some {w : World} {D V : Nat → Prop} {h : Nat} {x : List Byt} {v : Value} (q : MBs w D V h (.some x) v) : ∃ g C, v = .slice (.some ⟨g, 0, none⟩) h C ∧ x.length = h ∧ Rs w g x ∧ ¬ D g ∧ ¬ V g := by
  rcases q with ⟨q, _⟩ | ⟨x', g, C, h1, h2⟩
  · cases q
  · cases h1
    exact ⟨g, C, h2⟩
theorem MBs.none {w : World} {D V : Nat → Prop} {h : Nat} {v : Value} (q : MBs w D V h .none v) : v = .slice .none 0 0 := by
  rcases q with ⟨_, q⟩ | ⟨x', g, C, h1, _⟩
  · exact q
  · cases h1
theorem changed_mb {w : World} {D V : Nat → Prop} {h : Nat} {now : List Byt} {va vl : Value} {l : List Cng} (q : MBs w D V h (.some now) va) (h0 : 0 < h) (h9 : h ≤ 1000) (hln : l.length ≤ 100000) (hvl : (Fk.sr RC l).f vl w) (hok : ∀ c ∈ l, 0 ≤ c.p ∧ c.p < h) (hD : ∀ j, D j → j < w.heap.size) (hV : ∀ j, V j → j < w.heap.size) :
    Calls Try.prog 17 #[va, vl] w fun e w' => ∃ u, e = .returned u ∧ MBs w' D V h (.some (chg now (prc l))) u ∧ Below w.heap.size w w' := by
  obtain ⟨g, C, rfl, h2, h3, _, _⟩ := q.some
  subst h2
  refine (fk_changed (la := now) (List.length_pos_iff.1 h0) (by omega) hln (rs_rdw12 h3) hvl hok).mono ?_
  rintro e w' ⟨g', C', rfl, r1, r2, r3⟩
  exact ⟨_, rfl, .inr ⟨_, g', C', rfl, rfl, by rw [chg_len], r2, fun q => by have := hD _ q; omega, fun q => by have := hV _ q; omega⟩, r3⟩
theorem same_mb {w : World} {D V D2 V2 : Nat → Prop} {h : Nat} {a b : List Byt} {va vb : Value} (qa : MBs w D V h (.some a) va) (qb : MBs w D2 V2 h (.some b) vb) (h9 : h ≤ 1000) :
    Calls Try.prog 19 #[va, vb] w fun e w' => ∃ u, e = .returned u ∧ (Fk.eq (.bool (decide (a = b)))).f u w' ∧ Below w.heap.size w w' := by
  obtain ⟨g, C, rfl, h2, h3, _, _⟩ := qa.some
  obtain ⟨g', C', rfl, r2, r3, _, _⟩ := qb.some
  have := fk_sameT (Ca := C) (Cb := C') (by omega) h3 r3
  rw [h2, r2] at this
  exact this
theorem homes_mb {w : World} {gw gd n z k9 : Nat} {V M D : Nat → Prop} {s : Dst} (hw : HW w gw gd V n z false) (hd : HD w gd M D s) (gs : Gd s n z k9) (hs : s.down = false) (hVD : ∀ j, V j → ¬ D j) (h0 : 0 < homN n) (h9 : homN n ≤ 1000) :
    Calls Try.prog 18 #[.pointer (some ⟨gw, 0, none⟩), .int .i64 ((homN n : Nat) : Int)] w fun e w' => ∃ u, e = .returned u ∧ ∃ (D2 : Nat → Prop) (v : Value), u = .tuple #[v, .bool true] ∧ MBs w' D2 V (homN n) (.some (hml s (homN n))) v ∧ HD w' gd M D2 s ∧ HW w' gw gd V n z false ∧ (∀ j, D2 j → D j ∨ w.heap.size ≤ j) ∧ Fr M w w' := by
  have hlt := hw.lt
  refine (fk_homes hw hd gs hs hVD hlt (Nat.le_refl _) h9).mono ?_
  rintro e w' ⟨D', v, rfl, h1, h2, h3, h4, h5, h6⟩
  refine ⟨_, rfl, D', v, rfl, ?_, h2, h3, h4, h6⟩
  have hne : hml s (homN n) ≠ [] := fun e => by have := hml_len s (homN n); rw [e] at this; simp at this; omega
  obtain ⟨g, C, rfl, q1, q2, q3⟩ := os_block12 h1 hne
  rw [hml_len] at h5 ⊢
  exact .inr ⟨_, g, C, rfl, rfl, hml_len _ _, q3, h5 g rfl, fun q => by have := hlt _ q; omega⟩
/-- Some answer is the right one. -/
theorem wrong_ex (l : List Cng) (n z : Nat) : ∃ r, WrongIs l n z r := by
  by_cases h : ∃ c ∈ l, BadAt n c
  · exact ⟨11, .inl ⟨rfl, h⟩⟩
  · have h' : ∀ c ∈ l, ¬ BadAt n c := fun c hc q => h ⟨c, hc, q⟩
    by_cases h2 : FormB z l l.length
    · exact ⟨10, .inr ⟨h', .inl ⟨rfl, h2⟩⟩⟩
    · rcases Nat.lt_or_ge (roomN n z) l.length with h3 | h3
      · exact ⟨31, .inr ⟨h', .inr ⟨h2, .inl ⟨rfl, h3⟩⟩⟩⟩
      · exact ⟨0, .inr ⟨h', .inr ⟨h2, .inr ⟨rfl, h3⟩⟩⟩⟩
theorem wrong_at {l : List Cng} (hln : l.length ≤ maxLen) {n z : Nat} {r : Int} (h1 : 1 ≤ n) (hn : n ≤ 100000) (hr : WrongIs l n z r) {w : World} {v : Value} (hv : (Fk.sr RC l).f v w) :
    Calls Try.prog 15 #[v, .int .i64 (n : Int), .int .i64 (z : Int)] w fun e w' => ∃ u, e = .returned u ∧ (Fk.eq (.int .i64 r)).f u w' ∧ Below w.heap.size w w' := by
  refine (fk_wrong hln h1 hn hv).mono ?_
  rintro e w' ⟨r', rfl, q1, q2⟩
  obtain rfl := wrong_det q1 hr
  exact ⟨_, rfl, rfl, q2⟩
section
variable {P : Program} {Q : Exit → Act → World → Prop} {ops : Array Oper} {o : Oper} {a : Act} {rest : List Oper} {w : World}
theorem unwant_undef {j d : Nat} {b : Bool} (hg : o.guard = some (j, b)) (hj : (ops[j]?).bind (·.dst) = some d) (h : a.eval (.tmp d) = undef) : Region.wanted o (yielded ops a.tmps) = false := by
  unfold Region.wanted
  rw [hg]
  show (yielded ops a.tmps j == some b) = false
  unfold yielded
  rw [hj]
  simp only [Option.bind_some]
  cases hq : a.tmps[d]? with
  | none => rfl
  | some u =>
    have hu : u = undef := by
      simp only [Act.eval, Array.getD_eq_getD_getElem?, hq, Option.getD_some] at h
      exact h
    subst hu
    cases b <;> rfl
theorem wl_skipu (hw : Region.wanted o (yielded ops a.tmps) = false) (d : Nat) (hd : o.dst = some d) (hsz : d < a.tmps.size)
    (h : ∀ a2, a2.defers = a.defers → a2.tmps.size = a.tmps.size → (∀ t, (t == d) = false → a2.eval (.tmp t) = a.eval (.tmp t)) → a2.eval (.tmp d) = undef → wpList P ops Q rest a2 w) : wpList P ops Q (o :: rest) a w := by
  unfold wpList
  rw [if_neg (by rw [hw]; simp), hd]
  exact h _ (put_def _ _ _) (put_size _ _ _) (fun t ht => put_eval_other _ _ _ _ (fun e => by subst e; simp at ht)) (put_eval_same _ _ _ hsz)
end
theorem li_none {n z : Nat} {s s2 : Dst} {dn : Bool} {now now2 : List Byt} {mb : Option (List Byt)} (h : LI n z s dn now mb) (h2 : LI n z s2 false now2 none) (hd : dn = false) : LI n z s2 false now2 mb := by
  rcases h.2 with ⟨_, q, _⟩ | ⟨q, _⟩
  · rw [q]; exact h2
  · rw [hd] at q; cases q
theorem gw_crs {n z : Nat} {s : Dst} (g : Gw s n z) (lost : List Int) : Gw (crs s lost) n z := by
  obtain ⟨q, _⟩ := crs_res g lost
  exact q.1
section
variable {Q : Exit → Act → World → Prop} {o : Oper} {a : Act} {w : World}
theorem st_nonilS (x : Operand) (ho : o.op = .binOp .eql 34 x (.const (.slice none 0 0)) 34) {v : Value} {g h C : Nat} (hx : a.eval x = v) (hv : v = .slice (some ⟨g, 0, none⟩) h C) : o.wp Try.prog a w (Ends a o.dst w (Fk.eq (.bool false)).f) Q := by
  subst hv
  refine st_bin .eql 34 34 x _ ho hx rfl ?_
  have h := Lib.run_eql_slice_nil (P := Try.prog) w 34 9 (some ⟨g, 0, none⟩) h C 0 0 (by kernel_rfl)
  simp only [eqGuard, Sem.run_bind]
  exact h
end
set_option maxHeartbeats 4000000 in
theorem crashes_law {l : List Op12} {v : Value} (hln : l.length ≤ maxLen) (w : World) (hv : (Fk.sr RO l).f v w) :
    Calls Try.prog 4 #[v] w fun e w' => e = .returned (.bool true) ∧ Below w.heap.size w w' := by
  go_enter Try.func4, Try.ntmps4
  refine code_both (fun f w1 => f.tmps.size = 150 ∧ f.defers = [] ∧ f.eval (.tmp 0) = v ∧ Below w.heap.size w (w1)) ⟨rfl, rfl, rfl, Below.refl _ _⟩ ?_
  rintro f0 w0 ⟨sz, df, x0, bl⟩
  have sd := And.intro sz df
  clear sz df
  have bl0 := bl
  refine wp_seq ?_
  refine wr_a [.eq (.bool false)] (by rw [sd.1]; kernel_rfl) ⟨fun hwt ac u K => ?_, trivial⟩ ?_
  · exact st_assign (.const (.bool false)) rfl rfl
  intro f1 w1 A hb
  replace x0 := A.t x0 rfl
  replace bl := bgo bl hb
  replace sd := A.sd sd
  clear A hb
  show Code.wp _ _ _ _ _
  refine wp_seq ?_
  refine wr_s [] (by rw [sd.1]; kernel_rfl) trivial ?_
  intro f2 w2 A hb
  replace x0 := A.t x0 rfl
  replace bl := bgo bl hb
  replace sd := A.sd sd
  clear A hb
  refine wl_call 8 (.func 8) _ _ #[.int .i64 ((12 : Nat) : Int), .int .i64 ((64 : Nat) : Int)] rfl 17 rfl (by rw [sd.1]; decide) rfl rfl rfl Try.enter8 (fun u W' => ∃ (gd : Nat) (M D : Nat → Prop), u = .pointer (some ⟨gd, 0, none⟩) ∧ HD W' gd M D (newd (12) (64)) ∧ (∀ j, D j → w2.heap.size ≤ j) ∧ Below w2.heap.size w2 W') ((fk_dnew (N := 12) (Z := 64) (by decide) (by decide) (by decide) (by decide) w2).mono (by rintro e w' ⟨gd, M, D, rfl, q⟩; exact ⟨_, rfl, gd, M, D, rfl, q⟩)) ?_
  rintro f3 w3 df2 sz2 old2 ⟨gd, M, DD, x17, hd, hD0, hb⟩
  have hDD : ∀ j, DD j → w.heap.size ≤ j := fun j q => Nat.le_trans bl.size (hD0 j q)
  clear hD0
  replace bl0 := bl
  replace x0 := tr old2 x0 rfl
  replace bl := bgo bl hb
  replace sd := sd2 sz2 df2 sd
  clear df2 sz2 old2 hb
  refine wl_one (.eq (.pointer (some ⟨gd, 0, none⟩))) rfl 3 rfl (by rw [sd.1]; decide) (st_assign (.tmp 17) rfl x17) ?_
  intro f4 w4 df2 sz2 old2 new2 hb
  replace x0 := tr old2 x0 rfl
  replace x17 := tr old2 x17 rfl
  have x3 := Fk.e new2
  replace hd := HD.below hd hb
  replace bl := bgo bl hb
  replace sd := sd2 sz2 df2 sd
  clear df2 sz2 old2 new2 hb
  refine wpList_nil ?_
  clear x17
  show Code.wp _ _ _ _ _
  refine wp_seq ?_
  refine wp_seq ?_
  by_cases hsmall : smallW l 30
  rotate_left
  · skip
    refine wr_a [.eq (.pointer (some ⟨gd, 0, none⟩)), .eq (.bool false), .eq (.bool false), .eq (v), .eq (.bool false), .eq (.bool true), .eq (.bool true)] (by rw [sd.1]; kernel_rfl) ⟨fun hwt ac u K => ?_, fun hwt ac u K => ?_, fun hwt ac u K => ?_, fun hwt ac u K => ?_, fun hwt ac u K => ?_, fun hwt ac u K => ?_, fun hwt ac u K => ?_, trivial⟩ ?_
    · exact st_move (.tmp 3) rfl (K.t x3 rfl)
    · exact st_bin .eql 25 25 (.tmp 18) _ rfl (K.dep 0 18 rfl) rfl (by kernel_rfl)
    · exact st_move (.tmp 19) rfl (K.dep 1 19 rfl)
    · exact st_move (.tmp 0) rfl (K.t x0 rfl)
    · exact st_call 6 (.func 6) _ _ _ rfl rfl (arg2 (K.dep 3 21 rfl) rfl) Try.enter6 (fk_smallw hln (Fk.mono _ _ _ _ hv (bgo bl K.grow)) (by symm; rw [decide_eq_false_iff_not]; exact hsmall))
    · exact st_not (.tmp 22) rfl false (K.dep 4 22 rfl)
    · exact st_pick_f' (.tmp 20) (.const (.bool true)) (.tmp 23) rfl (K.dep 2 20 rfl) (K.dep 5 23 rfl)
    intro f5 w5 A hb
    replace x0 := A.t x0 rfl
    replace x3 := A.t x3 rfl
    have x24 := A.e 6 24 rfl rfl
    replace hd := HD.below hd hb
    replace bl := bgo bl hb
    replace sd := A.sd sd
    clear A hb
    show Code.wp _ _ _ _ _
    refine wp_cond_true x24 ?_
    refine wp_seq ?_
    refine wr_a [.eq (.pointer (some ⟨gd, 0, none⟩)), .eq (.bool true), .eq (.bool true), .eq (.bool true), .eq (.bool true), .eq (.bool true)] (by rw [sd.1]; kernel_rfl) ⟨fun hwt ac u K => ?_, fun hwt ac u K => ?_, fun hwt ac u K => ?_, fun hwt ac u K => ?_, fun hwt ac u K => ?_, fun hwt ac u K => ?_, trivial⟩ ?_
    · exact st_move (.tmp 3) rfl (K.t x3 rfl)
    · exact st_bin .neq 25 25 (.tmp 25) _ rfl (K.dep 0 25 rfl) rfl (by kernel_rfl)
    · exact st_move (.tmp 26) rfl (K.dep 1 26 rfl)
    · exact st_call 7 (.func 7) _ _ _ rfl rfl rfl Try.enter7 (awake12 _)
    · exact st_pick_t (.tmp 27) (.tmp 28) (.const (.bool false)) rfl (K.dep 2 27 rfl) (K.dep 3 28 rfl)
    · exact st_assign (.tmp 29) rfl (K.dep 4 29 rfl)
    intro f6 w6 A hb
    replace x0 := A.t x0 rfl
    replace x3 := A.t x3 rfl
    replace x24 := A.t x24 rfl
    have x2 := A.e 5 2 rfl rfl
    replace hd := HD.below hd hb
    replace bl := bgo bl hb
    replace sd := A.sd sd
    clear A hb
    clear x0
    clear x3
    clear x24
    show Code.wp _ _ _ _ _
    refine wp_ret ?_
    repeat (first | with_reducible refine then_ret ?_ | with_reducible refine block_ret ?_)
    exact bodyPost_ret (v := .bool true) (ret_slot rfl f6 _ x2 _ _) sd.2 ⟨rfl, bl⟩
  refine wr_a [.eq (.pointer (some ⟨gd, 0, none⟩)), .eq (.bool false), .eq (.bool false), .eq (v), .eq (.bool true), .eq (.bool false), .eq (.bool false)] (by rw [sd.1]; kernel_rfl) ⟨fun hwt ac u K => ?_, fun hwt ac u K => ?_, fun hwt ac u K => ?_, fun hwt ac u K => ?_, fun hwt ac u K => ?_, fun hwt ac u K => ?_, fun hwt ac u K => ?_, trivial⟩ ?_
  · exact st_move (.tmp 3) rfl (K.t x3 rfl)
  · exact st_bin .eql 25 25 (.tmp 18) _ rfl (K.dep 0 18 rfl) rfl (by kernel_rfl)
  · exact st_move (.tmp 19) rfl (K.dep 1 19 rfl)
  · exact st_move (.tmp 0) rfl (K.t x0 rfl)
  · exact st_call 6 (.func 6) _ _ _ rfl rfl (arg2 (K.dep 3 21 rfl) rfl) Try.enter6 (fk_smallw hln (Fk.mono _ _ _ _ hv (bgo bl K.grow)) (by symm; rw [decide_eq_true_iff]; exact hsmall))
  · exact st_not (.tmp 22) rfl true (K.dep 4 22 rfl)
  · exact st_pick_f' (.tmp 20) (.const (.bool true)) (.tmp 23) rfl (K.dep 2 20 rfl) (K.dep 5 23 rfl)
  intro f5 w5 A hb
  replace x0 := A.t x0 rfl
  replace x3 := A.t x3 rfl
  have x24 := A.e 6 24 rfl rfl
  replace hd := HD.below hd hb
  replace bl := bgo bl hb
  replace sd := A.sd sd
  clear A hb
  show Code.wp _ _ _ _ _
  refine wp_cond_false x24 ?_
  refine wp_skip ?_
  show Code.wp _ _ _ _ _
  refine wp_seq ?_
  obtain ⟨n, hn9⟩ : ∃ n : Nat, n = 12 := ⟨_, rfl⟩
  obtain ⟨z, hz9⟩ : ∃ z : Nat, z = 64 := ⟨_, rfl⟩
  obtain ⟨s0, hs0⟩ : ∃ s, s = newd n z := ⟨_, rfl⟩
  rw [← hn9, ← hz9, ← hs0] at hd
  have h6 : homN n = 6 := by rw [hn9]; rfl
  have h3 : 3 ≤ n := by omega
  have h32 : 32 ≤ z := by omega
  have hnM : n ≤ 100000 := by omega
  have gs : Gd s0 n z 0 := by rw [hs0]; exact gd_new n z
  have hLI : LI n z s0 false (List.replicate (homN n) (zs z)) none := by rw [hs0]; exact LI.start h3 (by omega)
  have hq : Quiet n z (homN n) (prsP n) false s0 (List.replicate (homN n) (zs z)) := by rw [hs0]; exact quiet_newd h3 (by omega)
  have hgw : Gw s0 n z := hLI.gw
  have hop : wopn (homN n) (prsP n) (hdz z) s0 = (0, s0) := wopn_quiet h3 h32 hq
  have hdn0 := hq.up.2.2
  have hh0 := hq.homes
  clear hs0 hq
  have hll : l.length ≤ 30 := by have := hsmall.2; omega
  refine wr_s [.eq (.pointer (some ⟨gd, 0, none⟩))] (by rw [sd.1]; kernel_rfl) ⟨fun hwt ac u K => ?_, trivial⟩ ?_
  · exact st_move (.tmp 3) rfl (K.t x3 rfl)
  intro f6 w6 A hb
  replace x0 := A.t x0 rfl
  replace x3 := A.t x3 rfl
  replace x24 := A.t x24 rfl
  have x31 := A.e 0 31 rfl rfl
  replace hd := HD.below hd hb
  replace bl := bgo bl hb
  replace sd := A.sd sd
  clear A hb
  clear x24
  refine wl_call 9 (.func 9) _ _ #[.pointer (some ⟨gd, 0, none⟩)] rfl 32 rfl (by rw [sd.1]; decide) rfl rfl (one_arg x31) Try.enter9 (fun u W' => ∃ (D2 : Nat → Prop) (gw : Nat) (VV : Nat → Prop), u = .tuple #[.pointer (some ⟨gw, 0, none⟩), .int .i64 0] ∧ HD W' gd M D2 (s0) ∧ Gd (s0) n z (0 + 4 * (n + 2)) ∧ HW W' gw gd VV n z false ∧ (∀ j, VV j → w6.heap.size ≤ j ∧ ¬ D2 j) ∧ (∀ j, D2 j → DD j ∨ w6.heap.size ≤ j) ∧ Fr M w6 W') (open_ok12 hd gs hgw (by omega) hop) ?_
  rintro f7 w7 df2 sz2 old2 ⟨D2, gw, VV, x32, hd2, gs2, hw, hVN, hD2, O⟩
  have hVw : ∀ j, VV j → w.heap.size ≤ j := fun j q => Nat.le_trans bl.size (hVN j q).1
  have hVD : ∀ j, VV j → ¬ D2 j := fun j q => (hVN j q).2
  have bl9 := bl.trans (O.below bl.size (fun j q => hDD j (hd.sub j q)))
  replace hDD : ∀ j, D2 j → w.heap.size ≤ j := fun j q => (hD2 j q).elim (hDD j) (fun q => by have := bl.size; omega)
  replace bl := bl9
  replace bl0 := bl
  clear bl9
  replace hd := hd2
  replace gs := gs2
  clear gs2 hVN
  clear hd2 hD2 O
  clear DD
  obtain ⟨DD, rfl⟩ : ∃ E, E = D2 := ⟨_, rfl⟩
  replace x0 := tr old2 x0 rfl
  replace x3 := tr old2 x3 rfl
  replace x31 := tr old2 x31 rfl
  replace sd := sd2 sz2 df2 sd
  clear df2 sz2 old2
  clear x31
  refine wl_one (.eq (.tuple #[.pointer (some ⟨gw, 0, none⟩), .int .i64 0])) rfl 30 rfl (by rw [sd.1]; decide) (st_move (.tmp 32) rfl x32) ?_
  intro f8 w8 df2 sz2 old2 new2 hb
  replace x0 := tr old2 x0 rfl
  replace x3 := tr old2 x3 rfl
  replace x32 := tr old2 x32 rfl
  have x30 := Fk.e new2
  replace hd := HD.below hd hb
  replace hw := HW.below hw hb
  replace bl := bgo bl hb
  replace sd := sd2 sz2 df2 sd
  clear df2 sz2 old2 new2 hb
  clear x32
  refine wl_one (.eq (.pointer (some ⟨gw, 0, none⟩))) rfl 33 rfl (by rw [sd.1]; decide) (st_extv (.tmp 30) 0 rfl x30 rfl) ?_
  intro f9 w9 df2 sz2 old2 new2 hb
  replace x0 := tr old2 x0 rfl
  replace x3 := tr old2 x3 rfl
  replace x30 := tr old2 x30 rfl
  have x33 := Fk.e new2
  replace hd := HD.below hd hb
  replace hw := HW.below hw hb
  replace bl := bgo bl hb
  replace sd := sd2 sz2 df2 sd
  clear df2 sz2 old2 new2 hb
  refine wl_one (.eq (.int .i64 0)) rfl 34 rfl (by rw [sd.1]; decide) (st_extv (.tmp 30) 1 rfl x30 rfl) ?_
  intro f10 w10 df2 sz2 old2 new2 hb
  replace x0 := tr old2 x0 rfl
  replace x3 := tr old2 x3 rfl
  replace x30 := tr old2 x30 rfl
  replace x33 := tr old2 x33 rfl
  have x34 := Fk.e new2
  replace hd := HD.below hd hb
  replace hw := HW.below hw hb
  replace bl := bgo bl hb
  replace sd := sd2 sz2 df2 sd
  clear df2 sz2 old2 new2 hb
  clear x30
  refine wl_one (.eq (.pointer (some ⟨gw, 0, none⟩))) rfl 4 rfl (by rw [sd.1]; decide) (st_assign (.tmp 33) rfl x33) ?_
  intro f11 w11 df2 sz2 old2 new2 hb
  replace x0 := tr old2 x0 rfl
  replace x3 := tr old2 x3 rfl
  replace x33 := tr old2 x33 rfl
  replace x34 := tr old2 x34 rfl
  have x4 := Fk.e new2
  replace hd := HD.below hd hb
  replace hw := HW.below hw hb
  replace bl := bgo bl hb
  replace sd := sd2 sz2 df2 sd
  clear df2 sz2 old2 new2 hb
  clear x33
  refine wl_one (.eq (.int .i64 0)) rfl 5 rfl (by rw [sd.1]; decide) (st_assign (.tmp 34) rfl x34) ?_
  intro f12 w12 df2 sz2 old2 new2 hb
  replace x0 := tr old2 x0 rfl
  replace x3 := tr old2 x3 rfl
  replace x34 := tr old2 x34 rfl
  replace x4 := tr old2 x4 rfl
  have x5 := Fk.e new2
  replace hd := HD.below hd hb
  replace hw := HW.below hw hb
  replace bl := bgo bl hb
  replace sd := sd2 sz2 df2 sd
  clear df2 sz2 old2 new2 hb
  refine wpList_nil ?_
  clear x34
  show Code.wp _ _ _ _ _
  refine wp_seq ?_
  refine wp_seq ?_
  refine wr_a [.eq (.int .i64 0), .eq (.bool false), .eq (.bool false), .eq (.pointer (some ⟨gw, 0, none⟩)), .eq (.bool false), .eq (.bool false)] (by rw [sd.1]; kernel_rfl) ⟨fun hwt ac u K => ?_, fun hwt ac u K => ?_, fun hwt ac u K => ?_, fun hwt ac u K => ?_, fun hwt ac u K => ?_, fun hwt ac u K => ?_, trivial⟩ ?_
  · exact st_move (.tmp 5) rfl (K.t x5 rfl)
  · exact st_neqi 28 (.tmp 35) (.const (.int .i64 0)) rfl .i64 (0) (0) (K.dep 0 35 rfl) rfl _ (by rfl)
  · exact st_move (.tmp 36) rfl (K.dep 1 36 rfl)
  · exact st_move (.tmp 4) rfl (K.t x4 rfl)
  · exact st_bin .eql 27 27 (.tmp 38) _ rfl (K.dep 3 38 rfl) rfl (by kernel_rfl)
  · exact st_pick_f' (.tmp 37) (.const (.bool true)) (.tmp 39) rfl (K.dep 2 37 rfl) (K.dep 4 39 rfl)
  intro f13 w13 A hb
  replace x0 := A.t x0 rfl
  replace x3 := A.t x3 rfl
  replace x4 := A.t x4 rfl
  replace x5 := A.t x5 rfl
  have x40 := A.e 5 40 rfl rfl
  replace hd := HD.below hd hb
  replace hw := HW.below hw hb
  replace bl := bgo bl hb
  replace sd := A.sd sd
  clear A hb
  clear x5
  show Code.wp _ _ _ _ _
  refine wp_cond_false x40 ?_
  refine wp_skip ?_
  show Code.wp _ _ _ _ _
  refine wp_seq ?_
  refine wr_a [.eq (.int .i64 ((homN n : Nat) : Int)), .eq (.int .i64 ((homN n : Nat) : Int))] (by rw [sd.1]; kernel_rfl) ⟨fun hwt ac u K => ?_, fun hwt ac u K => ?_, trivial⟩ ?_
  · exact st_call 10 (.func 10) _ _ _ rfl rfl (one_arg rfl) Try.enter10 (by have h9 := fk_home (n := 12) (by decide) (by decide) u; rw [show homN 12 = homN n from by rw [hn9]] at h9; exact h9)
  · exact st_assign (.tmp 41) rfl (K.dep 0 41 rfl)
  intro f14 w14 A hb
  replace x0 := A.t x0 rfl
  replace x3 := A.t x3 rfl
  replace x4 := A.t x4 rfl
  replace x40 := A.t x40 rfl
  have x6 := A.e 1 6 rfl rfl
  replace hd := HD.below hd hb
  replace hw := HW.below hw hb
  replace bl := bgo bl hb
  replace sd := A.sd sd
  clear A hb
  clear x40
  show Code.wp _ _ _ _ _
  refine wp_seq ?_
  refine wr_s [.eq (.pointer (some ⟨gw, 0, none⟩)), .eq (.int .i64 ((homN n : Nat) : Int))] (by rw [sd.1]; kernel_rfl) ⟨fun hwt ac u K => ?_, fun hwt ac u K => ?_, trivial⟩ ?_
  · exact st_move (.tmp 4) rfl (K.t x4 rfl)
  · exact st_move (.tmp 6) rfl (K.t x6 rfl)
  intro f15 w15 A hb
  replace x0 := A.t x0 rfl
  replace x3 := A.t x3 rfl
  replace x4 := A.t x4 rfl
  replace x6 := A.t x6 rfl
  have x43 := A.e 0 43 rfl rfl
  have x44 := A.e 1 44 rfl rfl
  replace hd := HD.below hd hb
  replace hw := HW.below hw hb
  replace bl := bgo bl hb
  replace sd := A.sd sd
  clear A hb
  refine wl_call 18 (.func 18) _ _ #[.pointer (some ⟨gw, 0, none⟩), .int .i64 ((homN n : Nat) : Int)] rfl 45 rfl (by rw [sd.1]; decide) rfl rfl (two_arg x43 x44) Try.enter18 (fun u W' => ∃ (D2 : Nat → Prop) (v : Value), u = .tuple #[v, .bool true] ∧ MBs W' D2 VV (homN n) (.some (hml s0 (homN n))) v ∧ HD W' gd M D2 s0 ∧ HW W' gw gd VV n z false ∧ (∀ j, D2 j → DD j ∨ w15.heap.size ≤ j) ∧ Fr M w15 W') (homes_mb hw hd gs hdn0 hVD (by omega) (by omega)) ?_
  rintro f16 w16 df2 sz2 old2 ⟨D2, vN, x45, hN, hd2, hw2, hD2, O⟩
  have hVlt9 := hw.lt
  replace hVD : ∀ j, VV j → ¬ D2 j := fun j q m => (hD2 j m).elim (hVD j q) (fun m => by have := hVlt9 j q; omega)
  clear hVlt9
  have bl9 := bl.trans (O.below bl.size (fun j q => hDD j (hd.sub j q)))
  replace hDD : ∀ j, D2 j → w.heap.size ≤ j := fun j q => (hD2 j q).elim (hDD j) (fun q => by have := bl.size; omega)
  replace bl := bl9
  replace bl0 := bl
  clear bl9
  replace hd := hd2
  replace hw := hw2
  clear hw2
  clear hd2 hD2 O
  clear DD
  obtain ⟨DD, rfl⟩ : ∃ E, E = D2 := ⟨_, rfl⟩
  replace x0 := tr old2 x0 rfl
  replace x3 := tr old2 x3 rfl
  replace x4 := tr old2 x4 rfl
  replace x6 := tr old2 x6 rfl
  replace x43 := tr old2 x43 rfl
  replace x44 := tr old2 x44 rfl
  replace sd := sd2 sz2 df2 sd
  clear df2 sz2 old2
  clear x43
  clear x44
  refine wl_one (.eq (.tuple #[vN, .bool true])) rfl 42 rfl (by rw [sd.1]; decide) (st_move (.tmp 45) rfl x45) ?_
  intro f17 w17 df2 sz2 old2 new2 hb
  replace x0 := tr old2 x0 rfl
  replace x3 := tr old2 x3 rfl
  replace x4 := tr old2 x4 rfl
  replace x6 := tr old2 x6 rfl
  replace x45 := tr old2 x45 rfl
  have x42 := Fk.e new2
  replace hd := HD.below hd hb
  replace hw := HW.below hw hb
  replace hN := MBs.below hN hb
  replace bl := bgo bl hb
  replace sd := sd2 sz2 df2 sd
  clear df2 sz2 old2 new2 hb
  clear x45
  refine wl_one (.eq (vN)) rfl 46 rfl (by rw [sd.1]; decide) (st_extv (.tmp 42) 0 rfl x42 rfl) ?_
  intro f18 w18 df2 sz2 old2 new2 hb
  replace x0 := tr old2 x0 rfl
  replace x3 := tr old2 x3 rfl
  replace x4 := tr old2 x4 rfl
  replace x6 := tr old2 x6 rfl
  replace x42 := tr old2 x42 rfl
  have x46 := Fk.e new2
  replace hd := HD.below hd hb
  replace hw := HW.below hw hb
  replace hN := MBs.below hN hb
  replace bl := bgo bl hb
  replace sd := sd2 sz2 df2 sd
  clear df2 sz2 old2 new2 hb
  refine wl_one (.eq (.bool true)) rfl 47 rfl (by rw [sd.1]; decide) (st_extv (.tmp 42) 1 rfl x42 rfl) ?_
  intro f19 w19 df2 sz2 old2 new2 hb
  replace x0 := tr old2 x0 rfl
  replace x3 := tr old2 x3 rfl
  replace x4 := tr old2 x4 rfl
  replace x6 := tr old2 x6 rfl
  replace x42 := tr old2 x42 rfl
  replace x46 := tr old2 x46 rfl
  have x47 := Fk.e new2
  replace hd := HD.below hd hb
  replace hw := HW.below hw hb
  replace hN := MBs.below hN hb
  replace bl := bgo bl hb
  replace sd := sd2 sz2 df2 sd
  clear df2 sz2 old2 new2 hb
  clear x42
  refine wl_one (.eq (vN)) rfl 7 rfl (by rw [sd.1]; decide) (st_assign (.tmp 46) rfl x46) ?_
  intro f20 w20 df2 sz2 old2 new2 hb
  replace x0 := tr old2 x0 rfl
  replace x3 := tr old2 x3 rfl
  replace x4 := tr old2 x4 rfl
  replace x6 := tr old2 x6 rfl
  replace x46 := tr old2 x46 rfl
  replace x47 := tr old2 x47 rfl
  have x7 := Fk.e new2
  replace hd := HD.below hd hb
  replace hw := HW.below hw hb
  replace hN := MBs.below hN hb
  replace bl := bgo bl hb
  replace sd := sd2 sz2 df2 sd
  clear df2 sz2 old2 new2 hb
  clear x46
  refine wl_one (.eq (.bool true)) rfl 8 rfl (by rw [sd.1]; decide) (st_assign (.tmp 47) rfl x47) ?_
  intro f21 w21 df2 sz2 old2 new2 hb
  replace x0 := tr old2 x0 rfl
  replace x3 := tr old2 x3 rfl
  replace x4 := tr old2 x4 rfl
  replace x6 := tr old2 x6 rfl
  replace x47 := tr old2 x47 rfl
  replace x7 := tr old2 x7 rfl
  have x8 := Fk.e new2
  replace hd := HD.below hd hb
  replace hw := HW.below hw hb
  replace hN := MBs.below hN hb
  replace bl := bgo bl hb
  replace sd := sd2 sz2 df2 sd
  clear df2 sz2 old2 new2 hb
  refine wpList_nil ?_
  clear x47
  show Code.wp _ _ _ _ _
  refine wp_seq ?_
  refine wp_seq ?_
  refine wr_a [.eq (.bool true), .eq (.bool false)] (by rw [sd.1]; kernel_rfl) ⟨fun hwt ac u K => ?_, fun hwt ac u K => ?_, trivial⟩ ?_
  · exact st_move (.tmp 8) rfl (K.t x8 rfl)
  · exact st_not (.tmp 48) rfl true (K.dep 0 48 rfl)
  intro f22 w22 A hb
  replace x0 := A.t x0 rfl
  replace x3 := A.t x3 rfl
  replace x4 := A.t x4 rfl
  replace x6 := A.t x6 rfl
  replace x7 := A.t x7 rfl
  replace x8 := A.t x8 rfl
  have x49 := A.e 1 49 rfl rfl
  replace hd := HD.below hd hb
  replace hw := HW.below hw hb
  replace hN := MBs.below hN hb
  replace bl := bgo bl hb
  replace sd := A.sd sd
  clear A hb
  clear x8
  show Code.wp _ _ _ _ _
  refine wp_cond_false x49 ?_
  refine wp_skip ?_
  show Code.wp _ _ _ _ _
  refine wp_seq ?_
  obtain ⟨now, hnow⟩ : ∃ x, x = List.replicate (homN n) (zs z) := ⟨_, rfl⟩
  rw [show hml s0 (homN n) = now from by rw [hnow]; exact hh0] at hN
  rw [← hnow] at hLI
  clear hnow hh0 hop hgw hdn0
  have hM : MBs w22 DD VV (homN n) (.none) (.slice none 0 0) := .inl ⟨rfl, rfl⟩
  refine wr_a [.eq (.slice none 0 0)] (by rw [sd.1]; kernel_rfl) ⟨fun hwt ac u K => ?_, trivial⟩ ?_
  · exact st_assign (.const (.slice none 0 0)) rfl rfl
  intro f23 w23 A hb
  replace x0 := A.t x0 rfl
  replace x3 := A.t x3 rfl
  replace x4 := A.t x4 rfl
  replace x6 := A.t x6 rfl
  replace x7 := A.t x7 rfl
  replace x49 := A.t x49 rfl
  have x9 := A.e 0 9 rfl rfl
  replace hd := HD.below hd hb
  replace hw := HW.below hw hb
  replace hN := MBs.below hN hb
  replace hM := MBs.below hM hb
  replace bl := bgo bl hb
  replace sd := A.sd sd
  clear A hb
  clear x49
  show Code.wp _ _ _ _ _
  refine wp_seq ?_
  refine wp_seq ?_
  refine wr_a [.eq (v), .eq (.int .i64 (((l).length : Nat) : Int)), .eq (.int .i64 0)] (by rw [sd.1]; kernel_rfl) ⟨fun hwt ac u K => ?_, fun hwt ac u K => ?_, fun hwt ac u K => ?_, trivial⟩ ?_
  · exact st_move (.tmp 0) rfl (K.t x0 rfl)
  · exact st_lenso (.tmp 50) rfl (fk_val (K.dep 0 50 rfl) (Fk.mono _ _ _ _ hv (bgo bl K.grow)))
  · exact st_move (.const (.int .i64 0)) rfl rfl
  intro f24 w24 A hb
  replace x0 := A.t x0 rfl
  replace x3 := A.t x3 rfl
  replace x4 := A.t x4 rfl
  replace x6 := A.t x6 rfl
  replace x7 := A.t x7 rfl
  replace x9 := A.t x9 rfl
  have x50 := A.e 0 50 rfl rfl
  have x51 := A.e 1 51 rfl rfl
  have x52 := A.e 2 52 rfl rfl
  replace hd := HD.below hd hb
  replace hw := HW.below hw hb
  replace hN := MBs.below hN hb
  replace hM := MBs.below hM hb
  replace bl := bgo bl hb
  replace sd := A.sd sd
  clear A hb
  clear x0
  show Code.wp _ _ _ _ _
  refine wp_block ?_
  refine wp_loop (fun f v1 => ∃ (k : Nat) (s : Dst) (DD : Nat → Prop) (gw : Nat) (VV : Nat → Prop) (dn : Bool) (now : List Byt) (mb : Option (List Byt)) (vN vM : Value), k ≤ l.length ∧ Gd s n z (1000 * (k + 1)) ∧ LI n z s dn now mb ∧ (∀ j, DD j → w.heap.size ≤ j) ∧ (∀ j, VV j → ¬ DD j) ∧ (∀ j, VV j → w.heap.size ≤ j) ∧ f.tmps.size = 150 ∧ f.defers = [] ∧ f.eval (.tmp 3) = .pointer (some ⟨gd, 0, none⟩) ∧ f.eval (.tmp 6) = .int .i64 ((homN n : Nat) : Int) ∧ f.eval (.tmp 50) = v ∧ f.eval (.tmp 51) = .int .i64 (((l).length : Nat) : Int) ∧ f.eval (.tmp 52) = .int .i64 (k : Int) ∧ f.eval (.tmp 4) = .pointer (some ⟨gw, 0, none⟩) ∧ f.eval (.tmp 7) = vN ∧ f.eval (.tmp 9) = vM ∧ HD v1 gd M DD s ∧ HW v1 gw gd VV n z dn ∧ MBs v1 DD VV (homN n) (.some now) vN ∧ MBs v1 DD VV (homN n) mb vM ∧ Below w.heap.size w (v1)) (fun f _ => l.length - (intOf (f.eval (.tmp 52))).toNat) ⟨0, s0, DD, gw, VV, false, now, none, vN, .slice none 0 0, Nat.zero_le _, gs.le (by omega), hLI, hDD, hVD, hVw, sd.1, sd.2, x3, x6, x50, x51, x52, x4, x7, x9, hd, hw, hN, hM, bl⟩ ?_
  intro f25 w25 hI
  clear sd bl bl0 x3 x4 x6 x7 x9 x50 x51 x52 hd hw hN hM
  obtain ⟨k, s, DD, gw, VV, dn, now, mb, vN, vM, hk8, gs, hLI, hDD, hVD, hVw, sz, df, x3, x6, x50, x51, x52, x4, x7, x9, hd, hw, hN, hM, bl⟩ := hI
  have sd := And.intro sz df
  clear sz df
  have bl0 := bl
  have hcnt := x52
  refine wp_seq ?_
  by_cases hlt : k < l.length
  rotate_left
  · skip
    refine wr_a [.eq (.bool false)] (by rw [sd.1]; kernel_rfl) ⟨fun hwt ac u K => ?_, trivial⟩ ?_
    · exact st_lss 3 (.tmp 52) (.tmp 51) rfl .i64 ((k : Int)) ((((l).length : Nat) : Int)) (K.t x52 rfl) (K.t x51 rfl) _ (by rw [eq_comm, decide_eq_false_iff_not]; exact fun h => hlt (Int.ofNat_lt.1 h))
    intro f26 w26 A hb
    replace x3 := A.t x3 rfl
    replace x4 := A.t x4 rfl
    replace x6 := A.t x6 rfl
    replace x7 := A.t x7 rfl
    replace x9 := A.t x9 rfl
    replace x50 := A.t x50 rfl
    replace x51 := A.t x51 rfl
    replace x52 := A.t x52 rfl
    have x53 := A.e 0 53 rfl rfl
    replace hd := HD.below hd hb
    replace hw := HW.below hw hb
    replace hN := MBs.below hN hb
    replace hM := MBs.below hM hb
    replace bl := bgo bl hb
    replace sd := A.sd sd
    clear A hb
    show Code.wp _ _ _ _ _
    refine wp_seq ?_
    refine wp_cond_false x53 ?_
    refine wp_exit ?_
    show Code.wp _ _ _ _ _
    refine wp_seq ?_
    clear hd hw hN hM
    refine wr_a [.eq (.bool true), .eq (.bool true)] (by rw [sd.1]; kernel_rfl) ⟨fun hwt ac u K => ?_, fun hwt ac u K => ?_, trivial⟩ ?_
    · exact st_call 7 (.func 7) _ _ _ rfl rfl rfl Try.enter7 (awake12 _)
    · exact st_assign (.tmp 149) rfl (K.dep 0 149 rfl)
    intro f27 w27 A hb
    replace x3 := A.t x3 rfl
    replace x4 := A.t x4 rfl
    replace x6 := A.t x6 rfl
    replace x7 := A.t x7 rfl
    replace x9 := A.t x9 rfl
    replace x50 := A.t x50 rfl
    replace x51 := A.t x51 rfl
    replace x52 := A.t x52 rfl
    replace x53 := A.t x53 rfl
    have x2 := A.e 1 2 rfl rfl
    replace bl := bgo bl hb
    replace sd := A.sd sd
    clear A hb
    clear x53
    show Code.wp _ _ _ _ _
    refine wp_ret ?_
    repeat (first | with_reducible refine then_ret ?_ | with_reducible refine block_ret ?_)
    exact bodyPost_ret (v := .bool true) (ret_slot rfl f27 _ x2 _ _) sd.2 ⟨rfl, bl⟩
  obtain ⟨oo, hook⟩ : ∃ p, l[k]? = some p := ⟨_, List.getElem?_eq_getElem hlt⟩
  have hok := sr_ok hv hook
  have hcoo : (Fk.sr RC oo.cs).f oo.vc w := hok.1
  have hloo : (Fk.is oo.ls).f oo.vl w := hok.2.1
  have hlco : oo.cs.length ≤ maxLen := hok.2.2.2.2
  have hono : oo.n ≤ 9223372036854775807 := hok.2.2.1
  have hwf := hok.2.2.2.1
  have hsm := hsmall.1 oo (List.mem_of_getElem? hook)
  have hk30 : k < 30 := by omega
  refine wr_a [.eq (.bool true)] (by rw [sd.1]; kernel_rfl) ⟨fun hwt ac u K => ?_, trivial⟩ ?_
  · exact st_lss 3 (.tmp 52) (.tmp 51) rfl .i64 ((k : Int)) ((((l).length : Nat) : Int)) (K.t x52 rfl) (K.t x51 rfl) _ (by rw [eq_comm, decide_eq_true_iff]; exact Int.ofNat_lt.2 hlt)
  intro f26 w26 A hb
  replace x3 := A.t x3 rfl
  replace x4 := A.t x4 rfl
  replace x6 := A.t x6 rfl
  replace x7 := A.t x7 rfl
  replace x9 := A.t x9 rfl
  replace x50 := A.t x50 rfl
  replace x51 := A.t x51 rfl
  replace x52 := A.t x52 rfl
  have x53 := A.e 0 53 rfl rfl
  replace hd := HD.below hd hb
  replace hw := HW.below hw hb
  replace hN := MBs.below hN hb
  replace hM := MBs.below hM hb
  replace bl := bgo bl hb
  replace sd := A.sd sd
  clear A hb
  show Code.wp _ _ _ _ _
  refine wp_seq ?_
  refine wp_cond_true x53 ?_
  refine wp_skip ?_
  show Code.wp _ _ _ _ _
  refine wp_seq ?_
  refine wp_block ?_
  refine wp_seq ?_
  have hdl9 := hd.lt
  have hvl9 := hw.lt
  refine wr_s [.sq RO oo, .eq (.agg ([.int .i64 oo.k, .int .i64 oo.n, oo.vc, oo.vl] : List Value).toArray), .nw w26.heap.size 39 [.int .i64 0, .int .i64 0, .slice none 0 0, .slice none 0 0]] (by rw [sd.1]; kernel_rfl) ⟨fun hwt ac u K => ?_, fun hwt ac u K => ?_, fun hwt ac u K => ?_, trivial⟩ ?_
  · exact st_idxso (.tmp 50) (.tmp 52) rfl (fk_val (K.t x50 rfl) (Fk.mono _ _ _ _ hv (bgo bl K.grow))) k oo (K.t x52 rfl) hook
  · exact st_loadso (.tmp 54) rfl (K.dep 0 54 rfl)
  · exact st_alloc 39 rfl _ _ (by kernel_rfl) K.grow.size
  intro f27 w27 A hb
  have S_hd := hd
  have S_hw := hw
  have S_hN := hN
  have S_hM := hM
  have hbS0 := Below.refl w26.heap.size w26
  have hbS := hb
  replace bl0 := bl
  replace x3 := A.t x3 rfl
  replace x4 := A.t x4 rfl
  replace x6 := A.t x6 rfl
  replace x7 := A.t x7 rfl
  replace x9 := A.t x9 rfl
  replace x50 := A.t x50 rfl
  replace x51 := A.t x51 rfl
  replace x52 := A.t x52 rfl
  replace x53 := A.t x53 rfl
  have x11 : Fk.f (.nw w26.heap.size 39 [.int .i64 0, .int .i64 0, .slice none 0 0, .slice none 0 0]) (f27.eval (.tmp 11)) w27 := A.has 2 11 rfl
  have x55 := A.e 1 55 rfl rfl
  replace hd := HD.below hd hb
  replace hw := HW.below hw hb
  replace hN := MBs.below hN hb
  replace hM := MBs.below hM hb
  replace bl := bgo bl hb
  replace sd := A.sd sd
  clear A hb
  clear x53
  obtain ⟨g11, hg11, e11, m11⟩ := x11
  have x11 := e11
  clear e11
  have hw11 : w.heap.size ≤ g11 := Nat.le_trans bl0.size hg11
  have hs11 := Nat.le_trans hbS0.size hg11
  refine wl_str rfl 39 (.tmp 11) (.tmp 55) rfl rfl (g11) ([.int .i64 oo.k, .int .i64 oo.n, oo.vc, oo.vl] : List Value).toArray x11 x55 39 _ m11 (by kernel_rfl) (by kernel_rfl) (by kernel_rfl) ?_
  replace m11 : Ob (w27.setRow g11 ([.int .i64 oo.k, .int .i64 oo.n, oo.vc, oo.vl] : List Value).toArray) (g11) 39 ([.int .i64 oo.k, .int .i64 oo.n, oo.vc, oo.vl]) := Ob.setRow m11 ([.int .i64 oo.k, .int .i64 oo.n, oo.vc, oo.vl])
  replace hbS : Below _ _ (w27.setRow g11 ([.int .i64 oo.k, .int .i64 oo.n, oo.vc, oo.vl] : List Value).toArray) := hbS.trans (below_setRow _ _ _ _ hs11)
  replace hd := HD.below S_hd hbS
  replace hw := HW.below S_hw hbS
  replace hN := MBs.below S_hN hbS
  replace hM := MBs.below S_hM hbS
  replace bl : Below w.heap.size w (w27.setRow g11 ([.int .i64 oo.k, .int .i64 oo.n, oo.vc, oo.vl] : List Value).toArray) := bl.trans (below_setRow _ _ _ _ hw11)
  generalize w27.setRow g11 ([.int .i64 oo.k, .int .i64 oo.n, oo.vc, oo.vl] : List Value).toArray = w28b at bl m11 hd hw hN hM hbS ⊢
  refine wpList_nil ?_
  clear hbS hbS0 S_hd S_hw S_hN S_hM
  clear x55
  have h11D : ¬ DD g11 := fun q => by have := hdl9 _ q; omega
  have h11V : ¬ VV g11 := fun q => by have := hvl9 _ q; omega
  clear hdl9 hvl9
  show Code.wp _ _ _ _ _
  refine wp_seq ?_
  have hkind : oo.k = 1 ∨ oo.k = 2 ∨ oo.k = 3 ∨ (oo.k ≠ 1 ∧ oo.k ≠ 2 ∧ oo.k ≠ 3) := by omega
  rcases hkind with hkind | hkind | hkind | hkind
  · skip
    refine wr_a [.eq (.pointer (some ⟨g11, 0, none⟩)), .eq (.int .i64 oo.k)] (by rw [sd.1]; kernel_rfl) ⟨fun hwt ac u K => ?_, fun hwt ac u K => ?_, trivial⟩ ?_
    · exact st_field 39 0 (.tmp 11) rfl (K.t x11 rfl) (by kernel_rfl)
    · exact st_loadc 3 (.tmp 56) rfl (by kernel_rfl) (K.dep 0 56 rfl) (Ob.cell (Ob.below m11 K.grow) 0 rfl)
    intro f29 w29 A hb
    replace x3 := A.t x3 rfl
    replace x4 := A.t x4 rfl
    replace x6 := A.t x6 rfl
    replace x7 := A.t x7 rfl
    replace x9 := A.t x9 rfl
    replace x50 := A.t x50 rfl
    replace x51 := A.t x51 rfl
    replace x52 := A.t x52 rfl
    replace x11 := A.t x11 rfl
    have x57 := A.e 1 57 rfl rfl
    replace m11 := Ob.below m11 hb
    replace hd := HD.below hd hb
    replace hw := HW.below hw hb
    replace hN := MBs.below hN hb
    replace hM := MBs.below hM hb
    replace bl := bgo bl hb
    replace sd := A.sd sd
    clear A hb
    show Code.wp _ _ _ _ _
    refine wp_block ?_
    refine wp_seq ?_
    refine wr_a [.eq (.bool true), .eq (.bool true)] (by rw [sd.1]; kernel_rfl) ⟨fun hwt ac u K => ?_, fun hwt ac u K => ?_, trivial⟩ ?_
    · exact st_eqi 3 (.tmp 57) (.const (.int .i64 1)) rfl .i64 (oo.k) (1) (K.t x57 rfl) rfl _ (by rw [eq_comm, decide_eq_true_iff]; exact hkind)
    · exact st_assign (.tmp 59) rfl (K.dep 0 59 rfl)
    intro f30 w30 A hb
    replace x3 := A.t x3 rfl
    replace x4 := A.t x4 rfl
    replace x6 := A.t x6 rfl
    replace x7 := A.t x7 rfl
    replace x9 := A.t x9 rfl
    replace x50 := A.t x50 rfl
    replace x51 := A.t x51 rfl
    replace x52 := A.t x52 rfl
    replace x11 := A.t x11 rfl
    replace x57 := A.t x57 rfl
    have x58 := A.e 1 58 rfl rfl
    replace m11 := Ob.below m11 hb
    replace hd := HD.below hd hb
    replace hw := HW.below hw hb
    replace hN := MBs.below hN hb
    replace hM := MBs.below hM hb
    replace bl := bgo bl hb
    replace sd := A.sd sd
    clear A hb
    show Code.wp _ _ _ _ _
    refine wp_cond_true x58 ?_
    refine wp_seq ?_
    obtain ⟨r, hwr⟩ := wrong_ex oo.cs n z
    refine wr_d [.eq (.pointer (some ⟨gw, 0, none⟩)), .eq (.bool dn), .eq (.pointer (some ⟨g11, 2, none⟩)), .eq (oo.vc), .eq (.int .i64 r), .eq (.bool dn), .eq (.int .i64 r)] Try.mixed (by rw [sd.1]; kernel_rfl) ⟨fun hwt ac u K => ?_, fun hwt ac u K => ?_, fun hwt ac u K => ?_, fun hwt ac u K => ?_, fun hwt ac u K => ?_, fun hwt ac u K => ?_, fun hwt ac u K => ?_, trivial⟩ ?_
    · exact st_move (.tmp 4) rfl (K.t x4 rfl)
    · exact st_call 21 (.func 21) _ _ _ rfl rfl (one_arg (K.dep 0 60 rfl)) Try.enter21 (fk_wdownB (HW.below hw K.grow))
    · exact st_field 39 2 (.tmp 11) rfl (K.t x11 rfl) (by kernel_rfl)
    · exact st_loadc 36 (.tmp 62) rfl (by kernel_rfl) (K.dep 2 62 rfl) (Ob.cell (Ob.below m11 K.grow) 2 rfl)
    · exact st_call 15 (.func 15) _ _ _ rfl rfl (arg3 (K.dep 3 63 rfl) rfl rfl) Try.enter15 (by have h9 := wrong_at hlco (by omega) hnM hwr (Fk.mono _ _ _ _ hcoo (bgo bl K.grow)); rw [hn9, hz9] at h9; exact h9)
    · exact st_assign (.tmp 61) rfl (K.dep 1 61 rfl)
    · exact st_assign (.tmp 64) rfl (K.dep 4 64 rfl)
    intro f31 w31 A hb
    replace x3 := A.t x3 rfl
    replace x4 := A.t x4 rfl
    replace x6 := A.t x6 rfl
    replace x7 := A.t x7 rfl
    replace x9 := A.t x9 rfl
    replace x50 := A.t x50 rfl
    replace x51 := A.t x51 rfl
    replace x52 := A.t x52 rfl
    replace x11 := A.t x11 rfl
    replace x57 := A.t x57 rfl
    replace x58 := A.t x58 rfl
    have x12 := A.e 5 12 rfl rfl
    have x13 := A.e 6 13 rfl rfl
    replace m11 := Ob.below m11 hb
    replace hd := HD.below hd hb
    replace hw := HW.below hw hb
    replace hN := MBs.below hN hb
    replace hM := MBs.below hM hb
    replace bl := bgo bl hb
    replace sd := A.sd sd
    clear A hb
    clear x57
    clear x58
    show Code.wp _ _ _ _ _
    refine wp_seq ?_
    refine wr_s [.eq (.pointer (some ⟨gw, 0, none⟩)), .eq (.pointer (some ⟨g11, 2, none⟩)), .eq (oo.vc)] (by rw [sd.1]; kernel_rfl) ⟨fun hwt ac u K => ?_, fun hwt ac u K => ?_, fun hwt ac u K => ?_, trivial⟩ ?_
    · exact st_move (.tmp 4) rfl (K.t x4 rfl)
    · exact st_field 39 2 (.tmp 11) rfl (K.t x11 rfl) (by kernel_rfl)
    · exact st_loadc 36 (.tmp 66) rfl (by kernel_rfl) (K.dep 1 66 rfl) (Ob.cell (Ob.below m11 K.grow) 2 rfl)
    intro f32 w32 A hb
    replace x3 := A.t x3 rfl
    replace x4 := A.t x4 rfl
    replace x6 := A.t x6 rfl
    replace x7 := A.t x7 rfl
    replace x9 := A.t x9 rfl
    replace x50 := A.t x50 rfl
    replace x51 := A.t x51 rfl
    replace x52 := A.t x52 rfl
    replace x11 := A.t x11 rfl
    replace x12 := A.t x12 rfl
    replace x13 := A.t x13 rfl
    have x65 := A.e 0 65 rfl rfl
    have x67 := A.e 2 67 rfl rfl
    replace m11 := Ob.below m11 hb
    replace hd := HD.below hd hb
    replace hw := HW.below hw hb
    replace hN := MBs.below hN hb
    replace hM := MBs.below hM hb
    replace bl := bgo bl hb
    replace sd := A.sd sd
    clear A hb
    have hvF9 : ∀ {W : World}, Fr (fun j => M j ∨ VV j) w32 W → (Fk.sr RC (oo.cs)).f (oo.vc) W := fun {W} hF => Fk.mono _ _ _ _ hcoo (bl.trans (hF.below bl.size (fun j q => q.elim (fun q => hDD j (hd.sub j q)) (hVw j))))
    refine wl_call 16 (.func 16) _ _ #[.pointer (some ⟨gw, 0, none⟩), oo.vc] rfl 68 rfl (by rw [sd.1]; decide) rfl rfl (two_arg x65 x67) Try.enter16 (fun u W' => ∃ (D2 : Nat → Prop) (r : Int) (s' : Dst) (dn' : Bool), u = .int .i64 r ∧ ComIs n z s dn (oo.cs) r s' dn' ∧ HD W' gd M D2 s' ∧ Gd s' n z (1000 * (k + 1) + 20 * ((oo.cs).length + 1)) ∧ HW W' gw gd VV n z dn' ∧ (∀ j, D2 j → DD j ∨ w32.heap.size ≤ j) ∧ Fr (fun j => M j ∨ VV j) w32 W') ((fk_wcommit hw hd gs hVD h32 (by omega) (by omega) hvF9).mono (by rintro e w' ⟨D', r, s', dn', rfl, q⟩; exact ⟨_, rfl, D', r, s', dn', rfl, q⟩)) ?_
    rintro f33 w33 df2 sz2 old2 ⟨D2, r9, s9, dn9, x68, hC, hd2, gs2, hw2, hD2, O⟩
    clear hvF9
    have hVlt9 := hw.lt
    replace hVD : ∀ j, VV j → ¬ D2 j := fun j q m => (hD2 j m).elim (hVD j q) (fun m => by have := hVlt9 j q; omega)
    clear hVlt9
    replace hN := MBs.eff hN O (fun j q => q.elim (fun q => .inl (hd.sub _ q)) .inr) hD2 (fun j q => .inl q)
    replace hM := MBs.eff hM O (fun j q => q.elim (fun q => .inl (hd.sub _ q)) .inr) hD2 (fun j q => .inl q)
    have lt9 := Ob.lt m11
    replace m11 := Ob.keep m11 (O.block _ lt9 (fun q => q.elim (fun q => h11D (hd.sub _ q)) h11V))
    replace h11D : ¬ D2 g11 := fun q => (hD2 _ q).elim h11D (fun q => by omega)
    clear lt9
    have bl9 := bl.trans (O.below bl.size (fun j q => q.elim (fun q => hDD j (hd.sub j q)) (hVw j)))
    replace hDD : ∀ j, D2 j → w.heap.size ≤ j := fun j q => (hD2 j q).elim (hDD j) (fun q => by have := bl.size; omega)
    replace bl := bl9
    replace bl0 := bl
    clear bl9
    replace hd := hd2
    replace hw := hw2
    replace gs := gs2
    clear hw2 gs2
    clear hd2 hD2 O
    clear DD
    obtain ⟨DD, rfl⟩ : ∃ E, E = D2 := ⟨_, rfl⟩
    replace x3 := tr old2 x3 rfl
    replace x4 := tr old2 x4 rfl
    replace x6 := tr old2 x6 rfl
    replace x7 := tr old2 x7 rfl
    replace x9 := tr old2 x9 rfl
    replace x50 := tr old2 x50 rfl
    replace x51 := tr old2 x51 rfl
    replace x52 := tr old2 x52 rfl
    replace x11 := tr old2 x11 rfl
    replace x12 := tr old2 x12 rfl
    replace x13 := tr old2 x13 rfl
    replace x65 := tr old2 x65 rfl
    replace x67 := tr old2 x67 rfl
    replace sd := sd2 sz2 df2 sd
    clear df2 sz2 old2
    clear x65
    clear x67
    refine wl_one (.eq (.int .i64 r9)) rfl 14 rfl (by rw [sd.1]; decide) (st_assign (.tmp 68) rfl x68) ?_
    intro f34 w34 df2 sz2 old2 new2 hb
    replace x3 := tr old2 x3 rfl
    replace x4 := tr old2 x4 rfl
    replace x6 := tr old2 x6 rfl
    replace x7 := tr old2 x7 rfl
    replace x9 := tr old2 x9 rfl
    replace x50 := tr old2 x50 rfl
    replace x51 := tr old2 x51 rfl
    replace x52 := tr old2 x52 rfl
    replace x11 := tr old2 x11 rfl
    replace x12 := tr old2 x12 rfl
    replace x13 := tr old2 x13 rfl
    replace x68 := tr old2 x68 rfl
    have x14 := Fk.e new2
    replace m11 := Ob.below m11 hb
    replace hd := HD.below hd hb
    replace hw := HW.below hw hb
    replace hN := MBs.below hN hb
    replace hM := MBs.below hM hb
    replace bl := bgo bl hb
    replace sd := sd2 sz2 df2 sd
    clear df2 sz2 old2 new2 hb
    refine wpList_nil ?_
    clear x68
    show Code.wp _ _ _ _ _
    refine wp_block ?_
    refine wp_seq ?_
    have gs3 : Gd s9 n z (1000 * (k + 1 + 1)) := gs.le (by omega)
    have hor : (oo.cs = [] ∧ r9 = 0 ∧ s9 = s ∧ dn9 = dn) ∨ (oo.cs ≠ [] ∧ dn = true ∧ r9 = 30 ∧ s9 = s ∧ dn9 = true) ∨ (oo.cs ≠ [] ∧ dn = false ∧ r9 ≠ 0 ∧ r = r9 ∧ s9 = s ∧ dn9 = false) ∨ (oo.cs ≠ [] ∧ dn = false ∧ r = 0 ∧ r9 = 0 ∧ dn9 = false ∧ LI n z s9 false (chg now (prc oo.cs)) none) ∨ (oo.cs ≠ [] ∧ dn = false ∧ r = 0 ∧ r9 = 30 ∧ dn9 = true ∧ LI n z s9 true now (some (chg now (prc oo.cs)))) := by
      rcases hC with q | q | ⟨q1, q2, q3, q4, q5, q6⟩ | ⟨q1, q2, q3, q4, q5⟩
      · exact .inl q
      · exact .inr (.inl q)
      · exact .inr (.inr (.inl ⟨q1, q2, q3, wrong_det hwr q4, q5, q6⟩))
      · subst q2
        rcases LI.com h3 h32 hnM hLI q3 with ⟨e1, e2⟩ | ⟨e1, e2⟩ <;> rw [← q4] at e1 e2
        · exact .inr (.inr (.inr (.inl ⟨q1, rfl, wrong_det hwr q3, e1, by rw [q5]; exact decide_eq_false (by rw [show r9 = 0 from e1]; decide), e2⟩)))
        · exact .inr (.inr (.inr (.inr ⟨q1, rfl, wrong_det hwr q3, e1, by rw [q5]; exact decide_eq_true e1, e2⟩)))
    clear hC
    have hcl : oo.cs ≠ [] → oo.cs.length ≠ 0 := fun q e => q (List.eq_nil_of_length_eq_zero e)
    rcases hor with ⟨hc, e1, e2, e3⟩ | ⟨hc, e1, e2, e3, e4⟩ | ⟨hc, e1, e2, e3, e4, e5⟩ | ⟨hc, e1, e2, e3, e4, e5⟩ | ⟨hc, e1, e2, e3, e4, e5⟩
    · skip
      subst e1 e2 e3
      refine wr_a [.eq (.pointer (some ⟨g11, 2, none⟩)), .eq (oo.vc), .eq (.int .i64 (((oo.cs).length : Nat) : Int)), .eq (.bool true), .eq (.bool true)] (by rw [sd.1]; kernel_rfl) ⟨fun hwt ac u K => ?_, fun hwt ac u K => ?_, fun hwt ac u K => ?_, fun hwt ac u K => ?_, fun hwt ac u K => ?_, trivial⟩ ?_
      · exact st_field 39 2 (.tmp 11) rfl (K.t x11 rfl) (by kernel_rfl)
      · exact st_loadc 36 (.tmp 70) rfl (by kernel_rfl) (K.dep 0 70 rfl) (Ob.cell (Ob.below m11 K.grow) 2 rfl)
      · exact st_lensc (.tmp 71) rfl (fk_val (K.dep 1 71 rfl) (Fk.mono _ _ _ _ hcoo (bgo bl K.grow)))
      · exact st_eqi 3 (.tmp 72) (.const (.int .i64 0)) rfl .i64 ((((oo.cs).length : Nat) : Int)) (0) (K.dep 2 72 rfl) rfl _ (by rw [eq_comm, decide_eq_true_iff]; rw [hc]; rfl)
      · exact st_assign (.tmp 73) rfl (K.dep 3 73 rfl)
      intro f35 w35 A hb
      replace x3 := A.t x3 rfl
      replace x4 := A.t x4 rfl
      replace x6 := A.t x6 rfl
      replace x7 := A.t x7 rfl
      replace x9 := A.t x9 rfl
      replace x50 := A.t x50 rfl
      replace x51 := A.t x51 rfl
      replace x52 := A.t x52 rfl
      replace x11 := A.t x11 rfl
      replace x12 := A.t x12 rfl
      replace x13 := A.t x13 rfl
      replace x14 := A.t x14 rfl
      have x69 := A.e 4 69 rfl rfl
      replace m11 := Ob.below m11 hb
      replace hd := HD.below hd hb
      replace hw := HW.below hw hb
      replace hN := MBs.below hN hb
      replace hM := MBs.below hM hb
      replace bl := bgo bl hb
      replace sd := A.sd sd
      clear A hb
      show Code.wp _ _ _ _ _
      refine wp_cond_true x69 ?_
      refine wp_seq ?_
      refine wr_a [.eq (.int .i64 0), .eq (.bool false)] (by rw [sd.1]; kernel_rfl) ⟨fun hwt ac u K => ?_, fun hwt ac u K => ?_, trivial⟩ ?_
      · exact st_move (.tmp 14) rfl (K.t x14 rfl)
      · exact st_neqi 28 (.tmp 74) (.const (.int .i64 0)) rfl .i64 (0) (0) (K.dep 0 74 rfl) rfl _ (by simp)
      intro f36 w36 A hb
      replace x3 := A.t x3 rfl
      replace x4 := A.t x4 rfl
      replace x6 := A.t x6 rfl
      replace x7 := A.t x7 rfl
      replace x9 := A.t x9 rfl
      replace x50 := A.t x50 rfl
      replace x51 := A.t x51 rfl
      replace x52 := A.t x52 rfl
      replace x11 := A.t x11 rfl
      replace x12 := A.t x12 rfl
      replace x13 := A.t x13 rfl
      replace x14 := A.t x14 rfl
      replace x69 := A.t x69 rfl
      have x75 := A.e 1 75 rfl rfl
      replace m11 := Ob.below m11 hb
      replace hd := HD.below hd hb
      replace hw := HW.below hw hb
      replace hN := MBs.below hN hb
      replace hM := MBs.below hM hb
      replace bl := bgo bl hb
      replace sd := A.sd sd
      clear A hb
      clear x11
      clear x12
      clear x13
      clear x14
      clear x69
      show Code.wp _ _ _ _ _
      refine wp_cond_false x75 ?_
      refine wp_skip ?_
      show Code.wp _ _ _ _ _
      clear m11 h11D h11V
      refine wr_s [.eq (.int .i64 ((k + 1 : Nat) : Int))] (by rw [sd.1]; kernel_rfl) ⟨fun hwt ac u K => ?_, trivial⟩ ?_
      · exact st_addz (.tmp 52) (.const (.int .i64 1)) rfl _ _ _ (K.t x52 rfl) rfl (by omega) (by omega) (by omega)
      intro f37 w37 A hb
      replace x3 := A.t x3 rfl
      replace x4 := A.t x4 rfl
      replace x6 := A.t x6 rfl
      replace x7 := A.t x7 rfl
      replace x9 := A.t x9 rfl
      replace x50 := A.t x50 rfl
      replace x51 := A.t x51 rfl
      replace x52 := A.t x52 rfl
      replace x75 := A.t x75 rfl
      have x148 := A.e 0 148 rfl rfl
      replace hd := HD.below hd hb
      replace hw := HW.below hw hb
      replace hN := MBs.below hN hb
      replace hM := MBs.below hM hb
      replace bl := bgo bl hb
      replace sd := A.sd sd
      clear A hb
      clear x75
      refine wl_one (.eq (.int .i64 ((k + 1 : Nat) : Int))) rfl 52 rfl (by rw [sd.1]; decide) (st_move (.tmp 148) rfl x148) ?_
      intro f38 w38 df2 sz2 old2 new2 hb
      replace x3 := tr old2 x3 rfl
      replace x4 := tr old2 x4 rfl
      replace x6 := tr old2 x6 rfl
      replace x7 := tr old2 x7 rfl
      replace x9 := tr old2 x9 rfl
      replace x50 := tr old2 x50 rfl
      replace x51 := tr old2 x51 rfl
      clear x52
      replace x148 := tr old2 x148 rfl
      have x52 := Fk.e new2
      replace hd := HD.below hd hb
      replace hw := HW.below hw hb
      replace hN := MBs.below hN hb
      replace hM := MBs.below hM hb
      replace bl := bgo bl hb
      replace sd := sd2 sz2 df2 sd
      clear df2 sz2 old2 new2 hb
      refine wpList_nil ?_
      clear x148
      show (∃ _, _) ∧ _
      refine ⟨⟨k + 1, s9, DD, gw, VV, dn9, now, mb, vN, vM, by omega, gs3, hLI, hDD, hVD, hVw, sd.1, sd.2, x3, x6, x50, x51, x52, x4, x7, x9, hd, hw, hN, hM, bl⟩, ?_⟩
      rw [show f38.eval (.tmp 52) = _ from x52, show _ = _ from hcnt]
      first | (simp [intOf]; done) | (simp [intOf]; omega)
    · skip
      subst e1 e2 e3 e4
      refine wr_a [.eq (.pointer (some ⟨g11, 2, none⟩)), .eq (oo.vc), .eq (.int .i64 (((oo.cs).length : Nat) : Int)), .eq (.bool false), .eq (.bool false)] (by rw [sd.1]; kernel_rfl) ⟨fun hwt ac u K => ?_, fun hwt ac u K => ?_, fun hwt ac u K => ?_, fun hwt ac u K => ?_, fun hwt ac u K => ?_, trivial⟩ ?_
      · exact st_field 39 2 (.tmp 11) rfl (K.t x11 rfl) (by kernel_rfl)
      · exact st_loadc 36 (.tmp 70) rfl (by kernel_rfl) (K.dep 0 70 rfl) (Ob.cell (Ob.below m11 K.grow) 2 rfl)
      · exact st_lensc (.tmp 71) rfl (fk_val (K.dep 1 71 rfl) (Fk.mono _ _ _ _ hcoo (bgo bl K.grow)))
      · exact st_eqi 3 (.tmp 72) (.const (.int .i64 0)) rfl .i64 ((((oo.cs).length : Nat) : Int)) (0) (K.dep 2 72 rfl) rfl _ (by rw [eq_comm, decide_eq_false_iff_not]; have := hcl hc; omega)
      · exact st_assign (.tmp 73) rfl (K.dep 3 73 rfl)
      intro f35 w35 A hb
      replace x3 := A.t x3 rfl
      replace x4 := A.t x4 rfl
      replace x6 := A.t x6 rfl
      replace x7 := A.t x7 rfl
      replace x9 := A.t x9 rfl
      replace x50 := A.t x50 rfl
      replace x51 := A.t x51 rfl
      replace x52 := A.t x52 rfl
      replace x11 := A.t x11 rfl
      replace x12 := A.t x12 rfl
      replace x13 := A.t x13 rfl
      replace x14 := A.t x14 rfl
      have x69 := A.e 4 69 rfl rfl
      replace m11 := Ob.below m11 hb
      replace hd := HD.below hd hb
      replace hw := HW.below hw hb
      replace hN := MBs.below hN hb
      replace hM := MBs.below hM hb
      replace bl := bgo bl hb
      replace sd := A.sd sd
      clear A hb
      show Code.wp _ _ _ _ _
      refine wp_cond_false x69 ?_
      refine wp_seq ?_
      refine wr_a [.eq (.bool true), .eq (.bool true)] (by rw [sd.1]; kernel_rfl) ⟨fun hwt ac u K => ?_, fun hwt ac u K => ?_, trivial⟩ ?_
      · exact st_move (.tmp 12) rfl (K.t x12 rfl)
      · exact st_assign (.tmp 77) rfl (K.dep 0 77 rfl)
      intro f36 w36 A hb
      replace x3 := A.t x3 rfl
      replace x4 := A.t x4 rfl
      replace x6 := A.t x6 rfl
      replace x7 := A.t x7 rfl
      replace x9 := A.t x9 rfl
      replace x50 := A.t x50 rfl
      replace x51 := A.t x51 rfl
      replace x52 := A.t x52 rfl
      replace x11 := A.t x11 rfl
      replace x12 := A.t x12 rfl
      replace x13 := A.t x13 rfl
      replace x14 := A.t x14 rfl
      replace x69 := A.t x69 rfl
      have x76 := A.e 1 76 rfl rfl
      replace m11 := Ob.below m11 hb
      replace hd := HD.below hd hb
      replace hw := HW.below hw hb
      replace hN := MBs.below hN hb
      replace hM := MBs.below hM hb
      replace bl := bgo bl hb
      replace sd := A.sd sd
      clear A hb
      clear x12
      clear x69
      show Code.wp _ _ _ _ _
      refine wp_cond_true x76 ?_
      refine wp_seq ?_
      refine wr_a [.eq (.int .i64 30), .eq (.bool false)] (by rw [sd.1]; kernel_rfl) ⟨fun hwt ac u K => ?_, fun hwt ac u K => ?_, trivial⟩ ?_
      · exact st_move (.tmp 14) rfl (K.t x14 rfl)
      · exact st_neqi 28 (.tmp 78) (.const (.int .i64 30)) rfl .i64 (30) (30) (K.dep 0 78 rfl) rfl _ (by simp)
      intro f37 w37 A hb
      replace x3 := A.t x3 rfl
      replace x4 := A.t x4 rfl
      replace x6 := A.t x6 rfl
      replace x7 := A.t x7 rfl
      replace x9 := A.t x9 rfl
      replace x50 := A.t x50 rfl
      replace x51 := A.t x51 rfl
      replace x52 := A.t x52 rfl
      replace x11 := A.t x11 rfl
      replace x13 := A.t x13 rfl
      replace x14 := A.t x14 rfl
      replace x76 := A.t x76 rfl
      have x79 := A.e 1 79 rfl rfl
      replace m11 := Ob.below m11 hb
      replace hd := HD.below hd hb
      replace hw := HW.below hw hb
      replace hN := MBs.below hN hb
      replace hM := MBs.below hM hb
      replace bl := bgo bl hb
      replace sd := A.sd sd
      clear A hb
      clear x11
      clear x13
      clear x14
      clear x76
      show Code.wp _ _ _ _ _
      refine wp_cond_false x79 ?_
      refine wp_skip ?_
      show Code.wp _ _ _ _ _
      clear m11 h11D h11V
      refine wr_s [.eq (.int .i64 ((k + 1 : Nat) : Int))] (by rw [sd.1]; kernel_rfl) ⟨fun hwt ac u K => ?_, trivial⟩ ?_
      · exact st_addz (.tmp 52) (.const (.int .i64 1)) rfl _ _ _ (K.t x52 rfl) rfl (by omega) (by omega) (by omega)
      intro f38 w38 A hb
      replace x3 := A.t x3 rfl
      replace x4 := A.t x4 rfl
      replace x6 := A.t x6 rfl
      replace x7 := A.t x7 rfl
      replace x9 := A.t x9 rfl
      replace x50 := A.t x50 rfl
      replace x51 := A.t x51 rfl
      replace x52 := A.t x52 rfl
      replace x79 := A.t x79 rfl
      have x148 := A.e 0 148 rfl rfl
      replace hd := HD.below hd hb
      replace hw := HW.below hw hb
      replace hN := MBs.below hN hb
      replace hM := MBs.below hM hb
      replace bl := bgo bl hb
      replace sd := A.sd sd
      clear A hb
      clear x79
      refine wl_one (.eq (.int .i64 ((k + 1 : Nat) : Int))) rfl 52 rfl (by rw [sd.1]; decide) (st_move (.tmp 148) rfl x148) ?_
      intro f39 w39 df2 sz2 old2 new2 hb
      replace x3 := tr old2 x3 rfl
      replace x4 := tr old2 x4 rfl
      replace x6 := tr old2 x6 rfl
      replace x7 := tr old2 x7 rfl
      replace x9 := tr old2 x9 rfl
      replace x50 := tr old2 x50 rfl
      replace x51 := tr old2 x51 rfl
      clear x52
      replace x148 := tr old2 x148 rfl
      have x52 := Fk.e new2
      replace hd := HD.below hd hb
      replace hw := HW.below hw hb
      replace hN := MBs.below hN hb
      replace hM := MBs.below hM hb
      replace bl := bgo bl hb
      replace sd := sd2 sz2 df2 sd
      clear df2 sz2 old2 new2 hb
      refine wpList_nil ?_
      clear x148
      show (∃ _, _) ∧ _
      refine ⟨⟨k + 1, s9, DD, gw, VV, true, now, mb, vN, vM, by omega, gs3, hLI, hDD, hVD, hVw, sd.1, sd.2, x3, x6, x50, x51, x52, x4, x7, x9, hd, hw, hN, hM, bl⟩, ?_⟩
      rw [show f39.eval (.tmp 52) = _ from x52, show _ = _ from hcnt]
      first | (simp [intOf]; done) | (simp [intOf]; omega)
    · skip
      subst e1 e3 e4 e5
      refine wr_a [.eq (.pointer (some ⟨g11, 2, none⟩)), .eq (oo.vc), .eq (.int .i64 (((oo.cs).length : Nat) : Int)), .eq (.bool false), .eq (.bool false)] (by rw [sd.1]; kernel_rfl) ⟨fun hwt ac u K => ?_, fun hwt ac u K => ?_, fun hwt ac u K => ?_, fun hwt ac u K => ?_, fun hwt ac u K => ?_, trivial⟩ ?_
      · exact st_field 39 2 (.tmp 11) rfl (K.t x11 rfl) (by kernel_rfl)
      · exact st_loadc 36 (.tmp 70) rfl (by kernel_rfl) (K.dep 0 70 rfl) (Ob.cell (Ob.below m11 K.grow) 2 rfl)
      · exact st_lensc (.tmp 71) rfl (fk_val (K.dep 1 71 rfl) (Fk.mono _ _ _ _ hcoo (bgo bl K.grow)))
      · exact st_eqi 3 (.tmp 72) (.const (.int .i64 0)) rfl .i64 ((((oo.cs).length : Nat) : Int)) (0) (K.dep 2 72 rfl) rfl _ (by rw [eq_comm, decide_eq_false_iff_not]; have := hcl hc; omega)
      · exact st_assign (.tmp 73) rfl (K.dep 3 73 rfl)
      intro f35 w35 A hb
      replace x3 := A.t x3 rfl
      replace x4 := A.t x4 rfl
      replace x6 := A.t x6 rfl
      replace x7 := A.t x7 rfl
      replace x9 := A.t x9 rfl
      replace x50 := A.t x50 rfl
      replace x51 := A.t x51 rfl
      replace x52 := A.t x52 rfl
      replace x11 := A.t x11 rfl
      replace x12 := A.t x12 rfl
      replace x13 := A.t x13 rfl
      replace x14 := A.t x14 rfl
      have x69 := A.e 4 69 rfl rfl
      replace m11 := Ob.below m11 hb
      replace hd := HD.below hd hb
      replace hw := HW.below hw hb
      replace hN := MBs.below hN hb
      replace hM := MBs.below hM hb
      replace bl := bgo bl hb
      replace sd := A.sd sd
      clear A hb
      show Code.wp _ _ _ _ _
      refine wp_cond_false x69 ?_
      refine wp_seq ?_
      refine wr_a [.eq (.bool false), .eq (.bool false)] (by rw [sd.1]; kernel_rfl) ⟨fun hwt ac u K => ?_, fun hwt ac u K => ?_, trivial⟩ ?_
      · exact st_move (.tmp 12) rfl (K.t x12 rfl)
      · exact st_assign (.tmp 77) rfl (K.dep 0 77 rfl)
      intro f36 w36 A hb
      replace x3 := A.t x3 rfl
      replace x4 := A.t x4 rfl
      replace x6 := A.t x6 rfl
      replace x7 := A.t x7 rfl
      replace x9 := A.t x9 rfl
      replace x50 := A.t x50 rfl
      replace x51 := A.t x51 rfl
      replace x52 := A.t x52 rfl
      replace x11 := A.t x11 rfl
      replace x12 := A.t x12 rfl
      replace x13 := A.t x13 rfl
      replace x14 := A.t x14 rfl
      replace x69 := A.t x69 rfl
      have x76 := A.e 1 76 rfl rfl
      replace m11 := Ob.below m11 hb
      replace hd := HD.below hd hb
      replace hw := HW.below hw hb
      replace hN := MBs.below hN hb
      replace hM := MBs.below hM hb
      replace bl := bgo bl hb
      replace sd := A.sd sd
      clear A hb
      clear x12
      clear x69
      show Code.wp _ _ _ _ _
      refine wp_cond_false x76 ?_
      refine wp_seq ?_
      refine wr_a [.eq (.int .i64 r), .eq (.bool true), .eq (.bool true)] (by rw [sd.1]; kernel_rfl) ⟨fun hwt ac u K => ?_, fun hwt ac u K => ?_, fun hwt ac u K => ?_, trivial⟩ ?_
      · exact st_move (.tmp 13) rfl (K.t x13 rfl)
      · exact st_neqi 28 (.tmp 81) (.const (.int .i64 0)) rfl .i64 (r) (0) (K.dep 0 81 rfl) rfl _ (by rw [eq_comm, decide_eq_true_iff]; exact e2)
      · exact st_assign (.tmp 82) rfl (K.dep 1 82 rfl)
      intro f37 w37 A hb
      replace x3 := A.t x3 rfl
      replace x4 := A.t x4 rfl
      replace x6 := A.t x6 rfl
      replace x7 := A.t x7 rfl
      replace x9 := A.t x9 rfl
      replace x50 := A.t x50 rfl
      replace x51 := A.t x51 rfl
      replace x52 := A.t x52 rfl
      replace x11 := A.t x11 rfl
      replace x13 := A.t x13 rfl
      replace x14 := A.t x14 rfl
      replace x76 := A.t x76 rfl
      have x80 := A.e 2 80 rfl rfl
      replace m11 := Ob.below m11 hb
      replace hd := HD.below hd hb
      replace hw := HW.below hw hb
      replace hN := MBs.below hN hb
      replace hM := MBs.below hM hb
      replace bl := bgo bl hb
      replace sd := A.sd sd
      clear A hb
      clear x76
      show Code.wp _ _ _ _ _
      refine wp_cond_true x80 ?_
      refine wp_seq ?_
      refine wr_a [.eq (.int .i64 r), .eq (.int .i64 r), .eq (.bool false)] (by rw [sd.1]; kernel_rfl) ⟨fun hwt ac u K => ?_, fun hwt ac u K => ?_, fun hwt ac u K => ?_, trivial⟩ ?_
      · exact st_move (.tmp 14) rfl (K.t x14 rfl)
      · exact st_move (.tmp 13) rfl (K.t x13 rfl)
      · exact st_neqi 28 (.tmp 83) (.tmp 84) rfl .i64 (r) (r) (K.dep 0 83 rfl) (K.dep 1 84 rfl) _ (by rw [eq_comm, decide_eq_false_iff_not]; exact fun q => q rfl)
      intro f38 w38 A hb
      replace x3 := A.t x3 rfl
      replace x4 := A.t x4 rfl
      replace x6 := A.t x6 rfl
      replace x7 := A.t x7 rfl
      replace x9 := A.t x9 rfl
      replace x50 := A.t x50 rfl
      replace x51 := A.t x51 rfl
      replace x52 := A.t x52 rfl
      replace x11 := A.t x11 rfl
      replace x13 := A.t x13 rfl
      replace x14 := A.t x14 rfl
      replace x80 := A.t x80 rfl
      have x85 := A.e 2 85 rfl rfl
      replace m11 := Ob.below m11 hb
      replace hd := HD.below hd hb
      replace hw := HW.below hw hb
      replace hN := MBs.below hN hb
      replace hM := MBs.below hM hb
      replace bl := bgo bl hb
      replace sd := A.sd sd
      clear A hb
      clear x11
      clear x13
      clear x14
      clear x80
      show Code.wp _ _ _ _ _
      refine wp_cond_false x85 ?_
      refine wp_skip ?_
      show Code.wp _ _ _ _ _
      clear m11 h11D h11V
      refine wr_s [.eq (.int .i64 ((k + 1 : Nat) : Int))] (by rw [sd.1]; kernel_rfl) ⟨fun hwt ac u K => ?_, trivial⟩ ?_
      · exact st_addz (.tmp 52) (.const (.int .i64 1)) rfl _ _ _ (K.t x52 rfl) rfl (by omega) (by omega) (by omega)
      intro f39 w39 A hb
      replace x3 := A.t x3 rfl
      replace x4 := A.t x4 rfl
      replace x6 := A.t x6 rfl
      replace x7 := A.t x7 rfl
      replace x9 := A.t x9 rfl
      replace x50 := A.t x50 rfl
      replace x51 := A.t x51 rfl
      replace x52 := A.t x52 rfl
      replace x85 := A.t x85 rfl
      have x148 := A.e 0 148 rfl rfl
      replace hd := HD.below hd hb
      replace hw := HW.below hw hb
      replace hN := MBs.below hN hb
      replace hM := MBs.below hM hb
      replace bl := bgo bl hb
      replace sd := A.sd sd
      clear A hb
      clear x85
      refine wl_one (.eq (.int .i64 ((k + 1 : Nat) : Int))) rfl 52 rfl (by rw [sd.1]; decide) (st_move (.tmp 148) rfl x148) ?_
      intro f40 w40 df2 sz2 old2 new2 hb
      replace x3 := tr old2 x3 rfl
      replace x4 := tr old2 x4 rfl
      replace x6 := tr old2 x6 rfl
      replace x7 := tr old2 x7 rfl
      replace x9 := tr old2 x9 rfl
      replace x50 := tr old2 x50 rfl
      replace x51 := tr old2 x51 rfl
      clear x52
      replace x148 := tr old2 x148 rfl
      have x52 := Fk.e new2
      replace hd := HD.below hd hb
      replace hw := HW.below hw hb
      replace hN := MBs.below hN hb
      replace hM := MBs.below hM hb
      replace bl := bgo bl hb
      replace sd := sd2 sz2 df2 sd
      clear df2 sz2 old2 new2 hb
      refine wpList_nil ?_
      clear x148
      show (∃ _, _) ∧ _
      refine ⟨⟨k + 1, s9, DD, gw, VV, false, now, mb, vN, vM, by omega, gs3, hLI, hDD, hVD, hVw, sd.1, sd.2, x3, x6, x50, x51, x52, x4, x7, x9, hd, hw, hN, hM, bl⟩, ?_⟩
      rw [show f40.eval (.tmp 52) = _ from x52, show _ = _ from hcnt]
      first | (simp [intOf]; done) | (simp [intOf]; omega)
    · skip
      have hokc : ∀ c ∈ oo.cs, 0 ≤ c.p ∧ c.p < homN n := by rw [e2] at hwr; exact (wrong_ok hwr).2.2
      subst e1 e2 e3 e4
      refine wr_a [.eq (.pointer (some ⟨g11, 2, none⟩)), .eq (oo.vc), .eq (.int .i64 (((oo.cs).length : Nat) : Int)), .eq (.bool false), .eq (.bool false)] (by rw [sd.1]; kernel_rfl) ⟨fun hwt ac u K => ?_, fun hwt ac u K => ?_, fun hwt ac u K => ?_, fun hwt ac u K => ?_, fun hwt ac u K => ?_, trivial⟩ ?_
      · exact st_field 39 2 (.tmp 11) rfl (K.t x11 rfl) (by kernel_rfl)
      · exact st_loadc 36 (.tmp 70) rfl (by kernel_rfl) (K.dep 0 70 rfl) (Ob.cell (Ob.below m11 K.grow) 2 rfl)
      · exact st_lensc (.tmp 71) rfl (fk_val (K.dep 1 71 rfl) (Fk.mono _ _ _ _ hcoo (bgo bl K.grow)))
      · exact st_eqi 3 (.tmp 72) (.const (.int .i64 0)) rfl .i64 ((((oo.cs).length : Nat) : Int)) (0) (K.dep 2 72 rfl) rfl _ (by rw [eq_comm, decide_eq_false_iff_not]; have := hcl hc; omega)
      · exact st_assign (.tmp 73) rfl (K.dep 3 73 rfl)
      intro f35 w35 A hb
      replace x3 := A.t x3 rfl
      replace x4 := A.t x4 rfl
      replace x6 := A.t x6 rfl
      replace x7 := A.t x7 rfl
      replace x9 := A.t x9 rfl
      replace x50 := A.t x50 rfl
      replace x51 := A.t x51 rfl
      replace x52 := A.t x52 rfl
      replace x11 := A.t x11 rfl
      replace x12 := A.t x12 rfl
      replace x13 := A.t x13 rfl
      replace x14 := A.t x14 rfl
      have x69 := A.e 4 69 rfl rfl
      replace m11 := Ob.below m11 hb
      replace hd := HD.below hd hb
      replace hw := HW.below hw hb
      replace hN := MBs.below hN hb
      replace hM := MBs.below hM hb
      replace bl := bgo bl hb
      replace sd := A.sd sd
      clear A hb
      show Code.wp _ _ _ _ _
      refine wp_cond_false x69 ?_
      refine wp_seq ?_
      refine wr_a [.eq (.bool false), .eq (.bool false)] (by rw [sd.1]; kernel_rfl) ⟨fun hwt ac u K => ?_, fun hwt ac u K => ?_, trivial⟩ ?_
      · exact st_move (.tmp 12) rfl (K.t x12 rfl)
      · exact st_assign (.tmp 77) rfl (K.dep 0 77 rfl)
      intro f36 w36 A hb
      replace x3 := A.t x3 rfl
      replace x4 := A.t x4 rfl
      replace x6 := A.t x6 rfl
      replace x7 := A.t x7 rfl
      replace x9 := A.t x9 rfl
      replace x50 := A.t x50 rfl
      replace x51 := A.t x51 rfl
      replace x52 := A.t x52 rfl
      replace x11 := A.t x11 rfl
      replace x12 := A.t x12 rfl
      replace x13 := A.t x13 rfl
      replace x14 := A.t x14 rfl
      replace x69 := A.t x69 rfl
      have x76 := A.e 1 76 rfl rfl
      replace m11 := Ob.below m11 hb
      replace hd := HD.below hd hb
      replace hw := HW.below hw hb
      replace hN := MBs.below hN hb
      replace hM := MBs.below hM hb
      replace bl := bgo bl hb
      replace sd := A.sd sd
      clear A hb
      clear x12
      clear x69
      show Code.wp _ _ _ _ _
      refine wp_cond_false x76 ?_
      refine wp_seq ?_
      refine wr_a [.eq (.int .i64 0), .eq (.bool false), .eq (.bool false)] (by rw [sd.1]; kernel_rfl) ⟨fun hwt ac u K => ?_, fun hwt ac u K => ?_, fun hwt ac u K => ?_, trivial⟩ ?_
      · exact st_move (.tmp 13) rfl (K.t x13 rfl)
      · exact st_neqi 28 (.tmp 81) (.const (.int .i64 0)) rfl .i64 (0) (0) (K.dep 0 81 rfl) rfl _ (by simp)
      · exact st_assign (.tmp 82) rfl (K.dep 1 82 rfl)
      intro f37 w37 A hb
      replace x3 := A.t x3 rfl
      replace x4 := A.t x4 rfl
      replace x6 := A.t x6 rfl
      replace x7 := A.t x7 rfl
      replace x9 := A.t x9 rfl
      replace x50 := A.t x50 rfl
      replace x51 := A.t x51 rfl
      replace x52 := A.t x52 rfl
      replace x11 := A.t x11 rfl
      replace x13 := A.t x13 rfl
      replace x14 := A.t x14 rfl
      replace x76 := A.t x76 rfl
      have x80 := A.e 2 80 rfl rfl
      replace m11 := Ob.below m11 hb
      replace hd := HD.below hd hb
      replace hw := HW.below hw hb
      replace hN := MBs.below hN hb
      replace hM := MBs.below hM hb
      replace bl := bgo bl hb
      replace sd := A.sd sd
      clear A hb
      clear x76
      show Code.wp _ _ _ _ _
      refine wp_cond_false x80 ?_
      refine wp_seq ?_
      refine wr_a [.eq (.int .i64 0), .eq (.bool true), .eq (.bool true)] (by rw [sd.1]; kernel_rfl) ⟨fun hwt ac u K => ?_, fun hwt ac u K => ?_, fun hwt ac u K => ?_, trivial⟩ ?_
      · exact st_move (.tmp 14) rfl (K.t x14 rfl)
      · exact st_eqi 28 (.tmp 87) (.const (.int .i64 0)) rfl .i64 (0) (0) (K.dep 0 87 rfl) rfl _ (by simp)
      · exact st_assign (.tmp 88) rfl (K.dep 1 88 rfl)
      intro f38 w38 A hb
      replace x3 := A.t x3 rfl
      replace x4 := A.t x4 rfl
      replace x6 := A.t x6 rfl
      replace x7 := A.t x7 rfl
      replace x9 := A.t x9 rfl
      replace x50 := A.t x50 rfl
      replace x51 := A.t x51 rfl
      replace x52 := A.t x52 rfl
      replace x11 := A.t x11 rfl
      replace x13 := A.t x13 rfl
      replace x14 := A.t x14 rfl
      replace x80 := A.t x80 rfl
      have x86 := A.e 2 86 rfl rfl
      replace m11 := Ob.below m11 hb
      replace hd := HD.below hd hb
      replace hw := HW.below hw hb
      replace hN := MBs.below hN hb
      replace hM := MBs.below hM hb
      replace bl := bgo bl hb
      replace sd := A.sd sd
      clear A hb
      clear x13
      clear x80
      show Code.wp _ _ _ _ _
      refine wp_cond_true x86 ?_
      refine wr_s [.eq (vN), .eq (.pointer (some ⟨g11, 2, none⟩)), .eq (oo.vc)] (by rw [sd.1]; kernel_rfl) ⟨fun hwt ac u K => ?_, fun hwt ac u K => ?_, fun hwt ac u K => ?_, trivial⟩ ?_
      · exact st_move (.tmp 7) rfl (K.t x7 rfl)
      · exact st_field 39 2 (.tmp 11) rfl (K.t x11 rfl) (by kernel_rfl)
      · exact st_loadc 36 (.tmp 90) rfl (by kernel_rfl) (K.dep 1 90 rfl) (Ob.cell (Ob.below m11 K.grow) 2 rfl)
      intro f39 w39 A hb
      replace x3 := A.t x3 rfl
      replace x4 := A.t x4 rfl
      replace x6 := A.t x6 rfl
      replace x7 := A.t x7 rfl
      replace x9 := A.t x9 rfl
      replace x50 := A.t x50 rfl
      replace x51 := A.t x51 rfl
      replace x52 := A.t x52 rfl
      replace x11 := A.t x11 rfl
      replace x14 := A.t x14 rfl
      replace x86 := A.t x86 rfl
      have x89 := A.e 0 89 rfl rfl
      have x91 := A.e 2 91 rfl rfl
      replace m11 := Ob.below m11 hb
      replace hd := HD.below hd hb
      replace hw := HW.below hw hb
      replace hN := MBs.below hN hb
      replace hM := MBs.below hM hb
      replace bl := bgo bl hb
      replace sd := A.sd sd
      clear A hb
      clear x11
      clear x14
      clear x86
      refine wl_call 17 (.func 17) _ _ #[vN, oo.vc] rfl 92 rfl (by rw [sd.1]; decide) rfl rfl (two_arg x89 x91) Try.enter17 (fun u W' => MBs W' DD VV (homN n) (.some (chg now (prc oo.cs))) u ∧ Below w39.heap.size w39 W') (changed_mb hN (by omega) (by omega) (by omega) (Fk.mono _ _ _ _ hcoo bl) hokc hd.lt hw.lt) ?_
      rintro f40 w40 df2 sz2 old2 ⟨x92, hb⟩
      obtain ⟨vN2, hv9N2⟩ : ∃ v, v = f40.eval (.tmp 92) := ⟨_, rfl⟩
      rw [← hv9N2] at x92
      have hN2 := x92
      replace x92 := hv9N2.symm
      clear hv9N2
      replace bl0 := bl
      replace x3 := tr old2 x3 rfl
      replace x4 := tr old2 x4 rfl
      replace x6 := tr old2 x6 rfl
      replace x7 := tr old2 x7 rfl
      replace x9 := tr old2 x9 rfl
      replace x50 := tr old2 x50 rfl
      replace x51 := tr old2 x51 rfl
      replace x52 := tr old2 x52 rfl
      replace x89 := tr old2 x89 rfl
      replace x91 := tr old2 x91 rfl
      have lt_m11 := Ob.lt m11
      replace m11 := Ob.below m11 hb
      replace hd := HD.below hd hb
      replace hw := HW.below hw hb
      replace hN := MBs.below hN hb
      replace hM := MBs.below hM hb
      replace bl := bgo bl hb
      replace sd := sd2 sz2 df2 sd
      clear df2 sz2 old2 hb
      clear x89
      clear x91
      refine wl_one (.eq (vN2)) rfl 7 rfl (by rw [sd.1]; decide) (st_assign (.tmp 92) rfl x92) ?_
      intro f41 w41 df2 sz2 old2 new2 hb
      replace x3 := tr old2 x3 rfl
      replace x4 := tr old2 x4 rfl
      replace x6 := tr old2 x6 rfl
      clear x7
      replace x9 := tr old2 x9 rfl
      replace x50 := tr old2 x50 rfl
      replace x51 := tr old2 x51 rfl
      replace x52 := tr old2 x52 rfl
      replace x92 := tr old2 x92 rfl
      have x7 := Fk.e new2
      replace m11 := Ob.below m11 hb
      replace hd := HD.below hd hb
      replace hw := HW.below hw hb
      replace hN := MBs.below hN hb
      replace hM := MBs.below hM hb
      replace hN2 := MBs.below hN2 hb
      replace bl := bgo bl hb
      replace sd := sd2 sz2 df2 sd
      clear df2 sz2 old2 new2 hb
      refine wpList_nil ?_
      clear x92
      show Code.wp _ _ _ _ _
      clear m11 h11D h11V
      clear hN
      have hN := hN2
      clear hN2
      refine wr_s [.eq (.int .i64 ((k + 1 : Nat) : Int))] (by rw [sd.1]; kernel_rfl) ⟨fun hwt ac u K => ?_, trivial⟩ ?_
      · exact st_addz (.tmp 52) (.const (.int .i64 1)) rfl _ _ _ (K.t x52 rfl) rfl (by omega) (by omega) (by omega)
      intro f42 w42 A hb
      replace x3 := A.t x3 rfl
      replace x4 := A.t x4 rfl
      replace x6 := A.t x6 rfl
      replace x9 := A.t x9 rfl
      replace x50 := A.t x50 rfl
      replace x51 := A.t x51 rfl
      replace x52 := A.t x52 rfl
      replace x7 := A.t x7 rfl
      have x148 := A.e 0 148 rfl rfl
      replace hd := HD.below hd hb
      replace hw := HW.below hw hb
      replace hN := MBs.below hN hb
      replace hM := MBs.below hM hb
      replace bl := bgo bl hb
      replace sd := A.sd sd
      clear A hb
      refine wl_one (.eq (.int .i64 ((k + 1 : Nat) : Int))) rfl 52 rfl (by rw [sd.1]; decide) (st_move (.tmp 148) rfl x148) ?_
      intro f43 w43 df2 sz2 old2 new2 hb
      replace x3 := tr old2 x3 rfl
      replace x4 := tr old2 x4 rfl
      replace x6 := tr old2 x6 rfl
      replace x9 := tr old2 x9 rfl
      replace x50 := tr old2 x50 rfl
      replace x51 := tr old2 x51 rfl
      clear x52
      replace x7 := tr old2 x7 rfl
      replace x148 := tr old2 x148 rfl
      have x52 := Fk.e new2
      replace hd := HD.below hd hb
      replace hw := HW.below hw hb
      replace hN := MBs.below hN hb
      replace hM := MBs.below hM hb
      replace bl := bgo bl hb
      replace sd := sd2 sz2 df2 sd
      clear df2 sz2 old2 new2 hb
      refine wpList_nil ?_
      clear x148
      show (∃ _, _) ∧ _
      refine ⟨⟨k + 1, s9, DD, gw, VV, false, (chg now (prc oo.cs)), mb, vN2, vM, by omega, gs3, (li_none hLI e5 rfl), hDD, hVD, hVw, sd.1, sd.2, x3, x6, x50, x51, x52, x4, x7, x9, hd, hw, hN, hM, bl⟩, ?_⟩
      rw [show f43.eval (.tmp 52) = _ from x52, show _ = _ from hcnt]
      first | (simp [intOf]; done) | (simp [intOf]; omega)
    have hokc : ∀ c ∈ oo.cs, 0 ≤ c.p ∧ c.p < homN n := by rw [e2] at hwr; exact (wrong_ok hwr).2.2
    subst e1 e2 e3 e4
    refine wr_a [.eq (.pointer (some ⟨g11, 2, none⟩)), .eq (oo.vc), .eq (.int .i64 (((oo.cs).length : Nat) : Int)), .eq (.bool false), .eq (.bool false)] (by rw [sd.1]; kernel_rfl) ⟨fun hwt ac u K => ?_, fun hwt ac u K => ?_, fun hwt ac u K => ?_, fun hwt ac u K => ?_, fun hwt ac u K => ?_, trivial⟩ ?_
    · exact st_field 39 2 (.tmp 11) rfl (K.t x11 rfl) (by kernel_rfl)
    · exact st_loadc 36 (.tmp 70) rfl (by kernel_rfl) (K.dep 0 70 rfl) (Ob.cell (Ob.below m11 K.grow) 2 rfl)
    · exact st_lensc (.tmp 71) rfl (fk_val (K.dep 1 71 rfl) (Fk.mono _ _ _ _ hcoo (bgo bl K.grow)))
    · exact st_eqi 3 (.tmp 72) (.const (.int .i64 0)) rfl .i64 ((((oo.cs).length : Nat) : Int)) (0) (K.dep 2 72 rfl) rfl _ (by rw [eq_comm, decide_eq_false_iff_not]; have := hcl hc; omega)
    · exact st_assign (.tmp 73) rfl (K.dep 3 73 rfl)
    intro f35 w35 A hb
    replace x3 := A.t x3 rfl
    replace x4 := A.t x4 rfl
    replace x6 := A.t x6 rfl
    replace x7 := A.t x7 rfl
    replace x9 := A.t x9 rfl
    replace x50 := A.t x50 rfl
    replace x51 := A.t x51 rfl
    replace x52 := A.t x52 rfl
    replace x11 := A.t x11 rfl
    replace x12 := A.t x12 rfl
    replace x13 := A.t x13 rfl
    replace x14 := A.t x14 rfl
    have x69 := A.e 4 69 rfl rfl
    replace m11 := Ob.below m11 hb
    replace hd := HD.below hd hb
    replace hw := HW.below hw hb
    replace hN := MBs.below hN hb
    replace hM := MBs.below hM hb
    replace bl := bgo bl hb
    replace sd := A.sd sd
    clear A hb
    show Code.wp _ _ _ _ _
    refine wp_cond_false x69 ?_
    refine wp_seq ?_
    refine wr_a [.eq (.bool false), .eq (.bool false)] (by rw [sd.1]; kernel_rfl) ⟨fun hwt ac u K => ?_, fun hwt ac u K => ?_, trivial⟩ ?_
    · exact st_move (.tmp 12) rfl (K.t x12 rfl)
    · exact st_assign (.tmp 77) rfl (K.dep 0 77 rfl)
    intro f36 w36 A hb
    replace x3 := A.t x3 rfl
    replace x4 := A.t x4 rfl
    replace x6 := A.t x6 rfl
    replace x7 := A.t x7 rfl
    replace x9 := A.t x9 rfl
    replace x50 := A.t x50 rfl
    replace x51 := A.t x51 rfl
    replace x52 := A.t x52 rfl
    replace x11 := A.t x11 rfl
    replace x12 := A.t x12 rfl
    replace x13 := A.t x13 rfl
    replace x14 := A.t x14 rfl
    replace x69 := A.t x69 rfl
    have x76 := A.e 1 76 rfl rfl
    replace m11 := Ob.below m11 hb
    replace hd := HD.below hd hb
    replace hw := HW.below hw hb
    replace hN := MBs.below hN hb
    replace hM := MBs.below hM hb
    replace bl := bgo bl hb
    replace sd := A.sd sd
    clear A hb
    clear x12
    clear x69
    show Code.wp _ _ _ _ _
    refine wp_cond_false x76 ?_
    refine wp_seq ?_
    refine wr_a [.eq (.int .i64 0), .eq (.bool false), .eq (.bool false)] (by rw [sd.1]; kernel_rfl) ⟨fun hwt ac u K => ?_, fun hwt ac u K => ?_, fun hwt ac u K => ?_, trivial⟩ ?_
    · exact st_move (.tmp 13) rfl (K.t x13 rfl)
    · exact st_neqi 28 (.tmp 81) (.const (.int .i64 0)) rfl .i64 (0) (0) (K.dep 0 81 rfl) rfl _ (by simp)
    · exact st_assign (.tmp 82) rfl (K.dep 1 82 rfl)
    intro f37 w37 A hb
    replace x3 := A.t x3 rfl
    replace x4 := A.t x4 rfl
    replace x6 := A.t x6 rfl
    replace x7 := A.t x7 rfl
    replace x9 := A.t x9 rfl
    replace x50 := A.t x50 rfl
    replace x51 := A.t x51 rfl
    replace x52 := A.t x52 rfl
    replace x11 := A.t x11 rfl
    replace x13 := A.t x13 rfl
    replace x14 := A.t x14 rfl
    replace x76 := A.t x76 rfl
    have x80 := A.e 2 80 rfl rfl
    replace m11 := Ob.below m11 hb
    replace hd := HD.below hd hb
    replace hw := HW.below hw hb
    replace hN := MBs.below hN hb
    replace hM := MBs.below hM hb
    replace bl := bgo bl hb
    replace sd := A.sd sd
    clear A hb
    clear x76
    show Code.wp _ _ _ _ _
    refine wp_cond_false x80 ?_
    refine wp_seq ?_
    refine wr_a [.eq (.int .i64 30), .eq (.bool false), .eq (.bool false)] (by rw [sd.1]; kernel_rfl) ⟨fun hwt ac u K => ?_, fun hwt ac u K => ?_, fun hwt ac u K => ?_, trivial⟩ ?_
    · exact st_move (.tmp 14) rfl (K.t x14 rfl)
    · exact st_eqi 28 (.tmp 87) (.const (.int .i64 0)) rfl .i64 (30) (0) (K.dep 0 87 rfl) rfl _ (by simp)
    · exact st_assign (.tmp 88) rfl (K.dep 1 88 rfl)
    intro f38 w38 A hb
    replace x3 := A.t x3 rfl
    replace x4 := A.t x4 rfl
    replace x6 := A.t x6 rfl
    replace x7 := A.t x7 rfl
    replace x9 := A.t x9 rfl
    replace x50 := A.t x50 rfl
    replace x51 := A.t x51 rfl
    replace x52 := A.t x52 rfl
    replace x11 := A.t x11 rfl
    replace x13 := A.t x13 rfl
    replace x14 := A.t x14 rfl
    replace x80 := A.t x80 rfl
    have x86 := A.e 2 86 rfl rfl
    replace m11 := Ob.below m11 hb
    replace hd := HD.below hd hb
    replace hw := HW.below hw hb
    replace hN := MBs.below hN hb
    replace hM := MBs.below hM hb
    replace bl := bgo bl hb
    replace sd := A.sd sd
    clear A hb
    clear x13
    clear x80
    show Code.wp _ _ _ _ _
    refine wp_cond_false x86 ?_
    refine wp_seq ?_
    refine wr_a [.eq (.int .i64 30), .eq (.bool true), .eq (.bool true)] (by rw [sd.1]; kernel_rfl) ⟨fun hwt ac u K => ?_, fun hwt ac u K => ?_, fun hwt ac u K => ?_, trivial⟩ ?_
    · exact st_move (.tmp 14) rfl (K.t x14 rfl)
    · exact st_eqi 28 (.tmp 94) (.const (.int .i64 30)) rfl .i64 (30) (30) (K.dep 0 94 rfl) rfl _ (by simp)
    · exact st_assign (.tmp 95) rfl (K.dep 1 95 rfl)
    intro f39 w39 A hb
    replace x3 := A.t x3 rfl
    replace x4 := A.t x4 rfl
    replace x6 := A.t x6 rfl
    replace x7 := A.t x7 rfl
    replace x9 := A.t x9 rfl
    replace x50 := A.t x50 rfl
    replace x51 := A.t x51 rfl
    replace x52 := A.t x52 rfl
    replace x11 := A.t x11 rfl
    replace x14 := A.t x14 rfl
    replace x86 := A.t x86 rfl
    have x93 := A.e 2 93 rfl rfl
    replace m11 := Ob.below m11 hb
    replace hd := HD.below hd hb
    replace hw := HW.below hw hb
    replace hN := MBs.below hN hb
    replace hM := MBs.below hM hb
    replace bl := bgo bl hb
    replace sd := A.sd sd
    clear A hb
    clear x14
    clear x86
    show Code.wp _ _ _ _ _
    refine wp_cond_true x93 ?_
    refine wr_s [.eq (vN), .eq (.pointer (some ⟨g11, 2, none⟩)), .eq (oo.vc)] (by rw [sd.1]; kernel_rfl) ⟨fun hwt ac u K => ?_, fun hwt ac u K => ?_, fun hwt ac u K => ?_, trivial⟩ ?_
    · exact st_move (.tmp 7) rfl (K.t x7 rfl)
    · exact st_field 39 2 (.tmp 11) rfl (K.t x11 rfl) (by kernel_rfl)
    · exact st_loadc 36 (.tmp 97) rfl (by kernel_rfl) (K.dep 1 97 rfl) (Ob.cell (Ob.below m11 K.grow) 2 rfl)
    intro f40 w40 A hb
    replace x3 := A.t x3 rfl
    replace x4 := A.t x4 rfl
    replace x6 := A.t x6 rfl
    replace x7 := A.t x7 rfl
    replace x9 := A.t x9 rfl
    replace x50 := A.t x50 rfl
    replace x51 := A.t x51 rfl
    replace x52 := A.t x52 rfl
    replace x11 := A.t x11 rfl
    replace x93 := A.t x93 rfl
    have x96 := A.e 0 96 rfl rfl
    have x98 := A.e 2 98 rfl rfl
    replace m11 := Ob.below m11 hb
    replace hd := HD.below hd hb
    replace hw := HW.below hw hb
    replace hN := MBs.below hN hb
    replace hM := MBs.below hM hb
    replace bl := bgo bl hb
    replace sd := A.sd sd
    clear A hb
    clear x11
    clear x93
    refine wl_call 17 (.func 17) _ _ #[vN, oo.vc] rfl 99 rfl (by rw [sd.1]; decide) rfl rfl (two_arg x96 x98) Try.enter17 (fun u W' => MBs W' DD VV (homN n) (.some (chg now (prc oo.cs))) u ∧ Below w40.heap.size w40 W') (changed_mb hN (by omega) (by omega) (by omega) (Fk.mono _ _ _ _ hcoo bl) hokc hd.lt hw.lt) ?_
    rintro f41 w41 df2 sz2 old2 ⟨x99, hb⟩
    obtain ⟨vM2, hv9M2⟩ : ∃ v, v = f41.eval (.tmp 99) := ⟨_, rfl⟩
    rw [← hv9M2] at x99
    have hM2 := x99
    replace x99 := hv9M2.symm
    clear hv9M2
    replace bl0 := bl
    replace x3 := tr old2 x3 rfl
    replace x4 := tr old2 x4 rfl
    replace x6 := tr old2 x6 rfl
    replace x7 := tr old2 x7 rfl
    replace x9 := tr old2 x9 rfl
    replace x50 := tr old2 x50 rfl
    replace x51 := tr old2 x51 rfl
    replace x52 := tr old2 x52 rfl
    replace x96 := tr old2 x96 rfl
    replace x98 := tr old2 x98 rfl
    have lt_m11 := Ob.lt m11
    replace m11 := Ob.below m11 hb
    replace hd := HD.below hd hb
    replace hw := HW.below hw hb
    replace hN := MBs.below hN hb
    replace hM := MBs.below hM hb
    replace bl := bgo bl hb
    replace sd := sd2 sz2 df2 sd
    clear df2 sz2 old2 hb
    clear x96
    clear x98
    refine wl_one (.eq (vM2)) rfl 9 rfl (by rw [sd.1]; decide) (st_assign (.tmp 99) rfl x99) ?_
    intro f42 w42 df2 sz2 old2 new2 hb
    replace x3 := tr old2 x3 rfl
    replace x4 := tr old2 x4 rfl
    replace x6 := tr old2 x6 rfl
    replace x7 := tr old2 x7 rfl
    clear x9
    replace x50 := tr old2 x50 rfl
    replace x51 := tr old2 x51 rfl
    replace x52 := tr old2 x52 rfl
    replace x99 := tr old2 x99 rfl
    have x9 := Fk.e new2
    replace m11 := Ob.below m11 hb
    replace hd := HD.below hd hb
    replace hw := HW.below hw hb
    replace hN := MBs.below hN hb
    replace hM := MBs.below hM hb
    replace hM2 := MBs.below hM2 hb
    replace bl := bgo bl hb
    replace sd := sd2 sz2 df2 sd
    clear df2 sz2 old2 new2 hb
    refine wpList_nil ?_
    clear x99
    show Code.wp _ _ _ _ _
    clear m11 h11D h11V
    clear hM
    have hM := hM2
    clear hM2
    refine wr_s [.eq (.int .i64 ((k + 1 : Nat) : Int))] (by rw [sd.1]; kernel_rfl) ⟨fun hwt ac u K => ?_, trivial⟩ ?_
    · exact st_addz (.tmp 52) (.const (.int .i64 1)) rfl _ _ _ (K.t x52 rfl) rfl (by omega) (by omega) (by omega)
    intro f43 w43 A hb
    replace x3 := A.t x3 rfl
    replace x4 := A.t x4 rfl
    replace x6 := A.t x6 rfl
    replace x7 := A.t x7 rfl
    replace x50 := A.t x50 rfl
    replace x51 := A.t x51 rfl
    replace x52 := A.t x52 rfl
    replace x9 := A.t x9 rfl
    have x148 := A.e 0 148 rfl rfl
    replace hd := HD.below hd hb
    replace hw := HW.below hw hb
    replace hN := MBs.below hN hb
    replace hM := MBs.below hM hb
    replace bl := bgo bl hb
    replace sd := A.sd sd
    clear A hb
    refine wl_one (.eq (.int .i64 ((k + 1 : Nat) : Int))) rfl 52 rfl (by rw [sd.1]; decide) (st_move (.tmp 148) rfl x148) ?_
    intro f44 w44 df2 sz2 old2 new2 hb
    replace x3 := tr old2 x3 rfl
    replace x4 := tr old2 x4 rfl
    replace x6 := tr old2 x6 rfl
    replace x7 := tr old2 x7 rfl
    replace x50 := tr old2 x50 rfl
    replace x51 := tr old2 x51 rfl
    clear x52
    replace x9 := tr old2 x9 rfl
    replace x148 := tr old2 x148 rfl
    have x52 := Fk.e new2
    replace hd := HD.below hd hb
    replace hw := HW.below hw hb
    replace hN := MBs.below hN hb
    replace hM := MBs.below hM hb
    replace bl := bgo bl hb
    replace sd := sd2 sz2 df2 sd
    clear df2 sz2 old2 new2 hb
    refine wpList_nil ?_
    clear x148
    show (∃ _, _) ∧ _
    refine ⟨⟨k + 1, s9, DD, gw, VV, true, now, (some (chg now (prc oo.cs))), vN, vM2, by omega, gs3, e5, hDD, hVD, hVw, sd.1, sd.2, x3, x6, x50, x51, x52, x4, x7, x9, hd, hw, hN, hM, bl⟩, ?_⟩
    rw [show f44.eval (.tmp 52) = _ from x52, show _ = _ from hcnt]
    first | (simp [intOf]; done) | (simp [intOf]; omega)
  · skip
    refine wr_a [.eq (.pointer (some ⟨g11, 0, none⟩)), .eq (.int .i64 oo.k)] (by rw [sd.1]; kernel_rfl) ⟨fun hwt ac u K => ?_, fun hwt ac u K => ?_, trivial⟩ ?_
    · exact st_field 39 0 (.tmp 11) rfl (K.t x11 rfl) (by kernel_rfl)
    · exact st_loadc 3 (.tmp 56) rfl (by kernel_rfl) (K.dep 0 56 rfl) (Ob.cell (Ob.below m11 K.grow) 0 rfl)
    intro f29 w29 A hb
    replace x3 := A.t x3 rfl
    replace x4 := A.t x4 rfl
    replace x6 := A.t x6 rfl
    replace x7 := A.t x7 rfl
    replace x9 := A.t x9 rfl
    replace x50 := A.t x50 rfl
    replace x51 := A.t x51 rfl
    replace x52 := A.t x52 rfl
    replace x11 := A.t x11 rfl
    have x57 := A.e 1 57 rfl rfl
    replace m11 := Ob.below m11 hb
    replace hd := HD.below hd hb
    replace hw := HW.below hw hb
    replace hN := MBs.below hN hb
    replace hM := MBs.below hM hb
    replace bl := bgo bl hb
    replace sd := A.sd sd
    clear A hb
    show Code.wp _ _ _ _ _
    refine wp_block ?_
    refine wp_seq ?_
    refine wr_a [.eq (.bool false), .eq (.bool false)] (by rw [sd.1]; kernel_rfl) ⟨fun hwt ac u K => ?_, fun hwt ac u K => ?_, trivial⟩ ?_
    · exact st_eqi 3 (.tmp 57) (.const (.int .i64 1)) rfl .i64 (oo.k) (1) (K.t x57 rfl) rfl _ (by rw [eq_comm, decide_eq_false_iff_not]; omega)
    · exact st_assign (.tmp 59) rfl (K.dep 0 59 rfl)
    intro f30 w30 A hb
    replace x3 := A.t x3 rfl
    replace x4 := A.t x4 rfl
    replace x6 := A.t x6 rfl
    replace x7 := A.t x7 rfl
    replace x9 := A.t x9 rfl
    replace x50 := A.t x50 rfl
    replace x51 := A.t x51 rfl
    replace x52 := A.t x52 rfl
    replace x11 := A.t x11 rfl
    replace x57 := A.t x57 rfl
    have x58 := A.e 1 58 rfl rfl
    replace m11 := Ob.below m11 hb
    replace hd := HD.below hd hb
    replace hw := HW.below hw hb
    replace hN := MBs.below hN hb
    replace hM := MBs.below hM hb
    replace bl := bgo bl hb
    replace sd := A.sd sd
    clear A hb
    show Code.wp _ _ _ _ _
    refine wp_cond_false x58 ?_
    refine wp_seq ?_
    refine wr_a [.eq (.bool true), .eq (.bool true)] (by rw [sd.1]; kernel_rfl) ⟨fun hwt ac u K => ?_, fun hwt ac u K => ?_, trivial⟩ ?_
    · exact st_eqi 3 (.tmp 57) (.const (.int .i64 2)) rfl .i64 (oo.k) (2) (K.t x57 rfl) rfl _ (by rw [eq_comm, decide_eq_true_iff]; exact hkind)
    · exact st_assign (.tmp 101) rfl (K.dep 0 101 rfl)
    intro f31 w31 A hb
    replace x3 := A.t x3 rfl
    replace x4 := A.t x4 rfl
    replace x6 := A.t x6 rfl
    replace x7 := A.t x7 rfl
    replace x9 := A.t x9 rfl
    replace x50 := A.t x50 rfl
    replace x51 := A.t x51 rfl
    replace x52 := A.t x52 rfl
    replace x11 := A.t x11 rfl
    replace x57 := A.t x57 rfl
    replace x58 := A.t x58 rfl
    have x100 := A.e 1 100 rfl rfl
    replace m11 := Ob.below m11 hb
    replace hd := HD.below hd hb
    replace hw := HW.below hw hb
    replace hN := MBs.below hN hb
    replace hM := MBs.below hM hb
    replace bl := bgo bl hb
    replace sd := A.sd sd
    clear A hb
    clear x58
    show Code.wp _ _ _ _ _
    refine wp_cond_true x100 ?_
    refine wr_s [.eq (.pointer (some ⟨gd, 0, none⟩)), .eq (.pointer (some ⟨g11, 1, none⟩)), .eq (.int .i64 oo.n)] (by rw [sd.1]; kernel_rfl) ⟨fun hwt ac u K => ?_, fun hwt ac u K => ?_, fun hwt ac u K => ?_, trivial⟩ ?_
    · exact st_move (.tmp 3) rfl (K.t x3 rfl)
    · exact st_field 39 1 (.tmp 11) rfl (K.t x11 rfl) (by kernel_rfl)
    · exact st_loadc 3 (.tmp 103) rfl (by kernel_rfl) (K.dep 1 103 rfl) (Ob.cell (Ob.below m11 K.grow) 1 rfl)
    intro f32 w32 A hb
    replace x3 := A.t x3 rfl
    replace x4 := A.t x4 rfl
    replace x6 := A.t x6 rfl
    replace x7 := A.t x7 rfl
    replace x9 := A.t x9 rfl
    replace x50 := A.t x50 rfl
    replace x51 := A.t x51 rfl
    replace x52 := A.t x52 rfl
    replace x11 := A.t x11 rfl
    replace x57 := A.t x57 rfl
    replace x100 := A.t x100 rfl
    have x102 := A.e 0 102 rfl rfl
    have x104 := A.e 2 104 rfl rfl
    replace m11 := Ob.below m11 hb
    replace hd := HD.below hd hb
    replace hw := HW.below hw hb
    replace hN := MBs.below hN hb
    replace hM := MBs.below hM hb
    replace bl := bgo bl hb
    replace sd := A.sd sd
    clear A hb
    clear x11
    clear x57
    clear x100
    clear m11 h11D h11V
    refine wl_call 22 (.func 22) _ _ #[.pointer (some ⟨gd, 0, none⟩), .int .i64 oo.n] rfl 105 rfl (by rw [sd.1]; decide) rfl rfl (two_arg x102 x104) Try.enter22 (fun u W' => ∃ D2 : Nat → Prop, u = .tuple #[] ∧ HD W' gd M D2 ({ s with armed := decide (0 ≤ oo.n), left := oo.n }) ∧ (∀ j, D2 j → DD j ∨ w32.heap.size ≤ j) ∧ Fr M w32 W') ((fk_darm hd oo.n hono).mono (by rintro e w' ⟨D', rfl, q⟩; exact ⟨_, rfl, D', rfl, q⟩)) ?_
    rintro f33 w33 df2 sz2 old2 ⟨D2, x105, hd2, hD2, O⟩
    have hVlt9 := hw.lt
    replace hw := hw.keep (fun j q => O.block j (hw.lt j q) (fun m => hVD j q (hd.sub j m))) O.size
    replace hVD : ∀ j, VV j → ¬ D2 j := fun j q m => (hD2 j m).elim (hVD j q) (fun m => by have := hVlt9 j q; omega)
    clear hVlt9
    replace hN := MBs.eff hN O (fun j q => .inl (hd.sub _ q)) hD2 (fun j q => .inl q)
    replace hM := MBs.eff hM O (fun j q => .inl (hd.sub _ q)) hD2 (fun j q => .inl q)
    have bl9 := bl.trans (O.below bl.size (fun j q => hDD j (hd.sub j q)))
    replace hDD : ∀ j, D2 j → w.heap.size ≤ j := fun j q => (hD2 j q).elim (hDD j) (fun q => by have := bl.size; omega)
    replace bl := bl9
    replace bl0 := bl
    clear bl9
    replace hd := hd2
    clear hd2 hD2 O
    clear DD
    obtain ⟨DD, rfl⟩ : ∃ E, E = D2 := ⟨_, rfl⟩
    replace x3 := tr old2 x3 rfl
    replace x4 := tr old2 x4 rfl
    replace x6 := tr old2 x6 rfl
    replace x7 := tr old2 x7 rfl
    replace x9 := tr old2 x9 rfl
    replace x50 := tr old2 x50 rfl
    replace x51 := tr old2 x51 rfl
    replace x52 := tr old2 x52 rfl
    replace x102 := tr old2 x102 rfl
    replace x104 := tr old2 x104 rfl
    replace sd := sd2 sz2 df2 sd
    clear df2 sz2 old2
    have gs2 : Gd { s with armed := decide (0 ≤ oo.n), left := oo.n } n z (1000 * (k + 1 + 1)) := ⟨gs.has, gs.cch, gs.size, by have := gs.done; show s.done ≤ _; omega, gs.hl, gs.cl⟩
    have hLI2 := hLI.arm oo.n
    refine wpList_nil ?_
    clear x102
    clear x104
    clear x105
    show Code.wp _ _ _ _ _
    refine wr_s [.eq (.int .i64 ((k + 1 : Nat) : Int))] (by rw [sd.1]; kernel_rfl) ⟨fun hwt ac u K => ?_, trivial⟩ ?_
    · exact st_addz (.tmp 52) (.const (.int .i64 1)) rfl _ _ _ (K.t x52 rfl) rfl (by omega) (by omega) (by omega)
    intro f34 w34 A hb
    replace x3 := A.t x3 rfl
    replace x4 := A.t x4 rfl
    replace x6 := A.t x6 rfl
    replace x7 := A.t x7 rfl
    replace x9 := A.t x9 rfl
    replace x50 := A.t x50 rfl
    replace x51 := A.t x51 rfl
    replace x52 := A.t x52 rfl
    have x148 := A.e 0 148 rfl rfl
    replace hd := HD.below hd hb
    replace hw := HW.below hw hb
    replace hN := MBs.below hN hb
    replace hM := MBs.below hM hb
    replace bl := bgo bl hb
    replace sd := A.sd sd
    clear A hb
    refine wl_one (.eq (.int .i64 ((k + 1 : Nat) : Int))) rfl 52 rfl (by rw [sd.1]; decide) (st_move (.tmp 148) rfl x148) ?_
    intro f35 w35 df2 sz2 old2 new2 hb
    replace x3 := tr old2 x3 rfl
    replace x4 := tr old2 x4 rfl
    replace x6 := tr old2 x6 rfl
    replace x7 := tr old2 x7 rfl
    replace x9 := tr old2 x9 rfl
    replace x50 := tr old2 x50 rfl
    replace x51 := tr old2 x51 rfl
    clear x52
    replace x148 := tr old2 x148 rfl
    have x52 := Fk.e new2
    replace hd := HD.below hd hb
    replace hw := HW.below hw hb
    replace hN := MBs.below hN hb
    replace hM := MBs.below hM hb
    replace bl := bgo bl hb
    replace sd := sd2 sz2 df2 sd
    clear df2 sz2 old2 new2 hb
    refine wpList_nil ?_
    clear x148
    show (∃ _, _) ∧ _
    refine ⟨⟨k + 1, { s with armed := decide (0 ≤ oo.n), left := oo.n }, DD, gw, VV, dn, now, mb, vN, vM, by omega, gs2, hLI2, hDD, hVD, hVw, sd.1, sd.2, x3, x6, x50, x51, x52, x4, x7, x9, hd, hw, hN, hM, bl⟩, ?_⟩
    rw [show f35.eval (.tmp 52) = _ from x52, show _ = _ from hcnt]
    first | (simp [intOf]; done) | (simp [intOf]; omega)
  · skip
    refine wr_a [.eq (.pointer (some ⟨g11, 0, none⟩)), .eq (.int .i64 oo.k)] (by rw [sd.1]; kernel_rfl) ⟨fun hwt ac u K => ?_, fun hwt ac u K => ?_, trivial⟩ ?_
    · exact st_field 39 0 (.tmp 11) rfl (K.t x11 rfl) (by kernel_rfl)
    · exact st_loadc 3 (.tmp 56) rfl (by kernel_rfl) (K.dep 0 56 rfl) (Ob.cell (Ob.below m11 K.grow) 0 rfl)
    intro f29 w29 A hb
    replace x3 := A.t x3 rfl
    replace x4 := A.t x4 rfl
    replace x6 := A.t x6 rfl
    replace x7 := A.t x7 rfl
    replace x9 := A.t x9 rfl
    replace x50 := A.t x50 rfl
    replace x51 := A.t x51 rfl
    replace x52 := A.t x52 rfl
    replace x11 := A.t x11 rfl
    have x57 := A.e 1 57 rfl rfl
    replace m11 := Ob.below m11 hb
    replace hd := HD.below hd hb
    replace hw := HW.below hw hb
    replace hN := MBs.below hN hb
    replace hM := MBs.below hM hb
    replace bl := bgo bl hb
    replace sd := A.sd sd
    clear A hb
    show Code.wp _ _ _ _ _
    refine wp_block ?_
    refine wp_seq ?_
    refine wr_a [.eq (.bool false), .eq (.bool false)] (by rw [sd.1]; kernel_rfl) ⟨fun hwt ac u K => ?_, fun hwt ac u K => ?_, trivial⟩ ?_
    · exact st_eqi 3 (.tmp 57) (.const (.int .i64 1)) rfl .i64 (oo.k) (1) (K.t x57 rfl) rfl _ (by rw [eq_comm, decide_eq_false_iff_not]; omega)
    · exact st_assign (.tmp 59) rfl (K.dep 0 59 rfl)
    intro f30 w30 A hb
    replace x3 := A.t x3 rfl
    replace x4 := A.t x4 rfl
    replace x6 := A.t x6 rfl
    replace x7 := A.t x7 rfl
    replace x9 := A.t x9 rfl
    replace x50 := A.t x50 rfl
    replace x51 := A.t x51 rfl
    replace x52 := A.t x52 rfl
    replace x11 := A.t x11 rfl
    replace x57 := A.t x57 rfl
    have x58 := A.e 1 58 rfl rfl
    replace m11 := Ob.below m11 hb
    replace hd := HD.below hd hb
    replace hw := HW.below hw hb
    replace hN := MBs.below hN hb
    replace hM := MBs.below hM hb
    replace bl := bgo bl hb
    replace sd := A.sd sd
    clear A hb
    show Code.wp _ _ _ _ _
    refine wp_cond_false x58 ?_
    refine wp_seq ?_
    refine wr_a [.eq (.bool false), .eq (.bool false)] (by rw [sd.1]; kernel_rfl) ⟨fun hwt ac u K => ?_, fun hwt ac u K => ?_, trivial⟩ ?_
    · exact st_eqi 3 (.tmp 57) (.const (.int .i64 2)) rfl .i64 (oo.k) (2) (K.t x57 rfl) rfl _ (by rw [eq_comm, decide_eq_false_iff_not]; omega)
    · exact st_assign (.tmp 101) rfl (K.dep 0 101 rfl)
    intro f31 w31 A hb
    replace x3 := A.t x3 rfl
    replace x4 := A.t x4 rfl
    replace x6 := A.t x6 rfl
    replace x7 := A.t x7 rfl
    replace x9 := A.t x9 rfl
    replace x50 := A.t x50 rfl
    replace x51 := A.t x51 rfl
    replace x52 := A.t x52 rfl
    replace x11 := A.t x11 rfl
    replace x57 := A.t x57 rfl
    replace x58 := A.t x58 rfl
    have x100 := A.e 1 100 rfl rfl
    replace m11 := Ob.below m11 hb
    replace hd := HD.below hd hb
    replace hw := HW.below hw hb
    replace hN := MBs.below hN hb
    replace hM := MBs.below hM hb
    replace bl := bgo bl hb
    replace sd := A.sd sd
    clear A hb
    clear x58
    show Code.wp _ _ _ _ _
    refine wp_cond_false x100 ?_
    refine wp_seq ?_
    refine wr_a [.eq (.bool true), .eq (.bool true)] (by rw [sd.1]; kernel_rfl) ⟨fun hwt ac u K => ?_, fun hwt ac u K => ?_, trivial⟩ ?_
    · exact st_eqi 3 (.tmp 57) (.const (.int .i64 3)) rfl .i64 (oo.k) (3) (K.t x57 rfl) rfl _ (by rw [eq_comm, decide_eq_true_iff]; exact hkind)
    · exact st_assign (.tmp 107) rfl (K.dep 0 107 rfl)
    intro f32 w32 A hb
    replace x3 := A.t x3 rfl
    replace x4 := A.t x4 rfl
    replace x6 := A.t x6 rfl
    replace x7 := A.t x7 rfl
    replace x9 := A.t x9 rfl
    replace x50 := A.t x50 rfl
    replace x51 := A.t x51 rfl
    replace x52 := A.t x52 rfl
    replace x11 := A.t x11 rfl
    replace x57 := A.t x57 rfl
    replace x100 := A.t x100 rfl
    have x106 := A.e 1 106 rfl rfl
    replace m11 := Ob.below m11 hb
    replace hd := HD.below hd hb
    replace hw := HW.below hw hb
    replace hN := MBs.below hN hb
    replace hM := MBs.below hM hb
    replace bl := bgo bl hb
    replace sd := A.sd sd
    clear A hb
    clear x57
    clear x100
    show Code.wp _ _ _ _ _
    refine wp_cond_true x106 ?_
    refine wp_seq ?_
    obtain ⟨v9, hv9, hop9, hLI9, hdn9, hho9⟩ := LI.crash h3 h32 hnM hLI oo.ls
    have hgc := gd_crs gs oo.ls
    obtain ⟨sc, hsc⟩ : ∃ x, x = crs s oo.ls := ⟨_, rfl⟩
    rw [← hsc] at hLI9 hdn9 hho9 hop9 hgc
    obtain ⟨sOp, hsd⟩ : ∃ x, x = (wopn (homN n) (prsP n) (hdz z) sc).2 := ⟨_, rfl⟩
    have hopd : wopn (homN n) (prsP n) (hdz z) sc = (0, sOp) := Prod.ext hop9 hsd.symm
    rw [← hsd] at hLI9 hdn9 hho9
    have hgwc : Gw sc n z := by rw [hsc]; exact gw_crs hLI.gw oo.ls
    clear hop9 hsd
    refine wr_s [.eq (.pointer (some ⟨gd, 0, none⟩)), .eq (.pointer (some ⟨g11, 3, none⟩)), .eq (oo.vl)] (by rw [sd.1]; kernel_rfl) ⟨fun hwt ac u K => ?_, fun hwt ac u K => ?_, fun hwt ac u K => ?_, trivial⟩ ?_
    · exact st_move (.tmp 3) rfl (K.t x3 rfl)
    · exact st_field 39 3 (.tmp 11) rfl (K.t x11 rfl) (by kernel_rfl)
    · exact st_loadc 37 (.tmp 109) rfl (by kernel_rfl) (K.dep 1 109 rfl) (Ob.cell (Ob.below m11 K.grow) 3 rfl)
    intro f33 w33 A hb
    replace x3 := A.t x3 rfl
    replace x4 := A.t x4 rfl
    replace x6 := A.t x6 rfl
    replace x7 := A.t x7 rfl
    replace x9 := A.t x9 rfl
    replace x50 := A.t x50 rfl
    replace x51 := A.t x51 rfl
    replace x52 := A.t x52 rfl
    replace x11 := A.t x11 rfl
    replace x106 := A.t x106 rfl
    have x108 := A.e 0 108 rfl rfl
    have x110 := A.e 2 110 rfl rfl
    replace m11 := Ob.below m11 hb
    replace hd := HD.below hd hb
    replace hw := HW.below hw hb
    replace hN := MBs.below hN hb
    replace hM := MBs.below hM hb
    replace bl := bgo bl hb
    replace sd := A.sd sd
    clear A hb
    clear x11
    clear x106
    clear m11 h11D h11V
    refine wl_call 23 (.func 23) _ _ #[.pointer (some ⟨gd, 0, none⟩), oo.vl] rfl 111 rfl (by rw [sd.1]; decide) rfl rfl (two_arg x108 x110) Try.enter23 (fun u W' => ∃ D2 : Nat → Prop, u = .tuple #[] ∧ HD W' gd M D2 (crs s oo.ls) ∧ (∀ j, D2 j → DD j ∨ w33.heap.size ≤ j) ∧ Fr M w33 W') ((fk_dcrash hd (by have := gs.has; omega) (Fk.mono _ _ _ _ hloo bl) hwf (by omega)).mono (by rintro e w' ⟨D', rfl, q⟩; exact ⟨_, rfl, D', rfl, q⟩)) ?_
    rintro f34 w34 df2 sz2 old2 ⟨D2, x111, hd2, hD2, O⟩
    have hVlt9 := hw.lt
    replace hw := hw.keep (fun j q => O.block j (hw.lt j q) (fun m => hVD j q (hd.sub j m))) O.size
    replace hVD : ∀ j, VV j → ¬ D2 j := fun j q m => (hD2 j m).elim (hVD j q) (fun m => by have := hVlt9 j q; omega)
    clear hVlt9
    replace hN := MBs.eff hN O (fun j q => .inl (hd.sub _ q)) hD2 (fun j q => .inl q)
    replace hM := MBs.eff hM O (fun j q => .inl (hd.sub _ q)) hD2 (fun j q => .inl q)
    have bl9 := bl.trans (O.below bl.size (fun j q => hDD j (hd.sub j q)))
    replace hDD : ∀ j, D2 j → w.heap.size ≤ j := fun j q => (hD2 j q).elim (hDD j) (fun q => by have := bl.size; omega)
    replace bl := bl9
    replace bl0 := bl
    clear bl9
    replace hd := hd2
    clear hd2 hD2 O
    clear DD
    obtain ⟨DD, rfl⟩ : ∃ E, E = D2 := ⟨_, rfl⟩
    replace x3 := tr old2 x3 rfl
    replace x4 := tr old2 x4 rfl
    replace x6 := tr old2 x6 rfl
    replace x7 := tr old2 x7 rfl
    replace x9 := tr old2 x9 rfl
    replace x50 := tr old2 x50 rfl
    replace x51 := tr old2 x51 rfl
    replace x52 := tr old2 x52 rfl
    replace x108 := tr old2 x108 rfl
    replace x110 := tr old2 x110 rfl
    replace sd := sd2 sz2 df2 sd
    clear df2 sz2 old2
    rw [← hsc] at hd
    have gs := hgc
    refine wpList_nil ?_
    clear x108
    clear x110
    clear x111
    show Code.wp _ _ _ _ _
    refine wp_seq ?_
    refine wp_seq ?_
    clear x4
    refine wr_s [.eq (.pointer (some ⟨gd, 0, none⟩))] (by rw [sd.1]; kernel_rfl) ⟨fun hwt ac u K => ?_, trivial⟩ ?_
    · exact st_move (.tmp 3) rfl (K.t x3 rfl)
    intro f35 w35 A hb
    replace x3 := A.t x3 rfl
    replace x6 := A.t x6 rfl
    replace x7 := A.t x7 rfl
    replace x9 := A.t x9 rfl
    replace x50 := A.t x50 rfl
    replace x51 := A.t x51 rfl
    replace x52 := A.t x52 rfl
    have x113 := A.e 0 113 rfl rfl
    replace hd := HD.below hd hb
    replace hw := HW.below hw hb
    replace hN := MBs.below hN hb
    replace hM := MBs.below hM hb
    replace bl := bgo bl hb
    replace sd := A.sd sd
    clear A hb
    clear hw hVD hVw
    refine wl_call 9 (.func 9) _ _ #[.pointer (some ⟨gd, 0, none⟩)] rfl 114 rfl (by rw [sd.1]; decide) rfl rfl (one_arg x113) Try.enter9 (fun u W' => ∃ (D2 : Nat → Prop) (gw : Nat) (VV : Nat → Prop), u = .tuple #[.pointer (some ⟨gw, 0, none⟩), .int .i64 0] ∧ HD W' gd M D2 (sOp) ∧ Gd (sOp) n z (1000 * (k + 1) + 4 * (n + 2)) ∧ HW W' gw gd VV n z false ∧ (∀ j, VV j → w35.heap.size ≤ j ∧ ¬ D2 j) ∧ (∀ j, D2 j → DD j ∨ w35.heap.size ≤ j) ∧ Fr M w35 W') (open_ok12 hd gs hgwc (by omega) hopd) ?_
    rintro f36 w36 df2 sz2 old2 ⟨D2, gw2, VV2, x114, hd2, gs2, hw, hVN, hD2, O⟩
    have hVw : ∀ j, VV2 j → w.heap.size ≤ j := fun j q => Nat.le_trans bl.size (hVN j q).1
    have hVD : ∀ j, VV2 j → ¬ D2 j := fun j q => (hVN j q).2
    replace hN := MBs.eff hN O (fun j q => .inl (hd.sub _ q)) hD2 (fun j q => .inr (hVN j q).1)
    replace hM := MBs.eff hM O (fun j q => .inl (hd.sub _ q)) hD2 (fun j q => .inr (hVN j q).1)
    have bl9 := bl.trans (O.below bl.size (fun j q => hDD j (hd.sub j q)))
    replace hDD : ∀ j, D2 j → w.heap.size ≤ j := fun j q => (hD2 j q).elim (hDD j) (fun q => by have := bl.size; omega)
    replace bl := bl9
    replace bl0 := bl
    clear bl9
    replace hd := hd2
    replace gs := gs2
    clear gs2 hVN
    clear hd2 hD2 O
    clear DD
    obtain ⟨DD, rfl⟩ : ∃ E, E = D2 := ⟨_, rfl⟩
    replace x3 := tr old2 x3 rfl
    replace x6 := tr old2 x6 rfl
    replace x7 := tr old2 x7 rfl
    replace x9 := tr old2 x9 rfl
    replace x50 := tr old2 x50 rfl
    replace x51 := tr old2 x51 rfl
    replace x52 := tr old2 x52 rfl
    replace x113 := tr old2 x113 rfl
    replace sd := sd2 sz2 df2 sd
    clear df2 sz2 old2
    clear gw VV
    obtain ⟨gw, hgw9⟩ : ∃ g, g = gw2 := ⟨_, rfl⟩
    obtain ⟨VV, hVV9⟩ : ∃ V, V = VV2 := ⟨_, rfl⟩
    rw [← hgw9, ← hVV9] at hw
    rw [← hgw9] at x114
    rw [← hVV9] at hVw hVD hN hM
    clear hgw9 hVV9
    clear x113
    refine wl_one (.eq (.tuple #[.pointer (some ⟨gw, 0, none⟩), .int .i64 0])) rfl 112 rfl (by rw [sd.1]; decide) (st_move (.tmp 114) rfl x114) ?_
    intro f37 w37 df2 sz2 old2 new2 hb
    replace x3 := tr old2 x3 rfl
    replace x6 := tr old2 x6 rfl
    replace x7 := tr old2 x7 rfl
    replace x9 := tr old2 x9 rfl
    replace x50 := tr old2 x50 rfl
    replace x51 := tr old2 x51 rfl
    replace x52 := tr old2 x52 rfl
    replace x114 := tr old2 x114 rfl
    have x112 := Fk.e new2
    replace hN := MBs.below hN hb
    replace hM := MBs.below hM hb
    replace hd := HD.below hd hb
    replace hw := HW.below hw hb
    replace bl := bgo bl hb
    replace sd := sd2 sz2 df2 sd
    clear df2 sz2 old2 new2 hb
    clear x114
    refine wl_one (.eq (.pointer (some ⟨gw, 0, none⟩))) rfl 115 rfl (by rw [sd.1]; decide) (st_extv (.tmp 112) 0 rfl x112 rfl) ?_
    intro f38 w38 df2 sz2 old2 new2 hb
    replace x3 := tr old2 x3 rfl
    replace x6 := tr old2 x6 rfl
    replace x7 := tr old2 x7 rfl
    replace x9 := tr old2 x9 rfl
    replace x50 := tr old2 x50 rfl
    replace x51 := tr old2 x51 rfl
    replace x52 := tr old2 x52 rfl
    replace x112 := tr old2 x112 rfl
    have x115 := Fk.e new2
    replace hN := MBs.below hN hb
    replace hM := MBs.below hM hb
    replace hd := HD.below hd hb
    replace hw := HW.below hw hb
    replace bl := bgo bl hb
    replace sd := sd2 sz2 df2 sd
    clear df2 sz2 old2 new2 hb
    refine wl_one (.eq (.int .i64 0)) rfl 116 rfl (by rw [sd.1]; decide) (st_extv (.tmp 112) 1 rfl x112 rfl) ?_
    intro f39 w39 df2 sz2 old2 new2 hb
    replace x3 := tr old2 x3 rfl
    replace x6 := tr old2 x6 rfl
    replace x7 := tr old2 x7 rfl
    replace x9 := tr old2 x9 rfl
    replace x50 := tr old2 x50 rfl
    replace x51 := tr old2 x51 rfl
    replace x52 := tr old2 x52 rfl
    replace x112 := tr old2 x112 rfl
    replace x115 := tr old2 x115 rfl
    have x116 := Fk.e new2
    replace hN := MBs.below hN hb
    replace hM := MBs.below hM hb
    replace hd := HD.below hd hb
    replace hw := HW.below hw hb
    replace bl := bgo bl hb
    replace sd := sd2 sz2 df2 sd
    clear df2 sz2 old2 new2 hb
    clear x112
    refine wl_one (.eq (.pointer (some ⟨gw, 0, none⟩))) rfl 4 rfl (by rw [sd.1]; decide) (st_assign (.tmp 115) rfl x115) ?_
    intro f40 w40 df2 sz2 old2 new2 hb
    replace x3 := tr old2 x3 rfl
    replace x6 := tr old2 x6 rfl
    replace x7 := tr old2 x7 rfl
    replace x9 := tr old2 x9 rfl
    replace x50 := tr old2 x50 rfl
    replace x51 := tr old2 x51 rfl
    replace x52 := tr old2 x52 rfl
    replace x115 := tr old2 x115 rfl
    replace x116 := tr old2 x116 rfl
    have x4 := Fk.e new2
    replace hN := MBs.below hN hb
    replace hM := MBs.below hM hb
    replace hd := HD.below hd hb
    replace hw := HW.below hw hb
    replace bl := bgo bl hb
    replace sd := sd2 sz2 df2 sd
    clear df2 sz2 old2 new2 hb
    clear x115
    refine wl_one (.eq (.int .i64 0)) rfl 5 rfl (by rw [sd.1]; decide) (st_assign (.tmp 116) rfl x116) ?_
    intro f41 w41 df2 sz2 old2 new2 hb
    replace x3 := tr old2 x3 rfl
    replace x6 := tr old2 x6 rfl
    replace x7 := tr old2 x7 rfl
    replace x9 := tr old2 x9 rfl
    replace x50 := tr old2 x50 rfl
    replace x51 := tr old2 x51 rfl
    replace x52 := tr old2 x52 rfl
    replace x116 := tr old2 x116 rfl
    replace x4 := tr old2 x4 rfl
    have x5 := Fk.e new2
    replace hN := MBs.below hN hb
    replace hM := MBs.below hM hb
    replace hd := HD.below hd hb
    replace hw := HW.below hw hb
    replace bl := bgo bl hb
    replace sd := sd2 sz2 df2 sd
    clear df2 sz2 old2 new2 hb
    refine wpList_nil ?_
    clear x116
    show Code.wp _ _ _ _ _
    refine wp_seq ?_
    refine wr_a [.eq (.int .i64 0), .eq (.bool false), .eq (.bool false), .eq (.pointer (some ⟨gw, 0, none⟩)), .eq (.bool false), .eq (.bool false)] (by rw [sd.1]; kernel_rfl) ⟨fun hwt ac u K => ?_, fun hwt ac u K => ?_, fun hwt ac u K => ?_, fun hwt ac u K => ?_, fun hwt ac u K => ?_, fun hwt ac u K => ?_, trivial⟩ ?_
    · exact st_move (.tmp 5) rfl (K.t x5 rfl)
    · exact st_neqi 28 (.tmp 117) (.const (.int .i64 0)) rfl .i64 (0) (0) (K.dep 0 117 rfl) rfl _ (by rfl)
    · exact st_move (.tmp 118) rfl (K.dep 1 118 rfl)
    · exact st_move (.tmp 4) rfl (K.t x4 rfl)
    · exact st_bin .eql 27 27 (.tmp 120) _ rfl (K.dep 3 120 rfl) rfl (by kernel_rfl)
    · exact st_pick_f' (.tmp 119) (.const (.bool true)) (.tmp 121) rfl (K.dep 2 119 rfl) (K.dep 4 121 rfl)
    intro f42 w42 A hb
    replace x3 := A.t x3 rfl
    replace x6 := A.t x6 rfl
    replace x7 := A.t x7 rfl
    replace x9 := A.t x9 rfl
    replace x50 := A.t x50 rfl
    replace x51 := A.t x51 rfl
    replace x52 := A.t x52 rfl
    replace x4 := A.t x4 rfl
    replace x5 := A.t x5 rfl
    have x122 := A.e 5 122 rfl rfl
    replace hN := MBs.below hN hb
    replace hM := MBs.below hM hb
    replace hd := HD.below hd hb
    replace hw := HW.below hw hb
    replace bl := bgo bl hb
    replace sd := A.sd sd
    clear A hb
    clear x5
    show Code.wp _ _ _ _ _
    refine wp_cond_false x122 ?_
    refine wp_skip ?_
    show Code.wp _ _ _ _ _
    refine wp_seq ?_
    refine wr_s [.eq (.pointer (some ⟨gw, 0, none⟩)), .eq (.int .i64 ((homN n : Nat) : Int))] (by rw [sd.1]; kernel_rfl) ⟨fun hwt ac u K => ?_, fun hwt ac u K => ?_, trivial⟩ ?_
    · exact st_move (.tmp 4) rfl (K.t x4 rfl)
    · exact st_move (.tmp 6) rfl (K.t x6 rfl)
    intro f43 w43 A hb
    replace x3 := A.t x3 rfl
    replace x6 := A.t x6 rfl
    replace x7 := A.t x7 rfl
    replace x9 := A.t x9 rfl
    replace x50 := A.t x50 rfl
    replace x51 := A.t x51 rfl
    replace x52 := A.t x52 rfl
    replace x4 := A.t x4 rfl
    replace x122 := A.t x122 rfl
    have x124 := A.e 0 124 rfl rfl
    have x125 := A.e 1 125 rfl rfl
    replace hN := MBs.below hN hb
    replace hM := MBs.below hM hb
    replace hd := HD.below hd hb
    replace hw := HW.below hw hb
    replace bl := bgo bl hb
    replace sd := A.sd sd
    clear A hb
    clear x122
    refine wl_call 18 (.func 18) _ _ #[.pointer (some ⟨gw, 0, none⟩), .int .i64 ((homN n : Nat) : Int)] rfl 126 rfl (by rw [sd.1]; decide) rfl rfl (two_arg x124 x125) Try.enter18 (fun u W' => ∃ (D2 : Nat → Prop) (v : Value), u = .tuple #[v, .bool true] ∧ MBs W' D2 VV (homN n) (.some (hml sOp (homN n))) v ∧ HD W' gd M D2 sOp ∧ HW W' gw gd VV n z false ∧ (∀ j, D2 j → DD j ∨ w43.heap.size ≤ j) ∧ Fr M w43 W') (homes_mb hw hd gs hdn9 hVD (by omega) (by omega)) ?_
    rintro f44 w44 df2 sz2 old2 ⟨D2, vQ, x126, hQ, hd2, hw2, hD2, O⟩
    have hVlt9 := hw.lt
    replace hVD : ∀ j, VV j → ¬ D2 j := fun j q m => (hD2 j m).elim (hVD j q) (fun m => by have := hVlt9 j q; omega)
    clear hVlt9
    replace hN := MBs.eff hN O (fun j q => .inl (hd.sub _ q)) hD2 (fun j q => .inl q)
    replace hM := MBs.eff hM O (fun j q => .inl (hd.sub _ q)) hD2 (fun j q => .inl q)
    have bl9 := bl.trans (O.below bl.size (fun j q => hDD j (hd.sub j q)))
    replace hDD : ∀ j, D2 j → w.heap.size ≤ j := fun j q => (hD2 j q).elim (hDD j) (fun q => by have := bl.size; omega)
    replace bl := bl9
    replace bl0 := bl
    clear bl9
    replace hd := hd2
    replace hw := hw2
    clear hw2
    clear hd2 hD2 O
    clear DD
    obtain ⟨DD, rfl⟩ : ∃ E, E = D2 := ⟨_, rfl⟩
    replace x3 := tr old2 x3 rfl
    replace x6 := tr old2 x6 rfl
    replace x7 := tr old2 x7 rfl
    replace x9 := tr old2 x9 rfl
    replace x50 := tr old2 x50 rfl
    replace x51 := tr old2 x51 rfl
    replace x52 := tr old2 x52 rfl
    replace x4 := tr old2 x4 rfl
    replace x124 := tr old2 x124 rfl
    replace x125 := tr old2 x125 rfl
    replace sd := sd2 sz2 df2 sd
    clear df2 sz2 old2
    clear x124
    clear x125
    refine wl_one (.eq (.tuple #[vQ, .bool true])) rfl 123 rfl (by rw [sd.1]; decide) (st_move (.tmp 126) rfl x126) ?_
    intro f45 w45 df2 sz2 old2 new2 hb
    replace x3 := tr old2 x3 rfl
    replace x6 := tr old2 x6 rfl
    replace x7 := tr old2 x7 rfl
    replace x9 := tr old2 x9 rfl
    replace x50 := tr old2 x50 rfl
    replace x51 := tr old2 x51 rfl
    replace x52 := tr old2 x52 rfl
    replace x4 := tr old2 x4 rfl
    replace x126 := tr old2 x126 rfl
    have x123 := Fk.e new2
    replace hN := MBs.below hN hb
    replace hM := MBs.below hM hb
    replace hd := HD.below hd hb
    replace hw := HW.below hw hb
    replace hQ := MBs.below hQ hb
    replace bl := bgo bl hb
    replace sd := sd2 sz2 df2 sd
    clear df2 sz2 old2 new2 hb
    clear x126
    refine wl_one (.eq (vQ)) rfl 127 rfl (by rw [sd.1]; decide) (st_extv (.tmp 123) 0 rfl x123 rfl) ?_
    intro f46 w46 df2 sz2 old2 new2 hb
    replace x3 := tr old2 x3 rfl
    replace x6 := tr old2 x6 rfl
    replace x7 := tr old2 x7 rfl
    replace x9 := tr old2 x9 rfl
    replace x50 := tr old2 x50 rfl
    replace x51 := tr old2 x51 rfl
    replace x52 := tr old2 x52 rfl
    replace x4 := tr old2 x4 rfl
    replace x123 := tr old2 x123 rfl
    have x127 := Fk.e new2
    replace hN := MBs.below hN hb
    replace hM := MBs.below hM hb
    replace hd := HD.below hd hb
    replace hw := HW.below hw hb
    replace hQ := MBs.below hQ hb
    replace bl := bgo bl hb
    replace sd := sd2 sz2 df2 sd
    clear df2 sz2 old2 new2 hb
    refine wl_one (.eq (.bool true)) rfl 128 rfl (by rw [sd.1]; decide) (st_extv (.tmp 123) 1 rfl x123 rfl) ?_
    intro f47 w47 df2 sz2 old2 new2 hb
    replace x3 := tr old2 x3 rfl
    replace x6 := tr old2 x6 rfl
    replace x7 := tr old2 x7 rfl
    replace x9 := tr old2 x9 rfl
    replace x50 := tr old2 x50 rfl
    replace x51 := tr old2 x51 rfl
    replace x52 := tr old2 x52 rfl
    replace x4 := tr old2 x4 rfl
    replace x123 := tr old2 x123 rfl
    replace x127 := tr old2 x127 rfl
    have x128 := Fk.e new2
    replace hN := MBs.below hN hb
    replace hM := MBs.below hM hb
    replace hd := HD.below hd hb
    replace hw := HW.below hw hb
    replace hQ := MBs.below hQ hb
    replace bl := bgo bl hb
    replace sd := sd2 sz2 df2 sd
    clear df2 sz2 old2 new2 hb
    clear x123
    refine wl_one (.eq (vQ)) rfl 15 rfl (by rw [sd.1]; decide) (st_assign (.tmp 127) rfl x127) ?_
    intro f48 w48 df2 sz2 old2 new2 hb
    replace x3 := tr old2 x3 rfl
    replace x6 := tr old2 x6 rfl
    replace x7 := tr old2 x7 rfl
    replace x9 := tr old2 x9 rfl
    replace x50 := tr old2 x50 rfl
    replace x51 := tr old2 x51 rfl
    replace x52 := tr old2 x52 rfl
    replace x4 := tr old2 x4 rfl
    replace x127 := tr old2 x127 rfl
    replace x128 := tr old2 x128 rfl
    have x15 := Fk.e new2
    replace hN := MBs.below hN hb
    replace hM := MBs.below hM hb
    replace hd := HD.below hd hb
    replace hw := HW.below hw hb
    replace hQ := MBs.below hQ hb
    replace bl := bgo bl hb
    replace sd := sd2 sz2 df2 sd
    clear df2 sz2 old2 new2 hb
    clear x127
    refine wl_one (.eq (.bool true)) rfl 16 rfl (by rw [sd.1]; decide) (st_assign (.tmp 128) rfl x128) ?_
    intro f49 w49 df2 sz2 old2 new2 hb
    replace x3 := tr old2 x3 rfl
    replace x6 := tr old2 x6 rfl
    replace x7 := tr old2 x7 rfl
    replace x9 := tr old2 x9 rfl
    replace x50 := tr old2 x50 rfl
    replace x51 := tr old2 x51 rfl
    replace x52 := tr old2 x52 rfl
    replace x4 := tr old2 x4 rfl
    replace x128 := tr old2 x128 rfl
    replace x15 := tr old2 x15 rfl
    have x16 := Fk.e new2
    replace hN := MBs.below hN hb
    replace hM := MBs.below hM hb
    replace hd := HD.below hd hb
    replace hw := HW.below hw hb
    replace hQ := MBs.below hQ hb
    replace bl := bgo bl hb
    replace sd := sd2 sz2 df2 sd
    clear df2 sz2 old2 new2 hb
    refine wpList_nil ?_
    clear x128
    show Code.wp _ _ _ _ _
    refine wp_seq ?_
    refine wp_seq ?_
    rw [show hml sOp (homN n) = v9 from hho9] at hQ
    have hcase : v9 = now ∨ (v9 ≠ now ∧ mb = some v9) := by
      by_cases q : v9 = now
      · exact .inl q
      · exact .inr ⟨q, hv9.resolve_left q⟩
    rcases hcase with hcase | ⟨hcase, hmb⟩
    rotate_left
    · skip
      rw [hmb] at hM
      obtain ⟨gM, cM, hvM, _⟩ := id hM.some
      refine wr_s [] (by rw [sd.1]; kernel_rfl) trivial ?_
      intro f50 w50 A hb
      replace x3 := A.t x3 rfl
      replace x6 := A.t x6 rfl
      replace x7 := A.t x7 rfl
      replace x9 := A.t x9 rfl
      replace x50 := A.t x50 rfl
      replace x51 := A.t x51 rfl
      replace x52 := A.t x52 rfl
      replace x4 := A.t x4 rfl
      replace x15 := A.t x15 rfl
      replace x16 := A.t x16 rfl
      replace hN := MBs.below hN hb
      replace hM := MBs.below hM hb
      replace hd := HD.below hd hb
      replace hw := HW.below hw hb
      replace hQ := MBs.below hQ hb
      replace bl := bgo bl hb
      replace sd := A.sd sd
      clear A hb
      refine wl_one (.eq (.bool true)) rfl 129 rfl (by rw [sd.1]; decide) (st_move (.tmp 16) rfl x16) ?_
      intro f51 w51 df2 sz2 old2 new2 hb
      replace x3 := tr old2 x3 rfl
      replace x6 := tr old2 x6 rfl
      replace x7 := tr old2 x7 rfl
      replace x9 := tr old2 x9 rfl
      replace x50 := tr old2 x50 rfl
      replace x51 := tr old2 x51 rfl
      replace x52 := tr old2 x52 rfl
      replace x4 := tr old2 x4 rfl
      replace x15 := tr old2 x15 rfl
      replace x16 := tr old2 x16 rfl
      have x129 := Fk.e new2
      replace hN := MBs.below hN hb
      replace hM := MBs.below hM hb
      replace hd := HD.below hd hb
      replace hw := HW.below hw hb
      replace hQ := MBs.below hQ hb
      replace bl := bgo bl hb
      replace sd := sd2 sz2 df2 sd
      clear df2 sz2 old2 new2 hb
      clear x16
      refine wl_one (.eq (.bool false)) rfl 130 rfl (by rw [sd.1]; decide) (st_not (.tmp 129) rfl true x129) ?_
      intro f52 w52 df2 sz2 old2 new2 hb
      replace x3 := tr old2 x3 rfl
      replace x6 := tr old2 x6 rfl
      replace x7 := tr old2 x7 rfl
      replace x9 := tr old2 x9 rfl
      replace x50 := tr old2 x50 rfl
      replace x51 := tr old2 x51 rfl
      replace x52 := tr old2 x52 rfl
      replace x4 := tr old2 x4 rfl
      replace x15 := tr old2 x15 rfl
      replace x129 := tr old2 x129 rfl
      have x130 := Fk.e new2
      replace hN := MBs.below hN hb
      replace hM := MBs.below hM hb
      replace hd := HD.below hd hb
      replace hw := HW.below hw hb
      replace hQ := MBs.below hQ hb
      replace bl := bgo bl hb
      replace sd := sd2 sz2 df2 sd
      clear df2 sz2 old2 new2 hb
      clear x129
      refine wl_one (.eq (.bool false)) rfl 131 rfl (by rw [sd.1]; decide) (st_move (.tmp 130) rfl x130) ?_
      intro f53 w53 df2 sz2 old2 new2 hb
      replace x3 := tr old2 x3 rfl
      replace x6 := tr old2 x6 rfl
      replace x7 := tr old2 x7 rfl
      replace x9 := tr old2 x9 rfl
      replace x50 := tr old2 x50 rfl
      replace x51 := tr old2 x51 rfl
      replace x52 := tr old2 x52 rfl
      replace x4 := tr old2 x4 rfl
      replace x15 := tr old2 x15 rfl
      replace x130 := tr old2 x130 rfl
      have x131 := Fk.e new2
      replace hN := MBs.below hN hb
      replace hM := MBs.below hM hb
      replace hd := HD.below hd hb
      replace hw := HW.below hw hb
      replace hQ := MBs.below hQ hb
      replace bl := bgo bl hb
      replace sd := sd2 sz2 df2 sd
      clear df2 sz2 old2 new2 hb
      clear x130
      refine wl_onew (.eq (vQ)) (want_of rfl rfl x131) 132 rfl (by rw [sd.1]; decide) (st_move (.tmp 15) rfl x15) ?_
      intro f54 w54 df2 sz2 old2 new2 hb
      replace bl0 := bl
      replace x3 := tr old2 x3 rfl
      replace x6 := tr old2 x6 rfl
      replace x7 := tr old2 x7 rfl
      replace x9 := tr old2 x9 rfl
      replace x50 := tr old2 x50 rfl
      replace x51 := tr old2 x51 rfl
      replace x52 := tr old2 x52 rfl
      replace x4 := tr old2 x4 rfl
      replace x15 := tr old2 x15 rfl
      replace x131 := tr old2 x131 rfl
      have x132 := Fk.e new2
      replace hN := MBs.below hN hb
      replace hM := MBs.below hM hb
      replace hd := HD.below hd hb
      replace hw := HW.below hw hb
      replace hQ := MBs.below hQ hb
      replace bl := bgo bl hb
      replace sd := sd2 sz2 df2 sd
      clear df2 sz2 old2 new2 hb
      refine wl_onew (.eq (vN)) (want_of rfl rfl x131) 133 rfl (by rw [sd.1]; decide) (st_move (.tmp 7) rfl x7) ?_
      intro f55 w55 df2 sz2 old2 new2 hb
      replace bl0 := bl
      replace x3 := tr old2 x3 rfl
      replace x6 := tr old2 x6 rfl
      replace x7 := tr old2 x7 rfl
      replace x9 := tr old2 x9 rfl
      replace x50 := tr old2 x50 rfl
      replace x51 := tr old2 x51 rfl
      replace x52 := tr old2 x52 rfl
      replace x4 := tr old2 x4 rfl
      replace x15 := tr old2 x15 rfl
      replace x131 := tr old2 x131 rfl
      replace x132 := tr old2 x132 rfl
      have x133 := Fk.e new2
      replace hN := MBs.below hN hb
      replace hM := MBs.below hM hb
      replace hd := HD.below hd hb
      replace hw := HW.below hw hb
      replace hQ := MBs.below hQ hb
      replace bl := bgo bl hb
      replace sd := sd2 sz2 df2 sd
      clear df2 sz2 old2 new2 hb
      refine wl_onew (.eq (.bool false)) (want_of rfl rfl x131) 134 rfl (by rw [sd.1]; decide) (st_call 19 (.func 19) _ _ #[vQ, vN] rfl rfl (arg2 x132 x133) Try.enter19 (by have h9 := same_mb hQ hN (by omega); rw [decide_eq_false hcase] at h9; exact h9)) ?_
      intro f56 w56 df2 sz2 old2 new2 hb
      replace bl0 := bl
      replace x3 := tr old2 x3 rfl
      replace x6 := tr old2 x6 rfl
      replace x7 := tr old2 x7 rfl
      replace x9 := tr old2 x9 rfl
      replace x50 := tr old2 x50 rfl
      replace x51 := tr old2 x51 rfl
      replace x52 := tr old2 x52 rfl
      replace x4 := tr old2 x4 rfl
      replace x15 := tr old2 x15 rfl
      replace x131 := tr old2 x131 rfl
      replace x132 := tr old2 x132 rfl
      replace x133 := tr old2 x133 rfl
      have x134 := Fk.e new2
      replace hN := MBs.below hN hb
      replace hM := MBs.below hM hb
      replace hd := HD.below hd hb
      replace hw := HW.below hw hb
      replace hQ := MBs.below hQ hb
      replace bl := bgo bl hb
      replace sd := sd2 sz2 df2 sd
      clear df2 sz2 old2 new2 hb
      clear x132
      clear x133
      refine wl_onew (.eq (.bool true)) (want_of rfl rfl x131) 135 rfl (by rw [sd.1]; decide) (st_not (.tmp 134) rfl false x134) ?_
      intro f57 w57 df2 sz2 old2 new2 hb
      replace bl0 := bl
      replace x3 := tr old2 x3 rfl
      replace x6 := tr old2 x6 rfl
      replace x7 := tr old2 x7 rfl
      replace x9 := tr old2 x9 rfl
      replace x50 := tr old2 x50 rfl
      replace x51 := tr old2 x51 rfl
      replace x52 := tr old2 x52 rfl
      replace x4 := tr old2 x4 rfl
      replace x15 := tr old2 x15 rfl
      replace x131 := tr old2 x131 rfl
      replace x134 := tr old2 x134 rfl
      have x135 := Fk.e new2
      replace hN := MBs.below hN hb
      replace hM := MBs.below hM hb
      replace hd := HD.below hd hb
      replace hw := HW.below hw hb
      replace hQ := MBs.below hQ hb
      replace bl := bgo bl hb
      replace sd := sd2 sz2 df2 sd
      clear df2 sz2 old2 new2 hb
      clear x134
      refine wl_onew (.eq (.bool true)) (want_of rfl rfl x131) 136 rfl (by rw [sd.1]; decide) (st_move (.tmp 135) rfl x135) ?_
      intro f58 w58 df2 sz2 old2 new2 hb
      replace bl0 := bl
      replace x3 := tr old2 x3 rfl
      replace x6 := tr old2 x6 rfl
      replace x7 := tr old2 x7 rfl
      replace x9 := tr old2 x9 rfl
      replace x50 := tr old2 x50 rfl
      replace x51 := tr old2 x51 rfl
      replace x52 := tr old2 x52 rfl
      replace x4 := tr old2 x4 rfl
      replace x15 := tr old2 x15 rfl
      replace x131 := tr old2 x131 rfl
      replace x135 := tr old2 x135 rfl
      have x136 := Fk.e new2
      replace hN := MBs.below hN hb
      replace hM := MBs.below hM hb
      replace hd := HD.below hd hb
      replace hw := HW.below hw hb
      replace hQ := MBs.below hQ hb
      replace bl := bgo bl hb
      replace sd := sd2 sz2 df2 sd
      clear df2 sz2 old2 new2 hb
      clear x135
      refine wl_onew (.eq (vM)) (want_of rfl rfl x136) 137 rfl (by rw [sd.1]; decide) (st_move (.tmp 9) rfl x9) ?_
      intro f59 w59 df2 sz2 old2 new2 hb
      replace bl0 := bl
      replace x3 := tr old2 x3 rfl
      replace x6 := tr old2 x6 rfl
      replace x7 := tr old2 x7 rfl
      replace x9 := tr old2 x9 rfl
      replace x50 := tr old2 x50 rfl
      replace x51 := tr old2 x51 rfl
      replace x52 := tr old2 x52 rfl
      replace x4 := tr old2 x4 rfl
      replace x15 := tr old2 x15 rfl
      replace x131 := tr old2 x131 rfl
      replace x136 := tr old2 x136 rfl
      have x137 := Fk.e new2
      replace hN := MBs.below hN hb
      replace hM := MBs.below hM hb
      replace hd := HD.below hd hb
      replace hw := HW.below hw hb
      replace hQ := MBs.below hQ hb
      replace bl := bgo bl hb
      replace sd := sd2 sz2 df2 sd
      clear df2 sz2 old2 new2 hb
      refine wl_onew (.eq (.bool false)) (want_of rfl rfl x136) 138 rfl (by rw [sd.1]; decide) (st_nonilS (.tmp 137) rfl x137 hvM) ?_
      intro f60 w60 df2 sz2 old2 new2 hb
      replace bl0 := bl
      replace x3 := tr old2 x3 rfl
      replace x6 := tr old2 x6 rfl
      replace x7 := tr old2 x7 rfl
      replace x9 := tr old2 x9 rfl
      replace x50 := tr old2 x50 rfl
      replace x51 := tr old2 x51 rfl
      replace x52 := tr old2 x52 rfl
      replace x4 := tr old2 x4 rfl
      replace x15 := tr old2 x15 rfl
      replace x131 := tr old2 x131 rfl
      replace x136 := tr old2 x136 rfl
      replace x137 := tr old2 x137 rfl
      have x138 := Fk.e new2
      replace hN := MBs.below hN hb
      replace hM := MBs.below hM hb
      replace hd := HD.below hd hb
      replace hw := HW.below hw hb
      replace hQ := MBs.below hQ hb
      replace bl := bgo bl hb
      replace sd := sd2 sz2 df2 sd
      clear df2 sz2 old2 new2 hb
      clear x137
      refine wl_onew (.eq (.bool false)) (want_of rfl rfl x136) 139 rfl (by rw [sd.1]; decide) (st_move (.tmp 138) rfl x138) ?_
      intro f61 w61 df2 sz2 old2 new2 hb
      replace bl0 := bl
      replace x3 := tr old2 x3 rfl
      replace x6 := tr old2 x6 rfl
      replace x7 := tr old2 x7 rfl
      replace x9 := tr old2 x9 rfl
      replace x50 := tr old2 x50 rfl
      replace x51 := tr old2 x51 rfl
      replace x52 := tr old2 x52 rfl
      replace x4 := tr old2 x4 rfl
      replace x15 := tr old2 x15 rfl
      replace x131 := tr old2 x131 rfl
      replace x136 := tr old2 x136 rfl
      replace x138 := tr old2 x138 rfl
      have x139 := Fk.e new2
      replace hN := MBs.below hN hb
      replace hM := MBs.below hM hb
      replace hd := HD.below hd hb
      replace hw := HW.below hw hb
      replace hQ := MBs.below hQ hb
      replace bl := bgo bl hb
      replace sd := sd2 sz2 df2 sd
      clear df2 sz2 old2 new2 hb
      clear x138
      refine wl_onew (.eq (vQ)) (want_of rfl rfl x139) 140 rfl (by rw [sd.1]; decide) (st_move (.tmp 15) rfl x15) ?_
      intro f62 w62 df2 sz2 old2 new2 hb
      replace bl0 := bl
      replace x3 := tr old2 x3 rfl
      replace x6 := tr old2 x6 rfl
      replace x7 := tr old2 x7 rfl
      replace x9 := tr old2 x9 rfl
      replace x50 := tr old2 x50 rfl
      replace x51 := tr old2 x51 rfl
      replace x52 := tr old2 x52 rfl
      replace x4 := tr old2 x4 rfl
      replace x15 := tr old2 x15 rfl
      replace x131 := tr old2 x131 rfl
      replace x136 := tr old2 x136 rfl
      replace x139 := tr old2 x139 rfl
      have x140 := Fk.e new2
      replace hN := MBs.below hN hb
      replace hM := MBs.below hM hb
      replace hd := HD.below hd hb
      replace hw := HW.below hw hb
      replace hQ := MBs.below hQ hb
      replace bl := bgo bl hb
      replace sd := sd2 sz2 df2 sd
      clear df2 sz2 old2 new2 hb
      refine wl_onew (.eq (vM)) (want_of rfl rfl x139) 141 rfl (by rw [sd.1]; decide) (st_move (.tmp 9) rfl x9) ?_
      intro f63 w63 df2 sz2 old2 new2 hb
      replace bl0 := bl
      replace x3 := tr old2 x3 rfl
      replace x6 := tr old2 x6 rfl
      replace x7 := tr old2 x7 rfl
      replace x9 := tr old2 x9 rfl
      replace x50 := tr old2 x50 rfl
      replace x51 := tr old2 x51 rfl
      replace x52 := tr old2 x52 rfl
      replace x4 := tr old2 x4 rfl
      replace x15 := tr old2 x15 rfl
      replace x131 := tr old2 x131 rfl
      replace x136 := tr old2 x136 rfl
      replace x139 := tr old2 x139 rfl
      replace x140 := tr old2 x140 rfl
      have x141 := Fk.e new2
      replace hN := MBs.below hN hb
      replace hM := MBs.below hM hb
      replace hd := HD.below hd hb
      replace hw := HW.below hw hb
      replace hQ := MBs.below hQ hb
      replace bl := bgo bl hb
      replace sd := sd2 sz2 df2 sd
      clear df2 sz2 old2 new2 hb
      refine wl_onew (.eq (.bool true)) (want_of rfl rfl x139) 142 rfl (by rw [sd.1]; decide) (st_call 19 (.func 19) _ _ #[vQ, vM] rfl rfl (arg2 x140 x141) Try.enter19 (by have h9 := same_mb hQ hM (by omega); rw [decide_eq_true rfl] at h9; exact h9)) ?_
      intro f64 w64 df2 sz2 old2 new2 hb
      replace bl0 := bl
      replace x3 := tr old2 x3 rfl
      replace x6 := tr old2 x6 rfl
      replace x7 := tr old2 x7 rfl
      replace x9 := tr old2 x9 rfl
      replace x50 := tr old2 x50 rfl
      replace x51 := tr old2 x51 rfl
      replace x52 := tr old2 x52 rfl
      replace x4 := tr old2 x4 rfl
      replace x15 := tr old2 x15 rfl
      replace x131 := tr old2 x131 rfl
      replace x136 := tr old2 x136 rfl
      replace x139 := tr old2 x139 rfl
      replace x140 := tr old2 x140 rfl
      replace x141 := tr old2 x141 rfl
      have x142 := Fk.e new2
      replace hN := MBs.below hN hb
      replace hM := MBs.below hM hb
      replace hd := HD.below hd hb
      replace hw := HW.below hw hb
      replace hQ := MBs.below hQ hb
      replace bl := bgo bl hb
      replace sd := sd2 sz2 df2 sd
      clear df2 sz2 old2 new2 hb
      clear x140
      clear x141
      refine wl_onew (.eq (.bool false)) (want_of rfl rfl x139) 143 rfl (by rw [sd.1]; decide) (st_not (.tmp 142) rfl true x142) ?_
      intro f65 w65 df2 sz2 old2 new2 hb
      replace bl0 := bl
      replace x3 := tr old2 x3 rfl
      replace x6 := tr old2 x6 rfl
      replace x7 := tr old2 x7 rfl
      replace x9 := tr old2 x9 rfl
      replace x50 := tr old2 x50 rfl
      replace x51 := tr old2 x51 rfl
      replace x52 := tr old2 x52 rfl
      replace x4 := tr old2 x4 rfl
      replace x15 := tr old2 x15 rfl
      replace x131 := tr old2 x131 rfl
      replace x136 := tr old2 x136 rfl
      replace x139 := tr old2 x139 rfl
      replace x142 := tr old2 x142 rfl
      have x143 := Fk.e new2
      replace hN := MBs.below hN hb
      replace hM := MBs.below hM hb
      replace hd := HD.below hd hb
      replace hw := HW.below hw hb
      replace hQ := MBs.below hQ hb
      replace bl := bgo bl hb
      replace sd := sd2 sz2 df2 sd
      clear df2 sz2 old2 new2 hb
      clear x142
      refine wl_onew (.eq (.bool false)) (want_of rfl rfl x136) 144 rfl (by rw [sd.1]; decide) (st_pick_f' (.tmp 139) (.const (.bool true)) (.tmp 143) rfl x139 x143) ?_
      intro f66 w66 df2 sz2 old2 new2 hb
      replace bl0 := bl
      replace x3 := tr old2 x3 rfl
      replace x6 := tr old2 x6 rfl
      replace x7 := tr old2 x7 rfl
      replace x9 := tr old2 x9 rfl
      replace x50 := tr old2 x50 rfl
      replace x51 := tr old2 x51 rfl
      replace x52 := tr old2 x52 rfl
      replace x4 := tr old2 x4 rfl
      replace x15 := tr old2 x15 rfl
      replace x131 := tr old2 x131 rfl
      replace x136 := tr old2 x136 rfl
      replace x139 := tr old2 x139 rfl
      replace x143 := tr old2 x143 rfl
      have x144 := Fk.e new2
      replace hN := MBs.below hN hb
      replace hM := MBs.below hM hb
      replace hd := HD.below hd hb
      replace hw := HW.below hw hb
      replace hQ := MBs.below hQ hb
      replace bl := bgo bl hb
      replace sd := sd2 sz2 df2 sd
      clear df2 sz2 old2 new2 hb
      clear x139
      clear x143
      refine wl_onew (.eq (.bool false)) (want_of rfl rfl x131) 145 rfl (by rw [sd.1]; decide) (st_pick_t (.tmp 136) (.tmp 144) (.const (.bool false)) rfl x136 x144) ?_
      intro f67 w67 df2 sz2 old2 new2 hb
      replace bl0 := bl
      replace x3 := tr old2 x3 rfl
      replace x6 := tr old2 x6 rfl
      replace x7 := tr old2 x7 rfl
      replace x9 := tr old2 x9 rfl
      replace x50 := tr old2 x50 rfl
      replace x51 := tr old2 x51 rfl
      replace x52 := tr old2 x52 rfl
      replace x4 := tr old2 x4 rfl
      replace x15 := tr old2 x15 rfl
      replace x131 := tr old2 x131 rfl
      replace x136 := tr old2 x136 rfl
      replace x144 := tr old2 x144 rfl
      have x145 := Fk.e new2
      replace hN := MBs.below hN hb
      replace hM := MBs.below hM hb
      replace hd := HD.below hd hb
      replace hw := HW.below hw hb
      replace hQ := MBs.below hQ hb
      replace bl := bgo bl hb
      replace sd := sd2 sz2 df2 sd
      clear df2 sz2 old2 new2 hb
      clear x136
      clear x144
      refine wl_one (.eq (.bool false)) rfl 146 rfl (by rw [sd.1]; decide) (st_pick_f' (.tmp 131) (.const (.bool true)) (.tmp 145) rfl x131 x145) ?_
      intro f68 w68 df2 sz2 old2 new2 hb
      replace x3 := tr old2 x3 rfl
      replace x6 := tr old2 x6 rfl
      replace x7 := tr old2 x7 rfl
      replace x9 := tr old2 x9 rfl
      replace x50 := tr old2 x50 rfl
      replace x51 := tr old2 x51 rfl
      replace x52 := tr old2 x52 rfl
      replace x4 := tr old2 x4 rfl
      replace x15 := tr old2 x15 rfl
      replace x131 := tr old2 x131 rfl
      replace x145 := tr old2 x145 rfl
      have x146 := Fk.e new2
      replace hN := MBs.below hN hb
      replace hM := MBs.below hM hb
      replace hd := HD.below hd hb
      replace hw := HW.below hw hb
      replace hQ := MBs.below hQ hb
      replace bl := bgo bl hb
      replace sd := sd2 sz2 df2 sd
      clear df2 sz2 old2 new2 hb
      refine wpList_nil ?_
      clear x131
      clear x145
      show Code.wp _ _ _ _ _
      refine wp_cond_false x146 ?_
      refine wp_skip ?_
      show Code.wp _ _ _ _ _
      refine wr_a [.eq (vQ), .eq (vQ), .eq (.slice none 0 0)] (by rw [sd.1]; kernel_rfl) ⟨fun hwt ac u K => ?_, fun hwt ac u K => ?_, fun hwt ac u K => ?_, trivial⟩ ?_
      · exact st_move (.tmp 15) rfl (K.t x15 rfl)
      · exact st_assign (.tmp 147) rfl (K.dep 0 147 rfl)
      · exact st_assign (.const (.slice none 0 0)) rfl rfl
      intro f69 w69 A hb
      replace x3 := A.t x3 rfl
      replace x6 := A.t x6 rfl
      clear x7
      clear x9
      replace x50 := A.t x50 rfl
      replace x51 := A.t x51 rfl
      replace x52 := A.t x52 rfl
      replace x4 := A.t x4 rfl
      replace x15 := A.t x15 rfl
      replace x146 := A.t x146 rfl
      have x7 := A.e 1 7 rfl rfl
      have x9 := A.e 2 9 rfl rfl
      replace hN := MBs.below hN hb
      replace hM := MBs.below hM hb
      replace hd := HD.below hd hb
      replace hw := HW.below hw hb
      replace hQ := MBs.below hQ hb
      replace bl := bgo bl hb
      replace sd := A.sd sd
      clear A hb
      clear x15
      clear x146
      show Code.wp _ _ _ _ _
      clear hN hM
      have hN := hQ
      clear hQ
      have hM : MBs w69 DD VV (homN n) (.none) (.slice none 0 0) := .inl ⟨rfl, rfl⟩
      refine wr_s [.eq (.int .i64 ((k + 1 : Nat) : Int))] (by rw [sd.1]; kernel_rfl) ⟨fun hwt ac u K => ?_, trivial⟩ ?_
      · exact st_addz (.tmp 52) (.const (.int .i64 1)) rfl _ _ _ (K.t x52 rfl) rfl (by omega) (by omega) (by omega)
      intro f70 w70 A hb
      replace x3 := A.t x3 rfl
      replace x6 := A.t x6 rfl
      replace x50 := A.t x50 rfl
      replace x51 := A.t x51 rfl
      replace x52 := A.t x52 rfl
      replace x4 := A.t x4 rfl
      replace x7 := A.t x7 rfl
      replace x9 := A.t x9 rfl
      have x148 := A.e 0 148 rfl rfl
      replace hd := HD.below hd hb
      replace hw := HW.below hw hb
      replace hN := MBs.below hN hb
      replace hM := MBs.below hM hb
      replace bl := bgo bl hb
      replace sd := A.sd sd
      clear A hb
      refine wl_one (.eq (.int .i64 ((k + 1 : Nat) : Int))) rfl 52 rfl (by rw [sd.1]; decide) (st_move (.tmp 148) rfl x148) ?_
      intro f71 w71 df2 sz2 old2 new2 hb
      replace x3 := tr old2 x3 rfl
      replace x6 := tr old2 x6 rfl
      replace x50 := tr old2 x50 rfl
      replace x51 := tr old2 x51 rfl
      clear x52
      replace x4 := tr old2 x4 rfl
      replace x7 := tr old2 x7 rfl
      replace x9 := tr old2 x9 rfl
      replace x148 := tr old2 x148 rfl
      have x52 := Fk.e new2
      replace hd := HD.below hd hb
      replace hw := HW.below hw hb
      replace hN := MBs.below hN hb
      replace hM := MBs.below hM hb
      replace bl := bgo bl hb
      replace sd := sd2 sz2 df2 sd
      clear df2 sz2 old2 new2 hb
      refine wpList_nil ?_
      clear x148
      show (∃ _, _) ∧ _
      refine ⟨⟨k + 1, sOp, DD, gw, VV, false, v9, none, vQ, .slice none 0 0, by omega, gs.le (by omega), hLI9, hDD, hVD, hVw, sd.1, sd.2, x3, x6, x50, x51, x52, x4, x7, x9, hd, hw, hN, hM, bl⟩, ?_⟩
      rw [show f71.eval (.tmp 52) = _ from x52, show _ = _ from hcnt]
      first | (simp [intOf]; done) | (simp [intOf]; omega)
    refine wr_s [] (by rw [sd.1]; kernel_rfl) trivial ?_
    intro f50 w50 A hb
    replace x3 := A.t x3 rfl
    replace x6 := A.t x6 rfl
    replace x7 := A.t x7 rfl
    replace x9 := A.t x9 rfl
    replace x50 := A.t x50 rfl
    replace x51 := A.t x51 rfl
    replace x52 := A.t x52 rfl
    replace x4 := A.t x4 rfl
    replace x15 := A.t x15 rfl
    replace x16 := A.t x16 rfl
    replace hN := MBs.below hN hb
    replace hM := MBs.below hM hb
    replace hd := HD.below hd hb
    replace hw := HW.below hw hb
    replace hQ := MBs.below hQ hb
    replace bl := bgo bl hb
    replace sd := A.sd sd
    clear A hb
    refine wl_one (.eq (.bool true)) rfl 129 rfl (by rw [sd.1]; decide) (st_move (.tmp 16) rfl x16) ?_
    intro f51 w51 df2 sz2 old2 new2 hb
    replace x3 := tr old2 x3 rfl
    replace x6 := tr old2 x6 rfl
    replace x7 := tr old2 x7 rfl
    replace x9 := tr old2 x9 rfl
    replace x50 := tr old2 x50 rfl
    replace x51 := tr old2 x51 rfl
    replace x52 := tr old2 x52 rfl
    replace x4 := tr old2 x4 rfl
    replace x15 := tr old2 x15 rfl
    replace x16 := tr old2 x16 rfl
    have x129 := Fk.e new2
    replace hN := MBs.below hN hb
    replace hM := MBs.below hM hb
    replace hd := HD.below hd hb
    replace hw := HW.below hw hb
    replace hQ := MBs.below hQ hb
    replace bl := bgo bl hb
    replace sd := sd2 sz2 df2 sd
    clear df2 sz2 old2 new2 hb
    clear x16
    refine wl_one (.eq (.bool false)) rfl 130 rfl (by rw [sd.1]; decide) (st_not (.tmp 129) rfl true x129) ?_
    intro f52 w52 df2 sz2 old2 new2 hb
    replace x3 := tr old2 x3 rfl
    replace x6 := tr old2 x6 rfl
    replace x7 := tr old2 x7 rfl
    replace x9 := tr old2 x9 rfl
    replace x50 := tr old2 x50 rfl
    replace x51 := tr old2 x51 rfl
    replace x52 := tr old2 x52 rfl
    replace x4 := tr old2 x4 rfl
    replace x15 := tr old2 x15 rfl
    replace x129 := tr old2 x129 rfl
    have x130 := Fk.e new2
    replace hN := MBs.below hN hb
    replace hM := MBs.below hM hb
    replace hd := HD.below hd hb
    replace hw := HW.below hw hb
    replace hQ := MBs.below hQ hb
    replace bl := bgo bl hb
    replace sd := sd2 sz2 df2 sd
    clear df2 sz2 old2 new2 hb
    clear x129
    refine wl_one (.eq (.bool false)) rfl 131 rfl (by rw [sd.1]; decide) (st_move (.tmp 130) rfl x130) ?_
    intro f53 w53 df2 sz2 old2 new2 hb
    replace x3 := tr old2 x3 rfl
    replace x6 := tr old2 x6 rfl
    replace x7 := tr old2 x7 rfl
    replace x9 := tr old2 x9 rfl
    replace x50 := tr old2 x50 rfl
    replace x51 := tr old2 x51 rfl
    replace x52 := tr old2 x52 rfl
    replace x4 := tr old2 x4 rfl
    replace x15 := tr old2 x15 rfl
    replace x130 := tr old2 x130 rfl
    have x131 := Fk.e new2
    replace hN := MBs.below hN hb
    replace hM := MBs.below hM hb
    replace hd := HD.below hd hb
    replace hw := HW.below hw hb
    replace hQ := MBs.below hQ hb
    replace bl := bgo bl hb
    replace sd := sd2 sz2 df2 sd
    clear df2 sz2 old2 new2 hb
    clear x130
    refine wl_onew (.eq (vQ)) (want_of rfl rfl x131) 132 rfl (by rw [sd.1]; decide) (st_move (.tmp 15) rfl x15) ?_
    intro f54 w54 df2 sz2 old2 new2 hb
    replace bl0 := bl
    replace x3 := tr old2 x3 rfl
    replace x6 := tr old2 x6 rfl
    replace x7 := tr old2 x7 rfl
    replace x9 := tr old2 x9 rfl
    replace x50 := tr old2 x50 rfl
    replace x51 := tr old2 x51 rfl
    replace x52 := tr old2 x52 rfl
    replace x4 := tr old2 x4 rfl
    replace x15 := tr old2 x15 rfl
    replace x131 := tr old2 x131 rfl
    have x132 := Fk.e new2
    replace hN := MBs.below hN hb
    replace hM := MBs.below hM hb
    replace hd := HD.below hd hb
    replace hw := HW.below hw hb
    replace hQ := MBs.below hQ hb
    replace bl := bgo bl hb
    replace sd := sd2 sz2 df2 sd
    clear df2 sz2 old2 new2 hb
    refine wl_onew (.eq (vN)) (want_of rfl rfl x131) 133 rfl (by rw [sd.1]; decide) (st_move (.tmp 7) rfl x7) ?_
    intro f55 w55 df2 sz2 old2 new2 hb
    replace bl0 := bl
    replace x3 := tr old2 x3 rfl
    replace x6 := tr old2 x6 rfl
    replace x7 := tr old2 x7 rfl
    replace x9 := tr old2 x9 rfl
    replace x50 := tr old2 x50 rfl
    replace x51 := tr old2 x51 rfl
    replace x52 := tr old2 x52 rfl
    replace x4 := tr old2 x4 rfl
    replace x15 := tr old2 x15 rfl
    replace x131 := tr old2 x131 rfl
    replace x132 := tr old2 x132 rfl
    have x133 := Fk.e new2
    replace hN := MBs.below hN hb
    replace hM := MBs.below hM hb
    replace hd := HD.below hd hb
    replace hw := HW.below hw hb
    replace hQ := MBs.below hQ hb
    replace bl := bgo bl hb
    replace sd := sd2 sz2 df2 sd
    clear df2 sz2 old2 new2 hb
    refine wl_onew (.eq (.bool true)) (want_of rfl rfl x131) 134 rfl (by rw [sd.1]; decide) (st_call 19 (.func 19) _ _ #[vQ, vN] rfl rfl (arg2 x132 x133) Try.enter19 (by have h9 := same_mb hQ hN (by omega); rw [decide_eq_true hcase] at h9; exact h9)) ?_
    intro f56 w56 df2 sz2 old2 new2 hb
    replace bl0 := bl
    replace x3 := tr old2 x3 rfl
    replace x6 := tr old2 x6 rfl
    replace x7 := tr old2 x7 rfl
    replace x9 := tr old2 x9 rfl
    replace x50 := tr old2 x50 rfl
    replace x51 := tr old2 x51 rfl
    replace x52 := tr old2 x52 rfl
    replace x4 := tr old2 x4 rfl
    replace x15 := tr old2 x15 rfl
    replace x131 := tr old2 x131 rfl
    replace x132 := tr old2 x132 rfl
    replace x133 := tr old2 x133 rfl
    have x134 := Fk.e new2
    replace hN := MBs.below hN hb
    replace hM := MBs.below hM hb
    replace hd := HD.below hd hb
    replace hw := HW.below hw hb
    replace hQ := MBs.below hQ hb
    replace bl := bgo bl hb
    replace sd := sd2 sz2 df2 sd
    clear df2 sz2 old2 new2 hb
    clear x132
    clear x133
    refine wl_onew (.eq (.bool false)) (want_of rfl rfl x131) 135 rfl (by rw [sd.1]; decide) (st_not (.tmp 134) rfl true x134) ?_
    intro f57 w57 df2 sz2 old2 new2 hb
    replace bl0 := bl
    replace x3 := tr old2 x3 rfl
    replace x6 := tr old2 x6 rfl
    replace x7 := tr old2 x7 rfl
    replace x9 := tr old2 x9 rfl
    replace x50 := tr old2 x50 rfl
    replace x51 := tr old2 x51 rfl
    replace x52 := tr old2 x52 rfl
    replace x4 := tr old2 x4 rfl
    replace x15 := tr old2 x15 rfl
    replace x131 := tr old2 x131 rfl
    replace x134 := tr old2 x134 rfl
    have x135 := Fk.e new2
    replace hN := MBs.below hN hb
    replace hM := MBs.below hM hb
    replace hd := HD.below hd hb
    replace hw := HW.below hw hb
    replace hQ := MBs.below hQ hb
    replace bl := bgo bl hb
    replace sd := sd2 sz2 df2 sd
    clear df2 sz2 old2 new2 hb
    clear x134
    refine wl_onew (.eq (.bool false)) (want_of rfl rfl x131) 136 rfl (by rw [sd.1]; decide) (st_move (.tmp 135) rfl x135) ?_
    intro f58 w58 df2 sz2 old2 new2 hb
    replace bl0 := bl
    replace x3 := tr old2 x3 rfl
    replace x6 := tr old2 x6 rfl
    replace x7 := tr old2 x7 rfl
    replace x9 := tr old2 x9 rfl
    replace x50 := tr old2 x50 rfl
    replace x51 := tr old2 x51 rfl
    replace x52 := tr old2 x52 rfl
    replace x4 := tr old2 x4 rfl
    replace x15 := tr old2 x15 rfl
    replace x131 := tr old2 x131 rfl
    replace x135 := tr old2 x135 rfl
    have x136 := Fk.e new2
    replace hN := MBs.below hN hb
    replace hM := MBs.below hM hb
    replace hd := HD.below hd hb
    replace hw := HW.below hw hb
    replace hQ := MBs.below hQ hb
    replace bl := bgo bl hb
    replace sd := sd2 sz2 df2 sd
    clear df2 sz2 old2 new2 hb
    clear x135
    refine wl_skipw (unwant_of rfl rfl x136 rfl) 137 rfl ?_
    intro f59 df2 sz2 old2
    replace x3 := tr old2 x3 rfl
    replace x6 := tr old2 x6 rfl
    replace x7 := tr old2 x7 rfl
    replace x9 := tr old2 x9 rfl
    replace x50 := tr old2 x50 rfl
    replace x51 := tr old2 x51 rfl
    replace x52 := tr old2 x52 rfl
    replace x4 := tr old2 x4 rfl
    replace x15 := tr old2 x15 rfl
    replace x131 := tr old2 x131 rfl
    replace x136 := tr old2 x136 rfl
    replace sd := sd2 sz2 df2 sd
    clear df2 sz2 old2
    refine wl_skipw (unwant_of rfl rfl x136 rfl) 138 rfl ?_
    intro f60 df2 sz2 old2
    replace x3 := tr old2 x3 rfl
    replace x6 := tr old2 x6 rfl
    replace x7 := tr old2 x7 rfl
    replace x9 := tr old2 x9 rfl
    replace x50 := tr old2 x50 rfl
    replace x51 := tr old2 x51 rfl
    replace x52 := tr old2 x52 rfl
    replace x4 := tr old2 x4 rfl
    replace x15 := tr old2 x15 rfl
    replace x131 := tr old2 x131 rfl
    replace x136 := tr old2 x136 rfl
    replace sd := sd2 sz2 df2 sd
    clear df2 sz2 old2
    refine wl_skipu (unwant_of rfl rfl x136 rfl) 139 rfl (by rw [sd.1]; decide) ?_
    intro f61 df2 sz2 old2 und2
    replace x3 := tr old2 x3 rfl
    replace x6 := tr old2 x6 rfl
    replace x7 := tr old2 x7 rfl
    replace x9 := tr old2 x9 rfl
    replace x50 := tr old2 x50 rfl
    replace x51 := tr old2 x51 rfl
    replace x52 := tr old2 x52 rfl
    replace x4 := tr old2 x4 rfl
    replace x15 := tr old2 x15 rfl
    replace x131 := tr old2 x131 rfl
    replace x136 := tr old2 x136 rfl
    replace sd := sd2 sz2 df2 sd
    clear df2 sz2 old2
    have x139 := und2
    clear und2
    refine wl_skipw (unwant_undef rfl rfl x139) 140 rfl ?_
    intro f62 df2 sz2 old2
    replace x3 := tr old2 x3 rfl
    replace x6 := tr old2 x6 rfl
    replace x7 := tr old2 x7 rfl
    replace x9 := tr old2 x9 rfl
    replace x50 := tr old2 x50 rfl
    replace x51 := tr old2 x51 rfl
    replace x52 := tr old2 x52 rfl
    replace x4 := tr old2 x4 rfl
    replace x15 := tr old2 x15 rfl
    replace x131 := tr old2 x131 rfl
    replace x136 := tr old2 x136 rfl
    replace x139 := tr old2 x139 rfl
    replace sd := sd2 sz2 df2 sd
    clear df2 sz2 old2
    refine wl_skipw (unwant_undef rfl rfl x139) 141 rfl ?_
    intro f63 df2 sz2 old2
    replace x3 := tr old2 x3 rfl
    replace x6 := tr old2 x6 rfl
    replace x7 := tr old2 x7 rfl
    replace x9 := tr old2 x9 rfl
    replace x50 := tr old2 x50 rfl
    replace x51 := tr old2 x51 rfl
    replace x52 := tr old2 x52 rfl
    replace x4 := tr old2 x4 rfl
    replace x15 := tr old2 x15 rfl
    replace x131 := tr old2 x131 rfl
    replace x136 := tr old2 x136 rfl
    replace x139 := tr old2 x139 rfl
    replace sd := sd2 sz2 df2 sd
    clear df2 sz2 old2
    refine wl_skipw (unwant_undef rfl rfl x139) 142 rfl ?_
    intro f64 df2 sz2 old2
    replace x3 := tr old2 x3 rfl
    replace x6 := tr old2 x6 rfl
    replace x7 := tr old2 x7 rfl
    replace x9 := tr old2 x9 rfl
    replace x50 := tr old2 x50 rfl
    replace x51 := tr old2 x51 rfl
    replace x52 := tr old2 x52 rfl
    replace x4 := tr old2 x4 rfl
    replace x15 := tr old2 x15 rfl
    replace x131 := tr old2 x131 rfl
    replace x136 := tr old2 x136 rfl
    replace x139 := tr old2 x139 rfl
    replace sd := sd2 sz2 df2 sd
    clear df2 sz2 old2
    refine wl_skipw (unwant_undef rfl rfl x139) 143 rfl ?_
    intro f65 df2 sz2 old2
    replace x3 := tr old2 x3 rfl
    replace x6 := tr old2 x6 rfl
    replace x7 := tr old2 x7 rfl
    replace x9 := tr old2 x9 rfl
    replace x50 := tr old2 x50 rfl
    replace x51 := tr old2 x51 rfl
    replace x52 := tr old2 x52 rfl
    replace x4 := tr old2 x4 rfl
    replace x15 := tr old2 x15 rfl
    replace x131 := tr old2 x131 rfl
    replace x136 := tr old2 x136 rfl
    replace x139 := tr old2 x139 rfl
    replace sd := sd2 sz2 df2 sd
    clear df2 sz2 old2
    refine wl_skipw (unwant_of rfl rfl x136 rfl) 144 rfl ?_
    intro f66 df2 sz2 old2
    replace x3 := tr old2 x3 rfl
    replace x6 := tr old2 x6 rfl
    replace x7 := tr old2 x7 rfl
    replace x9 := tr old2 x9 rfl
    replace x50 := tr old2 x50 rfl
    replace x51 := tr old2 x51 rfl
    replace x52 := tr old2 x52 rfl
    replace x4 := tr old2 x4 rfl
    replace x15 := tr old2 x15 rfl
    replace x131 := tr old2 x131 rfl
    replace x136 := tr old2 x136 rfl
    replace x139 := tr old2 x139 rfl
    replace sd := sd2 sz2 df2 sd
    clear df2 sz2 old2
    clear x139
    refine wl_onew (.eq (.bool false)) (want_of rfl rfl x131) 145 rfl (by rw [sd.1]; decide) (st_pick_f' (.tmp 136) (.tmp 144) (.const (.bool false)) rfl x136 rfl) ?_
    intro f67 w67 df2 sz2 old2 new2 hb
    replace bl0 := bl
    replace x3 := tr old2 x3 rfl
    replace x6 := tr old2 x6 rfl
    replace x7 := tr old2 x7 rfl
    replace x9 := tr old2 x9 rfl
    replace x50 := tr old2 x50 rfl
    replace x51 := tr old2 x51 rfl
    replace x52 := tr old2 x52 rfl
    replace x4 := tr old2 x4 rfl
    replace x15 := tr old2 x15 rfl
    replace x131 := tr old2 x131 rfl
    replace x136 := tr old2 x136 rfl
    have x145 := Fk.e new2
    replace hN := MBs.below hN hb
    replace hM := MBs.below hM hb
    replace hd := HD.below hd hb
    replace hw := HW.below hw hb
    replace hQ := MBs.below hQ hb
    replace bl := bgo bl hb
    replace sd := sd2 sz2 df2 sd
    clear df2 sz2 old2 new2 hb
    clear x136
    refine wl_one (.eq (.bool false)) rfl 146 rfl (by rw [sd.1]; decide) (st_pick_f' (.tmp 131) (.const (.bool true)) (.tmp 145) rfl x131 x145) ?_
    intro f68 w68 df2 sz2 old2 new2 hb
    replace x3 := tr old2 x3 rfl
    replace x6 := tr old2 x6 rfl
    replace x7 := tr old2 x7 rfl
    replace x9 := tr old2 x9 rfl
    replace x50 := tr old2 x50 rfl
    replace x51 := tr old2 x51 rfl
    replace x52 := tr old2 x52 rfl
    replace x4 := tr old2 x4 rfl
    replace x15 := tr old2 x15 rfl
    replace x131 := tr old2 x131 rfl
    replace x145 := tr old2 x145 rfl
    have x146 := Fk.e new2
    replace hN := MBs.below hN hb
    replace hM := MBs.below hM hb
    replace hd := HD.below hd hb
    replace hw := HW.below hw hb
    replace hQ := MBs.below hQ hb
    replace bl := bgo bl hb
    replace sd := sd2 sz2 df2 sd
    clear df2 sz2 old2 new2 hb
    refine wpList_nil ?_
    clear x131
    clear x145
    show Code.wp _ _ _ _ _
    refine wp_cond_false x146 ?_
    refine wp_skip ?_
    show Code.wp _ _ _ _ _
    refine wr_a [.eq (vQ), .eq (vQ), .eq (.slice none 0 0)] (by rw [sd.1]; kernel_rfl) ⟨fun hwt ac u K => ?_, fun hwt ac u K => ?_, fun hwt ac u K => ?_, trivial⟩ ?_
    · exact st_move (.tmp 15) rfl (K.t x15 rfl)
    · exact st_assign (.tmp 147) rfl (K.dep 0 147 rfl)
    · exact st_assign (.const (.slice none 0 0)) rfl rfl
    intro f69 w69 A hb
    replace x3 := A.t x3 rfl
    replace x6 := A.t x6 rfl
    clear x7
    clear x9
    replace x50 := A.t x50 rfl
    replace x51 := A.t x51 rfl
    replace x52 := A.t x52 rfl
    replace x4 := A.t x4 rfl
    replace x15 := A.t x15 rfl
    replace x146 := A.t x146 rfl
    have x7 := A.e 1 7 rfl rfl
    have x9 := A.e 2 9 rfl rfl
    replace hN := MBs.below hN hb
    replace hM := MBs.below hM hb
    replace hd := HD.below hd hb
    replace hw := HW.below hw hb
    replace hQ := MBs.below hQ hb
    replace bl := bgo bl hb
    replace sd := A.sd sd
    clear A hb
    clear x15
    clear x146
    show Code.wp _ _ _ _ _
    clear hN hM
    have hN := hQ
    clear hQ
    have hM : MBs w69 DD VV (homN n) (.none) (.slice none 0 0) := .inl ⟨rfl, rfl⟩
    refine wr_s [.eq (.int .i64 ((k + 1 : Nat) : Int))] (by rw [sd.1]; kernel_rfl) ⟨fun hwt ac u K => ?_, trivial⟩ ?_
    · exact st_addz (.tmp 52) (.const (.int .i64 1)) rfl _ _ _ (K.t x52 rfl) rfl (by omega) (by omega) (by omega)
    intro f70 w70 A hb
    replace x3 := A.t x3 rfl
    replace x6 := A.t x6 rfl
    replace x50 := A.t x50 rfl
    replace x51 := A.t x51 rfl
    replace x52 := A.t x52 rfl
    replace x4 := A.t x4 rfl
    replace x7 := A.t x7 rfl
    replace x9 := A.t x9 rfl
    have x148 := A.e 0 148 rfl rfl
    replace hd := HD.below hd hb
    replace hw := HW.below hw hb
    replace hN := MBs.below hN hb
    replace hM := MBs.below hM hb
    replace bl := bgo bl hb
    replace sd := A.sd sd
    clear A hb
    refine wl_one (.eq (.int .i64 ((k + 1 : Nat) : Int))) rfl 52 rfl (by rw [sd.1]; decide) (st_move (.tmp 148) rfl x148) ?_
    intro f71 w71 df2 sz2 old2 new2 hb
    replace x3 := tr old2 x3 rfl
    replace x6 := tr old2 x6 rfl
    replace x50 := tr old2 x50 rfl
    replace x51 := tr old2 x51 rfl
    clear x52
    replace x4 := tr old2 x4 rfl
    replace x7 := tr old2 x7 rfl
    replace x9 := tr old2 x9 rfl
    replace x148 := tr old2 x148 rfl
    have x52 := Fk.e new2
    replace hd := HD.below hd hb
    replace hw := HW.below hw hb
    replace hN := MBs.below hN hb
    replace hM := MBs.below hM hb
    replace bl := bgo bl hb
    replace sd := sd2 sz2 df2 sd
    clear df2 sz2 old2 new2 hb
    refine wpList_nil ?_
    clear x148
    show (∃ _, _) ∧ _
    refine ⟨⟨k + 1, sOp, DD, gw, VV, false, v9, none, vQ, .slice none 0 0, by omega, gs.le (by omega), hLI9, hDD, hVD, hVw, sd.1, sd.2, x3, x6, x50, x51, x52, x4, x7, x9, hd, hw, hN, hM, bl⟩, ?_⟩
    rw [show f71.eval (.tmp 52) = _ from x52, show _ = _ from hcnt]
    first | (simp [intOf]; done) | (simp [intOf]; omega)
  refine wr_a [.eq (.pointer (some ⟨g11, 0, none⟩)), .eq (.int .i64 oo.k)] (by rw [sd.1]; kernel_rfl) ⟨fun hwt ac u K => ?_, fun hwt ac u K => ?_, trivial⟩ ?_
  · exact st_field 39 0 (.tmp 11) rfl (K.t x11 rfl) (by kernel_rfl)
  · exact st_loadc 3 (.tmp 56) rfl (by kernel_rfl) (K.dep 0 56 rfl) (Ob.cell (Ob.below m11 K.grow) 0 rfl)
  intro f29 w29 A hb
  replace x3 := A.t x3 rfl
  replace x4 := A.t x4 rfl
  replace x6 := A.t x6 rfl
  replace x7 := A.t x7 rfl
  replace x9 := A.t x9 rfl
  replace x50 := A.t x50 rfl
  replace x51 := A.t x51 rfl
  replace x52 := A.t x52 rfl
  replace x11 := A.t x11 rfl
  have x57 := A.e 1 57 rfl rfl
  replace m11 := Ob.below m11 hb
  replace hd := HD.below hd hb
  replace hw := HW.below hw hb
  replace hN := MBs.below hN hb
  replace hM := MBs.below hM hb
  replace bl := bgo bl hb
  replace sd := A.sd sd
  clear A hb
  show Code.wp _ _ _ _ _
  refine wp_block ?_
  refine wp_seq ?_
  refine wr_a [.eq (.bool false), .eq (.bool false)] (by rw [sd.1]; kernel_rfl) ⟨fun hwt ac u K => ?_, fun hwt ac u K => ?_, trivial⟩ ?_
  · exact st_eqi 3 (.tmp 57) (.const (.int .i64 1)) rfl .i64 (oo.k) (1) (K.t x57 rfl) rfl _ (by rw [eq_comm, decide_eq_false_iff_not]; omega)
  · exact st_assign (.tmp 59) rfl (K.dep 0 59 rfl)
  intro f30 w30 A hb
  replace x3 := A.t x3 rfl
  replace x4 := A.t x4 rfl
  replace x6 := A.t x6 rfl
  replace x7 := A.t x7 rfl
  replace x9 := A.t x9 rfl
  replace x50 := A.t x50 rfl
  replace x51 := A.t x51 rfl
  replace x52 := A.t x52 rfl
  replace x11 := A.t x11 rfl
  replace x57 := A.t x57 rfl
  have x58 := A.e 1 58 rfl rfl
  replace m11 := Ob.below m11 hb
  replace hd := HD.below hd hb
  replace hw := HW.below hw hb
  replace hN := MBs.below hN hb
  replace hM := MBs.below hM hb
  replace bl := bgo bl hb
  replace sd := A.sd sd
  clear A hb
  show Code.wp _ _ _ _ _
  refine wp_cond_false x58 ?_
  refine wp_seq ?_
  refine wr_a [.eq (.bool false), .eq (.bool false)] (by rw [sd.1]; kernel_rfl) ⟨fun hwt ac u K => ?_, fun hwt ac u K => ?_, trivial⟩ ?_
  · exact st_eqi 3 (.tmp 57) (.const (.int .i64 2)) rfl .i64 (oo.k) (2) (K.t x57 rfl) rfl _ (by rw [eq_comm, decide_eq_false_iff_not]; omega)
  · exact st_assign (.tmp 101) rfl (K.dep 0 101 rfl)
  intro f31 w31 A hb
  replace x3 := A.t x3 rfl
  replace x4 := A.t x4 rfl
  replace x6 := A.t x6 rfl
  replace x7 := A.t x7 rfl
  replace x9 := A.t x9 rfl
  replace x50 := A.t x50 rfl
  replace x51 := A.t x51 rfl
  replace x52 := A.t x52 rfl
  replace x11 := A.t x11 rfl
  replace x57 := A.t x57 rfl
  replace x58 := A.t x58 rfl
  have x100 := A.e 1 100 rfl rfl
  replace m11 := Ob.below m11 hb
  replace hd := HD.below hd hb
  replace hw := HW.below hw hb
  replace hN := MBs.below hN hb
  replace hM := MBs.below hM hb
  replace bl := bgo bl hb
  replace sd := A.sd sd
  clear A hb
  clear x58
  show Code.wp _ _ _ _ _
  refine wp_cond_false x100 ?_
  refine wp_seq ?_
  refine wr_a [.eq (.bool false), .eq (.bool false)] (by rw [sd.1]; kernel_rfl) ⟨fun hwt ac u K => ?_, fun hwt ac u K => ?_, trivial⟩ ?_
  · exact st_eqi 3 (.tmp 57) (.const (.int .i64 3)) rfl .i64 (oo.k) (3) (K.t x57 rfl) rfl _ (by rw [eq_comm, decide_eq_false_iff_not]; omega)
  · exact st_assign (.tmp 107) rfl (K.dep 0 107 rfl)
  intro f32 w32 A hb
  replace x3 := A.t x3 rfl
  replace x4 := A.t x4 rfl
  replace x6 := A.t x6 rfl
  replace x7 := A.t x7 rfl
  replace x9 := A.t x9 rfl
  replace x50 := A.t x50 rfl
  replace x51 := A.t x51 rfl
  replace x52 := A.t x52 rfl
  replace x11 := A.t x11 rfl
  replace x57 := A.t x57 rfl
  replace x100 := A.t x100 rfl
  have x106 := A.e 1 106 rfl rfl
  replace m11 := Ob.below m11 hb
  replace hd := HD.below hd hb
  replace hw := HW.below hw hb
  replace hN := MBs.below hN hb
  replace hM := MBs.below hM hb
  replace bl := bgo bl hb
  replace sd := A.sd sd
  clear A hb
  clear x57
  clear x100
  show Code.wp _ _ _ _ _
  refine wp_cond_false x106 ?_
  refine wp_skip ?_
  show Code.wp _ _ _ _ _
  clear m11 h11D h11V
  refine wr_s [.eq (.int .i64 ((k + 1 : Nat) : Int))] (by rw [sd.1]; kernel_rfl) ⟨fun hwt ac u K => ?_, trivial⟩ ?_
  · exact st_addz (.tmp 52) (.const (.int .i64 1)) rfl _ _ _ (K.t x52 rfl) rfl (by omega) (by omega) (by omega)
  intro f33 w33 A hb
  replace x3 := A.t x3 rfl
  replace x4 := A.t x4 rfl
  replace x6 := A.t x6 rfl
  replace x7 := A.t x7 rfl
  replace x9 := A.t x9 rfl
  replace x50 := A.t x50 rfl
  replace x51 := A.t x51 rfl
  replace x52 := A.t x52 rfl
  replace x11 := A.t x11 rfl
  replace x106 := A.t x106 rfl
  have x148 := A.e 0 148 rfl rfl
  replace hd := HD.below hd hb
  replace hw := HW.below hw hb
  replace hN := MBs.below hN hb
  replace hM := MBs.below hM hb
  replace bl := bgo bl hb
  replace sd := A.sd sd
  clear A hb
  clear x11
  clear x106
  refine wl_one (.eq (.int .i64 ((k + 1 : Nat) : Int))) rfl 52 rfl (by rw [sd.1]; decide) (st_move (.tmp 148) rfl x148) ?_
  intro f34 w34 df2 sz2 old2 new2 hb
  replace x3 := tr old2 x3 rfl
  replace x4 := tr old2 x4 rfl
  replace x6 := tr old2 x6 rfl
  replace x7 := tr old2 x7 rfl
  replace x9 := tr old2 x9 rfl
  replace x50 := tr old2 x50 rfl
  replace x51 := tr old2 x51 rfl
  clear x52
  replace x148 := tr old2 x148 rfl
  have x52 := Fk.e new2
  replace hd := HD.below hd hb
  replace hw := HW.below hw hb
  replace hN := MBs.below hN hb
  replace hM := MBs.below hM hb
  replace bl := bgo bl hb
  replace sd := sd2 sz2 df2 sd
  clear df2 sz2 old2 new2 hb
  refine wpList_nil ?_
  clear x148
  show (∃ _, _) ∧ _
  refine ⟨⟨k + 1, s, DD, gw, VV, dn, now, mb, vN, vM, by omega, gs.le (by omega), hLI, hDD, hVD, hVw, sd.1, sd.2, x3, x6, x50, x51, x52, x4, x7, x9, hd, hw, hN, hM, bl⟩, ?_⟩
  rw [show f34.eval (.tmp 52) = _ from x52, show _ = _ from hcnt]
  first | (simp [intOf]; done) | (simp [intOf]; omega)
end Go.Proofs.Ytakdpkoigijonaa
