/- Calls of disk and wal in a law's walk; awake. WalOpens: plain facts and calls. -/
import Derived.Test.YtakdpkoigijonaaGreatM15
import Derived.Test.YtakdpkoigijonaaGreatM3
namespace Go.Proofs.YtakdpkoigijonaaGreat
set_option maxRecDepth 100000
open Go.RowKit
theorem open_ok12 {w : World} {gd n z k9 : Nat} {M D : Nat → Prop} {s s2 : Dst} (hd : HD w gd M D s) (gs : Gd s n z k9) (gw9 : Gw s n z) (hk : k9 + 4 * (n + 2) ≤ 1000000) (h0 : wopn (homN n) (prsP n) (hdz z) s = (0, s2)) :
    Calls Tryz.prog 9 #[.pointer (some ⟨gd, 0, none⟩)] w fun e w' => ∃ u, e = .returned u ∧ ∃ (D2 : Nat → Prop) (gw : Nat) (V : Nat → Prop), u = .tuple #[.pointer (some ⟨gw, 0, none⟩), .int .i64 0] ∧ HD w' gd M D2 s2 ∧ Gd s2 n z (k9 + 4 * (n + 2)) ∧ HW w' gw gd V n z false ∧ (∀ j, V j → w.heap.size ≤ j ∧ ¬ D2 j) ∧ (∀ j, D2 j → D j ∨ w.heap.size ≤ j) ∧ Fr M w w' := by
  refine (fk_wopen hd gs gw9 hk).mono ?_
  rw [h0]
  rintro e w' ⟨D', u, rfl, h1, h2, h3, _, h5, h6⟩
  obtain ⟨gw, V, rfl, q1, q2⟩ := h3 rfl
  exact ⟨_, rfl, D', gw, V, rfl, h1, h2, q1, q2, h5, h6⟩
theorem full64_sl (c : BitVec 8) (w : World) : Calls Tryz.prog 7 #[V c] w fun e w' => ∃ v, e = .returned v ∧ (Fk.sl (List.replicate 64 c)).f v w' ∧ Below w.heap.size w w' := by
  refine (fk_full64 c w).mono ?_
  rintro e w' ⟨g, rfl, hg, hm, hb⟩
  exact ⟨_, rfl, obB_sl hm, hb⟩
/-- One change, of its own. -/
theorem run_bldC (A : Option Addr) (p : Int) (n C : Nat) (w : World) : (Instr.buildSlice 74 1 #[(0, .agg #[.int .i64 p, .slice A n C])]).run Tryz.prog w = .ok (.slice (some ⟨w.heap.size, 0, none⟩) 1 1) (w.alloc (.cells #[.int .i64 p, .slice A n C] 55)) := by kernel_rfl
section
variable {Q : Exit → Act → World → Prop} {o : Oper} {a : Act} {w : World} {ops : Array Oper} {rest : List Oper}
theorem wl_bldC (hw : Region.wanted o (yielded ops a.tmps) = true) (x : Operand) (ho : o.op = .buildSlice 74 1 #[(0, x)]) (d : Nat) (hd : o.dst = some d) (hsz : d < a.tmps.size) {A : Option Addr} {p : Int} {n C : Nat} (hx : a.eval x = .agg #[.int .i64 p, .slice A n C])
    (h : ∀ a2 w2 g, a2.defers = a.defers → a2.tmps.size = a.tmps.size → (∀ t, (t == d) = false → a2.eval (.tmp t) = a.eval (.tmp t)) → a2.eval (.tmp d) = .slice (some ⟨g, 0, none⟩) 1 1 → w.heap.size ≤ g → Ob w2 g 55 [.int .i64 p, .slice A n C] → Below w.heap.size w w2 → wpList Tryz.prog ops Q rest a2 w2) : wpList Tryz.prog ops Q (o :: rest) a w := by
  unfold wpList
  rw [if_pos hw]
  refine .inl ?_
  unfold Oper.wp execOp
  simp only [ho, Sem.run_bind, Sem.run_pure, Result.andThen_ok, List.map_toArray, List.map_cons, List.map_nil, hx, run_bldC]
  refine h _ _ w.heap.size (put_def _ _ _) (put_size _ _ _) (fun t ht => ?_) ?_ (Nat.le_refl _) (heap_alloc_new _ _) ((Below.refl _ _).alloc (Nat.le_refl _) _)
  · rw [hd]
    exact put_eval_other _ _ _ _ (fun e => by subst e; simp at ht)
  · rw [hd, put_eval_same _ _ _ hsz]
end
/-- What is told of a list of one change of its own. -/
theorem one_sr {w : World} {gl gf : Nat} {p : Int} {bs : List (BitVec 8)} {n : Nat} (hn : n = bs.length) (hp : -9223372036854775808 ≤ p ∧ p ≤ 9223372036854775807) (ml : Ob w gl 55 [.int .i64 p, .slice (some ⟨gf, 0, none⟩) n n]) (mf : Ob w gf 5 (bs.map V)) : (Fk.sr RC [(⟨p, bs, some ⟨gf, 0, none⟩, n, n⟩ : Cng)]).f (.slice (some ⟨gl, 0, none⟩) 1 1) w := by
  subst hn
  refine ⟨_, _, gl, 0, rfl, Nat.le_refl _, fun _ => rfl, fun i q hi => ?_⟩
  obtain _ | i := i
  · cases hi
    refine ⟨⟨obB_sl mf, hp⟩, fun j u hj => ?_⟩
    rw [Nat.zero_mul, Nat.zero_add]
    first | exact Ob.cell ml j hj | (rw [Nat.zero_add]; exact Ob.cell ml j hj)
  · cases hi
theorem nowO_home {n z : Nat} {h : Nat} {prs : Byt → Option (List Nat)} {a : Bool} {s : Dst} {now : List Byt} (q : Quiet n z h prs a s now) {k : Nat} (hk : k < h) : nowO s (1 + k) = now.getD k [] := by
  unfold nowO
  rw [if_pos (q.home k hk).1]
  exact (q.home k hk).2
theorem com_ok12 {n z : Nat} {s s' : Dst} {l : List Cng} {r : Int} {dn' : Bool} {now : List Byt} (h3 : 3 ≤ n) (h32 : 32 ≤ z) (hn : n ≤ 100000) (hq : Quiet n z (homN n) (prsP n) false s now) (hc : ComIs n z s false l r s' dn') : (WrongIs l n z r ∨ (l = [] ∧ r = 0)) ∧ dn' = false ∧ ((r = 0 ∧ (l = [] ∨ WrongIs l n z 0) ∧ Quiet n z (homN n) (prsP n) false s' (chg now (prc l))) ∨ (r ≠ 0 ∧ s' = s)) := by
  rcases hc with ⟨rfl, rfl, rfl, rfl⟩ | ⟨_, h, _⟩ | ⟨_, _, h0, h1, rfl, rfl⟩ | ⟨_, _, h1, h2, rfl⟩
  · exact ⟨.inr ⟨rfl, rfl⟩, rfl, .inl ⟨rfl, .inl rfl, hq⟩⟩
  · cases h
  · exact ⟨.inl h1, rfl, .inr ⟨h0, rfl⟩⟩
  · obtain ⟨q1, q2, _⟩ := wrong_ok h1
    obtain ⟨r1, r2, _⟩ := wcom_on (hd_ok h3 h32 hn) hq q1 q2
    rw [← h2] at r1 r2
    obtain rfl : r = 0 := r1
    exact ⟨.inl h1, rfl, .inl ⟨rfl, .inr h1, r2⟩⟩
theorem wrong_det {l : List Cng} {n z : Nat} {a b : Int} (h1 : WrongIs l n z a) (h2 : WrongIs l n z b) : a = b := by
  rcases h1 with ⟨e1, c, hc, hb⟩ | ⟨g1, h1⟩ <;> rcases h2 with ⟨e2, c2, hc2, hb2⟩ | ⟨g2, h2⟩
  · rw [e1, e2]
  · exact absurd hb (g2 c hc)
  · exact absurd hb2 (g1 c2 hc2)
  · rcases h1 with ⟨e1, f1⟩ | ⟨f1, h1⟩ <;> rcases h2 with ⟨e2, f2⟩ | ⟨f2, h2⟩
    · rw [e1, e2]
    · exact absurd f1 f2
    · exact absurd f2 f1
    · rcases h1 with ⟨e1, f1⟩ | ⟨e1, f1⟩ <;> rcases h2 with ⟨e2, f2⟩ | ⟨e2, f2⟩
      · rw [e1, e2]
      · omega
      · omega
      · rw [e1, e2]
theorem wrong_one {p : Int} {bs : List (BitVec 8)} {A : Option Addr} {m C n z : Nat} (hp : 0 ≤ p ∧ p < homN n) (hb : bs.length = z) (hr : 1 ≤ roomN n z) : WrongIs [(⟨p, bs, A, m, C⟩ : Cng)] n z 0 := by
  refine .inr ⟨fun c hc => ?_, .inr ⟨?_, .inr ⟨rfl, hr⟩⟩⟩
  · rw [List.mem_singleton.1 hc]
    unfold BadAt
    show ¬ (p < 0 ∨ (homN n : Int) ≤ p)
    omega
  · rintro ⟨i, c, hi, hc, h⟩
    obtain rfl : i = 0 := by replace hi : i < 1 := hi; omega
    cases hc
    rcases h with h | ⟨j, _, hj, _⟩
    · exact h hb
    · omega
theorem awake12 (w : World) :
    Calls Tryz.prog 5 #[] w fun e w' => ∃ v, e = .returned v ∧ (Fk.eq (.bool true)).f v w' ∧ Below w.heap.size w w' := by
  go_enter Tryz.func5, Tryz.ntmps5
  refine code_both (fun f w1 => f.tmps.size = 52 ∧ f.defers = [] ∧ Below w.heap.size w (w1)) ⟨rfl, rfl, Below.refl _ _⟩ ?_
  rintro f0 w0 ⟨sz, df, bl⟩
  have sd := And.intro sz df
  clear sz df
  have bl0 := bl
  refine wp_seq ?_
  refine wr_a [.eq (.bool false)] (by rw [sd.1]; kernel_rfl) ⟨fun hwt ac u K => ?_, trivial⟩ ?_
  · exact st_assign (.const (.bool false)) rfl rfl
  intro f1 w1 A hb
  replace bl := bgo bl hb
  replace sd := A.sd sd
  clear A hb
  show Code.wp _ _ _ _ _
  refine wp_seq ?_
  refine wr_s [] (by rw [sd.1]; kernel_rfl) trivial ?_
  intro f2 w2 A hb
  replace bl := bgo bl hb
  replace sd := A.sd sd
  clear A hb
  refine wl_call 4 (.func 4) _ _ #[.int .i64 ((9 : Nat) : Int), .int .i64 ((64 : Nat) : Int)] rfl 6 rfl (by rw [sd.1]; decide) rfl rfl rfl Tryz.enter4 (fun u W' => ∃ (gd : Nat) (M D : Nat → Prop), u = .pointer (some ⟨gd, 0, none⟩) ∧ HD W' gd M D (newd (9) (64)) ∧ (∀ j, D j → w2.heap.size ≤ j) ∧ Below w2.heap.size w2 W') ((fk_dnew (N := 9) (Z := 64) (by decide) (by decide) (by decide) (by decide) w2).mono (by rintro e w' ⟨gd, M, D, rfl, q⟩; exact ⟨_, rfl, gd, M, D, rfl, q⟩)) ?_
  rintro f3 w3 df2 sz2 old2 ⟨gd, M, DD, x6, hd, hD0, hb⟩
  have hDD : ∀ j, DD j → w.heap.size ≤ j := fun j q => Nat.le_trans bl.size (hD0 j q)
  clear hD0
  replace bl0 := bl
  replace bl := bgo bl hb
  replace sd := sd2 sz2 df2 sd
  clear df2 sz2 old2 hb
  refine wl_one (.eq (.pointer (some ⟨gd, 0, none⟩))) rfl 1 rfl (by rw [sd.1]; decide) (st_assign (.tmp 6) rfl x6) ?_
  intro f4 w4 df2 sz2 old2 new2 hb
  replace x6 := tr old2 x6 rfl
  have x1 := Fk.e new2
  replace hd := HD.below hd hb
  replace bl := bgo bl hb
  replace sd := sd2 sz2 df2 sd
  clear df2 sz2 old2 new2 hb
  refine wpList_nil ?_
  clear x6
  show Code.wp _ _ _ _ _
  refine wp_seq ?_
  refine wp_seq ?_
  refine wr_a [.eq (.pointer (some ⟨gd, 0, none⟩)), .eq (.bool false)] (by rw [sd.1]; kernel_rfl) ⟨fun hwt ac u K => ?_, fun hwt ac u K => ?_, trivial⟩ ?_
  · exact st_move (.tmp 1) rfl (K.t x1 rfl)
  · exact st_bin .eql 24 24 (.tmp 7) _ rfl (K.dep 0 7 rfl) rfl (by kernel_rfl)
  intro f5 w5 A hb
  replace x1 := A.t x1 rfl
  have x8 := A.e 1 8 rfl rfl
  replace hd := HD.below hd hb
  replace bl := bgo bl hb
  replace sd := A.sd sd
  clear A hb
  show Code.wp _ _ _ _ _
  refine wp_cond_false x8 ?_
  refine wp_skip ?_
  show Code.wp _ _ _ _ _
  refine wp_seq ?_
  obtain ⟨n, hn9⟩ : ∃ n : Nat, n = 9 := ⟨_, rfl⟩
  obtain ⟨z, hz9⟩ : ∃ z : Nat, z = 64 := ⟨_, rfl⟩
  obtain ⟨s0, hs0⟩ : ∃ s, s = newd n z := ⟨_, rfl⟩
  rw [← hn9, ← hz9, ← hs0] at hd
  have h4 : homN n = 4 := by rw [hn9]; rfl
  have r4 : roomN n z = 4 := by rw [hn9, hz9]; rfl
  have gs : Gd s0 n z 0 := by rw [hs0]; exact gd_new n z
  have hgw : Gw s0 n z := by rw [hs0]; exact gw_newd (by omega)
  have hq : Quiet n z (homN n) (prsP n) false s0 (List.replicate (homN n) (zs z)) := by rw [hs0]; exact quiet_newd (by omega) (by omega)
  have hop : wopn (homN n) (prsP n) (hdz z) s0 = (0, s0) := wopn_quiet (by omega) (by omega) hq
  clear hs0
  refine wr_s [.eq (.pointer (some ⟨gd, 0, none⟩))] (by rw [sd.1]; kernel_rfl) ⟨fun hwt ac u K => ?_, trivial⟩ ?_
  · exact st_move (.tmp 1) rfl (K.t x1 rfl)
  intro f6 w6 A hb
  replace x1 := A.t x1 rfl
  replace x8 := A.t x8 rfl
  have x10 := A.e 0 10 rfl rfl
  replace hd := HD.below hd hb
  replace bl := bgo bl hb
  replace sd := A.sd sd
  clear A hb
  clear x1
  clear x8
  refine wl_call 9 (.func 9) _ _ #[.pointer (some ⟨gd, 0, none⟩)] rfl 11 rfl (by rw [sd.1]; decide) rfl rfl (one_arg x10) Tryz.enter9 (fun u W' => ∃ (D2 : Nat → Prop) (gw : Nat) (VV : Nat → Prop), u = .tuple #[.pointer (some ⟨gw, 0, none⟩), .int .i64 0] ∧ HD W' gd M D2 (s0) ∧ Gd (s0) (n) (z) (0 + 4 * (n + 2)) ∧ HW W' gw gd VV (n) (z) false ∧ (∀ j, VV j → w6.heap.size ≤ j ∧ ¬ D2 j) ∧ (∀ j, D2 j → DD j ∨ w6.heap.size ≤ j) ∧ Fr M w6 W') (open_ok12 hd gs hgw (by omega) hop) ?_
  rintro f7 w7 df2 sz2 old2 ⟨D2, gw, VV, x11, hd2, gs2, hw, hVD, hD2, O⟩
  have hVw : ∀ j, VV j → w.heap.size ≤ j := fun j q => Nat.le_trans bl.size (hVD j q).1
  replace hVD : ∀ j, VV j → ¬ D2 j := fun j q => (hVD j q).2
  replace gs := gs2
  have bl9 := bl.trans (O.below bl.size (fun j q => hDD j (hd.sub j q)))
  replace hDD : ∀ j, D2 j → w.heap.size ≤ j := fun j q => (hD2 j q).elim (hDD j) (fun q => by have := bl.size; omega)
  replace bl := bl9
  replace bl0 := bl
  clear bl9
  replace hd := hd2
  clear hd2 gs2 hD2 O
  clear DD
  obtain ⟨DD, rfl⟩ : ∃ E, E = D2 := ⟨_, rfl⟩
  replace x10 := tr old2 x10 rfl
  replace sd := sd2 sz2 df2 sd
  clear df2 sz2 old2
  clear x10
  refine wl_one (.eq (.tuple #[.pointer (some ⟨gw, 0, none⟩), .int .i64 0])) rfl 9 rfl (by rw [sd.1]; decide) (st_move (.tmp 11) rfl x11) ?_
  intro f8 w8 df2 sz2 old2 new2 hb
  replace x11 := tr old2 x11 rfl
  have x9 := Fk.e new2
  replace hd := HD.below hd hb
  replace hw := HW.below hw hb
  replace bl := bgo bl hb
  replace sd := sd2 sz2 df2 sd
  clear df2 sz2 old2 new2 hb
  clear x11
  refine wl_one (.eq (.pointer (some ⟨gw, 0, none⟩))) rfl 12 rfl (by rw [sd.1]; decide) (st_extv (.tmp 9) 0 rfl x9 rfl) ?_
  intro f9 w9 df2 sz2 old2 new2 hb
  replace x9 := tr old2 x9 rfl
  have x12 := Fk.e new2
  replace hd := HD.below hd hb
  replace hw := HW.below hw hb
  replace bl := bgo bl hb
  replace sd := sd2 sz2 df2 sd
  clear df2 sz2 old2 new2 hb
  refine wl_one (.eq (.int .i64 0)) rfl 13 rfl (by rw [sd.1]; decide) (st_extv (.tmp 9) 1 rfl x9 rfl) ?_
  intro f10 w10 df2 sz2 old2 new2 hb
  replace x9 := tr old2 x9 rfl
  replace x12 := tr old2 x12 rfl
  have x13 := Fk.e new2
  replace hd := HD.below hd hb
  replace hw := HW.below hw hb
  replace bl := bgo bl hb
  replace sd := sd2 sz2 df2 sd
  clear df2 sz2 old2 new2 hb
  clear x9
  refine wl_one (.eq (.pointer (some ⟨gw, 0, none⟩))) rfl 2 rfl (by rw [sd.1]; decide) (st_assign (.tmp 12) rfl x12) ?_
  intro f11 w11 df2 sz2 old2 new2 hb
  replace x12 := tr old2 x12 rfl
  replace x13 := tr old2 x13 rfl
  have x2 := Fk.e new2
  replace hd := HD.below hd hb
  replace hw := HW.below hw hb
  replace bl := bgo bl hb
  replace sd := sd2 sz2 df2 sd
  clear df2 sz2 old2 new2 hb
  clear x12
  refine wl_one (.eq (.int .i64 0)) rfl 3 rfl (by rw [sd.1]; decide) (st_assign (.tmp 13) rfl x13) ?_
  intro f12 w12 df2 sz2 old2 new2 hb
  replace x13 := tr old2 x13 rfl
  replace x2 := tr old2 x2 rfl
  have x3 := Fk.e new2
  replace hd := HD.below hd hb
  replace hw := HW.below hw hb
  replace bl := bgo bl hb
  replace sd := sd2 sz2 df2 sd
  clear df2 sz2 old2 new2 hb
  refine wpList_nil ?_
  clear x13
  show Code.wp _ _ _ _ _
  refine wp_seq ?_
  refine wp_seq ?_
  refine wr_s [] (by rw [sd.1]; kernel_rfl) trivial ?_
  intro f13 w13 A hb
  replace x2 := A.t x2 rfl
  replace x3 := A.t x3 rfl
  replace hd := HD.below hd hb
  replace hw := HW.below hw hb
  replace bl := bgo bl hb
  replace sd := A.sd sd
  clear A hb
  refine wl_one (.eq (.int .i64 0)) rfl 14 rfl (by rw [sd.1]; decide) (st_move (.tmp 3) rfl x3) ?_
  intro f14 w14 df2 sz2 old2 new2 hb
  replace x2 := tr old2 x2 rfl
  replace x3 := tr old2 x3 rfl
  have x14 := Fk.e new2
  replace hd := HD.below hd hb
  replace hw := HW.below hw hb
  replace bl := bgo bl hb
  replace sd := sd2 sz2 df2 sd
  clear df2 sz2 old2 new2 hb
  clear x3
  refine wl_one (.eq (.bool false)) rfl 15 rfl (by rw [sd.1]; decide) (st_neqi 27 (.tmp 14) (.const (.int .i64 0)) rfl .i64 (0) (0) x14 rfl _ (by rfl)) ?_
  intro f15 w15 df2 sz2 old2 new2 hb
  replace x2 := tr old2 x2 rfl
  replace x14 := tr old2 x14 rfl
  have x15 := Fk.e new2
  replace hd := HD.below hd hb
  replace hw := HW.below hw hb
  replace bl := bgo bl hb
  replace sd := sd2 sz2 df2 sd
  clear df2 sz2 old2 new2 hb
  clear x14
  refine wl_one (.eq (.bool false)) rfl 16 rfl (by rw [sd.1]; decide) (st_move (.tmp 15) rfl x15) ?_
  intro f16 w16 df2 sz2 old2 new2 hb
  replace x2 := tr old2 x2 rfl
  replace x15 := tr old2 x15 rfl
  have x16 := Fk.e new2
  replace hd := HD.below hd hb
  replace hw := HW.below hw hb
  replace bl := bgo bl hb
  replace sd := sd2 sz2 df2 sd
  clear df2 sz2 old2 new2 hb
  clear x15
  refine wl_onew (.eq (.pointer (some ⟨gw, 0, none⟩))) (want_of rfl rfl x16) 17 rfl (by rw [sd.1]; decide) (st_move (.tmp 2) rfl x2) ?_
  intro f17 w17 df2 sz2 old2 new2 hb
  replace bl0 := bl
  replace x2 := tr old2 x2 rfl
  replace x16 := tr old2 x16 rfl
  have x17 := Fk.e new2
  replace hd := HD.below hd hb
  replace hw := HW.below hw hb
  replace bl := bgo bl hb
  replace sd := sd2 sz2 df2 sd
  clear df2 sz2 old2 new2 hb
  refine wl_onew (.eq (.bool false)) (want_of rfl rfl x16) 18 rfl (by rw [sd.1]; decide) (st_bin .eql 34 34 (.tmp 17) _ rfl x17 rfl (by kernel_rfl)) ?_
  intro f18 w18 df2 sz2 old2 new2 hb
  replace bl0 := bl
  replace x2 := tr old2 x2 rfl
  replace x16 := tr old2 x16 rfl
  replace x17 := tr old2 x17 rfl
  have x18 := Fk.e new2
  replace hd := HD.below hd hb
  replace hw := HW.below hw hb
  replace bl := bgo bl hb
  replace sd := sd2 sz2 df2 sd
  clear df2 sz2 old2 new2 hb
  clear x17
  refine wl_one (.eq (.bool false)) rfl 19 rfl (by rw [sd.1]; decide) (st_pick_f' (.tmp 16) (.const (.bool true)) (.tmp 18) rfl x16 x18) ?_
  intro f19 w19 df2 sz2 old2 new2 hb
  replace x2 := tr old2 x2 rfl
  replace x16 := tr old2 x16 rfl
  replace x18 := tr old2 x18 rfl
  have x19 := Fk.e new2
  replace hd := HD.below hd hb
  replace hw := HW.below hw hb
  replace bl := bgo bl hb
  replace sd := sd2 sz2 df2 sd
  clear df2 sz2 old2 new2 hb
  clear x16
  clear x18
  refine wl_one (.eq (.bool false)) rfl 20 rfl (by rw [sd.1]; decide) (st_move (.tmp 19) rfl x19) ?_
  intro f20 w20 df2 sz2 old2 new2 hb
  replace x2 := tr old2 x2 rfl
  replace x19 := tr old2 x19 rfl
  have x20 := Fk.e new2
  replace hd := HD.below hd hb
  replace hw := HW.below hw hb
  replace bl := bgo bl hb
  replace sd := sd2 sz2 df2 sd
  clear df2 sz2 old2 new2 hb
  clear x19
  refine wl_onew (.eq (.pointer (some ⟨gw, 0, none⟩))) (want_of rfl rfl x20) 21 rfl (by rw [sd.1]; decide) (st_move (.tmp 2) rfl x2) ?_
  intro f21 w21 df2 sz2 old2 new2 hb
  replace bl0 := bl
  replace x2 := tr old2 x2 rfl
  replace x20 := tr old2 x20 rfl
  have x21 := Fk.e new2
  replace hd := HD.below hd hb
  replace hw := HW.below hw hb
  replace bl := bgo bl hb
  replace sd := sd2 sz2 df2 sd
  clear df2 sz2 old2 new2 hb
  refine wl_onew (.eq (.int .i64 4)) (want_of rfl rfl x20) 22 rfl (by rw [sd.1]; decide) (st_call 17 (.func 17) _ _ #[.pointer (some ⟨gw, 0, none⟩)] rfl rfl (one_arg x21) Tryz.enter17 (by have h9 := fk_whomeN hw hd gs; rw [h4] at h9; exact h9)) ?_
  intro f22 w22 df2 sz2 old2 new2 hb
  replace bl0 := bl
  replace x2 := tr old2 x2 rfl
  replace x20 := tr old2 x20 rfl
  replace x21 := tr old2 x21 rfl
  have x22 := Fk.e new2
  replace hd := HD.below hd hb
  replace hw := HW.below hw hb
  replace bl := bgo bl hb
  replace sd := sd2 sz2 df2 sd
  clear df2 sz2 old2 new2 hb
  clear x21
  refine wl_onew (.eq (.bool false)) (want_of rfl rfl x20) 23 rfl (by rw [sd.1]; decide) (st_neqi 3 (.tmp 22) (.const (.int .i64 4)) rfl .i64 (4) (4) x22 rfl _ (by rfl)) ?_
  intro f23 w23 df2 sz2 old2 new2 hb
  replace bl0 := bl
  replace x2 := tr old2 x2 rfl
  replace x20 := tr old2 x20 rfl
  replace x22 := tr old2 x22 rfl
  have x23 := Fk.e new2
  replace hd := HD.below hd hb
  replace hw := HW.below hw hb
  replace bl := bgo bl hb
  replace sd := sd2 sz2 df2 sd
  clear df2 sz2 old2 new2 hb
  clear x22
  refine wl_one (.eq (.bool false)) rfl 24 rfl (by rw [sd.1]; decide) (st_pick_f' (.tmp 20) (.const (.bool true)) (.tmp 23) rfl x20 x23) ?_
  intro f24 w24 df2 sz2 old2 new2 hb
  replace x2 := tr old2 x2 rfl
  replace x20 := tr old2 x20 rfl
  replace x23 := tr old2 x23 rfl
  have x24 := Fk.e new2
  replace hd := HD.below hd hb
  replace hw := HW.below hw hb
  replace bl := bgo bl hb
  replace sd := sd2 sz2 df2 sd
  clear df2 sz2 old2 new2 hb
  clear x20
  clear x23
  refine wl_one (.eq (.bool false)) rfl 25 rfl (by rw [sd.1]; decide) (st_move (.tmp 24) rfl x24) ?_
  intro f25 w25 df2 sz2 old2 new2 hb
  replace x2 := tr old2 x2 rfl
  replace x24 := tr old2 x24 rfl
  have x25 := Fk.e new2
  replace hd := HD.below hd hb
  replace hw := HW.below hw hb
  replace bl := bgo bl hb
  replace sd := sd2 sz2 df2 sd
  clear df2 sz2 old2 new2 hb
  clear x24
  refine wl_onew (.eq (.pointer (some ⟨gw, 0, none⟩))) (want_of rfl rfl x25) 26 rfl (by rw [sd.1]; decide) (st_move (.tmp 2) rfl x2) ?_
  intro f26 w26 df2 sz2 old2 new2 hb
  replace bl0 := bl
  replace x2 := tr old2 x2 rfl
  replace x25 := tr old2 x25 rfl
  have x26 := Fk.e new2
  replace hd := HD.below hd hb
  replace hw := HW.below hw hb
  replace bl := bgo bl hb
  replace sd := sd2 sz2 df2 sd
  clear df2 sz2 old2 new2 hb
  refine wl_onew (.eq (.int .i64 4)) (want_of rfl rfl x25) 27 rfl (by rw [sd.1]; decide) (st_call 18 (.func 18) _ _ #[.pointer (some ⟨gw, 0, none⟩)] rfl rfl (one_arg x26) Tryz.enter18 (by have h9 := fk_wroomN hw hd gs (by omega); rw [r4] at h9; exact h9)) ?_
  intro f27 w27 df2 sz2 old2 new2 hb
  replace bl0 := bl
  replace x2 := tr old2 x2 rfl
  replace x25 := tr old2 x25 rfl
  replace x26 := tr old2 x26 rfl
  have x27 := Fk.e new2
  replace hd := HD.below hd hb
  replace hw := HW.below hw hb
  replace bl := bgo bl hb
  replace sd := sd2 sz2 df2 sd
  clear df2 sz2 old2 new2 hb
  clear x26
  refine wl_onew (.eq (.bool false)) (want_of rfl rfl x25) 28 rfl (by rw [sd.1]; decide) (st_neqi 3 (.tmp 27) (.const (.int .i64 4)) rfl .i64 (4) (4) x27 rfl _ (by rfl)) ?_
  intro f28 w28 df2 sz2 old2 new2 hb
  replace bl0 := bl
  replace x2 := tr old2 x2 rfl
  replace x25 := tr old2 x25 rfl
  replace x27 := tr old2 x27 rfl
  have x28 := Fk.e new2
  replace hd := HD.below hd hb
  replace hw := HW.below hw hb
  replace bl := bgo bl hb
  replace sd := sd2 sz2 df2 sd
  clear df2 sz2 old2 new2 hb
  clear x27
  refine wl_one (.eq (.bool false)) rfl 29 rfl (by rw [sd.1]; decide) (st_pick_f' (.tmp 25) (.const (.bool true)) (.tmp 28) rfl x25 x28) ?_
  intro f29 w29 df2 sz2 old2 new2 hb
  replace x2 := tr old2 x2 rfl
  replace x25 := tr old2 x25 rfl
  replace x28 := tr old2 x28 rfl
  have x29 := Fk.e new2
  replace hd := HD.below hd hb
  replace hw := HW.below hw hb
  replace bl := bgo bl hb
  replace sd := sd2 sz2 df2 sd
  clear df2 sz2 old2 new2 hb
  clear x25
  clear x28
  refine wl_one (.eq (.bool false)) rfl 30 rfl (by rw [sd.1]; decide) (st_move (.tmp 29) rfl x29) ?_
  intro f30 w30 df2 sz2 old2 new2 hb
  replace x2 := tr old2 x2 rfl
  replace x29 := tr old2 x29 rfl
  have x30 := Fk.e new2
  replace hd := HD.below hd hb
  replace hw := HW.below hw hb
  replace bl := bgo bl hb
  replace sd := sd2 sz2 df2 sd
  clear df2 sz2 old2 new2 hb
  clear x29
  refine wl_onew (.eq (.pointer (some ⟨gw, 0, none⟩))) (want_of rfl rfl x30) 31 rfl (by rw [sd.1]; decide) (st_move (.tmp 2) rfl x2) ?_
  intro f31 w31 df2 sz2 old2 new2 hb
  replace bl0 := bl
  replace x2 := tr old2 x2 rfl
  replace x30 := tr old2 x30 rfl
  have x31 := Fk.e new2
  replace hd := HD.below hd hb
  replace hw := HW.below hw hb
  replace bl := bgo bl hb
  replace sd := sd2 sz2 df2 sd
  clear df2 sz2 old2 new2 hb
  refine wl_callw 7 (.func 7) _ _ #[V 7#8] (want_of rfl rfl x30) 32 rfl (by rw [sd.1]; decide) rfl rfl rfl Tryz.enter7 (fun u W' => ∃ g, u = .slice (some ⟨g, 0, none⟩) 64 64 ∧ w31.heap.size ≤ g ∧ Ob W' g 5 ((List.replicate 64 (7#8)).map V) ∧ Below w31.heap.size w31 W') ((fk_full64 7#8 _).mono (by rintro e w' ⟨g, rfl, q⟩; exact ⟨_, rfl, g, rfl, q⟩)) ?_
  rintro f32 w32 df2 sz2 old2 ⟨gf, x32, hgf, mf, hb⟩
  have hgDf : ¬ DD gf := fun q => by have := hd.lt _ q; omega
  have hgVf : ¬ VV gf := fun q => by have := hw.lt _ q; omega
  replace bl0 := bl
  replace x2 := tr old2 x2 rfl
  replace x30 := tr old2 x30 rfl
  replace x31 := tr old2 x31 rfl
  replace hd := HD.below hd hb
  replace hw := HW.below hw hb
  replace bl := bgo bl hb
  replace sd := sd2 sz2 df2 sd
  clear df2 sz2 old2 hb hgf
  refine wl_onew (.eq (.agg ([.int .i64 2, .slice (some ⟨gf, 0, none⟩) 64 64] : List Value).toArray)) (want_of rfl rfl x30) 33 rfl (by rw [sd.1]; decide) (st_build 55 _ rfl (by simp only [List.map_toArray, List.map_cons, List.map_nil, show f32.eval (.tmp 32) = _ from x32]; kernel_rfl)) ?_
  intro f33 w33 df2 sz2 old2 new2 hb
  replace bl0 := bl
  replace x2 := tr old2 x2 rfl
  replace x30 := tr old2 x30 rfl
  replace x31 := tr old2 x31 rfl
  replace x32 := tr old2 x32 rfl
  have x33 := Fk.e new2
  replace hd := HD.below hd hb
  replace hw := HW.below hw hb
  replace mf := Ob.below mf hb
  replace bl := bgo bl hb
  replace sd := sd2 sz2 df2 sd
  clear df2 sz2 old2 new2 hb
  clear x32
  refine wl_bldC (want_of rfl rfl x30) (.tmp 33) rfl 34 rfl (by rw [sd.1]; decide) (p := 2) (show f33.eval (.tmp 33) = _ from x33) ?_
  intro f34 w34 gl df2 sz2 old2 x34 hgl ml hb
  have hgDl : ¬ DD gl := fun q => by have := hd.lt _ q; omega
  have hgVl : ¬ VV gl := fun q => by have := hw.lt _ q; omega
  replace bl0 := bl
  replace x2 := tr old2 x2 rfl
  replace x30 := tr old2 x30 rfl
  replace x31 := tr old2 x31 rfl
  replace x33 := tr old2 x33 rfl
  replace hd := HD.below hd hb
  replace hw := HW.below hw hb
  replace mf := Ob.below mf hb
  replace bl := bgo bl hb
  replace sd := sd2 sz2 df2 sd
  clear df2 sz2 old2 hb hgl
  clear x33
  have hvF9 : ∀ {W : World}, Fr (fun j => M j ∨ VV j) w34 W → (Fk.sr RC ([(⟨2, List.replicate 64 7#8, some ⟨gf, 0, none⟩, 64, 64⟩ : Cng)])).f (.slice (some ⟨gl, 0, none⟩) 1 1) W := fun {W} hF => one_sr (by simp) (by decide) (Ob.keep ml (hF.block _ (Ob.lt ml) (fun q => q.elim (fun q => hgDl (hd.sub _ q)) hgVl))) (Ob.keep mf (hF.block _ (Ob.lt mf) (fun q => q.elim (fun q => hgDf (hd.sub _ q)) hgVf)))
  refine wl_callw 19 (.func 19) _ _ #[.pointer (some ⟨gw, 0, none⟩), .slice (some ⟨gl, 0, none⟩) 1 1] (want_of rfl rfl x30) 35 rfl (by rw [sd.1]; decide) rfl rfl (two_arg x31 x34) Tryz.enter19 (fun u W' => ∃ (D2 : Nat → Prop) (r : Int) (s' : Dst) (dn' : Bool), u = .int .i64 r ∧ ComIs (n) (z) (s0) false ([(⟨2, List.replicate 64 7#8, some ⟨gf, 0, none⟩, 64, 64⟩ : Cng)]) r s' dn' ∧ HD W' gd M D2 s' ∧ Gd s' (n) (z) (0 + 4 * (n + 2) + 20 * (([(⟨2, List.replicate 64 7#8, some ⟨gf, 0, none⟩, 64, 64⟩ : Cng)]).length + 1)) ∧ HW W' gw gd VV (n) (z) dn' ∧ (∀ j, D2 j → DD j ∨ w34.heap.size ≤ j) ∧ Fr (fun j => M j ∨ VV j) w34 W') ((fk_wcommit hw hd gs hVD (by omega) (by show 0 + 4 * (n + 2) + 20 * (1 + 1) ≤ 1000000; omega) (by show 1 ≤ 1000; omega) hvF9).mono (by rintro e w' ⟨D', r, s', dn', rfl, q⟩; exact ⟨_, rfl, D', r, s', dn', rfl, q⟩)) ?_
  rintro f35 w35 df2 sz2 old2 ⟨D2, r9, s9, dn9, x35, hC, hd2, gs2, hw2, hD2, O⟩
  clear hvF9
  have hVlt := hw.lt
  replace hVD : ∀ j, VV j → ¬ D2 j := fun j q m => (hD2 j m).elim (hVD j q) (fun m => by have := hVlt j q; omega)
  clear hVlt
  clear mf
  clear ml
  clear hgDf
  clear hgDl
  clear hgVf
  clear hgVl
  have bl9 := bl.trans (O.below bl.size (fun j q => q.elim (fun q => hDD j (hd.sub j q)) (hVw j)))
  replace hDD : ∀ j, D2 j → w.heap.size ≤ j := fun j q => (hD2 j q).elim (hDD j) (fun q => by have := bl.size; have := O.size; omega)
  replace bl := bl9
  replace bl0 := bl
  clear bl9
  replace hd := hd2
  replace gs := gs2
  replace hw := hw2
  clear hd2 gs2 hw2 hD2 O
  clear DD
  obtain ⟨DD, rfl⟩ : ∃ E, E = D2 := ⟨_, rfl⟩
  replace x2 := tr old2 x2 rfl
  replace x30 := tr old2 x30 rfl
  replace x31 := tr old2 x31 rfl
  replace x34 := tr old2 x34 rfl
  replace sd := sd2 sz2 df2 sd
  clear df2 sz2 old2
  have hWr : WrongIs [(⟨2, List.replicate 64 7#8, some ⟨gf, 0, none⟩, 64, 64⟩ : Cng)] n z 0 := wrong_one (by omega) (by rw [List.length_replicate]; exact hz9.symm) (by omega)
  obtain ⟨hw1, rfl, hcc⟩ := com_ok12 (by omega) (by omega) (by omega) hq hC
  obtain rfl : r9 = 0 := hw1.elim (fun q => wrong_det q hWr) (·.2)
  obtain ⟨-, -, hq2⟩ := hcc.resolve_right (fun q => q.1 rfl)
  replace hq := hq2
  clear hq2 hC hw1 hcc hWr
  have hnow : nowd s9 (1 + 2) = List.replicate 64 7#8 := by
    refine (nowO_home hq (k := 2) (by omega)).trans ?_
    rw [h4]
    rfl
  clear x31
  clear x34
  refine wl_onew (.eq (.bool false)) (want_of rfl rfl x30) 36 rfl (by rw [sd.1]; decide) (st_neqi 27 (.tmp 35) (.const (.int .i64 0)) rfl .i64 (0) (0) x35 rfl _ (by rfl)) ?_
  intro f36 w36 df2 sz2 old2 new2 hb
  replace bl0 := bl
  replace x2 := tr old2 x2 rfl
  replace x30 := tr old2 x30 rfl
  replace x35 := tr old2 x35 rfl
  have x36 := Fk.e new2
  replace hd := HD.below hd hb
  replace hw := HW.below hw hb
  replace bl := bgo bl hb
  replace sd := sd2 sz2 df2 sd
  clear df2 sz2 old2 new2 hb
  clear x35
  refine wl_one (.eq (.bool false)) rfl 37 rfl (by rw [sd.1]; decide) (st_pick_f' (.tmp 30) (.const (.bool true)) (.tmp 36) rfl x30 x36) ?_
  intro f37 w37 df2 sz2 old2 new2 hb
  replace x2 := tr old2 x2 rfl
  replace x30 := tr old2 x30 rfl
  replace x36 := tr old2 x36 rfl
  have x37 := Fk.e new2
  replace hd := HD.below hd hb
  replace hw := HW.below hw hb
  replace bl := bgo bl hb
  replace sd := sd2 sz2 df2 sd
  clear df2 sz2 old2 new2 hb
  refine wpList_nil ?_
  clear x30
  clear x36
  show Code.wp _ _ _ _ _
  refine wp_cond_false x37 ?_
  refine wp_skip ?_
  show Code.wp _ _ _ _ _
  refine wp_seq ?_
  refine wr_s [.eq (.pointer (some ⟨gw, 0, none⟩))] (by rw [sd.1]; kernel_rfl) ⟨fun hwt ac u K => ?_, trivial⟩ ?_
  · exact st_move (.tmp 2) rfl (K.t x2 rfl)
  intro f38 w38 A hb
  replace x2 := A.t x2 rfl
  replace x37 := A.t x37 rfl
  have x39 := A.e 0 39 rfl rfl
  replace hd := HD.below hd hb
  replace hw := HW.below hw hb
  replace bl := bgo bl hb
  replace sd := A.sd sd
  clear A hb
  clear x2
  clear x37
  refine wl_call 20 (.func 20) _ _ #[.pointer (some ⟨gw, 0, none⟩), .int .i64 (2)] rfl 40 rfl (by rw [sd.1]; decide) rfl rfl (two_arg x39 rfl) Tryz.enter20 (fun u W' => ∃ (D2 : Nat → Prop) (A : Option Addr) (C : Nat), u = .tuple #[.slice A (List.replicate 64 7#8).length C, .int .i64 0] ∧ (Fk.sl (List.replicate 64 7#8)).f (.slice A (List.replicate 64 7#8).length C) W' ∧ HD W' gd M D2 (s9) ∧ HW W' gw gd VV (n) z false ∧ (∀ j, D2 j → DD j ∨ w38.heap.size ≤ j) ∧ Fr M w38 W') ((fk_wread hw hd gs hVD hq.up.2.2 (2)).mono (by
    rintro e w' ⟨D', A, b, C, rfl, hb, q1, q2, q3, q4, q5⟩
    rw [if_neg (by decide), if_neg (by omega)] at hb ⊢
    rw [show nowd s9 (1 + (2 : Int).toNat) = List.replicate 64 7#8 from hnow] at hb
    subst hb
    exact ⟨_, rfl, D', A, C, rfl, q1, q2, q3, q4, q5⟩)) ?_
  rintro f39 w39 df2 sz2 old2 ⟨D2, A7, C7, x40, hv7, hd2, hw2, hD2, O⟩
  have hVlt := hw.lt
  replace hVD : ∀ j, VV j → ¬ D2 j := fun j q m => (hD2 j m).elim (hVD j q) (fun m => by have := hVlt j q; omega)
  clear hVlt
  have bl9 := bl.trans (O.below bl.size (fun j q => hDD j (hd.sub j q)))
  replace hDD : ∀ j, D2 j → w.heap.size ≤ j := fun j q => (hD2 j q).elim (hDD j) (fun q => by have := bl.size; omega)
  replace bl := bl9
  replace bl0 := bl
  clear bl9
  replace hd := hd2
  replace hw := hw2
  clear hd2 hw2 hD2 O
  clear DD
  obtain ⟨DD, rfl⟩ : ∃ E, E = D2 := ⟨_, rfl⟩
  replace x39 := tr old2 x39 rfl
  replace sd := sd2 sz2 df2 sd
  clear df2 sz2 old2
  clear x39
  refine wl_one (.eq (.tuple #[.slice A7 (List.replicate 64 7#8).length C7, .int .i64 0])) rfl 38 rfl (by rw [sd.1]; decide) (st_move (.tmp 40) rfl x40) ?_
  intro f40 w40 df2 sz2 old2 new2 hb
  replace x40 := tr old2 x40 rfl
  have x38 := Fk.e new2
  replace hv7 := Fk.mono _ _ _ _ hv7 hb
  replace hd := HD.below hd hb
  replace hw := HW.below hw hb
  replace bl := bgo bl hb
  replace sd := sd2 sz2 df2 sd
  clear df2 sz2 old2 new2 hb
  clear x40
  refine wl_one (.eq (.slice A7 (List.replicate 64 7#8).length C7)) rfl 41 rfl (by rw [sd.1]; decide) (st_extv (.tmp 38) 0 rfl x38 rfl) ?_
  intro f41 w41 df2 sz2 old2 new2 hb
  replace x38 := tr old2 x38 rfl
  have x41 := Fk.e new2
  replace hv7 := Fk.mono _ _ _ _ hv7 hb
  replace hd := HD.below hd hb
  replace hw := HW.below hw hb
  replace bl := bgo bl hb
  replace sd := sd2 sz2 df2 sd
  clear df2 sz2 old2 new2 hb
  refine wl_one (.eq (.int .i64 0)) rfl 42 rfl (by rw [sd.1]; decide) (st_extv (.tmp 38) 1 rfl x38 rfl) ?_
  intro f42 w42 df2 sz2 old2 new2 hb
  replace x38 := tr old2 x38 rfl
  replace x41 := tr old2 x41 rfl
  have x42 := Fk.e new2
  replace hv7 := Fk.mono _ _ _ _ hv7 hb
  replace hd := HD.below hd hb
  replace hw := HW.below hw hb
  replace bl := bgo bl hb
  replace sd := sd2 sz2 df2 sd
  clear df2 sz2 old2 new2 hb
  clear x38
  refine wl_one (.eq (.slice A7 (List.replicate 64 7#8).length C7)) rfl 4 rfl (by rw [sd.1]; decide) (st_assign (.tmp 41) rfl x41) ?_
  intro f43 w43 df2 sz2 old2 new2 hb
  replace x41 := tr old2 x41 rfl
  replace x42 := tr old2 x42 rfl
  have x4 := Fk.e new2
  replace hv7 := Fk.mono _ _ _ _ hv7 hb
  replace hd := HD.below hd hb
  replace hw := HW.below hw hb
  replace bl := bgo bl hb
  replace sd := sd2 sz2 df2 sd
  clear df2 sz2 old2 new2 hb
  clear x41
  refine wl_one (.eq (.int .i64 0)) rfl 5 rfl (by rw [sd.1]; decide) (st_assign (.tmp 42) rfl x42) ?_
  intro f44 w44 df2 sz2 old2 new2 hb
  replace x42 := tr old2 x42 rfl
  replace x4 := tr old2 x4 rfl
  have x5 := Fk.e new2
  replace hv7 := Fk.mono _ _ _ _ hv7 hb
  replace hd := HD.below hd hb
  replace hw := HW.below hw hb
  replace bl := bgo bl hb
  replace sd := sd2 sz2 df2 sd
  clear df2 sz2 old2 new2 hb
  refine wpList_nil ?_
  clear x42
  show Code.wp _ _ _ _ _
  refine wp_seq ?_
  refine wr_d [.eq (.int .i64 0), .eq (.bool true), .eq (.bool true), .eq (.slice A7 (List.replicate 64 7#8).length C7), .eq (.string (str (List.replicate 64 7#8))), .sl (List.replicate 64 7#8), .eq (.string (str (List.replicate 64 7#8))), .eq (.bool true), .eq (.bool true), .eq (.bool true)] Tryz.mixed (by rw [sd.1]; kernel_rfl) ⟨fun hwt ac u K => ?_, fun hwt ac u K => ?_, fun hwt ac u K => ?_, fun hwt ac u K => ?_, fun hwt ac u K => ?_, fun hwt ac u K => ?_, fun hwt ac u K => ?_, fun hwt ac u K => ?_, fun hwt ac u K => ?_, fun hwt ac u K => ?_, trivial⟩ ?_
  · exact st_move (.tmp 5) rfl (K.t x5 rfl)
  · exact st_eqi 27 (.tmp 43) (.const (.int .i64 0)) rfl .i64 (0) (0) (K.dep 0 43 rfl) rfl _ (by rfl)
  · exact st_move (.tmp 44) rfl (K.dep 1 44 rfl)
  · exact st_move (.tmp 4) rfl (K.t x4 rfl)
  · exact st_stra (.tmp 46) rfl (fk_val (K.dep 3 46 rfl) (Fk.mono _ _ _ _ hv7 K.grow))
  · exact st_call 7 (.func 7) _ _ _ rfl rfl (one_arg rfl) Tryz.enter7 (full64_sl 7#8 _)
  · exact st_stra (.tmp 48) rfl (K.dep 5 48 rfl)
  · exact st_eqs (.tmp 47) (.tmp 49) rfl (str (List.replicate 64 7#8)) (str (List.replicate 64 7#8)) (K.dep 4 47 rfl) (K.dep 6 49 rfl) _ (by simp)
  · exact st_pick_t (.tmp 45) (.tmp 50) (.const (.bool false)) rfl (K.dep 2 45 rfl) (K.dep 7 50 rfl)
  · exact st_assign (.tmp 51) rfl (K.dep 8 51 rfl)
  intro f45 w45 A hb
  replace x4 := A.t x4 rfl
  replace x5 := A.t x5 rfl
  have x0 := A.e 9 0 rfl rfl
  replace hv7 := Fk.mono _ _ _ _ hv7 hb
  replace hd := HD.below hd hb
  replace hw := HW.below hw hb
  replace bl := bgo bl hb
  replace sd := A.sd sd
  clear A hb
  clear x4
  clear x5
  show Code.wp _ _ _ _ _
  refine wp_ret ?_
  repeat (first | with_reducible refine then_ret ?_ | with_reducible refine block_ret ?_)
  exact bodyPost_ret (v := .bool true) (ret_slot rfl f45 _ x0 _ _) sd.2 ⟨_, rfl, rfl, bl⟩
end Go.Proofs.YtakdpkoigijonaaGreat
namespace Go.Proofs.YtakdpkoigijonaaGreat
set_option maxRecDepth 100000
open Go.RowKit
/-- What a slice of texts of the law's own tells: nothing, or these h texts, apart from the disk and the wal. -/
def MBs (w : World) (D V : Nat → Prop) (h : Nat) (mb : Option (List Byt)) (v : Value) : Prop := (mb = none ∧ v = .slice none 0 0) ∨ ∃ x g C, mb = some x ∧ v = .slice (some ⟨g, 0, none⟩) h C ∧ x.length = h ∧ Rs w g x ∧ ¬ D g ∧ ¬ V g
theorem MBs.below {w w' : World} {D V : Nat → Prop} {h : Nat} {mb : Option (List Byt)} {v : Value} (q : MBs w D V h mb v) (hb : Below w.heap.size w w') : MBs w' D V h mb v := by
  rcases q with q | ⟨x, g, C, h1, h2, h3, h4, h5⟩
  · exact .inl q
  · exact .inr ⟨x, g, C, h1, h2, h3, h4.below hb, h5⟩
theorem MBs.eff {w w' : World} {S D V D2 V2 : Nat → Prop} {h : Nat} {mb : Option (List Byt)} {v : Value} (q : MBs w D V h mb v) (O : Fr S w w') (hS : ∀ j, S j → D j ∨ V j) (hD : ∀ j, D2 j → D j ∨ w.heap.size ≤ j) (hV : ∀ j, V2 j → V j ∨ w.heap.size ≤ j) : MBs w' D2 V2 h mb v := by
  rcases q with q | ⟨x, g, C, h1, h2, h3, h4, h5, h6⟩
  · exact .inl q
  · have hlt := h4.lt
    exact .inr ⟨x, g, C, h1, h2, h3, h4.keep (O.block _ hlt (fun q => (hS _ q).elim h5 h6)), fun q => (hD _ q).elim h5 (fun q => by omega), fun q => (hV _ q).elim h6 (fun q => by omega)⟩
theorem MBs.some {w : World} {D V : Nat → Prop} {h : Nat} {x : List Byt} {v : Value} (q : MBs w D V h (.some x) v) : ∃ g C, v = .slice (.some ⟨g, 0, none⟩) h C ∧ x.length = h ∧ Rs w g x ∧ ¬ D g ∧ ¬ V g := by
  rcases q with ⟨q, _⟩ | ⟨x', g, C, h1, h2⟩
  · cases q
  · cases h1
    exact ⟨g, C, h2⟩
theorem MBs.none {w : World} {D V : Nat → Prop} {h : Nat} {v : Value} (q : MBs w D V h .none v) : v = .slice .none 0 0 := by
  rcases q with ⟨_, q⟩ | ⟨x', g, C, h1, _⟩
  · exact q
  · cases h1
theorem same_mb {w : World} {D V D2 V2 : Nat → Prop} {h : Nat} {a b : List Byt} {va vb : Value} (qa : MBs w D V h (.some a) va) (qb : MBs w D2 V2 h (.some b) vb) (h9 : h ≤ 1000) :
    Calls Tryz.prog 13 #[va, vb] w fun e w' => ∃ u, e = .returned u ∧ (Fk.eq (.bool (decide (a = b)))).f u w' ∧ Below w.heap.size w w' := by
  obtain ⟨g, C, rfl, h2, h3, _, _⟩ := qa.some
  obtain ⟨g', C', rfl, r2, r3, _, _⟩ := qb.some
  have := fk_sameT (Ca := C) (Cb := C') (by omega) h3 r3
  rw [h2, r2] at this
  exact this
theorem homes_mb {w : World} {gw gd n z k9 : Nat} {V M D : Nat → Prop} {s : Dst} (hw : HW w gw gd V n z false) (hd : HD w gd M D s) (gs : Gd s n z k9) (hs : s.down = false) (hVD : ∀ j, V j → ¬ D j) (h0 : 0 < homN n) (h9 : homN n ≤ 1000) :
    Calls Tryz.prog 10 #[.pointer (some ⟨gw, 0, none⟩), .int .i64 ((homN n : Nat) : Int)] w fun e w' => ∃ u, e = .returned u ∧ ∃ (D2 : Nat → Prop) (v : Value), u = .tuple #[v, .bool true] ∧ MBs w' D2 V (homN n) (.some (hml s (homN n))) v ∧ HD w' gd M D2 s ∧ HW w' gw gd V n z false ∧ (∀ j, D2 j → D j ∨ w.heap.size ≤ j) ∧ Fr M w w' := by
  have hlt := hw.lt
  refine (fk_homes hw hd gs hs hVD hlt (Nat.le_refl _) h9).mono ?_
  rintro e w' ⟨D', v, rfl, h1, h2, h3, h4, h5, h6⟩
  refine ⟨_, rfl, D', v, rfl, ?_, h2, h3, h4, h6⟩
  have hne : hml s (homN n) ≠ [] := fun e => by have := hml_len s (homN n); rw [e] at this; simp at this; omega
  obtain ⟨g, C, rfl, q1, q2, q3⟩ := os_block12 h1 hne
  rw [hml_len] at h5 ⊢
  exact .inr ⟨_, g, C, rfl, rfl, hml_len _ _, q3, h5 g rfl, fun q => by have := hlt _ q; omega⟩
/-- A function on sectors, the k sectors from a on turned. -/
def upd (a : Nat) (f : Nat → Byt) (k : Nat) (g : Nat → Byt) : Nat → Byt := fun j => if a ≤ j ∧ j < a + k then f (j - a) else g j
theorem upd_zero (a : Nat) (f g : Nat → Byt) : upd a f 0 g = g := funext fun j => if_neg (by omega)
theorem upd_succ (a : Nat) (f g : Nat → Byt) (k : Nat) : (fun j => if j = a + k then f k else upd a f k g j) = upd a f (k + 1) g := by
  funext j
  show (if j = a + k then f k else upd a f k g j) = upd a f (k + 1) g j
  unfold upd
  by_cases h : j = a + k
  · subst h
    rw [if_pos rfl, if_pos (by omega), show a + k - a = k by omega]
  · rw [if_neg h]
    by_cases h2 : a ≤ j ∧ j < a + k
    · rw [if_pos h2, if_pos (by omega)]
    · rw [if_neg h2, if_neg (by omega)]
theorem upd_in {a k i : Nat} {f g : Nat → Byt} (h : i < k) : upd a f k g (a + i) = f i := by
  unfold upd
  rw [if_pos (by omega), show a + i - a = i by omega]
theorem upd_out {a k j : Nat} {f g : Nat → Byt} (h : ¬ (a ≤ j ∧ j < a + k)) : upd a f k g j = g j := if_neg h
/-- The disk behind tampers: up, nothing cached, its sectors as g tells. -/
def TS (n z : Nat) (s : Dst) (g : Nat → Byt) : Prop := Up s n z false ∧ (∀ j, caO s j = []) ∧ ∀ j, stO s j = g j
theorem TS.tm {n z : Nat} {s : Dst} {g : Nat → Byt} (h : TS n z s g) {i : Nat} (hi : i < n) {b : Byt} (hb : b.length = z) : (tmr s (i : Int) b).1 = 0 ∧ TS n z (tmr s (i : Int) b).2 (fun j => if j = i then b else g j) := by
  obtain ⟨h1, h2, h3⟩ := h
  obtain ⟨q1, q2, q3, q4⟩ := tmr_up h1 hi hb
  refine ⟨q1, q2, fun j => ?_, fun j => ?_⟩
  · rw [q4 j]
    split
    · rfl
    · exact h2 j
  · rw [q3 j, h3 j]
theorem caO_newd (n z j : Nat) : caO (newd n z) j = [] := by
  show (List.replicate n ([] : Byt)).getD j [] = []
  rw [List.getD_eq_getElem?_getD, List.getElem?_replicate]
  split <;> rfl
theorem TS.new {n z : Nat} (h3 : 3 ≤ n) (hz : 0 < z) : TS n z (newd n z) (stO (newd n z)) := ⟨(quiet_newd h3 hz).up, caO_newd n z, fun _ => rfl⟩
theorem tmr_no {n z : Nat} {s : Dst} (h : Gw s n z) {b : Byt} (h0 : 0 < n) (hb : b.length ≠ z) : tmr s 0 b = (10, s) := by
  unfold tmr
  rw [if_neg (by rw [h.has]; omega), if_pos (by rw [h.size]; exact hb)]
/-- A row of texts that is being filled. -/
def rw9 (f : Nat → Byt) (h k : Nat) : List Byt := (List.range k).map f ++ List.replicate (h - k) []
theorem rw9_zero (f : Nat → Byt) (h : Nat) : rw9 f h 0 = List.replicate h [] := by unfold rw9; simp
theorem rw9_all (f : Nat → Byt) (h : Nat) : rw9 f h h = (List.range h).map f := by unfold rw9; simp
theorem rw9_len {f : Nat → Byt} {h k : Nat} (hk : k ≤ h) : (rw9 f h k).length = h := by
  unfold rw9
  rw [List.length_append, List.length_map, List.length_range, List.length_replicate]
  omega
theorem rw9_set {f : Nat → Byt} {h k : Nat} (hk : k < h) : (rw9 f h k).set k (f k) = rw9 f h (k + 1) := by
  unfold rw9
  rw [List.set_append_right _ _ (by rw [List.length_map, List.length_range]; omega), List.length_map, List.length_range, Nat.sub_self]
  obtain ⟨m, hm⟩ : ∃ m, h - k = m + 1 := ⟨h - k - 1, by omega⟩
  rw [hm, show h - (k + 1) = m by omega, List.replicate_succ, List.set_cons_zero, List.range_succ, List.map_append, List.append_assoc]
  rfl
theorem rw9_at {f : Nat → Byt} {h k : Nat} (hk : k < h) : (rw9 f h h)[k]? = some (f k) := by
  rw [rw9_all, List.getElem?_map, List.getElem?_range hk]
  rfl
/-- What home has at first; what the journal has. -/
def fl9 (k : Nat) : Byt := List.replicate 64 (kb ((k + 1 : Nat) : Int))
def dt9 (ps : List Pt) (k : Nat) : Byt := match ps[k]? with
  | some p => if p.bs.length = 64 then p.bs else zs 64
  | none => zs 64
theorem fl9_len (k : Nat) : (fl9 k).length = 64 := List.length_replicate
theorem dt9_len (ps : List Pt) (k : Nat) : (dt9 ps k).length = 64 := by
  unfold dt9
  split
  · split
    · assumption
    · exact List.length_replicate
  · exact List.length_replicate
theorem dt9_some {ps : List Pt} {k : Nat} {p : Pt} (h : ps[k]? = some p) (h2 : p.bs.length = 64) : dt9 ps k = p.bs := by
  unfold dt9
  rw [h]
  exact if_pos h2
theorem dt9_not {ps : List Pt} {k : Nat} {p : Pt} (h : ps[k]? = some p) (h2 : p.bs.length ≠ 64) : dt9 ps k = zs 64 := by
  unfold dt9
  rw [h]
  exact if_neg h2
theorem dt9_none {ps : List Pt} {k : Nat} (h : ¬ k < ps.length) : dt9 ps k = zs 64 := by
  unfold dt9
  rw [List.getElem?_eq_none (by omega)]
/-- Home, with what the head names moved. -/
def ws (f : Nat → Byt) : Nat → List Nat → List Byt → List Byt
  | _, [], x => x
  | p, a :: l, x => ws f (p + 1) l (x.set a (f p))
theorem ws_len (f : Nat → Byt) (l : List Nat) : ∀ p x, (ws f p l x).length = x.length := by
  induction l with
  | nil => exact fun p x => rfl
  | cons a l ih => exact fun p x => by show (ws f (p + 1) l (x.set a (f p))).length = _; rw [ih, List.length_set]
theorem ws_snoc (f : Nat → Byt) (l : List Nat) (a : Nat) : ∀ p x, ws f p (l ++ [a]) x = (ws f p l x).set a (f (p + l.length)) := by
  induction l with
  | nil => exact fun p x => rfl
  | cons b l ih =>
    intro p x
    show ws f (p + 1) (l ++ [a]) (x.set b (f p)) = (ws f (p + 1) l (x.set b (f p))).set a (f (p + (l.length + 1)))
    rw [ih, show p + 1 + l.length = p + (l.length + 1) by omega]
theorem ws_take {f : Nat → Byt} {l : List Nat} {p k a : Nat} {x : List Byt} (h : l[k]? = some a) : ws f p (l.take (k + 1)) x = (ws f p (l.take k) x).set a (f (p + k)) := by
  have hk : k < l.length := (List.getElem?_eq_some_iff.1 h).1
  rw [List.take_add_one, h]
  show ws f p (l.take k ++ [a]) x = _
  rw [ws_snoc, List.length_take, Nat.min_eq_left (by omega)]
theorem ws_get (f : Nat → Byt) (l : List Nat) : ∀ p (x : List Byt) k, (∀ a ∈ l, a < x.length) → (ws f p l x).getD k [] = mv (jr f p l) (fun k => x.getD k []) k := by
  induction l with
  | nil => exact fun p x k _ => rfl
  | cons a l ih =>
    intro p x k h
    show (ws f (p + 1) l (x.set a (f p))).getD k [] = mv (jr f (p + 1) l) (fun k => if k = a then f p else x.getD k []) k
    rw [ih _ _ _ (fun b hb => by rw [List.length_set]; exact h b (List.mem_cons_of_mem _ hb))]
    congr 1
    funext j
    exact getD_set (h a (List.mem_cons_self ..))
theorem ws_vw {f : Nat → Byt} {l : List Nat} {h : Nat} {x : List Byt} (hx : x.length = h) (hl : ∀ a ∈ l, a < h) (hf : ∀ k, k < h → x.getD k [] = f (1 + k)) : ∀ k, k < h → (ws f (1 + h) l x).getD k [] = vw h l f k := fun k hk => by
  rw [ws_get f l _ _ _ (fun a ha => by rw [hx]; exact hl a ha)]
  exact mv_at _ (.inl (hf k hk))
theorem range_get {f : Nat → Byt} {h k : Nat} (hk : k < h) : ((List.range h).map f).getD k [] = f k := by
  rw [List.getD_eq_getElem?_getD, List.getElem?_map, List.getElem?_range hk]
  rfl
theorem clp_nil {s : Dst} (h : ∀ j, caO s j = []) (k : Nat) : clp s.cch k = [] := by
  induction k with
  | zero => rfl
  | succ k ih => rw [clp_succ, ih, if_pos (show s.cch.getD k [] = [] from h k)]; rfl
/-- Numbers that lie apart from X. -/
def IsX (w : World) (X : Nat → Prop) (v : Value) (l : List Int) : Prop := (Fk.is l).f v w ∧ (0 < l.length → ∀ a n C, v = .slice (some a) n C → ¬ X a.block)
theorem IsX.below {w w' : World} {X : Nat → Prop} {v : Value} {l : List Int} (h : IsX w X v l) (hb : Below w.heap.size w w') : IsX w' X v l := ⟨Fk.mono _ _ _ _ h.1 hb, h.2⟩
theorem IsX.fr {w w' : World} {S X X2 : Nat → Prop} {v : Value} {l : List Int} (h : IsX w X v l) (O : Fr S w w') (hS : ∀ j, S j → X j) (hX : ∀ j, X2 j → X j ∨ w.heap.size ≤ j) : IsX w' X2 v l := by
  refine ⟨is_fr12 h.1 (fun h0 a n C e m => h.2 h0 a n C e (hS _ m)) O, fun h0 a n C e m => ?_⟩
  have hlt := is_lt12 h.1 h0 a n C e
  exact (hX _ m).elim (h.2 h0 a n C e) (fun q => by omega)
theorem fr_only9 {g : Nat} {w w' : World} (O : Only g w w') : Fr (fun j => j = g) w w' := ⟨O.os, O.tape, O.output, O.size, fun j hj hn => O.block j hj hn⟩
theorem oi_isx {B : Nat} {w : World} {X : Nat → Prop} {v : Value} {l : List Int} (h : (Fk.oi B l).f v w) (hX : ∀ j, X j → j < B) : IsX w X v l := by
  refine ⟨oi_is h, fun h0 a n C e m => ?_⟩
  obtain ⟨_, h2⟩ := h
  rcases h2 with ⟨h2, h3⟩ | ⟨g, cap, cur, e2, hg, _⟩
  · rw [h2] at e
    cases e
  · rw [e2] at e
    cases e
    have : g < B := hX _ m
    omega
theorem parse_no {bs : Byt} {vb : Value} {n : Nat} {w : World} (h1 : 1 ≤ n) (hn : n ≤ 100000) (h16 : 16 ≤ bs.length) (hl5 : bs.length ≤ 5000) (hp : prsP n bs = none) (hvb : (Fk.sl bs).f vb w) : Calls Tryz.prog 8 #[vb, .int .i64 (n : Int)] w fun e w' => ∃ u, e = .returned u ∧ ∃ v, u = .tuple #[v, .bool false] ∧ Below w.heap.size w w' := by
  refine (fk_rparse h1 hn h16 hl5 hvb).mono ?_
  rintro e w' ⟨v, ok, rfl, h2, h3, h4⟩
  cases ok with
  | true =>
    obtain ⟨l, h5, _⟩ := h2 rfl
    rw [hp] at h5
    cases h5
  | false => exact ⟨_, rfl, v, rfl, h4⟩
theorem parse_ok {bs : Byt} {vb : Value} {n : Nat} {w : World} {l : List Nat} (h1 : 1 ≤ n) (hn : n ≤ 100000) (h16 : 16 ≤ bs.length) (hl5 : bs.length ≤ 5000) (hp : prsP n bs = some l) (hvb : (Fk.sl bs).f vb w) : Calls Tryz.prog 8 #[vb, .int .i64 (n : Int)] w fun e w' => ∃ u, e = .returned u ∧ ∃ v, u = .tuple #[v, .bool true] ∧ (Fk.oi w.heap.size (l.map fun k : Nat => (k : Int))).f v w' ∧ Below w.heap.size w w' := by
  refine (fk_rparse h1 hn h16 hl5 hvb).mono ?_
  rintro e w' ⟨v, ok, rfl, h2, h3, h4⟩
  cases ok with
  | true =>
    obtain ⟨l', h5, h6⟩ := h2 rfl
    rw [hp] at h5
    cases h5
    exact ⟨_, rfl, v, rfl, h6, h4⟩
  | false =>
    rw [hp] at h3
    cases h3 rfl
theorem rhead_sl (w : World) : Calls Tryz.prog 12 #[.int .i64 64, .slice none 0 0] w fun e w' => ∃ v, e = .returned v ∧ (Fk.sl (hdz 64 [])).f v w' ∧ Below w.heap.size w w' := by
  refine (fk_rhead (L := []) (z := 64) (by decide) (by decide) (is_nil12 w)).mono ?_
  rintro e w' ⟨u, rfl, h1, h2⟩
  exact ⟨u, rfl, oy_sl12 h1, h2⟩
theorem dread_ok {w : World} {gd : Nat} {M D : Nat → Prop} {s : Dst} {b : Byt} (hd : HD w gd M D s) (hr : rd s 0 = (0, b)) : Calls Tryz.prog 11 #[.pointer (some ⟨gd, 0, none⟩), .int .i64 0] w fun e w' => ∃ u, e = .returned u ∧ ∃ (D2 : Nat → Prop) (A : Option Addr) (C : Nat), u = .tuple #[.slice A b.length C, .int .i64 0] ∧ (Fk.sl b).f (.slice A b.length C) w' ∧ HD w' gd M D2 s ∧ (∀ j, D2 j → D j ∨ w.heap.size ≤ j) ∧ Fr M w w' := by
  refine (fk_dread hd 0).mono ?_
  rw [hr]
  rintro e w' ⟨D', A, C, rfl, q1, _, q2, q3, q4⟩
  exact ⟨_, rfl, D', A, C, rfl, q1, q2, q3, q4⟩
theorem rd_zero {n z : Nat} {s : Dst} {a : Bool} (h : Up s n z a) (h0 : 0 < n) (hc : caO s 0 = []) : rd s 0 = (0, stO s 0) := by
  unfold rd
  rw [if_neg (by rw [h.2.2]; decide), if_neg (by rw [h.1.has]; omega)]
  show ((0 : Int), nowd s 0) = _
  unfold nowd
  rw [if_pos (show s.cch.getD 0 [] = [] from hc)]
  rfl
theorem cached_ok {w : World} {gd : Nat} {M D : Nat → Prop} {s : Dst} (hd : HD w gd M D s) (hc : ∀ j, caO s j = []) : Calls Tryz.prog 14 #[.pointer (some ⟨gd, 0, none⟩)] w fun e w' => ∃ v, e = .returned v ∧ (Fk.is []).f v w' ∧ Below w.heap.size w w' := by
  have h := fk_dcached hd
  rw [clp_nil hc] at h
  exact h
theorem open_no12 {w : World} {gd n z k9 : Nat} {M D : Nat → Prop} {s s2 : Dst} {r : Int} (hd : HD w gd M D s) (gs : Gd s n z k9) (gw9 : Gw s n z) (hk : k9 + 4 * (n + 2) ≤ 1000000) (hr : r ≠ 0) (h0 : wopn (homN n) (prsP n) (hdz z) s = (r, s2)) :
    Calls Tryz.prog 9 #[.pointer (some ⟨gd, 0, none⟩)] w fun e w' => ∃ u, e = .returned u ∧ ∃ (D2 : Nat → Prop), u = .tuple #[.pointer none, .int .i64 r] ∧ HD w' gd M D2 s2 ∧ Gd s2 n z (k9 + 4 * (n + 2)) ∧ (∀ j, D2 j → D j ∨ w.heap.size ≤ j) ∧ Fr M w w' := by
  refine (fk_wopen hd gs gw9 hk).mono ?_
  rw [h0]
  rintro e w' ⟨D', u, rfl, h1, h2, _, h3, h5, h6⟩
  obtain rfl := h3 hr
  exact ⟨_, rfl, D', rfl, h1, h2, h5, h6⟩
theorem strB_str9 (bs : Byt) : strB (str bs) = bs := by
  unfold strB str
  rw [strOfNums_data, List.map_map, List.map_map]
  conv => rhs; rw [← List.map_id bs]
  apply List.map_congr_left
  intro x _
  have := x.isLt
  apply BitVec.eq_of_toNat_eq
  simp only [Function.comp, bv, Int.toNat_natCast, UInt8.toNat_ofNat', BitVec.toNat_ofNat, id]
  omega
section
variable {Q : Exit → Act → World → Prop} {o : Oper} {a : Act} {w : World}
theorem st_bstr (x : Operand) (ho : o.op = .convert 9 22 x) {bs : Byt} (hx : a.eval x = .string (str bs)) : o.wp Tryz.prog a w (Ends a o.dst w (Fk.sl bs).f) Q := by
  obtain ⟨c, w', hr, hv, hb⟩ := str_bytes (str bs) w
  rw [strB_str9] at hv
  refine st_run (v := .slice (some ⟨w.heap.size, 0, none⟩) (str bs).size c) (w' := w') ?_ hb (rv_sl hv)
  unfold execOp
  rw [ho]
  simp [hx, hr]
end
section
variable {P : Program} {Q : Exit → Act → World → Prop} {ops : Array Oper} {o : Oper} {a : Act} {rest : List Oper} {w : World}
theorem unwant_undef {j d : Nat} {b : Bool} (hg : o.guard = some (j, b)) (hj : (ops[j]?).bind (·.dst) = some d) (h : a.eval (.tmp d) = undef) : Region.wanted o (yielded ops a.tmps) = false := by
  unfold Region.wanted
  rw [hg]
  show (yielded ops a.tmps j == some b) = false
  unfold yielded
  rw [hj]
  simp only [Option.bind_some]
  cases hq : a.tmps[d]? with
  | none => rfl
  | some u =>
    have hu : u = undef := by
      simp only [Act.eval, Array.getD_eq_getD_getElem?, hq, Option.getD_some] at h
      exact h
    subst hu
    cases b <;> rfl
theorem wl_skipu (hw : Region.wanted o (yielded ops a.tmps) = false) (d : Nat) (hd : o.dst = some d) (hsz : d < a.tmps.size)
    (h : ∀ a2, a2.defers = a.defers → a2.tmps.size = a.tmps.size → (∀ t, (t == d) = false → a2.eval (.tmp t) = a.eval (.tmp t)) → a2.eval (.tmp d) = undef → wpList P ops Q rest a2 w) : wpList P ops Q (o :: rest) a w := by
  unfold wpList
  rw [if_neg (by rw [hw]; simp), hd]
  exact h _ (put_def _ _ _) (put_size _ _ _) (fun t ht => put_eval_other _ _ _ _ (fun e => by subst e; simp at ht)) (put_eval_same _ _ _ hsz)
end
section
variable {Q : Exit → Act → World → Prop} {o : Oper} {a : Act} {w : World} {ops : Array Oper} {rest : List Oper}
theorem wl_makeS (hgd : o.guard = none) (x y : Operand) (ho : o.op = .makeSlice 29 x y) (d : Nat) (hd : o.dst = some d) (hsz : d < a.tmps.size) (n : Nat) (hn : n ≤ 100000) (hx : a.eval x = .int .i64 (n : Int)) (hy : a.eval y = .int .i64 (n : Int))
    (h : ∀ a2 w2 g, a2.defers = a.defers → a2.tmps.size = a.tmps.size → (∀ t, (t == d) = false → a2.eval (.tmp t) = a.eval (.tmp t)) → a2.eval (.tmp d) = .slice (some ⟨g, 0, none⟩) n n → w.heap.size ≤ g → Rs w2 g (List.replicate n []) → Below w.heap.size w w2 → wpList Tryz.prog ops Q rest a2 w2) : wpList Tryz.prog ops Q (o :: rest) a w := by
  have hr : (Instr.makeSlice 29 (.int .i64 (n : Int)) (.int .i64 (n : Int))).run Tryz.prog w = .ok (.slice (some ⟨w.heap.size, 0, none⟩) n n) (w.alloc (.cells (madeCells (Value.string ByteArray.empty).cells n) 9)) := by
    obtain ⟨i0, hi, hz0, hz1, hz2⟩ := info_parts Tryz.info9s
    have := run_make (P := Tryz.prog) w 29 9 i0 (.string ByteArray.empty) Tryz.under29s hi hz0 .i64 .i64 (n : Int) (n : Int) (by omega) (by omega) (by rw [hz2]; omega) (by omega)
    rw [hz1, Int.toNat_natCast, Nat.mul_one] at this
    exact this
  unfold wpList
  rw [if_pos (by unfold Region.wanted; rw [hgd])]
  refine .inl ?_
  unfold Oper.wp execOp
  simp only [ho, Sem.run_bind, Sem.run_pure, Result.andThen_ok, hx, hy, hr]
  refine h _ _ w.heap.size (put_def _ _ _) (put_size _ _ _) (fun t ht => ?_) ?_ (Nat.le_refl _) ⟨_, heap_alloc_new _ _, fun i x hi => ?_⟩ ((Below.refl _ _).alloc (Nat.le_refl _) _)
  · rw [hd]
    exact put_eval_other _ _ _ _ (fun e => by subst e; simp at ht)
  · rw [hd, put_eval_same _ _ _ hsz]
  · rw [List.getElem?_replicate] at hi
    split at hi
    · rename_i hin
      cases hi
      have hs : i < (madeCells (Value.string ByteArray.empty).cells n).size := by rw [size_madeCells]; exact hin
      rw [Array.getElem?_eq_getElem hs]
      simp only [madeCells, Array.getElem_map, Array.getElem_range]
      show some ((#[Value.string ByteArray.empty] : Array Value)[i % 1]!) = _
      rw [Nat.mod_one]
      rfl
    · cases hi
end
end Go.Proofs.YtakdpkoigijonaaGreat
