/- Calls of disk and wal in a law's walk; awake. WalCrashes. -/
import Derived.Test.YtakdpkoigijonaaM15
import Derived.Test.YtakdpkoigijonaaM3
namespace Go.Proofs.Ytakdpkoigijonaa
set_option maxRecDepth 100000
open Go.RowKit
theorem open_ok12 {w : World} {gd n z k9 : Nat} {M D : Nat → Prop} {s s2 : Dst} (hd : HD w gd M D s) (gs : Gd s n z k9) (gw9 : Gw s n z) (hk : k9 + 4 * (n + 2) ≤ 1000000) (h0 : wopn (homN n) (prsP n) (hdz z) s = (0, s2)) :
    Calls Try.prog 9 #[.pointer (some ⟨gd, 0, none⟩)] w fun e w' => ∃ u, e = .returned u ∧ ∃ (D2 : Nat → Prop) (gw : Nat) (V : Nat → Prop), u = .tuple #[.pointer (some ⟨gw, 0, none⟩), .int .i64 0] ∧ HD w' gd M D2 s2 ∧ Gd s2 n z (k9 + 4 * (n + 2)) ∧ HW w' gw gd V n z false ∧ (∀ j, V j → w.heap.size ≤ j ∧ ¬ D2 j) ∧ (∀ j, D2 j → D j ∨ w.heap.size ≤ j) ∧ Fr M w w' := by
  refine (fk_wopen hd gs gw9 hk).mono ?_
  rw [h0]
  rintro e w' ⟨D', u, rfl, h1, h2, h3, _, h5, h6⟩
  obtain ⟨gw, V, rfl, q1, q2⟩ := h3 rfl
  exact ⟨_, rfl, D', gw, V, rfl, h1, h2, q1, q2, h5, h6⟩
theorem full64_sl (c : BitVec 8) (w : World) : Calls Try.prog 25 #[V c] w fun e w' => ∃ v, e = .returned v ∧ (Fk.sl (List.replicate 64 c)).f v w' ∧ Below w.heap.size w w' := by
  refine (fk_full64 c w).mono ?_
  rintro e w' ⟨g, rfl, hg, hm, hb⟩
  exact ⟨_, rfl, obB_sl hm, hb⟩
/-- One change, of its own. -/
theorem run_bldC (A : Option Addr) (p : Int) (n C : Nat) (w : World) : (Instr.buildSlice 36 1 #[(0, .agg #[.int .i64 p, .slice A n C])]).run Try.prog w = .ok (.slice (some ⟨w.heap.size, 0, none⟩) 1 1) (w.alloc (.cells #[.int .i64 p, .slice A n C] 55)) := by kernel_rfl
section
variable {Q : Exit → Act → World → Prop} {o : Oper} {a : Act} {w : World} {ops : Array Oper} {rest : List Oper}
theorem wl_bldC (hw : Region.wanted o (yielded ops a.tmps) = true) (x : Operand) (ho : o.op = .buildSlice 36 1 #[(0, x)]) (d : Nat) (hd : o.dst = some d) (hsz : d < a.tmps.size) {A : Option Addr} {p : Int} {n C : Nat} (hx : a.eval x = .agg #[.int .i64 p, .slice A n C])
    (h : ∀ a2 w2 g, a2.defers = a.defers → a2.tmps.size = a.tmps.size → (∀ t, (t == d) = false → a2.eval (.tmp t) = a.eval (.tmp t)) → a2.eval (.tmp d) = .slice (some ⟨g, 0, none⟩) 1 1 → w.heap.size ≤ g → Ob w2 g 55 [.int .i64 p, .slice A n C] → Below w.heap.size w w2 → wpList Try.prog ops Q rest a2 w2) : wpList Try.prog ops Q (o :: rest) a w := by
  unfold wpList
  rw [if_pos hw]
  refine .inl ?_
  unfold Oper.wp execOp
  simp only [ho, Sem.run_bind, Sem.run_pure, Result.andThen_ok, List.map_toArray, List.map_cons, List.map_nil, hx, run_bldC]
  refine h _ _ w.heap.size (put_def _ _ _) (put_size _ _ _) (fun t ht => ?_) ?_ (Nat.le_refl _) (heap_alloc_new _ _) ((Below.refl _ _).alloc (Nat.le_refl _) _)
  · rw [hd]
    exact put_eval_other _ _ _ _ (fun e => by subst e; simp at ht)
  · rw [hd, put_eval_same _ _ _ hsz]
end
/-- What is told of a list of one change of its own. -/
theorem one_sr {w : World} {gl gf : Nat} {p : Int} {bs : List (BitVec 8)} {n : Nat} (hn : n = bs.length) (hp : -9223372036854775808 ≤ p ∧ p ≤ 9223372036854775807) (ml : Ob w gl 55 [.int .i64 p, .slice (some ⟨gf, 0, none⟩) n n]) (mf : Ob w gf 5 (bs.map V)) : (Fk.sr RC [(⟨p, bs, some ⟨gf, 0, none⟩, n, n⟩ : Cng)]).f (.slice (some ⟨gl, 0, none⟩) 1 1) w := by
  subst hn
  refine ⟨_, _, gl, 0, rfl, Nat.le_refl _, fun _ => rfl, fun i q hi => ?_⟩
  obtain _ | i := i
  · cases hi
    refine ⟨⟨obB_sl mf, hp⟩, fun j u hj => ?_⟩
    rw [Nat.zero_mul, Nat.zero_add]
    first | exact Ob.cell ml j hj | (rw [Nat.zero_add]; exact Ob.cell ml j hj)
  · cases hi
theorem nowO_home {n z : Nat} {h : Nat} {prs : Byt → Option (List Nat)} {a : Bool} {s : Dst} {now : List Byt} (q : Quiet n z h prs a s now) {k : Nat} (hk : k < h) : nowO s (1 + k) = now.getD k [] := by
  unfold nowO
  rw [if_pos (q.home k hk).1]
  exact (q.home k hk).2
theorem com_ok12 {n z : Nat} {s s' : Dst} {l : List Cng} {r : Int} {dn' : Bool} {now : List Byt} (h3 : 3 ≤ n) (h32 : 32 ≤ z) (hn : n ≤ 100000) (hq : Quiet n z (homN n) (prsP n) false s now) (hc : ComIs n z s false l r s' dn') : (WrongIs l n z r ∨ (l = [] ∧ r = 0)) ∧ dn' = false ∧ ((r = 0 ∧ (l = [] ∨ WrongIs l n z 0) ∧ Quiet n z (homN n) (prsP n) false s' (chg now (prc l))) ∨ (r ≠ 0 ∧ s' = s)) := by
  rcases hc with ⟨rfl, rfl, rfl, rfl⟩ | ⟨_, h, _⟩ | ⟨_, _, h0, h1, rfl, rfl⟩ | ⟨_, _, h1, h2, rfl⟩
  · exact ⟨.inr ⟨rfl, rfl⟩, rfl, .inl ⟨rfl, .inl rfl, hq⟩⟩
  · cases h
  · exact ⟨.inl h1, rfl, .inr ⟨h0, rfl⟩⟩
  · obtain ⟨q1, q2, _⟩ := wrong_ok h1
    obtain ⟨r1, r2, _⟩ := wcom_on (hd_ok h3 h32 hn) hq q1 q2
    rw [← h2] at r1 r2
    obtain rfl : r = 0 := r1
    exact ⟨.inl h1, rfl, .inl ⟨rfl, .inr h1, r2⟩⟩
theorem wrong_det {l : List Cng} {n z : Nat} {a b : Int} (h1 : WrongIs l n z a) (h2 : WrongIs l n z b) : a = b := by
  rcases h1 with ⟨e1, c, hc, hb⟩ | ⟨g1, h1⟩ <;> rcases h2 with ⟨e2, c2, hc2, hb2⟩ | ⟨g2, h2⟩
  · rw [e1, e2]
  · exact absurd hb (g2 c hc)
  · exact absurd hb2 (g1 c2 hc2)
  · rcases h1 with ⟨e1, f1⟩ | ⟨f1, h1⟩ <;> rcases h2 with ⟨e2, f2⟩ | ⟨f2, h2⟩
    · rw [e1, e2]
    · exact absurd f1 f2
    · exact absurd f2 f1
    · rcases h1 with ⟨e1, f1⟩ | ⟨e1, f1⟩ <;> rcases h2 with ⟨e2, f2⟩ | ⟨e2, f2⟩
      · rw [e1, e2]
      · omega
      · omega
      · rw [e1, e2]
theorem wrong_one {p : Int} {bs : List (BitVec 8)} {A : Option Addr} {m C n z : Nat} (hp : 0 ≤ p ∧ p < homN n) (hb : bs.length = z) (hr : 1 ≤ roomN n z) : WrongIs [(⟨p, bs, A, m, C⟩ : Cng)] n z 0 := by
  refine .inr ⟨fun c hc => ?_, .inr ⟨?_, .inr ⟨rfl, hr⟩⟩⟩
  · rw [List.mem_singleton.1 hc]
    unfold BadAt
    show ¬ (p < 0 ∨ (homN n : Int) ≤ p)
    omega
  · rintro ⟨i, c, hi, hc, h⟩
    obtain rfl : i = 0 := by replace hi : i < 1 := hi; omega
    cases hc
    rcases h with h | ⟨j, _, hj, _⟩
    · exact h hb
    · omega
theorem awake12 (w : World) :
    Calls Try.prog 7 #[] w fun e w' => ∃ v, e = .returned v ∧ (Fk.eq (.bool true)).f v w' ∧ Below w.heap.size w w' := by
  go_enter Try.func7, Try.ntmps7
  refine code_both (fun f w1 => f.tmps.size = 52 ∧ f.defers = [] ∧ Below w.heap.size w (w1)) ⟨rfl, rfl, Below.refl _ _⟩ ?_
  rintro f0 w0 ⟨sz, df, bl⟩
  have sd := And.intro sz df
  clear sz df
  have bl0 := bl
  refine wp_seq ?_
  refine wr_a [.eq (.bool false)] (by rw [sd.1]; kernel_rfl) ⟨fun hw ac u K => ?_, trivial⟩ ?_
  · exact st_assign (.const (.bool false)) rfl rfl
  intro f1 w1 A hb
  replace bl := bgo bl hb
  replace sd := A.sd sd
  clear A hb
  show Code.wp _ _ _ _ _
  refine wp_seq ?_
  refine wr_s [] (by rw [sd.1]; kernel_rfl) trivial ?_
  intro f2 w2 A hb
  replace bl := bgo bl hb
  replace sd := A.sd sd
  clear A hb
  refine wl_call 8 (.func 8) _ _ #[.int .i64 ((9 : Nat) : Int), .int .i64 ((64 : Nat) : Int)] rfl 6 rfl (by rw [sd.1]; decide) rfl rfl rfl Try.enter8 (fun u W' => ∃ (gd : Nat) (M D : Nat → Prop), u = .pointer (some ⟨gd, 0, none⟩) ∧ HD W' gd M D (newd (9) (64)) ∧ (∀ j, D j → w2.heap.size ≤ j) ∧ Below w2.heap.size w2 W') ((fk_dnew (N := 9) (Z := 64) (by decide) (by decide) (by decide) (by decide) w2).mono (by rintro e w' ⟨gd, M, D, rfl, q⟩; exact ⟨_, rfl, gd, M, D, rfl, q⟩)) ?_
  rintro f3 w3 df2 sz2 old2 ⟨gd, M, DD, x6, hd, hD0, hb⟩
  have hDD : ∀ j, DD j → w.heap.size ≤ j := fun j q => Nat.le_trans bl.size (hD0 j q)
  clear hD0
  replace bl0 := bl
  replace bl := bgo bl hb
  replace sd := sd2 sz2 df2 sd
  clear df2 sz2 old2 hb
  refine wl_one (.eq (.pointer (some ⟨gd, 0, none⟩))) rfl 1 rfl (by rw [sd.1]; decide) (st_assign (.tmp 6) rfl x6) ?_
  intro f4 w4 df2 sz2 old2 new2 hb
  replace x6 := tr old2 x6 rfl
  have x1 := Fk.e new2
  replace hd := HD.below hd hb
  replace bl := bgo bl hb
  replace sd := sd2 sz2 df2 sd
  clear df2 sz2 old2 new2 hb
  refine wpList_nil ?_
  clear x6
  show Code.wp _ _ _ _ _
  refine wp_seq ?_
  refine wp_seq ?_
  refine wr_a [.eq (.pointer (some ⟨gd, 0, none⟩)), .eq (.bool false)] (by rw [sd.1]; kernel_rfl) ⟨fun hw ac u K => ?_, fun hw ac u K => ?_, trivial⟩ ?_
  · exact st_move (.tmp 1) rfl (K.t x1 rfl)
  · exact st_bin .eql 25 25 (.tmp 7) _ rfl (K.dep 0 7 rfl) rfl (by kernel_rfl)
  intro f5 w5 A hb
  replace x1 := A.t x1 rfl
  have x8 := A.e 1 8 rfl rfl
  replace hd := HD.below hd hb
  replace bl := bgo bl hb
  replace sd := A.sd sd
  clear A hb
  show Code.wp _ _ _ _ _
  refine wp_cond_false x8 ?_
  refine wp_skip ?_
  show Code.wp _ _ _ _ _
  refine wp_seq ?_
  obtain ⟨n, hn9⟩ : ∃ n : Nat, n = 9 := ⟨_, rfl⟩
  obtain ⟨z, hz9⟩ : ∃ z : Nat, z = 64 := ⟨_, rfl⟩
  obtain ⟨s0, hs0⟩ : ∃ s, s = newd n z := ⟨_, rfl⟩
  rw [← hn9, ← hz9, ← hs0] at hd
  have h4 : homN n = 4 := by rw [hn9]; rfl
  have r4 : roomN n z = 4 := by rw [hn9, hz9]; rfl
  have gs : Gd s0 n z 0 := by rw [hs0]; exact gd_new n z
  have hgw : Gw s0 n z := by rw [hs0]; exact gw_newd (by omega)
  have hq : Quiet n z (homN n) (prsP n) false s0 (List.replicate (homN n) (zs z)) := by rw [hs0]; exact quiet_newd (by omega) (by omega)
  have hop : wopn (homN n) (prsP n) (hdz z) s0 = (0, s0) := wopn_quiet (by omega) (by omega) hq
  clear hs0
  refine wr_s [.eq (.pointer (some ⟨gd, 0, none⟩))] (by rw [sd.1]; kernel_rfl) ⟨fun hw ac u K => ?_, trivial⟩ ?_
  · exact st_move (.tmp 1) rfl (K.t x1 rfl)
  intro f6 w6 A hb
  replace x1 := A.t x1 rfl
  replace x8 := A.t x8 rfl
  have x10 := A.e 0 10 rfl rfl
  replace hd := HD.below hd hb
  replace bl := bgo bl hb
  replace sd := A.sd sd
  clear A hb
  clear x1
  clear x8
  refine wl_call 9 (.func 9) _ _ #[.pointer (some ⟨gd, 0, none⟩)] rfl 11 rfl (by rw [sd.1]; decide) rfl rfl (one_arg x10) Try.enter9 (fun u W' => ∃ (D2 : Nat → Prop) (gw : Nat) (VV : Nat → Prop), u = .tuple #[.pointer (some ⟨gw, 0, none⟩), .int .i64 0] ∧ HD W' gd M D2 (s0) ∧ Gd (s0) (n) (z) (0 + 4 * (n + 2)) ∧ HW W' gw gd VV (n) (z) false ∧ (∀ j, VV j → w6.heap.size ≤ j ∧ ¬ D2 j) ∧ (∀ j, D2 j → DD j ∨ w6.heap.size ≤ j) ∧ Fr M w6 W') (open_ok12 hd gs hgw (by omega) hop) ?_
  rintro f7 w7 df2 sz2 old2 ⟨D2, gw, VV, x11, hd2, gs2, hw, hVD, hD2, O⟩
  have hVw : ∀ j, VV j → w.heap.size ≤ j := fun j q => Nat.le_trans bl.size (hVD j q).1
  replace hVD : ∀ j, VV j → ¬ D2 j := fun j q => (hVD j q).2
  replace gs := gs2
  have bl9 := bl.trans (O.below bl.size (fun j q => hDD j (hd.sub j q)))
  replace hDD : ∀ j, D2 j → w.heap.size ≤ j := fun j q => (hD2 j q).elim (hDD j) (fun q => by have := bl.size; omega)
  replace bl := bl9
  replace bl0 := bl
  clear bl9
  replace hd := hd2
  clear hd2 gs2 hD2 O
  clear DD
  obtain ⟨DD, rfl⟩ : ∃ E, E = D2 := ⟨_, rfl⟩
  replace x10 := tr old2 x10 rfl
  replace sd := sd2 sz2 df2 sd
  clear df2 sz2 old2
  clear x10
  refine wl_one (.eq (.tuple #[.pointer (some ⟨gw, 0, none⟩), .int .i64 0])) rfl 9 rfl (by rw [sd.1]; decide) (st_move (.tmp 11) rfl x11) ?_
  intro f8 w8 df2 sz2 old2 new2 hb
  replace x11 := tr old2 x11 rfl
  have x9 := Fk.e new2
  replace hd := HD.below hd hb
  replace hw := HW.below hw hb
  replace bl := bgo bl hb
  replace sd := sd2 sz2 df2 sd
  clear df2 sz2 old2 new2 hb
  clear x11
  refine wl_one (.eq (.pointer (some ⟨gw, 0, none⟩))) rfl 12 rfl (by rw [sd.1]; decide) (st_extv (.tmp 9) 0 rfl x9 rfl) ?_
  intro f9 w9 df2 sz2 old2 new2 hb
  replace x9 := tr old2 x9 rfl
  have x12 := Fk.e new2
  replace hd := HD.below hd hb
  replace hw := HW.below hw hb
  replace bl := bgo bl hb
  replace sd := sd2 sz2 df2 sd
  clear df2 sz2 old2 new2 hb
  refine wl_one (.eq (.int .i64 0)) rfl 13 rfl (by rw [sd.1]; decide) (st_extv (.tmp 9) 1 rfl x9 rfl) ?_
  intro f10 w10 df2 sz2 old2 new2 hb
  replace x9 := tr old2 x9 rfl
  replace x12 := tr old2 x12 rfl
  have x13 := Fk.e new2
  replace hd := HD.below hd hb
  replace hw := HW.below hw hb
  replace bl := bgo bl hb
  replace sd := sd2 sz2 df2 sd
  clear df2 sz2 old2 new2 hb
  clear x9
  refine wl_one (.eq (.pointer (some ⟨gw, 0, none⟩))) rfl 2 rfl (by rw [sd.1]; decide) (st_assign (.tmp 12) rfl x12) ?_
  intro f11 w11 df2 sz2 old2 new2 hb
  replace x12 := tr old2 x12 rfl
  replace x13 := tr old2 x13 rfl
  have x2 := Fk.e new2
  replace hd := HD.below hd hb
  replace hw := HW.below hw hb
  replace bl := bgo bl hb
  replace sd := sd2 sz2 df2 sd
  clear df2 sz2 old2 new2 hb
  clear x12
  refine wl_one (.eq (.int .i64 0)) rfl 3 rfl (by rw [sd.1]; decide) (st_assign (.tmp 13) rfl x13) ?_
  intro f12 w12 df2 sz2 old2 new2 hb
  replace x13 := tr old2 x13 rfl
  replace x2 := tr old2 x2 rfl
  have x3 := Fk.e new2
  replace hd := HD.below hd hb
  replace hw := HW.below hw hb
  replace bl := bgo bl hb
  replace sd := sd2 sz2 df2 sd
  clear df2 sz2 old2 new2 hb
  refine wpList_nil ?_
  clear x13
  show Code.wp _ _ _ _ _
  refine wp_seq ?_
  refine wp_seq ?_
  refine wr_s [] (by rw [sd.1]; kernel_rfl) trivial ?_
  intro f13 w13 A hb
  replace x2 := A.t x2 rfl
  replace x3 := A.t x3 rfl
  replace hd := HD.below hd hb
  replace hw := HW.below hw hb
  replace bl := bgo bl hb
  replace sd := A.sd sd
  clear A hb
  refine wl_one (.eq (.int .i64 0)) rfl 14 rfl (by rw [sd.1]; decide) (st_move (.tmp 3) rfl x3) ?_
  intro f14 w14 df2 sz2 old2 new2 hb
  replace x2 := tr old2 x2 rfl
  replace x3 := tr old2 x3 rfl
  have x14 := Fk.e new2
  replace hd := HD.below hd hb
  replace hw := HW.below hw hb
  replace bl := bgo bl hb
  replace sd := sd2 sz2 df2 sd
  clear df2 sz2 old2 new2 hb
  clear x3
  refine wl_one (.eq (.bool false)) rfl 15 rfl (by rw [sd.1]; decide) (st_neqi 28 (.tmp 14) (.const (.int .i64 0)) rfl .i64 (0) (0) x14 rfl _ (by rfl)) ?_
  intro f15 w15 df2 sz2 old2 new2 hb
  replace x2 := tr old2 x2 rfl
  replace x14 := tr old2 x14 rfl
  have x15 := Fk.e new2
  replace hd := HD.below hd hb
  replace hw := HW.below hw hb
  replace bl := bgo bl hb
  replace sd := sd2 sz2 df2 sd
  clear df2 sz2 old2 new2 hb
  clear x14
  refine wl_one (.eq (.bool false)) rfl 16 rfl (by rw [sd.1]; decide) (st_move (.tmp 15) rfl x15) ?_
  intro f16 w16 df2 sz2 old2 new2 hb
  replace x2 := tr old2 x2 rfl
  replace x15 := tr old2 x15 rfl
  have x16 := Fk.e new2
  replace hd := HD.below hd hb
  replace hw := HW.below hw hb
  replace bl := bgo bl hb
  replace sd := sd2 sz2 df2 sd
  clear df2 sz2 old2 new2 hb
  clear x15
  refine wl_onew (.eq (.pointer (some ⟨gw, 0, none⟩))) (want_of rfl rfl x16) 17 rfl (by rw [sd.1]; decide) (st_move (.tmp 2) rfl x2) ?_
  intro f17 w17 df2 sz2 old2 new2 hb
  replace bl0 := bl
  replace x2 := tr old2 x2 rfl
  replace x16 := tr old2 x16 rfl
  have x17 := Fk.e new2
  replace hd := HD.below hd hb
  replace hw := HW.below hw hb
  replace bl := bgo bl hb
  replace sd := sd2 sz2 df2 sd
  clear df2 sz2 old2 new2 hb
  refine wl_onew (.eq (.bool false)) (want_of rfl rfl x16) 18 rfl (by rw [sd.1]; decide) (st_bin .eql 27 27 (.tmp 17) _ rfl x17 rfl (by kernel_rfl)) ?_
  intro f18 w18 df2 sz2 old2 new2 hb
  replace bl0 := bl
  replace x2 := tr old2 x2 rfl
  replace x16 := tr old2 x16 rfl
  replace x17 := tr old2 x17 rfl
  have x18 := Fk.e new2
  replace hd := HD.below hd hb
  replace hw := HW.below hw hb
  replace bl := bgo bl hb
  replace sd := sd2 sz2 df2 sd
  clear df2 sz2 old2 new2 hb
  clear x17
  refine wl_one (.eq (.bool false)) rfl 19 rfl (by rw [sd.1]; decide) (st_pick_f' (.tmp 16) (.const (.bool true)) (.tmp 18) rfl x16 x18) ?_
  intro f19 w19 df2 sz2 old2 new2 hb
  replace x2 := tr old2 x2 rfl
  replace x16 := tr old2 x16 rfl
  replace x18 := tr old2 x18 rfl
  have x19 := Fk.e new2
  replace hd := HD.below hd hb
  replace hw := HW.below hw hb
  replace bl := bgo bl hb
  replace sd := sd2 sz2 df2 sd
  clear df2 sz2 old2 new2 hb
  clear x16
  clear x18
  refine wl_one (.eq (.bool false)) rfl 20 rfl (by rw [sd.1]; decide) (st_move (.tmp 19) rfl x19) ?_
  intro f20 w20 df2 sz2 old2 new2 hb
  replace x2 := tr old2 x2 rfl
  replace x19 := tr old2 x19 rfl
  have x20 := Fk.e new2
  replace hd := HD.below hd hb
  replace hw := HW.below hw hb
  replace bl := bgo bl hb
  replace sd := sd2 sz2 df2 sd
  clear df2 sz2 old2 new2 hb
  clear x19
  refine wl_onew (.eq (.pointer (some ⟨gw, 0, none⟩))) (want_of rfl rfl x20) 21 rfl (by rw [sd.1]; decide) (st_move (.tmp 2) rfl x2) ?_
  intro f21 w21 df2 sz2 old2 new2 hb
  replace bl0 := bl
  replace x2 := tr old2 x2 rfl
  replace x20 := tr old2 x20 rfl
  have x21 := Fk.e new2
  replace hd := HD.below hd hb
  replace hw := HW.below hw hb
  replace bl := bgo bl hb
  replace sd := sd2 sz2 df2 sd
  clear df2 sz2 old2 new2 hb
  refine wl_onew (.eq (.int .i64 4)) (want_of rfl rfl x20) 22 rfl (by rw [sd.1]; decide) (st_call 11 (.func 11) _ _ #[.pointer (some ⟨gw, 0, none⟩)] rfl rfl (one_arg x21) Try.enter11 (by have h9 := fk_whomeN hw hd gs; rw [h4] at h9; exact h9)) ?_
  intro f22 w22 df2 sz2 old2 new2 hb
  replace bl0 := bl
  replace x2 := tr old2 x2 rfl
  replace x20 := tr old2 x20 rfl
  replace x21 := tr old2 x21 rfl
  have x22 := Fk.e new2
  replace hd := HD.below hd hb
  replace hw := HW.below hw hb
  replace bl := bgo bl hb
  replace sd := sd2 sz2 df2 sd
  clear df2 sz2 old2 new2 hb
  clear x21
  refine wl_onew (.eq (.bool false)) (want_of rfl rfl x20) 23 rfl (by rw [sd.1]; decide) (st_neqi 3 (.tmp 22) (.const (.int .i64 4)) rfl .i64 (4) (4) x22 rfl _ (by rfl)) ?_
  intro f23 w23 df2 sz2 old2 new2 hb
  replace bl0 := bl
  replace x2 := tr old2 x2 rfl
  replace x20 := tr old2 x20 rfl
  replace x22 := tr old2 x22 rfl
  have x23 := Fk.e new2
  replace hd := HD.below hd hb
  replace hw := HW.below hw hb
  replace bl := bgo bl hb
  replace sd := sd2 sz2 df2 sd
  clear df2 sz2 old2 new2 hb
  clear x22
  refine wl_one (.eq (.bool false)) rfl 24 rfl (by rw [sd.1]; decide) (st_pick_f' (.tmp 20) (.const (.bool true)) (.tmp 23) rfl x20 x23) ?_
  intro f24 w24 df2 sz2 old2 new2 hb
  replace x2 := tr old2 x2 rfl
  replace x20 := tr old2 x20 rfl
  replace x23 := tr old2 x23 rfl
  have x24 := Fk.e new2
  replace hd := HD.below hd hb
  replace hw := HW.below hw hb
  replace bl := bgo bl hb
  replace sd := sd2 sz2 df2 sd
  clear df2 sz2 old2 new2 hb
  clear x20
  clear x23
  refine wl_one (.eq (.bool false)) rfl 25 rfl (by rw [sd.1]; decide) (st_move (.tmp 24) rfl x24) ?_
  intro f25 w25 df2 sz2 old2 new2 hb
  replace x2 := tr old2 x2 rfl
  replace x24 := tr old2 x24 rfl
  have x25 := Fk.e new2
  replace hd := HD.below hd hb
  replace hw := HW.below hw hb
  replace bl := bgo bl hb
  replace sd := sd2 sz2 df2 sd
  clear df2 sz2 old2 new2 hb
  clear x24
  refine wl_onew (.eq (.pointer (some ⟨gw, 0, none⟩))) (want_of rfl rfl x25) 26 rfl (by rw [sd.1]; decide) (st_move (.tmp 2) rfl x2) ?_
  intro f26 w26 df2 sz2 old2 new2 hb
  replace bl0 := bl
  replace x2 := tr old2 x2 rfl
  replace x25 := tr old2 x25 rfl
  have x26 := Fk.e new2
  replace hd := HD.below hd hb
  replace hw := HW.below hw hb
  replace bl := bgo bl hb
  replace sd := sd2 sz2 df2 sd
  clear df2 sz2 old2 new2 hb
  refine wl_onew (.eq (.int .i64 4)) (want_of rfl rfl x25) 27 rfl (by rw [sd.1]; decide) (st_call 12 (.func 12) _ _ #[.pointer (some ⟨gw, 0, none⟩)] rfl rfl (one_arg x26) Try.enter12 (by have h9 := fk_wroomN hw hd gs (by omega); rw [r4] at h9; exact h9)) ?_
  intro f27 w27 df2 sz2 old2 new2 hb
  replace bl0 := bl
  replace x2 := tr old2 x2 rfl
  replace x25 := tr old2 x25 rfl
  replace x26 := tr old2 x26 rfl
  have x27 := Fk.e new2
  replace hd := HD.below hd hb
  replace hw := HW.below hw hb
  replace bl := bgo bl hb
  replace sd := sd2 sz2 df2 sd
  clear df2 sz2 old2 new2 hb
  clear x26
  refine wl_onew (.eq (.bool false)) (want_of rfl rfl x25) 28 rfl (by rw [sd.1]; decide) (st_neqi 3 (.tmp 27) (.const (.int .i64 4)) rfl .i64 (4) (4) x27 rfl _ (by rfl)) ?_
  intro f28 w28 df2 sz2 old2 new2 hb
  replace bl0 := bl
  replace x2 := tr old2 x2 rfl
  replace x25 := tr old2 x25 rfl
  replace x27 := tr old2 x27 rfl
  have x28 := Fk.e new2
  replace hd := HD.below hd hb
  replace hw := HW.below hw hb
  replace bl := bgo bl hb
  replace sd := sd2 sz2 df2 sd
  clear df2 sz2 old2 new2 hb
  clear x27
  refine wl_one (.eq (.bool false)) rfl 29 rfl (by rw [sd.1]; decide) (st_pick_f' (.tmp 25) (.const (.bool true)) (.tmp 28) rfl x25 x28) ?_
  intro f29 w29 df2 sz2 old2 new2 hb
  replace x2 := tr old2 x2 rfl
  replace x25 := tr old2 x25 rfl
  replace x28 := tr old2 x28 rfl
  have x29 := Fk.e new2
  replace hd := HD.below hd hb
  replace hw := HW.below hw hb
  replace bl := bgo bl hb
  replace sd := sd2 sz2 df2 sd
  clear df2 sz2 old2 new2 hb
  clear x25
  clear x28
  refine wl_one (.eq (.bool false)) rfl 30 rfl (by rw [sd.1]; decide) (st_move (.tmp 29) rfl x29) ?_
  intro f30 w30 df2 sz2 old2 new2 hb
  replace x2 := tr old2 x2 rfl
  replace x29 := tr old2 x29 rfl
  have x30 := Fk.e new2
  replace hd := HD.below hd hb
  replace hw := HW.below hw hb
  replace bl := bgo bl hb
  replace sd := sd2 sz2 df2 sd
  clear df2 sz2 old2 new2 hb
  clear x29
  refine wl_onew (.eq (.pointer (some ⟨gw, 0, none⟩))) (want_of rfl rfl x30) 31 rfl (by rw [sd.1]; decide) (st_move (.tmp 2) rfl x2) ?_
  intro f31 w31 df2 sz2 old2 new2 hb
  replace bl0 := bl
  replace x2 := tr old2 x2 rfl
  replace x30 := tr old2 x30 rfl
  have x31 := Fk.e new2
  replace hd := HD.below hd hb
  replace hw := HW.below hw hb
  replace bl := bgo bl hb
  replace sd := sd2 sz2 df2 sd
  clear df2 sz2 old2 new2 hb
  refine wl_callw 25 (.func 25) _ _ #[V 7#8] (want_of rfl rfl x30) 32 rfl (by rw [sd.1]; decide) rfl rfl rfl Try.enter25 (fun u W' => ∃ g, u = .slice (some ⟨g, 0, none⟩) 64 64 ∧ w31.heap.size ≤ g ∧ Ob W' g 5 ((List.replicate 64 (7#8)).map V) ∧ Below w31.heap.size w31 W') ((fk_full64 7#8 _).mono (by rintro e w' ⟨g, rfl, q⟩; exact ⟨_, rfl, g, rfl, q⟩)) ?_
  rintro f32 w32 df2 sz2 old2 ⟨gf, x32, hgf, mf, hb⟩
  have hgDf : ¬ DD gf := fun q => by have := hd.lt _ q; omega
  have hgVf : ¬ VV gf := fun q => by have := hw.lt _ q; omega
  replace bl0 := bl
  replace x2 := tr old2 x2 rfl
  replace x30 := tr old2 x30 rfl
  replace x31 := tr old2 x31 rfl
  replace hd := HD.below hd hb
  replace hw := HW.below hw hb
  replace bl := bgo bl hb
  replace sd := sd2 sz2 df2 sd
  clear df2 sz2 old2 hb hgf
  refine wl_onew (.eq (.agg ([.int .i64 2, .slice (some ⟨gf, 0, none⟩) 64 64] : List Value).toArray)) (want_of rfl rfl x30) 33 rfl (by rw [sd.1]; decide) (st_build 55 _ rfl (by simp only [List.map_toArray, List.map_cons, List.map_nil, show f32.eval (.tmp 32) = _ from x32]; kernel_rfl)) ?_
  intro f33 w33 df2 sz2 old2 new2 hb
  replace bl0 := bl
  replace x2 := tr old2 x2 rfl
  replace x30 := tr old2 x30 rfl
  replace x31 := tr old2 x31 rfl
  replace x32 := tr old2 x32 rfl
  have x33 := Fk.e new2
  replace hd := HD.below hd hb
  replace hw := HW.below hw hb
  replace mf := Ob.below mf hb
  replace bl := bgo bl hb
  replace sd := sd2 sz2 df2 sd
  clear df2 sz2 old2 new2 hb
  clear x32
  refine wl_bldC (want_of rfl rfl x30) (.tmp 33) rfl 34 rfl (by rw [sd.1]; decide) (p := 2) (show f33.eval (.tmp 33) = _ from x33) ?_
  intro f34 w34 gl df2 sz2 old2 x34 hgl ml hb
  have hgDl : ¬ DD gl := fun q => by have := hd.lt _ q; omega
  have hgVl : ¬ VV gl := fun q => by have := hw.lt _ q; omega
  replace bl0 := bl
  replace x2 := tr old2 x2 rfl
  replace x30 := tr old2 x30 rfl
  replace x31 := tr old2 x31 rfl
  replace x33 := tr old2 x33 rfl
  replace hd := HD.below hd hb
  replace hw := HW.below hw hb
  replace mf := Ob.below mf hb
  replace bl := bgo bl hb
  replace sd := sd2 sz2 df2 sd
  clear df2 sz2 old2 hb hgl
  clear x33
  have hvF9 : ∀ {W : World}, Fr (fun j => M j ∨ VV j) w34 W → (Fk.sr RC ([(⟨2, List.replicate 64 7#8, some ⟨gf, 0, none⟩, 64, 64⟩ : Cng)])).f (.slice (some ⟨gl, 0, none⟩) 1 1) W := fun {W} hF => one_sr (by simp) (by decide) (Ob.keep ml (hF.block _ (Ob.lt ml) (fun q => q.elim (fun q => hgDl (hd.sub _ q)) hgVl))) (Ob.keep mf (hF.block _ (Ob.lt mf) (fun q => q.elim (fun q => hgDf (hd.sub _ q)) hgVf)))
  refine wl_callw 16 (.func 16) _ _ #[.pointer (some ⟨gw, 0, none⟩), .slice (some ⟨gl, 0, none⟩) 1 1] (want_of rfl rfl x30) 35 rfl (by rw [sd.1]; decide) rfl rfl (two_arg x31 x34) Try.enter16 (fun u W' => ∃ (D2 : Nat → Prop) (r : Int) (s' : Dst) (dn' : Bool), u = .int .i64 r ∧ ComIs (n) (z) (s0) false ([(⟨2, List.replicate 64 7#8, some ⟨gf, 0, none⟩, 64, 64⟩ : Cng)]) r s' dn' ∧ HD W' gd M D2 s' ∧ Gd s' (n) (z) (0 + 4 * (n + 2) + 20 * (([(⟨2, List.replicate 64 7#8, some ⟨gf, 0, none⟩, 64, 64⟩ : Cng)]).length + 1)) ∧ HW W' gw gd VV (n) (z) dn' ∧ (∀ j, D2 j → DD j ∨ w34.heap.size ≤ j) ∧ Fr (fun j => M j ∨ VV j) w34 W') ((fk_wcommit hw hd gs hVD (by omega) (by show 0 + 4 * (n + 2) + 20 * (1 + 1) ≤ 1000000; omega) (by show 1 ≤ 1000; omega) hvF9).mono (by rintro e w' ⟨D', r, s', dn', rfl, q⟩; exact ⟨_, rfl, D', r, s', dn', rfl, q⟩)) ?_
  rintro f35 w35 df2 sz2 old2 ⟨D2, r9, s9, dn9, x35, hC, hd2, gs2, hw2, hD2, O⟩
  clear hvF9
  have hVlt := hw.lt
  replace hVD : ∀ j, VV j → ¬ D2 j := fun j q m => (hD2 j m).elim (hVD j q) (fun m => by have := hVlt j q; omega)
  clear hVlt
  clear mf
  clear ml
  clear hgDf
  clear hgDl
  clear hgVf
  clear hgVl
  have bl9 := bl.trans (O.below bl.size (fun j q => q.elim (fun q => hDD j (hd.sub j q)) (hVw j)))
  replace hDD : ∀ j, D2 j → w.heap.size ≤ j := fun j q => (hD2 j q).elim (hDD j) (fun q => by have := bl.size; have := O.size; omega)
  replace bl := bl9
  replace bl0 := bl
  clear bl9
  replace hd := hd2
  replace gs := gs2
  replace hw := hw2
  clear hd2 gs2 hw2 hD2 O
  clear DD
  obtain ⟨DD, rfl⟩ : ∃ E, E = D2 := ⟨_, rfl⟩
  replace x2 := tr old2 x2 rfl
  replace x30 := tr old2 x30 rfl
  replace x31 := tr old2 x31 rfl
  replace x34 := tr old2 x34 rfl
  replace sd := sd2 sz2 df2 sd
  clear df2 sz2 old2
  have hWr : WrongIs [(⟨2, List.replicate 64 7#8, some ⟨gf, 0, none⟩, 64, 64⟩ : Cng)] n z 0 := wrong_one (by omega) (by rw [List.length_replicate]; exact hz9.symm) (by omega)
  obtain ⟨hw1, rfl, hcc⟩ := com_ok12 (by omega) (by omega) (by omega) hq hC
  obtain rfl : r9 = 0 := hw1.elim (fun q => wrong_det q hWr) (·.2)
  obtain ⟨-, -, hq2⟩ := hcc.resolve_right (fun q => q.1 rfl)
  replace hq := hq2
  clear hq2 hC hw1 hcc hWr
  have hnow : nowd s9 (1 + 2) = List.replicate 64 7#8 := by
    refine (nowO_home hq (k := 2) (by omega)).trans ?_
    rw [h4]
    rfl
  clear x31
  clear x34
  refine wl_onew (.eq (.bool false)) (want_of rfl rfl x30) 36 rfl (by rw [sd.1]; decide) (st_neqi 28 (.tmp 35) (.const (.int .i64 0)) rfl .i64 (0) (0) x35 rfl _ (by rfl)) ?_
  intro f36 w36 df2 sz2 old2 new2 hb
  replace bl0 := bl
  replace x2 := tr old2 x2 rfl
  replace x30 := tr old2 x30 rfl
  replace x35 := tr old2 x35 rfl
  have x36 := Fk.e new2
  replace hd := HD.below hd hb
  replace hw := HW.below hw hb
  replace bl := bgo bl hb
  replace sd := sd2 sz2 df2 sd
  clear df2 sz2 old2 new2 hb
  clear x35
  refine wl_one (.eq (.bool false)) rfl 37 rfl (by rw [sd.1]; decide) (st_pick_f' (.tmp 30) (.const (.bool true)) (.tmp 36) rfl x30 x36) ?_
  intro f37 w37 df2 sz2 old2 new2 hb
  replace x2 := tr old2 x2 rfl
  replace x30 := tr old2 x30 rfl
  replace x36 := tr old2 x36 rfl
  have x37 := Fk.e new2
  replace hd := HD.below hd hb
  replace hw := HW.below hw hb
  replace bl := bgo bl hb
  replace sd := sd2 sz2 df2 sd
  clear df2 sz2 old2 new2 hb
  refine wpList_nil ?_
  clear x30
  clear x36
  show Code.wp _ _ _ _ _
  refine wp_cond_false x37 ?_
  refine wp_skip ?_
  show Code.wp _ _ _ _ _
  refine wp_seq ?_
  refine wr_s [.eq (.pointer (some ⟨gw, 0, none⟩))] (by rw [sd.1]; kernel_rfl) ⟨fun hw ac u K => ?_, trivial⟩ ?_
  · exact st_move (.tmp 2) rfl (K.t x2 rfl)
  intro f38 w38 A hb
  replace x2 := A.t x2 rfl
  replace x37 := A.t x37 rfl
  have x39 := A.e 0 39 rfl rfl
  replace hd := HD.below hd hb
  replace hw := HW.below hw hb
  replace bl := bgo bl hb
  replace sd := A.sd sd
  clear A hb
  clear x2
  clear x37
  refine wl_call 20 (.func 20) _ _ #[.pointer (some ⟨gw, 0, none⟩), .int .i64 (2)] rfl 40 rfl (by rw [sd.1]; decide) rfl rfl (two_arg x39 rfl) Try.enter20 (fun u W' => ∃ (D2 : Nat → Prop) (A : Option Addr) (C : Nat), u = .tuple #[.slice A (List.replicate 64 7#8).length C, .int .i64 0] ∧ (Fk.sl (List.replicate 64 7#8)).f (.slice A (List.replicate 64 7#8).length C) W' ∧ HD W' gd M D2 (s9) ∧ HW W' gw gd VV (n) z false ∧ (∀ j, D2 j → DD j ∨ w38.heap.size ≤ j) ∧ Fr M w38 W') ((fk_wread hw hd gs hVD hq.up.2.2 (2)).mono (by
    rintro e w' ⟨D', A, b, C, rfl, hb, q1, q2, q3, q4, q5⟩
    rw [if_neg (by decide), if_neg (by omega)] at hb ⊢
    rw [show nowd s9 (1 + (2 : Int).toNat) = List.replicate 64 7#8 from hnow] at hb
    subst hb
    exact ⟨_, rfl, D', A, C, rfl, q1, q2, q3, q4, q5⟩)) ?_
  rintro f39 w39 df2 sz2 old2 ⟨D2, A7, C7, x40, hv7, hd2, hw2, hD2, O⟩
  have hVlt := hw.lt
  replace hVD : ∀ j, VV j → ¬ D2 j := fun j q m => (hD2 j m).elim (hVD j q) (fun m => by have := hVlt j q; omega)
  clear hVlt
  have bl9 := bl.trans (O.below bl.size (fun j q => hDD j (hd.sub j q)))
  replace hDD : ∀ j, D2 j → w.heap.size ≤ j := fun j q => (hD2 j q).elim (hDD j) (fun q => by have := bl.size; omega)
  replace bl := bl9
  replace bl0 := bl
  clear bl9
  replace hd := hd2
  replace hw := hw2
  clear hd2 hw2 hD2 O
  clear DD
  obtain ⟨DD, rfl⟩ : ∃ E, E = D2 := ⟨_, rfl⟩
  replace x39 := tr old2 x39 rfl
  replace sd := sd2 sz2 df2 sd
  clear df2 sz2 old2
  clear x39
  refine wl_one (.eq (.tuple #[.slice A7 (List.replicate 64 7#8).length C7, .int .i64 0])) rfl 38 rfl (by rw [sd.1]; decide) (st_move (.tmp 40) rfl x40) ?_
  intro f40 w40 df2 sz2 old2 new2 hb
  replace x40 := tr old2 x40 rfl
  have x38 := Fk.e new2
  replace hv7 := Fk.mono _ _ _ _ hv7 hb
  replace hd := HD.below hd hb
  replace hw := HW.below hw hb
  replace bl := bgo bl hb
  replace sd := sd2 sz2 df2 sd
  clear df2 sz2 old2 new2 hb
  clear x40
  refine wl_one (.eq (.slice A7 (List.replicate 64 7#8).length C7)) rfl 41 rfl (by rw [sd.1]; decide) (st_extv (.tmp 38) 0 rfl x38 rfl) ?_
  intro f41 w41 df2 sz2 old2 new2 hb
  replace x38 := tr old2 x38 rfl
  have x41 := Fk.e new2
  replace hv7 := Fk.mono _ _ _ _ hv7 hb
  replace hd := HD.below hd hb
  replace hw := HW.below hw hb
  replace bl := bgo bl hb
  replace sd := sd2 sz2 df2 sd
  clear df2 sz2 old2 new2 hb
  refine wl_one (.eq (.int .i64 0)) rfl 42 rfl (by rw [sd.1]; decide) (st_extv (.tmp 38) 1 rfl x38 rfl) ?_
  intro f42 w42 df2 sz2 old2 new2 hb
  replace x38 := tr old2 x38 rfl
  replace x41 := tr old2 x41 rfl
  have x42 := Fk.e new2
  replace hv7 := Fk.mono _ _ _ _ hv7 hb
  replace hd := HD.below hd hb
  replace hw := HW.below hw hb
  replace bl := bgo bl hb
  replace sd := sd2 sz2 df2 sd
  clear df2 sz2 old2 new2 hb
  clear x38
  refine wl_one (.eq (.slice A7 (List.replicate 64 7#8).length C7)) rfl 4 rfl (by rw [sd.1]; decide) (st_assign (.tmp 41) rfl x41) ?_
  intro f43 w43 df2 sz2 old2 new2 hb
  replace x41 := tr old2 x41 rfl
  replace x42 := tr old2 x42 rfl
  have x4 := Fk.e new2
  replace hv7 := Fk.mono _ _ _ _ hv7 hb
  replace hd := HD.below hd hb
  replace hw := HW.below hw hb
  replace bl := bgo bl hb
  replace sd := sd2 sz2 df2 sd
  clear df2 sz2 old2 new2 hb
  clear x41
  refine wl_one (.eq (.int .i64 0)) rfl 5 rfl (by rw [sd.1]; decide) (st_assign (.tmp 42) rfl x42) ?_
  intro f44 w44 df2 sz2 old2 new2 hb
  replace x42 := tr old2 x42 rfl
  replace x4 := tr old2 x4 rfl
  have x5 := Fk.e new2
  replace hv7 := Fk.mono _ _ _ _ hv7 hb
  replace hd := HD.below hd hb
  replace hw := HW.below hw hb
  replace bl := bgo bl hb
  replace sd := sd2 sz2 df2 sd
  clear df2 sz2 old2 new2 hb
  refine wpList_nil ?_
  clear x42
  show Code.wp _ _ _ _ _
  refine wp_seq ?_
  refine wr_d [.eq (.int .i64 0), .eq (.bool true), .eq (.bool true), .eq (.slice A7 (List.replicate 64 7#8).length C7), .eq (.string (str (List.replicate 64 7#8))), .sl (List.replicate 64 7#8), .eq (.string (str (List.replicate 64 7#8))), .eq (.bool true), .eq (.bool true), .eq (.bool true)] Try.mixed (by rw [sd.1]; kernel_rfl) ⟨fun hw ac u K => ?_, fun hw ac u K => ?_, fun hw ac u K => ?_, fun hw ac u K => ?_, fun hw ac u K => ?_, fun hw ac u K => ?_, fun hw ac u K => ?_, fun hw ac u K => ?_, fun hw ac u K => ?_, fun hw ac u K => ?_, trivial⟩ ?_
  · exact st_move (.tmp 5) rfl (K.t x5 rfl)
  · exact st_eqi 28 (.tmp 43) (.const (.int .i64 0)) rfl .i64 (0) (0) (K.dep 0 43 rfl) rfl _ (by rfl)
  · exact st_move (.tmp 44) rfl (K.dep 1 44 rfl)
  · exact st_move (.tmp 4) rfl (K.t x4 rfl)
  · exact st_stra (.tmp 46) rfl (fk_val (K.dep 3 46 rfl) (Fk.mono _ _ _ _ hv7 K.grow))
  · exact st_call 25 (.func 25) _ _ _ rfl rfl (one_arg rfl) Try.enter25 (full64_sl 7#8 _)
  · exact st_stra (.tmp 48) rfl (K.dep 5 48 rfl)
  · exact st_eqs (.tmp 47) (.tmp 49) rfl (str (List.replicate 64 7#8)) (str (List.replicate 64 7#8)) (K.dep 4 47 rfl) (K.dep 6 49 rfl) _ (by simp)
  · exact st_pick_t (.tmp 45) (.tmp 50) (.const (.bool false)) rfl (K.dep 2 45 rfl) (K.dep 7 50 rfl)
  · exact st_assign (.tmp 51) rfl (K.dep 8 51 rfl)
  intro f45 w45 A hb
  replace x4 := A.t x4 rfl
  replace x5 := A.t x5 rfl
  have x0 := A.e 9 0 rfl rfl
  replace hv7 := Fk.mono _ _ _ _ hv7 hb
  replace hd := HD.below hd hb
  replace hw := HW.below hw hb
  replace bl := bgo bl hb
  replace sd := A.sd sd
  clear A hb
  clear x4
  clear x5
  show Code.wp _ _ _ _ _
  refine wp_ret ?_
  repeat (first | with_reducible refine then_ret ?_ | with_reducible refine block_ret ?_)
  exact bodyPost_ret (v := .bool true) (ret_slot rfl f45 _ x0 _ _) sd.2 ⟨_, rfl, rfl, bl⟩
end Go.Proofs.Ytakdpkoigijonaa
namespace Go.Proofs.Ytakdpkoigijonaa
set_option maxRecDepth 100000
open Go.RowKit
/-- What a slice of texts of the law's own tells: nothing, or these h texts, apart from the disk and the wal. -/
def MBs (w : World) (D V : Nat → Prop) (h : Nat) (mb : Option (List Byt)) (v : Value) : Prop := (mb = none ∧ v = .slice none 0 0) ∨ ∃ x g C, mb = some x ∧ v = .slice (some ⟨g, 0, none⟩) h C ∧ x.length = h ∧ Rs w g x ∧ ¬ D g ∧ ¬ V g
theorem MBs.below {w w' : World} {D V : Nat → Prop} {h : Nat} {mb : Option (List Byt)} {v : Value} (q : MBs w D V h mb v) (hb : Below w.heap.size w w') : MBs w' D V h mb v := by
  rcases q with q | ⟨x, g, C, h1, h2, h3, h4, h5⟩
  · exact .inl q
  · exact .inr ⟨x, g, C, h1, h2, h3, h4.below hb, h5⟩
theorem MBs.eff {w w' : World} {S D V D2 V2 : Nat → Prop} {h : Nat} {mb : Option (List Byt)} {v : Value} (q : MBs w D V h mb v) (O : Fr S w w') (hS : ∀ j, S j → D j ∨ V j) (hD : ∀ j, D2 j → D j ∨ w.heap.size ≤ j) (hV : ∀ j, V2 j → V j ∨ w.heap.size ≤ j) : MBs w' D2 V2 h mb v := by
  rcases q with q | ⟨x, g, C, h1, h2, h3, h4, h5, h6⟩
  · exact .inl q
  · have hlt := h4.lt
    exact .inr ⟨x, g, C, h1, h2, h3, h4.keep (O.block _ hlt (fun q => (hS _ q).elim h5 h6)), fun q => (hD _ q).elim h5 (fun q => by omega), fun q => (hV _ q).elim h6 (fun q => by omega)⟩
theorem MBs.some {w : World} {D V : Nat → Prop} {h : Nat} {x : List Byt} {v : Value} (q : MBs w D V h (.some x) v) : ∃ g C, v = .slice (.some ⟨g, 0, none⟩) h C ∧ x.length = h ∧ Rs w g x ∧ ¬ D g ∧ ¬ V g := by
  rcases q with ⟨q, _⟩ | ⟨x', g, C, h1, h2⟩
  · cases q
  · cases h1
    exact ⟨g, C, h2⟩
theorem MBs.none {w : World} {D V : Nat → Prop} {h : Nat} {v : Value} (q : MBs w D V h .none v) : v = .slice .none 0 0 := by
  rcases q with ⟨_, q⟩ | ⟨x', g, C, h1, _⟩
  · exact q
  · cases h1
theorem same_mb {w : World} {D V D2 V2 : Nat → Prop} {h : Nat} {a b : List Byt} {va vb : Value} (qa : MBs w D V h (.some a) va) (qb : MBs w D2 V2 h (.some b) vb) (h9 : h ≤ 1000) :
    Calls Try.prog 19 #[va, vb] w fun e w' => ∃ u, e = .returned u ∧ (Fk.eq (.bool (decide (a = b)))).f u w' ∧ Below w.heap.size w w' := by
  obtain ⟨g, C, rfl, h2, h3, _, _⟩ := qa.some
  obtain ⟨g', C', rfl, r2, r3, _, _⟩ := qb.some
  have := fk_sameT (Ca := C) (Cb := C') (by omega) h3 r3
  rw [h2, r2] at this
  exact this
theorem homes_mb {w : World} {gw gd n z k9 : Nat} {V M D : Nat → Prop} {s : Dst} (hw : HW w gw gd V n z false) (hd : HD w gd M D s) (gs : Gd s n z k9) (hs : s.down = false) (hVD : ∀ j, V j → ¬ D j) (h0 : 0 < homN n) (h9 : homN n ≤ 1000) :
    Calls Try.prog 18 #[.pointer (some ⟨gw, 0, none⟩), .int .i64 ((homN n : Nat) : Int)] w fun e w' => ∃ u, e = .returned u ∧ ∃ (D2 : Nat → Prop) (v : Value), u = .tuple #[v, .bool true] ∧ MBs w' D2 V (homN n) (.some (hml s (homN n))) v ∧ HD w' gd M D2 s ∧ HW w' gw gd V n z false ∧ (∀ j, D2 j → D j ∨ w.heap.size ≤ j) ∧ Fr M w w' := by
  have hlt := hw.lt
  refine (fk_homes hw hd gs hs hVD hlt (Nat.le_refl _) h9).mono ?_
  rintro e w' ⟨D', v, rfl, h1, h2, h3, h4, h5, h6⟩
  refine ⟨_, rfl, D', v, rfl, ?_, h2, h3, h4, h6⟩
  have hne : hml s (homN n) ≠ [] := fun e => by have := hml_len s (homN n); rw [e] at this; simp at this; omega
  obtain ⟨g, C, rfl, q1, q2, q3⟩ := os_block12 h1 hne
  rw [hml_len] at h5 ⊢
  exact .inr ⟨_, g, C, rfl, rfl, hml_len _ _, q3, h5 g rfl, fun q => by have := hlt _ q; omega⟩
section
variable {P : Program} {Q : Exit → Act → World → Prop} {ops : Array Oper} {o : Oper} {a : Act} {rest : List Oper} {w : World}
end
section
variable {Q : Exit → Act → World → Prop} {o : Oper} {a : Act} {w : World}
end
end Go.Proofs.Ytakdpkoigijonaa
