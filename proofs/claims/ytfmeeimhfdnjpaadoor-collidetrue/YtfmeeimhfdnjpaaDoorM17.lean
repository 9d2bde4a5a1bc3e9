/- On. awake. CollideRight, CollideLists. CollideOn. Proof. -/
import Derived.Test.YtfmeeimhfdnjpaaDoorM16
import Derived.Test.YtfmeeimhfdnjpaaDoorM9
import Derived.Test.YtfmeeimhfdnjpaaDoorM14
namespace Go.Proofs.YtfmeeimhfdnjpaaDoor
set_option maxRecDepth 100000
open Go.RowKit
theorem prOn_posx {m n : Nat} (h : 1 ≤ m) (old rt : List (BitVec 8)) (P : List (List (BitVec 8))) : prOn m n old rt P ↔ bres old P (stp m n true).1 (stp m n true).2 = some (old, rt) := by unfold prOn; rw [if_neg (by omega)]
theorem fk_on_allx {old rt : List (BitVec 8)} (hold : old.length = 32) (hrt : rt.length = 32) {m n : Nat} (hmn : m ≤ n) (hn : n ≤ 1152921504606846976) {P : List (List (BitVec 8))} {v : Value} {w : World} (hv : (Fk.hc P).f v w) (hP : P.length ≤ 100000) (hK : Tab w) (h0 : m = 0 → old = shaOf [] ∧ (n = 0 → rt = old)) (r : Int) (hr : r = if prOn m n old rt P then 0 else 22) :
    Calls Tryd.prog 21 #[.int .i64 (m : Int), .int .i64 (n : Int), .agg ((old).map V).toArray, .agg ((rt).map V).toArray, v] w fun e w' => ∃ u, e = .returned u ∧ (Fk.eq (.int .i64 r)).f u w' ∧ Below w.heap.size w w' := by
  by_cases hm : m = 0
  · subst hm
    obtain ⟨e1, e2⟩ := h0 rfl
    refine fk_on_zero hold hrt hn hv hP hK r ?_
    rw [hr]
    by_cases hp : P.length = 0
    · rw [if_pos (by unfold prOn; rw [if_pos rfl]; exact hp), if_pos ⟨e1, hp, by rcases Nat.eq_zero_or_pos n with h | h; exact .inr (e2 h); exact .inl h⟩]
    · rw [if_neg (by unfold prOn; rw [if_pos rfl]; exact hp), if_neg (fun h => hp h.2.1)]
  · refine fk_on_any hold hrt (by omega) hmn hn hv hP hK r ?_
    rw [hr]
    by_cases hb : bres old P (stp m n true).1 (stp m n true).2 = some (old, rt)
    · rw [if_pos hb, if_pos ((prOn_posx (by omega) old rt P).2 hb)]
    · rw [if_neg hb, if_neg (fun h => hb ((prOn_posx (by omega) old rt P).1 h))]
set_option maxHeartbeats 2000000 in
theorem con_all {po pn : List Pt} (hso : smallP po) (hsn : smallP pn) {P : List (List (BitVec 8))} (hP : P.length ≤ 50) {w : World} {uo un up : Value} (ho : (Fk.mc po).f uo w) (hn : (Fk.mc pn).f un w) (hp : (Fk.hc P).f up w) (hK : Tab w) {f : Bool} {er : Int} (hfe : (f, er) = if pn.length < po.length then (false, 11) else if ¬ prOn po.length pn.length (mroot (lhs po)) (mroot (lhs pn)) P then (false, 22) else (decide (bys po ≠ (bys pn).take po.length), 0)) :
    Calls Tryd.prog 20 #[.agg ([uo, un, up] : List Value).toArray] w fun e w' => ∃ u, e = .returned u ∧ (Fk.c3 f er).f u w' ∧ Below w.heap.size w w' := by
  obtain ⟨oA, oC, rfl, _, ho2⟩ := mc_val ho
  obtain ⟨nA, nC, rfl, _, hn2⟩ := mc_val hn
  have hom := ho.1
  have hnm := hn.1
  have h40 := hso.2
  have h41 := hsn.2
  obtain ⟨ov, eov⟩ : ∃ x, Box (mroot (lhs po) = x) := ⟨_, ⟨rfl⟩⟩
  obtain ⟨nv, env⟩ : ∃ x, Box (mroot (lhs pn) = x) := ⟨_, ⟨rfl⟩⟩
  have hov : ov.length = 32 := by rw [← eov.out]; exact mroot_len (lhs_32 po)
  have hnv : nv.length = 32 := by rw [← env.out]; exact mroot_len (lhs_32 pn)
  have h0 : po.length = 0 → ov = shaOf [] ∧ (pn.length = 0 → nv = ov) := fun h1 => by
    have e1 := List.eq_nil_of_length_eq_zero h1
    have e2 : lhs po = [] := by rw [e1]; rfl
    refine ⟨by rw [← eov.out, e2, mroot_nil], fun h2 => ?_⟩
    have e3 : lhs pn = [] := by rw [List.eq_nil_of_length_eq_zero h2]; rfl
    rw [← eov.out, ← env.out, e2, e3]
  rw [eov.out, env.out] at hfe
  go_enter Tryd.func20, Tryd.ntmps20
  refine code_both (fun f w1 => f.tmps.size = 56 ∧ f.defers = [] ∧ f.eval (.tmp 0) = .agg ([.slice oA po.length oC, .slice nA pn.length nC, up] : List Value).toArray ∧ Below w.heap.size w (w1)) ⟨rfl, rfl, rfl, Below.refl _ _⟩ ?_
  rintro f0 w0 ⟨sz, df, x0, bl⟩
  have sd := And.intro sz df
  clear sz df
  have bl0 := bl
  refine wp_seq ?_
  refine wr_s [] (by rw [sd.1]; kernel_rfl) trivial ?_
  intro f1 w1 A hb
  replace x0 := A.t x0 rfl
  replace bl := bgo bl hb
  replace sd := A.sd sd
  clear A hb
  refine wl_one (.nw w1.heap.size 47 ([.slice oA po.length oC, .slice nA pn.length nC, up] : List Value)) rfl 1 rfl (by rw [sd.1]; decide) (st_box 47 (.tmp 0) rfl _ _ (by rw [show _ = _ from x0]; kernel_rfl) (Nat.le_refl _)) ?_
  intro f2 w2 df2 sz2 old2 new2 hb
  replace bl0 := bl
  replace x0 := tr old2 x0 rfl
  have x1 : Fk.f (.nw w1.heap.size 47 ([.slice oA po.length oC, .slice nA pn.length nC, up] : List Value)) (f2.eval (.tmp 1)) w2 := new2
  replace bl := bgo bl hb
  replace sd := sd2 sz2 df2 sd
  clear df2 sz2 old2 new2 hb
  obtain ⟨g1, hg1, e1, m1⟩ := x1
  have x1 := e1
  clear e1
  have hw1 : w.heap.size ≤ g1 := Nat.le_trans bl0.size hg1
  clear x0
  refine wl_one (.nw w2.heap.size 25 [.slice none 0 0, .slice none 0 0]) rfl 2 rfl (by rw [sd.1]; decide) (st_alloc 25 rfl _ _ (by kernel_rfl) (Nat.le_refl _)) ?_
  intro f3 w3 df2 sz2 old2 new2 hb
  replace bl0 := bl
  replace x1 := tr old2 x1 rfl
  have x2 : Fk.f (.nw w2.heap.size 25 [.slice none 0 0, .slice none 0 0]) (f3.eval (.tmp 2)) w3 := new2
  have lt_m1 := Ob.lt m1
  replace m1 := Ob.below m1 hb
  replace bl := bgo bl hb
  replace sd := sd2 sz2 df2 sd
  clear df2 sz2 old2 new2 hb
  obtain ⟨g2, hg2, e2, m2⟩ := x2
  have x2 := e2
  clear e2
  have nm1_2 : g1 ≠ g2 := Nat.ne_of_lt (Nat.lt_of_lt_of_le lt_m1 hg2)
  have hw2 : w.heap.size ≤ g2 := Nat.le_trans bl0.size hg2
  refine wl_one (.eq (.bool false)) rfl 3 rfl (by rw [sd.1]; decide) (st_assign (.const (.bool false)) rfl rfl) ?_
  intro f4 w4 df2 sz2 old2 new2 hb
  replace x1 := tr old2 x1 rfl
  replace x2 := tr old2 x2 rfl
  have x3 := Fk.e new2
  replace m1 := Ob.below m1 hb
  replace m2 := Ob.below m2 hb
  replace bl := bgo bl hb
  replace sd := sd2 sz2 df2 sd
  clear df2 sz2 old2 new2 hb
  clear x3
  refine wl_one (.eq (.int .i64 0)) rfl 4 rfl (by rw [sd.1]; decide) (st_assign (.const (.int .i64 0)) rfl rfl) ?_
  intro f5 w5 df2 sz2 old2 new2 hb
  replace x1 := tr old2 x1 rfl
  replace x2 := tr old2 x2 rfl
  have x4 := Fk.e new2
  replace m1 := Ob.below m1 hb
  replace m2 := Ob.below m2 hb
  replace bl := bgo bl hb
  replace sd := sd2 sz2 df2 sd
  clear df2 sz2 old2 new2 hb
  refine wpList_nil ?_
  clear x4
  show Code.wp _ _ _ _ _
  refine wp_seq ?_
  refine wp_region_held_drew (S := fun W => W = w5.drew) Tryd.mixed rfl (fun hS => ?_)
  have hb : Below w5.heap.size w5 w5.drew := (Below.refl _ _).drew
  replace bl0 := bl
  have lt_m1 := Ob.lt m1
  replace m1 := Ob.below m1 hb
  have lt_m2 := Ob.lt m2
  replace m2 := Ob.below m2 hb
  replace bl := bgo bl hb
  clear hb hS
  generalize w5.drew = w6 at m1 m2 bl ⊢
  have hS : w6 = w6 := rfl
  refine wh_take 0 10 (v := .pointer (some ⟨g1, 0, none⟩)) rfl rfl (by rw [sd.1]; decide) rfl (by kernel_rfl) (by kernel_rfl) (by kernel_rfl) (fun _ _ _ h => h) (run_field rfl x1 (fun w => by kernel_rfl)) hS ?_
  intro f7 df2 sz2 old2 new2
  replace x1 := tr old2 x1 rfl
  replace x2 := tr old2 x2 rfl
  have x10 := new2
  replace sd := sd2 sz2 df2 sd
  clear df2 sz2 old2 new2
  refine wh_take 1 11 (v := .slice oA po.length oC) rfl rfl (by rw [sd.1]; decide) rfl (by kernel_rfl) (by kernel_rfl) (by kernel_rfl) (fun _ _ _ h => h) (run_loadc rfl (fun w => by kernel_rfl) x10 (fun W hW => by rw [hW]; exact Ob.cell m1 0 rfl)) hS ?_
  intro f8 df2 sz2 old2 new2
  replace x1 := tr old2 x1 rfl
  replace x2 := tr old2 x2 rfl
  replace x10 := tr old2 x10 rfl
  have x11 := new2
  replace sd := sd2 sz2 df2 sd
  clear df2 sz2 old2 new2
  refine wh_take 2 12 (v := .int .i64 (po.length : Int)) rfl rfl (by rw [sd.1]; decide) rfl (by kernel_rfl) (by kernel_rfl) (by kernel_rfl) (fun _ _ _ h => h) (run_lenT Tryd.under28 Tryd.elem28 rfl x11) hS ?_
  intro f9 df2 sz2 old2 new2
  replace x1 := tr old2 x1 rfl
  replace x2 := tr old2 x2 rfl
  replace x10 := tr old2 x10 rfl
  replace x11 := tr old2 x11 rfl
  have x12 := new2
  replace sd := sd2 sz2 df2 sd
  clear df2 sz2 old2 new2
  refine wh_take 3 13 (v := .pointer (some ⟨g1, 1, none⟩)) rfl rfl (by rw [sd.1]; decide) rfl (by kernel_rfl) (by kernel_rfl) (by kernel_rfl) (fun _ _ _ h => h) (run_field rfl x1 (fun w => by kernel_rfl)) hS ?_
  intro f10 df2 sz2 old2 new2
  replace x1 := tr old2 x1 rfl
  replace x2 := tr old2 x2 rfl
  replace x10 := tr old2 x10 rfl
  replace x11 := tr old2 x11 rfl
  replace x12 := tr old2 x12 rfl
  have x13 := new2
  replace sd := sd2 sz2 df2 sd
  clear df2 sz2 old2 new2
  refine wh_take 4 14 (v := .slice nA pn.length nC) rfl rfl (by rw [sd.1]; decide) rfl (by kernel_rfl) (by kernel_rfl) (by kernel_rfl) (fun _ _ _ h => h) (run_loadc rfl (fun w => by kernel_rfl) x13 (fun W hW => by rw [hW]; exact Ob.cell m1 1 rfl)) hS ?_
  intro f11 df2 sz2 old2 new2
  replace x1 := tr old2 x1 rfl
  replace x2 := tr old2 x2 rfl
  replace x10 := tr old2 x10 rfl
  replace x11 := tr old2 x11 rfl
  replace x12 := tr old2 x12 rfl
  replace x13 := tr old2 x13 rfl
  have x14 := new2
  replace sd := sd2 sz2 df2 sd
  clear df2 sz2 old2 new2
  refine wh_take 5 15 (v := .int .i64 (pn.length : Int)) rfl rfl (by rw [sd.1]; decide) rfl (by kernel_rfl) (by kernel_rfl) (by kernel_rfl) (fun _ _ _ h => h) (run_lenT Tryd.under28 Tryd.elem28 rfl x14) hS ?_
  intro f12 df2 sz2 old2 new2
  replace x1 := tr old2 x1 rfl
  replace x2 := tr old2 x2 rfl
  replace x10 := tr old2 x10 rfl
  replace x11 := tr old2 x11 rfl
  replace x12 := tr old2 x12 rfl
  replace x13 := tr old2 x13 rfl
  replace x14 := tr old2 x14 rfl
  have x15 := new2
  replace sd := sd2 sz2 df2 sd
  clear df2 sz2 old2 new2
  refine wh_assign 6 5 rfl rfl (by rw [sd.1]; decide) rfl (by kernel_rfl) (.tmp 12) rfl hS ?_
  intro f13 df2 sz2 old2 new2
  have x5 : f13.eval (.tmp 5) = .int .i64 (po.length : Int) := new2.trans x12
  replace x1 := tr old2 x1 rfl
  replace x2 := tr old2 x2 rfl
  replace x10 := tr old2 x10 rfl
  replace x11 := tr old2 x11 rfl
  replace x12 := tr old2 x12 rfl
  replace x13 := tr old2 x13 rfl
  replace x14 := tr old2 x14 rfl
  replace x15 := tr old2 x15 rfl
  replace sd := sd2 sz2 df2 sd
  clear df2 sz2 old2 new2
  refine wh_assign 7 6 rfl rfl (by rw [sd.1]; decide) rfl (by kernel_rfl) (.tmp 15) rfl hS ?_
  intro f14 df2 sz2 old2 new2
  have x6 : f14.eval (.tmp 6) = .int .i64 (pn.length : Int) := new2.trans x15
  replace x1 := tr old2 x1 rfl
  replace x2 := tr old2 x2 rfl
  replace x10 := tr old2 x10 rfl
  replace x11 := tr old2 x11 rfl
  replace x12 := tr old2 x12 rfl
  replace x13 := tr old2 x13 rfl
  replace x14 := tr old2 x14 rfl
  replace x15 := tr old2 x15 rfl
  replace x5 := tr old2 x5 rfl
  replace sd := sd2 sz2 df2 sd
  clear df2 sz2 old2 new2
  refine wpAnyH_done (by kernel_rfl) ?_ _
  clear hS
  clear x10
  clear x11
  clear x12
  clear x13
  clear x14
  clear x15
  show Code.wp _ _ _ _ _
  refine wp_seq ?_
  refine wp_seq ?_
  by_cases hlt : pn.length < po.length
  rotate_left
  · skip
    have h : po.length ≤ pn.length := by omega
    rw [if_neg hlt] at hfe
    refine wr_a [.eq (.int .i64 (po.length : Int)), .eq (.int .i64 (pn.length : Int)), .eq (.bool false)] (by rw [sd.1]; kernel_rfl) ⟨fun hw ac u K => ?_, fun hw ac u K => ?_, fun hw ac u K => ?_, trivial⟩ ?_
    · exact st_move (.tmp 5) rfl (K.t x5 rfl)
    · exact st_move (.tmp 6) rfl (K.t x6 rfl)
    · exact st_gtr 3 (.tmp 16) (.tmp 17) rfl .i64 ((po.length : Int)) ((pn.length : Int)) (K.dep 0 16 rfl) (K.dep 1 17 rfl) _ (by symm; rw [decide_eq_false_iff_not]; exact (by omega))
    intro f15 w15 A hb
    replace x1 := A.t x1 rfl
    replace x2 := A.t x2 rfl
    replace x5 := A.t x5 rfl
    replace x6 := A.t x6 rfl
    have x18 := A.e 2 18 rfl rfl
    replace m1 := Ob.below m1 hb
    replace m2 := Ob.below m2 hb
    replace bl := bgo bl hb
    replace sd := A.sd sd
    clear A hb
    show Code.wp _ _ _ _ _
    refine wp_cond_false x18 ?_
    refine wp_skip ?_
    show Code.wp _ _ _ _ _
    refine wp_seq ?_
    refine wr_s [.eq (.pointer (some ⟨g1, 0, none⟩)), .eq (.slice oA po.length oC), .eq (.agg ((ov).map V).toArray), .nw w15.heap.size 33 ((hz).map V)] (by rw [sd.1]; kernel_rfl) ⟨fun hw ac u K => ?_, fun hw ac u K => ?_, fun hw ac u K => ?_, fun hw ac u K => ?_, trivial⟩ ?_
    · exact st_field 47 0 (.tmp 1) rfl (K.t x1 rfl) (by kernel_rfl)
    · exact st_loadc 28 (.tmp 20) rfl (by kernel_rfl) (K.dep 0 20 rfl) (Ob.cell (Ob.below m1 K.grow) 0 rfl)
    · exact st_call 31 (.func 31) _ _ _ rfl rfl (one_arg (K.dep 1 21 rfl)) Tryd.enter31 (fk_lroot (by omega) (smallP_mx hso) (Fk.mono _ _ _ _ hom (bgo bl K.grow)) (hK.below (bgo bl K.grow)) eov)
    · exact st_alloc33 rfl _ K.grow.size
    intro f16 w16 A hb
    replace bl0 := bl
    replace x1 := A.t x1 rfl
    replace x2 := A.t x2 rfl
    replace x5 := A.t x5 rfl
    replace x6 := A.t x6 rfl
    replace x18 := A.t x18 rfl
    have x7 : Fk.f (.nw w15.heap.size 33 ((hz).map V)) (f16.eval (.tmp 7)) w16 := A.has 3 7 rfl
    have x22 := A.e 2 22 rfl rfl
    have lt_m1 := Ob.lt m1
    replace m1 := Ob.below m1 hb
    have lt_m2 := Ob.lt m2
    replace m2 := Ob.below m2 hb
    replace bl := bgo bl hb
    replace sd := A.sd sd
    clear A hb
    clear x18
    obtain ⟨g7, hg7, e7, m7⟩ := x7
    have x7 := e7
    clear e7
    have nm1_7 : g1 ≠ g7 := Nat.ne_of_lt (Nat.lt_of_lt_of_le lt_m1 hg7)
    have nm2_7 : g2 ≠ g7 := Nat.ne_of_lt (Nat.lt_of_lt_of_le lt_m2 hg7)
    have hw7 : w.heap.size ≤ g7 := Nat.le_trans bl0.size hg7
    refine wl_store rfl (.tmp 7) (.tmp 22) rfl rfl (g7) (ov) (hz) x7 x22 m7 hz_len hov ?_
    replace m1 : Ob (w16.setRow g7 ((ov).map V : List Value).toArray) (g1) 47 ([.slice oA po.length oC, .slice nA pn.length nC, up]) := Ob.setRow_other m1 _ nm1_7
    replace m2 : Ob (w16.setRow g7 ((ov).map V : List Value).toArray) (g2) 25 ([.slice none 0 0, .slice none 0 0]) := Ob.setRow_other m2 _ nm2_7
    replace m7 : Ob (w16.setRow g7 ((ov).map V : List Value).toArray) (g7) 33 ((ov).map V) := Ob.setRow m7 ((ov).map V)
    replace bl : Below w.heap.size w (w16.setRow g7 ((ov).map V : List Value).toArray) := bl.trans (below_setRow _ _ _ _ hw7)
    generalize w16.setRow g7 ((ov).map V : List Value).toArray = w17b at bl m1 m2 m7 ⊢
    refine wpList_nil ?_
    clear x22
    show Code.wp _ _ _ _ _
    refine wp_seq ?_
    refine wp_seq ?_
    by_cases hr : prOn po.length pn.length ov nv P
    rotate_left
    · skip
      rw [if_pos hr] at hfe
      obtain ⟨rfl, rfl⟩ : f = false ∧ er = 22 := Prod.mk.inj hfe
      refine wr_d [.eq (.int .i64 (po.length : Int)), .eq (.int .i64 (pn.length : Int)), .eq (.agg ((ov).map V).toArray), .eq (.pointer (some ⟨g1, 1, none⟩)), .eq (.slice nA pn.length nC), .eq (.agg ((nv).map V).toArray), .eq (.pointer (some ⟨g1, 2, none⟩)), .eq (up), .eq (.int .i64 22), .eq (.bool true)] Tryd.mixed (by rw [sd.1]; kernel_rfl) ⟨fun hw ac u K => ?_, fun hw ac u K => ?_, fun hw ac u K => ?_, fun hw ac u K => ?_, fun hw ac u K => ?_, fun hw ac u K => ?_, fun hw ac u K => ?_, fun hw ac u K => ?_, fun hw ac u K => ?_, fun hw ac u K => ?_, trivial⟩ ?_
      · exact st_move (.tmp 5) rfl (K.t x5 rfl)
      · exact st_move (.tmp 6) rfl (K.t x6 rfl)
      · exact st_load33 (.tmp 7) rfl (g7) (ov) (K.t x7 rfl) hov (Ob.below m7 K.grow)
      · exact st_field 47 1 (.tmp 1) rfl (K.t x1 rfl) (by kernel_rfl)
      · exact st_loadc 28 (.tmp 26) rfl (by kernel_rfl) (K.dep 3 26 rfl) (Ob.cell (Ob.below m1 K.grow) 1 rfl)
      · exact st_call 31 (.func 31) _ _ _ rfl rfl (one_arg (K.dep 4 27 rfl)) Tryd.enter31 (fk_lroot (by omega) (smallP_mx hsn) (Fk.mono _ _ _ _ hnm (bgo bl K.grow)) (hK.below (bgo bl K.grow)) env)
      · exact st_field 47 2 (.tmp 1) rfl (K.t x1 rfl) (by kernel_rfl)
      · exact st_loadc 35 (.tmp 29) rfl (by kernel_rfl) (K.dep 6 29 rfl) (Ob.cell (Ob.below m1 K.grow) 2 rfl)
      · exact st_call 21 (.func 21) _ _ _ rfl rfl (arg5 (K.dep 0 23 rfl) (K.dep 1 24 rfl) (K.dep 2 25 rfl) (K.dep 5 28 rfl) (K.dep 7 30 rfl)) Tryd.enter21 (fk_on_allx hov hnv h (by omega) (Fk.mono _ _ _ _ hp (bgo bl K.grow)) (by omega) (hK.below (bgo bl K.grow)) h0 _ (by rw [if_neg hr]))
      · exact st_neqi 40 (.tmp 31) (.const (.int .i64 0)) rfl .i64 (22) (0) (K.dep 8 31 rfl) rfl _ (by rfl)
      intro f18 w18 A hb
      replace x1 := A.t x1 rfl
      replace x2 := A.t x2 rfl
      replace x5 := A.t x5 rfl
      replace x6 := A.t x6 rfl
      replace x7 := A.t x7 rfl
      have x32 := A.e 9 32 rfl rfl
      replace m1 := Ob.below m1 hb
      replace m2 := Ob.below m2 hb
      replace m7 := Ob.below m7 hb
      replace bl := bgo bl hb
      replace sd := A.sd sd
      clear A hb
      show Code.wp _ _ _ _ _
      refine wp_cond_true x32 ?_
      refine wp_seq ?_
      refine wr_s [.eq (.agg ([.slice none 0 0, .slice none 0 0] : List Value).toArray)] (by rw [sd.1]; kernel_rfl) ⟨fun hw ac u K => ?_, trivial⟩ ?_
      · exact st_build 25 _ rfl (by kernel_rfl)
      intro f19 w19 A hb
      replace x1 := A.t x1 rfl
      replace x2 := A.t x2 rfl
      replace x5 := A.t x5 rfl
      replace x6 := A.t x6 rfl
      replace x7 := A.t x7 rfl
      replace x32 := A.t x32 rfl
      have x33 := A.e 0 33 rfl rfl
      replace m1 := Ob.below m1 hb
      replace m2 := Ob.below m2 hb
      replace m7 := Ob.below m7 hb
      replace bl := bgo bl hb
      replace sd := A.sd sd
      clear A hb
      clear x1
      clear x5
      clear x6
      clear x7
      clear x32
      refine wl_str rfl 25 (.tmp 2) (.tmp 33) rfl rfl (g2) ([.slice none 0 0, .slice none 0 0] : List Value).toArray x2 x33 25 _ m2 (by kernel_rfl) (by kernel_rfl) (by kernel_rfl) ?_
      replace m1 : Ob (w19.setRow g2 ([.slice none 0 0, .slice none 0 0] : List Value).toArray) (g1) 47 ([.slice oA po.length oC, .slice nA pn.length nC, up]) := Ob.setRow_other m1 _ nm1_2
      replace m2 : Ob (w19.setRow g2 ([.slice none 0 0, .slice none 0 0] : List Value).toArray) (g2) 25 ([.slice none 0 0, .slice none 0 0]) := Ob.setRow m2 ([.slice none 0 0, .slice none 0 0])
      replace m7 : Ob (w19.setRow g2 ([.slice none 0 0, .slice none 0 0] : List Value).toArray) (g7) 33 ((ov).map V) := Ob.setRow_other m7 _ nm2_7.symm
      replace bl : Below w.heap.size w (w19.setRow g2 ([.slice none 0 0, .slice none 0 0] : List Value).toArray) := bl.trans (below_setRow _ _ _ _ hw2)
      generalize w19.setRow g2 ([.slice none 0 0, .slice none 0 0] : List Value).toArray = w20b at bl m1 m2 m7 ⊢
      clear x33
      refine wl_one (.eq (.bool false)) rfl 3 rfl (by rw [sd.1]; decide) (st_assign (.const (.bool false)) rfl rfl) ?_
      intro f21 w21 df2 sz2 old2 new2 hb
      replace x2 := tr old2 x2 rfl
      have x3 := Fk.e new2
      replace m1 := Ob.below m1 hb
      replace m2 := Ob.below m2 hb
      replace m7 := Ob.below m7 hb
      replace bl := bgo bl hb
      replace sd := sd2 sz2 df2 sd
      clear df2 sz2 old2 new2 hb
      refine wl_one (.eq (.int .i64 22)) rfl 4 rfl (by rw [sd.1]; decide) (st_assign (.const (.int .i64 22)) rfl rfl) ?_
      intro f22 w22 df2 sz2 old2 new2 hb
      replace x2 := tr old2 x2 rfl
      replace x3 := tr old2 x3 rfl
      have x4 := Fk.e new2
      replace m1 := Ob.below m1 hb
      replace m2 := Ob.below m2 hb
      replace m7 := Ob.below m7 hb
      replace bl := bgo bl hb
      replace sd := sd2 sz2 df2 sd
      clear df2 sz2 old2 new2 hb
      refine wpList_nil ?_
      clear m1 m7
      show Code.wp _ _ _ _ _
      refine wp_ret ?_
      repeat (first | with_reducible refine then_ret ?_ | with_reducible refine block_ret ?_)
      exact bodyPost_ret (v := .tuple #[.agg ([.slice none 0 0, .slice none 0 0] : List Value).toArray, .bool false, .int .i64 22]) (ret_c3 rfl f22 _ g2 _ _ _ _ x2 m2 x3 x4) sd.2 ⟨_, rfl, c3_none _ _, bl⟩
    rw [if_neg (fun h => h hr)] at hfe
    refine wr_d [.eq (.int .i64 (po.length : Int)), .eq (.int .i64 (pn.length : Int)), .eq (.agg ((ov).map V).toArray), .eq (.pointer (some ⟨g1, 1, none⟩)), .eq (.slice nA pn.length nC), .eq (.agg ((nv).map V).toArray), .eq (.pointer (some ⟨g1, 2, none⟩)), .eq (up), .eq (.int .i64 0), .eq (.bool false)] Tryd.mixed (by rw [sd.1]; kernel_rfl) ⟨fun hw ac u K => ?_, fun hw ac u K => ?_, fun hw ac u K => ?_, fun hw ac u K => ?_, fun hw ac u K => ?_, fun hw ac u K => ?_, fun hw ac u K => ?_, fun hw ac u K => ?_, fun hw ac u K => ?_, fun hw ac u K => ?_, trivial⟩ ?_
    · exact st_move (.tmp 5) rfl (K.t x5 rfl)
    · exact st_move (.tmp 6) rfl (K.t x6 rfl)
    · exact st_load33 (.tmp 7) rfl (g7) (ov) (K.t x7 rfl) hov (Ob.below m7 K.grow)
    · exact st_field 47 1 (.tmp 1) rfl (K.t x1 rfl) (by kernel_rfl)
    · exact st_loadc 28 (.tmp 26) rfl (by kernel_rfl) (K.dep 3 26 rfl) (Ob.cell (Ob.below m1 K.grow) 1 rfl)
    · exact st_call 31 (.func 31) _ _ _ rfl rfl (one_arg (K.dep 4 27 rfl)) Tryd.enter31 (fk_lroot (by omega) (smallP_mx hsn) (Fk.mono _ _ _ _ hnm (bgo bl K.grow)) (hK.below (bgo bl K.grow)) env)
    · exact st_field 47 2 (.tmp 1) rfl (K.t x1 rfl) (by kernel_rfl)
    · exact st_loadc 35 (.tmp 29) rfl (by kernel_rfl) (K.dep 6 29 rfl) (Ob.cell (Ob.below m1 K.grow) 2 rfl)
    · exact st_call 21 (.func 21) _ _ _ rfl rfl (arg5 (K.dep 0 23 rfl) (K.dep 1 24 rfl) (K.dep 2 25 rfl) (K.dep 5 28 rfl) (K.dep 7 30 rfl)) Tryd.enter21 (fk_on_allx hov hnv h (by omega) (Fk.mono _ _ _ _ hp (bgo bl K.grow)) (by omega) (hK.below (bgo bl K.grow)) h0 _ (by rw [if_pos hr]))
    · exact st_neqi 40 (.tmp 31) (.const (.int .i64 0)) rfl .i64 (0) (0) (K.dep 8 31 rfl) rfl _ (by rfl)
    intro f18 w18 A hb
    replace x1 := A.t x1 rfl
    replace x2 := A.t x2 rfl
    replace x5 := A.t x5 rfl
    replace x6 := A.t x6 rfl
    replace x7 := A.t x7 rfl
    have x32 := A.e 9 32 rfl rfl
    replace m1 := Ob.below m1 hb
    replace m2 := Ob.below m2 hb
    replace m7 := Ob.below m7 hb
    replace bl := bgo bl hb
    replace sd := A.sd sd
    clear A hb
    show Code.wp _ _ _ _ _
    refine wp_cond_false x32 ?_
    refine wp_skip ?_
    show Code.wp _ _ _ _ _
    refine wp_seq ?_
    refine wp_seq ?_
    by_cases hq : bys po = (bys pn).take po.length
    rotate_left
    · skip
      rw [show decide (bys po ≠ (bys pn).take po.length) = true from decide_eq_true hq] at hfe
      obtain ⟨rfl, rfl⟩ : f = true ∧ er = 0 := Prod.mk.inj hfe
      obtain ⟨i, p0, q0, hp0, hq0, hne0, hall⟩ := parts_at h hq
      have h1 : 1 ≤ po.length := by have := (List.getElem?_eq_some_iff.1 hp0).1; omega
      have hL : Led po.length pn.length (if (stp po.length pn.length true).1 then P else ov :: P) (mroot (lhs po)) (mroot (lhs pn)) := by
        rw [eov.out, env.out]
        exact led_with ((prOn_posx h1 ov nv P).1 hr)
      refine wr_a [.eq (.pointer (some ⟨g1, 0, none⟩)), .eq (.slice oA po.length oC), .eq (.pointer (some ⟨g1, 1, none⟩)), .eq (.slice nA pn.length nC), .eq (.tuple #[.int .i64 (i : Int), .bool true]), .eq (.tuple #[.int .i64 (i : Int), .bool true]), .eq (.int .i64 (i : Int)), .eq (.bool true), .eq (.int .i64 (i : Int)), .eq (.bool true)] (by rw [sd.1]; kernel_rfl) ⟨fun hw ac u K => ?_, fun hw ac u K => ?_, fun hw ac u K => ?_, fun hw ac u K => ?_, fun hw ac u K => ?_, fun hw ac u K => ?_, fun hw ac u K => ?_, fun hw ac u K => ?_, fun hw ac u K => ?_, fun hw ac u K => ?_, trivial⟩ ?_
      · exact st_field 47 0 (.tmp 1) rfl (K.t x1 rfl) (by kernel_rfl)
      · exact st_loadc 28 (.tmp 35) rfl (by kernel_rfl) (K.dep 0 35 rfl) (Ob.cell (Ob.below m1 K.grow) 0 rfl)
      · exact st_field 47 1 (.tmp 1) rfl (K.t x1 rfl) (by kernel_rfl)
      · exact st_loadc 28 (.tmp 37) rfl (by kernel_rfl) (K.dep 2 37 rfl) (Ob.cell (Ob.below m1 K.grow) 1 rfl)
      · exact st_call 27 (.func 27) _ _ _ rfl rfl (arg2 (K.dep 1 36 rfl) (K.dep 3 38 rfl)) Tryd.enter27 (fk_of (parting_diff (by omega) h (Fk.mono _ _ _ _ hom (bgo bl K.grow)) (Fk.mono _ _ _ _ hnm (bgo bl K.grow)) hp0 hq0 hne0 hall))
      · exact st_move (.tmp 39) rfl (K.dep 4 39 rfl)
      · exact st_tup (.tmp 34) rfl (K.dep 5 34 rfl) (by rfl)
      · exact st_tup (.tmp 34) rfl (K.dep 5 34 rfl) (by rfl)
      · exact st_assign (.tmp 40) rfl (K.dep 6 40 rfl)
      · exact st_assign (.tmp 41) rfl (K.dep 7 41 rfl)
      intro f19 w19 A hb
      replace x1 := A.t x1 rfl
      replace x2 := A.t x2 rfl
      replace x5 := A.t x5 rfl
      replace x6 := A.t x6 rfl
      replace x7 := A.t x7 rfl
      replace x32 := A.t x32 rfl
      have x9 := A.e 9 9 rfl rfl
      replace m1 := Ob.below m1 hb
      replace m2 := Ob.below m2 hb
      replace m7 := Ob.below m7 hb
      replace bl := bgo bl hb
      replace sd := A.sd sd
      clear A hb
      clear x32
      show Code.wp _ _ _ _ _
      refine wp_seq ?_
      refine wr_a [.eq (.bool true), .eq (.bool false)] (by rw [sd.1]; kernel_rfl) ⟨fun hw ac u K => ?_, fun hw ac u K => ?_, trivial⟩ ?_
      · exact st_move (.tmp 9) rfl (K.t x9 rfl)
      · exact st_not (.tmp 42) rfl true (K.dep 0 42 rfl)
      intro f20 w20 A hb
      replace x1 := A.t x1 rfl
      replace x2 := A.t x2 rfl
      replace x5 := A.t x5 rfl
      replace x6 := A.t x6 rfl
      replace x7 := A.t x7 rfl
      replace x9 := A.t x9 rfl
      have x43 := A.e 1 43 rfl rfl
      replace m1 := Ob.below m1 hb
      replace m2 := Ob.below m2 hb
      replace m7 := Ob.below m7 hb
      replace bl := bgo bl hb
      replace sd := A.sd sd
      clear A hb
      clear x9
      show Code.wp _ _ _ _ _
      refine wp_cond_false x43 ?_
      refine wp_skip ?_
      show Code.wp _ _ _ _ _
      refine wp_seq ?_
      refine wr_t [.eq (.pointer (some ⟨g1, 0, none⟩)), .eq (.slice oA po.length oC), .eq (.pointer (some ⟨g1, 1, none⟩)), .eq (.slice nA pn.length nC), .eq (.int .i64 (po.length : Int)), .eq (.int .i64 (pn.length : Int)), .eq (.agg ((ov).map V).toArray), .eq (.pointer (some ⟨g1, 2, none⟩)), .eq (up), .hc (if (stp po.length pn.length true).1 then P else ov :: P), .cv true] [11, 12, 13] Tryd.mixed (by rw [sd.1]; kernel_rfl) ⟨fun hw ac u K => ?_, fun hw ac u K => ?_, fun hw ac u K => ?_, fun hw ac u K => ?_, fun hw ac u K => ?_, fun hw ac u K => ?_, fun hw ac u K => ?_, fun hw ac u K => ?_, fun hw ac u K => ?_, fun hw ac u K => ?_, fun hw ac u K => ?_, trivial⟩ ?_
      · exact st_field 47 0 (.tmp 1) rfl (K.t x1 rfl) (by kernel_rfl)
      · exact st_loadc 28 (.tmp 45) rfl (by kernel_rfl) (K.dep 0 45 rfl) (Ob.cell (Ob.below m1 K.grow) 0 rfl)
      · exact st_field 47 1 (.tmp 1) rfl (K.t x1 rfl) (by kernel_rfl)
      · exact st_loadc 28 (.tmp 47) rfl (by kernel_rfl) (K.dep 2 47 rfl) (Ob.cell (Ob.below m1 K.grow) 1 rfl)
      · exact st_move (.tmp 5) rfl (K.t x5 rfl)
      · exact st_move (.tmp 6) rfl (K.t x6 rfl)
      · exact st_load33 (.tmp 7) rfl (g7) (ov) (K.t x7 rfl) hov (Ob.below m7 K.grow)
      · exact st_field 47 2 (.tmp 1) rfl (K.t x1 rfl) (by kernel_rfl)
      · exact st_loadc 35 (.tmp 52) rfl (by kernel_rfl) (K.dep 7 52 rfl) (Ob.cell (Ob.below m1 K.grow) 2 rfl)
      · exact st_call 37 (.func 37) _ _ _ rfl rfl (arg4 (K.dep 4 49 rfl) (K.dep 5 50 rfl) (K.dep 6 51 rfl) (K.dep 8 53 rfl)) Tryd.enter37 (fk_with h1 h (by omega) hov (by omega) (Fk.mono _ _ _ _ hp (bgo bl K.grow)) rfl)
      · exact st_call 36 (.func 36) _ _ _ rfl rfl (arg3 (K.dep 1 46 rfl) (K.dep 3 48 rfl) rfl) Tryd.enter36 (fk_grown hso hsn h1 h hq hL (Fk.mono _ _ _ _ ho (bgo bl K.grow)) (Fk.mono _ _ _ _ hn (bgo bl K.grow)) (K.dep 9 54 rfl) (hK.below (bgo bl K.grow)))
      intro f21 w21 A hb
      replace x1 := A.t x1 rfl
      replace x2 := A.t x2 rfl
      replace x5 := A.t x5 rfl
      replace x6 := A.t x6 rfl
      replace x7 := A.t x7 rfl
      replace x43 := A.t x43 rfl
      have x55 : Fk.f (.cv true) (f21.eval (.tmp 55)) w21 := A.has 10 55 rfl
      replace m1 := Ob.below m1 hb
      replace m2 := Ob.below m2 hb
      replace m7 := Ob.below m7 hb
      replace bl := bgo bl hb
      replace sd := A.sd sd
      clear A hb
      clear x1
      clear x5
      clear x6
      clear x7
      clear x43
      obtain ⟨Az, Bz, uz, vz, ez, hAz, hBz, lAz, lBz, hrz⟩ := x55
      obtain ⟨pAz, mAz, cAz, _, _, rfl, _⟩ := id hAz
      obtain ⟨pBz, mBz, cBz, _, _, rfl, _⟩ := id hBz
      have x55 := ez
      clear ez
      refine wl_str rfl 25 (.tmp 2) (.tmp 55) rfl rfl (g2) ([.slice pAz mAz cAz, .slice pBz mBz cBz] : List Value).toArray x2 x55 25 _ m2 (by kernel_rfl) (by kernel_rfl) (by kernel_rfl) ?_
      replace hAz := sl_setRow (ds := ([.slice pAz mAz cAz, .slice pBz mBz cBz] : List Value).toArray) hAz m2
      replace hBz := sl_setRow (ds := ([.slice pAz mAz cAz, .slice pBz mBz cBz] : List Value).toArray) hBz m2
      replace m1 : Ob (w21.setRow g2 ([.slice pAz mAz cAz, .slice pBz mBz cBz] : List Value).toArray) (g1) 47 ([.slice oA po.length oC, .slice nA pn.length nC, up]) := Ob.setRow_other m1 _ nm1_2
      replace m2 : Ob (w21.setRow g2 ([.slice pAz mAz cAz, .slice pBz mBz cBz] : List Value).toArray) (g2) 25 ([.slice pAz mAz cAz, .slice pBz mBz cBz]) := Ob.setRow m2 ([.slice pAz mAz cAz, .slice pBz mBz cBz])
      replace m7 : Ob (w21.setRow g2 ([.slice pAz mAz cAz, .slice pBz mBz cBz] : List Value).toArray) (g7) 33 ((ov).map V) := Ob.setRow_other m7 _ nm2_7.symm
      replace bl : Below w.heap.size w (w21.setRow g2 ([.slice pAz mAz cAz, .slice pBz mBz cBz] : List Value).toArray) := bl.trans (below_setRow _ _ _ _ hw2)
      generalize w21.setRow g2 ([.slice pAz mAz cAz, .slice pBz mBz cBz] : List Value).toArray = w22b at bl m1 m2 m7 hAz hBz ⊢
      clear x55
      refine wl_one (.eq (.bool true)) rfl 3 rfl (by rw [sd.1]; decide) (st_assign (.const (.bool true)) rfl rfl) ?_
      intro f23 w23 df2 sz2 old2 new2 hb
      replace x2 := tr old2 x2 rfl
      have x3 := Fk.e new2
      replace m1 := Ob.below m1 hb
      replace m2 := Ob.below m2 hb
      replace m7 := Ob.below m7 hb
      replace hAz := Fk.mono _ _ _ _ hAz hb
      replace hBz := Fk.mono _ _ _ _ hBz hb
      replace bl := bgo bl hb
      replace sd := sd2 sz2 df2 sd
      clear df2 sz2 old2 new2 hb
      refine wl_one (.eq (.int .i64 0)) rfl 4 rfl (by rw [sd.1]; decide) (st_assign (.const (.int .i64 0)) rfl rfl) ?_
      intro f24 w24 df2 sz2 old2 new2 hb
      replace x2 := tr old2 x2 rfl
      replace x3 := tr old2 x3 rfl
      have x4 := Fk.e new2
      replace m1 := Ob.below m1 hb
      replace m2 := Ob.below m2 hb
      replace m7 := Ob.below m7 hb
      replace hAz := Fk.mono _ _ _ _ hAz hb
      replace hBz := Fk.mono _ _ _ _ hBz hb
      replace bl := bgo bl hb
      replace sd := sd2 sz2 df2 sd
      clear df2 sz2 old2 new2 hb
      refine wpList_nil ?_
      clear m1 m7
      show Code.wp _ _ _ _ _
      refine wp_ret ?_
      repeat (first | with_reducible refine then_ret ?_ | with_reducible refine block_ret ?_)
      exact bodyPost_ret (v := .tuple #[.agg ([.slice pAz mAz cAz, .slice pBz mBz cBz] : List Value).toArray, .bool true, .int .i64 0]) (ret_c3 rfl f24 _ g2 _ _ _ _ x2 m2 x3 x4) sd.2 ⟨_, rfl, ⟨Az, Bz, _, _, rfl, hAz, hBz, lAz, lBz, hrz⟩, bl⟩
    rw [show decide (bys po ≠ (bys pn).take po.length) = false from decide_eq_false (fun h => h hq)] at hfe
    obtain ⟨rfl, rfl⟩ : f = false ∧ er = 0 := Prod.mk.inj hfe
    have hall : (bys po).take po.length = (bys pn).take po.length := by rw [List.take_of_length_le (by rw [bys_len]; exact Nat.le_refl _)]; exact hq
    refine wr_a [.eq (.pointer (some ⟨g1, 0, none⟩)), .eq (.slice oA po.length oC), .eq (.pointer (some ⟨g1, 1, none⟩)), .eq (.slice nA pn.length nC), .eq (.tuple #[.int .i64 0, .bool false]), .eq (.tuple #[.int .i64 0, .bool false]), .eq (.int .i64 0), .eq (.bool false), .eq (.int .i64 0), .eq (.bool false)] (by rw [sd.1]; kernel_rfl) ⟨fun hw ac u K => ?_, fun hw ac u K => ?_, fun hw ac u K => ?_, fun hw ac u K => ?_, fun hw ac u K => ?_, fun hw ac u K => ?_, fun hw ac u K => ?_, fun hw ac u K => ?_, fun hw ac u K => ?_, fun hw ac u K => ?_, trivial⟩ ?_
    · exact st_field 47 0 (.tmp 1) rfl (K.t x1 rfl) (by kernel_rfl)
    · exact st_loadc 28 (.tmp 35) rfl (by kernel_rfl) (K.dep 0 35 rfl) (Ob.cell (Ob.below m1 K.grow) 0 rfl)
    · exact st_field 47 1 (.tmp 1) rfl (K.t x1 rfl) (by kernel_rfl)
    · exact st_loadc 28 (.tmp 37) rfl (by kernel_rfl) (K.dep 2 37 rfl) (Ob.cell (Ob.below m1 K.grow) 1 rfl)
    · exact st_call 27 (.func 27) _ _ _ rfl rfl (arg2 (K.dep 1 36 rfl) (K.dep 3 38 rfl)) Tryd.enter27 (fk_of (parting_same (by omega) h (Fk.mono _ _ _ _ hom (bgo bl K.grow)) (Fk.mono _ _ _ _ hnm (bgo bl K.grow)) hall))
    · exact st_move (.tmp 39) rfl (K.dep 4 39 rfl)
    · exact st_tup (.tmp 34) rfl (K.dep 5 34 rfl) (by rfl)
    · exact st_tup (.tmp 34) rfl (K.dep 5 34 rfl) (by rfl)
    · exact st_assign (.tmp 40) rfl (K.dep 6 40 rfl)
    · exact st_assign (.tmp 41) rfl (K.dep 7 41 rfl)
    intro f19 w19 A hb
    replace x1 := A.t x1 rfl
    replace x2 := A.t x2 rfl
    replace x5 := A.t x5 rfl
    replace x6 := A.t x6 rfl
    replace x7 := A.t x7 rfl
    replace x32 := A.t x32 rfl
    have x9 := A.e 9 9 rfl rfl
    replace m1 := Ob.below m1 hb
    replace m2 := Ob.below m2 hb
    replace m7 := Ob.below m7 hb
    replace bl := bgo bl hb
    replace sd := A.sd sd
    clear A hb
    clear x32
    show Code.wp _ _ _ _ _
    refine wp_seq ?_
    refine wr_a [.eq (.bool false), .eq (.bool true)] (by rw [sd.1]; kernel_rfl) ⟨fun hw ac u K => ?_, fun hw ac u K => ?_, trivial⟩ ?_
    · exact st_move (.tmp 9) rfl (K.t x9 rfl)
    · exact st_not (.tmp 42) rfl false (K.dep 0 42 rfl)
    intro f20 w20 A hb
    replace x1 := A.t x1 rfl
    replace x2 := A.t x2 rfl
    replace x5 := A.t x5 rfl
    replace x6 := A.t x6 rfl
    replace x7 := A.t x7 rfl
    replace x9 := A.t x9 rfl
    have x43 := A.e 1 43 rfl rfl
    replace m1 := Ob.below m1 hb
    replace m2 := Ob.below m2 hb
    replace m7 := Ob.below m7 hb
    replace bl := bgo bl hb
    replace sd := A.sd sd
    clear A hb
    clear x9
    show Code.wp _ _ _ _ _
    refine wp_cond_true x43 ?_
    refine wp_seq ?_
    refine wr_s [.eq (.agg ([.slice none 0 0, .slice none 0 0] : List Value).toArray)] (by rw [sd.1]; kernel_rfl) ⟨fun hw ac u K => ?_, trivial⟩ ?_
    · exact st_build 25 _ rfl (by kernel_rfl)
    intro f21 w21 A hb
    replace x1 := A.t x1 rfl
    replace x2 := A.t x2 rfl
    replace x5 := A.t x5 rfl
    replace x6 := A.t x6 rfl
    replace x7 := A.t x7 rfl
    replace x43 := A.t x43 rfl
    have x44 := A.e 0 44 rfl rfl
    replace m1 := Ob.below m1 hb
    replace m2 := Ob.below m2 hb
    replace m7 := Ob.below m7 hb
    replace bl := bgo bl hb
    replace sd := A.sd sd
    clear A hb
    clear x1
    clear x5
    clear x6
    clear x7
    clear x43
    refine wl_str rfl 25 (.tmp 2) (.tmp 44) rfl rfl (g2) ([.slice none 0 0, .slice none 0 0] : List Value).toArray x2 x44 25 _ m2 (by kernel_rfl) (by kernel_rfl) (by kernel_rfl) ?_
    replace m1 : Ob (w21.setRow g2 ([.slice none 0 0, .slice none 0 0] : List Value).toArray) (g1) 47 ([.slice oA po.length oC, .slice nA pn.length nC, up]) := Ob.setRow_other m1 _ nm1_2
    replace m2 : Ob (w21.setRow g2 ([.slice none 0 0, .slice none 0 0] : List Value).toArray) (g2) 25 ([.slice none 0 0, .slice none 0 0]) := Ob.setRow m2 ([.slice none 0 0, .slice none 0 0])
    replace m7 : Ob (w21.setRow g2 ([.slice none 0 0, .slice none 0 0] : List Value).toArray) (g7) 33 ((ov).map V) := Ob.setRow_other m7 _ nm2_7.symm
    replace bl : Below w.heap.size w (w21.setRow g2 ([.slice none 0 0, .slice none 0 0] : List Value).toArray) := bl.trans (below_setRow _ _ _ _ hw2)
    generalize w21.setRow g2 ([.slice none 0 0, .slice none 0 0] : List Value).toArray = w22b at bl m1 m2 m7 ⊢
    clear x44
    refine wl_one (.eq (.bool false)) rfl 3 rfl (by rw [sd.1]; decide) (st_assign (.const (.bool false)) rfl rfl) ?_
    intro f23 w23 df2 sz2 old2 new2 hb
    replace x2 := tr old2 x2 rfl
    have x3 := Fk.e new2
    replace m1 := Ob.below m1 hb
    replace m2 := Ob.below m2 hb
    replace m7 := Ob.below m7 hb
    replace bl := bgo bl hb
    replace sd := sd2 sz2 df2 sd
    clear df2 sz2 old2 new2 hb
    refine wl_one (.eq (.int .i64 0)) rfl 4 rfl (by rw [sd.1]; decide) (st_assign (.const (.int .i64 0)) rfl rfl) ?_
    intro f24 w24 df2 sz2 old2 new2 hb
    replace x2 := tr old2 x2 rfl
    replace x3 := tr old2 x3 rfl
    have x4 := Fk.e new2
    replace m1 := Ob.below m1 hb
    replace m2 := Ob.below m2 hb
    replace m7 := Ob.below m7 hb
    replace bl := bgo bl hb
    replace sd := sd2 sz2 df2 sd
    clear df2 sz2 old2 new2 hb
    refine wpList_nil ?_
    clear m1 m7
    show Code.wp _ _ _ _ _
    refine wp_ret ?_
    repeat (first | with_reducible refine then_ret ?_ | with_reducible refine block_ret ?_)
    exact bodyPost_ret (v := .tuple #[.agg ([.slice none 0 0, .slice none 0 0] : List Value).toArray, .bool false, .int .i64 0]) (ret_c3 rfl f24 _ g2 _ _ _ _ x2 m2 x3 x4) sd.2 ⟨_, rfl, c3_none _ _, bl⟩
  rw [if_pos hlt] at hfe
  obtain ⟨rfl, rfl⟩ : f = false ∧ er = 11 := Prod.mk.inj hfe
  refine wr_a [.eq (.int .i64 (po.length : Int)), .eq (.int .i64 (pn.length : Int)), .eq (.bool true)] (by rw [sd.1]; kernel_rfl) ⟨fun hw ac u K => ?_, fun hw ac u K => ?_, fun hw ac u K => ?_, trivial⟩ ?_
  · exact st_move (.tmp 5) rfl (K.t x5 rfl)
  · exact st_move (.tmp 6) rfl (K.t x6 rfl)
  · exact st_gtr 3 (.tmp 16) (.tmp 17) rfl .i64 ((po.length : Int)) ((pn.length : Int)) (K.dep 0 16 rfl) (K.dep 1 17 rfl) _ (by symm; rw [decide_eq_true_iff]; exact (by omega))
  intro f15 w15 A hb
  replace x1 := A.t x1 rfl
  replace x2 := A.t x2 rfl
  replace x5 := A.t x5 rfl
  replace x6 := A.t x6 rfl
  have x18 := A.e 2 18 rfl rfl
  replace m1 := Ob.below m1 hb
  replace m2 := Ob.below m2 hb
  replace bl := bgo bl hb
  replace sd := A.sd sd
  clear A hb
  show Code.wp _ _ _ _ _
  refine wp_cond_true x18 ?_
  refine wp_seq ?_
  refine wr_s [.eq (.agg ([.slice none 0 0, .slice none 0 0] : List Value).toArray)] (by rw [sd.1]; kernel_rfl) ⟨fun hw ac u K => ?_, trivial⟩ ?_
  · exact st_build 25 _ rfl (by kernel_rfl)
  intro f16 w16 A hb
  replace x1 := A.t x1 rfl
  replace x2 := A.t x2 rfl
  replace x5 := A.t x5 rfl
  replace x6 := A.t x6 rfl
  replace x18 := A.t x18 rfl
  have x19 := A.e 0 19 rfl rfl
  replace m1 := Ob.below m1 hb
  replace m2 := Ob.below m2 hb
  replace bl := bgo bl hb
  replace sd := A.sd sd
  clear A hb
  clear x1
  clear x5
  clear x6
  clear x18
  refine wl_str rfl 25 (.tmp 2) (.tmp 19) rfl rfl (g2) ([.slice none 0 0, .slice none 0 0] : List Value).toArray x2 x19 25 _ m2 (by kernel_rfl) (by kernel_rfl) (by kernel_rfl) ?_
  replace m1 : Ob (w16.setRow g2 ([.slice none 0 0, .slice none 0 0] : List Value).toArray) (g1) 47 ([.slice oA po.length oC, .slice nA pn.length nC, up]) := Ob.setRow_other m1 _ nm1_2
  replace m2 : Ob (w16.setRow g2 ([.slice none 0 0, .slice none 0 0] : List Value).toArray) (g2) 25 ([.slice none 0 0, .slice none 0 0]) := Ob.setRow m2 ([.slice none 0 0, .slice none 0 0])
  replace bl : Below w.heap.size w (w16.setRow g2 ([.slice none 0 0, .slice none 0 0] : List Value).toArray) := bl.trans (below_setRow _ _ _ _ hw2)
  generalize w16.setRow g2 ([.slice none 0 0, .slice none 0 0] : List Value).toArray = w17b at bl m1 m2 ⊢
  clear x19
  refine wl_one (.eq (.bool false)) rfl 3 rfl (by rw [sd.1]; decide) (st_assign (.const (.bool false)) rfl rfl) ?_
  intro f18 w18 df2 sz2 old2 new2 hb
  replace x2 := tr old2 x2 rfl
  have x3 := Fk.e new2
  replace m1 := Ob.below m1 hb
  replace m2 := Ob.below m2 hb
  replace bl := bgo bl hb
  replace sd := sd2 sz2 df2 sd
  clear df2 sz2 old2 new2 hb
  refine wl_one (.eq (.int .i64 11)) rfl 4 rfl (by rw [sd.1]; decide) (st_assign (.const (.int .i64 11)) rfl rfl) ?_
  intro f19 w19 df2 sz2 old2 new2 hb
  replace x2 := tr old2 x2 rfl
  replace x3 := tr old2 x3 rfl
  have x4 := Fk.e new2
  replace m1 := Ob.below m1 hb
  replace m2 := Ob.below m2 hb
  replace bl := bgo bl hb
  replace sd := sd2 sz2 df2 sd
  clear df2 sz2 old2 new2 hb
  refine wpList_nil ?_
  clear m1
  show Code.wp _ _ _ _ _
  refine wp_ret ?_
  repeat (first | with_reducible refine then_ret ?_ | with_reducible refine block_ret ?_)
  exact bodyPost_ret (v := .tuple #[.agg ([.slice none 0 0, .slice none 0 0] : List Value).toArray, .bool false, .int .i64 11]) (ret_c3 rfl f19 _ g2 _ _ _ _ x2 m2 x3 x4) sd.2 ⟨_, rfl, c3_none _ _, bl⟩
theorem fk_con_bad {po pn : List Pt} (hso : smallP po) (hsn : smallP pn) {P : List (List (BitVec 8))} (hP : P.length ≤ 50) {w : World} {uo un up : Value} (ho : (Fk.mc po).f uo w) (hn : (Fk.mc pn).f un w) (hp : (Fk.hc P).f up w) (hK : Tab w) (h : po.length ≤ pn.length) (h2 : ¬ prOn po.length pn.length (mroot (lhs po)) (mroot (lhs pn)) P) :
    Calls Tryd.prog 20 #[.agg ([uo, un, up] : List Value).toArray] w fun e w' => ∃ u, e = .returned u ∧ (Fk.c3 false 22).f u w' ∧ Below w.heap.size w w' := by
  exact con_all hso hsn hP ho hn hp hK (by rw [if_neg (by omega), if_pos h2])
theorem fk_con_ok {po pn : List Pt} (hso : smallP po) (hsn : smallP pn) {P : List (List (BitVec 8))} (hP : P.length ≤ 50) {w : World} {uo un up : Value} (ho : (Fk.mc po).f uo w) (hn : (Fk.mc pn).f un w) (hp : (Fk.hc P).f up w) (hK : Tab w) (h : po.length ≤ pn.length) (h2 : prOn po.length pn.length (mroot (lhs po)) (mroot (lhs pn)) P) {f : Bool} (hf : f = decide (bys po ≠ (bys pn).take po.length)) :
    Calls Tryd.prog 20 #[.agg ([uo, un, up] : List Value).toArray] w fun e w' => ∃ u, e = .returned u ∧ (Fk.c3 f 0).f u w' ∧ Below w.heap.size w w' := by
  exact con_all hso hsn hP ho hn hp hK (by rw [if_neg (by omega), if_neg (fun h => h h2), hf])
end Go.Proofs.YtfmeeimhfdnjpaaDoor
namespace Go.Proofs.YtfmeeimhfdnjpaaDoor
set_option maxRecDepth 100000
open Go.RowKit
theorem awake_any (w : World) (hK : Tab w) :
    Calls Tryd.prog 8 #[] w fun e w' => e = .returned (.bool true) ∧ Below w.heap.size w w' := by
  have hn1 := mc_nil w
  have hn2 := sl_nil w
  have hn3 := hc_nil w
  go_enter Tryd.func8, Tryd.ntmps8
  refine code_both (fun f w1 => f.tmps.size = 29 ∧ f.defers = [] ∧ Below w.heap.size w (w1)) ⟨rfl, rfl, Below.refl _ _⟩ ?_
  rintro f0 w0 ⟨sz, df, bl⟩
  have sd := And.intro sz df
  clear sz df
  have bl0 := bl
  refine wp_seq ?_
  refine wr_a [.eq (.bool false)] (by rw [sd.1]; kernel_rfl) ⟨fun hw ac u K => ?_, trivial⟩ ?_
  · exact st_assign (.const (.bool false)) rfl rfl
  intro f1 w1 A hb
  replace bl := bgo bl hb
  replace sd := A.sd sd
  clear A hb
  show Code.wp _ _ _ _ _
  refine wp_seq ?_
  refine wr_s [.eq (.agg ([.int .i64 0, .int .i64 0, .slice none 0 0, .slice none 0 0] : List Value).toArray)] (by rw [sd.1]; kernel_rfl) ⟨fun hw ac u K => ?_, trivial⟩ ?_
  · exact st_build 39 _ rfl (by kernel_rfl)
  intro f2 w2 A hb
  have x8 := A.e 0 8 rfl rfl
  replace bl := bgo bl hb
  replace sd := A.sd sd
  clear A hb
  refine wl_call 16 (.func 16) _ _ #[.slice none 0 0, .agg ([.int .i64 0, .int .i64 0, .slice none 0 0, .slice none 0 0] : List Value).toArray] rfl 9 rfl (by rw [sd.1]; decide) rfl rfl (arg2 rfl x8) Tryd.enter16 (fun u W => (Fk.c3 false 11).f u W ∧ Below w2.heap.size w2 W) (fk_cin_no (ps := []) (lb := []) (P := []) (i := 0) (n := 0) ⟨by simp, by simp⟩ (by simp) (by simp) (mc_nil _) (sl_nil _) (hc_nil _) (hK.below bl) (.inr (.inr (by simp)))) ?_
  rintro f3 w3 df2 sz2 old2 ⟨⟨A1, B1, u11, u21, new2, hA1, hB1, hlA1, hlB1, hr1⟩, hb⟩
  obtain ⟨pA1, mA1, cA1, _, _, rfl, _⟩ := id hA1
  obtain ⟨pB1, mB1, cB1, _, _, rfl, _⟩ := id hB1
  replace bl0 := bl
  replace x8 := tr old2 x8 rfl
  have x9 : f3.eval (.tmp 9) = .tuple #[.agg ([.slice pA1 mA1 cA1, .slice pB1 mB1 cB1] : List Value).toArray, .bool false, .int .i64 11] := new2
  replace bl := bgo bl hb
  replace sd := sd2 sz2 df2 sd
  clear df2 sz2 old2 new2 hb
  have blw := bl
  replace hn1 := Fk.mono _ _ _ _ hn1 bl
  replace hn2 := Fk.mono _ _ _ _ hn2 bl
  replace hn3 := Fk.mono _ _ _ _ hn3 bl
  replace hK := hK.below bl
  replace bl := Below.refl w3.heap.size w3
  replace bl0 := bl
  clear x8
  refine wl_one (.eq (.tuple #[.agg ([.slice pA1 mA1 cA1, .slice pB1 mB1 cB1] : List Value).toArray, .bool false, .int .i64 11])) rfl 7 rfl (by rw [sd.1]; decide) (st_move (.tmp 9) rfl x9) ?_
  intro f4 w4 df2 sz2 old2 new2 hb
  replace x9 := tr old2 x9 rfl
  have x7 := Fk.e new2
  replace bl := bgo bl hb
  replace sd := sd2 sz2 df2 sd
  clear df2 sz2 old2 new2 hb
  clear x9
  refine wl_one (.eq (.agg ([.slice pA1 mA1 cA1, .slice pB1 mB1 cB1] : List Value).toArray)) rfl 10 rfl (by rw [sd.1]; decide) (st_tup (.tmp 7) rfl x7 (by rfl)) ?_
  intro f5 w5 df2 sz2 old2 new2 hb
  replace x7 := tr old2 x7 rfl
  have x10 := Fk.e new2
  replace bl := bgo bl hb
  replace sd := sd2 sz2 df2 sd
  clear df2 sz2 old2 new2 hb
  refine wl_one (.eq (.bool false)) rfl 11 rfl (by rw [sd.1]; decide) (st_tup (.tmp 7) rfl x7 (by rfl)) ?_
  intro f6 w6 df2 sz2 old2 new2 hb
  replace x7 := tr old2 x7 rfl
  replace x10 := tr old2 x10 rfl
  have x11 := Fk.e new2
  replace bl := bgo bl hb
  replace sd := sd2 sz2 df2 sd
  clear df2 sz2 old2 new2 hb
  refine wl_one (.eq (.int .i64 11)) rfl 12 rfl (by rw [sd.1]; decide) (st_tup (.tmp 7) rfl x7 (by rfl)) ?_
  intro f7 w7 df2 sz2 old2 new2 hb
  replace x7 := tr old2 x7 rfl
  replace x10 := tr old2 x10 rfl
  replace x11 := tr old2 x11 rfl
  have x12 := Fk.e new2
  replace bl := bgo bl hb
  replace sd := sd2 sz2 df2 sd
  clear df2 sz2 old2 new2 hb
  clear x7
  refine wl_one (.nw w7.heap.size 25 [.slice none 0 0, .slice none 0 0]) rfl 1 rfl (by rw [sd.1]; decide) (st_alloc 25 rfl _ _ (by kernel_rfl) (Nat.le_refl _)) ?_
  intro f8 w8 df2 sz2 old2 new2 hb
  replace bl0 := bl
  replace x10 := tr old2 x10 rfl
  replace x11 := tr old2 x11 rfl
  replace x12 := tr old2 x12 rfl
  have x1 : Fk.f (.nw w7.heap.size 25 [.slice none 0 0, .slice none 0 0]) (f8.eval (.tmp 1)) w8 := new2
  replace bl := bgo bl hb
  replace sd := sd2 sz2 df2 sd
  clear df2 sz2 old2 new2 hb
  obtain ⟨g1, hg1, e1, m1⟩ := x1
  have x1 := e1
  clear e1
  have hw1 : w3.heap.size ≤ g1 := Nat.le_trans bl0.size hg1
  refine wl_str rfl 25 (.tmp 1) (.tmp 10) rfl rfl (g1) ([.slice pA1 mA1 cA1, .slice pB1 mB1 cB1] : List Value).toArray x1 x10 25 _ m1 (by kernel_rfl) (by kernel_rfl) (by kernel_rfl) ?_
  replace m1 : Ob (w8.setRow g1 ([.slice pA1 mA1 cA1, .slice pB1 mB1 cB1] : List Value).toArray) (g1) 25 ([.slice pA1 mA1 cA1, .slice pB1 mB1 cB1]) := Ob.setRow m1 ([.slice pA1 mA1 cA1, .slice pB1 mB1 cB1])
  replace bl : Below w3.heap.size w3 (w8.setRow g1 ([.slice pA1 mA1 cA1, .slice pB1 mB1 cB1] : List Value).toArray) := bl.trans (below_setRow _ _ _ _ hw1)
  generalize w8.setRow g1 ([.slice pA1 mA1 cA1, .slice pB1 mB1 cB1] : List Value).toArray = w9b at bl m1 ⊢
  clear x10
  clear x1
  refine wl_one (.eq (.bool false)) rfl 2 rfl (by rw [sd.1]; decide) (st_assign (.tmp 11) rfl x11) ?_
  intro f10 w10 df2 sz2 old2 new2 hb
  replace x11 := tr old2 x11 rfl
  replace x12 := tr old2 x12 rfl
  have x2 := Fk.e new2
  replace m1 := Ob.below m1 hb
  replace bl := bgo bl hb
  replace sd := sd2 sz2 df2 sd
  clear df2 sz2 old2 new2 hb
  clear x11
  clear x2
  refine wl_one (.eq (.int .i64 11)) rfl 3 rfl (by rw [sd.1]; decide) (st_assign (.tmp 12) rfl x12) ?_
  intro f11 w11 df2 sz2 old2 new2 hb
  replace x12 := tr old2 x12 rfl
  have x3 := Fk.e new2
  replace m1 := Ob.below m1 hb
  replace bl := bgo bl hb
  replace sd := sd2 sz2 df2 sd
  clear df2 sz2 old2 new2 hb
  refine wpList_nil ?_
  clear x12
  clear m1
  show Code.wp _ _ _ _ _
  refine wp_seq ?_
  refine wr_s [] (by rw [sd.1]; kernel_rfl) trivial ?_
  intro f12 w12 A hb
  replace x3 := A.t x3 rfl
  replace bl := bgo bl hb
  replace sd := A.sd sd
  clear A hb
  refine wl_one (.sl ([1#8])) rfl 14 rfl (by rw [sd.1]; decide) (st_b1 1 1#8 rfl (by rfl)) ?_
  intro f13 w13 df2 sz2 old2 new2 hb
  replace x3 := tr old2 x3 rfl
  have x14 : Fk.f (.sl ([1#8])) (f13.eval (.tmp 14)) w13 := new2
  replace bl := bgo bl hb
  replace sd := sd2 sz2 df2 sd
  clear df2 sz2 old2 new2 hb
  refine wl_one (.m1 ([1#8])) rfl 15 rfl (by rw [sd.1]; decide) (st_bm1 (.tmp 14) rfl x14) ?_
  intro f14 w14 df2 sz2 old2 new2 hb
  replace x3 := tr old2 x3 rfl
  replace x14 := f_at (old2 14 rfl) (Fk.mono _ _ _ _ x14 hb)
  have x15 : Fk.f (.m1 ([1#8])) (f14.eval (.tmp 15)) w14 := new2
  replace bl := bgo bl hb
  replace sd := sd2 sz2 df2 sd
  clear df2 sz2 old2 new2 hb
  clear x14
  refine wl_one (.eq (.agg ((hz).map V).toArray)) rfl 16 rfl (by rw [sd.1]; decide) (st_zero33 rfl) ?_
  intro f15 w15 df2 sz2 old2 new2 hb
  replace x3 := tr old2 x3 rfl
  replace x15 := f_at (old2 15 rfl) (Fk.mono _ _ _ _ x15 hb)
  have x16 := Fk.e new2
  replace bl := bgo bl hb
  replace sd := sd2 sz2 df2 sd
  clear df2 sz2 old2 new2 hb
  refine wl_one (.hc ([hz])) rfl 17 rfl (by rw [sd.1]; decide) (st_bh1c (.tmp 16) rfl hz_len x16) ?_
  intro f16 w16 df2 sz2 old2 new2 hb
  replace x3 := tr old2 x3 rfl
  replace x15 := f_at (old2 15 rfl) (Fk.mono _ _ _ _ x15 hb)
  replace x16 := tr old2 x16 rfl
  have x17 : Fk.f (.hc ([hz])) (f16.eval (.tmp 17)) w16 := new2
  replace bl := bgo bl hb
  replace sd := sd2 sz2 df2 sd
  clear df2 sz2 old2 new2 hb
  clear x16
  obtain ⟨v15, e15⟩ : ∃ v, f16.eval (.tmp 15) = v := ⟨_, rfl⟩
  obtain ⟨p15, hp15, h15⟩ := x15
  rw [e15] at h15
  replace x15 := e15
  clear e15
  obtain ⟨v17, e17⟩ : ∃ v, f16.eval (.tmp 17) = v := ⟨_, rfl⟩
  have h17 := x17
  rw [e17] at h17
  replace x17 := e17
  clear e17
  obtain ⟨A15, C15, _, _, rfl, _⟩ := id h15.1
  obtain ⟨A17, C17, _, _, rfl, _⟩ := id h17
  refine wl_one (.eq (.agg ([.slice none 0 0, .slice A15 [p15].length C15, .slice A17 [hz].length C17] : List Value).toArray)) rfl 18 rfl (by rw [sd.1]; decide) (st_build 47 _ rfl (by simp only [List.map_toArray, List.map_cons, List.map_nil, show f16.eval (.tmp 15) = _ from x15, show f16.eval (.tmp 17) = _ from x17]; kernel_rfl)) ?_
  intro f17 w17 df2 sz2 old2 new2 hb
  replace x3 := tr old2 x3 rfl
  replace x15 := tr old2 x15 rfl
  replace x17 := tr old2 x17 rfl
  have x18 := Fk.e new2
  replace h15 := Fk.mono _ _ _ _ h15 hb
  replace h17 := Fk.mono _ _ _ _ h17 hb
  replace bl := bgo bl hb
  replace sd := sd2 sz2 df2 sd
  clear df2 sz2 old2 new2 hb
  clear x15
  clear x17
  refine wl_call 20 (.func 20) _ _ #[.agg ([.slice none 0 0, .slice A15 [p15].length C15, .slice A17 [hz].length C17] : List Value).toArray] rfl 19 rfl (by rw [sd.1]; decide) rfl rfl (one_arg x18) Tryd.enter20 (fun u W => (Fk.c3 false 22).f u W ∧ Below w17.heap.size w17 W) (fk_con_bad (po := []) (pn := [p15]) (P := [hz]) ⟨by simp, by simp⟩ ⟨fun p hp => by rw [List.mem_singleton.1 hp, hp15]; simp, by simp⟩ (by simp) (mc_nil _) h15 h17 (hK.below bl) (by simp) (by simp [prOn])) ?_
  rintro f18 w18 df2 sz2 old2 ⟨⟨A2, B2, u12, u22, new2, hA2, hB2, hlA2, hlB2, hr2⟩, hb⟩
  obtain ⟨pA2, mA2, cA2, _, _, rfl, _⟩ := id hA2
  obtain ⟨pB2, mB2, cB2, _, _, rfl, _⟩ := id hB2
  replace bl0 := bl
  replace x3 := tr old2 x3 rfl
  replace x18 := tr old2 x18 rfl
  have x19 : f18.eval (.tmp 19) = .tuple #[.agg ([.slice pA2 mA2 cA2, .slice pB2 mB2 cB2] : List Value).toArray, .bool false, .int .i64 22] := new2
  replace h15 := Fk.mono _ _ _ _ h15 hb
  replace h17 := Fk.mono _ _ _ _ h17 hb
  replace bl := bgo bl hb
  replace sd := sd2 sz2 df2 sd
  clear df2 sz2 old2 new2 hb
  replace blw := blw.trans (Below.mono bl blw.size)
  replace hn1 := Fk.mono _ _ _ _ hn1 bl
  replace hn2 := Fk.mono _ _ _ _ hn2 bl
  replace hn3 := Fk.mono _ _ _ _ hn3 bl
  replace hA1 := Fk.mono _ _ _ _ hA1 bl
  replace hB1 := Fk.mono _ _ _ _ hB1 bl
  replace hK := hK.below bl
  replace bl := Below.refl w18.heap.size w18
  replace bl0 := bl
  clear x18
  refine wl_one (.eq (.tuple #[.agg ([.slice pA2 mA2 cA2, .slice pB2 mB2 cB2] : List Value).toArray, .bool false, .int .i64 22])) rfl 13 rfl (by rw [sd.1]; decide) (st_move (.tmp 19) rfl x19) ?_
  intro f19 w19 df2 sz2 old2 new2 hb
  replace x3 := tr old2 x3 rfl
  replace x19 := tr old2 x19 rfl
  have x13 := Fk.e new2
  replace bl := bgo bl hb
  replace sd := sd2 sz2 df2 sd
  clear df2 sz2 old2 new2 hb
  clear x19
  refine wl_one (.eq (.agg ([.slice pA2 mA2 cA2, .slice pB2 mB2 cB2] : List Value).toArray)) rfl 20 rfl (by rw [sd.1]; decide) (st_tup (.tmp 13) rfl x13 (by rfl)) ?_
  intro f20 w20 df2 sz2 old2 new2 hb
  replace x3 := tr old2 x3 rfl
  replace x13 := tr old2 x13 rfl
  have x20 := Fk.e new2
  replace bl := bgo bl hb
  replace sd := sd2 sz2 df2 sd
  clear df2 sz2 old2 new2 hb
  refine wl_one (.eq (.bool false)) rfl 21 rfl (by rw [sd.1]; decide) (st_tup (.tmp 13) rfl x13 (by rfl)) ?_
  intro f21 w21 df2 sz2 old2 new2 hb
  replace x3 := tr old2 x3 rfl
  replace x13 := tr old2 x13 rfl
  replace x20 := tr old2 x20 rfl
  have x21 := Fk.e new2
  replace bl := bgo bl hb
  replace sd := sd2 sz2 df2 sd
  clear df2 sz2 old2 new2 hb
  refine wl_one (.eq (.int .i64 22)) rfl 22 rfl (by rw [sd.1]; decide) (st_tup (.tmp 13) rfl x13 (by rfl)) ?_
  intro f22 w22 df2 sz2 old2 new2 hb
  replace x3 := tr old2 x3 rfl
  replace x13 := tr old2 x13 rfl
  replace x20 := tr old2 x20 rfl
  replace x21 := tr old2 x21 rfl
  have x22 := Fk.e new2
  replace bl := bgo bl hb
  replace sd := sd2 sz2 df2 sd
  clear df2 sz2 old2 new2 hb
  clear x13
  refine wl_one (.nw w22.heap.size 25 [.slice none 0 0, .slice none 0 0]) rfl 4 rfl (by rw [sd.1]; decide) (st_alloc 25 rfl _ _ (by kernel_rfl) (Nat.le_refl _)) ?_
  intro f23 w23 df2 sz2 old2 new2 hb
  replace bl0 := bl
  replace x3 := tr old2 x3 rfl
  replace x20 := tr old2 x20 rfl
  replace x21 := tr old2 x21 rfl
  replace x22 := tr old2 x22 rfl
  have x4 : Fk.f (.nw w22.heap.size 25 [.slice none 0 0, .slice none 0 0]) (f23.eval (.tmp 4)) w23 := new2
  replace bl := bgo bl hb
  replace sd := sd2 sz2 df2 sd
  clear df2 sz2 old2 new2 hb
  obtain ⟨g4, hg4, e4, m4⟩ := x4
  have x4 := e4
  clear e4
  have hw4 : w18.heap.size ≤ g4 := Nat.le_trans bl0.size hg4
  refine wl_str rfl 25 (.tmp 4) (.tmp 20) rfl rfl (g4) ([.slice pA2 mA2 cA2, .slice pB2 mB2 cB2] : List Value).toArray x4 x20 25 _ m4 (by kernel_rfl) (by kernel_rfl) (by kernel_rfl) ?_
  replace m4 : Ob (w23.setRow g4 ([.slice pA2 mA2 cA2, .slice pB2 mB2 cB2] : List Value).toArray) (g4) 25 ([.slice pA2 mA2 cA2, .slice pB2 mB2 cB2]) := Ob.setRow m4 ([.slice pA2 mA2 cA2, .slice pB2 mB2 cB2])
  replace bl : Below w18.heap.size w18 (w23.setRow g4 ([.slice pA2 mA2 cA2, .slice pB2 mB2 cB2] : List Value).toArray) := bl.trans (below_setRow _ _ _ _ hw4)
  generalize w23.setRow g4 ([.slice pA2 mA2 cA2, .slice pB2 mB2 cB2] : List Value).toArray = w24b at bl m4 ⊢
  clear x20
  clear x4
  refine wl_one (.eq (.bool false)) rfl 5 rfl (by rw [sd.1]; decide) (st_assign (.tmp 21) rfl x21) ?_
  intro f25 w25 df2 sz2 old2 new2 hb
  replace x3 := tr old2 x3 rfl
  replace x21 := tr old2 x21 rfl
  replace x22 := tr old2 x22 rfl
  have x5 := Fk.e new2
  replace m4 := Ob.below m4 hb
  replace bl := bgo bl hb
  replace sd := sd2 sz2 df2 sd
  clear df2 sz2 old2 new2 hb
  clear x21
  clear x5
  refine wl_one (.eq (.int .i64 22)) rfl 6 rfl (by rw [sd.1]; decide) (st_assign (.tmp 22) rfl x22) ?_
  intro f26 w26 df2 sz2 old2 new2 hb
  replace x3 := tr old2 x3 rfl
  replace x22 := tr old2 x22 rfl
  have x6 := Fk.e new2
  replace m4 := Ob.below m4 hb
  replace bl := bgo bl hb
  replace sd := sd2 sz2 df2 sd
  clear df2 sz2 old2 new2 hb
  refine wpList_nil ?_
  clear x22
  clear m4
  show Code.wp _ _ _ _ _
  refine wp_seq ?_
  refine wr_a [.eq (.int .i64 11), .eq (.bool true), .eq (.bool true), .eq (.int .i64 22), .eq (.bool true), .eq (.bool true), .eq (.bool true)] (by rw [sd.1]; kernel_rfl) ⟨fun hw ac u K => ?_, fun hw ac u K => ?_, fun hw ac u K => ?_, fun hw ac u K => ?_, fun hw ac u K => ?_, fun hw ac u K => ?_, fun hw ac u K => ?_, trivial⟩ ?_
  · exact st_move (.tmp 3) rfl (K.t x3 rfl)
  · exact st_eqi 40 (.tmp 23) (.const (.int .i64 11)) rfl .i64 (11) (11) (K.dep 0 23 rfl) rfl _ (by simp)
  · exact st_move (.tmp 24) rfl (K.dep 1 24 rfl)
  · exact st_move (.tmp 6) rfl (K.t x6 rfl)
  · exact st_eqi 40 (.tmp 26) (.const (.int .i64 22)) rfl .i64 (22) (22) (K.dep 3 26 rfl) rfl _ (by simp)
  · exact st_pick_t (.tmp 25) (.tmp 27) (.const (.bool false)) rfl (K.dep 2 25 rfl) (K.dep 4 27 rfl)
  · exact st_assign (.tmp 28) rfl (K.dep 5 28 rfl)
  intro f27 w27 A hb
  replace x3 := A.t x3 rfl
  replace x6 := A.t x6 rfl
  have x0 := A.e 6 0 rfl rfl
  replace bl := bgo bl hb
  replace sd := A.sd sd
  clear A hb
  clear x3
  clear x6
  show Code.wp _ _ _ _ _
  refine wp_ret ?_
  repeat (first | with_reducible refine then_ret ?_ | with_reducible refine block_ret ?_)
  exact bodyPost_ret (v := .bool true) (ret_slot rfl f27 _ x0 _ _) sd.2 ⟨rfl, (bgo blw bl)⟩
end Go.Proofs.YtfmeeimhfdnjpaaDoor
namespace Go.Proofs.YtfmeeimhfdnjpaaDoor
set_option maxRecDepth 100000
open Go.RowKit
end Go.Proofs.YtfmeeimhfdnjpaaDoor
namespace Go.Proofs.YtfmeeimhfdnjpaaDoor
set_option maxRecDepth 100000
open Go.RowKit
end Go.Proofs.YtfmeeimhfdnjpaaDoor
namespace Go.Proofs.YtfmeeimhfdnjpaaDoor
set_option maxRecDepth 100000
open Go.RowKit
theorem own_h1 {w : World} {g base : Nat} {x : List (BitVec 8)} (h : HasV w g 33 x) (hx : x.length = 32) (hb : base ≤ g) : (Fk.ow base [x]).f (.slice (some ⟨g, 0, none⟩) 1 1) w := by
  refine ⟨⟨by simp [hx], .inr ⟨g, 1, (x.map V).toArray, rfl, hb, h, Nat.le_refl _, by unfold maxLen; omega, by simp [hx], ?_⟩⟩, fun i y hi => ?_⟩
  · simp only [List.length_cons, List.length_nil, List.flatten_cons, List.flatten_nil, List.append_nil]
    rw [List.take_of_length_le (by simp [hx])]
  · cases i with
    | zero => obtain rfl : x = y := by simpa using hi
              exact hx
    | succ i => simp at hi
theorem st_bo1 {Q : Exit → Act → World → Prop} {o : Oper} {a : Act} {w : World} (x : Operand) (ho : o.op = .buildSlice 35 1 #[(0, x)]) {hh : List (BitVec 8)} (hl : hh.length = 32) (hx : a.eval x = .agg (hh.map V).toArray) (g0 : Nat) (hg : g0 ≤ w.heap.size) : o.wp Tryd.prog a w (Ends a o.dst w (Fk.ow g0 [hh]).f) Q := by
  refine st_run (v := .slice (some ⟨w.heap.size, 0, none⟩) 1 1) (w' := w.alloc (.cells (hh.map V).toArray 33)) ?_ ((Below.refl _ _).alloc (Nat.le_refl _) _) (own_h1 (heap_alloc_new _ _) hl hg)
  have := Tryd.build35 hh hl w
  unfold execOp
  rw [ho]
  simp [hx, this]
theorem going_any (l : List (List (BitVec 8))) (m : Nat) (b : Bool) (hm1 : 1 ≤ m) (hm : m ≤ l.length) : ∀ (w : World) (v : Value), l.length ≤ 1000 → (Fk.hc l).f v w → Tab w →
    Calls Tryd.prog 40 #[v, .int .i64 (m : Int), .bool b] w fun e w' => ∃ u, e = .returned u ∧ (Fk.ow w.heap.size (msub l m b)).f u w' ∧ Below w.heap.size w w' := by
  suffices H : ∀ (n : Nat) (l : List (List (BitVec 8))), l.length = n → ∀ (m : Nat) (b : Bool), 1 ≤ m → m ≤ l.length → ∀ (w : World) (v : Value), l.length ≤ 1000 → (Fk.hc l).f v w → Tab w →
    Calls Tryd.prog 40 #[v, .int .i64 (m : Int), .bool b] w fun e w' => ∃ u, e = .returned u ∧ (Fk.ow w.heap.size (msub l m b)).f u w' ∧ Below w.heap.size w w' from H _ l rfl m b hm1 hm
  clear hm hm1 m l b
  intro n
  induction n using Nat.strongRecOn with
  | ind n ih0 =>
  intro l hn m b hm1 hm w v h1000 hv hK
  have ih : ∀ (l' : List (List (BitVec 8))), l'.length < n → ∀ (m : Nat) (b : Bool), 1 ≤ m → m ≤ l'.length → ∀ (w : World) (v : Value), l'.length ≤ 1000 → (Fk.hc l').f v w → Tab w →
    Calls Tryd.prog 40 #[v, .int .i64 (m : Int), .bool b] w fun e w' => ∃ u, e = .returned u ∧ (Fk.ow w.heap.size (msub l' m b)).f u w' ∧ Below w.heap.size w w' := fun l' hl' => ih0 _ hl' l' rfl
  clear ih0
  by_cases hml : m = l.length
  · cases b
    · obtain ⟨y, ey⟩ : ∃ p, Box (mroot l = p) := ⟨_, ⟨rfl⟩⟩
      have hy : y.length = 32 := by rw [← ey.out]; exact mroot_len (hc_len hv)
      go_enter Tryd.func40, Tryd.ntmps40
      refine code_both (fun f w1 => f.tmps.size = 53 ∧ f.defers = [] ∧ f.eval (.tmp 0) = v ∧ f.eval (.tmp 1) = .int .i64 (m : Int) ∧ f.eval (.tmp 2) = .bool false ∧ Below w.heap.size w (w1)) ⟨rfl, rfl, rfl, rfl, rfl, Below.refl _ _⟩ ?_
      rintro f0 w0 ⟨sz, df, x0, x1, x2, bl⟩
      have sd := And.intro sz df
      clear sz df
      have bl0 := bl
      refine wp_seq ?_
      refine wr_a [.eq (.slice none 0 0)] (by rw [sd.1]; kernel_rfl) ⟨fun hw ac u K => ?_, trivial⟩ ?_
      · exact st_assign (.const (.slice none 0 0)) rfl rfl
      intro f1 w1 A hb
      replace x0 := A.t x0 rfl
      replace x1 := A.t x1 rfl
      replace x2 := A.t x2 rfl
      replace bl := bgo bl hb
      replace sd := A.sd sd
      clear A hb
      show Code.wp _ _ _ _ _
      refine wp_seq ?_
      refine wp_seq ?_
      refine wr_a [.eq (.int .i64 (m : Int)), .eq (v), .eq (.int .i64 (((l).length : Nat) : Int)), .eq (.bool true), .eq (.bool true), .eq (.bool false), .eq (.bool false)] (by rw [sd.1]; kernel_rfl) ⟨fun hw ac u K => ?_, fun hw ac u K => ?_, fun hw ac u K => ?_, fun hw ac u K => ?_, fun hw ac u K => ?_, fun hw ac u K => ?_, fun hw ac u K => ?_, trivial⟩ ?_
      · exact st_move (.tmp 1) rfl (K.t x1 rfl)
      · exact st_move (.tmp 0) rfl (K.t x0 rfl)
      · exact st_lenc (.tmp 9) rfl ((l).length) rfl (fk_val (K.dep 1 9 rfl) (Fk.mono _ _ _ _ hv (bgo bl K.grow)))
      · exact st_eqi 3 (.tmp 8) (.tmp 10) rfl .i64 ((m : Int)) ((((l).length : Nat) : Int)) (K.dep 0 8 rfl) (K.dep 2 10 rfl) _ (by rw [eq_comm, decide_eq_true_iff]; omega)
      · exact st_move (.tmp 11) rfl (K.dep 3 11 rfl)
      · exact st_move (.tmp 2) rfl (K.t x2 rfl)
      · exact st_pick_t (.tmp 12) (.tmp 13) (.const (.bool false)) rfl (K.dep 4 12 rfl) (K.dep 5 13 rfl)
      intro f2 w2 A hb
      replace x0 := A.t x0 rfl
      replace x1 := A.t x1 rfl
      replace x2 := A.t x2 rfl
      have x14 := A.e 6 14 rfl rfl
      replace bl := bgo bl hb
      replace sd := A.sd sd
      clear A hb
      show Code.wp _ _ _ _ _
      refine wp_cond_false x14 ?_
      refine wp_skip ?_
      show Code.wp _ _ _ _ _
      refine wp_seq ?_
      refine wp_seq ?_
      refine wr_a [.eq (.int .i64 (m : Int)), .eq (v), .eq (.int .i64 (((l).length : Nat) : Int)), .eq (.bool true)] (by rw [sd.1]; kernel_rfl) ⟨fun hw ac u K => ?_, fun hw ac u K => ?_, fun hw ac u K => ?_, fun hw ac u K => ?_, trivial⟩ ?_
      · exact st_move (.tmp 1) rfl (K.t x1 rfl)
      · exact st_move (.tmp 0) rfl (K.t x0 rfl)
      · exact st_lenc (.tmp 16) rfl ((l).length) rfl (fk_val (K.dep 1 16 rfl) (Fk.mono _ _ _ _ hv (bgo bl K.grow)))
      · exact st_eqi 3 (.tmp 15) (.tmp 17) rfl .i64 ((m : Int)) ((((l).length : Nat) : Int)) (K.dep 0 15 rfl) (K.dep 2 17 rfl) _ (by rw [eq_comm, decide_eq_true_iff]; omega)
      intro f3 w3 A hb
      replace x0 := A.t x0 rfl
      replace x1 := A.t x1 rfl
      replace x2 := A.t x2 rfl
      replace x14 := A.t x14 rfl
      have x18 := A.e 3 18 rfl rfl
      replace bl := bgo bl hb
      replace sd := A.sd sd
      clear A hb
      clear x14
      show Code.wp _ _ _ _ _
      refine wp_cond_true x18 ?_
      refine wp_seq ?_
      refine wr_a [.eq (v), .eq (.agg ((y).map V).toArray), .ow w.heap.size ([y]), .ow w.heap.size ([y])] (by rw [sd.1]; kernel_rfl) ⟨fun hw ac u K => ?_, fun hw ac u K => ?_, fun hw ac u K => ?_, fun hw ac u K => ?_, trivial⟩ ?_
      · exact st_move (.tmp 0) rfl (K.t x0 rfl)
      · exact st_call 19 (.func 19) _ _ _ rfl rfl (one_arg (K.dep 0 19 rfl)) Tryd.enter19 (fk_of (root_any l _ _ h1000 (Fk.mono _ _ _ _ hv (bgo bl K.grow)) (hK.below (bgo bl K.grow)) ey))
      · exact st_bo1 (.tmp 20) rfl hy (K.dep 1 20 rfl) _ (bgo bl K.grow).size
      · exact st_assign (.tmp 21) rfl (K.dep 2 21 rfl)
      intro f4 w4 A hb
      replace x0 := A.t x0 rfl
      replace x1 := A.t x1 rfl
      replace x2 := A.t x2 rfl
      replace x18 := A.t x18 rfl
      have x6 : Fk.f (.ow w.heap.size ([y])) (f4.eval (.tmp 6)) w4 := A.has 3 6 rfl
      replace bl := bgo bl hb
      replace sd := A.sd sd
      clear A hb
      clear x0
      clear x1
      clear x2
      clear x18
      show Code.wp _ _ _ _ _
      refine wp_ret ?_
      repeat (first | with_reducible refine then_ret ?_ | with_reducible refine block_ret ?_)
      rw [hml, msub_part, ey.out]
      exact bodyPost_ret (v := f4.eval (.tmp 6)) (ret_slot rfl f4 _ rfl _ _) sd.2 ⟨_, rfl, x6, bl⟩
    · skip
      go_enter Tryd.func40, Tryd.ntmps40
      refine code_both (fun f w1 => f.tmps.size = 53 ∧ f.defers = [] ∧ f.eval (.tmp 0) = v ∧ f.eval (.tmp 1) = .int .i64 (m : Int) ∧ f.eval (.tmp 2) = .bool true ∧ Below w.heap.size w (w1)) ⟨rfl, rfl, rfl, rfl, rfl, Below.refl _ _⟩ ?_
      rintro f0 w0 ⟨sz, df, x0, x1, x2, bl⟩
      have sd := And.intro sz df
      clear sz df
      have bl0 := bl
      refine wp_seq ?_
      refine wr_a [.eq (.slice none 0 0)] (by rw [sd.1]; kernel_rfl) ⟨fun hw ac u K => ?_, trivial⟩ ?_
      · exact st_assign (.const (.slice none 0 0)) rfl rfl
      intro f1 w1 A hb
      replace x0 := A.t x0 rfl
      replace x1 := A.t x1 rfl
      replace x2 := A.t x2 rfl
      replace bl := bgo bl hb
      replace sd := A.sd sd
      clear A hb
      show Code.wp _ _ _ _ _
      refine wp_seq ?_
      refine wp_seq ?_
      refine wr_a [.eq (.int .i64 (m : Int)), .eq (v), .eq (.int .i64 (((l).length : Nat) : Int)), .eq (.bool true), .eq (.bool true), .eq (.bool true), .eq (.bool true)] (by rw [sd.1]; kernel_rfl) ⟨fun hw ac u K => ?_, fun hw ac u K => ?_, fun hw ac u K => ?_, fun hw ac u K => ?_, fun hw ac u K => ?_, fun hw ac u K => ?_, fun hw ac u K => ?_, trivial⟩ ?_
      · exact st_move (.tmp 1) rfl (K.t x1 rfl)
      · exact st_move (.tmp 0) rfl (K.t x0 rfl)
      · exact st_lenc (.tmp 9) rfl ((l).length) rfl (fk_val (K.dep 1 9 rfl) (Fk.mono _ _ _ _ hv (bgo bl K.grow)))
      · exact st_eqi 3 (.tmp 8) (.tmp 10) rfl .i64 ((m : Int)) ((((l).length : Nat) : Int)) (K.dep 0 8 rfl) (K.dep 2 10 rfl) _ (by rw [eq_comm, decide_eq_true_iff]; omega)
      · exact st_move (.tmp 11) rfl (K.dep 3 11 rfl)
      · exact st_move (.tmp 2) rfl (K.t x2 rfl)
      · exact st_pick_t (.tmp 12) (.tmp 13) (.const (.bool false)) rfl (K.dep 4 12 rfl) (K.dep 5 13 rfl)
      intro f2 w2 A hb
      replace x0 := A.t x0 rfl
      replace x1 := A.t x1 rfl
      replace x2 := A.t x2 rfl
      have x14 := A.e 6 14 rfl rfl
      replace bl := bgo bl hb
      replace sd := A.sd sd
      clear A hb
      show Code.wp _ _ _ _ _
      refine wp_cond_true x14 ?_
      refine wp_seq ?_
      refine wr_a [.eq (.slice none 0 0)] (by rw [sd.1]; kernel_rfl) ⟨fun hw ac u K => ?_, trivial⟩ ?_
      · exact st_assign (.const (.slice none 0 0)) rfl rfl
      intro f3 w3 A hb
      replace x0 := A.t x0 rfl
      replace x1 := A.t x1 rfl
      replace x2 := A.t x2 rfl
      replace x14 := A.t x14 rfl
      have x6 := A.e 0 6 rfl rfl
      replace bl := bgo bl hb
      replace sd := A.sd sd
      clear A hb
      clear x0
      clear x1
      clear x2
      clear x14
      show Code.wp _ _ _ _ _
      refine wp_ret ?_
      repeat (first | with_reducible refine then_ret ?_ | with_reducible refine block_ret ?_)
      rw [hml, msub_all]
      exact bodyPost_ret (v := .slice none 0 0) (ret_slot rfl f3 _ x6 _ _) sd.2 ⟨_, rfl, ow_nil _ _, bl⟩
  · skip
    have h2 : 2 ≤ l.length := by omega
    obtain ⟨k, hk⟩ : ∃ k, spl l.length = k := ⟨_, rfl⟩
    have hk1 : k < l.length := by rw [← hk]; exact spl_lt h2
    have hk2 : 1 ≤ k := by rw [← hk]; exact spl_pos _
    obtain ⟨y1, ey1⟩ : ∃ p, Box (mroot (l.take k) = p) := ⟨_, ⟨rfl⟩⟩
    obtain ⟨y2, ey2⟩ : ∃ p, Box (mroot (l.drop k) = p) := ⟨_, ⟨rfl⟩⟩
    have hy1 : y1.length = 32 := by rw [← ey1.out]; exact mroot_len (fun x hx => hc_len hv x (List.mem_of_mem_take hx))
    have hy2 : y2.length = 32 := by rw [← ey2.out]; exact mroot_len (fun x hx => hc_len hv x (List.mem_of_mem_drop hx))
    go_enter Tryd.func40, Tryd.ntmps40
    refine code_both (fun f w1 => f.tmps.size = 53 ∧ f.defers = [] ∧ f.eval (.tmp 0) = v ∧ f.eval (.tmp 1) = .int .i64 (m : Int) ∧ f.eval (.tmp 2) = .bool b ∧ Below w.heap.size w (w1)) ⟨rfl, rfl, rfl, rfl, rfl, Below.refl _ _⟩ ?_
    rintro f0 w0 ⟨sz, df, x0, x1, x2, bl⟩
    have sd := And.intro sz df
    clear sz df
    have bl0 := bl
    refine wp_seq ?_
    refine wr_a [.eq (.slice none 0 0)] (by rw [sd.1]; kernel_rfl) ⟨fun hw ac u K => ?_, trivial⟩ ?_
    · exact st_assign (.const (.slice none 0 0)) rfl rfl
    intro f1 w1 A hb
    replace x0 := A.t x0 rfl
    replace x1 := A.t x1 rfl
    replace x2 := A.t x2 rfl
    replace bl := bgo bl hb
    replace sd := A.sd sd
    clear A hb
    show Code.wp _ _ _ _ _
    refine wp_seq ?_
    refine wp_seq ?_
    refine wr_a [.eq (.int .i64 (m : Int)), .eq (v), .eq (.int .i64 (((l).length : Nat) : Int)), .eq (.bool false), .eq (.bool false), .any, .eq (.bool false)] (by rw [sd.1]; kernel_rfl) ⟨fun hw ac u K => ?_, fun hw ac u K => ?_, fun hw ac u K => ?_, fun hw ac u K => ?_, fun hw ac u K => ?_, fun hw ac u K => ?_, fun hw ac u K => ?_, trivial⟩ ?_
    · exact st_move (.tmp 1) rfl (K.t x1 rfl)
    · exact st_move (.tmp 0) rfl (K.t x0 rfl)
    · exact st_lenc (.tmp 9) rfl ((l).length) rfl (fk_val (K.dep 1 9 rfl) (Fk.mono _ _ _ _ hv (bgo bl K.grow)))
    · exact st_eqi 3 (.tmp 8) (.tmp 10) rfl .i64 ((m : Int)) ((((l).length : Nat) : Int)) (K.dep 0 8 rfl) (K.dep 2 10 rfl) _ (by rw [eq_comm, decide_eq_false_iff_not]; omega)
    · exact st_move (.tmp 11) rfl (K.dep 3 11 rfl)
    · exact (Bool.false_ne_true hw).elim
    · exact st_pick_f' (.tmp 12) (.tmp 13) (.const (.bool false)) rfl (K.dep 4 12 rfl) rfl
    intro f2 w2 A hb
    replace x0 := A.t x0 rfl
    replace x1 := A.t x1 rfl
    replace x2 := A.t x2 rfl
    have x14 := A.e 6 14 rfl rfl
    replace bl := bgo bl hb
    replace sd := A.sd sd
    clear A hb
    show Code.wp _ _ _ _ _
    refine wp_cond_false x14 ?_
    refine wp_skip ?_
    show Code.wp _ _ _ _ _
    refine wp_seq ?_
    refine wp_seq ?_
    refine wr_a [.eq (.int .i64 (m : Int)), .eq (v), .eq (.int .i64 (((l).length : Nat) : Int)), .eq (.bool false)] (by rw [sd.1]; kernel_rfl) ⟨fun hw ac u K => ?_, fun hw ac u K => ?_, fun hw ac u K => ?_, fun hw ac u K => ?_, trivial⟩ ?_
    · exact st_move (.tmp 1) rfl (K.t x1 rfl)
    · exact st_move (.tmp 0) rfl (K.t x0 rfl)
    · exact st_lenc (.tmp 16) rfl ((l).length) rfl (fk_val (K.dep 1 16 rfl) (Fk.mono _ _ _ _ hv (bgo bl K.grow)))
    · exact st_eqi 3 (.tmp 15) (.tmp 17) rfl .i64 ((m : Int)) ((((l).length : Nat) : Int)) (K.dep 0 15 rfl) (K.dep 2 17 rfl) _ (by rw [eq_comm, decide_eq_false_iff_not]; omega)
    intro f3 w3 A hb
    replace x0 := A.t x0 rfl
    replace x1 := A.t x1 rfl
    replace x2 := A.t x2 rfl
    replace x14 := A.t x14 rfl
    have x18 := A.e 3 18 rfl rfl
    replace bl := bgo bl hb
    replace sd := A.sd sd
    clear A hb
    clear x14
    show Code.wp _ _ _ _ _
    refine wp_cond_false x18 ?_
    refine wp_skip ?_
    show Code.wp _ _ _ _ _
    refine wp_seq ?_
    refine wr_a [.eq (v), .eq (.int .i64 (((l).length : Nat) : Int)), .eq (.int .i64 (k : Int)), .eq (.int .i64 (k : Int))] (by rw [sd.1]; kernel_rfl) ⟨fun hw ac u K => ?_, fun hw ac u K => ?_, fun hw ac u K => ?_, fun hw ac u K => ?_, trivial⟩ ?_
    · exact st_move (.tmp 0) rfl (K.t x0 rfl)
    · exact st_lenc (.tmp 22) rfl ((l).length) rfl (fk_val (K.dep 0 22 rfl) (Fk.mono _ _ _ _ hv (bgo bl K.grow)))
    · exact st_call 35 (.func 35) _ _ _ rfl rfl (one_arg (K.dep 1 23 rfl)) Tryd.enter35 (by rw [← hk]; exact fk_of (split_hi l.length (by omega) (by omega) _))
    · exact st_assign (.tmp 24) rfl (K.dep 2 24 rfl)
    intro f4 w4 A hb
    replace x0 := A.t x0 rfl
    replace x1 := A.t x1 rfl
    replace x2 := A.t x2 rfl
    replace x18 := A.t x18 rfl
    have x7 := A.e 3 7 rfl rfl
    replace bl := bgo bl hb
    replace sd := A.sd sd
    clear A hb
    clear x18
    show Code.wp _ _ _ _ _
    refine wp_seq ?_
    refine wp_seq ?_
    by_cases hik : m ≤ k
    rotate_left
    · skip
      have hl1 := msub_len _ (l.drop k) (m - k) false rfl
      rw [List.length_drop] at hl1
      refine wr_a [.eq (.int .i64 (m : Int)), .eq (.int .i64 (k : Int)), .eq (.bool false)] (by rw [sd.1]; kernel_rfl) ⟨fun hw ac u K => ?_, fun hw ac u K => ?_, fun hw ac u K => ?_, trivial⟩ ?_
      · exact st_move (.tmp 1) rfl (K.t x1 rfl)
      · exact st_move (.tmp 7) rfl (K.t x7 rfl)
      · exact st_leq 3 (.tmp 25) (.tmp 26) rfl .i64 ((m : Int)) ((k : Int)) (K.dep 0 25 rfl) (K.dep 1 26 rfl) _ (by first | (simp; done) | (simp; omega))
      intro f5 w5 A hb
      replace x0 := A.t x0 rfl
      replace x1 := A.t x1 rfl
      replace x2 := A.t x2 rfl
      replace x7 := A.t x7 rfl
      have x27 := A.e 2 27 rfl rfl
      replace bl := bgo bl hb
      replace sd := A.sd sd
      clear A hb
      show Code.wp _ _ _ _ _
      refine wp_cond_false x27 ?_
      refine wp_skip ?_
      show Code.wp _ _ _ _ _
      refine wp_seq ?_
      refine wr_t [.eq (v), .eq (.int .i64 (k : Int)), .hc ((l).drop (k)), .eq (.int .i64 (m : Int)), .eq (.int .i64 (k : Int)), .eq (.int .i64 ((m - k : Nat) : Int)), .ow w.heap.size (msub (l.drop k) (m - k) false), .eq (v), .eq (.int .i64 (k : Int)), .hc ((l).take (k)), .eq (.agg ((y1).map V).toArray), .hs ([y1])] [12, 13] Tryd.mixed (by rw [sd.1]; kernel_rfl) ⟨fun hw ac u K => ?_, fun hw ac u K => ?_, fun hw ac u K => ?_, fun hw ac u K => ?_, fun hw ac u K => ?_, fun hw ac u K => ?_, fun hw ac u K => ?_, fun hw ac u K => ?_, fun hw ac u K => ?_, fun hw ac u K => ?_, fun hw ac u K => ?_, fun hw ac u K => ?_, trivial⟩ ?_
      · exact st_move (.tmp 0) rfl (K.t x0 rfl)
      · exact st_move (.tmp 7) rfl (K.t x7 rfl)
      · exact st_restc (.tmp 40) (.tmp 41) rfl (fk_val (K.dep 0 40 rfl) (Fk.mono _ _ _ _ hv (bgo bl K.grow))) (k) (K.dep 1 41 rfl) (by omega)
      · exact st_move (.tmp 1) rfl (K.t x1 rfl)
      · exact st_move (.tmp 7) rfl (K.t x7 rfl)
      · exact st_sub (.tmp 43) (.tmp 44) rfl (m) (k) (m - k) (K.dep 3 43 rfl) (K.dep 4 44 rfl) (by omega) (by omega)
      · exact st_call 40 (.func 40) _ _ _ rfl rfl (arg3 rfl (K.dep 5 45 rfl) rfl) Tryd.enter40 (fk_ow (bgo bl K.grow).size (ih (l.drop k) (by rw [List.length_drop]; omega) (m - k) false (by omega) (by rw [List.length_drop]; omega) _ _ (by rw [List.length_drop]; omega) (K.dep 2 42 rfl) (hK.below (bgo bl K.grow))))
      · exact st_move (.tmp 0) rfl (K.t x0 rfl)
      · exact st_move (.tmp 7) rfl (K.t x7 rfl)
      · exact st_cuth (.tmp 47) (.tmp 48) rfl (fk_val (K.dep 7 47 rfl) (Fk.mono _ _ _ _ hv (bgo bl K.grow))) (k) (K.dep 8 48 rfl) (by omega)
      · exact st_call 19 (.func 19) _ _ _ rfl rfl (one_arg rfl) Tryd.enter19 (fk_of (root_any (l.take k) _ _ (by rw [List.length_take]; omega) (K.dep 9 49 rfl) (hK.below (bgo bl K.grow)) ey1))
      · exact st_bh1 (.tmp 50) rfl hy1 (K.dep 10 50 rfl)
      intro f6 w6 A hb
      replace bl0 := bl
      replace x0 := A.t x0 rfl
      replace x1 := A.t x1 rfl
      replace x2 := A.t x2 rfl
      replace x7 := A.t x7 rfl
      replace x27 := A.t x27 rfl
      have x46 : Fk.f (.ow w.heap.size (msub (l.drop k) (m - k) false)) (f6.eval (.tmp 46)) w6 := A.has 6 46 rfl
      have x51 : Fk.f (.hs ([y1])) (f6.eval (.tmp 51)) w6 := A.has 11 51 rfl
      replace bl := bgo bl hb
      replace sd := A.sd sd
      clear A hb
      clear x0
      clear x1
      clear x2
      clear x7
      clear x27
      refine wl_append rfl (.tmp 46) (.tmp 51) rfl 52 rfl (by rw [sd.1]; decide) x46 x51 bl (by omega) ?_
      intro f7 w7 df2 sz2 old2 new2 bl2
      clear x46
      clear x51
      have x52 : Fk.f (.ow w.heap.size (msub (l.drop k) (m - k) false ++ [y1])) (f7.eval (.tmp 52)) w7 := new2
      replace bl := bl2
      replace bl0 := bl
      replace sd := sd2 sz2 df2 sd
      clear df2 sz2 old2 new2 bl2
      refine wl_one (.ow w.heap.size (msub (l.drop k) (m - k) false ++ [y1])) rfl 6 rfl (by rw [sd.1]; decide) (st_assign (.tmp 52) rfl x52) ?_
      intro f8 w8 df2 sz2 old2 new2 hb
      replace x52 := f_at (old2 52 rfl) (Fk.mono _ _ _ _ x52 hb)
      have x6 : Fk.f (.ow w.heap.size (msub (l.drop k) (m - k) false ++ [y1])) (f8.eval (.tmp 6)) w8 := new2
      replace bl := bgo bl hb
      replace sd := sd2 sz2 df2 sd
      clear df2 sz2 old2 new2 hb
      refine wpList_nil ?_
      clear x52
      show Code.wp _ _ _ _ _
      refine wp_ret ?_
      repeat (first | with_reducible refine then_ret ?_ | with_reducible refine block_ret ?_)
      rw [msub_right h2 hml (by rw [hk]; exact hik), hk, ey1.out]
      exact bodyPost_ret (v := f8.eval (.tmp 6)) (ret_slot rfl f8 _ rfl _ _) sd.2 ⟨_, rfl, x6, bl⟩
    have hl1 := msub_len _ (l.take k) m b rfl
    rw [List.length_take] at hl1
    refine wr_a [.eq (.int .i64 (m : Int)), .eq (.int .i64 (k : Int)), .eq (.bool true)] (by rw [sd.1]; kernel_rfl) ⟨fun hw ac u K => ?_, fun hw ac u K => ?_, fun hw ac u K => ?_, trivial⟩ ?_
    · exact st_move (.tmp 1) rfl (K.t x1 rfl)
    · exact st_move (.tmp 7) rfl (K.t x7 rfl)
    · exact st_leq 3 (.tmp 25) (.tmp 26) rfl .i64 ((m : Int)) ((k : Int)) (K.dep 0 25 rfl) (K.dep 1 26 rfl) _ (by first | (simp; done) | (simp; omega))
    intro f5 w5 A hb
    replace x0 := A.t x0 rfl
    replace x1 := A.t x1 rfl
    replace x2 := A.t x2 rfl
    replace x7 := A.t x7 rfl
    have x27 := A.e 2 27 rfl rfl
    replace bl := bgo bl hb
    replace sd := A.sd sd
    clear A hb
    show Code.wp _ _ _ _ _
    refine wp_cond_true x27 ?_
    refine wp_seq ?_
    refine wr_t [.eq (v), .eq (.int .i64 (k : Int)), .hc ((l).take (k)), .eq (.int .i64 (m : Int)), .eq (.bool b), .ow w.heap.size (msub (l.take k) m b), .eq (v), .eq (.int .i64 (k : Int)), .hc ((l).drop (k)), .eq (.agg ((y2).map V).toArray), .hs ([y2])] [11, 12] Tryd.mixed (by rw [sd.1]; kernel_rfl) ⟨fun hw ac u K => ?_, fun hw ac u K => ?_, fun hw ac u K => ?_, fun hw ac u K => ?_, fun hw ac u K => ?_, fun hw ac u K => ?_, fun hw ac u K => ?_, fun hw ac u K => ?_, fun hw ac u K => ?_, fun hw ac u K => ?_, fun hw ac u K => ?_, trivial⟩ ?_
    · exact st_move (.tmp 0) rfl (K.t x0 rfl)
    · exact st_move (.tmp 7) rfl (K.t x7 rfl)
    · exact st_cuth (.tmp 28) (.tmp 29) rfl (fk_val (K.dep 0 28 rfl) (Fk.mono _ _ _ _ hv (bgo bl K.grow))) (k) (K.dep 1 29 rfl) (by omega)
    · exact st_move (.tmp 1) rfl (K.t x1 rfl)
    · exact st_move (.tmp 2) rfl (K.t x2 rfl)
    · exact st_call 40 (.func 40) _ _ _ rfl rfl (arg3 rfl (K.dep 3 31 rfl) (K.dep 4 32 rfl)) Tryd.enter40 (fk_ow (bgo bl K.grow).size (ih (l.take k) (by rw [List.length_take]; omega) m b hm1 (by rw [List.length_take]; omega) _ _ (by rw [List.length_take]; omega) (K.dep 2 30 rfl) (hK.below (bgo bl K.grow))))
    · exact st_move (.tmp 0) rfl (K.t x0 rfl)
    · exact st_move (.tmp 7) rfl (K.t x7 rfl)
    · exact st_restc (.tmp 34) (.tmp 35) rfl (fk_val (K.dep 6 34 rfl) (Fk.mono _ _ _ _ hv (bgo bl K.grow))) (k) (K.dep 7 35 rfl) (by omega)
    · exact st_call 19 (.func 19) _ _ _ rfl rfl (one_arg rfl) Tryd.enter19 (fk_of (root_any (l.drop k) _ _ (by rw [List.length_drop]; omega) (K.dep 8 36 rfl) (hK.below (bgo bl K.grow)) ey2))
    · exact st_bh1 (.tmp 37) rfl hy2 (K.dep 9 37 rfl)
    intro f6 w6 A hb
    replace bl0 := bl
    replace x0 := A.t x0 rfl
    replace x1 := A.t x1 rfl
    replace x2 := A.t x2 rfl
    replace x7 := A.t x7 rfl
    replace x27 := A.t x27 rfl
    have x33 : Fk.f (.ow w.heap.size (msub (l.take k) m b)) (f6.eval (.tmp 33)) w6 := A.has 5 33 rfl
    have x38 : Fk.f (.hs ([y2])) (f6.eval (.tmp 38)) w6 := A.has 10 38 rfl
    replace bl := bgo bl hb
    replace sd := A.sd sd
    clear A hb
    clear x0
    clear x1
    clear x2
    clear x7
    clear x27
    refine wl_append rfl (.tmp 33) (.tmp 38) rfl 39 rfl (by rw [sd.1]; decide) x33 x38 bl (by omega) ?_
    intro f7 w7 df2 sz2 old2 new2 bl2
    clear x33
    clear x38
    have x39 : Fk.f (.ow w.heap.size (msub (l.take k) m b ++ [y2])) (f7.eval (.tmp 39)) w7 := new2
    replace bl := bl2
    replace bl0 := bl
    replace sd := sd2 sz2 df2 sd
    clear df2 sz2 old2 new2 bl2
    refine wl_one (.ow w.heap.size (msub (l.take k) m b ++ [y2])) rfl 6 rfl (by rw [sd.1]; decide) (st_assign (.tmp 39) rfl x39) ?_
    intro f8 w8 df2 sz2 old2 new2 hb
    replace x39 := f_at (old2 39 rfl) (Fk.mono _ _ _ _ x39 hb)
    have x6 : Fk.f (.ow w.heap.size (msub (l.take k) m b ++ [y2])) (f8.eval (.tmp 6)) w8 := new2
    replace bl := bgo bl hb
    replace sd := sd2 sz2 df2 sd
    clear df2 sz2 old2 new2 hb
    refine wpList_nil ?_
    clear x39
    show Code.wp _ _ _ _ _
    refine wp_ret ?_
    repeat (first | with_reducible refine then_ret ?_ | with_reducible refine block_ret ?_)
    rw [msub_left h2 hml (by rw [hk]; exact hik), hk, ey2.out]
    exact bodyPost_ret (v := f8.eval (.tmp 6)) (ret_slot rfl f8 _ rfl _ _) sd.2 ⟨_, rfl, x6, bl⟩
theorem proof_zero {l : List (List (BitVec 8))} (w : World) {v : Value} (hv : (Fk.hc l).f v w) :
    Calls Tryd.prog 24 #[v, .int .i64 0] w fun e w' => e = .returned (.tuple #[.slice none 0 0, .int .i64 0]) ∧ Below w.heap.size w w' := by
  go_enter Tryd.func24, Tryd.ntmps24
  refine code_both (fun f w1 => f.tmps.size = 19 ∧ f.defers = [] ∧ f.eval (.tmp 0) = v ∧ f.eval (.tmp 1) = .int .i64 0 ∧ Below w.heap.size w (w1)) ⟨rfl, rfl, rfl, rfl, Below.refl _ _⟩ ?_
  rintro f0 w0 ⟨sz, df, x0, x1, bl⟩
  have sd := And.intro sz df
  clear sz df
  have bl0 := bl
  refine wp_seq ?_
  refine wr_s [] (by rw [sd.1]; kernel_rfl) trivial ?_
  intro f1 w1 A hb
  replace x0 := A.t x0 rfl
  replace x1 := A.t x1 rfl
  replace bl := bgo bl hb
  replace sd := A.sd sd
  clear A hb
  refine wl_one (.eq (.slice none 0 0)) rfl 4 rfl (by rw [sd.1]; decide) (st_assign (.const (.slice none 0 0)) rfl rfl) ?_
  intro f2 w2 df2 sz2 old2 new2 hb
  replace x0 := tr old2 x0 rfl
  replace x1 := tr old2 x1 rfl
  have x4 := Fk.e new2
  replace bl := bgo bl hb
  replace sd := sd2 sz2 df2 sd
  clear df2 sz2 old2 new2 hb
  clear x4
  refine wl_one (.eq (.int .i64 0)) rfl 5 rfl (by rw [sd.1]; decide) (st_assign (.const (.int .i64 0)) rfl rfl) ?_
  intro f3 w3 df2 sz2 old2 new2 hb
  replace x0 := tr old2 x0 rfl
  replace x1 := tr old2 x1 rfl
  have x5 := Fk.e new2
  replace bl := bgo bl hb
  replace sd := sd2 sz2 df2 sd
  clear df2 sz2 old2 new2 hb
  refine wpList_nil ?_
  clear x5
  show Code.wp _ _ _ _ _
  refine wp_seq ?_
  refine wp_seq ?_
  refine wr_a [.eq (.int .i64 0), .eq (.bool false), .eq (.bool false), .eq (.int .i64 0), .eq (v), .eq (.int .i64 (((l).length : Nat) : Int)), .eq (.bool false), .eq (.bool false)] (by rw [sd.1]; kernel_rfl) ⟨fun hw ac u K => ?_, fun hw ac u K => ?_, fun hw ac u K => ?_, fun hw ac u K => ?_, fun hw ac u K => ?_, fun hw ac u K => ?_, fun hw ac u K => ?_, fun hw ac u K => ?_, trivial⟩ ?_
  · exact st_move (.tmp 1) rfl (K.t x1 rfl)
  · exact st_lss 3 (.tmp 6) (.const (.int .i64 0)) rfl .i64 (0) (0) (K.dep 0 6 rfl) rfl _ (by rw [eq_comm, decide_eq_false_iff_not]; omega)
  · exact st_move (.tmp 7) rfl (K.dep 1 7 rfl)
  · exact st_move (.tmp 1) rfl (K.t x1 rfl)
  · exact st_move (.tmp 0) rfl (K.t x0 rfl)
  · exact st_lenc (.tmp 10) rfl ((l).length) rfl (fk_val (K.dep 4 10 rfl) (Fk.mono _ _ _ _ hv (bgo bl K.grow)))
  · exact st_gtr 3 (.tmp 9) (.tmp 11) rfl .i64 (0) ((((l).length : Nat) : Int)) (K.dep 3 9 rfl) (K.dep 5 11 rfl) _ (by rw [eq_comm, decide_eq_false_iff_not]; omega)
  · exact st_pick_f' (.tmp 8) (.const (.bool true)) (.tmp 12) rfl (K.dep 2 8 rfl) (K.dep 6 12 rfl)
  intro f4 w4 A hb
  replace x0 := A.t x0 rfl
  replace x1 := A.t x1 rfl
  have x13 := A.e 7 13 rfl rfl
  replace bl := bgo bl hb
  replace sd := A.sd sd
  clear A hb
  show Code.wp _ _ _ _ _
  refine wp_cond_false x13 ?_
  refine wp_skip ?_
  show Code.wp _ _ _ _ _
  refine wp_seq ?_
  refine wp_seq ?_
  refine wr_a [.eq (.int .i64 0), .eq (.bool true)] (by rw [sd.1]; kernel_rfl) ⟨fun hw ac u K => ?_, fun hw ac u K => ?_, trivial⟩ ?_
  · exact st_move (.tmp 1) rfl (K.t x1 rfl)
  · exact st_eqi 3 (.tmp 14) (.const (.int .i64 0)) rfl .i64 (0) (0) (K.dep 0 14 rfl) rfl _ (by simp)
  intro f5 w5 A hb
  replace x0 := A.t x0 rfl
  replace x1 := A.t x1 rfl
  replace x13 := A.t x13 rfl
  have x15 := A.e 1 15 rfl rfl
  replace bl := bgo bl hb
  replace sd := A.sd sd
  clear A hb
  clear x13
  show Code.wp _ _ _ _ _
  refine wp_cond_true x15 ?_
  refine wp_seq ?_
  refine wr_a [.eq (.slice none 0 0), .eq (.int .i64 0)] (by rw [sd.1]; kernel_rfl) ⟨fun hw ac u K => ?_, fun hw ac u K => ?_, trivial⟩ ?_
  · exact st_assign (.const (.slice none 0 0)) rfl rfl
  · exact st_assign (.const (.int .i64 0)) rfl rfl
  intro f6 w6 A hb
  replace x0 := A.t x0 rfl
  replace x1 := A.t x1 rfl
  replace x15 := A.t x15 rfl
  have x4 := A.e 0 4 rfl rfl
  have x5 := A.e 1 5 rfl rfl
  replace bl := bgo bl hb
  replace sd := A.sd sd
  clear A hb
  clear x0
  clear x1
  clear x15
  show Code.wp _ _ _ _ _
  refine wp_ret ?_
  repeat (first | with_reducible refine then_ret ?_ | with_reducible refine block_ret ?_)
  exact bodyPost_ret (v := .tuple #[.slice none 0 0, .int .i64 0]) (ret_two rfl f6 _ _ x4 x5 _ _) sd.2 ⟨rfl, bl⟩
theorem proof_ok {l : List (List (BitVec 8))} {m : Nat} (hm1 : 1 ≤ m) (hm : m ≤ l.length) (h1000 : l.length ≤ 1000) (w : World) {v : Value} (hv : (Fk.hc l).f v w) (hK : Tab w) :
    Calls Tryd.prog 24 #[v, .int .i64 (m : Int)] w fun e w' => ∃ u, e = .returned u ∧ (Fk.t2 (.ow w.heap.size (msub l m true)) (.int .i64 0)).f u w' ∧ Below w.heap.size w w' := by
  go_enter Tryd.func24, Tryd.ntmps24
  refine code_both (fun f w1 => f.tmps.size = 19 ∧ f.defers = [] ∧ f.eval (.tmp 0) = v ∧ f.eval (.tmp 1) = .int .i64 (m : Int) ∧ Below w.heap.size w (w1)) ⟨rfl, rfl, rfl, rfl, Below.refl _ _⟩ ?_
  rintro f0 w0 ⟨sz, df, x0, x1, bl⟩
  have sd := And.intro sz df
  clear sz df
  have bl0 := bl
  refine wp_seq ?_
  refine wr_s [] (by rw [sd.1]; kernel_rfl) trivial ?_
  intro f1 w1 A hb
  replace x0 := A.t x0 rfl
  replace x1 := A.t x1 rfl
  replace bl := bgo bl hb
  replace sd := A.sd sd
  clear A hb
  refine wl_one (.eq (.slice none 0 0)) rfl 4 rfl (by rw [sd.1]; decide) (st_assign (.const (.slice none 0 0)) rfl rfl) ?_
  intro f2 w2 df2 sz2 old2 new2 hb
  replace x0 := tr old2 x0 rfl
  replace x1 := tr old2 x1 rfl
  have x4 := Fk.e new2
  replace bl := bgo bl hb
  replace sd := sd2 sz2 df2 sd
  clear df2 sz2 old2 new2 hb
  clear x4
  refine wl_one (.eq (.int .i64 0)) rfl 5 rfl (by rw [sd.1]; decide) (st_assign (.const (.int .i64 0)) rfl rfl) ?_
  intro f3 w3 df2 sz2 old2 new2 hb
  replace x0 := tr old2 x0 rfl
  replace x1 := tr old2 x1 rfl
  have x5 := Fk.e new2
  replace bl := bgo bl hb
  replace sd := sd2 sz2 df2 sd
  clear df2 sz2 old2 new2 hb
  refine wpList_nil ?_
  clear x5
  show Code.wp _ _ _ _ _
  refine wp_seq ?_
  refine wp_seq ?_
  refine wr_a [.eq (.int .i64 (m : Int)), .eq (.bool false), .eq (.bool false), .eq (.int .i64 (m : Int)), .eq (v), .eq (.int .i64 (((l).length : Nat) : Int)), .eq (.bool false), .eq (.bool false)] (by rw [sd.1]; kernel_rfl) ⟨fun hw ac u K => ?_, fun hw ac u K => ?_, fun hw ac u K => ?_, fun hw ac u K => ?_, fun hw ac u K => ?_, fun hw ac u K => ?_, fun hw ac u K => ?_, fun hw ac u K => ?_, trivial⟩ ?_
  · exact st_move (.tmp 1) rfl (K.t x1 rfl)
  · exact st_lss 3 (.tmp 6) (.const (.int .i64 0)) rfl .i64 ((m : Int)) (0) (K.dep 0 6 rfl) rfl _ (by rw [eq_comm, decide_eq_false_iff_not]; omega)
  · exact st_move (.tmp 7) rfl (K.dep 1 7 rfl)
  · exact st_move (.tmp 1) rfl (K.t x1 rfl)
  · exact st_move (.tmp 0) rfl (K.t x0 rfl)
  · exact st_lenc (.tmp 10) rfl ((l).length) rfl (fk_val (K.dep 4 10 rfl) (Fk.mono _ _ _ _ hv (bgo bl K.grow)))
  · exact st_gtr 3 (.tmp 9) (.tmp 11) rfl .i64 ((m : Int)) ((((l).length : Nat) : Int)) (K.dep 3 9 rfl) (K.dep 5 11 rfl) _ (by rw [eq_comm, decide_eq_false_iff_not]; omega)
  · exact st_pick_f' (.tmp 8) (.const (.bool true)) (.tmp 12) rfl (K.dep 2 8 rfl) (K.dep 6 12 rfl)
  intro f4 w4 A hb
  replace x0 := A.t x0 rfl
  replace x1 := A.t x1 rfl
  have x13 := A.e 7 13 rfl rfl
  replace bl := bgo bl hb
  replace sd := A.sd sd
  clear A hb
  show Code.wp _ _ _ _ _
  refine wp_cond_false x13 ?_
  refine wp_skip ?_
  show Code.wp _ _ _ _ _
  refine wp_seq ?_
  refine wp_seq ?_
  refine wr_a [.eq (.int .i64 (m : Int)), .eq (.bool false)] (by rw [sd.1]; kernel_rfl) ⟨fun hw ac u K => ?_, fun hw ac u K => ?_, trivial⟩ ?_
  · exact st_move (.tmp 1) rfl (K.t x1 rfl)
  · exact st_eqi 3 (.tmp 14) (.const (.int .i64 0)) rfl .i64 ((m : Int)) (0) (K.dep 0 14 rfl) rfl _ (by rw [eq_comm, decide_eq_false_iff_not]; omega)
  intro f5 w5 A hb
  replace x0 := A.t x0 rfl
  replace x1 := A.t x1 rfl
  replace x13 := A.t x13 rfl
  have x15 := A.e 1 15 rfl rfl
  replace bl := bgo bl hb
  replace sd := A.sd sd
  clear A hb
  clear x13
  show Code.wp _ _ _ _ _
  refine wp_cond_false x15 ?_
  refine wp_skip ?_
  show Code.wp _ _ _ _ _
  refine wp_seq ?_
  refine wr_a [.eq (v), .eq (.int .i64 (m : Int)), .ow w.heap.size (msub l m true), .ow w.heap.size (msub l m true), .eq (.int .i64 0)] (by rw [sd.1]; kernel_rfl) ⟨fun hw ac u K => ?_, fun hw ac u K => ?_, fun hw ac u K => ?_, fun hw ac u K => ?_, fun hw ac u K => ?_, trivial⟩ ?_
  · exact st_move (.tmp 0) rfl (K.t x0 rfl)
  · exact st_move (.tmp 1) rfl (K.t x1 rfl)
  · exact st_call 40 (.func 40) _ _ _ rfl rfl (arg3 (K.dep 0 16 rfl) (K.dep 1 17 rfl) rfl) Tryd.enter40 (fk_ow (bgo bl K.grow).size (going_any l m true hm1 hm _ _ h1000 (Fk.mono _ _ _ _ hv (bgo bl K.grow)) (hK.below (bgo bl K.grow))))
  · exact st_assign (.tmp 18) rfl (K.dep 2 18 rfl)
  · exact st_assign (.const (.int .i64 0)) rfl rfl
  intro f6 w6 A hb
  replace x0 := A.t x0 rfl
  replace x1 := A.t x1 rfl
  replace x15 := A.t x15 rfl
  have x4 : Fk.f (.ow w.heap.size (msub l m true)) (f6.eval (.tmp 4)) w6 := A.has 3 4 rfl
  have x5 := A.e 4 5 rfl rfl
  replace bl := bgo bl hb
  replace sd := A.sd sd
  clear A hb
  clear x0
  clear x1
  clear x15
  show Code.wp _ _ _ _ _
  refine wp_ret ?_
  repeat (first | with_reducible refine then_ret ?_ | with_reducible refine block_ret ?_)
  exact bodyPost_ret (v := .tuple #[f6.eval (.tmp 4), .int .i64 0]) (ret_two rfl f6 _ _ rfl x5 _ _) sd.2 ⟨_, rfl, ⟨_, rfl, x4⟩, bl⟩
end Go.Proofs.YtfmeeimhfdnjpaaDoor
