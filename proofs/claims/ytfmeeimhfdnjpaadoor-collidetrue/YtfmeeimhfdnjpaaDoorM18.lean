/- On. -/
import Derived.Test.YtfmeeimhfdnjpaaDoorM17
import Derived.Test.YtfmeeimhfdnjpaaDoorM11
namespace Go.Proofs.YtfmeeimhfdnjpaaDoor
set_option maxRecDepth 100000
open Go.RowKit
theorem prOn_posx {m n : Nat} (h : 1 ≤ m) (old rt : List (BitVec 8)) (P : List (List (BitVec 8))) : prOn m n old rt P ↔ bres old P (stp m n true).1 (stp m n true).2 = some (old, rt) := by unfold prOn; rw [if_neg (by omega)]
theorem fk_on_allx {old rt : List (BitVec 8)} (hold : old.length = 32) (hrt : rt.length = 32) {m n : Nat} (hmn : m ≤ n) (hn : n ≤ 1152921504606846976) {P : List (List (BitVec 8))} {v : Value} {w : World} (hv : (Fk.hc P).f v w) (hP : P.length ≤ 100000) (hK : Tab w) (h0 : m = 0 → old = shaOf [] ∧ (n = 0 → rt = old)) (r : Int) (hr : r = if prOn m n old rt P then 0 else 22) :
    Calls Tryd.prog 21 #[.int .i64 ((m : Nat) : Int), .int .i64 ((n : Nat) : Int), .agg ((old).map V).toArray, .agg ((rt).map V).toArray, v] w fun e w' => ∃ u, e = .returned u ∧ (Fk.eq (.int .i64 r)).f u w' ∧ Below w.heap.size w w' := by
  by_cases hm : m = 0
  · subst hm
    obtain ⟨e1, e2⟩ := h0 rfl
    refine fk_on_zero hold hrt hn hv hP hK r ?_
    rw [hr]
    by_cases hp : P.length = 0
    · rw [if_pos (by unfold prOn; rw [if_pos rfl]; exact hp), if_pos ⟨e1, hp, by rcases Nat.eq_zero_or_pos n with h | h; exact .inr (e2 h); exact .inl h⟩]
    · rw [if_neg (by unfold prOn; rw [if_pos rfl]; exact hp), if_neg (fun h => hp h.2.1)]
  · refine fk_on_any hold hrt (by omega) hmn hn hv hP hK r ?_
    rw [hr]
    by_cases hb : bres old P (stp m n true).1 (stp m n true).2 = some (old, rt)
    · rw [if_pos hb, if_pos ((prOn_posx (by omega) old rt P).2 hb)]
    · rw [if_neg hb, if_neg (fun h => hb ((prOn_posx (by omega) old rt P).1 h))]
set_option maxHeartbeats 1000000 in
theorem fk_con_bad {po pn : List Pt} (hso : smallP po) (hsn : smallP pn) {P : List (List (BitVec 8))} (hP : P.length ≤ 50) {w : World} {uo un up : Value} (ho : (Fk.mc po).f uo w) (hn : (Fk.mc pn).f un w) (hp : (Fk.hc P).f up w) (hK : Tab w) (h : po.length ≤ pn.length) (h2 : ¬ prOn po.length pn.length (mroot (lhs po)) (mroot (lhs pn)) P) :
    Calls Tryd.prog 20 #[.agg ([uo, un, up] : List Value).toArray] w fun e w' => ∃ u, e = .returned u ∧ (Fk.c3 false 22).f u w' ∧ Below w.heap.size w w' := by
  obtain ⟨oA, oC, rfl, _, ho2⟩ := mc_val ho
  obtain ⟨nA, nC, rfl, _, hn2⟩ := mc_val hn
  have hom := ho.1
  have hnm := hn.1
  have h40 := hso.2
  have h41 := hsn.2
  obtain ⟨ov, eov⟩ : ∃ x, Box (mroot (lhs po) = x) := ⟨_, ⟨rfl⟩⟩
  obtain ⟨nv, env⟩ : ∃ x, Box (mroot (lhs pn) = x) := ⟨_, ⟨rfl⟩⟩
  have hov : ov.length = 32 := by rw [← eov.out]; exact mroot_len (lhs_32 po)
  have hnv : nv.length = 32 := by rw [← env.out]; exact mroot_len (lhs_32 pn)
  have h0 : po.length = 0 → ov = shaOf [] ∧ (pn.length = 0 → nv = ov) := fun h1 => by
    have e1 := List.eq_nil_of_length_eq_zero h1
    have e2 : lhs po = [] := by rw [e1]; rfl
    refine ⟨by rw [← eov.out, e2, mroot_nil], fun h2 => ?_⟩
    have e3 : lhs pn = [] := by rw [List.eq_nil_of_length_eq_zero h2]; rfl
    rw [← eov.out, ← env.out, e2, e3]
  have hr : ¬ (prOn po.length pn.length ov nv P) := by rw [← eov.out, ← env.out]; exact h2
  go_enter Tryd.func20, Tryd.ntmps20
  refine code_both (fun f w1 => f.tmps.size = 56 ∧ f.defers = [] ∧ f.eval (.tmp 0) = .agg ([.slice oA po.length oC, .slice nA pn.length nC, up] : List Value).toArray ∧ Below w.heap.size w (w1)) ⟨rfl, rfl, rfl, Below.refl _ _⟩ ?_
  rintro f0 w0 ⟨sz, df, x0, bl⟩
  have bl0 := bl
  refine wp_seq ?_
  refine wp_region_seq [] (by kernel_rfl) (by kernel_rfl) (by rw [sz]; kernel_rfl) (by kernel_rfl) trivial ?_
  intro f1 w1 A hb
  replace bl0 := bl
  replace x0 := (A.old 0 rfl).trans x0
  replace bl := (bl.trans (Below.mono hb bl.size))
  replace sz := A.size.trans sz
  replace df := A.defs.trans df
  clear A hb
  refine wl_one (.nw w1.heap.size 47 ([.slice oA po.length oC, .slice nA pn.length nC, up] : List Value)) rfl 1 rfl (by rw [sz]; decide) (st_box 47 (.tmp 0) rfl _ _ (by rw [show _ = _ from x0]; kernel_rfl) (Nat.le_refl _)) ?_
  intro f2 w2 df2 sz2 old2 new2 hb
  replace bl0 := bl
  replace x0 := (old2 0 rfl).trans x0
  have x1 : Fk.f (.nw w1.heap.size 47 ([.slice oA po.length oC, .slice nA pn.length nC, up] : List Value)) (f2.eval (.tmp 1)) w2 := new2
  replace bl := (bl.trans (Below.mono hb bl.size))
  replace sz := sz2.trans sz
  replace df := df2.trans df
  clear df2 sz2 old2 new2 hb
  obtain ⟨g1, hg1, e1, m1⟩ := x1
  have x1 := e1
  clear e1
  have hw1 : w.heap.size ≤ g1 := Nat.le_trans bl0.size hg1
  clear x0
  refine wl_one (.nw w2.heap.size 25 [.slice none 0 0, .slice none 0 0]) rfl 2 rfl (by rw [sz]; decide) (st_alloc 25 rfl _ _ (by kernel_rfl) (Nat.le_refl _)) ?_
  intro f3 w3 df2 sz2 old2 new2 hb
  replace bl0 := bl
  replace x1 := (old2 1 rfl).trans x1
  have x2 : Fk.f (.nw w2.heap.size 25 [.slice none 0 0, .slice none 0 0]) (f3.eval (.tmp 2)) w3 := new2
  have lt_m1 := Ob.lt m1
  replace m1 := Ob.below m1 hb
  replace bl := (bl.trans (Below.mono hb bl.size))
  replace sz := sz2.trans sz
  replace df := df2.trans df
  clear df2 sz2 old2 new2 hb
  obtain ⟨g2, hg2, e2, m2⟩ := x2
  have x2 := e2
  clear e2
  have nm1_2 : g1 ≠ g2 := Nat.ne_of_lt (Nat.lt_of_lt_of_le lt_m1 hg2)
  have hw2 : w.heap.size ≤ g2 := Nat.le_trans bl0.size hg2
  refine wl_one (.eq (.bool false)) rfl 3 rfl (by rw [sz]; decide) (st_assign (.const (.bool false)) rfl rfl) ?_
  intro f4 w4 df2 sz2 old2 new2 hb
  replace bl0 := bl
  replace x1 := (old2 1 rfl).trans x1
  replace x2 := (old2 2 rfl).trans x2
  have x3 : f4.eval (.tmp 3) = .bool false := new2
  have lt_m1 := Ob.lt m1
  replace m1 := Ob.below m1 hb
  have lt_m2 := Ob.lt m2
  replace m2 := Ob.below m2 hb
  replace bl := (bl.trans (Below.mono hb bl.size))
  replace sz := sz2.trans sz
  replace df := df2.trans df
  clear df2 sz2 old2 new2 hb
  refine wl_one (.eq (.int .i64 0)) rfl 4 rfl (by rw [sz]; decide) (st_assign (.const (.int .i64 0)) rfl rfl) ?_
  intro f5 w5 df2 sz2 old2 new2 hb
  replace bl0 := bl
  replace x1 := (old2 1 rfl).trans x1
  replace x2 := (old2 2 rfl).trans x2
  replace x3 := (old2 3 rfl).trans x3
  have x4 : f5.eval (.tmp 4) = .int .i64 0 := new2
  have lt_m1 := Ob.lt m1
  replace m1 := Ob.below m1 hb
  have lt_m2 := Ob.lt m2
  replace m2 := Ob.below m2 hb
  replace bl := (bl.trans (Below.mono hb bl.size))
  replace sz := sz2.trans sz
  replace df := df2.trans df
  clear df2 sz2 old2 new2 hb
  refine wpList_nil ?_
  show Code.wp _ _ _ _ _
  refine wp_seq ?_
  refine wp_region_held_drew (S := fun W => W = w5.drew) Tryd.mixed rfl (fun hS => ?_)
  have hb : Below w5.heap.size w5 w5.drew := (Below.refl _ _).drew
  replace bl0 := bl
  have lt_m1 := Ob.lt m1
  replace m1 := Ob.below m1 hb
  have lt_m2 := Ob.lt m2
  replace m2 := Ob.below m2 hb
  replace bl := (bl.trans (Below.mono hb bl.size))
  clear hb hS
  generalize w5.drew = w6 at m1 m2 bl ⊢
  have hS : w6 = w6 := rfl
  refine wh_take 0 10 (v := .pointer (some ⟨g1, 0, none⟩)) rfl rfl (by rw [sz]; decide) rfl (by kernel_rfl) (by kernel_rfl) (by kernel_rfl) (fun _ _ _ h => h) (run_field rfl x1 (fun w => by kernel_rfl)) hS ?_
  intro f7 df2 sz2 old2 new2
  replace x1 := (old2 1 rfl).trans x1
  replace x2 := (old2 2 rfl).trans x2
  replace x3 := (old2 3 rfl).trans x3
  replace x4 := (old2 4 rfl).trans x4
  have x10 : f7.eval (.tmp 10) = .pointer (some ⟨g1, 0, none⟩) := new2
  replace sz := sz2.trans sz
  replace df := df2.trans df
  clear df2 sz2 old2 new2
  refine wh_take 1 11 (v := .slice oA po.length oC) rfl rfl (by rw [sz]; decide) rfl (by kernel_rfl) (by kernel_rfl) (by kernel_rfl) (fun _ _ _ h => h) (run_loadc rfl (fun w => by kernel_rfl) x10 (fun W hW => by rw [hW]; exact Ob.cell m1 0 rfl)) hS ?_
  intro f8 df2 sz2 old2 new2
  replace x1 := (old2 1 rfl).trans x1
  replace x2 := (old2 2 rfl).trans x2
  replace x3 := (old2 3 rfl).trans x3
  replace x4 := (old2 4 rfl).trans x4
  replace x10 := (old2 10 rfl).trans x10
  have x11 : f8.eval (.tmp 11) = .slice oA po.length oC := new2
  replace sz := sz2.trans sz
  replace df := df2.trans df
  clear df2 sz2 old2 new2
  refine wh_take 2 12 (v := .int .i64 ((po.length : Nat) : Int)) rfl rfl (by rw [sz]; decide) rfl (by kernel_rfl) (by kernel_rfl) (by kernel_rfl) (fun _ _ _ h => h) (run_lenT Tryd.under28 Tryd.elem28 rfl x11) hS ?_
  intro f9 df2 sz2 old2 new2
  replace x1 := (old2 1 rfl).trans x1
  replace x2 := (old2 2 rfl).trans x2
  replace x3 := (old2 3 rfl).trans x3
  replace x4 := (old2 4 rfl).trans x4
  replace x10 := (old2 10 rfl).trans x10
  replace x11 := (old2 11 rfl).trans x11
  have x12 : f9.eval (.tmp 12) = .int .i64 ((po.length : Nat) : Int) := new2
  replace sz := sz2.trans sz
  replace df := df2.trans df
  clear df2 sz2 old2 new2
  refine wh_take 3 13 (v := .pointer (some ⟨g1, 1, none⟩)) rfl rfl (by rw [sz]; decide) rfl (by kernel_rfl) (by kernel_rfl) (by kernel_rfl) (fun _ _ _ h => h) (run_field rfl x1 (fun w => by kernel_rfl)) hS ?_
  intro f10 df2 sz2 old2 new2
  replace x1 := (old2 1 rfl).trans x1
  replace x2 := (old2 2 rfl).trans x2
  replace x3 := (old2 3 rfl).trans x3
  replace x4 := (old2 4 rfl).trans x4
  replace x10 := (old2 10 rfl).trans x10
  replace x11 := (old2 11 rfl).trans x11
  replace x12 := (old2 12 rfl).trans x12
  have x13 : f10.eval (.tmp 13) = .pointer (some ⟨g1, 1, none⟩) := new2
  replace sz := sz2.trans sz
  replace df := df2.trans df
  clear df2 sz2 old2 new2
  refine wh_take 4 14 (v := .slice nA pn.length nC) rfl rfl (by rw [sz]; decide) rfl (by kernel_rfl) (by kernel_rfl) (by kernel_rfl) (fun _ _ _ h => h) (run_loadc rfl (fun w => by kernel_rfl) x13 (fun W hW => by rw [hW]; exact Ob.cell m1 1 rfl)) hS ?_
  intro f11 df2 sz2 old2 new2
  replace x1 := (old2 1 rfl).trans x1
  replace x2 := (old2 2 rfl).trans x2
  replace x3 := (old2 3 rfl).trans x3
  replace x4 := (old2 4 rfl).trans x4
  replace x10 := (old2 10 rfl).trans x10
  replace x11 := (old2 11 rfl).trans x11
  replace x12 := (old2 12 rfl).trans x12
  replace x13 := (old2 13 rfl).trans x13
  have x14 : f11.eval (.tmp 14) = .slice nA pn.length nC := new2
  replace sz := sz2.trans sz
  replace df := df2.trans df
  clear df2 sz2 old2 new2
  refine wh_take 5 15 (v := .int .i64 ((pn.length : Nat) : Int)) rfl rfl (by rw [sz]; decide) rfl (by kernel_rfl) (by kernel_rfl) (by kernel_rfl) (fun _ _ _ h => h) (run_lenT Tryd.under28 Tryd.elem28 rfl x14) hS ?_
  intro f12 df2 sz2 old2 new2
  replace x1 := (old2 1 rfl).trans x1
  replace x2 := (old2 2 rfl).trans x2
  replace x3 := (old2 3 rfl).trans x3
  replace x4 := (old2 4 rfl).trans x4
  replace x10 := (old2 10 rfl).trans x10
  replace x11 := (old2 11 rfl).trans x11
  replace x12 := (old2 12 rfl).trans x12
  replace x13 := (old2 13 rfl).trans x13
  replace x14 := (old2 14 rfl).trans x14
  have x15 : f12.eval (.tmp 15) = .int .i64 ((pn.length : Nat) : Int) := new2
  replace sz := sz2.trans sz
  replace df := df2.trans df
  clear df2 sz2 old2 new2
  refine wh_assign 6 5 rfl rfl (by rw [sz]; decide) rfl (by kernel_rfl) (.tmp 12) rfl hS ?_
  intro f13 df2 sz2 old2 new2
  have x5 : f13.eval (.tmp 5) = .int .i64 ((po.length : Nat) : Int) := new2.trans x12
  replace x1 := (old2 1 rfl).trans x1
  replace x2 := (old2 2 rfl).trans x2
  replace x3 := (old2 3 rfl).trans x3
  replace x4 := (old2 4 rfl).trans x4
  replace x10 := (old2 10 rfl).trans x10
  replace x11 := (old2 11 rfl).trans x11
  replace x12 := (old2 12 rfl).trans x12
  replace x13 := (old2 13 rfl).trans x13
  replace x14 := (old2 14 rfl).trans x14
  replace x15 := (old2 15 rfl).trans x15
  replace sz := sz2.trans sz
  replace df := df2.trans df
  clear df2 sz2 old2 new2
  refine wh_assign 7 6 rfl rfl (by rw [sz]; decide) rfl (by kernel_rfl) (.tmp 15) rfl hS ?_
  intro f14 df2 sz2 old2 new2
  have x6 : f14.eval (.tmp 6) = .int .i64 ((pn.length : Nat) : Int) := new2.trans x15
  replace x1 := (old2 1 rfl).trans x1
  replace x2 := (old2 2 rfl).trans x2
  replace x3 := (old2 3 rfl).trans x3
  replace x4 := (old2 4 rfl).trans x4
  replace x10 := (old2 10 rfl).trans x10
  replace x11 := (old2 11 rfl).trans x11
  replace x12 := (old2 12 rfl).trans x12
  replace x13 := (old2 13 rfl).trans x13
  replace x14 := (old2 14 rfl).trans x14
  replace x15 := (old2 15 rfl).trans x15
  replace x5 := (old2 5 rfl).trans x5
  replace sz := sz2.trans sz
  replace df := df2.trans df
  clear df2 sz2 old2 new2
  refine wpAnyH_done (by kernel_rfl) ?_ _
  clear hS
  clear x10
  clear x11
  clear x12
  clear x13
  clear x14
  clear x15
  show Code.wp _ _ _ _ _
  refine wp_seq ?_
  refine wp_seq ?_
  refine wp_all_seq [.eq (.int .i64 ((po.length : Nat) : Int)), .eq (.int .i64 ((pn.length : Nat) : Int)), .eq (.bool false)] (by kernel_rfl) (by kernel_rfl) (by rw [sz]; kernel_rfl) (by kernel_rfl) ⟨fun hw ac u K => ?_, fun hw ac u K => ?_, fun hw ac u K => ?_, trivial⟩ ?_
  · exact st_move (.tmp 5) rfl ((K.old 5 rfl).trans x5)
  · exact st_move (.tmp 6) rfl ((K.old 6 rfl).trans x6)
  · exact st_gtr 3 (.tmp 16) (.tmp 17) rfl .i64 (((po.length : Nat) : Int)) (((pn.length : Nat) : Int)) (K.dep 0 16 rfl) (K.dep 1 17 rfl) _ (by symm; rw [decide_eq_false_iff_not]; exact (by omega))
  intro f15 w15 A hb
  replace bl0 := bl
  replace x1 := (A.old 1 rfl).trans x1
  replace x2 := (A.old 2 rfl).trans x2
  replace x3 := (A.old 3 rfl).trans x3
  replace x4 := (A.old 4 rfl).trans x4
  replace x5 := (A.old 5 rfl).trans x5
  replace x6 := (A.old 6 rfl).trans x6
  have x18 : f15.eval (.tmp 18) = .bool false := A.has 2 18 rfl
  have lt_m1 := Ob.lt m1
  replace m1 := Ob.below m1 hb
  have lt_m2 := Ob.lt m2
  replace m2 := Ob.below m2 hb
  replace bl := (bl.trans (Below.mono hb bl.size))
  replace sz := A.size.trans sz
  replace df := A.defs.trans df
  clear A hb
  show Code.wp _ _ _ _ _
  refine wp_cond_false x18 ?_
  refine wp_skip ?_
  show Code.wp _ _ _ _ _
  refine wp_seq ?_
  refine wp_region_seq [.eq (.pointer (some ⟨g1, 0, none⟩)), .eq (.slice oA po.length oC), .eq (.agg ((ov).map V).toArray), .nw w15.heap.size 33 ((hz).map V)] (by kernel_rfl) (by kernel_rfl) (by rw [sz]; kernel_rfl) (by kernel_rfl) ⟨fun hw ac u K => ?_, fun hw ac u K => ?_, fun hw ac u K => ?_, fun hw ac u K => ?_, trivial⟩ ?_
  · exact st_field 47 0 (.tmp 1) rfl ((K.old 1 rfl).trans x1) (by kernel_rfl)
  · exact st_loadc 28 (.tmp 20) rfl (by kernel_rfl) (K.dep 0 20 rfl) (Ob.cell (Ob.below m1 K.grow) 0 rfl)
  · exact st_call 31 (.func 31) _ _ #[.slice oA po.length oC] rfl rfl (one_arg (K.dep 1 21 rfl)) Tryd.enter31 (fk_lroot (by omega) (smallP_mx hso) (Fk.mono _ _ _ _ hom (bl.trans (Below.mono K.grow bl.size))) (hK.below (bl.trans (Below.mono K.grow bl.size))) eov)
  · exact st_alloc33 rfl _ K.grow.size
  intro f16 w16 A hb
  replace bl0 := bl
  replace x1 := (A.old 1 rfl).trans x1
  replace x2 := (A.old 2 rfl).trans x2
  replace x3 := (A.old 3 rfl).trans x3
  replace x4 := (A.old 4 rfl).trans x4
  replace x5 := (A.old 5 rfl).trans x5
  replace x6 := (A.old 6 rfl).trans x6
  replace x18 := (A.old 18 rfl).trans x18
  have x7 : Fk.f (.nw w15.heap.size 33 ((hz).map V)) (f16.eval (.tmp 7)) w16 := A.has 3 7 rfl
  have x22 : f16.eval (.tmp 22) = .agg ((ov).map V).toArray := A.has 2 22 rfl
  have lt_m1 := Ob.lt m1
  replace m1 := Ob.below m1 hb
  have lt_m2 := Ob.lt m2
  replace m2 := Ob.below m2 hb
  replace bl := (bl.trans (Below.mono hb bl.size))
  replace sz := A.size.trans sz
  replace df := A.defs.trans df
  clear A hb
  obtain ⟨g7, hg7, e7, m7⟩ := x7
  have x7 := e7
  clear e7
  have nm1_7 : g1 ≠ g7 := Nat.ne_of_lt (Nat.lt_of_lt_of_le lt_m1 hg7)
  have nm2_7 : g2 ≠ g7 := Nat.ne_of_lt (Nat.lt_of_lt_of_le lt_m2 hg7)
  have hw7 : w.heap.size ≤ g7 := Nat.le_trans bl0.size hg7
  refine wl_store rfl (.tmp 7) (.tmp 22) rfl rfl (g7) (ov) (hz) x7 x22 m7 hz_len hov ?_
  replace m1 : Ob (w16.setRow g7 ((ov).map V : List Value).toArray) (g1) 47 ([.slice oA po.length oC, .slice nA pn.length nC, up]) := Ob.setRow_other m1 _ nm1_7
  replace m2 : Ob (w16.setRow g7 ((ov).map V : List Value).toArray) (g2) 25 ([.slice none 0 0, .slice none 0 0]) := Ob.setRow_other m2 _ nm2_7
  replace m7 : Ob (w16.setRow g7 ((ov).map V : List Value).toArray) (g7) 33 ((ov).map V) := Ob.setRow m7 ((ov).map V)
  replace bl : Below w.heap.size w (w16.setRow g7 ((ov).map V : List Value).toArray) := bl.trans (below_setRow _ _ _ _ hw7)
  generalize w16.setRow g7 ((ov).map V : List Value).toArray = w17b at bl m1 m2 m7 ⊢
  refine wpList_nil ?_
  clear x22
  show Code.wp _ _ _ _ _
  refine wp_seq ?_
  refine wp_seq ?_
  refine wp_all [.eq (.int .i64 ((po.length : Nat) : Int)), .eq (.int .i64 ((pn.length : Nat) : Int)), .eq (.agg ((ov).map V).toArray), .eq (.pointer (some ⟨g1, 1, none⟩)), .eq (.slice nA pn.length nC), .eq (.agg ((nv).map V).toArray), .eq (.pointer (some ⟨g1, 2, none⟩)), .eq (up), .eq (.int .i64 22), .eq (.bool true)] Tryd.mixed (by kernel_rfl) (by kernel_rfl) (by rw [sz]; kernel_rfl) (by kernel_rfl) ⟨fun hw ac u K => ?_, fun hw ac u K => ?_, fun hw ac u K => ?_, fun hw ac u K => ?_, fun hw ac u K => ?_, fun hw ac u K => ?_, fun hw ac u K => ?_, fun hw ac u K => ?_, fun hw ac u K => ?_, fun hw ac u K => ?_, trivial⟩ ?_
  · exact st_move (.tmp 5) rfl ((K.old 5 rfl).trans x5)
  · exact st_move (.tmp 6) rfl ((K.old 6 rfl).trans x6)
  · exact st_load33 (.tmp 7) rfl (g7) (ov) ((K.old 7 rfl).trans x7) hov (Ob.below m7 K.grow)
  · exact st_field 47 1 (.tmp 1) rfl ((K.old 1 rfl).trans x1) (by kernel_rfl)
  · exact st_loadc 28 (.tmp 26) rfl (by kernel_rfl) (K.dep 3 26 rfl) (Ob.cell (Ob.below m1 K.grow) 1 rfl)
  · exact st_call 31 (.func 31) _ _ #[.slice nA pn.length nC] rfl rfl (one_arg (K.dep 4 27 rfl)) Tryd.enter31 (fk_lroot (by omega) (smallP_mx hsn) (Fk.mono _ _ _ _ hnm (bl.trans (Below.mono K.grow bl.size))) (hK.below (bl.trans (Below.mono K.grow bl.size))) env)
  · exact st_field 47 2 (.tmp 1) rfl ((K.old 1 rfl).trans x1) (by kernel_rfl)
  · exact st_loadc 35 (.tmp 29) rfl (by kernel_rfl) (K.dep 6 29 rfl) (Ob.cell (Ob.below m1 K.grow) 2 rfl)
  · exact st_call 21 (.func 21) _ _ #[.int .i64 ((po.length : Nat) : Int), .int .i64 ((pn.length : Nat) : Int), .agg ((ov).map V).toArray, .agg ((nv).map V).toArray, up] rfl rfl (arg5 (K.dep 0 23 rfl) (K.dep 1 24 rfl) (K.dep 2 25 rfl) (K.dep 5 28 rfl) (K.dep 7 30 rfl)) Tryd.enter21 (fk_on_allx hov hnv h (by omega) (Fk.mono _ _ _ _ hp (bl.trans (Below.mono K.grow bl.size))) (by omega) (hK.below (bl.trans (Below.mono K.grow bl.size))) h0 _ (by rw [if_neg hr]))
  · exact st_neqi 40 (.tmp 31) (.const (.int .i64 0)) rfl .i64 (22) (0) (K.dep 8 31 rfl) rfl _ (by rfl)
  intro f18 w18 A hb
  replace bl0 := bl
  replace x1 := (A.old 1 rfl).trans x1
  replace x2 := (A.old 2 rfl).trans x2
  replace x3 := (A.old 3 rfl).trans x3
  replace x4 := (A.old 4 rfl).trans x4
  replace x5 := (A.old 5 rfl).trans x5
  replace x6 := (A.old 6 rfl).trans x6
  replace x18 := (A.old 18 rfl).trans x18
  replace x7 := (A.old 7 rfl).trans x7
  have x32 : f18.eval (.tmp 32) = .bool true := A.has 9 32 rfl
  have lt_m1 := Ob.lt m1
  replace m1 := Ob.below m1 hb
  have lt_m2 := Ob.lt m2
  replace m2 := Ob.below m2 hb
  have lt_m7 := Ob.lt m7
  replace m7 := Ob.below m7 hb
  replace bl := (bl.trans (Below.mono hb bl.size))
  replace sz := A.size.trans sz
  replace df := A.defs.trans df
  clear A hb
  show Code.wp _ _ _ _ _
  refine wp_cond_true x32 ?_
  refine wp_seq ?_
  refine wp_region_seq [.eq (.agg ([.slice none 0 0, .slice none 0 0] : List Value).toArray)] (by kernel_rfl) (by kernel_rfl) (by rw [sz]; kernel_rfl) (by kernel_rfl) ⟨fun hw ac u K => ?_, trivial⟩ ?_
  · exact st_build 25 _ rfl (by kernel_rfl)
  intro f19 w19 A hb
  replace bl0 := bl
  replace x1 := (A.old 1 rfl).trans x1
  replace x2 := (A.old 2 rfl).trans x2
  replace x3 := (A.old 3 rfl).trans x3
  replace x4 := (A.old 4 rfl).trans x4
  replace x5 := (A.old 5 rfl).trans x5
  replace x6 := (A.old 6 rfl).trans x6
  replace x18 := (A.old 18 rfl).trans x18
  replace x7 := (A.old 7 rfl).trans x7
  replace x32 := (A.old 32 rfl).trans x32
  have x33 : f19.eval (.tmp 33) = .agg ([.slice none 0 0, .slice none 0 0] : List Value).toArray := A.has 0 33 rfl
  have lt_m1 := Ob.lt m1
  replace m1 := Ob.below m1 hb
  have lt_m2 := Ob.lt m2
  replace m2 := Ob.below m2 hb
  have lt_m7 := Ob.lt m7
  replace m7 := Ob.below m7 hb
  replace bl := (bl.trans (Below.mono hb bl.size))
  replace sz := A.size.trans sz
  replace df := A.defs.trans df
  clear A hb
  refine wl_str rfl 25 (.tmp 2) (.tmp 33) rfl rfl (g2) ([.slice none 0 0, .slice none 0 0] : List Value).toArray x2 x33 25 _ m2 (by kernel_rfl) (by kernel_rfl) (by kernel_rfl) ?_
  replace m1 : Ob (w19.setRow g2 ([.slice none 0 0, .slice none 0 0] : List Value).toArray) (g1) 47 ([.slice oA po.length oC, .slice nA pn.length nC, up]) := Ob.setRow_other m1 _ nm1_2
  replace m2 : Ob (w19.setRow g2 ([.slice none 0 0, .slice none 0 0] : List Value).toArray) (g2) 25 ([.slice none 0 0, .slice none 0 0]) := Ob.setRow m2 ([.slice none 0 0, .slice none 0 0])
  replace m7 : Ob (w19.setRow g2 ([.slice none 0 0, .slice none 0 0] : List Value).toArray) (g7) 33 ((ov).map V) := Ob.setRow_other m7 _ nm2_7.symm
  replace bl : Below w.heap.size w (w19.setRow g2 ([.slice none 0 0, .slice none 0 0] : List Value).toArray) := bl.trans (below_setRow _ _ _ _ hw2)
  generalize w19.setRow g2 ([.slice none 0 0, .slice none 0 0] : List Value).toArray = w20b at bl m1 m2 m7 ⊢
  clear x33
  refine wl_one (.eq (.bool false)) rfl 3 rfl (by rw [sz]; decide) (st_assign (.const (.bool false)) rfl rfl) ?_
  intro f21 w21 df2 sz2 old2 new2 hb
  replace bl0 := bl
  replace x1 := (old2 1 rfl).trans x1
  replace x2 := (old2 2 rfl).trans x2
  clear x3
  replace x4 := (old2 4 rfl).trans x4
  replace x5 := (old2 5 rfl).trans x5
  replace x6 := (old2 6 rfl).trans x6
  replace x18 := (old2 18 rfl).trans x18
  replace x7 := (old2 7 rfl).trans x7
  replace x32 := (old2 32 rfl).trans x32
  have x3 : f21.eval (.tmp 3) = .bool false := new2
  have lt_m1 := Ob.lt m1
  replace m1 := Ob.below m1 hb
  have lt_m2 := Ob.lt m2
  replace m2 := Ob.below m2 hb
  have lt_m7 := Ob.lt m7
  replace m7 := Ob.below m7 hb
  replace bl := (bl.trans (Below.mono hb bl.size))
  replace sz := sz2.trans sz
  replace df := df2.trans df
  clear df2 sz2 old2 new2 hb
  refine wl_one (.eq (.int .i64 22)) rfl 4 rfl (by rw [sz]; decide) (st_assign (.const (.int .i64 22)) rfl rfl) ?_
  intro f22 w22 df2 sz2 old2 new2 hb
  replace bl0 := bl
  replace x1 := (old2 1 rfl).trans x1
  replace x2 := (old2 2 rfl).trans x2
  clear x4
  replace x5 := (old2 5 rfl).trans x5
  replace x6 := (old2 6 rfl).trans x6
  replace x18 := (old2 18 rfl).trans x18
  replace x7 := (old2 7 rfl).trans x7
  replace x32 := (old2 32 rfl).trans x32
  replace x3 := (old2 3 rfl).trans x3
  have x4 : f22.eval (.tmp 4) = .int .i64 22 := new2
  have lt_m1 := Ob.lt m1
  replace m1 := Ob.below m1 hb
  have lt_m2 := Ob.lt m2
  replace m2 := Ob.below m2 hb
  have lt_m7 := Ob.lt m7
  replace m7 := Ob.below m7 hb
  replace bl := (bl.trans (Below.mono hb bl.size))
  replace sz := sz2.trans sz
  replace df := df2.trans df
  clear df2 sz2 old2 new2 hb
  refine wpList_nil ?_
  show Code.wp _ _ _ _ _
  refine wp_ret ?_
  repeat (first | with_reducible refine then_ret ?_ | with_reducible refine block_ret ?_)
  exact bodyPost_ret (v := .tuple #[.agg ([.slice none 0 0, .slice none 0 0] : List Value).toArray, .bool false, .int .i64 22]) (ret_c3 rfl f22 _ g2 _ _ _ _ x2 m2 x3 x4) df ⟨_, rfl, c3_none _ _, bl⟩
set_option maxHeartbeats 1000000 in
theorem con_same {po pn : List Pt} (hso : smallP po) (hsn : smallP pn) {P : List (List (BitVec 8))} (hP : P.length ≤ 50) {w : World} {uo un up : Value} (ho : (Fk.mc po).f uo w) (hn : (Fk.mc pn).f un w) (hp : (Fk.hc P).f up w) (hK : Tab w) (h : po.length ≤ pn.length) (h2 : prOn po.length pn.length (mroot (lhs po)) (mroot (lhs pn)) P) (hall : (bys po).take po.length = (bys pn).take po.length) :
    Calls Tryd.prog 20 #[.agg ([uo, un, up] : List Value).toArray] w fun e w' => ∃ u, e = .returned u ∧ (Fk.c3 false 0).f u w' ∧ Below w.heap.size w w' := by
  obtain ⟨oA, oC, rfl, _, ho2⟩ := mc_val ho
  obtain ⟨nA, nC, rfl, _, hn2⟩ := mc_val hn
  have hom := ho.1
  have hnm := hn.1
  have h40 := hso.2
  have h41 := hsn.2
  obtain ⟨ov, eov⟩ : ∃ x, Box (mroot (lhs po) = x) := ⟨_, ⟨rfl⟩⟩
  obtain ⟨nv, env⟩ : ∃ x, Box (mroot (lhs pn) = x) := ⟨_, ⟨rfl⟩⟩
  have hov : ov.length = 32 := by rw [← eov.out]; exact mroot_len (lhs_32 po)
  have hnv : nv.length = 32 := by rw [← env.out]; exact mroot_len (lhs_32 pn)
  have h0 : po.length = 0 → ov = shaOf [] ∧ (pn.length = 0 → nv = ov) := fun h1 => by
    have e1 := List.eq_nil_of_length_eq_zero h1
    have e2 : lhs po = [] := by rw [e1]; rfl
    refine ⟨by rw [← eov.out, e2, mroot_nil], fun h2 => ?_⟩
    have e3 : lhs pn = [] := by rw [List.eq_nil_of_length_eq_zero h2]; rfl
    rw [← eov.out, ← env.out, e2, e3]
  have hr : prOn po.length pn.length ov nv P := by rw [← eov.out, ← env.out]; exact h2
  go_enter Tryd.func20, Tryd.ntmps20
  refine code_both (fun f w1 => f.tmps.size = 56 ∧ f.defers = [] ∧ f.eval (.tmp 0) = .agg ([.slice oA po.length oC, .slice nA pn.length nC, up] : List Value).toArray ∧ Below w.heap.size w (w1)) ⟨rfl, rfl, rfl, Below.refl _ _⟩ ?_
  rintro f0 w0 ⟨sz, df, x0, bl⟩
  have bl0 := bl
  refine wp_seq ?_
  refine wp_region_seq [] (by kernel_rfl) (by kernel_rfl) (by rw [sz]; kernel_rfl) (by kernel_rfl) trivial ?_
  intro f1 w1 A hb
  replace bl0 := bl
  replace x0 := (A.old 0 rfl).trans x0
  replace bl := (bl.trans (Below.mono hb bl.size))
  replace sz := A.size.trans sz
  replace df := A.defs.trans df
  clear A hb
  refine wl_one (.nw w1.heap.size 47 ([.slice oA po.length oC, .slice nA pn.length nC, up] : List Value)) rfl 1 rfl (by rw [sz]; decide) (st_box 47 (.tmp 0) rfl _ _ (by rw [show _ = _ from x0]; kernel_rfl) (Nat.le_refl _)) ?_
  intro f2 w2 df2 sz2 old2 new2 hb
  replace bl0 := bl
  replace x0 := (old2 0 rfl).trans x0
  have x1 : Fk.f (.nw w1.heap.size 47 ([.slice oA po.length oC, .slice nA pn.length nC, up] : List Value)) (f2.eval (.tmp 1)) w2 := new2
  replace bl := (bl.trans (Below.mono hb bl.size))
  replace sz := sz2.trans sz
  replace df := df2.trans df
  clear df2 sz2 old2 new2 hb
  obtain ⟨g1, hg1, e1, m1⟩ := x1
  have x1 := e1
  clear e1
  have hw1 : w.heap.size ≤ g1 := Nat.le_trans bl0.size hg1
  clear x0
  refine wl_one (.nw w2.heap.size 25 [.slice none 0 0, .slice none 0 0]) rfl 2 rfl (by rw [sz]; decide) (st_alloc 25 rfl _ _ (by kernel_rfl) (Nat.le_refl _)) ?_
  intro f3 w3 df2 sz2 old2 new2 hb
  replace bl0 := bl
  replace x1 := (old2 1 rfl).trans x1
  have x2 : Fk.f (.nw w2.heap.size 25 [.slice none 0 0, .slice none 0 0]) (f3.eval (.tmp 2)) w3 := new2
  have lt_m1 := Ob.lt m1
  replace m1 := Ob.below m1 hb
  replace bl := (bl.trans (Below.mono hb bl.size))
  replace sz := sz2.trans sz
  replace df := df2.trans df
  clear df2 sz2 old2 new2 hb
  obtain ⟨g2, hg2, e2, m2⟩ := x2
  have x2 := e2
  clear e2
  have nm1_2 : g1 ≠ g2 := Nat.ne_of_lt (Nat.lt_of_lt_of_le lt_m1 hg2)
  have hw2 : w.heap.size ≤ g2 := Nat.le_trans bl0.size hg2
  refine wl_one (.eq (.bool false)) rfl 3 rfl (by rw [sz]; decide) (st_assign (.const (.bool false)) rfl rfl) ?_
  intro f4 w4 df2 sz2 old2 new2 hb
  replace bl0 := bl
  replace x1 := (old2 1 rfl).trans x1
  replace x2 := (old2 2 rfl).trans x2
  have x3 : f4.eval (.tmp 3) = .bool false := new2
  have lt_m1 := Ob.lt m1
  replace m1 := Ob.below m1 hb
  have lt_m2 := Ob.lt m2
  replace m2 := Ob.below m2 hb
  replace bl := (bl.trans (Below.mono hb bl.size))
  replace sz := sz2.trans sz
  replace df := df2.trans df
  clear df2 sz2 old2 new2 hb
  refine wl_one (.eq (.int .i64 0)) rfl 4 rfl (by rw [sz]; decide) (st_assign (.const (.int .i64 0)) rfl rfl) ?_
  intro f5 w5 df2 sz2 old2 new2 hb
  replace bl0 := bl
  replace x1 := (old2 1 rfl).trans x1
  replace x2 := (old2 2 rfl).trans x2
  replace x3 := (old2 3 rfl).trans x3
  have x4 : f5.eval (.tmp 4) = .int .i64 0 := new2
  have lt_m1 := Ob.lt m1
  replace m1 := Ob.below m1 hb
  have lt_m2 := Ob.lt m2
  replace m2 := Ob.below m2 hb
  replace bl := (bl.trans (Below.mono hb bl.size))
  replace sz := sz2.trans sz
  replace df := df2.trans df
  clear df2 sz2 old2 new2 hb
  refine wpList_nil ?_
  show Code.wp _ _ _ _ _
  refine wp_seq ?_
  refine wp_region_held_drew (S := fun W => W = w5.drew) Tryd.mixed rfl (fun hS => ?_)
  have hb : Below w5.heap.size w5 w5.drew := (Below.refl _ _).drew
  replace bl0 := bl
  have lt_m1 := Ob.lt m1
  replace m1 := Ob.below m1 hb
  have lt_m2 := Ob.lt m2
  replace m2 := Ob.below m2 hb
  replace bl := (bl.trans (Below.mono hb bl.size))
  clear hb hS
  generalize w5.drew = w6 at m1 m2 bl ⊢
  have hS : w6 = w6 := rfl
  refine wh_take 0 10 (v := .pointer (some ⟨g1, 0, none⟩)) rfl rfl (by rw [sz]; decide) rfl (by kernel_rfl) (by kernel_rfl) (by kernel_rfl) (fun _ _ _ h => h) (run_field rfl x1 (fun w => by kernel_rfl)) hS ?_
  intro f7 df2 sz2 old2 new2
  replace x1 := (old2 1 rfl).trans x1
  replace x2 := (old2 2 rfl).trans x2
  replace x3 := (old2 3 rfl).trans x3
  replace x4 := (old2 4 rfl).trans x4
  have x10 : f7.eval (.tmp 10) = .pointer (some ⟨g1, 0, none⟩) := new2
  replace sz := sz2.trans sz
  replace df := df2.trans df
  clear df2 sz2 old2 new2
  refine wh_take 1 11 (v := .slice oA po.length oC) rfl rfl (by rw [sz]; decide) rfl (by kernel_rfl) (by kernel_rfl) (by kernel_rfl) (fun _ _ _ h => h) (run_loadc rfl (fun w => by kernel_rfl) x10 (fun W hW => by rw [hW]; exact Ob.cell m1 0 rfl)) hS ?_
  intro f8 df2 sz2 old2 new2
  replace x1 := (old2 1 rfl).trans x1
  replace x2 := (old2 2 rfl).trans x2
  replace x3 := (old2 3 rfl).trans x3
  replace x4 := (old2 4 rfl).trans x4
  replace x10 := (old2 10 rfl).trans x10
  have x11 : f8.eval (.tmp 11) = .slice oA po.length oC := new2
  replace sz := sz2.trans sz
  replace df := df2.trans df
  clear df2 sz2 old2 new2
  refine wh_take 2 12 (v := .int .i64 ((po.length : Nat) : Int)) rfl rfl (by rw [sz]; decide) rfl (by kernel_rfl) (by kernel_rfl) (by kernel_rfl) (fun _ _ _ h => h) (run_lenT Tryd.under28 Tryd.elem28 rfl x11) hS ?_
  intro f9 df2 sz2 old2 new2
  replace x1 := (old2 1 rfl).trans x1
  replace x2 := (old2 2 rfl).trans x2
  replace x3 := (old2 3 rfl).trans x3
  replace x4 := (old2 4 rfl).trans x4
  replace x10 := (old2 10 rfl).trans x10
  replace x11 := (old2 11 rfl).trans x11
  have x12 : f9.eval (.tmp 12) = .int .i64 ((po.length : Nat) : Int) := new2
  replace sz := sz2.trans sz
  replace df := df2.trans df
  clear df2 sz2 old2 new2
  refine wh_take 3 13 (v := .pointer (some ⟨g1, 1, none⟩)) rfl rfl (by rw [sz]; decide) rfl (by kernel_rfl) (by kernel_rfl) (by kernel_rfl) (fun _ _ _ h => h) (run_field rfl x1 (fun w => by kernel_rfl)) hS ?_
  intro f10 df2 sz2 old2 new2
  replace x1 := (old2 1 rfl).trans x1
  replace x2 := (old2 2 rfl).trans x2
  replace x3 := (old2 3 rfl).trans x3
  replace x4 := (old2 4 rfl).trans x4
  replace x10 := (old2 10 rfl).trans x10
  replace x11 := (old2 11 rfl).trans x11
  replace x12 := (old2 12 rfl).trans x12
  have x13 : f10.eval (.tmp 13) = .pointer (some ⟨g1, 1, none⟩) := new2
  replace sz := sz2.trans sz
  replace df := df2.trans df
  clear df2 sz2 old2 new2
  refine wh_take 4 14 (v := .slice nA pn.length nC) rfl rfl (by rw [sz]; decide) rfl (by kernel_rfl) (by kernel_rfl) (by kernel_rfl) (fun _ _ _ h => h) (run_loadc rfl (fun w => by kernel_rfl) x13 (fun W hW => by rw [hW]; exact Ob.cell m1 1 rfl)) hS ?_
  intro f11 df2 sz2 old2 new2
  replace x1 := (old2 1 rfl).trans x1
  replace x2 := (old2 2 rfl).trans x2
  replace x3 := (old2 3 rfl).trans x3
  replace x4 := (old2 4 rfl).trans x4
  replace x10 := (old2 10 rfl).trans x10
  replace x11 := (old2 11 rfl).trans x11
  replace x12 := (old2 12 rfl).trans x12
  replace x13 := (old2 13 rfl).trans x13
  have x14 : f11.eval (.tmp 14) = .slice nA pn.length nC := new2
  replace sz := sz2.trans sz
  replace df := df2.trans df
  clear df2 sz2 old2 new2
  refine wh_take 5 15 (v := .int .i64 ((pn.length : Nat) : Int)) rfl rfl (by rw [sz]; decide) rfl (by kernel_rfl) (by kernel_rfl) (by kernel_rfl) (fun _ _ _ h => h) (run_lenT Tryd.under28 Tryd.elem28 rfl x14) hS ?_
  intro f12 df2 sz2 old2 new2
  replace x1 := (old2 1 rfl).trans x1
  replace x2 := (old2 2 rfl).trans x2
  replace x3 := (old2 3 rfl).trans x3
  replace x4 := (old2 4 rfl).trans x4
  replace x10 := (old2 10 rfl).trans x10
  replace x11 := (old2 11 rfl).trans x11
  replace x12 := (old2 12 rfl).trans x12
  replace x13 := (old2 13 rfl).trans x13
  replace x14 := (old2 14 rfl).trans x14
  have x15 : f12.eval (.tmp 15) = .int .i64 ((pn.length : Nat) : Int) := new2
  replace sz := sz2.trans sz
  replace df := df2.trans df
  clear df2 sz2 old2 new2
  refine wh_assign 6 5 rfl rfl (by rw [sz]; decide) rfl (by kernel_rfl) (.tmp 12) rfl hS ?_
  intro f13 df2 sz2 old2 new2
  have x5 : f13.eval (.tmp 5) = .int .i64 ((po.length : Nat) : Int) := new2.trans x12
  replace x1 := (old2 1 rfl).trans x1
  replace x2 := (old2 2 rfl).trans x2
  replace x3 := (old2 3 rfl).trans x3
  replace x4 := (old2 4 rfl).trans x4
  replace x10 := (old2 10 rfl).trans x10
  replace x11 := (old2 11 rfl).trans x11
  replace x12 := (old2 12 rfl).trans x12
  replace x13 := (old2 13 rfl).trans x13
  replace x14 := (old2 14 rfl).trans x14
  replace x15 := (old2 15 rfl).trans x15
  replace sz := sz2.trans sz
  replace df := df2.trans df
  clear df2 sz2 old2 new2
  refine wh_assign 7 6 rfl rfl (by rw [sz]; decide) rfl (by kernel_rfl) (.tmp 15) rfl hS ?_
  intro f14 df2 sz2 old2 new2
  have x6 : f14.eval (.tmp 6) = .int .i64 ((pn.length : Nat) : Int) := new2.trans x15
  replace x1 := (old2 1 rfl).trans x1
  replace x2 := (old2 2 rfl).trans x2
  replace x3 := (old2 3 rfl).trans x3
  replace x4 := (old2 4 rfl).trans x4
  replace x10 := (old2 10 rfl).trans x10
  replace x11 := (old2 11 rfl).trans x11
  replace x12 := (old2 12 rfl).trans x12
  replace x13 := (old2 13 rfl).trans x13
  replace x14 := (old2 14 rfl).trans x14
  replace x15 := (old2 15 rfl).trans x15
  replace x5 := (old2 5 rfl).trans x5
  replace sz := sz2.trans sz
  replace df := df2.trans df
  clear df2 sz2 old2 new2
  refine wpAnyH_done (by kernel_rfl) ?_ _
  clear hS
  clear x10
  clear x11
  clear x12
  clear x13
  clear x14
  clear x15
  show Code.wp _ _ _ _ _
  refine wp_seq ?_
  refine wp_seq ?_
  refine wp_all_seq [.eq (.int .i64 ((po.length : Nat) : Int)), .eq (.int .i64 ((pn.length : Nat) : Int)), .eq (.bool false)] (by kernel_rfl) (by kernel_rfl) (by rw [sz]; kernel_rfl) (by kernel_rfl) ⟨fun hw ac u K => ?_, fun hw ac u K => ?_, fun hw ac u K => ?_, trivial⟩ ?_
  · exact st_move (.tmp 5) rfl ((K.old 5 rfl).trans x5)
  · exact st_move (.tmp 6) rfl ((K.old 6 rfl).trans x6)
  · exact st_gtr 3 (.tmp 16) (.tmp 17) rfl .i64 (((po.length : Nat) : Int)) (((pn.length : Nat) : Int)) (K.dep 0 16 rfl) (K.dep 1 17 rfl) _ (by symm; rw [decide_eq_false_iff_not]; exact (by omega))
  intro f15 w15 A hb
  replace bl0 := bl
  replace x1 := (A.old 1 rfl).trans x1
  replace x2 := (A.old 2 rfl).trans x2
  replace x3 := (A.old 3 rfl).trans x3
  replace x4 := (A.old 4 rfl).trans x4
  replace x5 := (A.old 5 rfl).trans x5
  replace x6 := (A.old 6 rfl).trans x6
  have x18 : f15.eval (.tmp 18) = .bool false := A.has 2 18 rfl
  have lt_m1 := Ob.lt m1
  replace m1 := Ob.below m1 hb
  have lt_m2 := Ob.lt m2
  replace m2 := Ob.below m2 hb
  replace bl := (bl.trans (Below.mono hb bl.size))
  replace sz := A.size.trans sz
  replace df := A.defs.trans df
  clear A hb
  show Code.wp _ _ _ _ _
  refine wp_cond_false x18 ?_
  refine wp_skip ?_
  show Code.wp _ _ _ _ _
  refine wp_seq ?_
  refine wp_region_seq [.eq (.pointer (some ⟨g1, 0, none⟩)), .eq (.slice oA po.length oC), .eq (.agg ((ov).map V).toArray), .nw w15.heap.size 33 ((hz).map V)] (by kernel_rfl) (by kernel_rfl) (by rw [sz]; kernel_rfl) (by kernel_rfl) ⟨fun hw ac u K => ?_, fun hw ac u K => ?_, fun hw ac u K => ?_, fun hw ac u K => ?_, trivial⟩ ?_
  · exact st_field 47 0 (.tmp 1) rfl ((K.old 1 rfl).trans x1) (by kernel_rfl)
  · exact st_loadc 28 (.tmp 20) rfl (by kernel_rfl) (K.dep 0 20 rfl) (Ob.cell (Ob.below m1 K.grow) 0 rfl)
  · exact st_call 31 (.func 31) _ _ #[.slice oA po.length oC] rfl rfl (one_arg (K.dep 1 21 rfl)) Tryd.enter31 (fk_lroot (by omega) (smallP_mx hso) (Fk.mono _ _ _ _ hom (bl.trans (Below.mono K.grow bl.size))) (hK.below (bl.trans (Below.mono K.grow bl.size))) eov)
  · exact st_alloc33 rfl _ K.grow.size
  intro f16 w16 A hb
  replace bl0 := bl
  replace x1 := (A.old 1 rfl).trans x1
  replace x2 := (A.old 2 rfl).trans x2
  replace x3 := (A.old 3 rfl).trans x3
  replace x4 := (A.old 4 rfl).trans x4
  replace x5 := (A.old 5 rfl).trans x5
  replace x6 := (A.old 6 rfl).trans x6
  replace x18 := (A.old 18 rfl).trans x18
  have x7 : Fk.f (.nw w15.heap.size 33 ((hz).map V)) (f16.eval (.tmp 7)) w16 := A.has 3 7 rfl
  have x22 : f16.eval (.tmp 22) = .agg ((ov).map V).toArray := A.has 2 22 rfl
  have lt_m1 := Ob.lt m1
  replace m1 := Ob.below m1 hb
  have lt_m2 := Ob.lt m2
  replace m2 := Ob.below m2 hb
  replace bl := (bl.trans (Below.mono hb bl.size))
  replace sz := A.size.trans sz
  replace df := A.defs.trans df
  clear A hb
  obtain ⟨g7, hg7, e7, m7⟩ := x7
  have x7 := e7
  clear e7
  have nm1_7 : g1 ≠ g7 := Nat.ne_of_lt (Nat.lt_of_lt_of_le lt_m1 hg7)
  have nm2_7 : g2 ≠ g7 := Nat.ne_of_lt (Nat.lt_of_lt_of_le lt_m2 hg7)
  have hw7 : w.heap.size ≤ g7 := Nat.le_trans bl0.size hg7
  refine wl_store rfl (.tmp 7) (.tmp 22) rfl rfl (g7) (ov) (hz) x7 x22 m7 hz_len hov ?_
  replace m1 : Ob (w16.setRow g7 ((ov).map V : List Value).toArray) (g1) 47 ([.slice oA po.length oC, .slice nA pn.length nC, up]) := Ob.setRow_other m1 _ nm1_7
  replace m2 : Ob (w16.setRow g7 ((ov).map V : List Value).toArray) (g2) 25 ([.slice none 0 0, .slice none 0 0]) := Ob.setRow_other m2 _ nm2_7
  replace m7 : Ob (w16.setRow g7 ((ov).map V : List Value).toArray) (g7) 33 ((ov).map V) := Ob.setRow m7 ((ov).map V)
  replace bl : Below w.heap.size w (w16.setRow g7 ((ov).map V : List Value).toArray) := bl.trans (below_setRow _ _ _ _ hw7)
  generalize w16.setRow g7 ((ov).map V : List Value).toArray = w17b at bl m1 m2 m7 ⊢
  refine wpList_nil ?_
  clear x22
  show Code.wp _ _ _ _ _
  refine wp_seq ?_
  refine wp_seq ?_
  refine wp_all [.eq (.int .i64 ((po.length : Nat) : Int)), .eq (.int .i64 ((pn.length : Nat) : Int)), .eq (.agg ((ov).map V).toArray), .eq (.pointer (some ⟨g1, 1, none⟩)), .eq (.slice nA pn.length nC), .eq (.agg ((nv).map V).toArray), .eq (.pointer (some ⟨g1, 2, none⟩)), .eq (up), .eq (.int .i64 0), .eq (.bool false)] Tryd.mixed (by kernel_rfl) (by kernel_rfl) (by rw [sz]; kernel_rfl) (by kernel_rfl) ⟨fun hw ac u K => ?_, fun hw ac u K => ?_, fun hw ac u K => ?_, fun hw ac u K => ?_, fun hw ac u K => ?_, fun hw ac u K => ?_, fun hw ac u K => ?_, fun hw ac u K => ?_, fun hw ac u K => ?_, fun hw ac u K => ?_, trivial⟩ ?_
  · exact st_move (.tmp 5) rfl ((K.old 5 rfl).trans x5)
  · exact st_move (.tmp 6) rfl ((K.old 6 rfl).trans x6)
  · exact st_load33 (.tmp 7) rfl (g7) (ov) ((K.old 7 rfl).trans x7) hov (Ob.below m7 K.grow)
  · exact st_field 47 1 (.tmp 1) rfl ((K.old 1 rfl).trans x1) (by kernel_rfl)
  · exact st_loadc 28 (.tmp 26) rfl (by kernel_rfl) (K.dep 3 26 rfl) (Ob.cell (Ob.below m1 K.grow) 1 rfl)
  · exact st_call 31 (.func 31) _ _ #[.slice nA pn.length nC] rfl rfl (one_arg (K.dep 4 27 rfl)) Tryd.enter31 (fk_lroot (by omega) (smallP_mx hsn) (Fk.mono _ _ _ _ hnm (bl.trans (Below.mono K.grow bl.size))) (hK.below (bl.trans (Below.mono K.grow bl.size))) env)
  · exact st_field 47 2 (.tmp 1) rfl ((K.old 1 rfl).trans x1) (by kernel_rfl)
  · exact st_loadc 35 (.tmp 29) rfl (by kernel_rfl) (K.dep 6 29 rfl) (Ob.cell (Ob.below m1 K.grow) 2 rfl)
  · exact st_call 21 (.func 21) _ _ #[.int .i64 ((po.length : Nat) : Int), .int .i64 ((pn.length : Nat) : Int), .agg ((ov).map V).toArray, .agg ((nv).map V).toArray, up] rfl rfl (arg5 (K.dep 0 23 rfl) (K.dep 1 24 rfl) (K.dep 2 25 rfl) (K.dep 5 28 rfl) (K.dep 7 30 rfl)) Tryd.enter21 (fk_on_allx hov hnv h (by omega) (Fk.mono _ _ _ _ hp (bl.trans (Below.mono K.grow bl.size))) (by omega) (hK.below (bl.trans (Below.mono K.grow bl.size))) h0 _ (by rw [if_pos hr]))
  · exact st_neqi 40 (.tmp 31) (.const (.int .i64 0)) rfl .i64 (0) (0) (K.dep 8 31 rfl) rfl _ (by rfl)
  intro f18 w18 A hb
  replace bl0 := bl
  replace x1 := (A.old 1 rfl).trans x1
  replace x2 := (A.old 2 rfl).trans x2
  replace x3 := (A.old 3 rfl).trans x3
  replace x4 := (A.old 4 rfl).trans x4
  replace x5 := (A.old 5 rfl).trans x5
  replace x6 := (A.old 6 rfl).trans x6
  replace x18 := (A.old 18 rfl).trans x18
  replace x7 := (A.old 7 rfl).trans x7
  have x32 : f18.eval (.tmp 32) = .bool false := A.has 9 32 rfl
  have lt_m1 := Ob.lt m1
  replace m1 := Ob.below m1 hb
  have lt_m2 := Ob.lt m2
  replace m2 := Ob.below m2 hb
  have lt_m7 := Ob.lt m7
  replace m7 := Ob.below m7 hb
  replace bl := (bl.trans (Below.mono hb bl.size))
  replace sz := A.size.trans sz
  replace df := A.defs.trans df
  clear A hb
  show Code.wp _ _ _ _ _
  refine wp_cond_false x32 ?_
  refine wp_skip ?_
  show Code.wp _ _ _ _ _
  refine wp_seq ?_
  refine wp_seq ?_
  refine wp_all_seq [.eq (.pointer (some ⟨g1, 0, none⟩)), .eq (.slice oA po.length oC), .eq (.pointer (some ⟨g1, 1, none⟩)), .eq (.slice nA pn.length nC), .eq (.tuple #[.int .i64 0, .bool false]), .eq (.tuple #[.int .i64 0, .bool false]), .eq (.int .i64 0), .eq (.bool false), .eq (.int .i64 0), .eq (.bool false)] (by kernel_rfl) (by kernel_rfl) (by rw [sz]; kernel_rfl) (by kernel_rfl) ⟨fun hw ac u K => ?_, fun hw ac u K => ?_, fun hw ac u K => ?_, fun hw ac u K => ?_, fun hw ac u K => ?_, fun hw ac u K => ?_, fun hw ac u K => ?_, fun hw ac u K => ?_, fun hw ac u K => ?_, fun hw ac u K => ?_, trivial⟩ ?_
  · exact st_field 47 0 (.tmp 1) rfl ((K.old 1 rfl).trans x1) (by kernel_rfl)
  · exact st_loadc 28 (.tmp 35) rfl (by kernel_rfl) (K.dep 0 35 rfl) (Ob.cell (Ob.below m1 K.grow) 0 rfl)
  · exact st_field 47 1 (.tmp 1) rfl ((K.old 1 rfl).trans x1) (by kernel_rfl)
  · exact st_loadc 28 (.tmp 37) rfl (by kernel_rfl) (K.dep 2 37 rfl) (Ob.cell (Ob.below m1 K.grow) 1 rfl)
  · exact st_call 27 (.func 27) _ _ #[.slice oA po.length oC, .slice nA pn.length nC] rfl rfl (arg2 (K.dep 1 36 rfl) (K.dep 3 38 rfl)) Tryd.enter27 (fk_of (parting_same (by omega) h (Fk.mono _ _ _ _ hom (bl.trans (Below.mono K.grow bl.size))) (Fk.mono _ _ _ _ hnm (bl.trans (Below.mono K.grow bl.size))) hall))
  · exact st_move (.tmp 39) rfl (K.dep 4 39 rfl)
  · exact st_tup (.tmp 34) rfl (K.dep 5 34 rfl) (by rfl)
  · exact st_tup (.tmp 34) rfl (K.dep 5 34 rfl) (by rfl)
  · exact st_assign (.tmp 40) rfl (K.dep 6 40 rfl)
  · exact st_assign (.tmp 41) rfl (K.dep 7 41 rfl)
  intro f19 w19 A hb
  replace bl0 := bl
  replace x1 := (A.old 1 rfl).trans x1
  replace x2 := (A.old 2 rfl).trans x2
  replace x3 := (A.old 3 rfl).trans x3
  replace x4 := (A.old 4 rfl).trans x4
  replace x5 := (A.old 5 rfl).trans x5
  replace x6 := (A.old 6 rfl).trans x6
  replace x18 := (A.old 18 rfl).trans x18
  replace x7 := (A.old 7 rfl).trans x7
  replace x32 := (A.old 32 rfl).trans x32
  have x9 : f19.eval (.tmp 9) = .bool false := A.has 9 9 rfl
  have lt_m1 := Ob.lt m1
  replace m1 := Ob.below m1 hb
  have lt_m2 := Ob.lt m2
  replace m2 := Ob.below m2 hb
  have lt_m7 := Ob.lt m7
  replace m7 := Ob.below m7 hb
  replace bl := (bl.trans (Below.mono hb bl.size))
  replace sz := A.size.trans sz
  replace df := A.defs.trans df
  clear A hb
  show Code.wp _ _ _ _ _
  refine wp_seq ?_
  refine wp_all_seq [.eq (.bool false), .eq (.bool true)] (by kernel_rfl) (by kernel_rfl) (by rw [sz]; kernel_rfl) (by kernel_rfl) ⟨fun hw ac u K => ?_, fun hw ac u K => ?_, trivial⟩ ?_
  · exact st_move (.tmp 9) rfl ((K.old 9 rfl).trans x9)
  · exact st_not (.tmp 42) rfl false (K.dep 0 42 rfl)
  intro f20 w20 A hb
  replace bl0 := bl
  replace x1 := (A.old 1 rfl).trans x1
  replace x2 := (A.old 2 rfl).trans x2
  replace x3 := (A.old 3 rfl).trans x3
  replace x4 := (A.old 4 rfl).trans x4
  replace x5 := (A.old 5 rfl).trans x5
  replace x6 := (A.old 6 rfl).trans x6
  replace x18 := (A.old 18 rfl).trans x18
  replace x7 := (A.old 7 rfl).trans x7
  replace x32 := (A.old 32 rfl).trans x32
  replace x9 := (A.old 9 rfl).trans x9
  have x43 : f20.eval (.tmp 43) = .bool true := A.has 1 43 rfl
  have lt_m1 := Ob.lt m1
  replace m1 := Ob.below m1 hb
  have lt_m2 := Ob.lt m2
  replace m2 := Ob.below m2 hb
  have lt_m7 := Ob.lt m7
  replace m7 := Ob.below m7 hb
  replace bl := (bl.trans (Below.mono hb bl.size))
  replace sz := A.size.trans sz
  replace df := A.defs.trans df
  clear A hb
  clear x9
  show Code.wp _ _ _ _ _
  refine wp_cond_true x43 ?_
  refine wp_seq ?_
  refine wp_region_seq [.eq (.agg ([.slice none 0 0, .slice none 0 0] : List Value).toArray)] (by kernel_rfl) (by kernel_rfl) (by rw [sz]; kernel_rfl) (by kernel_rfl) ⟨fun hw ac u K => ?_, trivial⟩ ?_
  · exact st_build 25 _ rfl (by kernel_rfl)
  intro f21 w21 A hb
  replace bl0 := bl
  replace x1 := (A.old 1 rfl).trans x1
  replace x2 := (A.old 2 rfl).trans x2
  replace x3 := (A.old 3 rfl).trans x3
  replace x4 := (A.old 4 rfl).trans x4
  replace x5 := (A.old 5 rfl).trans x5
  replace x6 := (A.old 6 rfl).trans x6
  replace x18 := (A.old 18 rfl).trans x18
  replace x7 := (A.old 7 rfl).trans x7
  replace x32 := (A.old 32 rfl).trans x32
  replace x43 := (A.old 43 rfl).trans x43
  have x44 : f21.eval (.tmp 44) = .agg ([.slice none 0 0, .slice none 0 0] : List Value).toArray := A.has 0 44 rfl
  have lt_m1 := Ob.lt m1
  replace m1 := Ob.below m1 hb
  have lt_m2 := Ob.lt m2
  replace m2 := Ob.below m2 hb
  have lt_m7 := Ob.lt m7
  replace m7 := Ob.below m7 hb
  replace bl := (bl.trans (Below.mono hb bl.size))
  replace sz := A.size.trans sz
  replace df := A.defs.trans df
  clear A hb
  refine wl_str rfl 25 (.tmp 2) (.tmp 44) rfl rfl (g2) ([.slice none 0 0, .slice none 0 0] : List Value).toArray x2 x44 25 _ m2 (by kernel_rfl) (by kernel_rfl) (by kernel_rfl) ?_
  replace m1 : Ob (w21.setRow g2 ([.slice none 0 0, .slice none 0 0] : List Value).toArray) (g1) 47 ([.slice oA po.length oC, .slice nA pn.length nC, up]) := Ob.setRow_other m1 _ nm1_2
  replace m2 : Ob (w21.setRow g2 ([.slice none 0 0, .slice none 0 0] : List Value).toArray) (g2) 25 ([.slice none 0 0, .slice none 0 0]) := Ob.setRow m2 ([.slice none 0 0, .slice none 0 0])
  replace m7 : Ob (w21.setRow g2 ([.slice none 0 0, .slice none 0 0] : List Value).toArray) (g7) 33 ((ov).map V) := Ob.setRow_other m7 _ nm2_7.symm
  replace bl : Below w.heap.size w (w21.setRow g2 ([.slice none 0 0, .slice none 0 0] : List Value).toArray) := bl.trans (below_setRow _ _ _ _ hw2)
  generalize w21.setRow g2 ([.slice none 0 0, .slice none 0 0] : List Value).toArray = w22b at bl m1 m2 m7 ⊢
  clear x44
  refine wl_one (.eq (.bool false)) rfl 3 rfl (by rw [sz]; decide) (st_assign (.const (.bool false)) rfl rfl) ?_
  intro f23 w23 df2 sz2 old2 new2 hb
  replace bl0 := bl
  replace x1 := (old2 1 rfl).trans x1
  replace x2 := (old2 2 rfl).trans x2
  clear x3
  replace x4 := (old2 4 rfl).trans x4
  replace x5 := (old2 5 rfl).trans x5
  replace x6 := (old2 6 rfl).trans x6
  replace x18 := (old2 18 rfl).trans x18
  replace x7 := (old2 7 rfl).trans x7
  replace x32 := (old2 32 rfl).trans x32
  replace x43 := (old2 43 rfl).trans x43
  have x3 : f23.eval (.tmp 3) = .bool false := new2
  have lt_m1 := Ob.lt m1
  replace m1 := Ob.below m1 hb
  have lt_m2 := Ob.lt m2
  replace m2 := Ob.below m2 hb
  have lt_m7 := Ob.lt m7
  replace m7 := Ob.below m7 hb
  replace bl := (bl.trans (Below.mono hb bl.size))
  replace sz := sz2.trans sz
  replace df := df2.trans df
  clear df2 sz2 old2 new2 hb
  refine wl_one (.eq (.int .i64 0)) rfl 4 rfl (by rw [sz]; decide) (st_assign (.const (.int .i64 0)) rfl rfl) ?_
  intro f24 w24 df2 sz2 old2 new2 hb
  replace bl0 := bl
  replace x1 := (old2 1 rfl).trans x1
  replace x2 := (old2 2 rfl).trans x2
  clear x4
  replace x5 := (old2 5 rfl).trans x5
  replace x6 := (old2 6 rfl).trans x6
  replace x18 := (old2 18 rfl).trans x18
  replace x7 := (old2 7 rfl).trans x7
  replace x32 := (old2 32 rfl).trans x32
  replace x43 := (old2 43 rfl).trans x43
  replace x3 := (old2 3 rfl).trans x3
  have x4 : f24.eval (.tmp 4) = .int .i64 0 := new2
  have lt_m1 := Ob.lt m1
  replace m1 := Ob.below m1 hb
  have lt_m2 := Ob.lt m2
  replace m2 := Ob.below m2 hb
  have lt_m7 := Ob.lt m7
  replace m7 := Ob.below m7 hb
  replace bl := (bl.trans (Below.mono hb bl.size))
  replace sz := sz2.trans sz
  replace df := df2.trans df
  clear df2 sz2 old2 new2 hb
  refine wpList_nil ?_
  show Code.wp _ _ _ _ _
  refine wp_ret ?_
  repeat (first | with_reducible refine then_ret ?_ | with_reducible refine block_ret ?_)
  exact bodyPost_ret (v := .tuple #[.agg ([.slice none 0 0, .slice none 0 0] : List Value).toArray, .bool false, .int .i64 0]) (ret_c3 rfl f24 _ g2 _ _ _ _ x2 m2 x3 x4) df ⟨_, rfl, c3_none _ _, bl⟩
set_option maxHeartbeats 1000000 in
theorem con_diff {po pn : List Pt} (hso : smallP po) (hsn : smallP pn) {P : List (List (BitVec 8))} (hP : P.length ≤ 50) {w : World} {uo un up : Value} (ho : (Fk.mc po).f uo w) (hn : (Fk.mc pn).f un w) (hp : (Fk.hc P).f up w) (hK : Tab w) (h : po.length ≤ pn.length) (h2 : prOn po.length pn.length (mroot (lhs po)) (mroot (lhs pn)) P) (hne : bys po ≠ (bys pn).take po.length) :
    Calls Tryd.prog 20 #[.agg ([uo, un, up] : List Value).toArray] w fun e w' => ∃ u, e = .returned u ∧ (Fk.c3 true 0).f u w' ∧ Below w.heap.size w w' := by
  obtain ⟨oA, oC, rfl, _, ho2⟩ := mc_val ho
  obtain ⟨nA, nC, rfl, _, hn2⟩ := mc_val hn
  have hom := ho.1
  have hnm := hn.1
  have h40 := hso.2
  have h41 := hsn.2
  obtain ⟨ov, eov⟩ : ∃ x, Box (mroot (lhs po) = x) := ⟨_, ⟨rfl⟩⟩
  obtain ⟨nv, env⟩ : ∃ x, Box (mroot (lhs pn) = x) := ⟨_, ⟨rfl⟩⟩
  have hov : ov.length = 32 := by rw [← eov.out]; exact mroot_len (lhs_32 po)
  have hnv : nv.length = 32 := by rw [← env.out]; exact mroot_len (lhs_32 pn)
  have h0 : po.length = 0 → ov = shaOf [] ∧ (pn.length = 0 → nv = ov) := fun h1 => by
    have e1 := List.eq_nil_of_length_eq_zero h1
    have e2 : lhs po = [] := by rw [e1]; rfl
    refine ⟨by rw [← eov.out, e2, mroot_nil], fun h2 => ?_⟩
    have e3 : lhs pn = [] := by rw [List.eq_nil_of_length_eq_zero h2]; rfl
    rw [← eov.out, ← env.out, e2, e3]
  have hr : prOn po.length pn.length ov nv P := by rw [← eov.out, ← env.out]; exact h2
  obtain ⟨i, p0, q0, hp0, hq0, hne0, hall⟩ := parts_at h hne
  have h1 : 1 ≤ po.length := by have := (List.getElem?_eq_some_iff.1 hp0).1; omega
  have hL : Led po.length pn.length (if (stp po.length pn.length true).1 then P else ov :: P) (mroot (lhs po)) (mroot (lhs pn)) := by
    rw [eov.out, env.out]
    exact led_with ((prOn_posx h1 ov nv P).1 hr)
  go_enter Tryd.func20, Tryd.ntmps20
  refine code_both (fun f w1 => f.tmps.size = 56 ∧ f.defers = [] ∧ f.eval (.tmp 0) = .agg ([.slice oA po.length oC, .slice nA pn.length nC, up] : List Value).toArray ∧ Below w.heap.size w (w1)) ⟨rfl, rfl, rfl, Below.refl _ _⟩ ?_
  rintro f0 w0 ⟨sz, df, x0, bl⟩
  have bl0 := bl
  refine wp_seq ?_
  refine wp_region_seq [] (by kernel_rfl) (by kernel_rfl) (by rw [sz]; kernel_rfl) (by kernel_rfl) trivial ?_
  intro f1 w1 A hb
  replace bl0 := bl
  replace x0 := (A.old 0 rfl).trans x0
  replace bl := (bl.trans (Below.mono hb bl.size))
  replace sz := A.size.trans sz
  replace df := A.defs.trans df
  clear A hb
  refine wl_one (.nw w1.heap.size 47 ([.slice oA po.length oC, .slice nA pn.length nC, up] : List Value)) rfl 1 rfl (by rw [sz]; decide) (st_box 47 (.tmp 0) rfl _ _ (by rw [show _ = _ from x0]; kernel_rfl) (Nat.le_refl _)) ?_
  intro f2 w2 df2 sz2 old2 new2 hb
  replace bl0 := bl
  replace x0 := (old2 0 rfl).trans x0
  have x1 : Fk.f (.nw w1.heap.size 47 ([.slice oA po.length oC, .slice nA pn.length nC, up] : List Value)) (f2.eval (.tmp 1)) w2 := new2
  replace bl := (bl.trans (Below.mono hb bl.size))
  replace sz := sz2.trans sz
  replace df := df2.trans df
  clear df2 sz2 old2 new2 hb
  obtain ⟨g1, hg1, e1, m1⟩ := x1
  have x1 := e1
  clear e1
  have hw1 : w.heap.size ≤ g1 := Nat.le_trans bl0.size hg1
  clear x0
  refine wl_one (.nw w2.heap.size 25 [.slice none 0 0, .slice none 0 0]) rfl 2 rfl (by rw [sz]; decide) (st_alloc 25 rfl _ _ (by kernel_rfl) (Nat.le_refl _)) ?_
  intro f3 w3 df2 sz2 old2 new2 hb
  replace bl0 := bl
  replace x1 := (old2 1 rfl).trans x1
  have x2 : Fk.f (.nw w2.heap.size 25 [.slice none 0 0, .slice none 0 0]) (f3.eval (.tmp 2)) w3 := new2
  have lt_m1 := Ob.lt m1
  replace m1 := Ob.below m1 hb
  replace bl := (bl.trans (Below.mono hb bl.size))
  replace sz := sz2.trans sz
  replace df := df2.trans df
  clear df2 sz2 old2 new2 hb
  obtain ⟨g2, hg2, e2, m2⟩ := x2
  have x2 := e2
  clear e2
  have nm1_2 : g1 ≠ g2 := Nat.ne_of_lt (Nat.lt_of_lt_of_le lt_m1 hg2)
  have hw2 : w.heap.size ≤ g2 := Nat.le_trans bl0.size hg2
  refine wl_one (.eq (.bool false)) rfl 3 rfl (by rw [sz]; decide) (st_assign (.const (.bool false)) rfl rfl) ?_
  intro f4 w4 df2 sz2 old2 new2 hb
  replace bl0 := bl
  replace x1 := (old2 1 rfl).trans x1
  replace x2 := (old2 2 rfl).trans x2
  have x3 : f4.eval (.tmp 3) = .bool false := new2
  have lt_m1 := Ob.lt m1
  replace m1 := Ob.below m1 hb
  have lt_m2 := Ob.lt m2
  replace m2 := Ob.below m2 hb
  replace bl := (bl.trans (Below.mono hb bl.size))
  replace sz := sz2.trans sz
  replace df := df2.trans df
  clear df2 sz2 old2 new2 hb
  refine wl_one (.eq (.int .i64 0)) rfl 4 rfl (by rw [sz]; decide) (st_assign (.const (.int .i64 0)) rfl rfl) ?_
  intro f5 w5 df2 sz2 old2 new2 hb
  replace bl0 := bl
  replace x1 := (old2 1 rfl).trans x1
  replace x2 := (old2 2 rfl).trans x2
  replace x3 := (old2 3 rfl).trans x3
  have x4 : f5.eval (.tmp 4) = .int .i64 0 := new2
  have lt_m1 := Ob.lt m1
  replace m1 := Ob.below m1 hb
  have lt_m2 := Ob.lt m2
  replace m2 := Ob.below m2 hb
  replace bl := (bl.trans (Below.mono hb bl.size))
  replace sz := sz2.trans sz
  replace df := df2.trans df
  clear df2 sz2 old2 new2 hb
  refine wpList_nil ?_
  show Code.wp _ _ _ _ _
  refine wp_seq ?_
  refine wp_region_held_drew (S := fun W => W = w5.drew) Tryd.mixed rfl (fun hS => ?_)
  have hb : Below w5.heap.size w5 w5.drew := (Below.refl _ _).drew
  replace bl0 := bl
  have lt_m1 := Ob.lt m1
  replace m1 := Ob.below m1 hb
  have lt_m2 := Ob.lt m2
  replace m2 := Ob.below m2 hb
  replace bl := (bl.trans (Below.mono hb bl.size))
  clear hb hS
  generalize w5.drew = w6 at m1 m2 bl ⊢
  have hS : w6 = w6 := rfl
  refine wh_take 0 10 (v := .pointer (some ⟨g1, 0, none⟩)) rfl rfl (by rw [sz]; decide) rfl (by kernel_rfl) (by kernel_rfl) (by kernel_rfl) (fun _ _ _ h => h) (run_field rfl x1 (fun w => by kernel_rfl)) hS ?_
  intro f7 df2 sz2 old2 new2
  replace x1 := (old2 1 rfl).trans x1
  replace x2 := (old2 2 rfl).trans x2
  replace x3 := (old2 3 rfl).trans x3
  replace x4 := (old2 4 rfl).trans x4
  have x10 : f7.eval (.tmp 10) = .pointer (some ⟨g1, 0, none⟩) := new2
  replace sz := sz2.trans sz
  replace df := df2.trans df
  clear df2 sz2 old2 new2
  refine wh_take 1 11 (v := .slice oA po.length oC) rfl rfl (by rw [sz]; decide) rfl (by kernel_rfl) (by kernel_rfl) (by kernel_rfl) (fun _ _ _ h => h) (run_loadc rfl (fun w => by kernel_rfl) x10 (fun W hW => by rw [hW]; exact Ob.cell m1 0 rfl)) hS ?_
  intro f8 df2 sz2 old2 new2
  replace x1 := (old2 1 rfl).trans x1
  replace x2 := (old2 2 rfl).trans x2
  replace x3 := (old2 3 rfl).trans x3
  replace x4 := (old2 4 rfl).trans x4
  replace x10 := (old2 10 rfl).trans x10
  have x11 : f8.eval (.tmp 11) = .slice oA po.length oC := new2
  replace sz := sz2.trans sz
  replace df := df2.trans df
  clear df2 sz2 old2 new2
  refine wh_take 2 12 (v := .int .i64 ((po.length : Nat) : Int)) rfl rfl (by rw [sz]; decide) rfl (by kernel_rfl) (by kernel_rfl) (by kernel_rfl) (fun _ _ _ h => h) (run_lenT Tryd.under28 Tryd.elem28 rfl x11) hS ?_
  intro f9 df2 sz2 old2 new2
  replace x1 := (old2 1 rfl).trans x1
  replace x2 := (old2 2 rfl).trans x2
  replace x3 := (old2 3 rfl).trans x3
  replace x4 := (old2 4 rfl).trans x4
  replace x10 := (old2 10 rfl).trans x10
  replace x11 := (old2 11 rfl).trans x11
  have x12 : f9.eval (.tmp 12) = .int .i64 ((po.length : Nat) : Int) := new2
  replace sz := sz2.trans sz
  replace df := df2.trans df
  clear df2 sz2 old2 new2
  refine wh_take 3 13 (v := .pointer (some ⟨g1, 1, none⟩)) rfl rfl (by rw [sz]; decide) rfl (by kernel_rfl) (by kernel_rfl) (by kernel_rfl) (fun _ _ _ h => h) (run_field rfl x1 (fun w => by kernel_rfl)) hS ?_
  intro f10 df2 sz2 old2 new2
  replace x1 := (old2 1 rfl).trans x1
  replace x2 := (old2 2 rfl).trans x2
  replace x3 := (old2 3 rfl).trans x3
  replace x4 := (old2 4 rfl).trans x4
  replace x10 := (old2 10 rfl).trans x10
  replace x11 := (old2 11 rfl).trans x11
  replace x12 := (old2 12 rfl).trans x12
  have x13 : f10.eval (.tmp 13) = .pointer (some ⟨g1, 1, none⟩) := new2
  replace sz := sz2.trans sz
  replace df := df2.trans df
  clear df2 sz2 old2 new2
  refine wh_take 4 14 (v := .slice nA pn.length nC) rfl rfl (by rw [sz]; decide) rfl (by kernel_rfl) (by kernel_rfl) (by kernel_rfl) (fun _ _ _ h => h) (run_loadc rfl (fun w => by kernel_rfl) x13 (fun W hW => by rw [hW]; exact Ob.cell m1 1 rfl)) hS ?_
  intro f11 df2 sz2 old2 new2
  replace x1 := (old2 1 rfl).trans x1
  replace x2 := (old2 2 rfl).trans x2
  replace x3 := (old2 3 rfl).trans x3
  replace x4 := (old2 4 rfl).trans x4
  replace x10 := (old2 10 rfl).trans x10
  replace x11 := (old2 11 rfl).trans x11
  replace x12 := (old2 12 rfl).trans x12
  replace x13 := (old2 13 rfl).trans x13
  have x14 : f11.eval (.tmp 14) = .slice nA pn.length nC := new2
  replace sz := sz2.trans sz
  replace df := df2.trans df
  clear df2 sz2 old2 new2
  refine wh_take 5 15 (v := .int .i64 ((pn.length : Nat) : Int)) rfl rfl (by rw [sz]; decide) rfl (by kernel_rfl) (by kernel_rfl) (by kernel_rfl) (fun _ _ _ h => h) (run_lenT Tryd.under28 Tryd.elem28 rfl x14) hS ?_
  intro f12 df2 sz2 old2 new2
  replace x1 := (old2 1 rfl).trans x1
  replace x2 := (old2 2 rfl).trans x2
  replace x3 := (old2 3 rfl).trans x3
  replace x4 := (old2 4 rfl).trans x4
  replace x10 := (old2 10 rfl).trans x10
  replace x11 := (old2 11 rfl).trans x11
  replace x12 := (old2 12 rfl).trans x12
  replace x13 := (old2 13 rfl).trans x13
  replace x14 := (old2 14 rfl).trans x14
  have x15 : f12.eval (.tmp 15) = .int .i64 ((pn.length : Nat) : Int) := new2
  replace sz := sz2.trans sz
  replace df := df2.trans df
  clear df2 sz2 old2 new2
  refine wh_assign 6 5 rfl rfl (by rw [sz]; decide) rfl (by kernel_rfl) (.tmp 12) rfl hS ?_
  intro f13 df2 sz2 old2 new2
  have x5 : f13.eval (.tmp 5) = .int .i64 ((po.length : Nat) : Int) := new2.trans x12
  replace x1 := (old2 1 rfl).trans x1
  replace x2 := (old2 2 rfl).trans x2
  replace x3 := (old2 3 rfl).trans x3
  replace x4 := (old2 4 rfl).trans x4
  replace x10 := (old2 10 rfl).trans x10
  replace x11 := (old2 11 rfl).trans x11
  replace x12 := (old2 12 rfl).trans x12
  replace x13 := (old2 13 rfl).trans x13
  replace x14 := (old2 14 rfl).trans x14
  replace x15 := (old2 15 rfl).trans x15
  replace sz := sz2.trans sz
  replace df := df2.trans df
  clear df2 sz2 old2 new2
  refine wh_assign 7 6 rfl rfl (by rw [sz]; decide) rfl (by kernel_rfl) (.tmp 15) rfl hS ?_
  intro f14 df2 sz2 old2 new2
  have x6 : f14.eval (.tmp 6) = .int .i64 ((pn.length : Nat) : Int) := new2.trans x15
  replace x1 := (old2 1 rfl).trans x1
  replace x2 := (old2 2 rfl).trans x2
  replace x3 := (old2 3 rfl).trans x3
  replace x4 := (old2 4 rfl).trans x4
  replace x10 := (old2 10 rfl).trans x10
  replace x11 := (old2 11 rfl).trans x11
  replace x12 := (old2 12 rfl).trans x12
  replace x13 := (old2 13 rfl).trans x13
  replace x14 := (old2 14 rfl).trans x14
  replace x15 := (old2 15 rfl).trans x15
  replace x5 := (old2 5 rfl).trans x5
  replace sz := sz2.trans sz
  replace df := df2.trans df
  clear df2 sz2 old2 new2
  refine wpAnyH_done (by kernel_rfl) ?_ _
  clear hS
  clear x10
  clear x11
  clear x12
  clear x13
  clear x14
  clear x15
  show Code.wp _ _ _ _ _
  refine wp_seq ?_
  refine wp_seq ?_
  refine wp_all_seq [.eq (.int .i64 ((po.length : Nat) : Int)), .eq (.int .i64 ((pn.length : Nat) : Int)), .eq (.bool false)] (by kernel_rfl) (by kernel_rfl) (by rw [sz]; kernel_rfl) (by kernel_rfl) ⟨fun hw ac u K => ?_, fun hw ac u K => ?_, fun hw ac u K => ?_, trivial⟩ ?_
  · exact st_move (.tmp 5) rfl ((K.old 5 rfl).trans x5)
  · exact st_move (.tmp 6) rfl ((K.old 6 rfl).trans x6)
  · exact st_gtr 3 (.tmp 16) (.tmp 17) rfl .i64 (((po.length : Nat) : Int)) (((pn.length : Nat) : Int)) (K.dep 0 16 rfl) (K.dep 1 17 rfl) _ (by symm; rw [decide_eq_false_iff_not]; exact (by omega))
  intro f15 w15 A hb
  replace bl0 := bl
  replace x1 := (A.old 1 rfl).trans x1
  replace x2 := (A.old 2 rfl).trans x2
  replace x3 := (A.old 3 rfl).trans x3
  replace x4 := (A.old 4 rfl).trans x4
  replace x5 := (A.old 5 rfl).trans x5
  replace x6 := (A.old 6 rfl).trans x6
  have x18 : f15.eval (.tmp 18) = .bool false := A.has 2 18 rfl
  have lt_m1 := Ob.lt m1
  replace m1 := Ob.below m1 hb
  have lt_m2 := Ob.lt m2
  replace m2 := Ob.below m2 hb
  replace bl := (bl.trans (Below.mono hb bl.size))
  replace sz := A.size.trans sz
  replace df := A.defs.trans df
  clear A hb
  show Code.wp _ _ _ _ _
  refine wp_cond_false x18 ?_
  refine wp_skip ?_
  show Code.wp _ _ _ _ _
  refine wp_seq ?_
  refine wp_region_seq [.eq (.pointer (some ⟨g1, 0, none⟩)), .eq (.slice oA po.length oC), .eq (.agg ((ov).map V).toArray), .nw w15.heap.size 33 ((hz).map V)] (by kernel_rfl) (by kernel_rfl) (by rw [sz]; kernel_rfl) (by kernel_rfl) ⟨fun hw ac u K => ?_, fun hw ac u K => ?_, fun hw ac u K => ?_, fun hw ac u K => ?_, trivial⟩ ?_
  · exact st_field 47 0 (.tmp 1) rfl ((K.old 1 rfl).trans x1) (by kernel_rfl)
  · exact st_loadc 28 (.tmp 20) rfl (by kernel_rfl) (K.dep 0 20 rfl) (Ob.cell (Ob.below m1 K.grow) 0 rfl)
  · exact st_call 31 (.func 31) _ _ #[.slice oA po.length oC] rfl rfl (one_arg (K.dep 1 21 rfl)) Tryd.enter31 (fk_lroot (by omega) (smallP_mx hso) (Fk.mono _ _ _ _ hom (bl.trans (Below.mono K.grow bl.size))) (hK.below (bl.trans (Below.mono K.grow bl.size))) eov)
  · exact st_alloc33 rfl _ K.grow.size
  intro f16 w16 A hb
  replace bl0 := bl
  replace x1 := (A.old 1 rfl).trans x1
  replace x2 := (A.old 2 rfl).trans x2
  replace x3 := (A.old 3 rfl).trans x3
  replace x4 := (A.old 4 rfl).trans x4
  replace x5 := (A.old 5 rfl).trans x5
  replace x6 := (A.old 6 rfl).trans x6
  replace x18 := (A.old 18 rfl).trans x18
  have x7 : Fk.f (.nw w15.heap.size 33 ((hz).map V)) (f16.eval (.tmp 7)) w16 := A.has 3 7 rfl
  have x22 : f16.eval (.tmp 22) = .agg ((ov).map V).toArray := A.has 2 22 rfl
  have lt_m1 := Ob.lt m1
  replace m1 := Ob.below m1 hb
  have lt_m2 := Ob.lt m2
  replace m2 := Ob.below m2 hb
  replace bl := (bl.trans (Below.mono hb bl.size))
  replace sz := A.size.trans sz
  replace df := A.defs.trans df
  clear A hb
  obtain ⟨g7, hg7, e7, m7⟩ := x7
  have x7 := e7
  clear e7
  have nm1_7 : g1 ≠ g7 := Nat.ne_of_lt (Nat.lt_of_lt_of_le lt_m1 hg7)
  have nm2_7 : g2 ≠ g7 := Nat.ne_of_lt (Nat.lt_of_lt_of_le lt_m2 hg7)
  have hw7 : w.heap.size ≤ g7 := Nat.le_trans bl0.size hg7
  refine wl_store rfl (.tmp 7) (.tmp 22) rfl rfl (g7) (ov) (hz) x7 x22 m7 hz_len hov ?_
  replace m1 : Ob (w16.setRow g7 ((ov).map V : List Value).toArray) (g1) 47 ([.slice oA po.length oC, .slice nA pn.length nC, up]) := Ob.setRow_other m1 _ nm1_7
  replace m2 : Ob (w16.setRow g7 ((ov).map V : List Value).toArray) (g2) 25 ([.slice none 0 0, .slice none 0 0]) := Ob.setRow_other m2 _ nm2_7
  replace m7 : Ob (w16.setRow g7 ((ov).map V : List Value).toArray) (g7) 33 ((ov).map V) := Ob.setRow m7 ((ov).map V)
  replace bl : Below w.heap.size w (w16.setRow g7 ((ov).map V : List Value).toArray) := bl.trans (below_setRow _ _ _ _ hw7)
  generalize w16.setRow g7 ((ov).map V : List Value).toArray = w17b at bl m1 m2 m7 ⊢
  refine wpList_nil ?_
  clear x22
  show Code.wp _ _ _ _ _
  refine wp_seq ?_
  refine wp_seq ?_
  refine wp_all [.eq (.int .i64 ((po.length : Nat) : Int)), .eq (.int .i64 ((pn.length : Nat) : Int)), .eq (.agg ((ov).map V).toArray), .eq (.pointer (some ⟨g1, 1, none⟩)), .eq (.slice nA pn.length nC), .eq (.agg ((nv).map V).toArray), .eq (.pointer (some ⟨g1, 2, none⟩)), .eq (up), .eq (.int .i64 0), .eq (.bool false)] Tryd.mixed (by kernel_rfl) (by kernel_rfl) (by rw [sz]; kernel_rfl) (by kernel_rfl) ⟨fun hw ac u K => ?_, fun hw ac u K => ?_, fun hw ac u K => ?_, fun hw ac u K => ?_, fun hw ac u K => ?_, fun hw ac u K => ?_, fun hw ac u K => ?_, fun hw ac u K => ?_, fun hw ac u K => ?_, fun hw ac u K => ?_, trivial⟩ ?_
  · exact st_move (.tmp 5) rfl ((K.old 5 rfl).trans x5)
  · exact st_move (.tmp 6) rfl ((K.old 6 rfl).trans x6)
  · exact st_load33 (.tmp 7) rfl (g7) (ov) ((K.old 7 rfl).trans x7) hov (Ob.below m7 K.grow)
  · exact st_field 47 1 (.tmp 1) rfl ((K.old 1 rfl).trans x1) (by kernel_rfl)
  · exact st_loadc 28 (.tmp 26) rfl (by kernel_rfl) (K.dep 3 26 rfl) (Ob.cell (Ob.below m1 K.grow) 1 rfl)
  · exact st_call 31 (.func 31) _ _ #[.slice nA pn.length nC] rfl rfl (one_arg (K.dep 4 27 rfl)) Tryd.enter31 (fk_lroot (by omega) (smallP_mx hsn) (Fk.mono _ _ _ _ hnm (bl.trans (Below.mono K.grow bl.size))) (hK.below (bl.trans (Below.mono K.grow bl.size))) env)
  · exact st_field 47 2 (.tmp 1) rfl ((K.old 1 rfl).trans x1) (by kernel_rfl)
  · exact st_loadc 35 (.tmp 29) rfl (by kernel_rfl) (K.dep 6 29 rfl) (Ob.cell (Ob.below m1 K.grow) 2 rfl)
  · exact st_call 21 (.func 21) _ _ #[.int .i64 ((po.length : Nat) : Int), .int .i64 ((pn.length : Nat) : Int), .agg ((ov).map V).toArray, .agg ((nv).map V).toArray, up] rfl rfl (arg5 (K.dep 0 23 rfl) (K.dep 1 24 rfl) (K.dep 2 25 rfl) (K.dep 5 28 rfl) (K.dep 7 30 rfl)) Tryd.enter21 (fk_on_allx hov hnv h (by omega) (Fk.mono _ _ _ _ hp (bl.trans (Below.mono K.grow bl.size))) (by omega) (hK.below (bl.trans (Below.mono K.grow bl.size))) h0 _ (by rw [if_pos hr]))
  · exact st_neqi 40 (.tmp 31) (.const (.int .i64 0)) rfl .i64 (0) (0) (K.dep 8 31 rfl) rfl _ (by rfl)
  intro f18 w18 A hb
  replace bl0 := bl
  replace x1 := (A.old 1 rfl).trans x1
  replace x2 := (A.old 2 rfl).trans x2
  replace x3 := (A.old 3 rfl).trans x3
  replace x4 := (A.old 4 rfl).trans x4
  replace x5 := (A.old 5 rfl).trans x5
  replace x6 := (A.old 6 rfl).trans x6
  replace x18 := (A.old 18 rfl).trans x18
  replace x7 := (A.old 7 rfl).trans x7
  have x32 : f18.eval (.tmp 32) = .bool false := A.has 9 32 rfl
  have lt_m1 := Ob.lt m1
  replace m1 := Ob.below m1 hb
  have lt_m2 := Ob.lt m2
  replace m2 := Ob.below m2 hb
  have lt_m7 := Ob.lt m7
  replace m7 := Ob.below m7 hb
  replace bl := (bl.trans (Below.mono hb bl.size))
  replace sz := A.size.trans sz
  replace df := A.defs.trans df
  clear A hb
  show Code.wp _ _ _ _ _
  refine wp_cond_false x32 ?_
  refine wp_skip ?_
  show Code.wp _ _ _ _ _
  refine wp_seq ?_
  refine wp_seq ?_
  refine wp_all_seq [.eq (.pointer (some ⟨g1, 0, none⟩)), .eq (.slice oA po.length oC), .eq (.pointer (some ⟨g1, 1, none⟩)), .eq (.slice nA pn.length nC), .eq (.tuple #[.int .i64 ((i : Nat) : Int), .bool true]), .eq (.tuple #[.int .i64 ((i : Nat) : Int), .bool true]), .eq (.int .i64 ((i : Nat) : Int)), .eq (.bool true), .eq (.int .i64 ((i : Nat) : Int)), .eq (.bool true)] (by kernel_rfl) (by kernel_rfl) (by rw [sz]; kernel_rfl) (by kernel_rfl) ⟨fun hw ac u K => ?_, fun hw ac u K => ?_, fun hw ac u K => ?_, fun hw ac u K => ?_, fun hw ac u K => ?_, fun hw ac u K => ?_, fun hw ac u K => ?_, fun hw ac u K => ?_, fun hw ac u K => ?_, fun hw ac u K => ?_, trivial⟩ ?_
  · exact st_field 47 0 (.tmp 1) rfl ((K.old 1 rfl).trans x1) (by kernel_rfl)
  · exact st_loadc 28 (.tmp 35) rfl (by kernel_rfl) (K.dep 0 35 rfl) (Ob.cell (Ob.below m1 K.grow) 0 rfl)
  · exact st_field 47 1 (.tmp 1) rfl ((K.old 1 rfl).trans x1) (by kernel_rfl)
  · exact st_loadc 28 (.tmp 37) rfl (by kernel_rfl) (K.dep 2 37 rfl) (Ob.cell (Ob.below m1 K.grow) 1 rfl)
  · exact st_call 27 (.func 27) _ _ #[.slice oA po.length oC, .slice nA pn.length nC] rfl rfl (arg2 (K.dep 1 36 rfl) (K.dep 3 38 rfl)) Tryd.enter27 (fk_of (parting_diff (by omega) h (Fk.mono _ _ _ _ hom (bl.trans (Below.mono K.grow bl.size))) (Fk.mono _ _ _ _ hnm (bl.trans (Below.mono K.grow bl.size))) hp0 hq0 hne0 hall))
  · exact st_move (.tmp 39) rfl (K.dep 4 39 rfl)
  · exact st_tup (.tmp 34) rfl (K.dep 5 34 rfl) (by rfl)
  · exact st_tup (.tmp 34) rfl (K.dep 5 34 rfl) (by rfl)
  · exact st_assign (.tmp 40) rfl (K.dep 6 40 rfl)
  · exact st_assign (.tmp 41) rfl (K.dep 7 41 rfl)
  intro f19 w19 A hb
  replace bl0 := bl
  replace x1 := (A.old 1 rfl).trans x1
  replace x2 := (A.old 2 rfl).trans x2
  replace x3 := (A.old 3 rfl).trans x3
  replace x4 := (A.old 4 rfl).trans x4
  replace x5 := (A.old 5 rfl).trans x5
  replace x6 := (A.old 6 rfl).trans x6
  replace x18 := (A.old 18 rfl).trans x18
  replace x7 := (A.old 7 rfl).trans x7
  replace x32 := (A.old 32 rfl).trans x32
  have x9 : f19.eval (.tmp 9) = .bool true := A.has 9 9 rfl
  have lt_m1 := Ob.lt m1
  replace m1 := Ob.below m1 hb
  have lt_m2 := Ob.lt m2
  replace m2 := Ob.below m2 hb
  have lt_m7 := Ob.lt m7
  replace m7 := Ob.below m7 hb
  replace bl := (bl.trans (Below.mono hb bl.size))
  replace sz := A.size.trans sz
  replace df := A.defs.trans df
  clear A hb
  show Code.wp _ _ _ _ _
  refine wp_seq ?_
  refine wp_all_seq [.eq (.bool true), .eq (.bool false)] (by kernel_rfl) (by kernel_rfl) (by rw [sz]; kernel_rfl) (by kernel_rfl) ⟨fun hw ac u K => ?_, fun hw ac u K => ?_, trivial⟩ ?_
  · exact st_move (.tmp 9) rfl ((K.old 9 rfl).trans x9)
  · exact st_not (.tmp 42) rfl true (K.dep 0 42 rfl)
  intro f20 w20 A hb
  replace bl0 := bl
  replace x1 := (A.old 1 rfl).trans x1
  replace x2 := (A.old 2 rfl).trans x2
  replace x3 := (A.old 3 rfl).trans x3
  replace x4 := (A.old 4 rfl).trans x4
  replace x5 := (A.old 5 rfl).trans x5
  replace x6 := (A.old 6 rfl).trans x6
  replace x18 := (A.old 18 rfl).trans x18
  replace x7 := (A.old 7 rfl).trans x7
  replace x32 := (A.old 32 rfl).trans x32
  replace x9 := (A.old 9 rfl).trans x9
  have x43 : f20.eval (.tmp 43) = .bool false := A.has 1 43 rfl
  have lt_m1 := Ob.lt m1
  replace m1 := Ob.below m1 hb
  have lt_m2 := Ob.lt m2
  replace m2 := Ob.below m2 hb
  have lt_m7 := Ob.lt m7
  replace m7 := Ob.below m7 hb
  replace bl := (bl.trans (Below.mono hb bl.size))
  replace sz := A.size.trans sz
  replace df := A.defs.trans df
  clear A hb
  clear x9
  show Code.wp _ _ _ _ _
  refine wp_cond_false x43 ?_
  refine wp_skip ?_
  show Code.wp _ _ _ _ _
  refine wp_seq ?_
  refine wp_region_tail [.eq (.pointer (some ⟨g1, 0, none⟩)), .eq (.slice oA po.length oC), .eq (.pointer (some ⟨g1, 1, none⟩)), .eq (.slice nA pn.length nC), .eq (.int .i64 ((po.length : Nat) : Int)), .eq (.int .i64 ((pn.length : Nat) : Int)), .eq (.agg ((ov).map V).toArray), .eq (.pointer (some ⟨g1, 2, none⟩)), .eq (up), .hc (if (stp po.length pn.length true).1 then P else ov :: P), .cv true] [11, 12, 13] Tryd.mixed (by kernel_rfl) (by kernel_rfl) (by kernel_rfl) (by kernel_rfl) (by rw [sz]; kernel_rfl) (by kernel_rfl) ⟨fun hw ac u K => ?_, fun hw ac u K => ?_, fun hw ac u K => ?_, fun hw ac u K => ?_, fun hw ac u K => ?_, fun hw ac u K => ?_, fun hw ac u K => ?_, fun hw ac u K => ?_, fun hw ac u K => ?_, fun hw ac u K => ?_, fun hw ac u K => ?_, trivial⟩ ?_
  · exact st_field 47 0 (.tmp 1) rfl ((K.old 1 rfl).trans x1) (by kernel_rfl)
  · exact st_loadc 28 (.tmp 45) rfl (by kernel_rfl) (K.dep 0 45 rfl) (Ob.cell (Ob.below m1 K.grow) 0 rfl)
  · exact st_field 47 1 (.tmp 1) rfl ((K.old 1 rfl).trans x1) (by kernel_rfl)
  · exact st_loadc 28 (.tmp 47) rfl (by kernel_rfl) (K.dep 2 47 rfl) (Ob.cell (Ob.below m1 K.grow) 1 rfl)
  · exact st_move (.tmp 5) rfl ((K.old 5 rfl).trans x5)
  · exact st_move (.tmp 6) rfl ((K.old 6 rfl).trans x6)
  · exact st_load33 (.tmp 7) rfl (g7) (ov) ((K.old 7 rfl).trans x7) hov (Ob.below m7 K.grow)
  · exact st_field 47 2 (.tmp 1) rfl ((K.old 1 rfl).trans x1) (by kernel_rfl)
  · exact st_loadc 35 (.tmp 52) rfl (by kernel_rfl) (K.dep 7 52 rfl) (Ob.cell (Ob.below m1 K.grow) 2 rfl)
  · exact st_call 37 (.func 37) _ _ #[.int .i64 ((po.length : Nat) : Int), .int .i64 ((pn.length : Nat) : Int), .agg ((ov).map V).toArray, up] rfl rfl (arg4 (K.dep 4 49 rfl) (K.dep 5 50 rfl) (K.dep 6 51 rfl) (K.dep 8 53 rfl)) Tryd.enter37 (fk_with h1 h (by omega) hov (by omega) (Fk.mono _ _ _ _ hp (bl.trans (Below.mono K.grow bl.size))) rfl)
  · exact st_call 36 (.func 36) _ _ #[.slice oA po.length oC, .slice nA pn.length nC, ac.eval (.tmp 54)] rfl rfl (arg3 (K.dep 1 46 rfl) (K.dep 3 48 rfl) rfl) Tryd.enter36 (fk_grown hso hsn h1 h hne hL (Fk.mono _ _ _ _ ho (bl.trans (Below.mono K.grow bl.size))) (Fk.mono _ _ _ _ hn (bl.trans (Below.mono K.grow bl.size))) (K.dep 9 54 rfl) (hK.below (bl.trans (Below.mono K.grow bl.size))))
  intro f21 w21 A hb
  replace bl0 := bl
  replace x1 := (A.old 1 rfl).trans x1
  replace x2 := (A.old 2 rfl).trans x2
  replace x3 := (A.old 3 rfl).trans x3
  replace x4 := (A.old 4 rfl).trans x4
  replace x5 := (A.old 5 rfl).trans x5
  replace x6 := (A.old 6 rfl).trans x6
  replace x18 := (A.old 18 rfl).trans x18
  replace x7 := (A.old 7 rfl).trans x7
  replace x32 := (A.old 32 rfl).trans x32
  replace x43 := (A.old 43 rfl).trans x43
  have x55 : Fk.f (.cv true) (f21.eval (.tmp 55)) w21 := A.has 10 55 rfl
  have lt_m1 := Ob.lt m1
  replace m1 := Ob.below m1 hb
  have lt_m2 := Ob.lt m2
  replace m2 := Ob.below m2 hb
  have lt_m7 := Ob.lt m7
  replace m7 := Ob.below m7 hb
  replace bl := (bl.trans (Below.mono hb bl.size))
  replace sz := A.size.trans sz
  replace df := A.defs.trans df
  clear A hb
  obtain ⟨Az, Bz, uz, vz, ez, hAz, hBz, lAz, lBz, hrz⟩ := x55
  obtain ⟨pAz, mAz, cAz, _, _, rfl, _⟩ := id hAz
  obtain ⟨pBz, mBz, cBz, _, _, rfl, _⟩ := id hBz
  have x55 := ez
  clear ez
  refine wl_str rfl 25 (.tmp 2) (.tmp 55) rfl rfl (g2) ([.slice pAz mAz cAz, .slice pBz mBz cBz] : List Value).toArray x2 x55 25 _ m2 (by kernel_rfl) (by kernel_rfl) (by kernel_rfl) ?_
  replace hAz := sl_setRow (ds := ([.slice pAz mAz cAz, .slice pBz mBz cBz] : List Value).toArray) hAz m2
  replace hBz := sl_setRow (ds := ([.slice pAz mAz cAz, .slice pBz mBz cBz] : List Value).toArray) hBz m2
  replace m1 : Ob (w21.setRow g2 ([.slice pAz mAz cAz, .slice pBz mBz cBz] : List Value).toArray) (g1) 47 ([.slice oA po.length oC, .slice nA pn.length nC, up]) := Ob.setRow_other m1 _ nm1_2
  replace m2 : Ob (w21.setRow g2 ([.slice pAz mAz cAz, .slice pBz mBz cBz] : List Value).toArray) (g2) 25 ([.slice pAz mAz cAz, .slice pBz mBz cBz]) := Ob.setRow m2 ([.slice pAz mAz cAz, .slice pBz mBz cBz])
  replace m7 : Ob (w21.setRow g2 ([.slice pAz mAz cAz, .slice pBz mBz cBz] : List Value).toArray) (g7) 33 ((ov).map V) := Ob.setRow_other m7 _ nm2_7.symm
  replace bl : Below w.heap.size w (w21.setRow g2 ([.slice pAz mAz cAz, .slice pBz mBz cBz] : List Value).toArray) := bl.trans (below_setRow _ _ _ _ hw2)
  generalize w21.setRow g2 ([.slice pAz mAz cAz, .slice pBz mBz cBz] : List Value).toArray = w22b at bl m1 m2 m7 hAz hBz ⊢
  clear x55
  refine wl_one (.eq (.bool true)) rfl 3 rfl (by rw [sz]; decide) (st_assign (.const (.bool true)) rfl rfl) ?_
  intro f23 w23 df2 sz2 old2 new2 hb
  replace bl0 := bl
  replace x1 := (old2 1 rfl).trans x1
  replace x2 := (old2 2 rfl).trans x2
  clear x3
  replace x4 := (old2 4 rfl).trans x4
  replace x5 := (old2 5 rfl).trans x5
  replace x6 := (old2 6 rfl).trans x6
  replace x18 := (old2 18 rfl).trans x18
  replace x7 := (old2 7 rfl).trans x7
  replace x32 := (old2 32 rfl).trans x32
  replace x43 := (old2 43 rfl).trans x43
  have x3 : f23.eval (.tmp 3) = .bool true := new2
  have lt_m1 := Ob.lt m1
  replace m1 := Ob.below m1 hb
  have lt_m2 := Ob.lt m2
  replace m2 := Ob.below m2 hb
  have lt_m7 := Ob.lt m7
  replace m7 := Ob.below m7 hb
  replace hAz := Fk.mono _ _ _ _ hAz hb
  replace hBz := Fk.mono _ _ _ _ hBz hb
  replace bl := (bl.trans (Below.mono hb bl.size))
  replace sz := sz2.trans sz
  replace df := df2.trans df
  clear df2 sz2 old2 new2 hb
  refine wl_one (.eq (.int .i64 0)) rfl 4 rfl (by rw [sz]; decide) (st_assign (.const (.int .i64 0)) rfl rfl) ?_
  intro f24 w24 df2 sz2 old2 new2 hb
  replace bl0 := bl
  replace x1 := (old2 1 rfl).trans x1
  replace x2 := (old2 2 rfl).trans x2
  clear x4
  replace x5 := (old2 5 rfl).trans x5
  replace x6 := (old2 6 rfl).trans x6
  replace x18 := (old2 18 rfl).trans x18
  replace x7 := (old2 7 rfl).trans x7
  replace x32 := (old2 32 rfl).trans x32
  replace x43 := (old2 43 rfl).trans x43
  replace x3 := (old2 3 rfl).trans x3
  have x4 : f24.eval (.tmp 4) = .int .i64 0 := new2
  have lt_m1 := Ob.lt m1
  replace m1 := Ob.below m1 hb
  have lt_m2 := Ob.lt m2
  replace m2 := Ob.below m2 hb
  have lt_m7 := Ob.lt m7
  replace m7 := Ob.below m7 hb
  replace hAz := Fk.mono _ _ _ _ hAz hb
  replace hBz := Fk.mono _ _ _ _ hBz hb
  replace bl := (bl.trans (Below.mono hb bl.size))
  replace sz := sz2.trans sz
  replace df := df2.trans df
  clear df2 sz2 old2 new2 hb
  refine wpList_nil ?_
  show Code.wp _ _ _ _ _
  refine wp_ret ?_
  repeat (first | with_reducible refine then_ret ?_ | with_reducible refine block_ret ?_)
  exact bodyPost_ret (v := .tuple #[.agg ([.slice pAz mAz cAz, .slice pBz mBz cBz] : List Value).toArray, .bool true, .int .i64 0]) (ret_c3 rfl f24 _ g2 _ _ _ _ x2 m2 x3 x4) df ⟨_, rfl, ⟨Az, Bz, _, _, rfl, hAz, hBz, lAz, lBz, hrz⟩, bl⟩
theorem fk_con_ok {po pn : List Pt} (hso : smallP po) (hsn : smallP pn) {P : List (List (BitVec 8))} (hP : P.length ≤ 50) {w : World} {uo un up : Value} (ho : (Fk.mc po).f uo w) (hn : (Fk.mc pn).f un w) (hp : (Fk.hc P).f up w) (hK : Tab w) (h : po.length ≤ pn.length) (h2 : prOn po.length pn.length (mroot (lhs po)) (mroot (lhs pn)) P) {f : Bool} (hf : f = decide (bys po ≠ (bys pn).take po.length)) :
    Calls Tryd.prog 20 #[.agg ([uo, un, up] : List Value).toArray] w fun e w' => ∃ u, e = .returned u ∧ (Fk.c3 f 0).f u w' ∧ Below w.heap.size w w' := by
  by_cases hq : bys po = (bys pn).take po.length
  · obtain rfl : f = false := by rw [hf]; simp only [decide_eq_false_iff_not]; exact fun h => h hq
    exact con_same hso hsn hP ho hn hp hK h h2 (by rw [List.take_of_length_le (by rw [bys_len]; exact Nat.le_refl _)]; exact hq)
  · obtain rfl : f = true := by rw [hf]; simp only [decide_eq_true_eq]; exact hq
    exact con_diff hso hsn hP ho hn hp hK h h2 hq
end Go.Proofs.YtfmeeimhfdnjpaaDoor
