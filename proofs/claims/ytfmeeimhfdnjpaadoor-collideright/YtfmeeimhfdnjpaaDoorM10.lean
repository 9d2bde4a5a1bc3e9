/- On. awake. CollideRight, CollideLists. Arguments opened: numbers with their bounds, slices of hashes with their room. Places and steps of layer 8 that came in, opened. Lists of slices of bytes that came in, opened: with their room and the bound of their length; claims and growths of layer 10. -/
import Derived.Test.YtfmeeimhfdnjpaaDoorM9
import Derived.Test.YtfmeeimhfdnjpaaDoorM5
import Derived.Test.YtfmeeimhfdnjpaaDoorM4
import Derived.Test.YtfmeeimhfdnjpaaDoorM6
namespace Go.Proofs.YtfmeeimhfdnjpaaDoor
set_option maxRecDepth 100000
open Go.RowKit
theorem prOn_posx {m n : Nat} (h : 1 ≤ m) (old rt : List (BitVec 8)) (P : List (List (BitVec 8))) : prOn m n old rt P ↔ bres old P (stp m n true).1 (stp m n true).2 = some (old, rt) := by unfold prOn; rw [if_neg (by omega)]
theorem fk_on_allx {old rt : List (BitVec 8)} (hold : old.length = 32) (hrt : rt.length = 32) {m n : Nat} (hmn : m ≤ n) (hn : n ≤ 1152921504606846976) {P : List (List (BitVec 8))} {v : Value} {w : World} (hv : (Fk.hc P).f v w) (hP : P.length ≤ 100000) (hK : Tab w) (h0 : m = 0 → old = shaOf [] ∧ (n = 0 → rt = old)) (r : Int) (hr : r = if prOn m n old rt P then 0 else 22) :
    Calls Tryd.prog 21 #[.int .i64 ((m : Nat) : Int), .int .i64 ((n : Nat) : Int), .agg ((old).map V).toArray, .agg ((rt).map V).toArray, v] w fun e w' => ∃ u, e = .returned u ∧ (Fk.eq (.int .i64 r)).f u w' ∧ Below w.heap.size w w' := by
  by_cases hm : m = 0
  · subst hm
    obtain ⟨e1, e2⟩ := h0 rfl
    refine fk_on_zero hold hrt hn hv hP hK r ?_
    rw [hr]
    by_cases hp : P.length = 0
    · rw [if_pos (by unfold prOn; rw [if_pos rfl]; exact hp), if_pos ⟨e1, hp, by rcases Nat.eq_zero_or_pos n with h | h; exact .inr (e2 h); exact .inl h⟩]
    · rw [if_neg (by unfold prOn; rw [if_pos rfl]; exact hp), if_neg (fun h => hp h.2.1)]
  · refine fk_on_any hold hrt (by omega) hmn hn hv hP hK r ?_
    rw [hr]
    by_cases hb : bres old P (stp m n true).1 (stp m n true).2 = some (old, rt)
    · rw [if_pos hb, if_pos ((prOn_posx (by omega) old rt P).2 hb)]
    · rw [if_neg hb, if_neg (fun h => hb ((prOn_posx (by omega) old rt P).1 h))]
set_option maxHeartbeats 1000000 in
theorem fk_con_bad {po pn : List Pt} (hso : smallP po) (hsn : smallP pn) {P : List (List (BitVec 8))} (hP : P.length ≤ 50) {w : World} {uo un up : Value} (ho : (Fk.mc po).f uo w) (hn : (Fk.mc pn).f un w) (hp : (Fk.hc P).f up w) (hK : Tab w) (h : po.length ≤ pn.length) (h2 : ¬ prOn po.length pn.length (mroot (lhs po)) (mroot (lhs pn)) P) :
    Calls Tryd.prog 20 #[.agg ([uo, un, up] : List Value).toArray] w fun e w' => ∃ u, e = .returned u ∧ (Fk.c3 false 22).f u w' ∧ Below w.heap.size w w' := by
  obtain ⟨oA, oC, rfl, _, ho2⟩ := mc_val ho
  obtain ⟨nA, nC, rfl, _, hn2⟩ := mc_val hn
  have hom := ho.1
  have hnm := hn.1
  have h40 := hso.2
  have h41 := hsn.2
  obtain ⟨ov, eov⟩ : ∃ x, Box (mroot (lhs po) = x) := ⟨_, ⟨rfl⟩⟩
  obtain ⟨nv, env⟩ : ∃ x, Box (mroot (lhs pn) = x) := ⟨_, ⟨rfl⟩⟩
  have hov : ov.length = 32 := by rw [← eov.out]; exact mroot_len (lhs_32 po)
  have hnv : nv.length = 32 := by rw [← env.out]; exact mroot_len (lhs_32 pn)
  have h0 : po.length = 0 → ov = shaOf [] ∧ (pn.length = 0 → nv = ov) := fun h1 => by
    have e1 := List.eq_nil_of_length_eq_zero h1
    have e2 : lhs po = [] := by rw [e1]; rfl
    refine ⟨by rw [← eov.out, e2, mroot_nil], fun h2 => ?_⟩
    have e3 : lhs pn = [] := by rw [List.eq_nil_of_length_eq_zero h2]; rfl
    rw [← eov.out, ← env.out, e2, e3]
  have hr : ¬ (prOn po.length pn.length ov nv P) := by rw [← eov.out, ← env.out]; exact h2
  go_enter Tryd.func20, Tryd.ntmps20
  refine code_both (fun f w1 => f.tmps.size = 56 ∧ f.defers = [] ∧ f.eval (.tmp 0) = .agg ([.slice oA po.length oC, .slice nA pn.length nC, up] : List Value).toArray ∧ Below w.heap.size w (w1)) ⟨rfl, rfl, rfl, Below.refl _ _⟩ ?_
  rintro f0 w0 ⟨sz, df, x0, bl⟩
  have bl0 := bl
  refine wp_seq ?_
  refine wp_region_seq [] (by kernel_rfl) (by kernel_rfl) (by rw [sz]; kernel_rfl) (by kernel_rfl) trivial ?_
  intro f1 w1 A hb
  replace bl0 := bl
  replace x0 := (A.old 0 rfl).trans x0
  replace bl := (bl.trans (Below.mono hb bl.size))
  replace sz := A.size.trans sz
  replace df := A.defs.trans df
  clear A hb
  refine wl_one (.nw w1.heap.size 47 ([.slice oA po.length oC, .slice nA pn.length nC, up] : List Value)) rfl 1 rfl (by rw [sz]; decide) (st_box 47 (.tmp 0) rfl _ _ (by rw [show _ = _ from x0]; kernel_rfl) (Nat.le_refl _)) ?_
  intro f2 w2 df2 sz2 old2 new2 hb
  replace bl0 := bl
  replace x0 := (old2 0 rfl).trans x0
  have x1 : Fk.f (.nw w1.heap.size 47 ([.slice oA po.length oC, .slice nA pn.length nC, up] : List Value)) (f2.eval (.tmp 1)) w2 := new2
  replace bl := (bl.trans (Below.mono hb bl.size))
  replace sz := sz2.trans sz
  replace df := df2.trans df
  clear df2 sz2 old2 new2 hb
  obtain ⟨g1, hg1, e1, m1⟩ := x1
  have x1 := e1
  clear e1
  have hw1 : w.heap.size ≤ g1 := Nat.le_trans bl0.size hg1
  clear x0
  refine wl_one (.nw w2.heap.size 25 [.slice none 0 0, .slice none 0 0]) rfl 2 rfl (by rw [sz]; decide) (st_alloc 25 rfl _ _ (by kernel_rfl) (Nat.le_refl _)) ?_
  intro f3 w3 df2 sz2 old2 new2 hb
  replace bl0 := bl
  replace x1 := (old2 1 rfl).trans x1
  have x2 : Fk.f (.nw w2.heap.size 25 [.slice none 0 0, .slice none 0 0]) (f3.eval (.tmp 2)) w3 := new2
  have lt_m1 := Ob.lt m1
  replace m1 := Ob.below m1 hb
  replace bl := (bl.trans (Below.mono hb bl.size))
  replace sz := sz2.trans sz
  replace df := df2.trans df
  clear df2 sz2 old2 new2 hb
  obtain ⟨g2, hg2, e2, m2⟩ := x2
  have x2 := e2
  clear e2
  have nm1_2 : g1 ≠ g2 := Nat.ne_of_lt (Nat.lt_of_lt_of_le lt_m1 hg2)
  have hw2 : w.heap.size ≤ g2 := Nat.le_trans bl0.size hg2
  refine wl_one (.eq (.bool false)) rfl 3 rfl (by rw [sz]; decide) (st_assign (.const (.bool false)) rfl rfl) ?_
  intro f4 w4 df2 sz2 old2 new2 hb
  replace bl0 := bl
  replace x1 := (old2 1 rfl).trans x1
  replace x2 := (old2 2 rfl).trans x2
  have x3 : f4.eval (.tmp 3) = .bool false := new2
  have lt_m1 := Ob.lt m1
  replace m1 := Ob.below m1 hb
  have lt_m2 := Ob.lt m2
  replace m2 := Ob.below m2 hb
  replace bl := (bl.trans (Below.mono hb bl.size))
  replace sz := sz2.trans sz
  replace df := df2.trans df
  clear df2 sz2 old2 new2 hb
  refine wl_one (.eq (.int .i64 0)) rfl 4 rfl (by rw [sz]; decide) (st_assign (.const (.int .i64 0)) rfl rfl) ?_
  intro f5 w5 df2 sz2 old2 new2 hb
  replace bl0 := bl
  replace x1 := (old2 1 rfl).trans x1
  replace x2 := (old2 2 rfl).trans x2
  replace x3 := (old2 3 rfl).trans x3
  have x4 : f5.eval (.tmp 4) = .int .i64 0 := new2
  have lt_m1 := Ob.lt m1
  replace m1 := Ob.below m1 hb
  have lt_m2 := Ob.lt m2
  replace m2 := Ob.below m2 hb
  replace bl := (bl.trans (Below.mono hb bl.size))
  replace sz := sz2.trans sz
  replace df := df2.trans df
  clear df2 sz2 old2 new2 hb
  refine wpList_nil ?_
  show Code.wp _ _ _ _ _
  refine wp_seq ?_
  refine wp_region_held_drew (S := fun W => W = w5.drew) Tryd.mixed rfl (fun hS => ?_)
  have hb : Below w5.heap.size w5 w5.drew := (Below.refl _ _).drew
  replace bl0 := bl
  have lt_m1 := Ob.lt m1
  replace m1 := Ob.below m1 hb
  have lt_m2 := Ob.lt m2
  replace m2 := Ob.below m2 hb
  replace bl := (bl.trans (Below.mono hb bl.size))
  clear hb hS
  generalize w5.drew = w6 at m1 m2 bl ⊢
  have hS : w6 = w6 := rfl
  refine wh_take 0 10 (v := .pointer (some ⟨g1, 0, none⟩)) rfl rfl (by rw [sz]; decide) rfl (by kernel_rfl) (by kernel_rfl) (by kernel_rfl) (fun _ _ _ h => h) (run_field rfl x1 (fun w => by kernel_rfl)) hS ?_
  intro f7 df2 sz2 old2 new2
  replace x1 := (old2 1 rfl).trans x1
  replace x2 := (old2 2 rfl).trans x2
  replace x3 := (old2 3 rfl).trans x3
  replace x4 := (old2 4 rfl).trans x4
  have x10 : f7.eval (.tmp 10) = .pointer (some ⟨g1, 0, none⟩) := new2
  replace sz := sz2.trans sz
  replace df := df2.trans df
  clear df2 sz2 old2 new2
  refine wh_take 1 11 (v := .slice oA po.length oC) rfl rfl (by rw [sz]; decide) rfl (by kernel_rfl) (by kernel_rfl) (by kernel_rfl) (fun _ _ _ h => h) (run_loadc rfl (fun w => by kernel_rfl) x10 (fun W hW => by rw [hW]; exact Ob.cell m1 0 rfl)) hS ?_
  intro f8 df2 sz2 old2 new2
  replace x1 := (old2 1 rfl).trans x1
  replace x2 := (old2 2 rfl).trans x2
  replace x3 := (old2 3 rfl).trans x3
  replace x4 := (old2 4 rfl).trans x4
  replace x10 := (old2 10 rfl).trans x10
  have x11 : f8.eval (.tmp 11) = .slice oA po.length oC := new2
  replace sz := sz2.trans sz
  replace df := df2.trans df
  clear df2 sz2 old2 new2
  refine wh_take 2 12 (v := .int .i64 ((po.length : Nat) : Int)) rfl rfl (by rw [sz]; decide) rfl (by kernel_rfl) (by kernel_rfl) (by kernel_rfl) (fun _ _ _ h => h) (run_lenT Tryd.under28 Tryd.elem28 rfl x11) hS ?_
  intro f9 df2 sz2 old2 new2
  replace x1 := (old2 1 rfl).trans x1
  replace x2 := (old2 2 rfl).trans x2
  replace x3 := (old2 3 rfl).trans x3
  replace x4 := (old2 4 rfl).trans x4
  replace x10 := (old2 10 rfl).trans x10
  replace x11 := (old2 11 rfl).trans x11
  have x12 : f9.eval (.tmp 12) = .int .i64 ((po.length : Nat) : Int) := new2
  replace sz := sz2.trans sz
  replace df := df2.trans df
  clear df2 sz2 old2 new2
  refine wh_take 3 13 (v := .pointer (some ⟨g1, 1, none⟩)) rfl rfl (by rw [sz]; decide) rfl (by kernel_rfl) (by kernel_rfl) (by kernel_rfl) (fun _ _ _ h => h) (run_field rfl x1 (fun w => by kernel_rfl)) hS ?_
  intro f10 df2 sz2 old2 new2
  replace x1 := (old2 1 rfl).trans x1
  replace x2 := (old2 2 rfl).trans x2
  replace x3 := (old2 3 rfl).trans x3
  replace x4 := (old2 4 rfl).trans x4
  replace x10 := (old2 10 rfl).trans x10
  replace x11 := (old2 11 rfl).trans x11
  replace x12 := (old2 12 rfl).trans x12
  have x13 : f10.eval (.tmp 13) = .pointer (some ⟨g1, 1, none⟩) := new2
  replace sz := sz2.trans sz
  replace df := df2.trans df
  clear df2 sz2 old2 new2
  refine wh_take 4 14 (v := .slice nA pn.length nC) rfl rfl (by rw [sz]; decide) rfl (by kernel_rfl) (by kernel_rfl) (by kernel_rfl) (fun _ _ _ h => h) (run_loadc rfl (fun w => by kernel_rfl) x13 (fun W hW => by rw [hW]; exact Ob.cell m1 1 rfl)) hS ?_
  intro f11 df2 sz2 old2 new2
  replace x1 := (old2 1 rfl).trans x1
  replace x2 := (old2 2 rfl).trans x2
  replace x3 := (old2 3 rfl).trans x3
  replace x4 := (old2 4 rfl).trans x4
  replace x10 := (old2 10 rfl).trans x10
  replace x11 := (old2 11 rfl).trans x11
  replace x12 := (old2 12 rfl).trans x12
  replace x13 := (old2 13 rfl).trans x13
  have x14 : f11.eval (.tmp 14) = .slice nA pn.length nC := new2
  replace sz := sz2.trans sz
  replace df := df2.trans df
  clear df2 sz2 old2 new2
  refine wh_take 5 15 (v := .int .i64 ((pn.length : Nat) : Int)) rfl rfl (by rw [sz]; decide) rfl (by kernel_rfl) (by kernel_rfl) (by kernel_rfl) (fun _ _ _ h => h) (run_lenT Tryd.under28 Tryd.elem28 rfl x14) hS ?_
  intro f12 df2 sz2 old2 new2
  replace x1 := (old2 1 rfl).trans x1
  replace x2 := (old2 2 rfl).trans x2
  replace x3 := (old2 3 rfl).trans x3
  replace x4 := (old2 4 rfl).trans x4
  replace x10 := (old2 10 rfl).trans x10
  replace x11 := (old2 11 rfl).trans x11
  replace x12 := (old2 12 rfl).trans x12
  replace x13 := (old2 13 rfl).trans x13
  replace x14 := (old2 14 rfl).trans x14
  have x15 : f12.eval (.tmp 15) = .int .i64 ((pn.length : Nat) : Int) := new2
  replace sz := sz2.trans sz
  replace df := df2.trans df
  clear df2 sz2 old2 new2
  refine wh_assign 6 5 rfl rfl (by rw [sz]; decide) rfl (by kernel_rfl) (.tmp 12) rfl hS ?_
  intro f13 df2 sz2 old2 new2
  have x5 : f13.eval (.tmp 5) = .int .i64 ((po.length : Nat) : Int) := new2.trans x12
  replace x1 := (old2 1 rfl).trans x1
  replace x2 := (old2 2 rfl).trans x2
  replace x3 := (old2 3 rfl).trans x3
  replace x4 := (old2 4 rfl).trans x4
  replace x10 := (old2 10 rfl).trans x10
  replace x11 := (old2 11 rfl).trans x11
  replace x12 := (old2 12 rfl).trans x12
  replace x13 := (old2 13 rfl).trans x13
  replace x14 := (old2 14 rfl).trans x14
  replace x15 := (old2 15 rfl).trans x15
  replace sz := sz2.trans sz
  replace df := df2.trans df
  clear df2 sz2 old2 new2
  refine wh_assign 7 6 rfl rfl (by rw [sz]; decide) rfl (by kernel_rfl) (.tmp 15) rfl hS ?_
  intro f14 df2 sz2 old2 new2
  have x6 : f14.eval (.tmp 6) = .int .i64 ((pn.length : Nat) : Int) := new2.trans x15
  replace x1 := (old2 1 rfl).trans x1
  replace x2 := (old2 2 rfl).trans x2
  replace x3 := (old2 3 rfl).trans x3
  replace x4 := (old2 4 rfl).trans x4
  replace x10 := (old2 10 rfl).trans x10
  replace x11 := (old2 11 rfl).trans x11
  replace x12 := (old2 12 rfl).trans x12
  replace x13 := (old2 13 rfl).trans x13
  replace x14 := (old2 14 rfl).trans x14
  replace x15 := (old2 15 rfl).trans x15
  replace x5 := (old2 5 rfl).trans x5
  replace sz := sz2.trans sz
  replace df := df2.trans df
  clear df2 sz2 old2 new2
  refine wpAnyH_done (by kernel_rfl) ?_ _
  clear hS
  clear x10
  clear x11
  clear x12
  clear x13
  clear x14
  clear x15
  show Code.wp _ _ _ _ _
  refine wp_seq ?_
  refine wp_seq ?_
  refine wp_all_seq [.eq (.int .i64 ((po.length : Nat) : Int)), .eq (.int .i64 ((pn.length : Nat) : Int)), .eq (.bool false)] (by kernel_rfl) (by kernel_rfl) (by rw [sz]; kernel_rfl) (by kernel_rfl) ⟨fun hw ac u K => ?_, fun hw ac u K => ?_, fun hw ac u K => ?_, trivial⟩ ?_
  · exact st_move (.tmp 5) rfl ((K.old 5 rfl).trans x5)
  · exact st_move (.tmp 6) rfl ((K.old 6 rfl).trans x6)
  · exact st_gtr 3 (.tmp 16) (.tmp 17) rfl .i64 (((po.length : Nat) : Int)) (((pn.length : Nat) : Int)) (K.dep 0 16 rfl) (K.dep 1 17 rfl) _ (by symm; rw [decide_eq_false_iff_not]; exact (by omega))
  intro f15 w15 A hb
  replace bl0 := bl
  replace x1 := (A.old 1 rfl).trans x1
  replace x2 := (A.old 2 rfl).trans x2
  replace x3 := (A.old 3 rfl).trans x3
  replace x4 := (A.old 4 rfl).trans x4
  replace x5 := (A.old 5 rfl).trans x5
  replace x6 := (A.old 6 rfl).trans x6
  have x18 : f15.eval (.tmp 18) = .bool false := A.has 2 18 rfl
  have lt_m1 := Ob.lt m1
  replace m1 := Ob.below m1 hb
  have lt_m2 := Ob.lt m2
  replace m2 := Ob.below m2 hb
  replace bl := (bl.trans (Below.mono hb bl.size))
  replace sz := A.size.trans sz
  replace df := A.defs.trans df
  clear A hb
  show Code.wp _ _ _ _ _
  refine wp_cond_false x18 ?_
  refine wp_skip ?_
  show Code.wp _ _ _ _ _
  refine wp_seq ?_
  refine wp_region_seq [.eq (.pointer (some ⟨g1, 0, none⟩)), .eq (.slice oA po.length oC), .eq (.agg ((ov).map V).toArray), .nw w15.heap.size 33 ((hz).map V)] (by kernel_rfl) (by kernel_rfl) (by rw [sz]; kernel_rfl) (by kernel_rfl) ⟨fun hw ac u K => ?_, fun hw ac u K => ?_, fun hw ac u K => ?_, fun hw ac u K => ?_, trivial⟩ ?_
  · exact st_field 47 0 (.tmp 1) rfl ((K.old 1 rfl).trans x1) (by kernel_rfl)
  · exact st_loadc 28 (.tmp 20) rfl (by kernel_rfl) (K.dep 0 20 rfl) (Ob.cell (Ob.below m1 K.grow) 0 rfl)
  · exact st_call 31 (.func 31) _ _ #[.slice oA po.length oC] rfl rfl (one_arg (K.dep 1 21 rfl)) Tryd.enter31 (fk_lroot (by omega) (smallP_mx hso) (Fk.mono _ _ _ _ hom (bl.trans (Below.mono K.grow bl.size))) (hK.below (bl.trans (Below.mono K.grow bl.size))) eov)
  · exact st_alloc33 rfl _ K.grow.size
  intro f16 w16 A hb
  replace bl0 := bl
  replace x1 := (A.old 1 rfl).trans x1
  replace x2 := (A.old 2 rfl).trans x2
  replace x3 := (A.old 3 rfl).trans x3
  replace x4 := (A.old 4 rfl).trans x4
  replace x5 := (A.old 5 rfl).trans x5
  replace x6 := (A.old 6 rfl).trans x6
  replace x18 := (A.old 18 rfl).trans x18
  have x7 : Fk.f (.nw w15.heap.size 33 ((hz).map V)) (f16.eval (.tmp 7)) w16 := A.has 3 7 rfl
  have x22 : f16.eval (.tmp 22) = .agg ((ov).map V).toArray := A.has 2 22 rfl
  have lt_m1 := Ob.lt m1
  replace m1 := Ob.below m1 hb
  have lt_m2 := Ob.lt m2
  replace m2 := Ob.below m2 hb
  replace bl := (bl.trans (Below.mono hb bl.size))
  replace sz := A.size.trans sz
  replace df := A.defs.trans df
  clear A hb
  obtain ⟨g7, hg7, e7, m7⟩ := x7
  have x7 := e7
  clear e7
  have nm1_7 : g1 ≠ g7 := Nat.ne_of_lt (Nat.lt_of_lt_of_le lt_m1 hg7)
  have nm2_7 : g2 ≠ g7 := Nat.ne_of_lt (Nat.lt_of_lt_of_le lt_m2 hg7)
  have hw7 : w.heap.size ≤ g7 := Nat.le_trans bl0.size hg7
  refine wl_store rfl (.tmp 7) (.tmp 22) rfl rfl (g7) (ov) (hz) x7 x22 m7 hz_len hov ?_
  replace m1 : Ob (w16.setRow g7 ((ov).map V : List Value).toArray) (g1) 47 ([.slice oA po.length oC, .slice nA pn.length nC, up]) := Ob.setRow_other m1 _ nm1_7
  replace m2 : Ob (w16.setRow g7 ((ov).map V : List Value).toArray) (g2) 25 ([.slice none 0 0, .slice none 0 0]) := Ob.setRow_other m2 _ nm2_7
  replace m7 : Ob (w16.setRow g7 ((ov).map V : List Value).toArray) (g7) 33 ((ov).map V) := Ob.setRow m7 ((ov).map V)
  replace bl : Below w.heap.size w (w16.setRow g7 ((ov).map V : List Value).toArray) := bl.trans (below_setRow _ _ _ _ hw7)
  generalize w16.setRow g7 ((ov).map V : List Value).toArray = w17b at bl m1 m2 m7 ⊢
  refine wpList_nil ?_
  clear x22
  show Code.wp _ _ _ _ _
  refine wp_seq ?_
  refine wp_seq ?_
  refine wp_all [.eq (.int .i64 ((po.length : Nat) : Int)), .eq (.int .i64 ((pn.length : Nat) : Int)), .eq (.agg ((ov).map V).toArray), .eq (.pointer (some ⟨g1, 1, none⟩)), .eq (.slice nA pn.length nC), .eq (.agg ((nv).map V).toArray), .eq (.pointer (some ⟨g1, 2, none⟩)), .eq (up), .eq (.int .i64 22), .eq (.bool true)] Tryd.mixed (by kernel_rfl) (by kernel_rfl) (by rw [sz]; kernel_rfl) (by kernel_rfl) ⟨fun hw ac u K => ?_, fun hw ac u K => ?_, fun hw ac u K => ?_, fun hw ac u K => ?_, fun hw ac u K => ?_, fun hw ac u K => ?_, fun hw ac u K => ?_, fun hw ac u K => ?_, fun hw ac u K => ?_, fun hw ac u K => ?_, trivial⟩ ?_
  · exact st_move (.tmp 5) rfl ((K.old 5 rfl).trans x5)
  · exact st_move (.tmp 6) rfl ((K.old 6 rfl).trans x6)
  · exact st_load33 (.tmp 7) rfl (g7) (ov) ((K.old 7 rfl).trans x7) hov (Ob.below m7 K.grow)
  · exact st_field 47 1 (.tmp 1) rfl ((K.old 1 rfl).trans x1) (by kernel_rfl)
  · exact st_loadc 28 (.tmp 26) rfl (by kernel_rfl) (K.dep 3 26 rfl) (Ob.cell (Ob.below m1 K.grow) 1 rfl)
  · exact st_call 31 (.func 31) _ _ #[.slice nA pn.length nC] rfl rfl (one_arg (K.dep 4 27 rfl)) Tryd.enter31 (fk_lroot (by omega) (smallP_mx hsn) (Fk.mono _ _ _ _ hnm (bl.trans (Below.mono K.grow bl.size))) (hK.below (bl.trans (Below.mono K.grow bl.size))) env)
  · exact st_field 47 2 (.tmp 1) rfl ((K.old 1 rfl).trans x1) (by kernel_rfl)
  · exact st_loadc 35 (.tmp 29) rfl (by kernel_rfl) (K.dep 6 29 rfl) (Ob.cell (Ob.below m1 K.grow) 2 rfl)
  · exact st_call 21 (.func 21) _ _ #[.int .i64 ((po.length : Nat) : Int), .int .i64 ((pn.length : Nat) : Int), .agg ((ov).map V).toArray, .agg ((nv).map V).toArray, up] rfl rfl (arg5 (K.dep 0 23 rfl) (K.dep 1 24 rfl) (K.dep 2 25 rfl) (K.dep 5 28 rfl) (K.dep 7 30 rfl)) Tryd.enter21 (fk_on_allx hov hnv h (by omega) (Fk.mono _ _ _ _ hp (bl.trans (Below.mono K.grow bl.size))) (by omega) (hK.below (bl.trans (Below.mono K.grow bl.size))) h0 _ (by rw [if_neg hr]))
  · exact st_neqi 40 (.tmp 31) (.const (.int .i64 0)) rfl .i64 (22) (0) (K.dep 8 31 rfl) rfl _ (by rfl)
  intro f18 w18 A hb
  replace bl0 := bl
  replace x1 := (A.old 1 rfl).trans x1
  replace x2 := (A.old 2 rfl).trans x2
  replace x3 := (A.old 3 rfl).trans x3
  replace x4 := (A.old 4 rfl).trans x4
  replace x5 := (A.old 5 rfl).trans x5
  replace x6 := (A.old 6 rfl).trans x6
  replace x18 := (A.old 18 rfl).trans x18
  replace x7 := (A.old 7 rfl).trans x7
  have x32 : f18.eval (.tmp 32) = .bool true := A.has 9 32 rfl
  have lt_m1 := Ob.lt m1
  replace m1 := Ob.below m1 hb
  have lt_m2 := Ob.lt m2
  replace m2 := Ob.below m2 hb
  have lt_m7 := Ob.lt m7
  replace m7 := Ob.below m7 hb
  replace bl := (bl.trans (Below.mono hb bl.size))
  replace sz := A.size.trans sz
  replace df := A.defs.trans df
  clear A hb
  show Code.wp _ _ _ _ _
  refine wp_cond_true x32 ?_
  refine wp_seq ?_
  refine wp_region_seq [.eq (.agg ([.slice none 0 0, .slice none 0 0] : List Value).toArray)] (by kernel_rfl) (by kernel_rfl) (by rw [sz]; kernel_rfl) (by kernel_rfl) ⟨fun hw ac u K => ?_, trivial⟩ ?_
  · exact st_build 25 _ rfl (by kernel_rfl)
  intro f19 w19 A hb
  replace bl0 := bl
  replace x1 := (A.old 1 rfl).trans x1
  replace x2 := (A.old 2 rfl).trans x2
  replace x3 := (A.old 3 rfl).trans x3
  replace x4 := (A.old 4 rfl).trans x4
  replace x5 := (A.old 5 rfl).trans x5
  replace x6 := (A.old 6 rfl).trans x6
  replace x18 := (A.old 18 rfl).trans x18
  replace x7 := (A.old 7 rfl).trans x7
  replace x32 := (A.old 32 rfl).trans x32
  have x33 : f19.eval (.tmp 33) = .agg ([.slice none 0 0, .slice none 0 0] : List Value).toArray := A.has 0 33 rfl
  have lt_m1 := Ob.lt m1
  replace m1 := Ob.below m1 hb
  have lt_m2 := Ob.lt m2
  replace m2 := Ob.below m2 hb
  have lt_m7 := Ob.lt m7
  replace m7 := Ob.below m7 hb
  replace bl := (bl.trans (Below.mono hb bl.size))
  replace sz := A.size.trans sz
  replace df := A.defs.trans df
  clear A hb
  refine wl_str rfl 25 (.tmp 2) (.tmp 33) rfl rfl (g2) ([.slice none 0 0, .slice none 0 0] : List Value).toArray x2 x33 25 _ m2 (by kernel_rfl) (by kernel_rfl) (by kernel_rfl) ?_
  replace m1 : Ob (w19.setRow g2 ([.slice none 0 0, .slice none 0 0] : List Value).toArray) (g1) 47 ([.slice oA po.length oC, .slice nA pn.length nC, up]) := Ob.setRow_other m1 _ nm1_2
  replace m2 : Ob (w19.setRow g2 ([.slice none 0 0, .slice none 0 0] : List Value).toArray) (g2) 25 ([.slice none 0 0, .slice none 0 0]) := Ob.setRow m2 ([.slice none 0 0, .slice none 0 0])
  replace m7 : Ob (w19.setRow g2 ([.slice none 0 0, .slice none 0 0] : List Value).toArray) (g7) 33 ((ov).map V) := Ob.setRow_other m7 _ nm2_7.symm
  replace bl : Below w.heap.size w (w19.setRow g2 ([.slice none 0 0, .slice none 0 0] : List Value).toArray) := bl.trans (below_setRow _ _ _ _ hw2)
  generalize w19.setRow g2 ([.slice none 0 0, .slice none 0 0] : List Value).toArray = w20b at bl m1 m2 m7 ⊢
  clear x33
  refine wl_one (.eq (.bool false)) rfl 3 rfl (by rw [sz]; decide) (st_assign (.const (.bool false)) rfl rfl) ?_
  intro f21 w21 df2 sz2 old2 new2 hb
  replace bl0 := bl
  replace x1 := (old2 1 rfl).trans x1
  replace x2 := (old2 2 rfl).trans x2
  clear x3
  replace x4 := (old2 4 rfl).trans x4
  replace x5 := (old2 5 rfl).trans x5
  replace x6 := (old2 6 rfl).trans x6
  replace x18 := (old2 18 rfl).trans x18
  replace x7 := (old2 7 rfl).trans x7
  replace x32 := (old2 32 rfl).trans x32
  have x3 : f21.eval (.tmp 3) = .bool false := new2
  have lt_m1 := Ob.lt m1
  replace m1 := Ob.below m1 hb
  have lt_m2 := Ob.lt m2
  replace m2 := Ob.below m2 hb
  have lt_m7 := Ob.lt m7
  replace m7 := Ob.below m7 hb
  replace bl := (bl.trans (Below.mono hb bl.size))
  replace sz := sz2.trans sz
  replace df := df2.trans df
  clear df2 sz2 old2 new2 hb
  refine wl_one (.eq (.int .i64 22)) rfl 4 rfl (by rw [sz]; decide) (st_assign (.const (.int .i64 22)) rfl rfl) ?_
  intro f22 w22 df2 sz2 old2 new2 hb
  replace bl0 := bl
  replace x1 := (old2 1 rfl).trans x1
  replace x2 := (old2 2 rfl).trans x2
  clear x4
  replace x5 := (old2 5 rfl).trans x5
  replace x6 := (old2 6 rfl).trans x6
  replace x18 := (old2 18 rfl).trans x18
  replace x7 := (old2 7 rfl).trans x7
  replace x32 := (old2 32 rfl).trans x32
  replace x3 := (old2 3 rfl).trans x3
  have x4 : f22.eval (.tmp 4) = .int .i64 22 := new2
  have lt_m1 := Ob.lt m1
  replace m1 := Ob.below m1 hb
  have lt_m2 := Ob.lt m2
  replace m2 := Ob.below m2 hb
  have lt_m7 := Ob.lt m7
  replace m7 := Ob.below m7 hb
  replace bl := (bl.trans (Below.mono hb bl.size))
  replace sz := sz2.trans sz
  replace df := df2.trans df
  clear df2 sz2 old2 new2 hb
  refine wpList_nil ?_
  show Code.wp _ _ _ _ _
  refine wp_ret ?_
  repeat (first | with_reducible refine then_ret ?_ | with_reducible refine block_ret ?_)
  exact bodyPost_ret (v := .tuple #[.agg ([.slice none 0 0, .slice none 0 0] : List Value).toArray, .bool false, .int .i64 22]) (ret_c3 rfl f22 _ g2 _ _ _ _ x2 m2 x3 x4) df ⟨_, rfl, c3_none _ _, bl⟩
end Go.Proofs.YtfmeeimhfdnjpaaDoor
namespace Go.Proofs.YtfmeeimhfdnjpaaDoor
set_option maxRecDepth 100000
open Go.RowKit
theorem awake_any (w : World) (hK : Tab w) :
    Calls Tryd.prog 8 #[] w fun e w' => e = .returned (.bool true) ∧ Below w.heap.size w w' := by
  have hn1 := mc_nil w
  have hn2 := sl_nil w
  have hn3 := hc_nil w
  go_enter Tryd.func8, Tryd.ntmps8
  refine code_both (fun f w1 => f.tmps.size = 29 ∧ f.defers = [] ∧ Below w.heap.size w (w1)) ⟨rfl, rfl, Below.refl _ _⟩ ?_
  rintro f0 w0 ⟨sz, df, bl⟩
  have bl0 := bl
  refine wp_seq ?_
  refine wp_all_seq [.eq (.bool false)] (by kernel_rfl) (by kernel_rfl) (by rw [sz]; kernel_rfl) (by kernel_rfl) ⟨fun hw ac u K => ?_, trivial⟩ ?_
  · exact st_assign (.const (.bool false)) rfl rfl
  intro f1 w1 A hb
  replace bl0 := bl
  have x0 : f1.eval (.tmp 0) = .bool false := A.has 0 0 rfl
  replace bl := (bl.trans (Below.mono hb bl.size))
  replace sz := A.size.trans sz
  replace df := A.defs.trans df
  clear A hb
  show Code.wp _ _ _ _ _
  refine wp_seq ?_
  refine wp_region_seq [.eq (.agg ([.int .i64 0, .int .i64 0, .slice none 0 0, .slice none 0 0] : List Value).toArray)] (by kernel_rfl) (by kernel_rfl) (by rw [sz]; kernel_rfl) (by kernel_rfl) ⟨fun hw ac u K => ?_, trivial⟩ ?_
  · exact st_build 39 _ rfl (by kernel_rfl)
  intro f2 w2 A hb
  replace bl0 := bl
  replace x0 := (A.old 0 rfl).trans x0
  have x8 : f2.eval (.tmp 8) = .agg ([.int .i64 0, .int .i64 0, .slice none 0 0, .slice none 0 0] : List Value).toArray := A.has 0 8 rfl
  replace bl := (bl.trans (Below.mono hb bl.size))
  replace sz := A.size.trans sz
  replace df := A.defs.trans df
  clear A hb
  refine wl_call 16 (.func 16) _ _ #[.slice none 0 0, .agg ([.int .i64 0, .int .i64 0, .slice none 0 0, .slice none 0 0] : List Value).toArray] rfl 9 rfl (by rw [sz]; decide) rfl rfl (arg2 rfl x8) Tryd.enter16 (fun u W => (Fk.c3 false 11).f u W ∧ Below w2.heap.size w2 W) (fk_cin_no (ps := []) (lb := []) (P := []) (i := 0) (n := 0) ⟨by simp, by simp⟩ (by simp) (by simp) (mc_nil _) (sl_nil _) (hc_nil _) (hK.below bl) (.inr (.inr (by simp)))) ?_
  rintro f3 w3 df2 sz2 old2 ⟨⟨A1, B1, u11, u21, new2, hA1, hB1, hlA1, hlB1, hr1⟩, hb⟩
  obtain ⟨pA1, mA1, cA1, _, _, rfl, _⟩ := id hA1
  obtain ⟨pB1, mB1, cB1, _, _, rfl, _⟩ := id hB1
  replace bl0 := bl
  replace x0 := (old2 0 rfl).trans x0
  replace x8 := (old2 8 rfl).trans x8
  have x9 : f3.eval (.tmp 9) = .tuple #[.agg ([.slice pA1 mA1 cA1, .slice pB1 mB1 cB1] : List Value).toArray, .bool false, .int .i64 11] := new2
  replace bl := (bl.trans (Below.mono hb bl.size))
  replace sz := sz2.trans sz
  replace df := df2.trans df
  clear df2 sz2 old2 new2 hb
  have blw := bl
  replace hn1 := Fk.mono _ _ _ _ hn1 bl
  replace hn2 := Fk.mono _ _ _ _ hn2 bl
  replace hn3 := Fk.mono _ _ _ _ hn3 bl
  replace hK := hK.below bl
  replace bl := Below.refl w3.heap.size w3
  replace bl0 := bl
  clear x8
  refine wl_one (.eq (.tuple #[.agg ([.slice pA1 mA1 cA1, .slice pB1 mB1 cB1] : List Value).toArray, .bool false, .int .i64 11])) rfl 7 rfl (by rw [sz]; decide) (st_move (.tmp 9) rfl x9) ?_
  intro f4 w4 df2 sz2 old2 new2 hb
  replace bl0 := bl
  replace x0 := (old2 0 rfl).trans x0
  replace x9 := (old2 9 rfl).trans x9
  have x7 : f4.eval (.tmp 7) = .tuple #[.agg ([.slice pA1 mA1 cA1, .slice pB1 mB1 cB1] : List Value).toArray, .bool false, .int .i64 11] := new2
  replace bl := (bl.trans (Below.mono hb bl.size))
  replace sz := sz2.trans sz
  replace df := df2.trans df
  clear df2 sz2 old2 new2 hb
  clear x9
  refine wl_one (.eq (.agg ([.slice pA1 mA1 cA1, .slice pB1 mB1 cB1] : List Value).toArray)) rfl 10 rfl (by rw [sz]; decide) (st_tup (.tmp 7) rfl x7 (by rfl)) ?_
  intro f5 w5 df2 sz2 old2 new2 hb
  replace bl0 := bl
  replace x0 := (old2 0 rfl).trans x0
  replace x7 := (old2 7 rfl).trans x7
  have x10 : f5.eval (.tmp 10) = .agg ([.slice pA1 mA1 cA1, .slice pB1 mB1 cB1] : List Value).toArray := new2
  replace bl := (bl.trans (Below.mono hb bl.size))
  replace sz := sz2.trans sz
  replace df := df2.trans df
  clear df2 sz2 old2 new2 hb
  refine wl_one (.eq (.bool false)) rfl 11 rfl (by rw [sz]; decide) (st_tup (.tmp 7) rfl x7 (by rfl)) ?_
  intro f6 w6 df2 sz2 old2 new2 hb
  replace bl0 := bl
  replace x0 := (old2 0 rfl).trans x0
  replace x7 := (old2 7 rfl).trans x7
  replace x10 := (old2 10 rfl).trans x10
  have x11 : f6.eval (.tmp 11) = .bool false := new2
  replace bl := (bl.trans (Below.mono hb bl.size))
  replace sz := sz2.trans sz
  replace df := df2.trans df
  clear df2 sz2 old2 new2 hb
  refine wl_one (.eq (.int .i64 11)) rfl 12 rfl (by rw [sz]; decide) (st_tup (.tmp 7) rfl x7 (by rfl)) ?_
  intro f7 w7 df2 sz2 old2 new2 hb
  replace bl0 := bl
  replace x0 := (old2 0 rfl).trans x0
  replace x7 := (old2 7 rfl).trans x7
  replace x10 := (old2 10 rfl).trans x10
  replace x11 := (old2 11 rfl).trans x11
  have x12 : f7.eval (.tmp 12) = .int .i64 11 := new2
  replace bl := (bl.trans (Below.mono hb bl.size))
  replace sz := sz2.trans sz
  replace df := df2.trans df
  clear df2 sz2 old2 new2 hb
  clear x7
  refine wl_one (.nw w7.heap.size 25 [.slice none 0 0, .slice none 0 0]) rfl 1 rfl (by rw [sz]; decide) (st_alloc 25 rfl _ _ (by kernel_rfl) (Nat.le_refl _)) ?_
  intro f8 w8 df2 sz2 old2 new2 hb
  replace bl0 := bl
  replace x0 := (old2 0 rfl).trans x0
  replace x10 := (old2 10 rfl).trans x10
  replace x11 := (old2 11 rfl).trans x11
  replace x12 := (old2 12 rfl).trans x12
  have x1 : Fk.f (.nw w7.heap.size 25 [.slice none 0 0, .slice none 0 0]) (f8.eval (.tmp 1)) w8 := new2
  replace bl := (bl.trans (Below.mono hb bl.size))
  replace sz := sz2.trans sz
  replace df := df2.trans df
  clear df2 sz2 old2 new2 hb
  obtain ⟨g1, hg1, e1, m1⟩ := x1
  have x1 := e1
  clear e1
  have hw1 : w3.heap.size ≤ g1 := Nat.le_trans bl0.size hg1
  refine wl_str rfl 25 (.tmp 1) (.tmp 10) rfl rfl (g1) ([.slice pA1 mA1 cA1, .slice pB1 mB1 cB1] : List Value).toArray x1 x10 25 _ m1 (by kernel_rfl) (by kernel_rfl) (by kernel_rfl) ?_
  replace m1 : Ob (w8.setRow g1 ([.slice pA1 mA1 cA1, .slice pB1 mB1 cB1] : List Value).toArray) (g1) 25 ([.slice pA1 mA1 cA1, .slice pB1 mB1 cB1]) := Ob.setRow m1 ([.slice pA1 mA1 cA1, .slice pB1 mB1 cB1])
  replace bl : Below w3.heap.size w3 (w8.setRow g1 ([.slice pA1 mA1 cA1, .slice pB1 mB1 cB1] : List Value).toArray) := bl.trans (below_setRow _ _ _ _ hw1)
  generalize w8.setRow g1 ([.slice pA1 mA1 cA1, .slice pB1 mB1 cB1] : List Value).toArray = w9b at bl m1 ⊢
  clear x10
  clear x1
  refine wl_one (.eq (.bool false)) rfl 2 rfl (by rw [sz]; decide) (st_assign (.tmp 11) rfl x11) ?_
  intro f10 w10 df2 sz2 old2 new2 hb
  replace bl0 := bl
  replace x0 := (old2 0 rfl).trans x0
  replace x11 := (old2 11 rfl).trans x11
  replace x12 := (old2 12 rfl).trans x12
  have x2 : f10.eval (.tmp 2) = .bool false := new2
  have lt_m1 := Ob.lt m1
  replace m1 := Ob.below m1 hb
  replace bl := (bl.trans (Below.mono hb bl.size))
  replace sz := sz2.trans sz
  replace df := df2.trans df
  clear df2 sz2 old2 new2 hb
  clear x11
  clear x2
  refine wl_one (.eq (.int .i64 11)) rfl 3 rfl (by rw [sz]; decide) (st_assign (.tmp 12) rfl x12) ?_
  intro f11 w11 df2 sz2 old2 new2 hb
  replace bl0 := bl
  replace x0 := (old2 0 rfl).trans x0
  replace x12 := (old2 12 rfl).trans x12
  have x3 : f11.eval (.tmp 3) = .int .i64 11 := new2
  have lt_m1 := Ob.lt m1
  replace m1 := Ob.below m1 hb
  replace bl := (bl.trans (Below.mono hb bl.size))
  replace sz := sz2.trans sz
  replace df := df2.trans df
  clear df2 sz2 old2 new2 hb
  refine wpList_nil ?_
  clear x12
  show Code.wp _ _ _ _ _
  refine wp_seq ?_
  refine wp_region_seq [] (by kernel_rfl) (by kernel_rfl) (by rw [sz]; kernel_rfl) (by kernel_rfl) trivial ?_
  intro f12 w12 A hb
  replace bl0 := bl
  replace x0 := (A.old 0 rfl).trans x0
  replace x3 := (A.old 3 rfl).trans x3
  have lt_m1 := Ob.lt m1
  replace m1 := Ob.below m1 hb
  replace bl := (bl.trans (Below.mono hb bl.size))
  replace sz := A.size.trans sz
  replace df := A.defs.trans df
  clear A hb
  refine wl_one (.sl ([1#8])) rfl 14 rfl (by rw [sz]; decide) (st_b1 1 1#8 rfl (by rfl)) ?_
  intro f13 w13 df2 sz2 old2 new2 hb
  replace bl0 := bl
  replace x0 := (old2 0 rfl).trans x0
  replace x3 := (old2 3 rfl).trans x3
  have x14 : Fk.f (.sl ([1#8])) (f13.eval (.tmp 14)) w13 := new2
  have lt_m1 := Ob.lt m1
  replace m1 := Ob.below m1 hb
  replace bl := (bl.trans (Below.mono hb bl.size))
  replace sz := sz2.trans sz
  replace df := df2.trans df
  clear df2 sz2 old2 new2 hb
  refine wl_one (.m1 ([1#8])) rfl 15 rfl (by rw [sz]; decide) (st_bm1 (.tmp 14) rfl x14) ?_
  intro f14 w14 df2 sz2 old2 new2 hb
  replace bl0 := bl
  replace x0 := (old2 0 rfl).trans x0
  replace x3 := (old2 3 rfl).trans x3
  replace x14 := f_at (old2 14 rfl) (Fk.mono _ _ _ _ x14 hb)
  have x15 : Fk.f (.m1 ([1#8])) (f14.eval (.tmp 15)) w14 := new2
  have lt_m1 := Ob.lt m1
  replace m1 := Ob.below m1 hb
  replace bl := (bl.trans (Below.mono hb bl.size))
  replace sz := sz2.trans sz
  replace df := df2.trans df
  clear df2 sz2 old2 new2 hb
  clear x14
  refine wl_one (.eq (.agg ((hz).map V).toArray)) rfl 16 rfl (by rw [sz]; decide) (st_zero33 rfl) ?_
  intro f15 w15 df2 sz2 old2 new2 hb
  replace bl0 := bl
  replace x0 := (old2 0 rfl).trans x0
  replace x3 := (old2 3 rfl).trans x3
  replace x15 := f_at (old2 15 rfl) (Fk.mono _ _ _ _ x15 hb)
  have x16 : f15.eval (.tmp 16) = .agg ((hz).map V).toArray := new2
  have lt_m1 := Ob.lt m1
  replace m1 := Ob.below m1 hb
  replace bl := (bl.trans (Below.mono hb bl.size))
  replace sz := sz2.trans sz
  replace df := df2.trans df
  clear df2 sz2 old2 new2 hb
  refine wl_one (.hc ([hz])) rfl 17 rfl (by rw [sz]; decide) (st_bh1c (.tmp 16) rfl hz_len x16) ?_
  intro f16 w16 df2 sz2 old2 new2 hb
  replace bl0 := bl
  replace x0 := (old2 0 rfl).trans x0
  replace x3 := (old2 3 rfl).trans x3
  replace x15 := f_at (old2 15 rfl) (Fk.mono _ _ _ _ x15 hb)
  replace x16 := (old2 16 rfl).trans x16
  have x17 : Fk.f (.hc ([hz])) (f16.eval (.tmp 17)) w16 := new2
  have lt_m1 := Ob.lt m1
  replace m1 := Ob.below m1 hb
  replace bl := (bl.trans (Below.mono hb bl.size))
  replace sz := sz2.trans sz
  replace df := df2.trans df
  clear df2 sz2 old2 new2 hb
  clear x16
  obtain ⟨v15, e15⟩ : ∃ v, f16.eval (.tmp 15) = v := ⟨_, rfl⟩
  obtain ⟨p15, hp15, h15⟩ := x15
  rw [e15] at h15
  replace x15 := e15
  clear e15
  obtain ⟨v17, e17⟩ : ∃ v, f16.eval (.tmp 17) = v := ⟨_, rfl⟩
  have h17 := x17
  rw [e17] at h17
  replace x17 := e17
  clear e17
  obtain ⟨A15, C15, _, _, rfl, _⟩ := id h15.1
  obtain ⟨A17, C17, _, _, rfl, _⟩ := id h17
  refine wl_one (.eq (.agg ([.slice none 0 0, .slice A15 [p15].length C15, .slice A17 [hz].length C17] : List Value).toArray)) rfl 18 rfl (by rw [sz]; decide) (st_build 47 _ rfl (by simp only [List.map_toArray, List.map_cons, List.map_nil, show f16.eval (.tmp 15) = _ from x15, show f16.eval (.tmp 17) = _ from x17]; kernel_rfl)) ?_
  intro f17 w17 df2 sz2 old2 new2 hb
  replace bl0 := bl
  replace x0 := (old2 0 rfl).trans x0
  replace x3 := (old2 3 rfl).trans x3
  replace x15 := (old2 15 rfl).trans x15
  replace x17 := (old2 17 rfl).trans x17
  have x18 : f17.eval (.tmp 18) = .agg ([.slice none 0 0, .slice A15 [p15].length C15, .slice A17 [hz].length C17] : List Value).toArray := new2
  have lt_m1 := Ob.lt m1
  replace m1 := Ob.below m1 hb
  replace h15 := Fk.mono _ _ _ _ h15 hb
  replace h17 := Fk.mono _ _ _ _ h17 hb
  replace bl := (bl.trans (Below.mono hb bl.size))
  replace sz := sz2.trans sz
  replace df := df2.trans df
  clear df2 sz2 old2 new2 hb
  clear x15
  clear x17
  refine wl_call 20 (.func 20) _ _ #[.agg ([.slice none 0 0, .slice A15 [p15].length C15, .slice A17 [hz].length C17] : List Value).toArray] rfl 19 rfl (by rw [sz]; decide) rfl rfl (one_arg x18) Tryd.enter20 (fun u W => (Fk.c3 false 22).f u W ∧ Below w17.heap.size w17 W) (fk_con_bad (po := []) (pn := [p15]) (P := [hz]) ⟨by simp, by simp⟩ ⟨fun p hp => by rw [List.mem_singleton.1 hp, hp15]; simp, by simp⟩ (by simp) (mc_nil _) h15 h17 (hK.below bl) (by simp) (by simp [prOn])) ?_
  rintro f18 w18 df2 sz2 old2 ⟨⟨A2, B2, u12, u22, new2, hA2, hB2, hlA2, hlB2, hr2⟩, hb⟩
  obtain ⟨pA2, mA2, cA2, _, _, rfl, _⟩ := id hA2
  obtain ⟨pB2, mB2, cB2, _, _, rfl, _⟩ := id hB2
  replace bl0 := bl
  replace x0 := (old2 0 rfl).trans x0
  replace x3 := (old2 3 rfl).trans x3
  replace x18 := (old2 18 rfl).trans x18
  have x19 : f18.eval (.tmp 19) = .tuple #[.agg ([.slice pA2 mA2 cA2, .slice pB2 mB2 cB2] : List Value).toArray, .bool false, .int .i64 22] := new2
  have lt_m1 := Ob.lt m1
  replace m1 := Ob.below m1 hb
  replace h15 := Fk.mono _ _ _ _ h15 hb
  replace h17 := Fk.mono _ _ _ _ h17 hb
  replace bl := (bl.trans (Below.mono hb bl.size))
  replace sz := sz2.trans sz
  replace df := df2.trans df
  clear df2 sz2 old2 new2 hb
  replace blw := blw.trans (Below.mono bl blw.size)
  replace hn1 := Fk.mono _ _ _ _ hn1 bl
  replace hn2 := Fk.mono _ _ _ _ hn2 bl
  replace hn3 := Fk.mono _ _ _ _ hn3 bl
  replace hA1 := Fk.mono _ _ _ _ hA1 bl
  replace hB1 := Fk.mono _ _ _ _ hB1 bl
  replace hK := hK.below bl
  replace bl := Below.refl w18.heap.size w18
  replace bl0 := bl
  clear x18
  refine wl_one (.eq (.tuple #[.agg ([.slice pA2 mA2 cA2, .slice pB2 mB2 cB2] : List Value).toArray, .bool false, .int .i64 22])) rfl 13 rfl (by rw [sz]; decide) (st_move (.tmp 19) rfl x19) ?_
  intro f19 w19 df2 sz2 old2 new2 hb
  replace bl0 := bl
  replace x0 := (old2 0 rfl).trans x0
  replace x3 := (old2 3 rfl).trans x3
  replace x19 := (old2 19 rfl).trans x19
  have x13 : f19.eval (.tmp 13) = .tuple #[.agg ([.slice pA2 mA2 cA2, .slice pB2 mB2 cB2] : List Value).toArray, .bool false, .int .i64 22] := new2
  replace bl := (bl.trans (Below.mono hb bl.size))
  replace sz := sz2.trans sz
  replace df := df2.trans df
  clear df2 sz2 old2 new2 hb
  clear x19
  refine wl_one (.eq (.agg ([.slice pA2 mA2 cA2, .slice pB2 mB2 cB2] : List Value).toArray)) rfl 20 rfl (by rw [sz]; decide) (st_tup (.tmp 13) rfl x13 (by rfl)) ?_
  intro f20 w20 df2 sz2 old2 new2 hb
  replace bl0 := bl
  replace x0 := (old2 0 rfl).trans x0
  replace x3 := (old2 3 rfl).trans x3
  replace x13 := (old2 13 rfl).trans x13
  have x20 : f20.eval (.tmp 20) = .agg ([.slice pA2 mA2 cA2, .slice pB2 mB2 cB2] : List Value).toArray := new2
  replace bl := (bl.trans (Below.mono hb bl.size))
  replace sz := sz2.trans sz
  replace df := df2.trans df
  clear df2 sz2 old2 new2 hb
  refine wl_one (.eq (.bool false)) rfl 21 rfl (by rw [sz]; decide) (st_tup (.tmp 13) rfl x13 (by rfl)) ?_
  intro f21 w21 df2 sz2 old2 new2 hb
  replace bl0 := bl
  replace x0 := (old2 0 rfl).trans x0
  replace x3 := (old2 3 rfl).trans x3
  replace x13 := (old2 13 rfl).trans x13
  replace x20 := (old2 20 rfl).trans x20
  have x21 : f21.eval (.tmp 21) = .bool false := new2
  replace bl := (bl.trans (Below.mono hb bl.size))
  replace sz := sz2.trans sz
  replace df := df2.trans df
  clear df2 sz2 old2 new2 hb
  refine wl_one (.eq (.int .i64 22)) rfl 22 rfl (by rw [sz]; decide) (st_tup (.tmp 13) rfl x13 (by rfl)) ?_
  intro f22 w22 df2 sz2 old2 new2 hb
  replace bl0 := bl
  replace x0 := (old2 0 rfl).trans x0
  replace x3 := (old2 3 rfl).trans x3
  replace x13 := (old2 13 rfl).trans x13
  replace x20 := (old2 20 rfl).trans x20
  replace x21 := (old2 21 rfl).trans x21
  have x22 : f22.eval (.tmp 22) = .int .i64 22 := new2
  replace bl := (bl.trans (Below.mono hb bl.size))
  replace sz := sz2.trans sz
  replace df := df2.trans df
  clear df2 sz2 old2 new2 hb
  clear x13
  refine wl_one (.nw w22.heap.size 25 [.slice none 0 0, .slice none 0 0]) rfl 4 rfl (by rw [sz]; decide) (st_alloc 25 rfl _ _ (by kernel_rfl) (Nat.le_refl _)) ?_
  intro f23 w23 df2 sz2 old2 new2 hb
  replace bl0 := bl
  replace x0 := (old2 0 rfl).trans x0
  replace x3 := (old2 3 rfl).trans x3
  replace x20 := (old2 20 rfl).trans x20
  replace x21 := (old2 21 rfl).trans x21
  replace x22 := (old2 22 rfl).trans x22
  have x4 : Fk.f (.nw w22.heap.size 25 [.slice none 0 0, .slice none 0 0]) (f23.eval (.tmp 4)) w23 := new2
  replace bl := (bl.trans (Below.mono hb bl.size))
  replace sz := sz2.trans sz
  replace df := df2.trans df
  clear df2 sz2 old2 new2 hb
  obtain ⟨g4, hg4, e4, m4⟩ := x4
  have x4 := e4
  clear e4
  have nm1_4 : g1 ≠ g4 := Nat.ne_of_lt (Nat.lt_of_lt_of_le (Ob.lt m1) (Nat.le_trans bl0.size hg4))
  have hw4 : w18.heap.size ≤ g4 := Nat.le_trans bl0.size hg4
  refine wl_str rfl 25 (.tmp 4) (.tmp 20) rfl rfl (g4) ([.slice pA2 mA2 cA2, .slice pB2 mB2 cB2] : List Value).toArray x4 x20 25 _ m4 (by kernel_rfl) (by kernel_rfl) (by kernel_rfl) ?_
  replace m4 : Ob (w23.setRow g4 ([.slice pA2 mA2 cA2, .slice pB2 mB2 cB2] : List Value).toArray) (g4) 25 ([.slice pA2 mA2 cA2, .slice pB2 mB2 cB2]) := Ob.setRow m4 ([.slice pA2 mA2 cA2, .slice pB2 mB2 cB2])
  replace bl : Below w18.heap.size w18 (w23.setRow g4 ([.slice pA2 mA2 cA2, .slice pB2 mB2 cB2] : List Value).toArray) := bl.trans (below_setRow _ _ _ _ hw4)
  generalize w23.setRow g4 ([.slice pA2 mA2 cA2, .slice pB2 mB2 cB2] : List Value).toArray = w24b at bl m4 ⊢
  clear x20
  clear x4
  refine wl_one (.eq (.bool false)) rfl 5 rfl (by rw [sz]; decide) (st_assign (.tmp 21) rfl x21) ?_
  intro f25 w25 df2 sz2 old2 new2 hb
  replace bl0 := bl
  replace x0 := (old2 0 rfl).trans x0
  replace x3 := (old2 3 rfl).trans x3
  replace x21 := (old2 21 rfl).trans x21
  replace x22 := (old2 22 rfl).trans x22
  have x5 : f25.eval (.tmp 5) = .bool false := new2
  have lt_m4 := Ob.lt m4
  replace m4 := Ob.below m4 hb
  replace bl := (bl.trans (Below.mono hb bl.size))
  replace sz := sz2.trans sz
  replace df := df2.trans df
  clear df2 sz2 old2 new2 hb
  clear x21
  clear x5
  refine wl_one (.eq (.int .i64 22)) rfl 6 rfl (by rw [sz]; decide) (st_assign (.tmp 22) rfl x22) ?_
  intro f26 w26 df2 sz2 old2 new2 hb
  replace bl0 := bl
  replace x0 := (old2 0 rfl).trans x0
  replace x3 := (old2 3 rfl).trans x3
  replace x22 := (old2 22 rfl).trans x22
  have x6 : f26.eval (.tmp 6) = .int .i64 22 := new2
  have lt_m4 := Ob.lt m4
  replace m4 := Ob.below m4 hb
  replace bl := (bl.trans (Below.mono hb bl.size))
  replace sz := sz2.trans sz
  replace df := df2.trans df
  clear df2 sz2 old2 new2 hb
  refine wpList_nil ?_
  clear x22
  show Code.wp _ _ _ _ _
  refine wp_seq ?_
  refine wp_all_seq [.eq (.int .i64 11), .eq (.bool true), .eq (.bool true), .eq (.int .i64 22), .eq (.bool true), .eq (.bool true), .eq (.bool true)] (by kernel_rfl) (by kernel_rfl) (by rw [sz]; kernel_rfl) (by kernel_rfl) ⟨fun hw ac u K => ?_, fun hw ac u K => ?_, fun hw ac u K => ?_, fun hw ac u K => ?_, fun hw ac u K => ?_, fun hw ac u K => ?_, fun hw ac u K => ?_, trivial⟩ ?_
  · exact st_move (.tmp 3) rfl ((K.old 3 rfl).trans x3)
  · exact st_eqi 40 (.tmp 23) (.const (.int .i64 11)) rfl .i64 (11) (11) (K.dep 0 23 rfl) rfl _ (by simp)
  · exact st_move (.tmp 24) rfl (K.dep 1 24 rfl)
  · exact st_move (.tmp 6) rfl ((K.old 6 rfl).trans x6)
  · exact st_eqi 40 (.tmp 26) (.const (.int .i64 22)) rfl .i64 (22) (22) (K.dep 3 26 rfl) rfl _ (by simp)
  · exact st_pick_t (.tmp 25) (.tmp 27) (.const (.bool false)) rfl (K.dep 2 25 rfl) (K.dep 4 27 rfl)
  · exact st_assign (.tmp 28) rfl (K.dep 5 28 rfl)
  intro f27 w27 A hb
  replace bl0 := bl
  clear x0
  replace x3 := (A.old 3 rfl).trans x3
  replace x6 := (A.old 6 rfl).trans x6
  have x0 : f27.eval (.tmp 0) = .bool true := A.has 6 0 rfl
  have lt_m4 := Ob.lt m4
  replace m4 := Ob.below m4 hb
  replace bl := (bl.trans (Below.mono hb bl.size))
  replace sz := A.size.trans sz
  replace df := A.defs.trans df
  clear A hb
  clear x3
  clear x6
  show Code.wp _ _ _ _ _
  refine wp_ret ?_
  repeat (first | with_reducible refine then_ret ?_ | with_reducible refine block_ret ?_)
  exact bodyPost_ret (v := .bool true) (ret_slot rfl f27 _ x0 _ _) df ⟨rfl, (blw.trans (Below.mono bl blw.size))⟩
end Go.Proofs.YtfmeeimhfdnjpaaDoor
namespace Go.Proofs.YtfmeeimhfdnjpaaDoor
set_option maxRecDepth 100000
open Go.RowKit
theorem right_law {A B : List (BitVec 8)} {aA aB : Option Addr} {nA nB dA dB : Nat} (w : World) (hK : Tab w) (hA : (Fk.sl A).f (.slice aA nA dA) w) (hB : (Fk.sl B).f (.slice aB nB dB) w) :
    Calls Tryd.prog 3 #[.slice aA nA dA, .slice aB nB dB] w fun e w' => e = .returned (.bool true) ∧ Below w.heap.size w w' := by
  go_enter Tryd.func3, Tryd.ntmps3
  refine code_both (fun f w1 => f.tmps.size = 33 ∧ f.defers = [] ∧ f.eval (.tmp 0) = .slice aA nA dA ∧ f.eval (.tmp 1) = .slice aB nB dB ∧ Below w.heap.size w (w1)) ⟨rfl, rfl, rfl, rfl, Below.refl _ _⟩ ?_
  rintro f0 w0 ⟨sz, df, x0, x1, bl⟩
  have bl0 := bl
  refine wp_seq ?_
  refine wp_all_seq [.eq (.bool false)] (by kernel_rfl) (by kernel_rfl) (by rw [sz]; kernel_rfl) (by kernel_rfl) ⟨fun hw ac u K => ?_, trivial⟩ ?_
  · exact st_assign (.const (.bool false)) rfl rfl
  intro f1 w1 A hb
  replace bl0 := bl
  replace x0 := (A.old 0 rfl).trans x0
  replace x1 := (A.old 1 rfl).trans x1
  have x4 : f1.eval (.tmp 4) = .bool false := A.has 0 4 rfl
  replace bl := (bl.trans (Below.mono hb bl.size))
  replace sz := A.size.trans sz
  replace df := A.defs.trans df
  clear A hb
  show Code.wp _ _ _ _ _
  refine wp_seq ?_
  refine wp_seq ?_
  by_cases h1 : 1000 < A.length
  rotate_left
  · skip
    by_cases h2 : 1000 < B.length
    rotate_left
    · skip
      refine wp_all_seq [.eq (.slice aA nA dA), .eq (.int .i64 (((A).length : Nat) : Int)), .eq (.bool false), .eq (.bool false), .eq (.slice aB nB dB), .eq (.int .i64 (((B).length : Nat) : Int)), .eq (.bool false), .eq (.bool false)] (by kernel_rfl) (by kernel_rfl) (by rw [sz]; kernel_rfl) (by kernel_rfl) ⟨fun hw ac u K => ?_, fun hw ac u K => ?_, fun hw ac u K => ?_, fun hw ac u K => ?_, fun hw ac u K => ?_, fun hw ac u K => ?_, fun hw ac u K => ?_, fun hw ac u K => ?_, trivial⟩ ?_
      · exact st_move (.tmp 0) rfl ((K.old 0 rfl).trans x0)
      · exact st_lenb (.tmp 6) rfl (fk_val (K.dep 0 6 rfl) (Fk.mono _ _ _ _ hA (bl.trans (Below.mono K.grow bl.size))))
      · exact st_gtr 3 (.tmp 7) (.const (.int .i64 1000)) rfl .i64 ((((A).length : Nat) : Int)) (1000) (K.dep 1 7 rfl) rfl _ (by rw [eq_comm, decide_eq_false_iff_not]; omega)
      · exact st_move (.tmp 8) rfl (K.dep 2 8 rfl)
      · exact st_move (.tmp 1) rfl ((K.old 1 rfl).trans x1)
      · exact st_lenb (.tmp 10) rfl (fk_val (K.dep 4 10 rfl) (Fk.mono _ _ _ _ hB (bl.trans (Below.mono K.grow bl.size))))
      · exact st_gtr 3 (.tmp 11) (.const (.int .i64 1000)) rfl .i64 ((((B).length : Nat) : Int)) (1000) (K.dep 5 11 rfl) rfl _ (by rw [eq_comm, decide_eq_false_iff_not]; omega)
      · exact st_pick_f' (.tmp 9) (.const (.bool true)) (.tmp 12) rfl (K.dep 3 9 rfl) (K.dep 6 12 rfl)
      intro f2 w2 A hb
      replace bl0 := bl
      replace x0 := (A.old 0 rfl).trans x0
      replace x1 := (A.old 1 rfl).trans x1
      replace x4 := (A.old 4 rfl).trans x4
      have x13 : f2.eval (.tmp 13) = .bool false := A.has 7 13 rfl
      replace bl := (bl.trans (Below.mono hb bl.size))
      replace sz := A.size.trans sz
      replace df := A.defs.trans df
      clear A hb
      show Code.wp _ _ _ _ _
      refine wp_cond_false x13 ?_
      refine wp_skip ?_
      show Code.wp _ _ _ _ _
      refine wp_seq ?_
      refine wp_region_seq [.eq (.slice aA nA dA), .eq (.slice aB nB dB), .eq (.agg ([.slice aA nA dA, .slice aB nB dB] : List Value).toArray), .nw w2.heap.size 25 [.slice none 0 0, .slice none 0 0]] (by kernel_rfl) (by kernel_rfl) (by rw [sz]; kernel_rfl) (by kernel_rfl) ⟨fun hw ac u K => ?_, fun hw ac u K => ?_, fun hw ac u K => ?_, fun hw ac u K => ?_, trivial⟩ ?_
      · exact st_move (.tmp 0) rfl ((K.old 0 rfl).trans x0)
      · exact st_move (.tmp 1) rfl ((K.old 1 rfl).trans x1)
      · exact st_build 25 _ rfl (by simp only [List.map_toArray, List.map_cons, List.map_nil, show ac.eval (.tmp 15) = _ from (K.dep 0 15 rfl), show ac.eval (.tmp 16) = _ from (K.dep 1 16 rfl)]; kernel_rfl)
      · exact st_alloc 25 rfl _ _ (by kernel_rfl) K.grow.size
      intro f3 w3 A hb
      replace bl0 := bl
      replace x0 := (A.old 0 rfl).trans x0
      replace x1 := (A.old 1 rfl).trans x1
      replace x4 := (A.old 4 rfl).trans x4
      replace x13 := (A.old 13 rfl).trans x13
      have x5 : Fk.f (.nw w2.heap.size 25 [.slice none 0 0, .slice none 0 0]) (f3.eval (.tmp 5)) w3 := A.has 3 5 rfl
      have x17 : f3.eval (.tmp 17) = .agg ([.slice aA nA dA, .slice aB nB dB] : List Value).toArray := A.has 2 17 rfl
      replace bl := (bl.trans (Below.mono hb bl.size))
      replace sz := A.size.trans sz
      replace df := A.defs.trans df
      clear A hb
      obtain ⟨g5, hg5, e5, m5⟩ := x5
      have x5 := e5
      clear e5
      have hw5 : w.heap.size ≤ g5 := Nat.le_trans bl0.size hg5
      refine wl_str rfl 25 (.tmp 5) (.tmp 17) rfl rfl (g5) ([.slice aA nA dA, .slice aB nB dB] : List Value).toArray x5 x17 25 _ m5 (by kernel_rfl) (by kernel_rfl) (by kernel_rfl) ?_
      replace m5 : Ob (w3.setRow g5 ([.slice aA nA dA, .slice aB nB dB] : List Value).toArray) (g5) 25 ([.slice aA nA dA, .slice aB nB dB]) := Ob.setRow m5 ([.slice aA nA dA, .slice aB nB dB])
      replace bl : Below w.heap.size w (w3.setRow g5 ([.slice aA nA dA, .slice aB nB dB] : List Value).toArray) := bl.trans (below_setRow _ _ _ _ hw5)
      generalize w3.setRow g5 ([.slice aA nA dA, .slice aB nB dB] : List Value).toArray = w4b at bl m5 ⊢
      refine wpList_nil ?_
      clear x17
      show Code.wp _ _ _ _ _
      refine wp_seq ?_
      by_cases hr : rcol A B
      rotate_left
      · skip
        refine wp_all [.eq (.agg ([.slice aA nA dA, .slice aB nB dB] : List Value).toArray), .eq (.bool false), .eq (.agg ([.slice aA nA dA, .slice aB nB dB] : List Value).toArray), .eq (.bool false), .eq (.bool true), .eq (.bool true), .eq (.slice aA nA dA), .eq (.slice aA nA dA), .eq (.agg ([.slice aA nA dA, .slice aA nA dA] : List Value).toArray), .eq (.bool false), .eq (.bool true), .eq (.bool true), .eq (.bool true), .eq (.bool true), .eq (.bool true), .eq (.bool true)] Tryd.mixed (by kernel_rfl) (by kernel_rfl) (by rw [sz]; kernel_rfl) (by kernel_rfl) ⟨fun hw ac u K => ?_, fun hw ac u K => ?_, fun hw ac u K => ?_, fun hw ac u K => ?_, fun hw ac u K => ?_, fun hw ac u K => ?_, fun hw ac u K => ?_, fun hw ac u K => ?_, fun hw ac u K => ?_, fun hw ac u K => ?_, fun hw ac u K => ?_, fun hw ac u K => ?_, fun hw ac u K => ?_, fun hw ac u K => ?_, fun hw ac u K => ?_, fun hw ac u K => ?_, trivial⟩ ?_
        · exact st_loadz 25 (.tmp 5) rfl (g5) 0 [.slice aA nA dA, .slice aB nB dB] (by kernel_rfl) (by kernel_rfl) ((K.old 5 rfl).trans x5) (Ob.range (Ob.below m5 K.grow) 0 _ (fun j v hj => by simpa using hj))
        · exact st_call 9 (.func 9) _ _ #[.agg ([.slice aA nA dA, .slice aB nB dB] : List Value).toArray] rfl rfl (one_arg (K.dep 0 18 rfl)) Tryd.enter9 (fk_right (by omega) (by omega) (Fk.mono _ _ _ _ hA (bl.trans (Below.mono K.grow bl.size))) (Fk.mono _ _ _ _ hB (bl.trans (Below.mono K.grow bl.size))) (hK.below (bl.trans (Below.mono K.grow bl.size))) (by symm; rw [decide_eq_false_iff_not]; exact hr))
        · exact st_loadz 25 (.tmp 5) rfl (g5) 0 [.slice aA nA dA, .slice aB nB dB] (by kernel_rfl) (by kernel_rfl) ((K.old 5 rfl).trans x5) (Ob.range (Ob.below m5 K.grow) 0 _ (fun j v hj => by simpa using hj))
        · exact st_call 10 (.func 10) _ _ #[.agg ([.slice aA nA dA, .slice aB nB dB] : List Value).toArray] rfl rfl (one_arg (K.dep 2 20 rfl)) Tryd.enter10 (fk_lright (by omega) (by omega) (Fk.mono _ _ _ _ hA (bl.trans (Below.mono K.grow bl.size))) (Fk.mono _ _ _ _ hB (bl.trans (Below.mono K.grow bl.size))) (hK.below (bl.trans (Below.mono K.grow bl.size))) (by symm; rw [decide_eq_false_iff_not]; exact hr))
        · exact st_bin .eql 4 4 (.tmp 19) (.tmp 21) rfl (K.dep 1 19 rfl) (K.dep 3 21 rfl) (by rfl)
        · exact st_move (.tmp 22) rfl (K.dep 4 22 rfl)
        · exact st_move (.tmp 0) rfl ((K.old 0 rfl).trans x0)
        · exact st_move (.tmp 0) rfl ((K.old 0 rfl).trans x0)
        · exact st_build 25 _ rfl (by simp only [List.map_toArray, List.map_cons, List.map_nil, show ac.eval (.tmp 24) = _ from (K.dep 6 24 rfl), show ac.eval (.tmp 25) = _ from (K.dep 7 25 rfl)]; kernel_rfl)
        · exact st_call 9 (.func 9) _ _ #[.agg ([.slice aA nA dA, .slice aA nA dA] : List Value).toArray] rfl rfl (one_arg (K.dep 8 26 rfl)) Tryd.enter9 (fk_right (by omega) (by omega) (Fk.mono _ _ _ _ hA (bl.trans (Below.mono K.grow bl.size))) (Fk.mono _ _ _ _ hA (bl.trans (Below.mono K.grow bl.size))) (hK.below (bl.trans (Below.mono K.grow bl.size))) (by symm; rw [decide_eq_false_iff_not]; exact fun h => h.1 rfl))
        · exact st_not (.tmp 27) rfl false (K.dep 9 27 rfl)
        · exact st_pick_t (.tmp 23) (.tmp 28) (.const (.bool false)) rfl (K.dep 5 23 rfl) (K.dep 10 28 rfl)
        · exact st_move (.tmp 29) rfl (K.dep 11 29 rfl)
        · exact st_call 8 (.func 8) _ _ #[] rfl rfl rfl Tryd.enter8 (fk_of (awake_any _ (hK.below (bl.trans (Below.mono K.grow bl.size)))))
        · exact st_pick_t (.tmp 30) (.tmp 31) (.const (.bool false)) rfl (K.dep 12 30 rfl) (K.dep 13 31 rfl)
        · exact st_assign (.tmp 32) rfl (K.dep 14 32 rfl)
        intro f5 w5 A hb
        replace bl0 := bl
        replace x0 := (A.old 0 rfl).trans x0
        replace x1 := (A.old 1 rfl).trans x1
        clear x4
        replace x13 := (A.old 13 rfl).trans x13
        replace x5 := (A.old 5 rfl).trans x5
        have x4 : f5.eval (.tmp 4) = .bool true := A.has 15 4 rfl
        have lt_m5 := Ob.lt m5
        replace m5 := Ob.below m5 hb
        replace bl := (bl.trans (Below.mono hb bl.size))
        replace sz := A.size.trans sz
        replace df := A.defs.trans df
        clear A hb
        show Code.wp _ _ _ _ _
        refine wp_ret ?_
        repeat (first | with_reducible refine then_ret ?_ | with_reducible refine block_ret ?_)
        exact bodyPost_ret (v := .bool true) (ret_slot rfl f5 _ x4 _ _) df ⟨rfl, bl⟩
      refine wp_all [.eq (.agg ([.slice aA nA dA, .slice aB nB dB] : List Value).toArray), .eq (.bool true), .eq (.agg ([.slice aA nA dA, .slice aB nB dB] : List Value).toArray), .eq (.bool true), .eq (.bool true), .eq (.bool true), .eq (.slice aA nA dA), .eq (.slice aA nA dA), .eq (.agg ([.slice aA nA dA, .slice aA nA dA] : List Value).toArray), .eq (.bool false), .eq (.bool true), .eq (.bool true), .eq (.bool true), .eq (.bool true), .eq (.bool true), .eq (.bool true)] Tryd.mixed (by kernel_rfl) (by kernel_rfl) (by rw [sz]; kernel_rfl) (by kernel_rfl) ⟨fun hw ac u K => ?_, fun hw ac u K => ?_, fun hw ac u K => ?_, fun hw ac u K => ?_, fun hw ac u K => ?_, fun hw ac u K => ?_, fun hw ac u K => ?_, fun hw ac u K => ?_, fun hw ac u K => ?_, fun hw ac u K => ?_, fun hw ac u K => ?_, fun hw ac u K => ?_, fun hw ac u K => ?_, fun hw ac u K => ?_, fun hw ac u K => ?_, fun hw ac u K => ?_, trivial⟩ ?_
      · exact st_loadz 25 (.tmp 5) rfl (g5) 0 [.slice aA nA dA, .slice aB nB dB] (by kernel_rfl) (by kernel_rfl) ((K.old 5 rfl).trans x5) (Ob.range (Ob.below m5 K.grow) 0 _ (fun j v hj => by simpa using hj))
      · exact st_call 9 (.func 9) _ _ #[.agg ([.slice aA nA dA, .slice aB nB dB] : List Value).toArray] rfl rfl (one_arg (K.dep 0 18 rfl)) Tryd.enter9 (fk_right (by omega) (by omega) (Fk.mono _ _ _ _ hA (bl.trans (Below.mono K.grow bl.size))) (Fk.mono _ _ _ _ hB (bl.trans (Below.mono K.grow bl.size))) (hK.below (bl.trans (Below.mono K.grow bl.size))) (by symm; rw [decide_eq_true_iff]; exact hr))
      · exact st_loadz 25 (.tmp 5) rfl (g5) 0 [.slice aA nA dA, .slice aB nB dB] (by kernel_rfl) (by kernel_rfl) ((K.old 5 rfl).trans x5) (Ob.range (Ob.below m5 K.grow) 0 _ (fun j v hj => by simpa using hj))
      · exact st_call 10 (.func 10) _ _ #[.agg ([.slice aA nA dA, .slice aB nB dB] : List Value).toArray] rfl rfl (one_arg (K.dep 2 20 rfl)) Tryd.enter10 (fk_lright (by omega) (by omega) (Fk.mono _ _ _ _ hA (bl.trans (Below.mono K.grow bl.size))) (Fk.mono _ _ _ _ hB (bl.trans (Below.mono K.grow bl.size))) (hK.below (bl.trans (Below.mono K.grow bl.size))) (by symm; rw [decide_eq_true_iff]; exact hr))
      · exact st_bin .eql 4 4 (.tmp 19) (.tmp 21) rfl (K.dep 1 19 rfl) (K.dep 3 21 rfl) (by rfl)
      · exact st_move (.tmp 22) rfl (K.dep 4 22 rfl)
      · exact st_move (.tmp 0) rfl ((K.old 0 rfl).trans x0)
      · exact st_move (.tmp 0) rfl ((K.old 0 rfl).trans x0)
      · exact st_build 25 _ rfl (by simp only [List.map_toArray, List.map_cons, List.map_nil, show ac.eval (.tmp 24) = _ from (K.dep 6 24 rfl), show ac.eval (.tmp 25) = _ from (K.dep 7 25 rfl)]; kernel_rfl)
      · exact st_call 9 (.func 9) _ _ #[.agg ([.slice aA nA dA, .slice aA nA dA] : List Value).toArray] rfl rfl (one_arg (K.dep 8 26 rfl)) Tryd.enter9 (fk_right (by omega) (by omega) (Fk.mono _ _ _ _ hA (bl.trans (Below.mono K.grow bl.size))) (Fk.mono _ _ _ _ hA (bl.trans (Below.mono K.grow bl.size))) (hK.below (bl.trans (Below.mono K.grow bl.size))) (by symm; rw [decide_eq_false_iff_not]; exact fun h => h.1 rfl))
      · exact st_not (.tmp 27) rfl false (K.dep 9 27 rfl)
      · exact st_pick_t (.tmp 23) (.tmp 28) (.const (.bool false)) rfl (K.dep 5 23 rfl) (K.dep 10 28 rfl)
      · exact st_move (.tmp 29) rfl (K.dep 11 29 rfl)
      · exact st_call 8 (.func 8) _ _ #[] rfl rfl rfl Tryd.enter8 (fk_of (awake_any _ (hK.below (bl.trans (Below.mono K.grow bl.size)))))
      · exact st_pick_t (.tmp 30) (.tmp 31) (.const (.bool false)) rfl (K.dep 12 30 rfl) (K.dep 13 31 rfl)
      · exact st_assign (.tmp 32) rfl (K.dep 14 32 rfl)
      intro f5 w5 A hb
      replace bl0 := bl
      replace x0 := (A.old 0 rfl).trans x0
      replace x1 := (A.old 1 rfl).trans x1
      clear x4
      replace x13 := (A.old 13 rfl).trans x13
      replace x5 := (A.old 5 rfl).trans x5
      have x4 : f5.eval (.tmp 4) = .bool true := A.has 15 4 rfl
      have lt_m5 := Ob.lt m5
      replace m5 := Ob.below m5 hb
      replace bl := (bl.trans (Below.mono hb bl.size))
      replace sz := A.size.trans sz
      replace df := A.defs.trans df
      clear A hb
      show Code.wp _ _ _ _ _
      refine wp_ret ?_
      repeat (first | with_reducible refine then_ret ?_ | with_reducible refine block_ret ?_)
      exact bodyPost_ret (v := .bool true) (ret_slot rfl f5 _ x4 _ _) df ⟨rfl, bl⟩
    refine wp_all_seq [.eq (.slice aA nA dA), .eq (.int .i64 (((A).length : Nat) : Int)), .eq (.bool false), .eq (.bool false), .eq (.slice aB nB dB), .eq (.int .i64 (((B).length : Nat) : Int)), .eq (.bool true), .eq (.bool true)] (by kernel_rfl) (by kernel_rfl) (by rw [sz]; kernel_rfl) (by kernel_rfl) ⟨fun hw ac u K => ?_, fun hw ac u K => ?_, fun hw ac u K => ?_, fun hw ac u K => ?_, fun hw ac u K => ?_, fun hw ac u K => ?_, fun hw ac u K => ?_, fun hw ac u K => ?_, trivial⟩ ?_
    · exact st_move (.tmp 0) rfl ((K.old 0 rfl).trans x0)
    · exact st_lenb (.tmp 6) rfl (fk_val (K.dep 0 6 rfl) (Fk.mono _ _ _ _ hA (bl.trans (Below.mono K.grow bl.size))))
    · exact st_gtr 3 (.tmp 7) (.const (.int .i64 1000)) rfl .i64 ((((A).length : Nat) : Int)) (1000) (K.dep 1 7 rfl) rfl _ (by rw [eq_comm, decide_eq_false_iff_not]; omega)
    · exact st_move (.tmp 8) rfl (K.dep 2 8 rfl)
    · exact st_move (.tmp 1) rfl ((K.old 1 rfl).trans x1)
    · exact st_lenb (.tmp 10) rfl (fk_val (K.dep 4 10 rfl) (Fk.mono _ _ _ _ hB (bl.trans (Below.mono K.grow bl.size))))
    · exact st_gtr 3 (.tmp 11) (.const (.int .i64 1000)) rfl .i64 ((((B).length : Nat) : Int)) (1000) (K.dep 5 11 rfl) rfl _ (by rw [eq_comm, decide_eq_true_iff]; omega)
    · exact st_pick_f' (.tmp 9) (.const (.bool true)) (.tmp 12) rfl (K.dep 3 9 rfl) (K.dep 6 12 rfl)
    intro f2 w2 A hb
    replace bl0 := bl
    replace x0 := (A.old 0 rfl).trans x0
    replace x1 := (A.old 1 rfl).trans x1
    replace x4 := (A.old 4 rfl).trans x4
    have x13 : f2.eval (.tmp 13) = .bool true := A.has 7 13 rfl
    replace bl := (bl.trans (Below.mono hb bl.size))
    replace sz := A.size.trans sz
    replace df := A.defs.trans df
    clear A hb
    show Code.wp _ _ _ _ _
    refine wp_cond_true x13 ?_
    refine wp_seq ?_
    refine wp_all_seq [.eq (.bool true), .eq (.bool true)] (by kernel_rfl) (by kernel_rfl) (by rw [sz]; kernel_rfl) (by kernel_rfl) ⟨fun hw ac u K => ?_, fun hw ac u K => ?_, trivial⟩ ?_
    · exact st_call 8 (.func 8) _ _ #[] rfl rfl rfl Tryd.enter8 (fk_of (awake_any _ (hK.below (bl.trans (Below.mono K.grow bl.size)))))
    · exact st_assign (.tmp 14) rfl (K.dep 0 14 rfl)
    intro f3 w3 A hb
    replace bl0 := bl
    replace x0 := (A.old 0 rfl).trans x0
    replace x1 := (A.old 1 rfl).trans x1
    clear x4
    replace x13 := (A.old 13 rfl).trans x13
    have x4 : f3.eval (.tmp 4) = .bool true := A.has 1 4 rfl
    replace bl := (bl.trans (Below.mono hb bl.size))
    replace sz := A.size.trans sz
    replace df := A.defs.trans df
    clear A hb
    show Code.wp _ _ _ _ _
    refine wp_ret ?_
    repeat (first | with_reducible refine then_ret ?_ | with_reducible refine block_ret ?_)
    exact bodyPost_ret (v := .bool true) (ret_slot rfl f3 _ x4 _ _) df ⟨rfl, bl⟩
  refine wp_all_seq [.eq (.slice aA nA dA), .eq (.int .i64 (((A).length : Nat) : Int)), .eq (.bool true), .eq (.bool true), .any, .any, .any, .eq (.bool true)] (by kernel_rfl) (by kernel_rfl) (by rw [sz]; kernel_rfl) (by kernel_rfl) ⟨fun hw ac u K => ?_, fun hw ac u K => ?_, fun hw ac u K => ?_, fun hw ac u K => ?_, fun hw ac u K => ?_, fun hw ac u K => ?_, fun hw ac u K => ?_, fun hw ac u K => ?_, trivial⟩ ?_
  · exact st_move (.tmp 0) rfl ((K.old 0 rfl).trans x0)
  · exact st_lenb (.tmp 6) rfl (fk_val (K.dep 0 6 rfl) (Fk.mono _ _ _ _ hA (bl.trans (Below.mono K.grow bl.size))))
  · exact st_gtr 3 (.tmp 7) (.const (.int .i64 1000)) rfl .i64 ((((A).length : Nat) : Int)) (1000) (K.dep 1 7 rfl) rfl _ (by rw [eq_comm, decide_eq_true_iff]; omega)
  · exact st_move (.tmp 8) rfl (K.dep 2 8 rfl)
  · exact (Bool.false_ne_true hw).elim
  · exact (Bool.false_ne_true hw).elim
  · exact (Bool.false_ne_true hw).elim
  · exact st_pick_t (.tmp 9) (.const (.bool true)) (.tmp 12) rfl (K.dep 3 9 rfl) rfl
  intro f2 w2 A hb
  replace bl0 := bl
  replace x0 := (A.old 0 rfl).trans x0
  replace x1 := (A.old 1 rfl).trans x1
  replace x4 := (A.old 4 rfl).trans x4
  have x13 : f2.eval (.tmp 13) = .bool true := A.has 7 13 rfl
  replace bl := (bl.trans (Below.mono hb bl.size))
  replace sz := A.size.trans sz
  replace df := A.defs.trans df
  clear A hb
  show Code.wp _ _ _ _ _
  refine wp_cond_true x13 ?_
  refine wp_seq ?_
  refine wp_all_seq [.eq (.bool true), .eq (.bool true)] (by kernel_rfl) (by kernel_rfl) (by rw [sz]; kernel_rfl) (by kernel_rfl) ⟨fun hw ac u K => ?_, fun hw ac u K => ?_, trivial⟩ ?_
  · exact st_call 8 (.func 8) _ _ #[] rfl rfl rfl Tryd.enter8 (fk_of (awake_any _ (hK.below (bl.trans (Below.mono K.grow bl.size)))))
  · exact st_assign (.tmp 14) rfl (K.dep 0 14 rfl)
  intro f3 w3 A hb
  replace bl0 := bl
  replace x0 := (A.old 0 rfl).trans x0
  replace x1 := (A.old 1 rfl).trans x1
  clear x4
  replace x13 := (A.old 13 rfl).trans x13
  have x4 : f3.eval (.tmp 4) = .bool true := A.has 1 4 rfl
  replace bl := (bl.trans (Below.mono hb bl.size))
  replace sz := A.size.trans sz
  replace df := A.defs.trans df
  clear A hb
  show Code.wp _ _ _ _ _
  refine wp_ret ?_
  repeat (first | with_reducible refine then_ret ?_ | with_reducible refine block_ret ?_)
  exact bodyPost_ret (v := .bool true) (ret_slot rfl f3 _ x4 _ _) df ⟨rfl, bl⟩
end Go.Proofs.YtfmeeimhfdnjpaaDoor
namespace Go.Proofs.YtfmeeimhfdnjpaaDoor
set_option maxRecDepth 100000
set_option maxRecDepth 100000
open Go.ChangeShapes Go.WideShapes Go.ChangeAt Go.RowKit
variable {H : Type} {enc : TypeId × Value → H} {W : World}
end Go.Proofs.YtfmeeimhfdnjpaaDoor
namespace Go.Proofs.YtfmeeimhfdnjpaaDoor
set_option maxRecDepth 100000
open Go.ChangeShapes Go.WideShapes Go.ChangeAt Go.RowKit
section
variable {H : Type} {enc : TypeId × Value → H} {W : World}
end
end Go.Proofs.YtfmeeimhfdnjpaaDoor
namespace Go.Proofs.YtfmeeimhfdnjpaaDoor
set_option maxRecDepth 100000
open Go.ChangeShapes Go.WideShapes Go.ChangeAt Go.RowKit
section
variable {H : Type} {enc : TypeId × Value → H} {W : World}
end
end Go.Proofs.YtfmeeimhfdnjpaaDoor
