/- The fixed answer of layer 6: awake. Bools in memory; halves and rests of numbers. Sides. -/
import Derived.Test.YtnanipeapjpkfaaDoorM13
namespace Go.Proofs.YtnanipeapjpkfaaDoor
set_option maxRecDepth 100000
open Go.RowKit
set_option maxHeartbeats 1000000 in
theorem awake_any (w : World) (hK : Tab w) :
    Calls Tryd.prog 8 #[] w fun e w' => e = .returned (.bool true) ∧ Below w.heap.size w w' := by
  obtain ⟨S, eS⟩ : ∃ S, Box (sgp hz 1 0 (ms [120]) = S) := ⟨_, ⟨rfl⟩⟩
  obtain ⟨P, eP⟩ : ∃ P, Box (firsts (pth (lv hz 1) 0) 0 = P) := ⟨_, ⟨rfl⟩⟩
  have hP0 : P.length = 0 := by rw [← eP.out, firsts_len]
  have hSl : S.length = npt 1 := by rw [← eS.out]; exact sgp_len (by omega) (by omega) _ _ _
  obtain ⟨pb, epb⟩ : ∃ pb, Box (rt (lv hz 1) 0 0 = pb) := ⟨_, ⟨rfl⟩⟩
  have hpb : pb.length = 32 := by rw [← epb.out]; exact rt_len _ _ _ _
  have hup1 : up 0 P (lf (rcv 1 (ms [120]) S)) P.length = pb := by
    rw [hP0, ← epb.out, ← eS.out, rcv_sgp (by omega) (by omega)]
    rfl
  have hup2 : up 0 P (lf (rcv 1 (ms [121]) S)) P.length ≠ pb := by
    rw [hP0, ← epb.out, ← eS.out]
    exact awake_ne
  go_enter Tryd.func8, Tryd.ntmps8
  refine code_both (fun f w1 => f.tmps.size = 59 ∧ f.defers = [] ∧ Below w.heap.size w (w1)) ⟨rfl, rfl, Below.refl _ _⟩ ?_
  rintro f0 w0 ⟨sz, df, bl⟩
  have bl0 := bl
  refine wp_seq ?_
  -- R0
  refine wp_all_seq [.eq (.bool false)] (by kernel_rfl) (by kernel_rfl) (by rw [sz]; kernel_rfl) (by kernel_rfl) ⟨fun hw ac u K => ?_, trivial⟩ ?_
  · exact st_assign (.const (.bool false)) rfl rfl
  intro f1 w1 A hb
  replace bl0 := bl
  have x0 : f1.eval (.tmp 0) = .bool false := A.has 0 0 rfl
  replace bl := (bl.trans (Below.mono hb bl.size))
  replace sz := A.size.trans sz
  replace df := A.defs.trans df
  clear A hb
  show Code.wp _ _ _ _ _
  refine wp_seq ?_
  -- R1
  refine wp_all_seq [.eq (.agg ((hz).map V).toArray), .t2 (.nw w1.heap.size 69 ((hz).map V ++ ([.int .i64 ((1 : Nat) : Int), .int .i64 ((0 : Nat) : Int), .int .i64 ((0 : Nat) : Int)] : List Value))) (.int .i64 0), .t2 (.nw w1.heap.size 69 ((hz).map V ++ ([.int .i64 ((1 : Nat) : Int), .int .i64 ((0 : Nat) : Int), .int .i64 ((0 : Nat) : Int)] : List Value))) (.int .i64 0), .nw w1.heap.size 69 ((hz).map V ++ ([.int .i64 ((1 : Nat) : Int), .int .i64 ((0 : Nat) : Int), .int .i64 ((0 : Nat) : Int)] : List Value)), .eq (.int .i64 0), .nw w1.heap.size 69 ((hz).map V ++ ([.int .i64 ((1 : Nat) : Int), .int .i64 ((0 : Nat) : Int), .int .i64 ((0 : Nat) : Int)] : List Value)), .eq (.int .i64 0)] (by kernel_rfl) (by kernel_rfl) (by rw [sz]; kernel_rfl) (by kernel_rfl) ⟨fun hw ac u K => ?_, fun hw ac u K => ?_, fun hw ac u K => ?_, fun hw ac u K => ?_, fun hw ac u K => ?_, fun hw ac u K => ?_, fun hw ac u K => ?_, trivial⟩ ?_
  · exact st_zero23 rfl
  · exact st_call 33 (.func 33) _ _ #[.agg ((hz).map V).toArray, .int .i64 1, .int .i64 0] rfl rfl (arg3 (K.dep 0 8 rfl) rfl rfl) Tryd.enter33 (fk_nw K.grow.size (by exact new_ok hz 1 0 hz_len (by omega) (by omega) (by omega) _))
  · exact st_move (.tmp 9) rfl (K.dep 1 9 rfl)
  · exact st_t2a (.tmp 7) rfl (K.dep 2 7 rfl)
  · exact st_t2b (.tmp 7) rfl (K.dep 2 7 rfl)
  · exact st_assign (.tmp 10) rfl (K.dep 3 10 rfl)
  · exact st_assign (.tmp 11) rfl (K.dep 4 11 rfl)
  intro f2 w2 A hb
  replace bl0 := bl
  replace x0 := (A.old 0 rfl).trans x0
  have x1 : Fk.f (.nw w1.heap.size 69 ((hz).map V ++ ([.int .i64 ((1 : Nat) : Int), .int .i64 ((0 : Nat) : Int), .int .i64 ((0 : Nat) : Int)] : List Value))) (f2.eval (.tmp 1)) w2 := A.has 5 1 rfl
  have x2 : f2.eval (.tmp 2) = .int .i64 0 := A.has 6 2 rfl
  replace bl := (bl.trans (Below.mono hb bl.size))
  replace sz := A.size.trans sz
  replace df := A.defs.trans df
  clear A hb
  obtain ⟨g1, hg1, e1, m1⟩ := x1
  have x1 := e1
  clear e1
  have hw1 : w.heap.size ≤ g1 := Nat.le_trans bl0.size hg1
  show Code.wp _ _ _ _ _
  refine wp_seq ?_
  refine wp_seq ?_
  -- R2
  refine wp_all_seq [.eq (.int .i64 0), .eq (.bool false), .eq (.bool false), .eq (.pointer (some ⟨g1, 0, none⟩)), .eq (.bool false), .eq (.bool false), .eq (.bool false), .eq (.pointer (some ⟨g1, 0, none⟩)), .eq (.int .i64 ((2 ^ 0 - 0 : Nat) : Int)), .eq (.bool false), .eq (.bool false)] (by kernel_rfl) (by kernel_rfl) (by rw [sz]; kernel_rfl) (by kernel_rfl) ⟨fun hw ac u K => ?_, fun hw ac u K => ?_, fun hw ac u K => ?_, fun hw ac u K => ?_, fun hw ac u K => ?_, fun hw ac u K => ?_, fun hw ac u K => ?_, fun hw ac u K => ?_, fun hw ac u K => ?_, fun hw ac u K => ?_, fun hw ac u K => ?_, trivial⟩ ?_
  · exact st_move (.tmp 2) rfl ((K.old 2 rfl).trans x2)
  · exact st_neqi 29 (.tmp 12) (.const (.int .i64 0)) rfl .i64 (0) (0) (K.dep 0 12 rfl) rfl _ (by rfl)
  · exact st_move (.tmp 13) rfl (K.dep 1 13 rfl)
  · exact st_move (.tmp 1) rfl ((K.old 1 rfl).trans x1)
  · exact st_bin .eql 28 28 (.tmp 15) _ rfl (K.dep 3 15 rfl) rfl (by kernel_rfl)
  · exact st_pick_f' (.tmp 14) (.const (.bool true)) (.tmp 16) rfl (K.dep 2 14 rfl) (K.dep 4 16 rfl)
  · exact st_move (.tmp 17) rfl (K.dep 5 17 rfl)
  · exact st_move (.tmp 1) rfl ((K.old 1 rfl).trans x1)
  · exact st_call 14 (.func 14) _ _ #[.pointer (some ⟨g1, 0, none⟩)] rfl rfl (one_arg (K.dep 7 19 rfl)) Tryd.enter14 (fk_of (left_any hz_len _ (by omega) (by simp) (Ob.below m1 K.grow)))
  · exact st_neqi 3 (.tmp 20) (.const (.int .i64 1)) rfl .i64 (((2 ^ 0 - 0 : Nat) : Int)) (1) (K.dep 8 20 rfl) rfl _ (by simp)
  · exact st_pick_f' (.tmp 18) (.const (.bool true)) (.tmp 21) rfl (K.dep 6 18 rfl) (K.dep 9 21 rfl)
  intro f3 w3 A hb
  replace bl0 := bl
  replace x0 := (A.old 0 rfl).trans x0
  replace x1 := (A.old 1 rfl).trans x1
  replace x2 := (A.old 2 rfl).trans x2
  have x22 : f3.eval (.tmp 22) = .bool false := A.has 10 22 rfl
  have lt_m1 := Ob.lt m1
  replace m1 := Ob.below m1 hb
  replace bl := (bl.trans (Below.mono hb bl.size))
  replace sz := A.size.trans sz
  replace df := A.defs.trans df
  clear A hb
  clear x2
  show Code.wp _ _ _ _ _
  refine wp_cond_false x22 ?_
  refine wp_skip ?_
  show Code.wp _ _ _ _ _
  refine wp_seq ?_
  have h0k : 0 < g1 := Nat.lt_of_lt_of_le hK.pos hw1
  have hlt1 := Ob.lt m1
  -- R4
  have hgS := bl.size
  refine wp_region_seq [.eq (.pointer (some ⟨g1, 0, none⟩)), .by1 w3.heap.size 120] (by kernel_rfl) (by kernel_rfl) (by rw [sz]; kernel_rfl) (by kernel_rfl) ⟨fun hw ac u K => ?_, fun hw ac u K => ?_, trivial⟩ ?_
  · exact st_move (.tmp 1) rfl ((K.old 1 rfl).trans x1)
  · exact st_bytes1 120 120 rfl (by rfl) _ K.grow.size
  intro f4 w4 A hb
  replace bl0 := bl
  replace x0 := (A.old 0 rfl).trans x0
  replace x1 := (A.old 1 rfl).trans x1
  replace x22 := (A.old 22 rfl).trans x22
  have x24 : f4.eval (.tmp 24) = .pointer (some ⟨g1, 0, none⟩) := A.has 0 24 rfl
  have x25 : Fk.f (.by1 w3.heap.size 120) (f4.eval (.tmp 25)) w4 := A.has 1 25 rfl
  have lt_m1 := Ob.lt m1
  replace m1 := Ob.below m1 hb
  replace bl := (bl.trans (Below.mono hb bl.size))
  replace sz := A.size.trans sz
  replace df := A.defs.trans df
  clear A hb
  refine wl_mark (.tmp 25) rfl 26 rfl (by rw [sz]; decide) rfl x25 ?_
  intro f5 w5 df2 sz2 old2 new2 hm
  clear x25
  replace x0 := (old2 0 rfl).trans x0
  replace x1 := (old2 1 rfl).trans x1
  replace x22 := (old2 22 rfl).trans x22
  replace x24 := (old2 24 rfl).trans x24
  have x26 : Fk.f (.by1 w3.heap.size 120) (f5.eval (.tmp 26)) w5 := new2
  replace m1 := Ob.marked m1 hm (by decide)
  replace bl := hm.grow hgS bl
  replace sz := sz2.trans sz
  replace df := df2.trans df
  clear df2 sz2 old2 new2 hm
  obtain ⟨bm, e26, hgm, hsm⟩ := by1_sl x26
  have nbm : bm ≠ g1 := Nat.ne_of_gt (Nat.lt_of_lt_of_le hlt1 hgm)
  refine wl_call 13 (.func 13) _ _ #[.pointer (some ⟨g1, 0, none⟩), .slice (some ⟨bm, 0, none⟩) 1 1] rfl 27 rfl (by rw [sz]; decide) rfl rfl (arg2 x24 e26) Tryd.enter13 (SigR g1 hz 1 0 0 S P w5) (sign_call hz_len (by omega) (by omega) (by omega) (by simp) _ m1 (hK.below bl) h0k (by simp) hsm (fun _ => nbm) eS eP) ?_
  clear x26
  intro f6 w6 df2 sz2 old2 hR
  obtain ⟨sA27, sC27, sb27, so27, pA27, pC27, pb27, po27, e27, hsb27, q27a, hpb27, q27b, mK, O⟩ := hR
  replace x0 := (old2 0 rfl).trans x0
  replace x1 := (old2 1 rfl).trans x1
  replace x22 := (old2 22 rfl).trans x22
  replace x24 := (old2 24 rfl).trans x24
  replace m1 := mK
  clear mK
  replace bl := bl.trans (Only.below O _ hw1 bl.size)
  replace sz := sz2.trans sz
  replace df := df2.trans df
  have x27 := e27
  have v27a : Fk.f (.hs (S)) (.slice sA27 (S).length sC27) w6 := hl_hs q27a
  have v27b : Fk.f (.hs (P)) (.slice pA27 (P).length pC27) w6 := hl_hs q27b
  clear df2 sz2 old2 O e27
  have S_v27a := v27a
  have S_v27b := v27b
  have hbS := Below.refl w6.heap.size w6
  have hbS0 := hbS
  clear x24
  refine wl_one (.eq (.tuple #[.agg ([.int .i64 ((1 : Nat) : Int), .int .i64 ((0 : Nat) : Int), .slice sA27 (S).length sC27, .slice pA27 (P).length pC27] : List Value).toArray, .int .i64 0])) rfl 23 rfl (by rw [sz]; decide) (st_move (.tmp 27) rfl x27) ?_
  intro f7 w7 df2 sz2 old2 new2 hb
  replace hbS0 := hbS
  replace hbS := hbS.trans (Below.mono hb hbS.size)
  replace bl0 := bl
  replace x0 := (old2 0 rfl).trans x0
  replace x1 := (old2 1 rfl).trans x1
  replace x22 := (old2 22 rfl).trans x22
  replace x27 := (old2 27 rfl).trans x27
  have x23 : f7.eval (.tmp 23) = .tuple #[.agg ([.int .i64 ((1 : Nat) : Int), .int .i64 ((0 : Nat) : Int), .slice sA27 (S).length sC27, .slice pA27 (P).length pC27] : List Value).toArray, .int .i64 0] := new2
  have lt_m1 := Ob.lt m1
  replace m1 := Ob.below m1 hb
  replace v27a := Fk.mono _ _ _ _ v27a hb
  replace v27b := Fk.mono _ _ _ _ v27b hb
  replace bl := (bl.trans (Below.mono hb bl.size))
  replace sz := sz2.trans sz
  replace df := df2.trans df
  clear df2 sz2 old2 new2 hb
  clear x27
  refine wl_one (.eq (.agg ([.int .i64 ((1 : Nat) : Int), .int .i64 ((0 : Nat) : Int), .slice sA27 (S).length sC27, .slice pA27 (P).length pC27] : List Value).toArray)) rfl 28 rfl (by rw [sz]; decide) (st_ext0 (.tmp 23) rfl x23 rfl) ?_
  intro f8 w8 df2 sz2 old2 new2 hb
  replace hbS0 := hbS
  replace hbS := hbS.trans (Below.mono hb hbS.size)
  replace bl0 := bl
  replace x0 := (old2 0 rfl).trans x0
  replace x1 := (old2 1 rfl).trans x1
  replace x22 := (old2 22 rfl).trans x22
  replace x23 := (old2 23 rfl).trans x23
  have x28 : f8.eval (.tmp 28) = .agg ([.int .i64 ((1 : Nat) : Int), .int .i64 ((0 : Nat) : Int), .slice sA27 (S).length sC27, .slice pA27 (P).length pC27] : List Value).toArray := new2
  have lt_m1 := Ob.lt m1
  replace m1 := Ob.below m1 hb
  replace v27a := Fk.mono _ _ _ _ v27a hb
  replace v27b := Fk.mono _ _ _ _ v27b hb
  replace bl := (bl.trans (Below.mono hb bl.size))
  replace sz := sz2.trans sz
  replace df := df2.trans df
  clear df2 sz2 old2 new2 hb
  refine wl_one (.eq (.int .i64 0)) rfl 29 rfl (by rw [sz]; decide) (st_ext1 (.tmp 23) rfl x23 rfl) ?_
  intro f9 w9 df2 sz2 old2 new2 hb
  replace hbS0 := hbS
  replace hbS := hbS.trans (Below.mono hb hbS.size)
  replace bl0 := bl
  replace x0 := (old2 0 rfl).trans x0
  replace x1 := (old2 1 rfl).trans x1
  replace x22 := (old2 22 rfl).trans x22
  replace x23 := (old2 23 rfl).trans x23
  replace x28 := (old2 28 rfl).trans x28
  have x29 : f9.eval (.tmp 29) = .int .i64 0 := new2
  have lt_m1 := Ob.lt m1
  replace m1 := Ob.below m1 hb
  replace v27a := Fk.mono _ _ _ _ v27a hb
  replace v27b := Fk.mono _ _ _ _ v27b hb
  replace bl := (bl.trans (Below.mono hb bl.size))
  replace sz := sz2.trans sz
  replace df := df2.trans df
  clear df2 sz2 old2 new2 hb
  clear x23
  refine wl_one (.nw w9.heap.size 38 [.int .i64 0, .int .i64 0, .slice none 0 0, .slice none 0 0]) rfl 3 rfl (by rw [sz]; decide) (st_alloc 38 rfl _ _ (by kernel_rfl) (Nat.le_refl _)) ?_
  intro f10 w10 df2 sz2 old2 new2 hb
  replace hbS0 := hbS
  replace hbS := hbS.trans (Below.mono hb hbS.size)
  replace bl0 := bl
  replace x0 := (old2 0 rfl).trans x0
  replace x1 := (old2 1 rfl).trans x1
  replace x22 := (old2 22 rfl).trans x22
  replace x28 := (old2 28 rfl).trans x28
  replace x29 := (old2 29 rfl).trans x29
  have x3 : Fk.f (.nw w9.heap.size 38 [.int .i64 0, .int .i64 0, .slice none 0 0, .slice none 0 0]) (f10.eval (.tmp 3)) w10 := new2
  have lt_m1 := Ob.lt m1
  replace m1 := Ob.below m1 hb
  replace v27a := Fk.mono _ _ _ _ v27a hb
  replace v27b := Fk.mono _ _ _ _ v27b hb
  replace bl := (bl.trans (Below.mono hb bl.size))
  replace sz := sz2.trans sz
  replace df := df2.trans df
  clear df2 sz2 old2 new2 hb
  obtain ⟨g3, hg3, e3, m3⟩ := x3
  have x3 := e3
  clear e3
  have nm1_3 : g1 ≠ g3 := Nat.ne_of_lt (Nat.lt_of_lt_of_le lt_m1 hg3)
  have hw3 : w.heap.size ≤ g3 := Nat.le_trans bl0.size hg3
  have hs3 := Nat.le_trans hbS0.size hg3
  refine wl_str rfl 38 (.tmp 3) (.tmp 28) rfl rfl (g3) ([.int .i64 ((1 : Nat) : Int), .int .i64 ((0 : Nat) : Int), .slice sA27 (S).length sC27, .slice pA27 (P).length pC27] : List Value).toArray x3 x28 38 _ m3 (by kernel_rfl) (by kernel_rfl) (by kernel_rfl) ?_
  replace m1 : Ob (w10.setRow g3 ([.int .i64 ((1 : Nat) : Int), .int .i64 ((0 : Nat) : Int), .slice sA27 (S).length sC27, .slice pA27 (P).length pC27] : List Value).toArray) (g1) 69 ((hz).map V ++ ([.int .i64 ((1 : Nat) : Int), .int .i64 ((0 : Nat) : Int), .int .i64 ((0 + 1 : Nat) : Int)] : List Value)) := Ob.setRow_other m1 _ nm1_3
  replace m3 : Ob (w10.setRow g3 ([.int .i64 ((1 : Nat) : Int), .int .i64 ((0 : Nat) : Int), .slice sA27 (S).length sC27, .slice pA27 (P).length pC27] : List Value).toArray) (g3) 38 ([.int .i64 ((1 : Nat) : Int), .int .i64 ((0 : Nat) : Int), .slice sA27 (S).length sC27, .slice pA27 (P).length pC27]) := Ob.setRow m3 ([.int .i64 ((1 : Nat) : Int), .int .i64 ((0 : Nat) : Int), .slice sA27 (S).length sC27, .slice pA27 (P).length pC27])
  replace hbS : Below _ _ (w10.setRow g3 ([.int .i64 ((1 : Nat) : Int), .int .i64 ((0 : Nat) : Int), .slice sA27 (S).length sC27, .slice pA27 (P).length pC27] : List Value).toArray) := hbS.trans (below_setRow _ _ _ _ hs3)
  replace v27a := Fk.mono _ _ _ _ S_v27a hbS
  replace v27b := Fk.mono _ _ _ _ S_v27b hbS
  replace bl : Below w.heap.size w (w10.setRow g3 ([.int .i64 ((1 : Nat) : Int), .int .i64 ((0 : Nat) : Int), .slice sA27 (S).length sC27, .slice pA27 (P).length pC27] : List Value).toArray) := bl.trans (below_setRow _ _ _ _ hw3)
  generalize w10.setRow g3 ([.int .i64 ((1 : Nat) : Int), .int .i64 ((0 : Nat) : Int), .slice sA27 (S).length sC27, .slice pA27 (P).length pC27] : List Value).toArray = w11b at bl m1 m3 v27a v27b hbS ⊢
  clear x28
  refine wl_one (.eq (.int .i64 0)) rfl 4 rfl (by rw [sz]; decide) (st_assign (.tmp 29) rfl x29) ?_
  intro f12 w12 df2 sz2 old2 new2 hb
  replace hbS0 := hbS
  replace hbS := hbS.trans (Below.mono hb hbS.size)
  replace bl0 := bl
  replace x0 := (old2 0 rfl).trans x0
  replace x1 := (old2 1 rfl).trans x1
  replace x22 := (old2 22 rfl).trans x22
  replace x29 := (old2 29 rfl).trans x29
  replace x3 := (old2 3 rfl).trans x3
  have x4 : f12.eval (.tmp 4) = .int .i64 0 := new2
  have lt_m1 := Ob.lt m1
  replace m1 := Ob.below m1 hb
  have lt_m3 := Ob.lt m3
  replace m3 := Ob.below m3 hb
  replace v27a := Fk.mono _ _ _ _ v27a hb
  replace v27b := Fk.mono _ _ _ _ v27b hb
  replace bl := (bl.trans (Below.mono hb bl.size))
  replace sz := sz2.trans sz
  replace df := df2.trans df
  clear df2 sz2 old2 new2 hb
  refine wpList_nil ?_
  clear hbS hbS0 S_v27a S_v27b
  clear x29
  show Code.wp _ _ _ _ _
  refine wp_seq ?_
  -- R5
  refine wp_region_seq [.eq (.pointer (some ⟨g1, 0, none⟩)), .eq (.tuple #[.agg ([.int .i64 0, .int .i64 0, .slice none 0 0, .slice none 0 0] : List Value).toArray, .int .i64 20]), .eq (.tuple #[.agg ([.int .i64 0, .int .i64 0, .slice none 0 0, .slice none 0 0] : List Value).toArray, .int .i64 20]), .eq (.agg ([.int .i64 0, .int .i64 0, .slice none 0 0, .slice none 0 0] : List Value).toArray), .eq (.int .i64 20), .nw w12.heap.size 38 [.int .i64 0, .int .i64 0, .slice none 0 0, .slice none 0 0]] (by kernel_rfl) (by kernel_rfl) (by rw [sz]; kernel_rfl) (by kernel_rfl) ⟨fun hw ac u K => ?_, fun hw ac u K => ?_, fun hw ac u K => ?_, fun hw ac u K => ?_, fun hw ac u K => ?_, fun hw ac u K => ?_, trivial⟩ ?_
  · exact st_move (.tmp 1) rfl ((K.old 1 rfl).trans x1)
  · exact st_call 13 (.func 13) _ _ #[.pointer (some ⟨g1, 0, none⟩), .slice none 0 0] rfl rfl (arg2 (K.dep 0 31 rfl) rfl) Tryd.enter13 (fk_of (sign_out hz_len (by omega) (by rfl) _ (Ob.below m1 K.grow) _))
  · exact st_move (.tmp 32) rfl (K.dep 1 32 rfl)
  · exact st_ext0 (.tmp 30) rfl (K.dep 2 30 rfl) rfl
  · exact st_ext1 (.tmp 30) rfl (K.dep 2 30 rfl) rfl
  · exact st_alloc 38 rfl _ _ (by kernel_rfl) K.grow.size
  intro f13 w13 A hb
  have S_v27a := v27a
  have S_v27b := v27b
  have hbS0 := Below.refl w12.heap.size w12
  have hbS := hb
  replace bl0 := bl
  replace x0 := (A.old 0 rfl).trans x0
  replace x1 := (A.old 1 rfl).trans x1
  replace x22 := (A.old 22 rfl).trans x22
  replace x3 := (A.old 3 rfl).trans x3
  replace x4 := (A.old 4 rfl).trans x4
  have x5 : Fk.f (.nw w12.heap.size 38 [.int .i64 0, .int .i64 0, .slice none 0 0, .slice none 0 0]) (f13.eval (.tmp 5)) w13 := A.has 5 5 rfl
  have x33 : f13.eval (.tmp 33) = .agg ([.int .i64 0, .int .i64 0, .slice none 0 0, .slice none 0 0] : List Value).toArray := A.has 3 33 rfl
  have x34 : f13.eval (.tmp 34) = .int .i64 20 := A.has 4 34 rfl
  have lt_m1 := Ob.lt m1
  replace m1 := Ob.below m1 hb
  have lt_m3 := Ob.lt m3
  replace m3 := Ob.below m3 hb
  replace v27a := Fk.mono _ _ _ _ v27a hb
  replace v27b := Fk.mono _ _ _ _ v27b hb
  replace bl := (bl.trans (Below.mono hb bl.size))
  replace sz := A.size.trans sz
  replace df := A.defs.trans df
  clear A hb
  obtain ⟨g5, hg5, e5, m5⟩ := x5
  have x5 := e5
  clear e5
  have nm1_5 : g1 ≠ g5 := Nat.ne_of_lt (Nat.lt_of_lt_of_le lt_m1 hg5)
  have nm3_5 : g3 ≠ g5 := Nat.ne_of_lt (Nat.lt_of_lt_of_le lt_m3 hg5)
  have hw5 : w.heap.size ≤ g5 := Nat.le_trans bl0.size hg5
  have hs5 := Nat.le_trans hbS0.size hg5
  refine wl_str rfl 38 (.tmp 5) (.tmp 33) rfl rfl (g5) ([.int .i64 0, .int .i64 0, .slice none 0 0, .slice none 0 0] : List Value).toArray x5 x33 38 _ m5 (by kernel_rfl) (by kernel_rfl) (by kernel_rfl) ?_
  replace m1 : Ob (w13.setRow g5 ([.int .i64 0, .int .i64 0, .slice none 0 0, .slice none 0 0] : List Value).toArray) (g1) 69 ((hz).map V ++ ([.int .i64 ((1 : Nat) : Int), .int .i64 ((0 : Nat) : Int), .int .i64 ((0 + 1 : Nat) : Int)] : List Value)) := Ob.setRow_other m1 _ nm1_5
  replace m3 : Ob (w13.setRow g5 ([.int .i64 0, .int .i64 0, .slice none 0 0, .slice none 0 0] : List Value).toArray) (g3) 38 ([.int .i64 ((1 : Nat) : Int), .int .i64 ((0 : Nat) : Int), .slice sA27 (S).length sC27, .slice pA27 (P).length pC27]) := Ob.setRow_other m3 _ nm3_5
  replace m5 : Ob (w13.setRow g5 ([.int .i64 0, .int .i64 0, .slice none 0 0, .slice none 0 0] : List Value).toArray) (g5) 38 ([.int .i64 0, .int .i64 0, .slice none 0 0, .slice none 0 0]) := Ob.setRow m5 ([.int .i64 0, .int .i64 0, .slice none 0 0, .slice none 0 0])
  replace hbS : Below _ _ (w13.setRow g5 ([.int .i64 0, .int .i64 0, .slice none 0 0, .slice none 0 0] : List Value).toArray) := hbS.trans (below_setRow _ _ _ _ hs5)
  replace v27a := Fk.mono _ _ _ _ S_v27a hbS
  replace v27b := Fk.mono _ _ _ _ S_v27b hbS
  replace bl : Below w.heap.size w (w13.setRow g5 ([.int .i64 0, .int .i64 0, .slice none 0 0, .slice none 0 0] : List Value).toArray) := bl.trans (below_setRow _ _ _ _ hw5)
  generalize w13.setRow g5 ([.int .i64 0, .int .i64 0, .slice none 0 0, .slice none 0 0] : List Value).toArray = w14b at bl m1 m3 m5 v27a v27b hbS ⊢
  clear x5
  clear x33
  refine wl_one (.eq (.int .i64 20)) rfl 6 rfl (by rw [sz]; decide) (st_assign (.tmp 34) rfl x34) ?_
  intro f15 w15 df2 sz2 old2 new2 hb
  replace hbS0 := hbS
  replace hbS := hbS.trans (Below.mono hb hbS.size)
  replace bl0 := bl
  replace x0 := (old2 0 rfl).trans x0
  replace x1 := (old2 1 rfl).trans x1
  replace x22 := (old2 22 rfl).trans x22
  replace x3 := (old2 3 rfl).trans x3
  replace x4 := (old2 4 rfl).trans x4
  replace x34 := (old2 34 rfl).trans x34
  have x6 : f15.eval (.tmp 6) = .int .i64 20 := new2
  have lt_m1 := Ob.lt m1
  replace m1 := Ob.below m1 hb
  have lt_m3 := Ob.lt m3
  replace m3 := Ob.below m3 hb
  have lt_m5 := Ob.lt m5
  replace m5 := Ob.below m5 hb
  replace v27a := Fk.mono _ _ _ _ v27a hb
  replace v27b := Fk.mono _ _ _ _ v27b hb
  replace bl := (bl.trans (Below.mono hb bl.size))
  replace sz := sz2.trans sz
  replace df := df2.trans df
  clear df2 sz2 old2 new2 hb
  refine wpList_nil ?_
  clear hbS hbS0 S_v27a S_v27b
  clear x34
  show Code.wp _ _ _ _ _
  refine wp_seq ?_
  -- R6
  refine wp_allR (R := Mk w15.heap.size) [.eq (.int .i64 0), .eq (.bool true), .eq (.bool true), .eq (.int .i64 20), .eq (.bool true), .eq (.bool true), .eq (.bool true), .eq (.pointer (some ⟨g1, 0, none⟩)), .eq (.agg ((pb).map V).toArray), .by1 w15.heap.size 120, .by1 w15.heap.size 120, .eq (.agg ([.int .i64 ((1 : Nat) : Int), .int .i64 ((0 : Nat) : Int), .slice sA27 (S).length sC27, .slice pA27 (P).length pC27] : List Value).toArray), .eq (.int .i64 0), .eq (.bool true), .eq (.bool true), .eq (.bool true), .eq (.pointer (some ⟨g1, 0, none⟩)), .eq (.agg ((pb).map V).toArray), .by1 w15.heap.size 121, .by1 w15.heap.size 121, .eq (.agg ([.int .i64 ((1 : Nat) : Int), .int .i64 ((0 : Nat) : Int), .slice sA27 (S).length sC27, .slice pA27 (P).length pC27] : List Value).toArray), .eq (.int .i64 21), .eq (.bool true), .eq (.bool true), .eq (.bool true)] (Mk.refl _) (fun w1 w' h hb => h.grow (Nat.le_refl _) hb) (Stab.all (g := _) ⟨stab_eq, stab_eq, stab_eq, stab_eq, stab_eq, stab_eq, stab_eq, stab_eq, stab_eq, stab_by1, stab_by1, stab_eq, stab_eq, stab_eq, stab_eq, stab_eq, stab_eq, stab_eq, stab_by1, stab_by1, stab_eq, stab_eq, stab_eq, stab_eq, stab_eq, trivial⟩) Tryd.mixed (by kernel_rfl) (by kernel_rfl) (by rw [sz]; kernel_rfl) (by kernel_rfl) ⟨fun hw ac u K => ?_, fun hw ac u K => ?_, fun hw ac u K => ?_, fun hw ac u K => ?_, fun hw ac u K => ?_, fun hw ac u K => ?_, fun hw ac u K => ?_, fun hw ac u K => ?_, fun hw ac u K => ?_, fun hw ac u K => ?_, fun hw ac u K => ?_, fun hw ac u K => ?_, fun hw ac u K => ?_, fun hw ac u K => ?_, fun hw ac u K => ?_, fun hw ac u K => ?_, fun hw ac u K => ?_, fun hw ac u K => ?_, fun hw ac u K => ?_, fun hw ac u K => ?_, fun hw ac u K => ?_, fun hw ac u K => ?_, fun hw ac u K => ?_, fun hw ac u K => ?_, fun hw ac u K => ?_, trivial⟩ ?_
  · exact ends_mk (st_move (.tmp 4) rfl ((K.old 4 rfl).trans x4))
  · exact ends_mk (st_eqi 29 (.tmp 35) (.const (.int .i64 0)) rfl .i64 (0) (0) (K.dep 0 35 rfl) rfl _ (by rfl))
  · exact ends_mk (st_move (.tmp 36) rfl (K.dep 1 36 rfl))
  · exact ends_mk (st_move (.tmp 6) rfl ((K.old 6 rfl).trans x6))
  · exact ends_mk (st_eqi 29 (.tmp 38) (.const (.int .i64 20)) rfl .i64 (20) (20) (K.dep 3 38 rfl) rfl _ (by rfl))
  · exact ends_mk (st_pick_t (.tmp 37) (.tmp 39) (.const (.bool false)) rfl (K.dep 2 37 rfl) (K.dep 4 39 rfl))
  · exact ends_mk (st_move (.tmp 40) rfl (K.dep 5 40 rfl))
  · exact ends_mk (st_move (.tmp 1) rfl ((K.old 1 rfl).trans x1))
  · exact ends_mk (st_call 11 (.func 11) _ _ #[.pointer (some ⟨g1, 0, none⟩)] rfl rfl (one_arg (K.dep 7 42 rfl)) Tryd.enter11 (fk_of (public_key hz_len (by omega) (by omega) (by omega) _ (Ob.below m1 K.grow) (hK.below (bl.trans (Below.mono K.grow bl.size))) epb)))
  · exact ends_mk (st_bytes1 120 120 rfl (by rfl) _ K.grow.size)
  · exact st_mark (.tmp 44) rfl (K.dep 9 44 rfl)
  · exact ends_mk (st_loadz 38 (.tmp 3) rfl (g3) 0 [.int .i64 ((1 : Nat) : Int), .int .i64 ((0 : Nat) : Int), .slice sA27 (S).length sC27, .slice pA27 (P).length pC27] (by kernel_rfl) (by kernel_rfl) ((K.old 3 rfl).trans x3) (Ob.range (Ob.below m3 K.grow) 0 _ (fun j v hj => by simpa using hj)))
  · exact ends_mk (st_call 21 (.func 21) _ _ #[.agg ((pb).map V).toArray, .int .i64 1, .int .i64 0, ac.eval (.tmp 45), .agg ([.int .i64 ((1 : Nat) : Int), .int .i64 ((0 : Nat) : Int), .slice sA27 (S).length sC27, .slice pA27 (P).length pC27] : List Value).toArray] rfl rfl (arg5 (K.dep 8 43 rfl) rfl rfl rfl (K.dep 11 46 rfl)) Tryd.enter21 (fk_of (verify_yes (kind := 1) (height := 0) (by omega) (by omega) (by omega) 0 (by simp) hpb hP0 _ _ (by simp) (by1_sn (K.dep 10 45 rfl)) (hK.below (bl.trans (Below.mono K.grow bl.size))) (Fk.mono _ _ _ _ v27a K.grow) (Fk.mono _ _ _ _ v27b K.grow) ⟨rfl⟩ hSl hup1)))
  · exact ends_mk (st_eqi 29 (.tmp 47) (.const (.int .i64 0)) rfl .i64 (0) (0) (K.dep 12 47 rfl) rfl _ (by rfl))
  · exact ends_mk (st_pick_t (.tmp 41) (.tmp 48) (.const (.bool false)) rfl (K.dep 6 41 rfl) (K.dep 13 48 rfl))
  · exact ends_mk (st_move (.tmp 49) rfl (K.dep 14 49 rfl))
  · exact ends_mk (st_move (.tmp 1) rfl ((K.old 1 rfl).trans x1))
  · exact ends_mk (st_call 11 (.func 11) _ _ #[.pointer (some ⟨g1, 0, none⟩)] rfl rfl (one_arg (K.dep 16 51 rfl)) Tryd.enter11 (fk_of (public_key hz_len (by omega) (by omega) (by omega) _ (Ob.below m1 K.grow) (hK.below (bl.trans (Below.mono K.grow bl.size))) epb)))
  · exact ends_mk (st_bytes1 121 121 rfl (by rfl) _ K.grow.size)
  · exact st_mark (.tmp 53) rfl (K.dep 18 53 rfl)
  · exact ends_mk (st_loadz 38 (.tmp 3) rfl (g3) 0 [.int .i64 ((1 : Nat) : Int), .int .i64 ((0 : Nat) : Int), .slice sA27 (S).length sC27, .slice pA27 (P).length pC27] (by kernel_rfl) (by kernel_rfl) ((K.old 3 rfl).trans x3) (Ob.range (Ob.below m3 K.grow) 0 _ (fun j v hj => by simpa using hj)))
  · exact ends_mk (st_call 21 (.func 21) _ _ #[.agg ((pb).map V).toArray, .int .i64 1, .int .i64 0, ac.eval (.tmp 54), .agg ([.int .i64 ((1 : Nat) : Int), .int .i64 ((0 : Nat) : Int), .slice sA27 (S).length sC27, .slice pA27 (P).length pC27] : List Value).toArray] rfl rfl (arg5 (K.dep 17 52 rfl) rfl rfl rfl (K.dep 20 55 rfl)) Tryd.enter21 (fk_of (verify_ne (kind := 1) (height := 0) (by omega) (by omega) (by omega) 0 (by simp) hpb hP0 _ _ (by simp) (by1_sn (K.dep 19 54 rfl)) (hK.below (bl.trans (Below.mono K.grow bl.size))) (Fk.mono _ _ _ _ v27a K.grow) (Fk.mono _ _ _ _ v27b K.grow) ⟨rfl⟩ hSl hup2)))
  · exact ends_mk (st_eqi 29 (.tmp 56) (.const (.int .i64 21)) rfl .i64 (21) (21) (K.dep 21 56 rfl) rfl _ (by rfl))
  · exact ends_mk (st_pick_t (.tmp 50) (.tmp 57) (.const (.bool false)) rfl (K.dep 15 50 rfl) (K.dep 22 57 rfl))
  · exact ends_mk (st_assign (.tmp 58) rfl (K.dep 23 58 rfl))
  intro f16 w16 A hb
  replace bl0 := bl
  clear x0
  replace x1 := (A.old 1 rfl).trans x1
  replace x22 := (A.old 22 rfl).trans x22
  replace x3 := (A.old 3 rfl).trans x3
  replace x4 := (A.old 4 rfl).trans x4
  replace x6 := (A.old 6 rfl).trans x6
  have x0 : f16.eval (.tmp 0) = .bool true := A.has 24 0 rfl
  have lt_m1 := Ob.lt m1
  replace m1 := Ob.below m1 hb
  have lt_m3 := Ob.lt m3
  replace m3 := Ob.below m3 hb
  have lt_m5 := Ob.lt m5
  replace m5 := Ob.below m5 hb
  replace v27a := Fk.mono _ _ _ _ v27a hb
  replace v27b := Fk.mono _ _ _ _ v27b hb
  replace bl := (bl.trans (Below.mono hb bl.size))
  replace sz := A.size.trans sz
  replace df := A.defs.trans df
  clear A hb
  clear x4
  clear x6
  show Code.wp _ _ _ _ _
  refine wp_ret ?_
  repeat (first | with_reducible refine then_ret ?_ | with_reducible refine block_ret ?_)
  exact bodyPost_ret (v := .bool true) (ret_slot rfl f16 _ x0 _ _) df ⟨rfl, bl⟩
end Go.Proofs.YtnanipeapjpkfaaDoor
namespace Go.Proofs.YtnanipeapjpkfaaDoor
set_option maxRecDepth 100000
open Go.RowKit
/-- A slice value that has these bools. -/
structure Bl (w : World) (sp : Option Addr) (b o : Nat) (ds : List Bool) : Prop where
  ptr : 0 < ds.length → sp = some ⟨b, o, none⟩
  cell : ∀ (i : Nat) (d : Bool), ds[i]? = some d → w.cell? ⟨b, o + i, none⟩ = some (.bool d)
theorem Bl.lt {w : World} {sp : Option Addr} {b o : Nat} {ds : List Bool} (h : Bl w sp b o ds) {i : Nat} {d : Bool} (hi : ds[i]? = some d) : b < w.heap.size := block_lt_of_cell (h.cell i d hi)
theorem Bl.below {w w' : World} {sp : Option Addr} {b o : Nat} {ds : List Bool} (h : Bl w sp b o ds) (hb : Below w.heap.size w w') : Bl w' sp b o ds :=
  ⟨h.ptr, fun i d hi => by rw [hb.cell (h.lt hi)]; exact h.cell i d hi⟩
theorem Bl.onlyN {w w' : World} {sp : Option Addr} {b o g : Nat} {ds : List Bool} (h : Bl w sp b o ds) (ho : Only g w w') (hg : b ≠ g) : Bl w' sp b o ds :=
  ⟨h.ptr, fun i d hi => by rw [ho.cell (h.lt hi) hg]; exact h.cell i d hi⟩
def Bv (b : Bool) : Value := .bool b
/-- A slice of bools of the call's own, that grows. -/
def Fk.owb (base : Nat) (ds : List Bool) : Fk := .inr (.inl ⟨fun v w => w.ownsRow base 4 1 v ds.length (ds.map Bv), by
  rintro v w w' ⟨h1, h2⟩ hb
  refine ⟨h1, ?_⟩
  rcases h2 with h2 | ⟨g, cap, cur, e, hbg, hg, r⟩
  · exact .inl h2
  · exact .inr ⟨g, cap, cur, e, hbg, by rw [hb.block g (Array.getElem?_eq_some_iff.1 hg).1]; exact hg, r⟩⟩)
/-- Bools in new memory. -/
def Fk.bn (g0 : Nat) (ds : List Bool) : Fk := .inr (.inl ⟨fun v w => ∃ A C b o, v = .slice A ds.length C ∧ (0 < ds.length → g0 ≤ b) ∧ Bl w A b o ds, by
  rintro v w w' ⟨A, C, b, o, e, hg, h⟩ hb
  exact ⟨A, C, b, o, e, hg, h.below hb⟩⟩)
theorem owb_nil (base : Nat) (w : World) : (Fk.owb base []).f (.slice none 0 0) w := World.ownsRow_nil _ _ _ _
theorem own_bl {w : World} {base n : Nat} {v : Value} {xs : List Bool} (h : w.ownsRow base 4 1 v n (xs.map Bv)) : ∃ g sp c, v = .slice sp xs.length c ∧ Bl w sp g 0 xs ∧ (0 < n → base ≤ g) := by
  obtain ⟨hl, h⟩ := h
  have hn : n = xs.length := by simpa using hl.symm
  rcases h with ⟨rfl, rfl⟩ | ⟨g, cap, cur, rfl, hbg, hg, hnc, _, hcs, ht⟩
  · have : xs = [] := List.eq_nil_of_length_eq_zero hn.symm
    subst this
    exact ⟨0, none, 0, rfl, ⟨fun h => by simp at h, fun i d hi => by simp at hi⟩, fun h => absurd h (by omega)⟩
  · subst hn
    refine ⟨g, some ⟨g, 0, none⟩, cap, rfl, ⟨fun _ => rfl, ?_⟩, fun _ => hbg⟩
    intro i d hi
    have hil : i < xs.length := (List.getElem?_eq_some_iff.1 hi).1
    rw [Nat.zero_add, cell_of_row _ _ _ _ _ _ hg]
    have e2 := congrArg (·[i]?) ht
    simp only [Nat.mul_one, List.getElem?_take, if_pos hil, List.getElem?_map, hi, Option.map_some, Array.getElem?_toList] at e2
    exact e2
theorem owb_bn {base : Nat} {ds : List Bool} {v : Value} {w : World} (h : (Fk.owb base ds).f v w) : (Fk.bn base ds).f v w := by
  obtain ⟨g, sp, c, e, hb, hg⟩ := own_bl h
  exact ⟨sp, c, g, 0, e, hg, hb⟩
theorem Tryd.info4 : (Tryd.prog.info? 4).map (fun i => (i.zero, i.size, i.bytes)) = some (some (.bool false), 1, 1) := by kernel_rfl
theorem Tryd.under53 : Tryd.prog.underlying 53 = some (.slice 4) := by kernel_rfl
theorem Tryd.elem53 : Tryd.prog.elem 53 = 4 := by kernel_rfl
theorem Tryd.sizeOf4 (w : World) : (sizeOf 4).run Tryd.prog w = .ok 1 w := by kernel_rfl
theorem Tryd.bool1 (b : Bool) (w : World) : (Instr.buildSlice 53 1 #[(0, .bool b)]).run Tryd.prog w = .ok (.slice (some ⟨w.heap.size, 0, none⟩) 1 1) (w.alloc (.cells #[.bool b] 4)) := by kernel_rfl
section
variable {Q : Exit → Act → World → Prop} {o : Oper} {a : Act} {w : World} {ops : Array Oper} {rest : List Oper}
theorem st_bb1 (x : Operand) (ho : o.op = .buildSlice 53 1 #[(0, x)]) {b : Bool} (hx : a.eval x = .bool b) : o.wp Tryd.prog a w (Ends a o.dst w (Fk.bn 0 [b]).f) Q := by
  refine st_run (v := .slice (some ⟨w.heap.size, 0, none⟩) 1 1) (w' := w.alloc (.cells #[.bool b] 4)) ?_ ((Below.refl _ _).alloc (Nat.le_refl _) _) ⟨_, _, w.heap.size, 0, rfl, fun _ => Nat.zero_le _, fun _ => rfl, fun i d hi => ?_⟩
  · unfold execOp
    rw [ho]
    simp [hx, Tryd.bool1]
  · cases i with
    | zero =>
      obtain rfl : b = d := by simpa using hi
      rw [World.cell?_alloc_mark]
      rfl
    | succ n => simp at hi
theorem wl_appendb (hgd : o.guard = none) (s x : Operand) (ho : o.op = .call { callee := .builtin .append, args := #[s, x], argTypes := #[53, 53] }) (d : Nat) (hd : o.dst = some d) (hsz : d < a.tmps.size)
    {wL : World} {hs : List Bool} {hh : Bool} (hs1 : (Fk.owb wL.heap.size hs).f (a.eval s) w) (hx : (Fk.bn 0 [hh]).f (a.eval x) w) (hL : Below wL.heap.size wL w) (hN : hs.length ≤ 1000)
    (h : ∀ a2 w2, a2.defers = a.defers → a2.tmps.size = a.tmps.size → (∀ t, (t == d) = false → a2.eval (.tmp t) = a.eval (.tmp t)) → (Fk.owb wL.heap.size (hs ++ [hh])).f (a2.eval (.tmp d)) w2 → Below wL.heap.size wL w2 → wpList Tryd.prog ops Q rest a2 w2) : wpList Tryd.prog ops Q (o :: rest) a w := by
  obtain ⟨i0, hi, hz0, hz1, hz2⟩ := info_parts Tryd.info4
  obtain ⟨A, C, lb, lo, e, _, hl⟩ := hx
  have hp := hl.ptr (by simp)
  subst hp
  have hown : w.ownsRow wL.heap.size 4 1 (a.eval s) hs.length (hs.map Bv) := hs1
  refine wpList_append_own w hgd s x 53 ho wL.heap.size 4 i0 (.bool false) 1 1 Tryd.under53 hi hz0 hz1 hz2 rfl (by decide) _ hs.length _ rfl hown ⟨lb, lo, none⟩ 1 C ([hh].map Bv) (by simpa using e) (by simp) ?_ (by intro v hv; simp at hv; subst hv; rfl) (by unfold maxLen; omega) (by omega) hL.size ?_
  · intro j u hj
    cases j with
    | zero =>
      obtain rfl : Value.bool hh = u := by simpa [Bv] using hj
      have := hl.cell 0 hh rfl
      rw [Addr.add_mid]
      exact this
    | succ n => simp at hj
  · intro v' w' h1 h2 _
    refine h _ _ (put_def _ _ _) (put_size _ _ _) (fun t ht => ?_) ?_ (hL.grown h2 hL.size (fun k e => (World.ownsRow.lt hown k e).1))
    · rw [hd]
      exact put_eval_other _ _ _ _ (fun e => by subst e; simp at ht)
    · rw [hd, put_eval_same _ _ _ hsz]
      show w'.ownsRow wL.heap.size 4 1 v' (hs ++ [hh]).length ((hs ++ [hh]).map Bv)
      rw [List.length_append, List.map_append]
      exact h1
theorem st_quo2 (x y : Operand) (ho : o.op = .binOp .quo 3 x y 3) (m : Nat) (hm : m ≤ 1000000) (hx : a.eval x = .int .i64 (m : Int)) (hy : a.eval y = .int .i64 2) : o.wp Tryd.prog a w (Ends a o.dst w (Fk.eq (.int .i64 ((m / 2 : Nat) : Int))).f) Q := by
  refine st_bin .quo 3 3 x y ho hx hy ?_
  have h1 : Int.tdiv (m : Int) 2 = ((m / 2 : Nat) : Int) := by
    rw [Int.tdiv_eq_ediv_of_nonneg (by omega)]
    omega
  simp only [eqGuard, binOp, Op.intDiv]
  simp [h1]
  rw [IntKind.wrap_i64]
  omega
theorem st_rem2 (x y : Operand) (ho : o.op = .binOp .rem 3 x y 3) (m : Nat) (hm : m ≤ 1000000) (hx : a.eval x = .int .i64 (m : Int)) (hy : a.eval y = .int .i64 2) : o.wp Tryd.prog a w (Ends a o.dst w (Fk.eq (.int .i64 ((m % 2 : Nat) : Int))).f) Q := by
  refine st_bin .rem 3 3 x y ho hx hy ?_
  have h1 : Int.tmod (m : Int) 2 = ((m % 2 : Nat) : Int) := by
    rw [Int.tmod_eq_emod_of_nonneg (by omega)]
    omega
  simp only [eqGuard, binOp, Op.intDiv]
  simp [h1]
theorem st_lenbl (x : Operand) (ho : o.op = .call { callee := .builtin .len, args := #[x], argTypes := #[53] }) {A : Option Addr} {n C : Nat} (h : a.eval x = .slice A n C) : o.wp Tryd.prog a w (Ends a o.dst w (Fk.eq (.int .i64 (n : Int))).f) Q := by
  refine st_pure (v := .int .i64 (n : Int)) ?_ rfl
  have h1 := run_len_slice (P := Tryd.prog) (w := w) 53 o.type A n C (by rw [Tryd.elem53]; exact Tryd.under53)
  unfold execOp
  simp [ho, resolve, invoke, builtin, h, h1, goInt]
theorem st_idxbl (x y : Operand) (ho : o.op = .indexAddr 53 x y) {A : Option Addr} {C b so : Nat} {ds : List Bool} (h : Bl w A b so ds) (hx : a.eval x = .slice A ds.length C) (i : Nat) (d : Bool) (hy : a.eval y = .int .i64 (i : Int)) (hi : ds[i]? = some d) : o.wp Tryd.prog a w (Ends a o.dst w (Fk.pv (.bool d)).f) Q := by
  have hil : i < ds.length := (List.getElem?_eq_some_iff.1 hi).1
  have hp := h.ptr (by omega)
  subst hp
  refine st_pure (v := .pointer (some ⟨b, so + i, none⟩)) ?_ ⟨b, so + i, rfl, h.cell i d hi⟩
  have h1 := run_indexAt_slice (P := Tryd.prog) (w := w) 53 ⟨b, so, none⟩ ds.length C .i64 (i : Int) (by rw [Tryd.elem53]; exact Tryd.under53)
  rw [if_pos (by omega), Tryd.elem53, Tryd.sizeOf4] at h1
  simp only [Result.andThen_ok, Int.toNat_natCast, Addr.add_mid, Nat.mul_one] at h1
  unfold execOp
  rw [ho]
  simp [hx, hy, h1]
theorem st_loadbl (x : Operand) (ho : o.op = .load 4 x) {u : Value} (h : (Fk.pv u).f (a.eval x) w) : o.wp Tryd.prog a w (Ends a o.dst w (Fk.eq u).f) Q := by
  obtain ⟨b, so, e, hc⟩ := h
  exact st_loadc 4 x ho (by kernel_rfl) e hc
end
/-- Is it the right one of two, from the leaf up? -/
def sds (i k : Nat) : List Bool := (List.range k).map fun j => decide (i / 2 ^ j % 2 = 1)
theorem sds_len (i k : Nat) : (sds i k).length = k := by simp [sds]
theorem sds_succ (i k : Nat) : sds i (k + 1) = sds i k ++ [decide (i / 2 ^ k % 2 = 1)] := by simp [sds, List.range_succ]
theorem sds_at (i k j : Nat) (h : j < k) : (sds i k)[j]? = some (decide (i / 2 ^ j % 2 = 1)) := by simp [sds, h]
end Go.Proofs.YtnanipeapjpkfaaDoor
namespace Go.Proofs.YtnanipeapjpkfaaDoor
set_option maxRecDepth 100000
open Go.RowKit
theorem st_quo2e {Q : Exit → Act → World → Prop} {o : Oper} {a : Act} {w : World} (x y : Operand) (ho : o.op = .binOp .quo 3 x y 3) (m e : Nat) (he : e = m / 2) (hm : m ≤ 1000000) (hx : a.eval x = .int .i64 (m : Int)) (hy : a.eval y = .int .i64 2) : o.wp Tryd.prog a w (Ends a o.dst w (Fk.eq (.int .i64 ((e : Nat) : Int))).f) Q := by
  subst he
  exact st_quo2 x y ho m hm hx hy
theorem decide_cast (m : Nat) : decide (m = 1) = decide (((m : Nat) : Int) = 1) := by
  by_cases h : m = 1
  · subst h; rfl
  · rw [decide_eq_false h, decide_eq_false (by omega)]
theorem sides_any (i n : Nat) (hi : i ≤ 1000000) (hn : n ≤ 60) (w : World) :
    Calls Tryd.prog 25 #[.int .i64 ((i : Nat) : Int), .int .i64 ((n : Nat) : Int)] w fun e w' => ∃ u, e = .returned u ∧ (Fk.bn w.heap.size (sds i n)).f u w' ∧ Below w.heap.size w w' := by
  go_enter Tryd.func25, Tryd.ntmps25
  refine code_both (fun f w1 => f.tmps.size = 21 ∧ f.defers = [] ∧ f.eval (.tmp 0) = .int .i64 ((i : Nat) : Int) ∧ f.eval (.tmp 1) = .int .i64 ((n : Nat) : Int) ∧ Below w.heap.size w (w1)) ⟨rfl, rfl, rfl, rfl, Below.refl _ _⟩ ?_
  rintro f0 w0 ⟨sz, df, x0, x1, bl⟩
  have bl0 := bl
  refine wp_seq ?_
  -- R0
  refine wp_all_seq [.eq (.slice none 0 0)] (by kernel_rfl) (by kernel_rfl) (by rw [sz]; kernel_rfl) (by kernel_rfl) ⟨fun hw ac u K => ?_, trivial⟩ ?_
  · exact st_assign (.const (.slice none 0 0)) rfl rfl
  intro f1 w1 A hb
  replace bl0 := bl
  replace x0 := (A.old 0 rfl).trans x0
  replace x1 := (A.old 1 rfl).trans x1
  have x4 : f1.eval (.tmp 4) = .slice none 0 0 := A.has 0 4 rfl
  replace bl := (bl.trans (Below.mono hb bl.size))
  replace sz := A.size.trans sz
  replace df := A.defs.trans df
  clear A hb
  show Code.wp _ _ _ _ _
  refine wp_seq ?_
  -- R1
  refine wp_all_seq [.owb w.heap.size ([])] (by kernel_rfl) (by kernel_rfl) (by rw [sz]; kernel_rfl) (by kernel_rfl) ⟨fun hw ac u K => ?_, trivial⟩ ?_
  · exact st_assign (.const (.slice none 0 0)) rfl (owb_nil _ _)
  intro f2 w2 A hb
  replace bl0 := bl
  replace x0 := (A.old 0 rfl).trans x0
  replace x1 := (A.old 1 rfl).trans x1
  replace x4 := (A.old 4 rfl).trans x4
  have x5 : Fk.f (.owb w.heap.size ([])) (f2.eval (.tmp 5)) w2 := A.has 0 5 rfl
  replace bl := (bl.trans (Below.mono hb bl.size))
  replace sz := A.size.trans sz
  replace df := A.defs.trans df
  clear A hb
  show Code.wp _ _ _ _ _
  refine wp_seq ?_
  refine wp_seq ?_
  -- R2
  refine wp_all_seq [.eq (.int .i64 0)] (by kernel_rfl) (by kernel_rfl) (by rw [sz]; kernel_rfl) (by kernel_rfl) ⟨fun hw ac u K => ?_, trivial⟩ ?_
  · exact st_assign (.const (.int .i64 0)) rfl rfl
  intro f3 w3 A hb
  replace bl0 := bl
  replace x0 := (A.old 0 rfl).trans x0
  replace x1 := (A.old 1 rfl).trans x1
  replace x4 := (A.old 4 rfl).trans x4
  replace x5 := f_at (A.old 5 rfl) (Fk.mono _ _ _ _ x5 hb)
  have x6 : f3.eval (.tmp 6) = .int .i64 0 := A.has 0 6 rfl
  replace bl := (bl.trans (Below.mono hb bl.size))
  replace sz := A.size.trans sz
  replace df := A.defs.trans df
  clear A hb
  show Code.wp _ _ _ _ _
  refine wp_block ?_
  refine wp_loop (fun f v1 => ∃ k : Nat, k ≤ n ∧ f.tmps.size = 21 ∧ f.defers = [] ∧ f.eval (.tmp 1) = .int .i64 ((n : Nat) : Int) ∧ f.eval (.tmp 4) = .slice none 0 0 ∧ f.eval (.tmp 6) = .int .i64 ((k : Nat) : Int) ∧ f.eval (.tmp 0) = .int .i64 ((i / 2 ^ k : Nat) : Int) ∧ Fk.f (.owb w.heap.size (sds i k)) (f.eval (.tmp 5)) v1 ∧ Below w.heap.size w (v1)) (fun f _ => n - (intOf (f.eval (.tmp 6))).toNat) ⟨0, Nat.zero_le _, sz, df, x1, x4, x6, (by rw [Nat.pow_zero, Nat.div_one]; exact x0), x5, bl⟩ ?_
  intro f4 w4 hI
  clear sz df bl bl0 x0 x1 x4 x5 x6
  obtain ⟨k, hk, sz, df, x1, x4, x6, x0, x5, bl⟩ := hI
  have bl0 := bl
  have hcnt := x6
  refine wp_seq ?_
  refine wp_seq ?_
  have hdk : i / 2 ^ k ≤ 1000000 := Nat.le_trans (Nat.div_le_self _ _) hi
  by_cases hlt : k < n
  rotate_left
  · skip
    -- R3
    refine wp_all_seq [.eq (.int .i64 ((k : Nat) : Int)), .eq (.int .i64 ((n : Nat) : Int)), .eq (.bool false)] (by kernel_rfl) (by kernel_rfl) (by rw [sz]; kernel_rfl) (by kernel_rfl) ⟨fun hw ac u K => ?_, fun hw ac u K => ?_, fun hw ac u K => ?_, trivial⟩ ?_
    · exact st_move (.tmp 6) rfl ((K.old 6 rfl).trans x6)
    · exact st_move (.tmp 1) rfl ((K.old 1 rfl).trans x1)
    · exact st_lss 3 (.tmp 7) (.tmp 8) rfl .i64 (((k : Nat) : Int)) (((n : Nat) : Int)) (K.dep 0 7 rfl) (K.dep 1 8 rfl) _ (by first | (simp; done) | (simp; omega))
    intro f5 w5 A hb
    replace bl0 := bl
    replace x0 := (A.old 0 rfl).trans x0
    replace x1 := (A.old 1 rfl).trans x1
    replace x4 := (A.old 4 rfl).trans x4
    replace x5 := f_at (A.old 5 rfl) (Fk.mono _ _ _ _ x5 hb)
    replace x6 := (A.old 6 rfl).trans x6
    have x9 : f5.eval (.tmp 9) = .bool false := A.has 2 9 rfl
    replace bl := (bl.trans (Below.mono hb bl.size))
    replace sz := A.size.trans sz
    replace df := A.defs.trans df
    clear A hb
    show Code.wp _ _ _ _ _
    refine wp_cond_false x9 ?_
    refine wp_exit ?_
    show Code.wp _ _ _ _ _
    refine wp_seq ?_
    -- R7
    refine wp_all_seq [.owb w.heap.size (sds i k), .owb w.heap.size (sds i k)] (by kernel_rfl) (by kernel_rfl) (by rw [sz]; kernel_rfl) (by kernel_rfl) ⟨fun hw ac u K => ?_, fun hw ac u K => ?_, trivial⟩ ?_
    · exact st_move (.tmp 5) rfl (f_at (K.old 5 rfl) (Fk.mono _ _ _ _ x5 K.grow))
    · exact st_assign (.tmp 20) rfl (K.dep 0 20 rfl)
    intro f6 w6 A hb
    replace bl0 := bl
    replace x0 := (A.old 0 rfl).trans x0
    replace x1 := (A.old 1 rfl).trans x1
    clear x4
    replace x5 := f_at (A.old 5 rfl) (Fk.mono _ _ _ _ x5 hb)
    replace x6 := (A.old 6 rfl).trans x6
    replace x9 := (A.old 9 rfl).trans x9
    have x4 : Fk.f (.owb w.heap.size (sds i k)) (f6.eval (.tmp 4)) w6 := A.has 1 4 rfl
    replace bl := (bl.trans (Below.mono hb bl.size))
    replace sz := A.size.trans sz
    replace df := A.defs.trans df
    clear A hb
    show Code.wp _ _ _ _ _
    refine wp_ret ?_
    repeat (first | with_reducible refine then_ret ?_ | with_reducible refine block_ret ?_)
    obtain rfl : k = n := by omega
    exact bodyPost_ret (v := f6.eval (.tmp 4)) (ret_slot rfl f6 _ rfl _ _) df ⟨_, rfl, owb_bn x4, bl⟩
  -- R3
  refine wp_all_seq [.eq (.int .i64 ((k : Nat) : Int)), .eq (.int .i64 ((n : Nat) : Int)), .eq (.bool true)] (by kernel_rfl) (by kernel_rfl) (by rw [sz]; kernel_rfl) (by kernel_rfl) ⟨fun hw ac u K => ?_, fun hw ac u K => ?_, fun hw ac u K => ?_, trivial⟩ ?_
  · exact st_move (.tmp 6) rfl ((K.old 6 rfl).trans x6)
  · exact st_move (.tmp 1) rfl ((K.old 1 rfl).trans x1)
  · exact st_lss 3 (.tmp 7) (.tmp 8) rfl .i64 (((k : Nat) : Int)) (((n : Nat) : Int)) (K.dep 0 7 rfl) (K.dep 1 8 rfl) _ (by first | (simp; done) | (simp; omega))
  intro f5 w5 A hb
  replace bl0 := bl
  replace x0 := (A.old 0 rfl).trans x0
  replace x1 := (A.old 1 rfl).trans x1
  replace x4 := (A.old 4 rfl).trans x4
  replace x5 := f_at (A.old 5 rfl) (Fk.mono _ _ _ _ x5 hb)
  replace x6 := (A.old 6 rfl).trans x6
  have x9 : f5.eval (.tmp 9) = .bool true := A.has 2 9 rfl
  replace bl := (bl.trans (Below.mono hb bl.size))
  replace sz := A.size.trans sz
  replace df := A.defs.trans df
  clear A hb
  show Code.wp _ _ _ _ _
  refine wp_cond_true x9 ?_
  refine wp_skip ?_
  show Code.wp _ _ _ _ _
  refine wp_seq ?_
  refine wp_block ?_
  refine wp_seq ?_
  -- R5
  refine wp_region_seq [.owb w.heap.size (sds i k), .eq (.int .i64 ((i / 2 ^ k : Nat) : Int)), .eq (.int .i64 ((i / 2 ^ k % 2 : Nat) : Int)), .eq (.bool (decide (i / 2 ^ k % 2 = 1))), .bn 0 [decide (i / 2 ^ k % 2 = 1)]] (by kernel_rfl) (by kernel_rfl) (by rw [sz]; kernel_rfl) (by kernel_rfl) ⟨fun hw ac u K => ?_, fun hw ac u K => ?_, fun hw ac u K => ?_, fun hw ac u K => ?_, fun hw ac u K => ?_, trivial⟩ ?_
  · exact st_move (.tmp 5) rfl (f_at (K.old 5 rfl) (Fk.mono _ _ _ _ x5 K.grow))
  · exact st_move (.tmp 0) rfl ((K.old 0 rfl).trans x0)
  · exact st_rem2 (.tmp 13) (.const (.int .i64 2)) rfl (i / 2 ^ k) hdk (K.dep 1 13 rfl) rfl
  · exact st_eqi 3 (.tmp 14) (.const (.int .i64 1)) rfl .i64 (((i / 2 ^ k % 2 : Nat) : Int)) (1) (K.dep 2 14 rfl) rfl _ (decide_cast _)
  · exact st_bb1 (.tmp 15) rfl (K.dep 3 15 rfl)
  intro f6 w6 A hb
  replace bl0 := bl
  replace x0 := (A.old 0 rfl).trans x0
  replace x1 := (A.old 1 rfl).trans x1
  replace x4 := (A.old 4 rfl).trans x4
  replace x5 := f_at (A.old 5 rfl) (Fk.mono _ _ _ _ x5 hb)
  replace x6 := (A.old 6 rfl).trans x6
  replace x9 := (A.old 9 rfl).trans x9
  have x12 : Fk.f (.owb w.heap.size (sds i k)) (f6.eval (.tmp 12)) w6 := A.has 0 12 rfl
  have x16 : Fk.f (.bn 0 [decide (i / 2 ^ k % 2 = 1)]) (f6.eval (.tmp 16)) w6 := A.has 4 16 rfl
  replace bl := (bl.trans (Below.mono hb bl.size))
  replace sz := A.size.trans sz
  replace df := A.defs.trans df
  clear A hb
  refine wl_appendb rfl (.tmp 12) (.tmp 16) rfl 17 rfl (by rw [sz]; decide) x12 x16 bl (by rw [sds_len]; omega) ?_
  intro f7 w7 df2 sz2 old2 new2 bl2
  clear x5
  clear x12
  clear x16
  replace x0 := (old2 0 rfl).trans x0
  replace x1 := (old2 1 rfl).trans x1
  replace x4 := (old2 4 rfl).trans x4
  replace x6 := (old2 6 rfl).trans x6
  replace x9 := (old2 9 rfl).trans x9
  have x17 : Fk.f (.owb w.heap.size (sds i k ++ [decide (i / 2 ^ k % 2 = 1)])) (f7.eval (.tmp 17)) w7 := new2
  replace bl := bl2
  replace bl0 := bl
  replace sz := sz2.trans sz
  replace df := df2.trans df
  clear df2 sz2 old2 new2 bl2
  refine wl_one (.owb w.heap.size (sds i k ++ [decide (i / 2 ^ k % 2 = 1)])) rfl 5 rfl (by rw [sz]; decide) (st_assign (.tmp 17) rfl x17) ?_
  intro f8 w8 df2 sz2 old2 new2 hb
  replace bl0 := bl
  replace x0 := (old2 0 rfl).trans x0
  replace x1 := (old2 1 rfl).trans x1
  replace x4 := (old2 4 rfl).trans x4
  replace x6 := (old2 6 rfl).trans x6
  replace x9 := (old2 9 rfl).trans x9
  replace x17 := f_at (old2 17 rfl) (Fk.mono _ _ _ _ x17 hb)
  have x5 : Fk.f (.owb w.heap.size (sds i k ++ [decide (i / 2 ^ k % 2 = 1)])) (f8.eval (.tmp 5)) w8 := new2
  replace bl := (bl.trans (Below.mono hb bl.size))
  replace sz := sz2.trans sz
  replace df := df2.trans df
  clear df2 sz2 old2 new2 hb
  refine wpList_nil ?_
  clear x17
  show Code.wp _ _ _ _ _
  -- R6
  refine wp_region_seq [.eq (.int .i64 ((i / 2 ^ k : Nat) : Int)), .eq (.int .i64 ((i / 2 ^ (k + 1) : Nat) : Int))] (by kernel_rfl) (by kernel_rfl) (by rw [sz]; kernel_rfl) (by kernel_rfl) ⟨fun hw ac u K => ?_, fun hw ac u K => ?_, trivial⟩ ?_
  · exact st_move (.tmp 0) rfl ((K.old 0 rfl).trans x0)
  · exact st_quo2e (.tmp 18) (.const (.int .i64 2)) rfl (i / 2 ^ k) (i / 2 ^ (k + 1)) (by rw [Nat.div_div_eq_div_mul, ← Nat.pow_succ]) hdk (K.dep 0 18 rfl) rfl
  intro f9 w9 A hb
  replace bl0 := bl
  replace x0 := (A.old 0 rfl).trans x0
  replace x1 := (A.old 1 rfl).trans x1
  replace x4 := (A.old 4 rfl).trans x4
  replace x6 := (A.old 6 rfl).trans x6
  replace x9 := (A.old 9 rfl).trans x9
  replace x5 := f_at (A.old 5 rfl) (Fk.mono _ _ _ _ x5 hb)
  have x19 : f9.eval (.tmp 19) = .int .i64 ((i / 2 ^ (k + 1) : Nat) : Int) := A.has 1 19 rfl
  replace bl := (bl.trans (Below.mono hb bl.size))
  replace sz := A.size.trans sz
  replace df := A.defs.trans df
  clear A hb
  refine wl_one (.eq (.int .i64 ((i / 2 ^ (k + 1) : Nat) : Int))) rfl 0 rfl (by rw [sz]; decide) (st_assign (.tmp 19) rfl x19) ?_
  intro f10 w10 df2 sz2 old2 new2 hb
  replace bl0 := bl
  clear x0
  replace x1 := (old2 1 rfl).trans x1
  replace x4 := (old2 4 rfl).trans x4
  replace x6 := (old2 6 rfl).trans x6
  replace x9 := (old2 9 rfl).trans x9
  replace x5 := f_at (old2 5 rfl) (Fk.mono _ _ _ _ x5 hb)
  replace x19 := (old2 19 rfl).trans x19
  have x0 : f10.eval (.tmp 0) = .int .i64 ((i / 2 ^ (k + 1) : Nat) : Int) := new2
  replace bl := (bl.trans (Below.mono hb bl.size))
  replace sz := sz2.trans sz
  replace df := df2.trans df
  clear df2 sz2 old2 new2 hb
  refine wpList_nil ?_
  clear x19
  show Code.wp _ _ _ _ _
  -- R4
  refine wp_region_seq [.eq (.int .i64 ((k : Nat) : Int)), .eq (.int .i64 ((k + 1 : Nat) : Int))] (by kernel_rfl) (by kernel_rfl) (by rw [sz]; kernel_rfl) (by kernel_rfl) ⟨fun hw ac u K => ?_, fun hw ac u K => ?_, trivial⟩ ?_
  · exact st_move (.tmp 6) rfl ((K.old 6 rfl).trans x6)
  · exact st_add (.tmp 10) (.const (.int .i64 1)) rfl (k) (1) (k + 1) (K.dep 0 10 rfl) rfl (by omega) (by omega)
  intro f11 w11 A hb
  replace bl0 := bl
  replace x1 := (A.old 1 rfl).trans x1
  replace x4 := (A.old 4 rfl).trans x4
  replace x6 := (A.old 6 rfl).trans x6
  replace x9 := (A.old 9 rfl).trans x9
  replace x5 := f_at (A.old 5 rfl) (Fk.mono _ _ _ _ x5 hb)
  replace x0 := (A.old 0 rfl).trans x0
  have x11 : f11.eval (.tmp 11) = .int .i64 ((k + 1 : Nat) : Int) := A.has 1 11 rfl
  replace bl := (bl.trans (Below.mono hb bl.size))
  replace sz := A.size.trans sz
  replace df := A.defs.trans df
  clear A hb
  refine wl_one (.eq (.int .i64 ((k + 1 : Nat) : Int))) rfl 6 rfl (by rw [sz]; decide) (st_assign (.tmp 11) rfl x11) ?_
  intro f12 w12 df2 sz2 old2 new2 hb
  replace bl0 := bl
  replace x1 := (old2 1 rfl).trans x1
  replace x4 := (old2 4 rfl).trans x4
  clear x6
  replace x9 := (old2 9 rfl).trans x9
  replace x5 := f_at (old2 5 rfl) (Fk.mono _ _ _ _ x5 hb)
  replace x0 := (old2 0 rfl).trans x0
  replace x11 := (old2 11 rfl).trans x11
  have x6 : f12.eval (.tmp 6) = .int .i64 ((k + 1 : Nat) : Int) := new2
  replace bl := (bl.trans (Below.mono hb bl.size))
  replace sz := sz2.trans sz
  replace df := df2.trans df
  clear df2 sz2 old2 new2 hb
  refine wpList_nil ?_
  clear x11
  show (∃ _, _) ∧ _
  replace x5 : Fk.f (.owb w.heap.size (sds i (k + 1))) (f12.eval (.tmp 5)) w12 := (by rw [sds_succ]; exact x5)
  refine ⟨⟨k + 1, by omega, sz, df, x1, x4, x6, x0, x5, bl⟩, ?_⟩
  rw [show f12.eval (.tmp 6) = _ from x6, show _ = _ from hcnt]
  simp [intOf]
  omega
end Go.Proofs.YtnanipeapjpkfaaDoor
