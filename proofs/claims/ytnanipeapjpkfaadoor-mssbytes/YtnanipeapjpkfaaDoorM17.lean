/- The fixed answer of layer 6: awake. Parse as laws meet it; strings held against each other; empty lists. What the reference's Bytes hands back: the kind's byte, and the bytes of the parts, one behind the other. What the reference's Number hands back: a number's last bytes, the highest first; Bytes once more. What the reference's Number, Int, Count hand back. What the reference's Text and Hashes hand back. Rows of arrays, and what law and reference make of hashes. The law's and the reference's bytes of a signature: Join, and slices of arrays of the call's own. -/
import Derived.Test.YtnanipeapjpkfaaDoorM16
import Derived.Test.YtnanipeapjpkfaaDoorM10
import Derived.Test.YtnanipeapjpkfaaDoorM13
import Derived.Test.YtnanipeapjpkfaaDoorM2
import Derived.Test.YtnanipeapjpkfaaDoorM7
import Derived.Laws.IdiomStrings
namespace Go.Proofs.YtnanipeapjpkfaaDoor
set_option maxRecDepth 100000
open Go.RowKit
set_option maxHeartbeats 1000000 in
theorem awake_any (w : World) (hK : Tab w) :
    Calls Tryd.prog 8 #[] w fun e w' => e = .returned (.bool true) ∧ Below w.heap.size w w' := by
  obtain ⟨S, eS⟩ : ∃ S, Box (sgp hz 1 0 (ms [120]) = S) := ⟨_, ⟨rfl⟩⟩
  obtain ⟨P, eP⟩ : ∃ P, Box (firsts (pth (lv hz 1) 0) 0 = P) := ⟨_, ⟨rfl⟩⟩
  have hP0 : P.length = 0 := by rw [← eP.out, firsts_len]
  have hSl : S.length = npt 1 := by rw [← eS.out]; exact sgp_len (by omega) (by omega) _ _ _
  obtain ⟨pb, epb⟩ : ∃ pb, Box (rt (lv hz 1) 0 0 = pb) := ⟨_, ⟨rfl⟩⟩
  have hpb : pb.length = 32 := by rw [← epb.out]; exact rt_len _ _ _ _
  have hup1 : up 0 P (lf (rcv 1 (ms [120]) S)) P.length = pb := by
    rw [hP0, ← epb.out, ← eS.out, rcv_sgp (by omega) (by omega)]
    rfl
  have hup2 : up 0 P (lf (rcv 1 (ms [121]) S)) P.length ≠ pb := by
    rw [hP0, ← epb.out, ← eS.out]
    exact awake_ne
  go_enter Tryd.func8, Tryd.ntmps8
  refine code_both (fun f w1 => f.tmps.size = 59 ∧ f.defers = [] ∧ Below w.heap.size w (w1)) ⟨rfl, rfl, Below.refl _ _⟩ ?_
  rintro f0 w0 ⟨sz, df, bl⟩
  have bl0 := bl
  refine wp_seq ?_
  -- R0
  refine wp_all_seq [.eq (.bool false)] (by kernel_rfl) (by kernel_rfl) (by rw [sz]; kernel_rfl) (by kernel_rfl) ⟨fun hw ac u K => ?_, trivial⟩ ?_
  · exact st_assign (.const (.bool false)) rfl rfl
  intro f1 w1 A hb
  replace bl0 := bl
  have x0 : f1.eval (.tmp 0) = .bool false := A.has 0 0 rfl
  replace bl := (bl.trans (Below.mono hb bl.size))
  replace sz := A.size.trans sz
  replace df := A.defs.trans df
  clear A hb
  show Code.wp _ _ _ _ _
  refine wp_seq ?_
  -- R1
  refine wp_all_seq [.eq (.agg ((hz).map V).toArray), .t2 (.nw w1.heap.size 69 ((hz).map V ++ ([.int .i64 ((1 : Nat) : Int), .int .i64 ((0 : Nat) : Int), .int .i64 ((0 : Nat) : Int)] : List Value))) (.int .i64 0), .t2 (.nw w1.heap.size 69 ((hz).map V ++ ([.int .i64 ((1 : Nat) : Int), .int .i64 ((0 : Nat) : Int), .int .i64 ((0 : Nat) : Int)] : List Value))) (.int .i64 0), .nw w1.heap.size 69 ((hz).map V ++ ([.int .i64 ((1 : Nat) : Int), .int .i64 ((0 : Nat) : Int), .int .i64 ((0 : Nat) : Int)] : List Value)), .eq (.int .i64 0), .nw w1.heap.size 69 ((hz).map V ++ ([.int .i64 ((1 : Nat) : Int), .int .i64 ((0 : Nat) : Int), .int .i64 ((0 : Nat) : Int)] : List Value)), .eq (.int .i64 0)] (by kernel_rfl) (by kernel_rfl) (by rw [sz]; kernel_rfl) (by kernel_rfl) ⟨fun hw ac u K => ?_, fun hw ac u K => ?_, fun hw ac u K => ?_, fun hw ac u K => ?_, fun hw ac u K => ?_, fun hw ac u K => ?_, fun hw ac u K => ?_, trivial⟩ ?_
  · exact st_zero23 rfl
  · exact st_call 33 (.func 33) _ _ #[.agg ((hz).map V).toArray, .int .i64 1, .int .i64 0] rfl rfl (arg3 (K.dep 0 8 rfl) rfl rfl) Tryd.enter33 (fk_nw K.grow.size (by exact new_ok hz 1 0 hz_len (by omega) (by omega) (by omega) _))
  · exact st_move (.tmp 9) rfl (K.dep 1 9 rfl)
  · exact st_t2a (.tmp 7) rfl (K.dep 2 7 rfl)
  · exact st_t2b (.tmp 7) rfl (K.dep 2 7 rfl)
  · exact st_assign (.tmp 10) rfl (K.dep 3 10 rfl)
  · exact st_assign (.tmp 11) rfl (K.dep 4 11 rfl)
  intro f2 w2 A hb
  replace bl0 := bl
  replace x0 := (A.old 0 rfl).trans x0
  have x1 : Fk.f (.nw w1.heap.size 69 ((hz).map V ++ ([.int .i64 ((1 : Nat) : Int), .int .i64 ((0 : Nat) : Int), .int .i64 ((0 : Nat) : Int)] : List Value))) (f2.eval (.tmp 1)) w2 := A.has 5 1 rfl
  have x2 : f2.eval (.tmp 2) = .int .i64 0 := A.has 6 2 rfl
  replace bl := (bl.trans (Below.mono hb bl.size))
  replace sz := A.size.trans sz
  replace df := A.defs.trans df
  clear A hb
  obtain ⟨g1, hg1, e1, m1⟩ := x1
  have x1 := e1
  clear e1
  have hw1 : w.heap.size ≤ g1 := Nat.le_trans bl0.size hg1
  show Code.wp _ _ _ _ _
  refine wp_seq ?_
  refine wp_seq ?_
  -- R2
  refine wp_all_seq [.eq (.int .i64 0), .eq (.bool false), .eq (.bool false), .eq (.pointer (some ⟨g1, 0, none⟩)), .eq (.bool false), .eq (.bool false), .eq (.bool false), .eq (.pointer (some ⟨g1, 0, none⟩)), .eq (.int .i64 ((2 ^ 0 - 0 : Nat) : Int)), .eq (.bool false), .eq (.bool false)] (by kernel_rfl) (by kernel_rfl) (by rw [sz]; kernel_rfl) (by kernel_rfl) ⟨fun hw ac u K => ?_, fun hw ac u K => ?_, fun hw ac u K => ?_, fun hw ac u K => ?_, fun hw ac u K => ?_, fun hw ac u K => ?_, fun hw ac u K => ?_, fun hw ac u K => ?_, fun hw ac u K => ?_, fun hw ac u K => ?_, fun hw ac u K => ?_, trivial⟩ ?_
  · exact st_move (.tmp 2) rfl ((K.old 2 rfl).trans x2)
  · exact st_neqi 29 (.tmp 12) (.const (.int .i64 0)) rfl .i64 (0) (0) (K.dep 0 12 rfl) rfl _ (by rfl)
  · exact st_move (.tmp 13) rfl (K.dep 1 13 rfl)
  · exact st_move (.tmp 1) rfl ((K.old 1 rfl).trans x1)
  · exact st_bin .eql 28 28 (.tmp 15) _ rfl (K.dep 3 15 rfl) rfl (by kernel_rfl)
  · exact st_pick_f' (.tmp 14) (.const (.bool true)) (.tmp 16) rfl (K.dep 2 14 rfl) (K.dep 4 16 rfl)
  · exact st_move (.tmp 17) rfl (K.dep 5 17 rfl)
  · exact st_move (.tmp 1) rfl ((K.old 1 rfl).trans x1)
  · exact st_call 14 (.func 14) _ _ #[.pointer (some ⟨g1, 0, none⟩)] rfl rfl (one_arg (K.dep 7 19 rfl)) Tryd.enter14 (fk_of (left_any hz_len _ (by omega) (by simp) (Ob.below m1 K.grow)))
  · exact st_neqi 3 (.tmp 20) (.const (.int .i64 1)) rfl .i64 (((2 ^ 0 - 0 : Nat) : Int)) (1) (K.dep 8 20 rfl) rfl _ (by simp)
  · exact st_pick_f' (.tmp 18) (.const (.bool true)) (.tmp 21) rfl (K.dep 6 18 rfl) (K.dep 9 21 rfl)
  intro f3 w3 A hb
  replace bl0 := bl
  replace x0 := (A.old 0 rfl).trans x0
  replace x1 := (A.old 1 rfl).trans x1
  replace x2 := (A.old 2 rfl).trans x2
  have x22 : f3.eval (.tmp 22) = .bool false := A.has 10 22 rfl
  have lt_m1 := Ob.lt m1
  replace m1 := Ob.below m1 hb
  replace bl := (bl.trans (Below.mono hb bl.size))
  replace sz := A.size.trans sz
  replace df := A.defs.trans df
  clear A hb
  clear x2
  show Code.wp _ _ _ _ _
  refine wp_cond_false x22 ?_
  refine wp_skip ?_
  show Code.wp _ _ _ _ _
  refine wp_seq ?_
  have h0k : 0 < g1 := Nat.lt_of_lt_of_le hK.pos hw1
  have hlt1 := Ob.lt m1
  -- R4
  have hgS := bl.size
  refine wp_region_seq [.eq (.pointer (some ⟨g1, 0, none⟩)), .by1 w3.heap.size 120] (by kernel_rfl) (by kernel_rfl) (by rw [sz]; kernel_rfl) (by kernel_rfl) ⟨fun hw ac u K => ?_, fun hw ac u K => ?_, trivial⟩ ?_
  · exact st_move (.tmp 1) rfl ((K.old 1 rfl).trans x1)
  · exact st_bytes1 120 120 rfl (by rfl) _ K.grow.size
  intro f4 w4 A hb
  replace bl0 := bl
  replace x0 := (A.old 0 rfl).trans x0
  replace x1 := (A.old 1 rfl).trans x1
  replace x22 := (A.old 22 rfl).trans x22
  have x24 : f4.eval (.tmp 24) = .pointer (some ⟨g1, 0, none⟩) := A.has 0 24 rfl
  have x25 : Fk.f (.by1 w3.heap.size 120) (f4.eval (.tmp 25)) w4 := A.has 1 25 rfl
  have lt_m1 := Ob.lt m1
  replace m1 := Ob.below m1 hb
  replace bl := (bl.trans (Below.mono hb bl.size))
  replace sz := A.size.trans sz
  replace df := A.defs.trans df
  clear A hb
  refine wl_mark (.tmp 25) rfl 26 rfl (by rw [sz]; decide) rfl x25 ?_
  intro f5 w5 df2 sz2 old2 new2 hm
  clear x25
  replace x0 := (old2 0 rfl).trans x0
  replace x1 := (old2 1 rfl).trans x1
  replace x22 := (old2 22 rfl).trans x22
  replace x24 := (old2 24 rfl).trans x24
  have x26 : Fk.f (.by1 w3.heap.size 120) (f5.eval (.tmp 26)) w5 := new2
  replace m1 := Ob.marked m1 hm (by decide)
  replace bl := hm.grow hgS bl
  replace sz := sz2.trans sz
  replace df := df2.trans df
  clear df2 sz2 old2 new2 hm
  obtain ⟨bm, e26, hgm, hsm⟩ := by1_sl x26
  have nbm : bm ≠ g1 := Nat.ne_of_gt (Nat.lt_of_lt_of_le hlt1 hgm)
  refine wl_call 13 (.func 13) _ _ #[.pointer (some ⟨g1, 0, none⟩), .slice (some ⟨bm, 0, none⟩) 1 1] rfl 27 rfl (by rw [sz]; decide) rfl rfl (arg2 x24 e26) Tryd.enter13 (SigR g1 hz 1 0 0 S P w5) (sign_call hz_len (by omega) (by omega) (by omega) (by simp) _ m1 (hK.below bl) h0k (by simp) hsm (fun _ => nbm) eS eP) ?_
  clear x26
  intro f6 w6 df2 sz2 old2 hR
  obtain ⟨sA27, sC27, sb27, so27, pA27, pC27, pb27, po27, e27, hsb27, q27a, hpb27, q27b, mK, O⟩ := hR
  replace x0 := (old2 0 rfl).trans x0
  replace x1 := (old2 1 rfl).trans x1
  replace x22 := (old2 22 rfl).trans x22
  replace x24 := (old2 24 rfl).trans x24
  replace m1 := mK
  clear mK
  replace bl := bl.trans (Only.below O _ hw1 bl.size)
  replace sz := sz2.trans sz
  replace df := df2.trans df
  have x27 := e27
  have v27a : Fk.f (.hs (S)) (.slice sA27 (S).length sC27) w6 := hl_hs q27a
  have v27b : Fk.f (.hs (P)) (.slice pA27 (P).length pC27) w6 := hl_hs q27b
  clear df2 sz2 old2 O e27
  have S_v27a := v27a
  have S_v27b := v27b
  have hbS := Below.refl w6.heap.size w6
  have hbS0 := hbS
  clear x24
  refine wl_one (.eq (.tuple #[.agg ([.int .i64 ((1 : Nat) : Int), .int .i64 ((0 : Nat) : Int), .slice sA27 (S).length sC27, .slice pA27 (P).length pC27] : List Value).toArray, .int .i64 0])) rfl 23 rfl (by rw [sz]; decide) (st_move (.tmp 27) rfl x27) ?_
  intro f7 w7 df2 sz2 old2 new2 hb
  replace hbS0 := hbS
  replace hbS := hbS.trans (Below.mono hb hbS.size)
  replace bl0 := bl
  replace x0 := (old2 0 rfl).trans x0
  replace x1 := (old2 1 rfl).trans x1
  replace x22 := (old2 22 rfl).trans x22
  replace x27 := (old2 27 rfl).trans x27
  have x23 : f7.eval (.tmp 23) = .tuple #[.agg ([.int .i64 ((1 : Nat) : Int), .int .i64 ((0 : Nat) : Int), .slice sA27 (S).length sC27, .slice pA27 (P).length pC27] : List Value).toArray, .int .i64 0] := new2
  have lt_m1 := Ob.lt m1
  replace m1 := Ob.below m1 hb
  replace v27a := Fk.mono _ _ _ _ v27a hb
  replace v27b := Fk.mono _ _ _ _ v27b hb
  replace bl := (bl.trans (Below.mono hb bl.size))
  replace sz := sz2.trans sz
  replace df := df2.trans df
  clear df2 sz2 old2 new2 hb
  clear x27
  refine wl_one (.eq (.agg ([.int .i64 ((1 : Nat) : Int), .int .i64 ((0 : Nat) : Int), .slice sA27 (S).length sC27, .slice pA27 (P).length pC27] : List Value).toArray)) rfl 28 rfl (by rw [sz]; decide) (st_ext0 (.tmp 23) rfl x23 rfl) ?_
  intro f8 w8 df2 sz2 old2 new2 hb
  replace hbS0 := hbS
  replace hbS := hbS.trans (Below.mono hb hbS.size)
  replace bl0 := bl
  replace x0 := (old2 0 rfl).trans x0
  replace x1 := (old2 1 rfl).trans x1
  replace x22 := (old2 22 rfl).trans x22
  replace x23 := (old2 23 rfl).trans x23
  have x28 : f8.eval (.tmp 28) = .agg ([.int .i64 ((1 : Nat) : Int), .int .i64 ((0 : Nat) : Int), .slice sA27 (S).length sC27, .slice pA27 (P).length pC27] : List Value).toArray := new2
  have lt_m1 := Ob.lt m1
  replace m1 := Ob.below m1 hb
  replace v27a := Fk.mono _ _ _ _ v27a hb
  replace v27b := Fk.mono _ _ _ _ v27b hb
  replace bl := (bl.trans (Below.mono hb bl.size))
  replace sz := sz2.trans sz
  replace df := df2.trans df
  clear df2 sz2 old2 new2 hb
  refine wl_one (.eq (.int .i64 0)) rfl 29 rfl (by rw [sz]; decide) (st_ext1 (.tmp 23) rfl x23 rfl) ?_
  intro f9 w9 df2 sz2 old2 new2 hb
  replace hbS0 := hbS
  replace hbS := hbS.trans (Below.mono hb hbS.size)
  replace bl0 := bl
  replace x0 := (old2 0 rfl).trans x0
  replace x1 := (old2 1 rfl).trans x1
  replace x22 := (old2 22 rfl).trans x22
  replace x23 := (old2 23 rfl).trans x23
  replace x28 := (old2 28 rfl).trans x28
  have x29 : f9.eval (.tmp 29) = .int .i64 0 := new2
  have lt_m1 := Ob.lt m1
  replace m1 := Ob.below m1 hb
  replace v27a := Fk.mono _ _ _ _ v27a hb
  replace v27b := Fk.mono _ _ _ _ v27b hb
  replace bl := (bl.trans (Below.mono hb bl.size))
  replace sz := sz2.trans sz
  replace df := df2.trans df
  clear df2 sz2 old2 new2 hb
  clear x23
  refine wl_one (.nw w9.heap.size 38 [.int .i64 0, .int .i64 0, .slice none 0 0, .slice none 0 0]) rfl 3 rfl (by rw [sz]; decide) (st_alloc 38 rfl _ _ (by kernel_rfl) (Nat.le_refl _)) ?_
  intro f10 w10 df2 sz2 old2 new2 hb
  replace hbS0 := hbS
  replace hbS := hbS.trans (Below.mono hb hbS.size)
  replace bl0 := bl
  replace x0 := (old2 0 rfl).trans x0
  replace x1 := (old2 1 rfl).trans x1
  replace x22 := (old2 22 rfl).trans x22
  replace x28 := (old2 28 rfl).trans x28
  replace x29 := (old2 29 rfl).trans x29
  have x3 : Fk.f (.nw w9.heap.size 38 [.int .i64 0, .int .i64 0, .slice none 0 0, .slice none 0 0]) (f10.eval (.tmp 3)) w10 := new2
  have lt_m1 := Ob.lt m1
  replace m1 := Ob.below m1 hb
  replace v27a := Fk.mono _ _ _ _ v27a hb
  replace v27b := Fk.mono _ _ _ _ v27b hb
  replace bl := (bl.trans (Below.mono hb bl.size))
  replace sz := sz2.trans sz
  replace df := df2.trans df
  clear df2 sz2 old2 new2 hb
  obtain ⟨g3, hg3, e3, m3⟩ := x3
  have x3 := e3
  clear e3
  have nm1_3 : g1 ≠ g3 := Nat.ne_of_lt (Nat.lt_of_lt_of_le lt_m1 hg3)
  have hw3 : w.heap.size ≤ g3 := Nat.le_trans bl0.size hg3
  have hs3 := Nat.le_trans hbS0.size hg3
  refine wl_str rfl 38 (.tmp 3) (.tmp 28) rfl rfl (g3) ([.int .i64 ((1 : Nat) : Int), .int .i64 ((0 : Nat) : Int), .slice sA27 (S).length sC27, .slice pA27 (P).length pC27] : List Value).toArray x3 x28 38 _ m3 (by kernel_rfl) (by kernel_rfl) (by kernel_rfl) ?_
  replace m1 : Ob (w10.setRow g3 ([.int .i64 ((1 : Nat) : Int), .int .i64 ((0 : Nat) : Int), .slice sA27 (S).length sC27, .slice pA27 (P).length pC27] : List Value).toArray) (g1) 69 ((hz).map V ++ ([.int .i64 ((1 : Nat) : Int), .int .i64 ((0 : Nat) : Int), .int .i64 ((0 + 1 : Nat) : Int)] : List Value)) := Ob.setRow_other m1 _ nm1_3
  replace m3 : Ob (w10.setRow g3 ([.int .i64 ((1 : Nat) : Int), .int .i64 ((0 : Nat) : Int), .slice sA27 (S).length sC27, .slice pA27 (P).length pC27] : List Value).toArray) (g3) 38 ([.int .i64 ((1 : Nat) : Int), .int .i64 ((0 : Nat) : Int), .slice sA27 (S).length sC27, .slice pA27 (P).length pC27]) := Ob.setRow m3 ([.int .i64 ((1 : Nat) : Int), .int .i64 ((0 : Nat) : Int), .slice sA27 (S).length sC27, .slice pA27 (P).length pC27])
  replace hbS : Below _ _ (w10.setRow g3 ([.int .i64 ((1 : Nat) : Int), .int .i64 ((0 : Nat) : Int), .slice sA27 (S).length sC27, .slice pA27 (P).length pC27] : List Value).toArray) := hbS.trans (below_setRow _ _ _ _ hs3)
  replace v27a := Fk.mono _ _ _ _ S_v27a hbS
  replace v27b := Fk.mono _ _ _ _ S_v27b hbS
  replace bl : Below w.heap.size w (w10.setRow g3 ([.int .i64 ((1 : Nat) : Int), .int .i64 ((0 : Nat) : Int), .slice sA27 (S).length sC27, .slice pA27 (P).length pC27] : List Value).toArray) := bl.trans (below_setRow _ _ _ _ hw3)
  generalize w10.setRow g3 ([.int .i64 ((1 : Nat) : Int), .int .i64 ((0 : Nat) : Int), .slice sA27 (S).length sC27, .slice pA27 (P).length pC27] : List Value).toArray = w11b at bl m1 m3 v27a v27b hbS ⊢
  clear x28
  refine wl_one (.eq (.int .i64 0)) rfl 4 rfl (by rw [sz]; decide) (st_assign (.tmp 29) rfl x29) ?_
  intro f12 w12 df2 sz2 old2 new2 hb
  replace hbS0 := hbS
  replace hbS := hbS.trans (Below.mono hb hbS.size)
  replace bl0 := bl
  replace x0 := (old2 0 rfl).trans x0
  replace x1 := (old2 1 rfl).trans x1
  replace x22 := (old2 22 rfl).trans x22
  replace x29 := (old2 29 rfl).trans x29
  replace x3 := (old2 3 rfl).trans x3
  have x4 : f12.eval (.tmp 4) = .int .i64 0 := new2
  have lt_m1 := Ob.lt m1
  replace m1 := Ob.below m1 hb
  have lt_m3 := Ob.lt m3
  replace m3 := Ob.below m3 hb
  replace v27a := Fk.mono _ _ _ _ v27a hb
  replace v27b := Fk.mono _ _ _ _ v27b hb
  replace bl := (bl.trans (Below.mono hb bl.size))
  replace sz := sz2.trans sz
  replace df := df2.trans df
  clear df2 sz2 old2 new2 hb
  refine wpList_nil ?_
  clear hbS hbS0 S_v27a S_v27b
  clear x29
  show Code.wp _ _ _ _ _
  refine wp_seq ?_
  -- R5
  refine wp_region_seq [.eq (.pointer (some ⟨g1, 0, none⟩)), .eq (.tuple #[.agg ([.int .i64 0, .int .i64 0, .slice none 0 0, .slice none 0 0] : List Value).toArray, .int .i64 20]), .eq (.tuple #[.agg ([.int .i64 0, .int .i64 0, .slice none 0 0, .slice none 0 0] : List Value).toArray, .int .i64 20]), .eq (.agg ([.int .i64 0, .int .i64 0, .slice none 0 0, .slice none 0 0] : List Value).toArray), .eq (.int .i64 20), .nw w12.heap.size 38 [.int .i64 0, .int .i64 0, .slice none 0 0, .slice none 0 0]] (by kernel_rfl) (by kernel_rfl) (by rw [sz]; kernel_rfl) (by kernel_rfl) ⟨fun hw ac u K => ?_, fun hw ac u K => ?_, fun hw ac u K => ?_, fun hw ac u K => ?_, fun hw ac u K => ?_, fun hw ac u K => ?_, trivial⟩ ?_
  · exact st_move (.tmp 1) rfl ((K.old 1 rfl).trans x1)
  · exact st_call 13 (.func 13) _ _ #[.pointer (some ⟨g1, 0, none⟩), .slice none 0 0] rfl rfl (arg2 (K.dep 0 31 rfl) rfl) Tryd.enter13 (fk_of (sign_out hz_len (by omega) (by rfl) _ (Ob.below m1 K.grow) _))
  · exact st_move (.tmp 32) rfl (K.dep 1 32 rfl)
  · exact st_ext0 (.tmp 30) rfl (K.dep 2 30 rfl) rfl
  · exact st_ext1 (.tmp 30) rfl (K.dep 2 30 rfl) rfl
  · exact st_alloc 38 rfl _ _ (by kernel_rfl) K.grow.size
  intro f13 w13 A hb
  have S_v27a := v27a
  have S_v27b := v27b
  have hbS0 := Below.refl w12.heap.size w12
  have hbS := hb
  replace bl0 := bl
  replace x0 := (A.old 0 rfl).trans x0
  replace x1 := (A.old 1 rfl).trans x1
  replace x22 := (A.old 22 rfl).trans x22
  replace x3 := (A.old 3 rfl).trans x3
  replace x4 := (A.old 4 rfl).trans x4
  have x5 : Fk.f (.nw w12.heap.size 38 [.int .i64 0, .int .i64 0, .slice none 0 0, .slice none 0 0]) (f13.eval (.tmp 5)) w13 := A.has 5 5 rfl
  have x33 : f13.eval (.tmp 33) = .agg ([.int .i64 0, .int .i64 0, .slice none 0 0, .slice none 0 0] : List Value).toArray := A.has 3 33 rfl
  have x34 : f13.eval (.tmp 34) = .int .i64 20 := A.has 4 34 rfl
  have lt_m1 := Ob.lt m1
  replace m1 := Ob.below m1 hb
  have lt_m3 := Ob.lt m3
  replace m3 := Ob.below m3 hb
  replace v27a := Fk.mono _ _ _ _ v27a hb
  replace v27b := Fk.mono _ _ _ _ v27b hb
  replace bl := (bl.trans (Below.mono hb bl.size))
  replace sz := A.size.trans sz
  replace df := A.defs.trans df
  clear A hb
  obtain ⟨g5, hg5, e5, m5⟩ := x5
  have x5 := e5
  clear e5
  have nm1_5 : g1 ≠ g5 := Nat.ne_of_lt (Nat.lt_of_lt_of_le lt_m1 hg5)
  have nm3_5 : g3 ≠ g5 := Nat.ne_of_lt (Nat.lt_of_lt_of_le lt_m3 hg5)
  have hw5 : w.heap.size ≤ g5 := Nat.le_trans bl0.size hg5
  have hs5 := Nat.le_trans hbS0.size hg5
  refine wl_str rfl 38 (.tmp 5) (.tmp 33) rfl rfl (g5) ([.int .i64 0, .int .i64 0, .slice none 0 0, .slice none 0 0] : List Value).toArray x5 x33 38 _ m5 (by kernel_rfl) (by kernel_rfl) (by kernel_rfl) ?_
  replace m1 : Ob (w13.setRow g5 ([.int .i64 0, .int .i64 0, .slice none 0 0, .slice none 0 0] : List Value).toArray) (g1) 69 ((hz).map V ++ ([.int .i64 ((1 : Nat) : Int), .int .i64 ((0 : Nat) : Int), .int .i64 ((0 + 1 : Nat) : Int)] : List Value)) := Ob.setRow_other m1 _ nm1_5
  replace m3 : Ob (w13.setRow g5 ([.int .i64 0, .int .i64 0, .slice none 0 0, .slice none 0 0] : List Value).toArray) (g3) 38 ([.int .i64 ((1 : Nat) : Int), .int .i64 ((0 : Nat) : Int), .slice sA27 (S).length sC27, .slice pA27 (P).length pC27]) := Ob.setRow_other m3 _ nm3_5
  replace m5 : Ob (w13.setRow g5 ([.int .i64 0, .int .i64 0, .slice none 0 0, .slice none 0 0] : List Value).toArray) (g5) 38 ([.int .i64 0, .int .i64 0, .slice none 0 0, .slice none 0 0]) := Ob.setRow m5 ([.int .i64 0, .int .i64 0, .slice none 0 0, .slice none 0 0])
  replace hbS : Below _ _ (w13.setRow g5 ([.int .i64 0, .int .i64 0, .slice none 0 0, .slice none 0 0] : List Value).toArray) := hbS.trans (below_setRow _ _ _ _ hs5)
  replace v27a := Fk.mono _ _ _ _ S_v27a hbS
  replace v27b := Fk.mono _ _ _ _ S_v27b hbS
  replace bl : Below w.heap.size w (w13.setRow g5 ([.int .i64 0, .int .i64 0, .slice none 0 0, .slice none 0 0] : List Value).toArray) := bl.trans (below_setRow _ _ _ _ hw5)
  generalize w13.setRow g5 ([.int .i64 0, .int .i64 0, .slice none 0 0, .slice none 0 0] : List Value).toArray = w14b at bl m1 m3 m5 v27a v27b hbS ⊢
  clear x5
  clear x33
  refine wl_one (.eq (.int .i64 20)) rfl 6 rfl (by rw [sz]; decide) (st_assign (.tmp 34) rfl x34) ?_
  intro f15 w15 df2 sz2 old2 new2 hb
  replace hbS0 := hbS
  replace hbS := hbS.trans (Below.mono hb hbS.size)
  replace bl0 := bl
  replace x0 := (old2 0 rfl).trans x0
  replace x1 := (old2 1 rfl).trans x1
  replace x22 := (old2 22 rfl).trans x22
  replace x3 := (old2 3 rfl).trans x3
  replace x4 := (old2 4 rfl).trans x4
  replace x34 := (old2 34 rfl).trans x34
  have x6 : f15.eval (.tmp 6) = .int .i64 20 := new2
  have lt_m1 := Ob.lt m1
  replace m1 := Ob.below m1 hb
  have lt_m3 := Ob.lt m3
  replace m3 := Ob.below m3 hb
  have lt_m5 := Ob.lt m5
  replace m5 := Ob.below m5 hb
  replace v27a := Fk.mono _ _ _ _ v27a hb
  replace v27b := Fk.mono _ _ _ _ v27b hb
  replace bl := (bl.trans (Below.mono hb bl.size))
  replace sz := sz2.trans sz
  replace df := df2.trans df
  clear df2 sz2 old2 new2 hb
  refine wpList_nil ?_
  clear hbS hbS0 S_v27a S_v27b
  clear x34
  show Code.wp _ _ _ _ _
  refine wp_seq ?_
  -- R6
  refine wp_allR (R := Mk w15.heap.size) [.eq (.int .i64 0), .eq (.bool true), .eq (.bool true), .eq (.int .i64 20), .eq (.bool true), .eq (.bool true), .eq (.bool true), .eq (.pointer (some ⟨g1, 0, none⟩)), .eq (.agg ((pb).map V).toArray), .by1 w15.heap.size 120, .by1 w15.heap.size 120, .eq (.agg ([.int .i64 ((1 : Nat) : Int), .int .i64 ((0 : Nat) : Int), .slice sA27 (S).length sC27, .slice pA27 (P).length pC27] : List Value).toArray), .eq (.int .i64 0), .eq (.bool true), .eq (.bool true), .eq (.bool true), .eq (.pointer (some ⟨g1, 0, none⟩)), .eq (.agg ((pb).map V).toArray), .by1 w15.heap.size 121, .by1 w15.heap.size 121, .eq (.agg ([.int .i64 ((1 : Nat) : Int), .int .i64 ((0 : Nat) : Int), .slice sA27 (S).length sC27, .slice pA27 (P).length pC27] : List Value).toArray), .eq (.int .i64 21), .eq (.bool true), .eq (.bool true), .eq (.bool true)] (Mk.refl _) (fun w1 w' h hb => h.grow (Nat.le_refl _) hb) (Stab.all (g := _) ⟨stab_eq, stab_eq, stab_eq, stab_eq, stab_eq, stab_eq, stab_eq, stab_eq, stab_eq, stab_by1, stab_by1, stab_eq, stab_eq, stab_eq, stab_eq, stab_eq, stab_eq, stab_eq, stab_by1, stab_by1, stab_eq, stab_eq, stab_eq, stab_eq, stab_eq, trivial⟩) Tryd.mixed (by kernel_rfl) (by kernel_rfl) (by rw [sz]; kernel_rfl) (by kernel_rfl) ⟨fun hw ac u K => ?_, fun hw ac u K => ?_, fun hw ac u K => ?_, fun hw ac u K => ?_, fun hw ac u K => ?_, fun hw ac u K => ?_, fun hw ac u K => ?_, fun hw ac u K => ?_, fun hw ac u K => ?_, fun hw ac u K => ?_, fun hw ac u K => ?_, fun hw ac u K => ?_, fun hw ac u K => ?_, fun hw ac u K => ?_, fun hw ac u K => ?_, fun hw ac u K => ?_, fun hw ac u K => ?_, fun hw ac u K => ?_, fun hw ac u K => ?_, fun hw ac u K => ?_, fun hw ac u K => ?_, fun hw ac u K => ?_, fun hw ac u K => ?_, fun hw ac u K => ?_, fun hw ac u K => ?_, trivial⟩ ?_
  · exact ends_mk (st_move (.tmp 4) rfl ((K.old 4 rfl).trans x4))
  · exact ends_mk (st_eqi 29 (.tmp 35) (.const (.int .i64 0)) rfl .i64 (0) (0) (K.dep 0 35 rfl) rfl _ (by rfl))
  · exact ends_mk (st_move (.tmp 36) rfl (K.dep 1 36 rfl))
  · exact ends_mk (st_move (.tmp 6) rfl ((K.old 6 rfl).trans x6))
  · exact ends_mk (st_eqi 29 (.tmp 38) (.const (.int .i64 20)) rfl .i64 (20) (20) (K.dep 3 38 rfl) rfl _ (by rfl))
  · exact ends_mk (st_pick_t (.tmp 37) (.tmp 39) (.const (.bool false)) rfl (K.dep 2 37 rfl) (K.dep 4 39 rfl))
  · exact ends_mk (st_move (.tmp 40) rfl (K.dep 5 40 rfl))
  · exact ends_mk (st_move (.tmp 1) rfl ((K.old 1 rfl).trans x1))
  · exact ends_mk (st_call 11 (.func 11) _ _ #[.pointer (some ⟨g1, 0, none⟩)] rfl rfl (one_arg (K.dep 7 42 rfl)) Tryd.enter11 (fk_of (public_key hz_len (by omega) (by omega) (by omega) _ (Ob.below m1 K.grow) (hK.below (bl.trans (Below.mono K.grow bl.size))) epb)))
  · exact ends_mk (st_bytes1 120 120 rfl (by rfl) _ K.grow.size)
  · exact st_mark (.tmp 44) rfl (K.dep 9 44 rfl)
  · exact ends_mk (st_loadz 38 (.tmp 3) rfl (g3) 0 [.int .i64 ((1 : Nat) : Int), .int .i64 ((0 : Nat) : Int), .slice sA27 (S).length sC27, .slice pA27 (P).length pC27] (by kernel_rfl) (by kernel_rfl) ((K.old 3 rfl).trans x3) (Ob.range (Ob.below m3 K.grow) 0 _ (fun j v hj => by simpa using hj)))
  · exact ends_mk (st_call 21 (.func 21) _ _ #[.agg ((pb).map V).toArray, .int .i64 1, .int .i64 0, ac.eval (.tmp 45), .agg ([.int .i64 ((1 : Nat) : Int), .int .i64 ((0 : Nat) : Int), .slice sA27 (S).length sC27, .slice pA27 (P).length pC27] : List Value).toArray] rfl rfl (arg5 (K.dep 8 43 rfl) rfl rfl rfl (K.dep 11 46 rfl)) Tryd.enter21 (fk_of (verify_yes (kind := 1) (height := 0) (by omega) (by omega) (by omega) 0 (by simp) hpb hP0 _ _ (by simp) (by1_sn (K.dep 10 45 rfl)) (hK.below (bl.trans (Below.mono K.grow bl.size))) (Fk.mono _ _ _ _ v27a K.grow) (Fk.mono _ _ _ _ v27b K.grow) ⟨rfl⟩ hSl hup1)))
  · exact ends_mk (st_eqi 29 (.tmp 47) (.const (.int .i64 0)) rfl .i64 (0) (0) (K.dep 12 47 rfl) rfl _ (by rfl))
  · exact ends_mk (st_pick_t (.tmp 41) (.tmp 48) (.const (.bool false)) rfl (K.dep 6 41 rfl) (K.dep 13 48 rfl))
  · exact ends_mk (st_move (.tmp 49) rfl (K.dep 14 49 rfl))
  · exact ends_mk (st_move (.tmp 1) rfl ((K.old 1 rfl).trans x1))
  · exact ends_mk (st_call 11 (.func 11) _ _ #[.pointer (some ⟨g1, 0, none⟩)] rfl rfl (one_arg (K.dep 16 51 rfl)) Tryd.enter11 (fk_of (public_key hz_len (by omega) (by omega) (by omega) _ (Ob.below m1 K.grow) (hK.below (bl.trans (Below.mono K.grow bl.size))) epb)))
  · exact ends_mk (st_bytes1 121 121 rfl (by rfl) _ K.grow.size)
  · exact st_mark (.tmp 53) rfl (K.dep 18 53 rfl)
  · exact ends_mk (st_loadz 38 (.tmp 3) rfl (g3) 0 [.int .i64 ((1 : Nat) : Int), .int .i64 ((0 : Nat) : Int), .slice sA27 (S).length sC27, .slice pA27 (P).length pC27] (by kernel_rfl) (by kernel_rfl) ((K.old 3 rfl).trans x3) (Ob.range (Ob.below m3 K.grow) 0 _ (fun j v hj => by simpa using hj)))
  · exact ends_mk (st_call 21 (.func 21) _ _ #[.agg ((pb).map V).toArray, .int .i64 1, .int .i64 0, ac.eval (.tmp 54), .agg ([.int .i64 ((1 : Nat) : Int), .int .i64 ((0 : Nat) : Int), .slice sA27 (S).length sC27, .slice pA27 (P).length pC27] : List Value).toArray] rfl rfl (arg5 (K.dep 17 52 rfl) rfl rfl rfl (K.dep 20 55 rfl)) Tryd.enter21 (fk_of (verify_ne (kind := 1) (height := 0) (by omega) (by omega) (by omega) 0 (by simp) hpb hP0 _ _ (by simp) (by1_sn (K.dep 19 54 rfl)) (hK.below (bl.trans (Below.mono K.grow bl.size))) (Fk.mono _ _ _ _ v27a K.grow) (Fk.mono _ _ _ _ v27b K.grow) ⟨rfl⟩ hSl hup2)))
  · exact ends_mk (st_eqi 29 (.tmp 56) (.const (.int .i64 21)) rfl .i64 (21) (21) (K.dep 21 56 rfl) rfl _ (by rfl))
  · exact ends_mk (st_pick_t (.tmp 50) (.tmp 57) (.const (.bool false)) rfl (K.dep 15 50 rfl) (K.dep 22 57 rfl))
  · exact ends_mk (st_assign (.tmp 58) rfl (K.dep 23 58 rfl))
  intro f16 w16 A hb
  replace bl0 := bl
  clear x0
  replace x1 := (A.old 1 rfl).trans x1
  replace x22 := (A.old 22 rfl).trans x22
  replace x3 := (A.old 3 rfl).trans x3
  replace x4 := (A.old 4 rfl).trans x4
  replace x6 := (A.old 6 rfl).trans x6
  have x0 : f16.eval (.tmp 0) = .bool true := A.has 24 0 rfl
  have lt_m1 := Ob.lt m1
  replace m1 := Ob.below m1 hb
  have lt_m3 := Ob.lt m3
  replace m3 := Ob.below m3 hb
  have lt_m5 := Ob.lt m5
  replace m5 := Ob.below m5 hb
  replace v27a := Fk.mono _ _ _ _ v27a hb
  replace v27b := Fk.mono _ _ _ _ v27b hb
  replace bl := (bl.trans (Below.mono hb bl.size))
  replace sz := A.size.trans sz
  replace df := A.defs.trans df
  clear A hb
  clear x4
  clear x6
  show Code.wp _ _ _ _ _
  refine wp_ret ?_
  repeat (first | with_reducible refine then_ret ?_ | with_reducible refine block_ret ?_)
  exact bodyPost_ret (v := .bool true) (ret_slot rfl f16 _ x0 _ _) df ⟨rfl, bl⟩
end Go.Proofs.YtnanipeapjpkfaaDoor
namespace Go.Proofs.YtnanipeapjpkfaaDoor
set_option maxRecDepth 100000
open Go.RowKit
theorem nil_hs {w : World} : (Fk.hs nilH).f (.slice none nilH.length 0) w := ⟨none, 0, 0, 0, rfl, fun h => by simp [nilH] at h, fun h => by simp [nilH] at h, fun i x hi => by simp [nilH] at hi⟩
theorem fk_parse_ok {bs : List (BitVec 8)} {v : Value} {w : World} {g0 : Nat} (hbs : bs.length ≤ 900000) (hv : (Fk.sl bs).f v w) (hg : g0 ≤ w.heap.size) {k i : Int} {S P : List (List (BitVec 8))} (h : Enc bs k i S P) :
    Calls Tryd.prog 32 #[v] w fun e w' => ∃ u, e = .returned u ∧ (Fk.t2 (.sv g0 k i S P) (.int .i64 0)).f u w' ∧ Below w.heap.size w w' := by
  refine (parse_any hbs w hv).mono ?_
  rintro e w' ⟨⟨k', i', S', P', A, C, lb, lo, A2, C2, lb2, lo2, h', rfl, h1, h2, h3, h4⟩ | ⟨hn, _⟩, hb⟩
  · obtain ⟨_, _, e1, e2, e3, e4⟩ := done_enc h
    obtain ⟨_, _, e5, e6, e7, e8⟩ := done_enc h'
    obtain rfl : k' = k := e5.symm.trans e1
    obtain rfl : i' = i := e6.symm.trans e2
    obtain rfl : S' = S := e7.symm.trans e3
    obtain rfl : P' = P := e8.symm.trans e4
    exact ⟨_, rfl, ⟨_, rfl, A, C, lb, lo, A2, C2, lb2, lo2, rfl, Nat.le_trans hg h1, h2, Nat.le_trans hg h3, h4⟩, hb⟩
  · exact absurd h (hn k i S P)
theorem fk_parse_no {bs : List (BitVec 8)} {v : Value} {w : World} (hbs : bs.length ≤ 900000) (hv : (Fk.sl bs).f v w) (h : ∀ k i S P, ¬ Enc bs k i S P) :
    Calls Tryd.prog 32 #[v] w fun e w' => ∃ u, e = .returned u ∧ (Fk.eq (.tuple #[.agg ([.int .i64 0, .int .i64 0, .slice none 0 0, .slice none 0 0] : List Value).toArray, .int .i64 10])).f u w' ∧ Below w.heap.size w w' := by
  refine (parse_any hbs w hv).mono ?_
  rintro e w' ⟨⟨k', i', S', P', A, C, lb, lo, A2, C2, lb2, lo2, h', rfl, _⟩ | ⟨hn, rfl⟩, hb⟩
  · exact absurd h' (h k' i' S' P')
  · exact ⟨_, rfl, rfl, hb⟩
theorem sgb_pos (k i : Int) (S P : List (List (BitVec 8))) : 0 < (sgb k i S P).length := by
  unfold sgb
  simp only [List.length_append, be8_len]
  omega
section
variable {Q : Exit → Act → World → Prop} {o : Oper} {a : Act} {w : World}
theorem st_nes (x y : Operand) (ho : o.op = .binOp .neq 9 x y 9) (s t : ByteArray) (hx : a.eval x = .string s) (hy : a.eval y = .string t) (b : Bool) (hb : b = decide (s ≠ t)) : o.wp Tryd.prog a w (Ends a o.dst w (Fk.eq (.bool b)).f) Q := by
  subst hb
  refine st_bin .neq 9 9 x y ho hx hy ?_
  have := str_beq s t
  simp [eqGuard, binOp, Op.stringOp, this]
end
end Go.Proofs.YtnanipeapjpkfaaDoor
namespace Go.Proofs.YtnanipeapjpkfaaDoor
set_option maxRecDepth 100000
open Go.RowKit
theorem own_new1 (w : World) (base : Nat) (x : BitVec 8) (h : base ≤ w.heap.size) : Own8 (w.alloc (.cells #[.int .u8 (bv x)] 5)) base (.slice (some ⟨w.heap.size, 0, none⟩) 1 1) 1 [x] :=
  own_of_HasV (g := w.heap.size) (n := 1) (xs := [x]) (heap_alloc_new _ _) (Nat.le_refl _) (by show 1 ≤ maxLen; unfold maxLen; omega) h
theorem take_one_more (bs : List (BitVec 8)) (j : Nat) (h : j < bs.length) : bs.take j ++ [bs.getD j 0] = bs.take (j + 1) := by
  rw [List.take_add_one]
  simp [h]
end Go.Proofs.YtnanipeapjpkfaaDoor
namespace Go.Proofs.YtnanipeapjpkfaaDoor
set_option maxRecDepth 100000
open Go.RowKit
/-- The bytes from place r on are set. -/
def nlist (s : Nat) (n : Int) (r : Nat) : List (BitVec 8) := (List.range s).map fun p => if r ≤ p then kb (n / 256 ^ (s - 1 - p)) else 0
theorem nlist_len (s : Nat) (n : Int) (r : Nat) : (nlist s n r).length = s := by simp [nlist]
theorem nlist_start (s : Nat) (n : Int) : nlist s n s = zs s := by
  apply List.ext_getElem
  · simp [nlist, zs]
  · intro i h1 h2
    have : i < s := by simpa [nlist] using h1
    simp [nlist, zs]; omega
theorem nlist_step (s : Nat) (n : Int) (r : Nat) (h : r < s) : (nlist s n (r + 1)).set r (kb (n / 256 ^ (s - (r + 1)))) = nlist s n r := by
  apply List.ext_getElem
  · simp [nlist]
  · intro i h1 h2
    have : i < s := by simpa [nlist] using h2
    rw [List.getElem_set]
    by_cases e : r = i
    · subst e
      simp [nlist, show s - (r + 1) = s - 1 - r by omega]
    · rw [if_neg e]
      simp only [nlist, List.getElem_map, List.getElem_range]
      by_cases h3 : r + 1 ≤ i
      · rw [if_pos h3, if_pos (by omega)]
      · rw [if_neg h3, if_neg (by omega)]
theorem nlist_two (n : Int) : nlist 2 n 0 = two n := by simp [nlist, two, List.range_succ]
theorem nlist_four (n : Int) : nlist 4 n 0 = four n := by simp [nlist, four, List.range_succ]
theorem Tryd.makes (c : Nat) (hc : c ≤ 1000000) (w : World) : (Instr.makeSlice 36 (.int .i64 (c : Int)) (.int .i64 (c : Int))).run Tryd.prog w = .ok (.slice (some ⟨w.heap.size, 0, none⟩) c c) (w.alloc (.cells ((zs c).map V).toArray 5)) := by
  obtain ⟨i0, hi, hz0, hz1, hz2⟩ := info_parts Tryd.info5
  have := run_make (P := Tryd.prog) w 36 5 i0 (.int .u8 0) Tryd.under36 hi hz0 .i64 .i64 (c : Int) (c : Int) (by omega) (by omega) (by rw [hz2]; omega) (by omega)
  rw [hz1, Int.toNat_natCast, Nat.mul_one, made_eq] at this
  exact this
theorem div_step (n : Int) (k : Nat) : n / 256 ^ k / 256 = n / 256 ^ (k + 1) := by
  rw [Int.ediv_ediv_of_nonneg (Int.pow_nonneg (by omega)), Int.pow_succ]
attribute [local go_sem] kb_v
set_option maxHeartbeats 400000 in
theorem number_raw (n : Int) (s : Nat) (hs : s ≤ 100) (w : World) :
    Calls Tryd.prog 56 #[.int .i64 n, .int .i64 (s : Int)] w fun e w' => e = .returned (.slice (some ⟨w.heap.size, 0, none⟩) s s) ∧ HasV w' w.heap.size 5 (nlist s n 0) ∧ Below w.heap.size w w' := by
  have hmk := Tryd.makes s (by omega)
  go_enter Tryd.func56, Tryd.ntmps56
  go_upto_region 2 with fail
  clear hmk
  refine code_any (fun w1 => HasV w1 w.heap.size 5 (nlist s n s) ∧ Below w.heap.size w w1) ?_ ?_
  · exact ⟨by rw [nlist_start]; exact heap_alloc_new _ _, (Below.refl _ _).alloc (Nat.le_refl _) _⟩
  rintro w1 ⟨hv1, hb1⟩
  go_wp2
  go_loopw [0, 6] (fun m i wr => ∃ r : Nat, r ≤ s ∧ i = .int .i64 ((r : Int) - 1) ∧ (∃ z : Int, m = .int .i64 z ∧ Box (z = n / 256 ^ (s - r))) ∧ HasV wr w.heap.size 5 (nlist s n r) ∧ Below w.heap.size w wr) (fun _ i _ => (intOf i + 1).toNat)
  case atStart => exact ⟨s, Nat.le_refl _, by go_num, ⟨n, rfl, ⟨by simp⟩⟩, hv1, hb1⟩
  case round =>
    clear hv1 hb1
    obtain ⟨r, hr, rfl, ⟨z, rfl, hz⟩, hv, hb⟩ := hrel
    cases r with
    | zero =>
      go_wp2
      go_ret
      exact ⟨rfl, hv, hb⟩
    | succ r =>
      have e1 : ((r + 1 : Nat) : Int) - 1 = (r : Int) := by omega
      rw [e1]
      have HR : Box (HasV (wr.setCell ⟨w.heap.size, r, none⟩ (.int .u8 (bv (kb z)))) w.heap.size 5 (nlist s n r)) := ⟨by
        have := hv.set r (kb (n / 256 ^ (s - (r + 1))))
        rw [nlist_step s n r (by omega), ← hz.out] at this
        exact this⟩
      have hz2 : Box (z / 256 = n / 256 ^ (s - r)) := ⟨by rw [hz.out, div_step, show s - (r + 1) + 1 = s - r by omega]⟩
      have c0 := hv.cell r (by rw [nlist_len]; omega)
      have f0 := hv.frozen r
      generalize (nlist s n (r + 1)).getD r 0 = y0 at c0
      clear hv hz
      go_wp2
      go_roundw
      case rel => exact ⟨r, by omega, by go_num, ⟨_, rfl, hz2⟩, HR.out, hb.setCell (by simp) _⟩
      case measure => first | (simp [intOf]; done) | (simp [intOf]; omega)
theorem sl_of_HasV {w : World} {g n : Nat} {xs : List (BitVec 8)} (h : HasV w g 5 xs) (hn : n = xs.length) : Sl w (some ⟨g, 0, none⟩) n n xs g 0 :=
  ⟨hn, Nat.le_refl _, fun h => by (cases h), fun _ => ⟨rfl, h.lt, h.bytes⟩⟩
theorem number2 (n : Int) (w : World) :
    Calls Tryd.prog 56 #[.int .i64 n, .int .i64 2] w fun e w' => e = .returned (.slice (some ⟨w.heap.size, 0, none⟩) 2 2) ∧ Sl w' (some ⟨w.heap.size, 0, none⟩) 2 2 (two n) w.heap.size 0 ∧ Below w.heap.size w w' := by
  refine (number_raw n 2 (by omega) w).mono ?_
  rintro e w' ⟨h1, h2, h3⟩
  exact ⟨h1, sl_of_HasV (by rw [← nlist_two]; exact h2) rfl, h3⟩
theorem number4 (n : Int) (w : World) :
    Calls Tryd.prog 56 #[.int .i64 n, .int .i64 4] w fun e w' => e = .returned (.slice (some ⟨w.heap.size, 0, none⟩) 4 4) ∧ Sl w' (some ⟨w.heap.size, 0, none⟩) 4 4 (four n) w.heap.size 0 ∧ Below w.heap.size w w' := by
  refine (number_raw n 4 (by omega) w).mono ?_
  rintro e w' ⟨h1, h2, h3⟩
  exact ⟨h1, sl_of_HasV (by rw [← nlist_four]; exact h2) rfl, h3⟩
end Go.Proofs.YtnanipeapjpkfaaDoor
namespace Go.Proofs.YtnanipeapjpkfaaDoor
set_option maxRecDepth 100000
open Go.RowKit
theorem kb_natW (n : Int) (j : Nat) (h : j ≤ 7) : kb (n / 256 ^ j) = BitVec.ofNat 8 ((n % 18446744073709551616).toNat / 2 ^ (8 * j)) := by
  apply BitVec.eq_of_toNat_eq
  unfold kb
  rw [BitVec.toNat_ofInt, BitVec.toNat_ofNat]
  have : j = 0 ∨ j = 1 ∨ j = 2 ∨ j = 3 ∨ j = 4 ∨ j = 5 ∨ j = 6 ∨ j = 7 := by omega
  rcases this with rfl | rfl | rfl | rfl | rfl | rfl | rfl | rfl <;> simp <;> omega
theorem nlist_beN (s : Nat) (n : Int) (h : s ≤ 8) : nlist s n 0 = beN (n % 18446744073709551616).toNat s := by
  unfold nlist beN
  apply List.map_congr_left
  intro p hp
  have : p < s := by simpa using hp
  rw [if_pos (Nat.zero_le _), kb_natW _ _ (by omega)]
attribute [local go_sem] kb_v
set_option maxHeartbeats 400000 in
theorem refInt_any (n : Int) (w : World) :
    Calls Tryd.prog 29 #[.int .i64 n] w fun e w' => e = .returned (.slice (some ⟨w.heap.size, 0, none⟩) 8 8) ∧ HasV w' w.heap.size 5 (be8 n) ∧ Below w.heap.size w w' := by
  have hT := Box.mk (number_raw n 8 (by omega) w)
  rw [nlist_beN 8 n (by omega)] at hT
  go_enter Tryd.func29, Tryd.ntmps29
  go_wp2_with (refine hT.out.mono ?_; rintro e w' ⟨rfl, h1, h2⟩; have h1' := Box.mk h1; clear h1)
  go_ret
  exact ⟨rfl, h1'.out, h2⟩
set_option maxHeartbeats 400000 in
theorem refCount_any (n : Nat) (hn : n ≤ 1000000) (w : World) :
    Calls Tryd.prog 71 #[.int .i64 (n : Int)] w fun e w' => e = .returned (.slice (some ⟨w.heap.size, 0, none⟩) 4 4) ∧ HasV w' w.heap.size 5 (beN n 4) ∧ Below w.heap.size w w' := by
  have hT := Box.mk (number_raw n 4 (by omega) w)
  rw [nlist_beN 4 n (by omega), show ((n : Int) % 18446744073709551616).toNat = n by omega] at hT
  go_enter Tryd.func71, Tryd.ntmps71
  go_wp2_with (refine hT.out.mono ?_; rintro e w' ⟨rfl, h1, h2⟩; have h1' := Box.mk h1; clear h1)
  go_ret
  exact ⟨rfl, h1'.out, h2⟩
theorem own_of_HasVW {w : World} {g base : Nat} {xs : List (BitVec 8)} (h : HasV w g 5 xs) (hm : xs.length ≤ maxLen) (hb : base ≤ g) : w.ownsRow base 5 1 (.slice (some ⟨g, 0, none⟩) xs.length xs.length) xs.length (xs.map V) :=
  ⟨by simp, .inr ⟨g, xs.length, (xs.map V).toArray, rfl, hb, h, Nat.le_refl _, hm, by simp, by rw [Nat.mul_one]; exact List.take_of_length_le (by simp)⟩⟩
end Go.Proofs.YtnanipeapjpkfaaDoor
namespace Go.Proofs.YtnanipeapjpkfaaDoor
set_option maxRecDepth 100000
open Go.RowKit
theorem str_bytes (s : ByteArray) (w : World) : ∃ c w', (convert 9 36 (.string s)).run Tryd.prog w = .ok (.slice (some ⟨w.heap.size, 0, none⟩) s.size c) w' ∧ Rv w' (.slice (some ⟨w.heap.size, 0, none⟩) s.size c) (strB s) w.heap.size ∧ Below w.heap.size w w' := by
  refine ⟨_, _, run_bytes_of_string (P := Tryd.prog) w 9 36 5 s Tryd.under9 Tryd.under36 Tryd.under5, ?_, ?_⟩
  · refine .inr ⟨0, _, by rw [strB_len], ?_, by simp, ?_⟩
    · rw [strB_len]; exact grownCap_ge w s.size 0 5
    · intro i hi
      rw [Nat.zero_add]
      have hs : i < s.data.size := by rw [strB_len] at hi; exact hi
      have hb : (bytesRow s (grownCap w s.size 0 5))[i]? = some (V ((strB s).getD i 0)) := by
        have h1 : (bytesRow s (grownCap w s.size 0 5))[i]? = (s.data.map fun b => Value.int .u8 (b.toNat : Int))[i]? := by
          unfold bytesRow
          rw [Array.getElem?_append_left (by simpa using hs)]
        rw [h1]
        have h2 := congrArg (·[i]?) (strB_V s)
        simp only [List.getElem?_map] at h2
        simp only [Array.getElem?_map]
        rw [← Array.getElem?_toList, ← h2]
        simp [hi]
      have hn := heap_alloc_new w.drew (.cells (bytesRow s (grownCap w s.size 0 5)) 5 ((bytesRow s (grownCap w s.size 0 5)).size, (bytesRow s (grownCap w s.size 0 5)).size + 1))
      simp only [World.cell?]
      rw [show w.heap.size = w.drew.heap.size from rfl, hn]
      simpa [V] using hb
  · exact ((Below.refl _ _).drew.alloc (Nat.le_refl _) _)
theorem rv_new1 (w : World) (x : BitVec 8) : Rv (w.alloc (.cells #[.int .u8 (bv x)] 5)) (.slice (some ⟨w.heap.size, 0, none⟩) 1 1) [x] w.heap.size :=
  .inr ⟨0, 1, rfl, Nat.le_refl _, by simp, fun i hi => by
    obtain rfl : i = 0 := by simpa using hi
    exact cell_new1 _ _ _⟩
theorem take_succ_getD (D : List (BitVec 8)) (m : Nat) (h : m < D.length) : D.take (m + 1) = D.take m ++ [D.getD m 0] := by
  rw [List.take_add_one, List.getElem?_eq_getElem h]
  simp [h]
set_option maxHeartbeats 1000000 in
theorem refHashes_any (A : Option Addr) (lb lo n c : Nat) (D : List (BitVec 8)) (w : World) (hf : Fl w A lb lo n D) (hn : n ≤ 1000) :
    Calls Tryd.prog 57 #[.slice A n c] w fun e w' => ∃ v', e = .returned v' ∧ w'.ownsRow w.heap.size 5 1 v' (4 + 32 * n) ((beN n 4 ++ D).map V) ∧ Below w.heap.size w w' := by
  have hT := Box.mk (refCount_any n (by omega) w)
  have hl4 := beN_len n 4
  have hDl := hf.len
  have hf' := Box.mk hf
  generalize beN n 4 = X at hT hl4 ⊢
  clear hf
  go_enter Tryd.func57, Tryd.ntmps57
  go_wp2_with (go_at_call 71; refine hT.out.mono ?_; rintro e w1 ⟨rfl, h1, h2⟩; have h1' : Box (w1.ownsRow w.heap.size 5 1 (.slice (some ⟨w.heap.size, 0, none⟩) 4 4) 4 (X.map V)) := ⟨by (have := own_of_HasVW (base := w.heap.size) h1 (by rw [hl4]; unfold maxLen; omega) (Nat.le_refl _); rw [hl4] at this; exact this)⟩; have h2' := Box.mk h2; clear h1 h2)
  go_loopw [3, 4] (fun v i wr => ∃ k : Nat, k ≤ n ∧ i = .int .i64 k ∧ Box (wr.ownsRow w.heap.size 5 1 v (4 + 32 * k) ((X ++ D.take (32 * k)).map V)) ∧ Box (Below w.heap.size w wr)) (fun _ i _ => n - (intOf i).toNat)
  case atStart => exact ⟨0, by omega, rfl, ⟨by simpa using h1'.out⟩, h2'⟩
  case round =>
    clear h1' h2'
    obtain ⟨k, hk, rfl, ho, hb⟩ := hrel
    by_cases hlt : k < n
    · obtain ⟨rfl, hlw, hB⟩ := hf'.out.src (by omega)
      have hB' := Box.mk hB
      clear hB
      go_wp2
      go_loopw [3, 5] (fun v j wi => ∃ m : Nat, m ≤ 32 ∧ j = .int .i64 m ∧ Box (wi.ownsRow w.heap.size 5 1 v (4 + 32 * k + m) ((X ++ D.take (32 * k + m)).map V)) ∧ Box (Below w.heap.size w wi)) (fun _ j _ => 32 - (intOf j).toNat)
      case atStart => exact ⟨0, by omega, rfl, ho, hb⟩
      case round =>
        clear ho hb
        obtain ⟨m, hm, rfl, ho, hb⟩ := hrel
        by_cases hm2 : m < 32
        · have c0 := hB'.out.below hb.out hlw (32 * k + m) (by omega)
          have hts := take_succ_getD D (32 * k + m) (by omega)
          generalize D.getD (32 * k + m) 0 = x at c0 hts
          have c1 : wr.cell? ⟨lb, lo + k * 32 + m, none⟩ = some (.int .u8 (bv x)) := by rw [← c0, show lo + k * 32 + m = lo + (32 * k + m) by omega]
          have hts' := Box.mk hts
          have hz := hb.out.size
          clear c0 hts
          go_wp2_with (at_builtin; refine append36W rfl _ _ rfl w.heap.size _ (4 + 32 * k + m) (X ++ D.take (32 * k + m)) rfl (ho.out.alloc _) _ [x] wr.heap.size rfl (rv_new1 wr x) (by simp; omega) (by simp; omega) ?_; intro v2 w2 own2 gr2 _; have gr2' := Box.mk gr2; have own2' := Box.mk own2; clear own2 gr2)
          have ho2 : Box (w2.ownsRow w.heap.size 5 1 v2 (4 + 32 * k + (m + 1)) ((X ++ D.take (32 * k + (m + 1))).map V)) := ⟨by
            have := own2'.out
            rw [show 32 * k + (m + 1) = 32 * k + m + 1 by omega, hts'.out, ← List.append_assoc]
            exact this⟩
          have hb2 : Box (Below w.heap.size w w2) := ⟨(hb.out.alloc hz _).grown gr2'.out (by simp; omega) (fun q e => (ho.out.lt q e).1)⟩
          clear own2' gr2' ho hb c1
          go_wp2
          go_roundw
          case rel => first | exact ⟨m + 1, by omega, by go_num, ho2, hb2⟩ | exact ⟨_, _, _, ⟨m + 1, by omega, by go_num, ho2, hb2⟩, rfl, rfl, rfl⟩
          case measure => simp [intOf]; omega
        · have hm3 : m = 32 := by omega
          have ho2 : Box (wr.ownsRow w.heap.size 5 1 u3 (4 + 32 * (k + 1)) ((X ++ D.take (32 * (k + 1))).map V)) := ⟨by
            have := ho.out
            rw [hm3, show 32 * k + 32 = 32 * (k + 1) by omega, show 4 + 32 * k + 32 = 4 + 32 * (k + 1) by omega] at this
            exact this⟩
          clear ho
          go_wp2
          go_roundw
          case rel => first | exact ⟨k + 1, by omega, by go_num, ho2, hb⟩ | exact ⟨_, _, _, ⟨k + 1, by omega, by go_num, ho2, hb⟩, rfl, rfl, rfl⟩
          case measure => simp [intOf]; omega
    · have hkn : k = n := by omega
      go_wp2
      go_ret
      have := ho.out
      rw [hkn, List.take_of_length_le (by omega)] at this
      exact ⟨_, rfl, this, hb.out⟩
end Go.Proofs.YtnanipeapjpkfaaDoor
namespace Go.Proofs.YtnanipeapjpkfaaDoor
set_option maxRecDepth 100000
open Go.RowKit
theorem range_of {w : World} {g o : Nat} {xs : List (BitVec 8)} (h : HasB w g o xs) : w.rangeAt g o (xs.map V) := by
  intro j v hj
  have := h.src xs.length j v
  rw [List.take_of_length_le (Nat.le_refl _)] at this
  have h2 := this hj
  rw [Addr.add_mid] at h2
  exact h2
theorem load_mid (w : World) (g o : Nat) (xs : List (BitVec 8)) (h : HasB w g o xs) (hl : xs.length = 32) : (Instr.loadAt 23 (.pointer (some ⟨g, o, none⟩))).run Tryd.prog w = .ok (.agg (xs.map V).toArray) w :=
  run_loadAt_mid w g o 23 (xs.map V) _ (fun j v hj => by
    have := h.src xs.length j v
    rw [List.take_of_length_le (Nat.le_refl _)] at this
    have h2 := this hj
    rw [Addr.add_mid] at h2
    exact h2) Tryd.under23 rfl (by rw [List.length_map, hl]; exact Tryd.size23)
theorem Tryd.noGuard23e (x y : Operand) (a b : Array Value) (w : World) : (eqGuard .eql 23 x y (.agg a) (.agg b)).run Tryd.prog w = .ok () w := by kernel_rfl
theorem Tryd.build22x (x0 x1 x2 x3 x4 x5 x6 x7 x8 x9 x10 x11 x12 x13 x14 x15 x16 x17 x18 x19 x20 x21 x22 x23 x24 x25 x26 x27 x28 x29 x30 x31 : BitVec 8) (w : World) : (Instr.buildSlice 91 1 #[(0, .agg ([x0, x1, x2, x3, x4, x5, x6, x7, x8, x9, x10, x11, x12, x13, x14, x15, x16, x17, x18, x19, x20, x21, x22, x23, x24, x25, x26, x27, x28, x29, x30, x31].map V).toArray)]).run Tryd.prog w = .ok (.slice (some ⟨w.heap.size, 0, none⟩) 1 1) (w.alloc (.cells ([x0, x1, x2, x3, x4, x5, x6, x7, x8, x9, x10, x11, x12, x13, x14, x15, x16, x17, x18, x19, x20, x21, x22, x23, x24, x25, x26, x27, x28, x29, x30, x31].map V).toArray 22)) := by kernel_rfl
theorem Tryd.build22 (hh : List (BitVec 8)) (h : hh.length = 32) (w : World) : (Instr.buildSlice 91 1 #[(0, .agg (hh.map V).toArray)]).run Tryd.prog w = .ok (.slice (some ⟨w.heap.size, 0, none⟩) 1 1) (w.alloc (.cells (hh.map V).toArray 22)) := by
  match hh, h with
  | [x0, x1, x2, x3, x4, x5, x6, x7, x8, x9, x10, x11, x12, x13, x14, x15, x16, x17, x18, x19, x20, x21, x22, x23, x24, x25, x26, x27, x28, x29, x30, x31], _ => exact Tryd.build22x x0 x1 x2 x3 x4 x5 x6 x7 x8 x9 x10 x11 x12 x13 x14 x15 x16 x17 x18 x19 x20 x21 x22 x23 x24 x25 x26 x27 x28 x29 x30 x31 w
theorem Tryd.under91 : Tryd.prog.underlying 91 = some (.slice 22) := by kernel_rfl
theorem Tryd.info22 : (Tryd.prog.info? 22).map (fun i => (i.zero, i.size, i.bytes)) = some (some (.agg ((z32W.map V).toArray)), 32, 32) := by kernel_rfl
theorem wpList_build {ops : Array Oper} {rest : List Oper} {o : Oper} {a : Act} {w w2 : World} {Q : Exit → Act → World → Prop} (hgd : o.guard = none) (T : TypeId) (x : Operand) (ho : o.op = .buildSlice T 1 #[(0, x)]) (y v2 : Value) (hx : a.eval x = y)
    (hr : (Instr.buildSlice T 1 #[(0, y)]).run Tryd.prog w = .ok v2 w2) (h : wpList Tryd.prog ops Q rest (a.put o.dst v2) w2) : wpList Tryd.prog ops Q (o :: rest) a w := by
  refine wpList_plain hgd fun K hK => ?_
  unfold Oper.wp execOp
  rw [ho]
  simp [hx, hr]
  exact hK _ _ h
theorem HasV.rv {w : World} {g : Nat} {T : TypeId} {xs : List (BitVec 8)} (h : HasV w g T xs) (n : Nat) (hn : xs.length = n) : Rv w (.slice (some ⟨g, 0, none⟩) n n) xs g := .inr ⟨0, n, by rw [hn], by omega, h.lt, h.bytes⟩
theorem own_fl {w : World} {base n : Nat} {v : Value} {D : List (BitVec 8)} (h : w.ownsRow base 22 32 v n (D.map V)) : ∃ A c g, v = .slice A n c ∧ Fl w A g 0 n D := by
  obtain ⟨hl, h⟩ := h
  have hD : D.length = 32 * n := by rw [List.length_map] at hl; omega
  rcases h with ⟨rfl, rfl⟩ | ⟨g, cap, cur, rfl, hbg, hg, hnc, _, hcs, ht⟩
  · exact ⟨none, 0, 0, rfl, hD, fun h => absurd h (by omega)⟩
  · refine ⟨_, cap, g, rfl, hD, fun _ => ⟨rfl, (Array.getElem?_eq_some_iff.1 hg).1, fun i hi => ?_⟩⟩
    rw [Nat.zero_add, cell_of_row _ _ _ _ _ _ hg]
    have e2 := congrArg (·[i]?) ht
    simp [hi, show i < n * 32 by omega] at e2
    simp [e2, hi, V]
end Go.Proofs.YtnanipeapjpkfaaDoor
namespace Go.Proofs.YtnanipeapjpkfaaDoor
set_option maxRecDepth 100000
open Go.RowKit
theorem Tryd.info22z : (Tryd.prog.info? 22).map (fun i => (i.zero, i.size, i.bytes)) = some (some (.agg (hz.map V).toArray), 32, 32) := by kernel_rfl
/-- A slice of the call's own that has the hashes hs; its row lies at base or behind it. -/
def Fk.ow2 (base : Nat) (hs : List (List (BitVec 8))) : Fk := .inr (.inl ⟨fun v w => w.ownsRow base 22 32 v hs.length (hs.flatten.map V) ∧ ∀ (i : Nat) (x : List (BitVec 8)), hs[i]? = some x → x.length = 32, by
  rintro v w w' ⟨⟨h1, h2⟩, h3⟩ hb
  refine ⟨⟨h1, ?_⟩, h3⟩
  rcases h2 with h2 | ⟨g, cap, cur, e, hbg, hg, r⟩
  · exact .inl h2
  · exact .inr ⟨g, cap, cur, e, hbg, by rw [hb.block g (Array.getElem?_eq_some_iff.1 hg).1]; exact hg, r⟩⟩)
theorem ow2_nil (base : Nat) (w : World) : (Fk.ow2 base []).f (.slice none 0 0) w := ⟨World.ownsRow_nil _ _ _ _, fun i x hi => by simp at hi⟩
theorem hl_oneT {w : World} {g : Nat} {T : TypeId} {hh : List (BitVec 8)} (hv : HasV w g T hh) (h : hh.length = 32) : Hl w (some ⟨g, 0, none⟩) g 0 [hh] :=
  ⟨fun _ => rfl, fun _ => hv.lt, fun i x hi => by
    cases i with
    | zero =>
      obtain rfl : hh = x := by simpa using hi
      exact ⟨h, by simpa using hv.bytes⟩
    | succ n => simp at hi⟩
section
variable {Q : Exit → Act → World → Prop} {o : Oper} {a : Act} {w : World} {ops : Array Oper} {rest : List Oper}
theorem st_bh2 (x : Operand) (ho : o.op = .buildSlice 91 1 #[(0, x)]) {hh : List (BitVec 8)} (hl : hh.length = 32) (hx : a.eval x = .agg (hh.map V).toArray) : o.wp Tryd.prog a w (Ends a o.dst w (Fk.hs [hh]).f) Q := by
  refine st_run (v := .slice (some ⟨w.heap.size, 0, none⟩) 1 1) (w' := w.alloc (.cells (hh.map V).toArray 22)) ?_ ((Below.refl _ _).alloc (Nat.le_refl _) _) ⟨_, 1, w.heap.size, 0, rfl, hl_oneT (heap_alloc_new _ _) hl⟩
  have := Tryd.build22 hh hl w
  unfold execOp
  rw [ho]
  simp [hx, this]
theorem wl_append2 (hgd : o.guard = none) (s x : Operand) (ho : o.op = .call { callee := .builtin .append, args := #[s, x], argTypes := #[91, 91] }) (d : Nat) (hd : o.dst = some d) (hsz : d < a.tmps.size)
    {wL : World} {hs : List (List (BitVec 8))} {hh : List (BitVec 8)} (hs1 : (Fk.ow2 wL.heap.size hs).f (a.eval s) w) (hx : (Fk.hs [hh]).f (a.eval x) w) (hL : Below wL.heap.size wL w) (hN : hs.length ≤ 1000)
    (h : ∀ a2 w2, a2.defers = a.defers → a2.tmps.size = a.tmps.size → (∀ t, (t == d) = false → a2.eval (.tmp t) = a.eval (.tmp t)) → (Fk.ow2 wL.heap.size (hs ++ [hh])).f (a2.eval (.tmp d)) w2 → Below wL.heap.size wL w2 → wpList Tryd.prog ops Q rest a2 w2) : wpList Tryd.prog ops Q (o :: rest) a w := by
  obtain ⟨i0, hi, hz0, hz1, hz2⟩ := info_parts Tryd.info22z
  obtain ⟨A, C, lb, lo, e, hl⟩ := hx
  obtain ⟨hown, h32⟩ := hs1
  obtain ⟨hhl, hB⟩ := hl.all 0 hh rfl
  have hp := hl.ptr (by simp)
  subst hp
  refine wpList_append_own w hgd s x 91 ho wL.heap.size 22 i0 _ 32 32 Tryd.under91 hi hz0 hz1 hz2 (by simp [Value.cells, hz_len]) (by decide) _ hs.length _ rfl hown ⟨lb, lo, none⟩ 1 C (hh.map V) (by simpa using e) (by simp [hhl]) ?_ (V_one hh) (by unfold maxLen; omega) (by omega) hL.size ?_
  · intro j u hj
    have := hB.src hh.length j u
    rw [List.take_of_length_le (Nat.le_refl _), Nat.zero_mul, Nat.add_zero] at this
    exact this hj
  · intro v' w' h1 h2 _
    refine h _ _ (put_def _ _ _) (put_size _ _ _) (fun t ht => ?_) ?_ (hL.grown h2 hL.size (fun k e => (World.ownsRow.lt hown k e).1))
    · rw [hd]
      exact put_eval_other _ _ _ _ (fun e => by subst e; simp at ht)
    · rw [hd, put_eval_same _ _ _ hsz]
      refine ⟨?_, fun i y hi => ?_⟩
      · rw [List.length_append, List.flatten_append, List.map_append]
        simpa using h1
      · by_cases hil : i < hs.length
        · exact h32 i y (by rw [List.getElem?_append_left hil] at hi; exact hi)
        · rw [List.getElem?_append_right (by omega)] at hi
          cases hq : i - hs.length with
          | zero =>
            rw [hq] at hi
            obtain rfl : hh = y := by simpa using hi
            exact hhl
          | succ n => rw [hq] at hi; simp at hi
theorem Tryd.build4 (sp sp2 sp3 sp4 : Option Addr) (m c m2 c2 m3 c3 m4 c4 : Nat) (w : World) : (Instr.buildSlice 24 4 #[(0, .slice sp m c), (1, .slice sp2 m2 c2), (2, .slice sp3 m3 c3), (3, .slice sp4 m4 c4)]).run Tryd.prog w = .ok (.slice (some ⟨w.heap.size, 0, none⟩) 4 4) (w.alloc (.cells #[.slice sp m c, .slice sp2 m2 c2, .slice sp3 m3 c3, .slice sp4 m4 c4] 36)) := by kernel_rfl
theorem st_build4 (x y z u : Operand) (ho : o.op = .buildSlice 24 4 #[(0, x), (1, y), (2, z), (3, u)]) {bs bs2 bs3 bs4 : List (BitVec 8)} (h : (Fk.sl bs).f (a.eval x) w) (h2 : (Fk.sl bs2).f (a.eval y) w) (h3 : (Fk.sl bs3).f (a.eval z) w) (h4 : (Fk.sl bs4).f (a.eval u) w) : o.wp Tryd.prog a w (Ends a o.dst w (Fk.ls 4 (bs ++ (bs2 ++ (bs3 ++ bs4)))).f) Q := by
  obtain ⟨sp, m, c, b, so, e, hs⟩ := h
  obtain ⟨sp2, m2, c2, b2, so2, e2, hs2⟩ := h2
  obtain ⟨sp3, m3, c3, b3, so3, e3, hs3⟩ := h3
  obtain ⟨sp4, m4, c4, b4, so4, e4, hs4⟩ := h4
  refine st_run (v := .slice (some ⟨w.heap.size, 0, none⟩) 4 4) (w' := w.alloc (.cells #[.slice sp m c, .slice sp2 m2 c2, .slice sp3 m3 c3, .slice sp4 m4 c4] 36)) ?_ ((Below.refl _ _).alloc (Nat.le_refl _) _) ⟨_, _, w.heap.size, 0, [⟨sp, m, c, bs, b, so⟩, ⟨sp2, m2, c2, bs2, b2, so2⟩, ⟨sp3, m3, c3, bs3, b3, so3⟩, ⟨sp4, m4, c4, bs4, b4, so4⟩], rfl, fun _ => rfl, rfl, ls_new w 36 [⟨sp, m, c, bs, b, so⟩, ⟨sp2, m2, c2, bs2, b2, so2⟩, ⟨sp3, m3, c3, bs3, b3, so3⟩, ⟨sp4, m4, c4, bs4, b4, so4⟩] (.cons hs (.cons hs2 (.cons hs3 (.cons hs4 .nil)))), by simp [cat]⟩
  unfold execOp
  rw [ho]
  simp [e, e2, e3, e4, Tryd.build4]
end
theorem join_own (A : Option Addr) (C lb lo : Nat) (ps : List Pt) (w : World) (hA : 0 < ps.length → A = some ⟨lb, lo, none⟩) (hL : Ls w lb lo ps) (hT : (cat ps).length ≤ 900000) (hN : ps.length ≤ 1000) :
    Calls Tryd.prog 28 #[.slice A ps.length C] w fun e w' => ∃ v, e = .returned v ∧ w'.ownsRow w.heap.size 5 1 v (cat ps).length ((cat ps).map V) ∧ Below w.heap.size w w' := by
  have hL' : Box (Ls w lb lo ps) := ⟨hL⟩
  have hA' : Box (0 < ps.length → A = some ⟨lb, lo, none⟩) := ⟨hA⟩
  obtain ⟨n, hn⟩ : ∃ n, Box (n = ps.length) := ⟨_, ⟨rfl⟩⟩
  have hown0 : Box (Own8 w w.heap.size (.slice none 0 0) (cat (ps.take 0)).length (cat (ps.take 0))) := ⟨World.ownsRow_nil _ _ _ _⟩
  rw [← hn.out] at hN ⊢
  clear hL hA
  go_enter Tryd.func28, Tryd.ntmps28
  go_wp2
  go_loopw [3, 4] (fun v i wr => ∃ k : Nat, k ≤ n ∧ i = .int .i64 k ∧ Box (Own8 wr w.heap.size v (cat (ps.take k)).length (cat (ps.take k))) ∧ Below w.heap.size w wr) (fun _ i _ => n - (intOf i).toNat)
  case atStart => exact ⟨0, by omega, rfl, hown0, Below.refl _ _⟩
  case round =>
    clear hown0
    obtain ⟨k, hk, rfl, hown, hb⟩ := hrel
    by_cases hlt : k < n
    · obtain ⟨p, hp⟩ : ∃ p, ps[k]? = some p := ⟨_, List.getElem?_eq_getElem (by rw [← hn.out]; exact hlt)⟩
      obtain rfl : A = some ⟨lb, lo, none⟩ := hA'.out (by rw [← hn.out]; omega)
      have hc : wr.cell? ⟨lb, lo + k, none⟩ = some (.slice p.sp p.m p.c) := by rw [hb.cell (hL'.out.lt hp)]; exact hL'.out.cell k p hp
      have hok : Box (p.ok wr) := ⟨Pt.ok_below (hL'.out.ok k p hp) hb⟩
      have hl : Box ((cat (ps.take k)).length + p.m = (cat (ps.take (k + 1))).length) := ⟨by rw [cat_take ps k p hp, List.length_append, ← Sl.len (hL'.out.ok k p hp)]⟩
      have hx : Box (cat (ps.take k) ++ p.bs = cat (ps.take (k + 1))) := ⟨by rw [cat_take ps k p hp]⟩
      have hle := cat_le ps (k + 1)
      have hsum : (cat (ps.take k)).length + p.m ≤ 900001 := by rw [hl.out]; omega
      have hz := hb.size
      clear hle
      go_wp2_with (at_builtin; refine append36 rfl (.tmp 11) (.tmp 15) rfl w.heap.size _ _ _ rfl hown.out p.sp p.m p.c p.bs p.b p.o rfl hok.out (by omega) hz ?_; intro v2 w2 own2 gr2)
      have hb2 : Below w.heap.size w w2 := hb.grown gr2 hz (fun k e => (World.ownsRow.lt hown.out k e).1)
      rw [hl.out, hx.out] at own2
      have own2' : Box (Own8 w2 w.heap.size v2 (cat (ps.take (k + 1))).length (cat (ps.take (k + 1)))) := ⟨own2⟩
      clear own2 gr2 hown hb hsum
      go_wp2
      go_roundw
      case rel => first | exact ⟨k + 1, by omega, by go_num, own2', hb2⟩ | exact ⟨_, _, _, ⟨k + 1, by omega, by go_num, own2', hb2⟩, rfl, rfl, rfl⟩
      case measure => simp [intOf]; omega
    · have hkn : Box (ps.take k = ps) := ⟨by rw [List.take_of_length_le (by rw [← hn.out]; omega)]⟩
      rw [hkn.out] at hown
      go_wp2
      go_ret
      exact ⟨_, rfl, hown.out, hb⟩
theorem fk_join {n : Nat} {bs : List (BitVec 8)} {v : Value} {w : World} (hT : bs.length ≤ 900000) (hN : n ≤ 1000) (h : (Fk.ls n bs).f v w) :
    Calls Tryd.prog 28 #[v] w fun e w' => ∃ u, e = .returned u ∧ (Fk.sl bs).f u w' ∧ Below w.heap.size w w' := by
  obtain ⟨A, C, lb, lo, ps, rfl, h1, rfl, h3, rfl⟩ := h
  refine (join_own A C lb lo ps w h1 h3 hT hN).mono ?_
  rintro e w' ⟨u, rfl, h4, h5⟩
  exact ⟨_, rfl, own_sl h4, h5⟩
theorem fk_refInt (n : Int) (w : World) : Calls Tryd.prog 29 #[.int .i64 n] w fun e w' => ∃ u, e = .returned u ∧ (Fk.sl (be8 n)).f u w' ∧ Below w.heap.size w w' := by
  refine (refInt_any n w).mono ?_
  rintro e w' ⟨rfl, h1, h2⟩
  exact ⟨_, rfl, ⟨_, _, _, _, _, rfl, sl_of_HasV h1 (be8_len n).symm⟩, h2⟩
theorem fk_refHashes {hs : List (List (BitVec 8))} {base : Nat} {v : Value} {w : World} (hn : hs.length ≤ 1000) (h : (Fk.ow2 base hs).f v w) : Calls Tryd.prog 57 #[v] w fun e w' => ∃ u, e = .returned u ∧ (Fk.sl (hsb hs)).f u w' ∧ Below w.heap.size w w' := by
  obtain ⟨A, c, g, rfl, hf⟩ := own_fl h.1
  refine (refHashes_any A g 0 hs.length c hs.flatten w hf hn).mono ?_
  rintro e w' ⟨u, rfl, h4, h5⟩
  exact ⟨_, rfl, own_sl h4, h5⟩
end Go.Proofs.YtnanipeapjpkfaaDoor
