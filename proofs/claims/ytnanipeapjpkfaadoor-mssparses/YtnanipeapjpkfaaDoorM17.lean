/- The fixed answer of layer 6: awake. Parse as laws meet it; strings held against each other; empty lists. The walk of MssParses. What the rows of this seat share: what the listed variable gives a walk, an array of bytes opened, the start that fits. A slice of bytes that came in, opened. -/
import Derived.Test.YtnanipeapjpkfaaDoorM16
import Derived.Test.YtnanipeapjpkfaaDoorM10
import Derived.Test.YtnanipeapjpkfaaDoorM13
import Derived.Test.YtnanipeapjpkfaaDoorRows
import Derived.Test.YtnanipeapjpkfaaDoorM2
import Derived.ProofKit
import Derived.LaidMore
import Derived.OpenShut
import Derived.ShutString
import Derived.ChangeOld
import Derived.Lib.LaidTab
import Derived.SevenTiedAt
namespace Go.Proofs.YtnanipeapjpkfaaDoor
set_option maxRecDepth 100000
open Go.RowKit
set_option maxHeartbeats 1000000 in
theorem awake_any (w : World) (hK : Tab w) :
    Calls Tryd.prog 8 #[] w fun e w' => e = .returned (.bool true) ∧ Below w.heap.size w w' := by
  obtain ⟨S, eS⟩ : ∃ S, Box (sgp hz 1 0 (ms [120]) = S) := ⟨_, ⟨rfl⟩⟩
  obtain ⟨P, eP⟩ : ∃ P, Box (firsts (pth (lv hz 1) 0) 0 = P) := ⟨_, ⟨rfl⟩⟩
  have hP0 : P.length = 0 := by rw [← eP.out, firsts_len]
  have hSl : S.length = npt 1 := by rw [← eS.out]; exact sgp_len (by omega) (by omega) _ _ _
  obtain ⟨pb, epb⟩ : ∃ pb, Box (rt (lv hz 1) 0 0 = pb) := ⟨_, ⟨rfl⟩⟩
  have hpb : pb.length = 32 := by rw [← epb.out]; exact rt_len _ _ _ _
  have hup1 : up 0 P (lf (rcv 1 (ms [120]) S)) P.length = pb := by
    rw [hP0, ← epb.out, ← eS.out, rcv_sgp (by omega) (by omega)]
    rfl
  have hup2 : up 0 P (lf (rcv 1 (ms [121]) S)) P.length ≠ pb := by
    rw [hP0, ← epb.out, ← eS.out]
    exact awake_ne
  go_enter Tryd.func8, Tryd.ntmps8
  refine code_both (fun f w1 => f.tmps.size = 59 ∧ f.defers = [] ∧ Below w.heap.size w (w1)) ⟨rfl, rfl, Below.refl _ _⟩ ?_
  rintro f0 w0 ⟨sz, df, bl⟩
  have bl0 := bl
  refine wp_seq ?_
  -- R0
  refine wp_all_seq [.eq (.bool false)] (by kernel_rfl) (by kernel_rfl) (by rw [sz]; kernel_rfl) (by kernel_rfl) ⟨fun hw ac u K => ?_, trivial⟩ ?_
  · exact st_assign (.const (.bool false)) rfl rfl
  intro f1 w1 A hb
  replace bl0 := bl
  have x0 : f1.eval (.tmp 0) = .bool false := A.has 0 0 rfl
  replace bl := (bl.trans (Below.mono hb bl.size))
  replace sz := A.size.trans sz
  replace df := A.defs.trans df
  clear A hb
  show Code.wp _ _ _ _ _
  refine wp_seq ?_
  -- R1
  refine wp_all_seq [.eq (.agg ((hz).map V).toArray), .t2 (.nw w1.heap.size 69 ((hz).map V ++ ([.int .i64 ((1 : Nat) : Int), .int .i64 ((0 : Nat) : Int), .int .i64 ((0 : Nat) : Int)] : List Value))) (.int .i64 0), .t2 (.nw w1.heap.size 69 ((hz).map V ++ ([.int .i64 ((1 : Nat) : Int), .int .i64 ((0 : Nat) : Int), .int .i64 ((0 : Nat) : Int)] : List Value))) (.int .i64 0), .nw w1.heap.size 69 ((hz).map V ++ ([.int .i64 ((1 : Nat) : Int), .int .i64 ((0 : Nat) : Int), .int .i64 ((0 : Nat) : Int)] : List Value)), .eq (.int .i64 0), .nw w1.heap.size 69 ((hz).map V ++ ([.int .i64 ((1 : Nat) : Int), .int .i64 ((0 : Nat) : Int), .int .i64 ((0 : Nat) : Int)] : List Value)), .eq (.int .i64 0)] (by kernel_rfl) (by kernel_rfl) (by rw [sz]; kernel_rfl) (by kernel_rfl) ⟨fun hw ac u K => ?_, fun hw ac u K => ?_, fun hw ac u K => ?_, fun hw ac u K => ?_, fun hw ac u K => ?_, fun hw ac u K => ?_, fun hw ac u K => ?_, trivial⟩ ?_
  · exact st_zero23 rfl
  · exact st_call 33 (.func 33) _ _ #[.agg ((hz).map V).toArray, .int .i64 1, .int .i64 0] rfl rfl (arg3 (K.dep 0 8 rfl) rfl rfl) Tryd.enter33 (fk_nw K.grow.size (by exact new_ok hz 1 0 hz_len (by omega) (by omega) (by omega) _))
  · exact st_move (.tmp 9) rfl (K.dep 1 9 rfl)
  · exact st_t2a (.tmp 7) rfl (K.dep 2 7 rfl)
  · exact st_t2b (.tmp 7) rfl (K.dep 2 7 rfl)
  · exact st_assign (.tmp 10) rfl (K.dep 3 10 rfl)
  · exact st_assign (.tmp 11) rfl (K.dep 4 11 rfl)
  intro f2 w2 A hb
  replace bl0 := bl
  replace x0 := (A.old 0 rfl).trans x0
  have x1 : Fk.f (.nw w1.heap.size 69 ((hz).map V ++ ([.int .i64 ((1 : Nat) : Int), .int .i64 ((0 : Nat) : Int), .int .i64 ((0 : Nat) : Int)] : List Value))) (f2.eval (.tmp 1)) w2 := A.has 5 1 rfl
  have x2 : f2.eval (.tmp 2) = .int .i64 0 := A.has 6 2 rfl
  replace bl := (bl.trans (Below.mono hb bl.size))
  replace sz := A.size.trans sz
  replace df := A.defs.trans df
  clear A hb
  obtain ⟨g1, hg1, e1, m1⟩ := x1
  have x1 := e1
  clear e1
  have hw1 : w.heap.size ≤ g1 := Nat.le_trans bl0.size hg1
  show Code.wp _ _ _ _ _
  refine wp_seq ?_
  refine wp_seq ?_
  -- R2
  refine wp_all_seq [.eq (.int .i64 0), .eq (.bool false), .eq (.bool false), .eq (.pointer (some ⟨g1, 0, none⟩)), .eq (.bool false), .eq (.bool false), .eq (.bool false), .eq (.pointer (some ⟨g1, 0, none⟩)), .eq (.int .i64 ((2 ^ 0 - 0 : Nat) : Int)), .eq (.bool false), .eq (.bool false)] (by kernel_rfl) (by kernel_rfl) (by rw [sz]; kernel_rfl) (by kernel_rfl) ⟨fun hw ac u K => ?_, fun hw ac u K => ?_, fun hw ac u K => ?_, fun hw ac u K => ?_, fun hw ac u K => ?_, fun hw ac u K => ?_, fun hw ac u K => ?_, fun hw ac u K => ?_, fun hw ac u K => ?_, fun hw ac u K => ?_, fun hw ac u K => ?_, trivial⟩ ?_
  · exact st_move (.tmp 2) rfl ((K.old 2 rfl).trans x2)
  · exact st_neqi 29 (.tmp 12) (.const (.int .i64 0)) rfl .i64 (0) (0) (K.dep 0 12 rfl) rfl _ (by rfl)
  · exact st_move (.tmp 13) rfl (K.dep 1 13 rfl)
  · exact st_move (.tmp 1) rfl ((K.old 1 rfl).trans x1)
  · exact st_bin .eql 28 28 (.tmp 15) _ rfl (K.dep 3 15 rfl) rfl (by kernel_rfl)
  · exact st_pick_f' (.tmp 14) (.const (.bool true)) (.tmp 16) rfl (K.dep 2 14 rfl) (K.dep 4 16 rfl)
  · exact st_move (.tmp 17) rfl (K.dep 5 17 rfl)
  · exact st_move (.tmp 1) rfl ((K.old 1 rfl).trans x1)
  · exact st_call 14 (.func 14) _ _ #[.pointer (some ⟨g1, 0, none⟩)] rfl rfl (one_arg (K.dep 7 19 rfl)) Tryd.enter14 (fk_of (left_any hz_len _ (by omega) (by simp) (Ob.below m1 K.grow)))
  · exact st_neqi 3 (.tmp 20) (.const (.int .i64 1)) rfl .i64 (((2 ^ 0 - 0 : Nat) : Int)) (1) (K.dep 8 20 rfl) rfl _ (by simp)
  · exact st_pick_f' (.tmp 18) (.const (.bool true)) (.tmp 21) rfl (K.dep 6 18 rfl) (K.dep 9 21 rfl)
  intro f3 w3 A hb
  replace bl0 := bl
  replace x0 := (A.old 0 rfl).trans x0
  replace x1 := (A.old 1 rfl).trans x1
  replace x2 := (A.old 2 rfl).trans x2
  have x22 : f3.eval (.tmp 22) = .bool false := A.has 10 22 rfl
  have lt_m1 := Ob.lt m1
  replace m1 := Ob.below m1 hb
  replace bl := (bl.trans (Below.mono hb bl.size))
  replace sz := A.size.trans sz
  replace df := A.defs.trans df
  clear A hb
  clear x2
  show Code.wp _ _ _ _ _
  refine wp_cond_false x22 ?_
  refine wp_skip ?_
  show Code.wp _ _ _ _ _
  refine wp_seq ?_
  have h0k : 0 < g1 := Nat.lt_of_lt_of_le hK.pos hw1
  have hlt1 := Ob.lt m1
  -- R4
  have hgS := bl.size
  refine wp_region_seq [.eq (.pointer (some ⟨g1, 0, none⟩)), .by1 w3.heap.size 120] (by kernel_rfl) (by kernel_rfl) (by rw [sz]; kernel_rfl) (by kernel_rfl) ⟨fun hw ac u K => ?_, fun hw ac u K => ?_, trivial⟩ ?_
  · exact st_move (.tmp 1) rfl ((K.old 1 rfl).trans x1)
  · exact st_bytes1 120 120 rfl (by rfl) _ K.grow.size
  intro f4 w4 A hb
  replace bl0 := bl
  replace x0 := (A.old 0 rfl).trans x0
  replace x1 := (A.old 1 rfl).trans x1
  replace x22 := (A.old 22 rfl).trans x22
  have x24 : f4.eval (.tmp 24) = .pointer (some ⟨g1, 0, none⟩) := A.has 0 24 rfl
  have x25 : Fk.f (.by1 w3.heap.size 120) (f4.eval (.tmp 25)) w4 := A.has 1 25 rfl
  have lt_m1 := Ob.lt m1
  replace m1 := Ob.below m1 hb
  replace bl := (bl.trans (Below.mono hb bl.size))
  replace sz := A.size.trans sz
  replace df := A.defs.trans df
  clear A hb
  refine wl_mark (.tmp 25) rfl 26 rfl (by rw [sz]; decide) rfl x25 ?_
  intro f5 w5 df2 sz2 old2 new2 hm
  clear x25
  replace x0 := (old2 0 rfl).trans x0
  replace x1 := (old2 1 rfl).trans x1
  replace x22 := (old2 22 rfl).trans x22
  replace x24 := (old2 24 rfl).trans x24
  have x26 : Fk.f (.by1 w3.heap.size 120) (f5.eval (.tmp 26)) w5 := new2
  replace m1 := Ob.marked m1 hm (by decide)
  replace bl := hm.grow hgS bl
  replace sz := sz2.trans sz
  replace df := df2.trans df
  clear df2 sz2 old2 new2 hm
  obtain ⟨bm, e26, hgm, hsm⟩ := by1_sl x26
  have nbm : bm ≠ g1 := Nat.ne_of_gt (Nat.lt_of_lt_of_le hlt1 hgm)
  refine wl_call 13 (.func 13) _ _ #[.pointer (some ⟨g1, 0, none⟩), .slice (some ⟨bm, 0, none⟩) 1 1] rfl 27 rfl (by rw [sz]; decide) rfl rfl (arg2 x24 e26) Tryd.enter13 (SigR g1 hz 1 0 0 S P w5) (sign_call hz_len (by omega) (by omega) (by omega) (by simp) _ m1 (hK.below bl) h0k (by simp) hsm (fun _ => nbm) eS eP) ?_
  clear x26
  intro f6 w6 df2 sz2 old2 hR
  obtain ⟨sA27, sC27, sb27, so27, pA27, pC27, pb27, po27, e27, hsb27, q27a, hpb27, q27b, mK, O⟩ := hR
  replace x0 := (old2 0 rfl).trans x0
  replace x1 := (old2 1 rfl).trans x1
  replace x22 := (old2 22 rfl).trans x22
  replace x24 := (old2 24 rfl).trans x24
  replace m1 := mK
  clear mK
  replace bl := bl.trans (Only.below O _ hw1 bl.size)
  replace sz := sz2.trans sz
  replace df := df2.trans df
  have x27 := e27
  have v27a : Fk.f (.hs (S)) (.slice sA27 (S).length sC27) w6 := hl_hs q27a
  have v27b : Fk.f (.hs (P)) (.slice pA27 (P).length pC27) w6 := hl_hs q27b
  clear df2 sz2 old2 O e27
  have S_v27a := v27a
  have S_v27b := v27b
  have hbS := Below.refl w6.heap.size w6
  have hbS0 := hbS
  clear x24
  refine wl_one (.eq (.tuple #[.agg ([.int .i64 ((1 : Nat) : Int), .int .i64 ((0 : Nat) : Int), .slice sA27 (S).length sC27, .slice pA27 (P).length pC27] : List Value).toArray, .int .i64 0])) rfl 23 rfl (by rw [sz]; decide) (st_move (.tmp 27) rfl x27) ?_
  intro f7 w7 df2 sz2 old2 new2 hb
  replace hbS0 := hbS
  replace hbS := hbS.trans (Below.mono hb hbS.size)
  replace bl0 := bl
  replace x0 := (old2 0 rfl).trans x0
  replace x1 := (old2 1 rfl).trans x1
  replace x22 := (old2 22 rfl).trans x22
  replace x27 := (old2 27 rfl).trans x27
  have x23 : f7.eval (.tmp 23) = .tuple #[.agg ([.int .i64 ((1 : Nat) : Int), .int .i64 ((0 : Nat) : Int), .slice sA27 (S).length sC27, .slice pA27 (P).length pC27] : List Value).toArray, .int .i64 0] := new2
  have lt_m1 := Ob.lt m1
  replace m1 := Ob.below m1 hb
  replace v27a := Fk.mono _ _ _ _ v27a hb
  replace v27b := Fk.mono _ _ _ _ v27b hb
  replace bl := (bl.trans (Below.mono hb bl.size))
  replace sz := sz2.trans sz
  replace df := df2.trans df
  clear df2 sz2 old2 new2 hb
  clear x27
  refine wl_one (.eq (.agg ([.int .i64 ((1 : Nat) : Int), .int .i64 ((0 : Nat) : Int), .slice sA27 (S).length sC27, .slice pA27 (P).length pC27] : List Value).toArray)) rfl 28 rfl (by rw [sz]; decide) (st_ext0 (.tmp 23) rfl x23 rfl) ?_
  intro f8 w8 df2 sz2 old2 new2 hb
  replace hbS0 := hbS
  replace hbS := hbS.trans (Below.mono hb hbS.size)
  replace bl0 := bl
  replace x0 := (old2 0 rfl).trans x0
  replace x1 := (old2 1 rfl).trans x1
  replace x22 := (old2 22 rfl).trans x22
  replace x23 := (old2 23 rfl).trans x23
  have x28 : f8.eval (.tmp 28) = .agg ([.int .i64 ((1 : Nat) : Int), .int .i64 ((0 : Nat) : Int), .slice sA27 (S).length sC27, .slice pA27 (P).length pC27] : List Value).toArray := new2
  have lt_m1 := Ob.lt m1
  replace m1 := Ob.below m1 hb
  replace v27a := Fk.mono _ _ _ _ v27a hb
  replace v27b := Fk.mono _ _ _ _ v27b hb
  replace bl := (bl.trans (Below.mono hb bl.size))
  replace sz := sz2.trans sz
  replace df := df2.trans df
  clear df2 sz2 old2 new2 hb
  refine wl_one (.eq (.int .i64 0)) rfl 29 rfl (by rw [sz]; decide) (st_ext1 (.tmp 23) rfl x23 rfl) ?_
  intro f9 w9 df2 sz2 old2 new2 hb
  replace hbS0 := hbS
  replace hbS := hbS.trans (Below.mono hb hbS.size)
  replace bl0 := bl
  replace x0 := (old2 0 rfl).trans x0
  replace x1 := (old2 1 rfl).trans x1
  replace x22 := (old2 22 rfl).trans x22
  replace x23 := (old2 23 rfl).trans x23
  replace x28 := (old2 28 rfl).trans x28
  have x29 : f9.eval (.tmp 29) = .int .i64 0 := new2
  have lt_m1 := Ob.lt m1
  replace m1 := Ob.below m1 hb
  replace v27a := Fk.mono _ _ _ _ v27a hb
  replace v27b := Fk.mono _ _ _ _ v27b hb
  replace bl := (bl.trans (Below.mono hb bl.size))
  replace sz := sz2.trans sz
  replace df := df2.trans df
  clear df2 sz2 old2 new2 hb
  clear x23
  refine wl_one (.nw w9.heap.size 38 [.int .i64 0, .int .i64 0, .slice none 0 0, .slice none 0 0]) rfl 3 rfl (by rw [sz]; decide) (st_alloc 38 rfl _ _ (by kernel_rfl) (Nat.le_refl _)) ?_
  intro f10 w10 df2 sz2 old2 new2 hb
  replace hbS0 := hbS
  replace hbS := hbS.trans (Below.mono hb hbS.size)
  replace bl0 := bl
  replace x0 := (old2 0 rfl).trans x0
  replace x1 := (old2 1 rfl).trans x1
  replace x22 := (old2 22 rfl).trans x22
  replace x28 := (old2 28 rfl).trans x28
  replace x29 := (old2 29 rfl).trans x29
  have x3 : Fk.f (.nw w9.heap.size 38 [.int .i64 0, .int .i64 0, .slice none 0 0, .slice none 0 0]) (f10.eval (.tmp 3)) w10 := new2
  have lt_m1 := Ob.lt m1
  replace m1 := Ob.below m1 hb
  replace v27a := Fk.mono _ _ _ _ v27a hb
  replace v27b := Fk.mono _ _ _ _ v27b hb
  replace bl := (bl.trans (Below.mono hb bl.size))
  replace sz := sz2.trans sz
  replace df := df2.trans df
  clear df2 sz2 old2 new2 hb
  obtain ⟨g3, hg3, e3, m3⟩ := x3
  have x3 := e3
  clear e3
  have nm1_3 : g1 ≠ g3 := Nat.ne_of_lt (Nat.lt_of_lt_of_le lt_m1 hg3)
  have hw3 : w.heap.size ≤ g3 := Nat.le_trans bl0.size hg3
  have hs3 := Nat.le_trans hbS0.size hg3
  refine wl_str rfl 38 (.tmp 3) (.tmp 28) rfl rfl (g3) ([.int .i64 ((1 : Nat) : Int), .int .i64 ((0 : Nat) : Int), .slice sA27 (S).length sC27, .slice pA27 (P).length pC27] : List Value).toArray x3 x28 38 _ m3 (by kernel_rfl) (by kernel_rfl) (by kernel_rfl) ?_
  replace m1 : Ob (w10.setRow g3 ([.int .i64 ((1 : Nat) : Int), .int .i64 ((0 : Nat) : Int), .slice sA27 (S).length sC27, .slice pA27 (P).length pC27] : List Value).toArray) (g1) 69 ((hz).map V ++ ([.int .i64 ((1 : Nat) : Int), .int .i64 ((0 : Nat) : Int), .int .i64 ((0 + 1 : Nat) : Int)] : List Value)) := Ob.setRow_other m1 _ nm1_3
  replace m3 : Ob (w10.setRow g3 ([.int .i64 ((1 : Nat) : Int), .int .i64 ((0 : Nat) : Int), .slice sA27 (S).length sC27, .slice pA27 (P).length pC27] : List Value).toArray) (g3) 38 ([.int .i64 ((1 : Nat) : Int), .int .i64 ((0 : Nat) : Int), .slice sA27 (S).length sC27, .slice pA27 (P).length pC27]) := Ob.setRow m3 ([.int .i64 ((1 : Nat) : Int), .int .i64 ((0 : Nat) : Int), .slice sA27 (S).length sC27, .slice pA27 (P).length pC27])
  replace hbS : Below _ _ (w10.setRow g3 ([.int .i64 ((1 : Nat) : Int), .int .i64 ((0 : Nat) : Int), .slice sA27 (S).length sC27, .slice pA27 (P).length pC27] : List Value).toArray) := hbS.trans (below_setRow _ _ _ _ hs3)
  replace v27a := Fk.mono _ _ _ _ S_v27a hbS
  replace v27b := Fk.mono _ _ _ _ S_v27b hbS
  replace bl : Below w.heap.size w (w10.setRow g3 ([.int .i64 ((1 : Nat) : Int), .int .i64 ((0 : Nat) : Int), .slice sA27 (S).length sC27, .slice pA27 (P).length pC27] : List Value).toArray) := bl.trans (below_setRow _ _ _ _ hw3)
  generalize w10.setRow g3 ([.int .i64 ((1 : Nat) : Int), .int .i64 ((0 : Nat) : Int), .slice sA27 (S).length sC27, .slice pA27 (P).length pC27] : List Value).toArray = w11b at bl m1 m3 v27a v27b hbS ⊢
  clear x28
  refine wl_one (.eq (.int .i64 0)) rfl 4 rfl (by rw [sz]; decide) (st_assign (.tmp 29) rfl x29) ?_
  intro f12 w12 df2 sz2 old2 new2 hb
  replace hbS0 := hbS
  replace hbS := hbS.trans (Below.mono hb hbS.size)
  replace bl0 := bl
  replace x0 := (old2 0 rfl).trans x0
  replace x1 := (old2 1 rfl).trans x1
  replace x22 := (old2 22 rfl).trans x22
  replace x29 := (old2 29 rfl).trans x29
  replace x3 := (old2 3 rfl).trans x3
  have x4 : f12.eval (.tmp 4) = .int .i64 0 := new2
  have lt_m1 := Ob.lt m1
  replace m1 := Ob.below m1 hb
  have lt_m3 := Ob.lt m3
  replace m3 := Ob.below m3 hb
  replace v27a := Fk.mono _ _ _ _ v27a hb
  replace v27b := Fk.mono _ _ _ _ v27b hb
  replace bl := (bl.trans (Below.mono hb bl.size))
  replace sz := sz2.trans sz
  replace df := df2.trans df
  clear df2 sz2 old2 new2 hb
  refine wpList_nil ?_
  clear hbS hbS0 S_v27a S_v27b
  clear x29
  show Code.wp _ _ _ _ _
  refine wp_seq ?_
  -- R5
  refine wp_region_seq [.eq (.pointer (some ⟨g1, 0, none⟩)), .eq (.tuple #[.agg ([.int .i64 0, .int .i64 0, .slice none 0 0, .slice none 0 0] : List Value).toArray, .int .i64 20]), .eq (.tuple #[.agg ([.int .i64 0, .int .i64 0, .slice none 0 0, .slice none 0 0] : List Value).toArray, .int .i64 20]), .eq (.agg ([.int .i64 0, .int .i64 0, .slice none 0 0, .slice none 0 0] : List Value).toArray), .eq (.int .i64 20), .nw w12.heap.size 38 [.int .i64 0, .int .i64 0, .slice none 0 0, .slice none 0 0]] (by kernel_rfl) (by kernel_rfl) (by rw [sz]; kernel_rfl) (by kernel_rfl) ⟨fun hw ac u K => ?_, fun hw ac u K => ?_, fun hw ac u K => ?_, fun hw ac u K => ?_, fun hw ac u K => ?_, fun hw ac u K => ?_, trivial⟩ ?_
  · exact st_move (.tmp 1) rfl ((K.old 1 rfl).trans x1)
  · exact st_call 13 (.func 13) _ _ #[.pointer (some ⟨g1, 0, none⟩), .slice none 0 0] rfl rfl (arg2 (K.dep 0 31 rfl) rfl) Tryd.enter13 (fk_of (sign_out hz_len (by omega) (by rfl) _ (Ob.below m1 K.grow) _))
  · exact st_move (.tmp 32) rfl (K.dep 1 32 rfl)
  · exact st_ext0 (.tmp 30) rfl (K.dep 2 30 rfl) rfl
  · exact st_ext1 (.tmp 30) rfl (K.dep 2 30 rfl) rfl
  · exact st_alloc 38 rfl _ _ (by kernel_rfl) K.grow.size
  intro f13 w13 A hb
  have S_v27a := v27a
  have S_v27b := v27b
  have hbS0 := Below.refl w12.heap.size w12
  have hbS := hb
  replace bl0 := bl
  replace x0 := (A.old 0 rfl).trans x0
  replace x1 := (A.old 1 rfl).trans x1
  replace x22 := (A.old 22 rfl).trans x22
  replace x3 := (A.old 3 rfl).trans x3
  replace x4 := (A.old 4 rfl).trans x4
  have x5 : Fk.f (.nw w12.heap.size 38 [.int .i64 0, .int .i64 0, .slice none 0 0, .slice none 0 0]) (f13.eval (.tmp 5)) w13 := A.has 5 5 rfl
  have x33 : f13.eval (.tmp 33) = .agg ([.int .i64 0, .int .i64 0, .slice none 0 0, .slice none 0 0] : List Value).toArray := A.has 3 33 rfl
  have x34 : f13.eval (.tmp 34) = .int .i64 20 := A.has 4 34 rfl
  have lt_m1 := Ob.lt m1
  replace m1 := Ob.below m1 hb
  have lt_m3 := Ob.lt m3
  replace m3 := Ob.below m3 hb
  replace v27a := Fk.mono _ _ _ _ v27a hb
  replace v27b := Fk.mono _ _ _ _ v27b hb
  replace bl := (bl.trans (Below.mono hb bl.size))
  replace sz := A.size.trans sz
  replace df := A.defs.trans df
  clear A hb
  obtain ⟨g5, hg5, e5, m5⟩ := x5
  have x5 := e5
  clear e5
  have nm1_5 : g1 ≠ g5 := Nat.ne_of_lt (Nat.lt_of_lt_of_le lt_m1 hg5)
  have nm3_5 : g3 ≠ g5 := Nat.ne_of_lt (Nat.lt_of_lt_of_le lt_m3 hg5)
  have hw5 : w.heap.size ≤ g5 := Nat.le_trans bl0.size hg5
  have hs5 := Nat.le_trans hbS0.size hg5
  refine wl_str rfl 38 (.tmp 5) (.tmp 33) rfl rfl (g5) ([.int .i64 0, .int .i64 0, .slice none 0 0, .slice none 0 0] : List Value).toArray x5 x33 38 _ m5 (by kernel_rfl) (by kernel_rfl) (by kernel_rfl) ?_
  replace m1 : Ob (w13.setRow g5 ([.int .i64 0, .int .i64 0, .slice none 0 0, .slice none 0 0] : List Value).toArray) (g1) 69 ((hz).map V ++ ([.int .i64 ((1 : Nat) : Int), .int .i64 ((0 : Nat) : Int), .int .i64 ((0 + 1 : Nat) : Int)] : List Value)) := Ob.setRow_other m1 _ nm1_5
  replace m3 : Ob (w13.setRow g5 ([.int .i64 0, .int .i64 0, .slice none 0 0, .slice none 0 0] : List Value).toArray) (g3) 38 ([.int .i64 ((1 : Nat) : Int), .int .i64 ((0 : Nat) : Int), .slice sA27 (S).length sC27, .slice pA27 (P).length pC27]) := Ob.setRow_other m3 _ nm3_5
  replace m5 : Ob (w13.setRow g5 ([.int .i64 0, .int .i64 0, .slice none 0 0, .slice none 0 0] : List Value).toArray) (g5) 38 ([.int .i64 0, .int .i64 0, .slice none 0 0, .slice none 0 0]) := Ob.setRow m5 ([.int .i64 0, .int .i64 0, .slice none 0 0, .slice none 0 0])
  replace hbS : Below _ _ (w13.setRow g5 ([.int .i64 0, .int .i64 0, .slice none 0 0, .slice none 0 0] : List Value).toArray) := hbS.trans (below_setRow _ _ _ _ hs5)
  replace v27a := Fk.mono _ _ _ _ S_v27a hbS
  replace v27b := Fk.mono _ _ _ _ S_v27b hbS
  replace bl : Below w.heap.size w (w13.setRow g5 ([.int .i64 0, .int .i64 0, .slice none 0 0, .slice none 0 0] : List Value).toArray) := bl.trans (below_setRow _ _ _ _ hw5)
  generalize w13.setRow g5 ([.int .i64 0, .int .i64 0, .slice none 0 0, .slice none 0 0] : List Value).toArray = w14b at bl m1 m3 m5 v27a v27b hbS ⊢
  clear x5
  clear x33
  refine wl_one (.eq (.int .i64 20)) rfl 6 rfl (by rw [sz]; decide) (st_assign (.tmp 34) rfl x34) ?_
  intro f15 w15 df2 sz2 old2 new2 hb
  replace hbS0 := hbS
  replace hbS := hbS.trans (Below.mono hb hbS.size)
  replace bl0 := bl
  replace x0 := (old2 0 rfl).trans x0
  replace x1 := (old2 1 rfl).trans x1
  replace x22 := (old2 22 rfl).trans x22
  replace x3 := (old2 3 rfl).trans x3
  replace x4 := (old2 4 rfl).trans x4
  replace x34 := (old2 34 rfl).trans x34
  have x6 : f15.eval (.tmp 6) = .int .i64 20 := new2
  have lt_m1 := Ob.lt m1
  replace m1 := Ob.below m1 hb
  have lt_m3 := Ob.lt m3
  replace m3 := Ob.below m3 hb
  have lt_m5 := Ob.lt m5
  replace m5 := Ob.below m5 hb
  replace v27a := Fk.mono _ _ _ _ v27a hb
  replace v27b := Fk.mono _ _ _ _ v27b hb
  replace bl := (bl.trans (Below.mono hb bl.size))
  replace sz := sz2.trans sz
  replace df := df2.trans df
  clear df2 sz2 old2 new2 hb
  refine wpList_nil ?_
  clear hbS hbS0 S_v27a S_v27b
  clear x34
  show Code.wp _ _ _ _ _
  refine wp_seq ?_
  -- R6
  refine wp_allR (R := Mk w15.heap.size) [.eq (.int .i64 0), .eq (.bool true), .eq (.bool true), .eq (.int .i64 20), .eq (.bool true), .eq (.bool true), .eq (.bool true), .eq (.pointer (some ⟨g1, 0, none⟩)), .eq (.agg ((pb).map V).toArray), .by1 w15.heap.size 120, .by1 w15.heap.size 120, .eq (.agg ([.int .i64 ((1 : Nat) : Int), .int .i64 ((0 : Nat) : Int), .slice sA27 (S).length sC27, .slice pA27 (P).length pC27] : List Value).toArray), .eq (.int .i64 0), .eq (.bool true), .eq (.bool true), .eq (.bool true), .eq (.pointer (some ⟨g1, 0, none⟩)), .eq (.agg ((pb).map V).toArray), .by1 w15.heap.size 121, .by1 w15.heap.size 121, .eq (.agg ([.int .i64 ((1 : Nat) : Int), .int .i64 ((0 : Nat) : Int), .slice sA27 (S).length sC27, .slice pA27 (P).length pC27] : List Value).toArray), .eq (.int .i64 21), .eq (.bool true), .eq (.bool true), .eq (.bool true)] (Mk.refl _) (fun w1 w' h hb => h.grow (Nat.le_refl _) hb) (Stab.all (g := _) ⟨stab_eq, stab_eq, stab_eq, stab_eq, stab_eq, stab_eq, stab_eq, stab_eq, stab_eq, stab_by1, stab_by1, stab_eq, stab_eq, stab_eq, stab_eq, stab_eq, stab_eq, stab_eq, stab_by1, stab_by1, stab_eq, stab_eq, stab_eq, stab_eq, stab_eq, trivial⟩) Tryd.mixed (by kernel_rfl) (by kernel_rfl) (by rw [sz]; kernel_rfl) (by kernel_rfl) ⟨fun hw ac u K => ?_, fun hw ac u K => ?_, fun hw ac u K => ?_, fun hw ac u K => ?_, fun hw ac u K => ?_, fun hw ac u K => ?_, fun hw ac u K => ?_, fun hw ac u K => ?_, fun hw ac u K => ?_, fun hw ac u K => ?_, fun hw ac u K => ?_, fun hw ac u K => ?_, fun hw ac u K => ?_, fun hw ac u K => ?_, fun hw ac u K => ?_, fun hw ac u K => ?_, fun hw ac u K => ?_, fun hw ac u K => ?_, fun hw ac u K => ?_, fun hw ac u K => ?_, fun hw ac u K => ?_, fun hw ac u K => ?_, fun hw ac u K => ?_, fun hw ac u K => ?_, fun hw ac u K => ?_, trivial⟩ ?_
  · exact ends_mk (st_move (.tmp 4) rfl ((K.old 4 rfl).trans x4))
  · exact ends_mk (st_eqi 29 (.tmp 35) (.const (.int .i64 0)) rfl .i64 (0) (0) (K.dep 0 35 rfl) rfl _ (by rfl))
  · exact ends_mk (st_move (.tmp 36) rfl (K.dep 1 36 rfl))
  · exact ends_mk (st_move (.tmp 6) rfl ((K.old 6 rfl).trans x6))
  · exact ends_mk (st_eqi 29 (.tmp 38) (.const (.int .i64 20)) rfl .i64 (20) (20) (K.dep 3 38 rfl) rfl _ (by rfl))
  · exact ends_mk (st_pick_t (.tmp 37) (.tmp 39) (.const (.bool false)) rfl (K.dep 2 37 rfl) (K.dep 4 39 rfl))
  · exact ends_mk (st_move (.tmp 40) rfl (K.dep 5 40 rfl))
  · exact ends_mk (st_move (.tmp 1) rfl ((K.old 1 rfl).trans x1))
  · exact ends_mk (st_call 11 (.func 11) _ _ #[.pointer (some ⟨g1, 0, none⟩)] rfl rfl (one_arg (K.dep 7 42 rfl)) Tryd.enter11 (fk_of (public_key hz_len (by omega) (by omega) (by omega) _ (Ob.below m1 K.grow) (hK.below (bl.trans (Below.mono K.grow bl.size))) epb)))
  · exact ends_mk (st_bytes1 120 120 rfl (by rfl) _ K.grow.size)
  · exact st_mark (.tmp 44) rfl (K.dep 9 44 rfl)
  · exact ends_mk (st_loadz 38 (.tmp 3) rfl (g3) 0 [.int .i64 ((1 : Nat) : Int), .int .i64 ((0 : Nat) : Int), .slice sA27 (S).length sC27, .slice pA27 (P).length pC27] (by kernel_rfl) (by kernel_rfl) ((K.old 3 rfl).trans x3) (Ob.range (Ob.below m3 K.grow) 0 _ (fun j v hj => by simpa using hj)))
  · exact ends_mk (st_call 21 (.func 21) _ _ #[.agg ((pb).map V).toArray, .int .i64 1, .int .i64 0, ac.eval (.tmp 45), .agg ([.int .i64 ((1 : Nat) : Int), .int .i64 ((0 : Nat) : Int), .slice sA27 (S).length sC27, .slice pA27 (P).length pC27] : List Value).toArray] rfl rfl (arg5 (K.dep 8 43 rfl) rfl rfl rfl (K.dep 11 46 rfl)) Tryd.enter21 (fk_of (verify_yes (kind := 1) (height := 0) (by omega) (by omega) (by omega) 0 (by simp) hpb hP0 _ _ (by simp) (by1_sn (K.dep 10 45 rfl)) (hK.below (bl.trans (Below.mono K.grow bl.size))) (Fk.mono _ _ _ _ v27a K.grow) (Fk.mono _ _ _ _ v27b K.grow) ⟨rfl⟩ hSl hup1)))
  · exact ends_mk (st_eqi 29 (.tmp 47) (.const (.int .i64 0)) rfl .i64 (0) (0) (K.dep 12 47 rfl) rfl _ (by rfl))
  · exact ends_mk (st_pick_t (.tmp 41) (.tmp 48) (.const (.bool false)) rfl (K.dep 6 41 rfl) (K.dep 13 48 rfl))
  · exact ends_mk (st_move (.tmp 49) rfl (K.dep 14 49 rfl))
  · exact ends_mk (st_move (.tmp 1) rfl ((K.old 1 rfl).trans x1))
  · exact ends_mk (st_call 11 (.func 11) _ _ #[.pointer (some ⟨g1, 0, none⟩)] rfl rfl (one_arg (K.dep 16 51 rfl)) Tryd.enter11 (fk_of (public_key hz_len (by omega) (by omega) (by omega) _ (Ob.below m1 K.grow) (hK.below (bl.trans (Below.mono K.grow bl.size))) epb)))
  · exact ends_mk (st_bytes1 121 121 rfl (by rfl) _ K.grow.size)
  · exact st_mark (.tmp 53) rfl (K.dep 18 53 rfl)
  · exact ends_mk (st_loadz 38 (.tmp 3) rfl (g3) 0 [.int .i64 ((1 : Nat) : Int), .int .i64 ((0 : Nat) : Int), .slice sA27 (S).length sC27, .slice pA27 (P).length pC27] (by kernel_rfl) (by kernel_rfl) ((K.old 3 rfl).trans x3) (Ob.range (Ob.below m3 K.grow) 0 _ (fun j v hj => by simpa using hj)))
  · exact ends_mk (st_call 21 (.func 21) _ _ #[.agg ((pb).map V).toArray, .int .i64 1, .int .i64 0, ac.eval (.tmp 54), .agg ([.int .i64 ((1 : Nat) : Int), .int .i64 ((0 : Nat) : Int), .slice sA27 (S).length sC27, .slice pA27 (P).length pC27] : List Value).toArray] rfl rfl (arg5 (K.dep 17 52 rfl) rfl rfl rfl (K.dep 20 55 rfl)) Tryd.enter21 (fk_of (verify_ne (kind := 1) (height := 0) (by omega) (by omega) (by omega) 0 (by simp) hpb hP0 _ _ (by simp) (by1_sn (K.dep 19 54 rfl)) (hK.below (bl.trans (Below.mono K.grow bl.size))) (Fk.mono _ _ _ _ v27a K.grow) (Fk.mono _ _ _ _ v27b K.grow) ⟨rfl⟩ hSl hup2)))
  · exact ends_mk (st_eqi 29 (.tmp 56) (.const (.int .i64 21)) rfl .i64 (21) (21) (K.dep 21 56 rfl) rfl _ (by rfl))
  · exact ends_mk (st_pick_t (.tmp 50) (.tmp 57) (.const (.bool false)) rfl (K.dep 15 50 rfl) (K.dep 22 57 rfl))
  · exact ends_mk (st_assign (.tmp 58) rfl (K.dep 23 58 rfl))
  intro f16 w16 A hb
  replace bl0 := bl
  clear x0
  replace x1 := (A.old 1 rfl).trans x1
  replace x22 := (A.old 22 rfl).trans x22
  replace x3 := (A.old 3 rfl).trans x3
  replace x4 := (A.old 4 rfl).trans x4
  replace x6 := (A.old 6 rfl).trans x6
  have x0 : f16.eval (.tmp 0) = .bool true := A.has 24 0 rfl
  have lt_m1 := Ob.lt m1
  replace m1 := Ob.below m1 hb
  have lt_m3 := Ob.lt m3
  replace m3 := Ob.below m3 hb
  have lt_m5 := Ob.lt m5
  replace m5 := Ob.below m5 hb
  replace v27a := Fk.mono _ _ _ _ v27a hb
  replace v27b := Fk.mono _ _ _ _ v27b hb
  replace bl := (bl.trans (Below.mono hb bl.size))
  replace sz := A.size.trans sz
  replace df := A.defs.trans df
  clear A hb
  clear x4
  clear x6
  show Code.wp _ _ _ _ _
  refine wp_ret ?_
  repeat (first | with_reducible refine then_ret ?_ | with_reducible refine block_ret ?_)
  exact bodyPost_ret (v := .bool true) (ret_slot rfl f16 _ x0 _ _) df ⟨rfl, bl⟩
end Go.Proofs.YtnanipeapjpkfaaDoor
namespace Go.Proofs.YtnanipeapjpkfaaDoor
set_option maxRecDepth 100000
open Go.RowKit
theorem nil_hs {w : World} : (Fk.hs nilH).f (.slice none nilH.length 0) w := ⟨none, 0, 0, 0, rfl, fun h => by simp [nilH] at h, fun h => by simp [nilH] at h, fun i x hi => by simp [nilH] at hi⟩
theorem fk_parse_ok {bs : List (BitVec 8)} {v : Value} {w : World} {g0 : Nat} (hbs : bs.length ≤ 900000) (hv : (Fk.sl bs).f v w) (hg : g0 ≤ w.heap.size) {k i : Int} {S P : List (List (BitVec 8))} (h : Enc bs k i S P) :
    Calls Tryd.prog 32 #[v] w fun e w' => ∃ u, e = .returned u ∧ (Fk.t2 (.sv g0 k i S P) (.int .i64 0)).f u w' ∧ Below w.heap.size w w' := by
  refine (parse_any hbs w hv).mono ?_
  rintro e w' ⟨⟨k', i', S', P', A, C, lb, lo, A2, C2, lb2, lo2, h', rfl, h1, h2, h3, h4⟩ | ⟨hn, _⟩, hb⟩
  · obtain ⟨_, _, e1, e2, e3, e4⟩ := done_enc h
    obtain ⟨_, _, e5, e6, e7, e8⟩ := done_enc h'
    obtain rfl : k' = k := e5.symm.trans e1
    obtain rfl : i' = i := e6.symm.trans e2
    obtain rfl : S' = S := e7.symm.trans e3
    obtain rfl : P' = P := e8.symm.trans e4
    exact ⟨_, rfl, ⟨_, rfl, A, C, lb, lo, A2, C2, lb2, lo2, rfl, Nat.le_trans hg h1, h2, Nat.le_trans hg h3, h4⟩, hb⟩
  · exact absurd h (hn k i S P)
theorem fk_parse_no {bs : List (BitVec 8)} {v : Value} {w : World} (hbs : bs.length ≤ 900000) (hv : (Fk.sl bs).f v w) (h : ∀ k i S P, ¬ Enc bs k i S P) :
    Calls Tryd.prog 32 #[v] w fun e w' => ∃ u, e = .returned u ∧ (Fk.eq (.tuple #[.agg ([.int .i64 0, .int .i64 0, .slice none 0 0, .slice none 0 0] : List Value).toArray, .int .i64 10])).f u w' ∧ Below w.heap.size w w' := by
  refine (parse_any hbs w hv).mono ?_
  rintro e w' ⟨⟨k', i', S', P', A, C, lb, lo, A2, C2, lb2, lo2, h', rfl, _⟩ | ⟨hn, rfl⟩, hb⟩
  · exact absurd h' (h k' i' S' P')
  · exact ⟨_, rfl, rfl, hb⟩
theorem sgb_pos (k i : Int) (S P : List (List (BitVec 8))) : 0 < (sgb k i S P).length := by
  unfold sgb
  simp only [List.length_append, be8_len]
  omega
section
variable {Q : Exit → Act → World → Prop} {o : Oper} {a : Act} {w : World}
theorem st_nes (x y : Operand) (ho : o.op = .binOp .neq 9 x y 9) (s t : ByteArray) (hx : a.eval x = .string s) (hy : a.eval y = .string t) (b : Bool) (hb : b = decide (s ≠ t)) : o.wp Tryd.prog a w (Ends a o.dst w (Fk.eq (.bool b)).f) Q := by
  subst hb
  refine st_bin .neq 9 9 x y ho hx hy ?_
  have := str_beq s t
  simp [eqGuard, binOp, Op.stringOp, this]
end
end Go.Proofs.YtnanipeapjpkfaaDoor
namespace Go.Proofs.YtnanipeapjpkfaaDoor
set_option maxRecDepth 100000
open Go.RowKit
set_option maxHeartbeats 1000000 in
theorem parses_law {bs : List (BitVec 8)} {bv0 : Value} (w : World) (hK : Tab w) (vb : (Fk.sl bs).f bv0 w) :
    Calls Tryd.prog 6 #[bv0] w fun e w' => e = .returned (.bool true) ∧ Below w.heap.size w w' := by
  go_enter Tryd.func6, Tryd.ntmps6
  refine code_both (fun f w1 => f.tmps.size = 67 ∧ f.defers = [] ∧ f.eval (.tmp 0) = bv0 ∧ Below w.heap.size w (w1)) ⟨rfl, rfl, rfl, Below.refl _ _⟩ ?_
  rintro f0 w0 ⟨sz, df, x0, bl⟩
  have bl0 := bl
  refine wp_seq ?_
  -- R0
  refine wp_all_seq [.eq (.bool false)] (by kernel_rfl) (by kernel_rfl) (by rw [sz]; kernel_rfl) (by kernel_rfl) ⟨fun hw ac u K => ?_, trivial⟩ ?_
  · exact st_assign (.const (.bool false)) rfl rfl
  intro f1 w1 A hb
  replace bl0 := bl
  replace x0 := (A.old 0 rfl).trans x0
  have x2 : f1.eval (.tmp 2) = .bool false := A.has 0 2 rfl
  replace bl := (bl.trans (Below.mono hb bl.size))
  replace sz := A.size.trans sz
  replace df := A.defs.trans df
  clear A hb
  show Code.wp _ _ _ _ _
  refine wp_seq ?_
  refine wp_seq ?_
  by_cases hl : bs.length ≤ 30000
  rotate_left
  · skip
    -- R1
    refine wp_all_seq [.eq (bv0), .eq (.int .i64 (((bs).length : Nat) : Int)), .eq (.bool true)] (by kernel_rfl) (by kernel_rfl) (by rw [sz]; kernel_rfl) (by kernel_rfl) ⟨fun hw ac u K => ?_, fun hw ac u K => ?_, fun hw ac u K => ?_, trivial⟩ ?_
    · exact st_move (.tmp 0) rfl ((K.old 0 rfl).trans x0)
    · exact st_lenb (.tmp 5) rfl (fk_val (K.dep 0 5 rfl) (Fk.mono _ _ _ _ vb (bl.trans (Below.mono K.grow bl.size))))
    · exact st_gtr 3 (.tmp 6) (.const (.int .i64 30000)) rfl .i64 ((((bs).length : Nat) : Int)) (30000) (K.dep 1 6 rfl) rfl _ (by rw [eq_comm, decide_eq_true_iff]; omega)
    intro f2 w2 A hb
    replace bl0 := bl
    replace x0 := (A.old 0 rfl).trans x0
    replace x2 := (A.old 2 rfl).trans x2
    have x7 : f2.eval (.tmp 7) = .bool true := A.has 2 7 rfl
    replace bl := (bl.trans (Below.mono hb bl.size))
    replace sz := A.size.trans sz
    replace df := A.defs.trans df
    clear A hb
    show Code.wp _ _ _ _ _
    refine wp_cond_true x7 ?_
    refine wp_seq ?_
    -- R2
    refine wp_all_seq [.eq (.bool true), .eq (.bool true)] (by kernel_rfl) (by kernel_rfl) (by rw [sz]; kernel_rfl) (by kernel_rfl) ⟨fun hw ac u K => ?_, fun hw ac u K => ?_, trivial⟩ ?_
    · exact st_call 8 (.func 8) _ _ #[] rfl rfl rfl Tryd.enter8 (fk_of (awake_any _ (hK.below (bl.trans (Below.mono K.grow bl.size)))))
    · exact st_assign (.tmp 8) rfl (K.dep 0 8 rfl)
    intro f3 w3 A hb
    replace bl0 := bl
    replace x0 := (A.old 0 rfl).trans x0
    clear x2
    replace x7 := (A.old 7 rfl).trans x7
    have x2 : f3.eval (.tmp 2) = .bool true := A.has 1 2 rfl
    replace bl := (bl.trans (Below.mono hb bl.size))
    replace sz := A.size.trans sz
    replace df := A.defs.trans df
    clear A hb
    show Code.wp _ _ _ _ _
    refine wp_ret ?_
    repeat (first | with_reducible refine then_ret ?_ | with_reducible refine block_ret ?_)
    exact bodyPost_ret (v := .bool true) (ret_slot rfl f3 _ x2 _ _) df ⟨rfl, bl⟩
  -- R1
  refine wp_all_seq [.eq (bv0), .eq (.int .i64 (((bs).length : Nat) : Int)), .eq (.bool false)] (by kernel_rfl) (by kernel_rfl) (by rw [sz]; kernel_rfl) (by kernel_rfl) ⟨fun hw ac u K => ?_, fun hw ac u K => ?_, fun hw ac u K => ?_, trivial⟩ ?_
  · exact st_move (.tmp 0) rfl ((K.old 0 rfl).trans x0)
  · exact st_lenb (.tmp 5) rfl (fk_val (K.dep 0 5 rfl) (Fk.mono _ _ _ _ vb (bl.trans (Below.mono K.grow bl.size))))
  · exact st_gtr 3 (.tmp 6) (.const (.int .i64 30000)) rfl .i64 ((((bs).length : Nat) : Int)) (30000) (K.dep 1 6 rfl) rfl _ (by rw [eq_comm, decide_eq_false_iff_not]; omega)
  intro f2 w2 A hb
  replace bl0 := bl
  replace x0 := (A.old 0 rfl).trans x0
  replace x2 := (A.old 2 rfl).trans x2
  have x7 : f2.eval (.tmp 7) = .bool false := A.has 2 7 rfl
  replace bl := (bl.trans (Below.mono hb bl.size))
  replace sz := A.size.trans sz
  replace df := A.defs.trans df
  clear A hb
  show Code.wp _ _ _ _ _
  refine wp_cond_false x7 ?_
  refine wp_skip ?_
  show Code.wp _ _ _ _ _
  refine wp_seq ?_
  by_cases he : ∃ k i S P, Enc bs k i S P
  rotate_left
  · skip
    have hno : ∀ k i S P, ¬ Enc bs k i S P := fun k i S P h => he ⟨k, i, S, P, h⟩
    -- R3
    refine wp_region_seq [.eq (bv0), .eq (.tuple #[.agg ([.int .i64 0, .int .i64 0, .slice none 0 0, .slice none 0 0] : List Value).toArray, .int .i64 10]), .eq (.tuple #[.agg ([.int .i64 0, .int .i64 0, .slice none 0 0, .slice none 0 0] : List Value).toArray, .int .i64 10]), .eq (.agg ([.int .i64 0, .int .i64 0, .slice none 0 0, .slice none 0 0] : List Value).toArray), .eq (.int .i64 10), .nw w2.heap.size 38 [.int .i64 0, .int .i64 0, .slice none 0 0, .slice none 0 0]] (by kernel_rfl) (by kernel_rfl) (by rw [sz]; kernel_rfl) (by kernel_rfl) ⟨fun hw ac u K => ?_, fun hw ac u K => ?_, fun hw ac u K => ?_, fun hw ac u K => ?_, fun hw ac u K => ?_, fun hw ac u K => ?_, trivial⟩ ?_
    · exact st_move (.tmp 0) rfl ((K.old 0 rfl).trans x0)
    · exact st_call 32 (.func 32) _ _ #[bv0] rfl rfl (one_arg (K.dep 0 10 rfl)) Tryd.enter32 (fk_parse_no (by omega) (Fk.mono _ _ _ _ vb (bl.trans (Below.mono K.grow bl.size))) hno)
    · exact st_move (.tmp 11) rfl (K.dep 1 11 rfl)
    · exact st_ext0 (.tmp 9) rfl (K.dep 2 9 rfl) rfl
    · exact st_ext1 (.tmp 9) rfl (K.dep 2 9 rfl) rfl
    · exact st_alloc 38 rfl _ _ (by kernel_rfl) K.grow.size
    intro f3 w3 A hb
    replace bl0 := bl
    replace x0 := (A.old 0 rfl).trans x0
    replace x2 := (A.old 2 rfl).trans x2
    replace x7 := (A.old 7 rfl).trans x7
    have x3 : Fk.f (.nw w2.heap.size 38 [.int .i64 0, .int .i64 0, .slice none 0 0, .slice none 0 0]) (f3.eval (.tmp 3)) w3 := A.has 5 3 rfl
    have x12 : f3.eval (.tmp 12) = .agg ([.int .i64 0, .int .i64 0, .slice none 0 0, .slice none 0 0] : List Value).toArray := A.has 3 12 rfl
    have x13 : f3.eval (.tmp 13) = .int .i64 10 := A.has 4 13 rfl
    replace bl := (bl.trans (Below.mono hb bl.size))
    replace sz := A.size.trans sz
    replace df := A.defs.trans df
    clear A hb
    obtain ⟨g3, hg3, e3, m3⟩ := x3
    have x3 := e3
    clear e3
    have hw3 : w.heap.size ≤ g3 := Nat.le_trans bl0.size hg3
    refine wl_str rfl 38 (.tmp 3) (.tmp 12) rfl rfl (g3) ([.int .i64 0, .int .i64 0, .slice none 0 0, .slice none 0 0] : List Value).toArray x3 x12 38 _ m3 (by kernel_rfl) (by kernel_rfl) (by kernel_rfl) ?_
    replace m3 : Ob (w3.setRow g3 ([.int .i64 0, .int .i64 0, .slice none 0 0, .slice none 0 0] : List Value).toArray) (g3) 38 ([.int .i64 0, .int .i64 0, .slice none 0 0, .slice none 0 0]) := Ob.setRow m3 ([.int .i64 0, .int .i64 0, .slice none 0 0, .slice none 0 0])
    replace bl : Below w.heap.size w (w3.setRow g3 ([.int .i64 0, .int .i64 0, .slice none 0 0, .slice none 0 0] : List Value).toArray) := bl.trans (below_setRow _ _ _ _ hw3)
    generalize w3.setRow g3 ([.int .i64 0, .int .i64 0, .slice none 0 0, .slice none 0 0] : List Value).toArray = w4b at bl m3 ⊢
    clear x12
    refine wl_one (.eq (.int .i64 10)) rfl 4 rfl (by rw [sz]; decide) (st_assign (.tmp 13) rfl x13) ?_
    intro f5 w5 df2 sz2 old2 new2 hb
    replace bl0 := bl
    replace x0 := (old2 0 rfl).trans x0
    replace x2 := (old2 2 rfl).trans x2
    replace x7 := (old2 7 rfl).trans x7
    replace x3 := (old2 3 rfl).trans x3
    replace x13 := (old2 13 rfl).trans x13
    have x4 : f5.eval (.tmp 4) = .int .i64 10 := new2
    have lt_m3 := Ob.lt m3
    replace m3 := Ob.below m3 hb
    replace bl := (bl.trans (Below.mono hb bl.size))
    replace sz := sz2.trans sz
    replace df := df2.trans df
    clear df2 sz2 old2 new2 hb
    refine wpList_nil ?_
    clear x13
    show Code.wp _ _ _ _ _
    refine wp_seq ?_
    refine wp_seq ?_
    -- R4
    refine wp_all_seq [.eq (.int .i64 10), .eq (.bool true)] (by kernel_rfl) (by kernel_rfl) (by rw [sz]; kernel_rfl) (by kernel_rfl) ⟨fun hw ac u K => ?_, fun hw ac u K => ?_, trivial⟩ ?_
    · exact st_move (.tmp 4) rfl ((K.old 4 rfl).trans x4)
    · exact st_neqi 29 (.tmp 14) (.const (.int .i64 0)) rfl .i64 (10) (0) (K.dep 0 14 rfl) rfl _ (by rfl)
    intro f6 w6 A hb
    replace bl0 := bl
    replace x0 := (A.old 0 rfl).trans x0
    replace x2 := (A.old 2 rfl).trans x2
    replace x7 := (A.old 7 rfl).trans x7
    replace x3 := (A.old 3 rfl).trans x3
    replace x4 := (A.old 4 rfl).trans x4
    have x15 : f6.eval (.tmp 15) = .bool true := A.has 1 15 rfl
    have lt_m3 := Ob.lt m3
    replace m3 := Ob.below m3 hb
    replace bl := (bl.trans (Below.mono hb bl.size))
    replace sz := A.size.trans sz
    replace df := A.defs.trans df
    clear A hb
    show Code.wp _ _ _ _ _
    refine wp_cond_true x15 ?_
    refine wp_seq ?_
    -- R5
    refine wp_all_seq [.eq (.int .i64 10), .eq (.bool true), .eq (.bool true), .eq (.agg ([.int .i64 0, .int .i64 0, .slice none 0 0, .slice none 0 0] : List Value).toArray), .eq (.agg ([.int .i64 0, .int .i64 0, .slice none 0 0, .slice none 0 0] : List Value).toArray), .eq (.bool true), .eq (.bool true), .eq (.bool true), .eq (.bool true), .eq (.bool true), .eq (.bool true)] (by kernel_rfl) (by kernel_rfl) (by rw [sz]; kernel_rfl) (by kernel_rfl) ⟨fun hw ac u K => ?_, fun hw ac u K => ?_, fun hw ac u K => ?_, fun hw ac u K => ?_, fun hw ac u K => ?_, fun hw ac u K => ?_, fun hw ac u K => ?_, fun hw ac u K => ?_, fun hw ac u K => ?_, fun hw ac u K => ?_, fun hw ac u K => ?_, trivial⟩ ?_
    · exact st_move (.tmp 4) rfl ((K.old 4 rfl).trans x4)
    · exact st_eqi 29 (.tmp 16) (.const (.int .i64 10)) rfl .i64 (10) (10) (K.dep 0 16 rfl) rfl _ (by rfl)
    · exact st_move (.tmp 17) rfl (K.dep 1 17 rfl)
    · exact st_loadz 38 (.tmp 3) rfl (g3) 0 [.int .i64 0, .int .i64 0, .slice none 0 0, .slice none 0 0] (by kernel_rfl) (by kernel_rfl) ((K.old 3 rfl).trans x3) (Ob.range (Ob.below m3 K.grow) 0 _ (fun j v hj => by simpa using hj))
    · exact st_build 38 _ rfl (by kernel_rfl)
    · exact st_call 31 (.func 31) _ _ #[.agg ([.int .i64 0, .int .i64 0, .slice none 0 0, .slice none 0 0] : List Value).toArray, .agg ([.int .i64 0, .int .i64 0, .slice none 0 0, .slice none 0 0] : List Value).toArray] rfl rfl (arg2 (K.dep 3 19 rfl) (K.dep 4 20 rfl)) Tryd.enter31 (fk_of (sigEqual_any (S := nilH) (P := nilH) (S2 := nilH) (P2 := nilH) 0 0 0 0 (by simp [nilH]) (by simp [nilH]) _ nil_hs nil_hs nil_hs nil_hs true (by simp)))
    · exact st_pick_t (.tmp 18) (.tmp 21) (.const (.bool false)) rfl (K.dep 2 18 rfl) (K.dep 5 21 rfl)
    · exact st_move (.tmp 22) rfl (K.dep 6 22 rfl)
    · exact st_call 8 (.func 8) _ _ #[] rfl rfl rfl Tryd.enter8 (fk_of (awake_any _ (hK.below (bl.trans (Below.mono K.grow bl.size)))))
    · exact st_pick_t (.tmp 23) (.tmp 24) (.const (.bool false)) rfl (K.dep 7 23 rfl) (K.dep 8 24 rfl)
    · exact st_assign (.tmp 25) rfl (K.dep 9 25 rfl)
    intro f7 w7 A hb
    replace bl0 := bl
    replace x0 := (A.old 0 rfl).trans x0
    clear x2
    replace x7 := (A.old 7 rfl).trans x7
    replace x3 := (A.old 3 rfl).trans x3
    replace x4 := (A.old 4 rfl).trans x4
    replace x15 := (A.old 15 rfl).trans x15
    have x2 : f7.eval (.tmp 2) = .bool true := A.has 10 2 rfl
    have lt_m3 := Ob.lt m3
    replace m3 := Ob.below m3 hb
    replace bl := (bl.trans (Below.mono hb bl.size))
    replace sz := A.size.trans sz
    replace df := A.defs.trans df
    clear A hb
    show Code.wp _ _ _ _ _
    refine wp_ret ?_
    repeat (first | with_reducible refine then_ret ?_ | with_reducible refine block_ret ?_)
    exact bodyPost_ret (v := .bool true) (ret_slot rfl f7 _ x2 _ _) df ⟨rfl, bl⟩
  obtain ⟨k, i, S, P, he⟩ := he
  have ebs := he.is
  have hk1 := he.k1
  have hk2 := he.k2
  have hi0 := he.i0
  have hi1 := he.i1
  have hS1 := he.s1
  have hP1 := he.p1
  have hpos : 0 < bs.length := by rw [ebs]; exact sgb_pos k i S P
  -- R3
  refine wp_region_seq [.eq (bv0), .t2 (.sv w2.heap.size k i S P) (.int .i64 0)] (by kernel_rfl) (by kernel_rfl) (by rw [sz]; kernel_rfl) (by kernel_rfl) ⟨fun hw ac u K => ?_, fun hw ac u K => ?_, trivial⟩ ?_
  · exact st_move (.tmp 0) rfl ((K.old 0 rfl).trans x0)
  · exact st_call 32 (.func 32) _ _ #[bv0] rfl rfl (one_arg (K.dep 0 10 rfl)) Tryd.enter32 (fk_parse_ok (by omega) (Fk.mono _ _ _ _ vb (bl.trans (Below.mono K.grow bl.size))) K.grow.size he)
  intro f3 w3 A hb
  replace bl0 := bl
  replace x0 := (A.old 0 rfl).trans x0
  replace x2 := (A.old 2 rfl).trans x2
  replace x7 := (A.old 7 rfl).trans x7
  have x11 : Fk.f (.t2 (.sv w2.heap.size k i S P) (.int .i64 0)) (f3.eval (.tmp 11)) w3 := A.has 1 11 rfl
  replace bl := (bl.trans (Below.mono hb bl.size))
  replace sz := A.size.trans sz
  replace df := A.defs.trans df
  clear A hb
  refine wl_one (.t2 (.sv w2.heap.size k i S P) (.int .i64 0)) rfl 9 rfl (by rw [sz]; decide) (st_move (.tmp 11) rfl x11) ?_
  intro f4 w4 df2 sz2 old2 new2 hb
  replace bl0 := bl
  replace x0 := (old2 0 rfl).trans x0
  replace x2 := (old2 2 rfl).trans x2
  replace x7 := (old2 7 rfl).trans x7
  replace x11 := f_at (old2 11 rfl) (Fk.mono _ _ _ _ x11 hb)
  have x9 : Fk.f (.t2 (.sv w2.heap.size k i S P) (.int .i64 0)) (f4.eval (.tmp 9)) w4 := new2
  replace bl := (bl.trans (Below.mono hb bl.size))
  replace sz := sz2.trans sz
  replace df := df2.trans df
  clear df2 sz2 old2 new2 hb
  clear x11
  refine wl_one (.sv w2.heap.size k i S P) rfl 12 rfl (by rw [sz]; decide) (st_t2a (.tmp 9) rfl x9) ?_
  intro f5 w5 df2 sz2 old2 new2 hb
  replace bl0 := bl
  replace x0 := (old2 0 rfl).trans x0
  replace x2 := (old2 2 rfl).trans x2
  replace x7 := (old2 7 rfl).trans x7
  replace x9 := f_at (old2 9 rfl) (Fk.mono _ _ _ _ x9 hb)
  have x12 : Fk.f (.sv w2.heap.size k i S P) (f5.eval (.tmp 12)) w5 := new2
  replace bl := (bl.trans (Below.mono hb bl.size))
  replace sz := sz2.trans sz
  replace df := df2.trans df
  clear df2 sz2 old2 new2 hb
  obtain ⟨sA12, sC12, sb12, so12, pA12, pC12, pb12, po12, e12, hsb12, q12a, hpb12, q12b⟩ := x12
  have x12 : Fk.f (.eq (.agg ([.int .i64 k, .int .i64 i, .slice sA12 (S).length sC12, .slice pA12 (P).length pC12] : List Value).toArray)) (f5.eval (.tmp 12)) w5 := e12
  have v12a : Fk.f (.hs (S)) (.slice sA12 (S).length sC12) w5 := hl_hs q12a
  have v12b : Fk.f (.hs (P)) (.slice pA12 (P).length pC12) w5 := hl_hs q12b
  clear e12
  have S_v12a := v12a
  have S_v12b := v12b
  have hbS := Below.refl w5.heap.size w5
  have hbS0 := hbS
  have S_x9 := x9
  refine wl_one (.eq (.int .i64 0)) rfl 13 rfl (by rw [sz]; decide) (st_t2b (.tmp 9) rfl x9) ?_
  intro f6 w6 df2 sz2 old2 new2 hb
  replace hbS0 := hbS
  replace hbS := hbS.trans (Below.mono hb hbS.size)
  replace S_x9 := f_at (old2 9 rfl) S_x9
  replace bl0 := bl
  replace x0 := (old2 0 rfl).trans x0
  replace x2 := (old2 2 rfl).trans x2
  replace x7 := (old2 7 rfl).trans x7
  replace x9 := f_at (old2 9 rfl) (Fk.mono _ _ _ _ x9 hb)
  replace x12 := (old2 12 rfl).trans x12
  have x13 : f6.eval (.tmp 13) = .int .i64 0 := new2
  replace v12a := Fk.mono _ _ _ _ v12a hb
  replace v12b := Fk.mono _ _ _ _ v12b hb
  replace bl := (bl.trans (Below.mono hb bl.size))
  replace sz := sz2.trans sz
  replace df := df2.trans df
  clear df2 sz2 old2 new2 hb
  clear x9
  refine wl_one (.nw w6.heap.size 38 [.int .i64 0, .int .i64 0, .slice none 0 0, .slice none 0 0]) rfl 3 rfl (by rw [sz]; decide) (st_alloc 38 rfl _ _ (by kernel_rfl) (Nat.le_refl _)) ?_
  intro f7 w7 df2 sz2 old2 new2 hb
  replace hbS0 := hbS
  replace hbS := hbS.trans (Below.mono hb hbS.size)
  clear S_x9
  replace bl0 := bl
  replace x0 := (old2 0 rfl).trans x0
  replace x2 := (old2 2 rfl).trans x2
  replace x7 := (old2 7 rfl).trans x7
  replace x12 := (old2 12 rfl).trans x12
  replace x13 := (old2 13 rfl).trans x13
  have x3 : Fk.f (.nw w6.heap.size 38 [.int .i64 0, .int .i64 0, .slice none 0 0, .slice none 0 0]) (f7.eval (.tmp 3)) w7 := new2
  replace v12a := Fk.mono _ _ _ _ v12a hb
  replace v12b := Fk.mono _ _ _ _ v12b hb
  replace bl := (bl.trans (Below.mono hb bl.size))
  replace sz := sz2.trans sz
  replace df := df2.trans df
  clear df2 sz2 old2 new2 hb
  obtain ⟨g3, hg3, e3, m3⟩ := x3
  have x3 := e3
  clear e3
  have hw3 : w.heap.size ≤ g3 := Nat.le_trans bl0.size hg3
  have hs3 := Nat.le_trans hbS0.size hg3
  refine wl_str rfl 38 (.tmp 3) (.tmp 12) rfl rfl (g3) ([.int .i64 k, .int .i64 i, .slice sA12 (S).length sC12, .slice pA12 (P).length pC12] : List Value).toArray x3 x12 38 _ m3 (by kernel_rfl) (by kernel_rfl) (by kernel_rfl) ?_
  replace m3 : Ob (w7.setRow g3 ([.int .i64 k, .int .i64 i, .slice sA12 (S).length sC12, .slice pA12 (P).length pC12] : List Value).toArray) (g3) 38 ([.int .i64 k, .int .i64 i, .slice sA12 (S).length sC12, .slice pA12 (P).length pC12]) := Ob.setRow m3 ([.int .i64 k, .int .i64 i, .slice sA12 (S).length sC12, .slice pA12 (P).length pC12])
  replace hbS : Below _ _ (w7.setRow g3 ([.int .i64 k, .int .i64 i, .slice sA12 (S).length sC12, .slice pA12 (P).length pC12] : List Value).toArray) := hbS.trans (below_setRow _ _ _ _ hs3)
  replace v12a := Fk.mono _ _ _ _ S_v12a hbS
  replace v12b := Fk.mono _ _ _ _ S_v12b hbS
  replace bl : Below w.heap.size w (w7.setRow g3 ([.int .i64 k, .int .i64 i, .slice sA12 (S).length sC12, .slice pA12 (P).length pC12] : List Value).toArray) := bl.trans (below_setRow _ _ _ _ hw3)
  generalize w7.setRow g3 ([.int .i64 k, .int .i64 i, .slice sA12 (S).length sC12, .slice pA12 (P).length pC12] : List Value).toArray = w8b at bl m3 v12a v12b hbS ⊢
  clear x12
  refine wl_one (.eq (.int .i64 0)) rfl 4 rfl (by rw [sz]; decide) (st_assign (.tmp 13) rfl x13) ?_
  intro f9 w9 df2 sz2 old2 new2 hb
  replace hbS0 := hbS
  replace hbS := hbS.trans (Below.mono hb hbS.size)
  replace bl0 := bl
  replace x0 := (old2 0 rfl).trans x0
  replace x2 := (old2 2 rfl).trans x2
  replace x7 := (old2 7 rfl).trans x7
  replace x13 := (old2 13 rfl).trans x13
  replace x3 := (old2 3 rfl).trans x3
  have x4 : f9.eval (.tmp 4) = .int .i64 0 := new2
  have lt_m3 := Ob.lt m3
  replace m3 := Ob.below m3 hb
  replace v12a := Fk.mono _ _ _ _ v12a hb
  replace v12b := Fk.mono _ _ _ _ v12b hb
  replace bl := (bl.trans (Below.mono hb bl.size))
  replace sz := sz2.trans sz
  replace df := df2.trans df
  clear df2 sz2 old2 new2 hb
  refine wpList_nil ?_
  clear hbS hbS0 S_v12a S_v12b
  clear x13
  show Code.wp _ _ _ _ _
  refine wp_seq ?_
  refine wp_seq ?_
  -- R4
  refine wp_all_seq [.eq (.int .i64 0), .eq (.bool false)] (by kernel_rfl) (by kernel_rfl) (by rw [sz]; kernel_rfl) (by kernel_rfl) ⟨fun hw ac u K => ?_, fun hw ac u K => ?_, trivial⟩ ?_
  · exact st_move (.tmp 4) rfl ((K.old 4 rfl).trans x4)
  · exact st_neqi 29 (.tmp 14) (.const (.int .i64 0)) rfl .i64 (0) (0) (K.dep 0 14 rfl) rfl _ (by rfl)
  intro f10 w10 A hb
  replace bl0 := bl
  replace x0 := (A.old 0 rfl).trans x0
  replace x2 := (A.old 2 rfl).trans x2
  replace x7 := (A.old 7 rfl).trans x7
  replace x3 := (A.old 3 rfl).trans x3
  replace x4 := (A.old 4 rfl).trans x4
  have x15 : f10.eval (.tmp 15) = .bool false := A.has 1 15 rfl
  have lt_m3 := Ob.lt m3
  replace m3 := Ob.below m3 hb
  replace v12a := Fk.mono _ _ _ _ v12a hb
  replace v12b := Fk.mono _ _ _ _ v12b hb
  replace bl := (bl.trans (Below.mono hb bl.size))
  replace sz := A.size.trans sz
  replace df := A.defs.trans df
  clear A hb
  show Code.wp _ _ _ _ _
  refine wp_cond_false x15 ?_
  refine wp_skip ?_
  show Code.wp _ _ _ _ _
  refine wp_seq ?_
  -- R6
  refine wp_all [.eq (.agg ([.int .i64 k, .int .i64 i, .slice sA12 (S).length sC12, .slice pA12 (P).length pC12] : List Value).toArray), .sl (sgb k i S P), .eq (.string (str (sgb k i S P))), .eq (bv0), .eq (.string (str (bs))), .eq (.bool true), .eq (.bool true), .eq (.pointer (some ⟨g3, 0, none⟩)), .eq (.int .i64 k), .eq (.bool true), .eq (.bool true), .eq (.bool true), .eq (.pointer (some ⟨g3, 0, none⟩)), .eq (.int .i64 k), .eq (.bool true), .eq (.bool true), .eq (.bool true), .eq (.pointer (some ⟨g3, 1, none⟩)), .eq (.int .i64 i), .eq (.bool true), .eq (.bool true), .eq (.bool true), .eq (.pointer (some ⟨g3, 1, none⟩)), .eq (.int .i64 i), .eq (.bool true), .eq (.bool true), .eq (.bool true), .eq (.pointer (some ⟨g3, 2, none⟩)), .eq (.slice sA12 (S).length sC12), .eq (.int .i64 (((S).length : Nat) : Int)), .eq (.bool true), .eq (.bool true), .eq (.bool true), .eq (.pointer (some ⟨g3, 3, none⟩)), .eq (.slice pA12 (P).length pC12), .eq (.int .i64 (((P).length : Nat) : Int)), .eq (.bool true), .eq (.bool true), .eq (.bool true), .eq (.bool true), .eq (.bool true), .eq (.bool true)] Tryd.mixed (by kernel_rfl) (by kernel_rfl) (by rw [sz]; kernel_rfl) (by kernel_rfl) ⟨fun hw ac u K => ?_, fun hw ac u K => ?_, fun hw ac u K => ?_, fun hw ac u K => ?_, fun hw ac u K => ?_, fun hw ac u K => ?_, fun hw ac u K => ?_, fun hw ac u K => ?_, fun hw ac u K => ?_, fun hw ac u K => ?_, fun hw ac u K => ?_, fun hw ac u K => ?_, fun hw ac u K => ?_, fun hw ac u K => ?_, fun hw ac u K => ?_, fun hw ac u K => ?_, fun hw ac u K => ?_, fun hw ac u K => ?_, fun hw ac u K => ?_, fun hw ac u K => ?_, fun hw ac u K => ?_, fun hw ac u K => ?_, fun hw ac u K => ?_, fun hw ac u K => ?_, fun hw ac u K => ?_, fun hw ac u K => ?_, fun hw ac u K => ?_, fun hw ac u K => ?_, fun hw ac u K => ?_, fun hw ac u K => ?_, fun hw ac u K => ?_, fun hw ac u K => ?_, fun hw ac u K => ?_, fun hw ac u K => ?_, fun hw ac u K => ?_, fun hw ac u K => ?_, fun hw ac u K => ?_, fun hw ac u K => ?_, fun hw ac u K => ?_, fun hw ac u K => ?_, fun hw ac u K => ?_, fun hw ac u K => ?_, trivial⟩ ?_
  · exact st_loadz 38 (.tmp 3) rfl (g3) 0 [.int .i64 k, .int .i64 i, .slice sA12 (S).length sC12, .slice pA12 (P).length pC12] (by kernel_rfl) (by kernel_rfl) ((K.old 3 rfl).trans x3) (Ob.range (Ob.below m3 K.grow) 0 _ (fun j v hj => by simpa using hj))
  · exact st_call 27 (.func 27) _ _ #[.agg ([.int .i64 k, .int .i64 i, .slice sA12 (S).length sC12, .slice pA12 (P).length pC12] : List Value).toArray] rfl rfl (one_arg (K.dep 0 26 rfl)) Tryd.enter27 (sigBytes_any k i (by omega) (by omega) _ (Fk.mono _ _ _ _ v12a K.grow) (Fk.mono _ _ _ _ v12b K.grow))
  · exact st_str (.tmp 27) rfl (sgb_pos k i S P) (K.dep 1 27 rfl)
  · exact st_move (.tmp 0) rfl ((K.old 0 rfl).trans x0)
  · exact st_str (.tmp 29) rfl hpos (fk_val (K.dep 3 29 rfl) (Fk.mono _ _ _ _ vb (bl.trans (Below.mono K.grow bl.size))))
  · exact st_eqs (.tmp 28) (.tmp 30) rfl (str (sgb k i S P)) (str (bs)) (K.dep 2 28 rfl) (K.dep 4 30 rfl) _ (by rw [ebs]; simp)
  · exact st_move (.tmp 31) rfl (K.dep 5 31 rfl)
  · exact st_field 38 0 (.tmp 3) rfl ((K.old 3 rfl).trans x3) (by kernel_rfl)
  · exact st_loadc 3 (.tmp 33) rfl (by kernel_rfl) (K.dep 7 33 rfl) (Ob.cell (Ob.below m3 K.grow) 0 rfl)
  · exact st_geq 3 (.tmp 34) (.const (.int .i64 1)) rfl .i64 (k) (1) (K.dep 8 34 rfl) rfl _ (by rw [eq_comm, decide_eq_true_iff]; omega)
  · exact st_pick_t (.tmp 32) (.tmp 35) (.const (.bool false)) rfl (K.dep 6 32 rfl) (K.dep 9 35 rfl)
  · exact st_move (.tmp 36) rfl (K.dep 10 36 rfl)
  · exact st_field 38 0 (.tmp 3) rfl ((K.old 3 rfl).trans x3) (by kernel_rfl)
  · exact st_loadc 3 (.tmp 38) rfl (by kernel_rfl) (K.dep 12 38 rfl) (Ob.cell (Ob.below m3 K.grow) 0 rfl)
  · exact st_leq 3 (.tmp 39) (.const (.int .i64 2)) rfl .i64 (k) (2) (K.dep 13 39 rfl) rfl _ (by rw [eq_comm, decide_eq_true_iff]; omega)
  · exact st_pick_t (.tmp 37) (.tmp 40) (.const (.bool false)) rfl (K.dep 11 37 rfl) (K.dep 14 40 rfl)
  · exact st_move (.tmp 41) rfl (K.dep 15 41 rfl)
  · exact st_field 38 1 (.tmp 3) rfl ((K.old 3 rfl).trans x3) (by kernel_rfl)
  · exact st_loadc 3 (.tmp 43) rfl (by kernel_rfl) (K.dep 17 43 rfl) (Ob.cell (Ob.below m3 K.grow) 1 rfl)
  · exact st_geq 3 (.tmp 44) (.const (.int .i64 0)) rfl .i64 (i) (0) (K.dep 18 44 rfl) rfl _ (by rw [eq_comm, decide_eq_true_iff]; omega)
  · exact st_pick_t (.tmp 42) (.tmp 45) (.const (.bool false)) rfl (K.dep 16 42 rfl) (K.dep 19 45 rfl)
  · exact st_move (.tmp 46) rfl (K.dep 20 46 rfl)
  · exact st_field 38 1 (.tmp 3) rfl ((K.old 3 rfl).trans x3) (by kernel_rfl)
  · exact st_loadc 3 (.tmp 48) rfl (by kernel_rfl) (K.dep 22 48 rfl) (Ob.cell (Ob.below m3 K.grow) 1 rfl)
  · exact st_lss 3 (.tmp 49) (.const (.int .i64 256)) rfl .i64 (i) (256) (K.dep 23 49 rfl) rfl _ (by rw [eq_comm, decide_eq_true_iff]; omega)
  · exact st_pick_t (.tmp 47) (.tmp 50) (.const (.bool false)) rfl (K.dep 21 47 rfl) (K.dep 24 50 rfl)
  · exact st_move (.tmp 51) rfl (K.dep 25 51 rfl)
  · exact st_field 38 2 (.tmp 3) rfl ((K.old 3 rfl).trans x3) (by kernel_rfl)
  · exact st_loadc 32 (.tmp 53) rfl (by kernel_rfl) (K.dep 27 53 rfl) (Ob.cell (Ob.below m3 K.grow) 2 rfl)
  · exact st_lenh (.tmp 54) rfl (fk_val (K.dep 28 54 rfl) (Fk.mono _ _ _ _ v12a K.grow))
  · exact st_leq 3 (.tmp 55) (.const (.int .i64 512)) rfl .i64 ((((S).length : Nat) : Int)) (512) (K.dep 29 55 rfl) rfl _ (by rw [eq_comm, decide_eq_true_iff]; omega)
  · exact st_pick_t (.tmp 52) (.tmp 56) (.const (.bool false)) rfl (K.dep 26 52 rfl) (K.dep 30 56 rfl)
  · exact st_move (.tmp 57) rfl (K.dep 31 57 rfl)
  · exact st_field 38 3 (.tmp 3) rfl ((K.old 3 rfl).trans x3) (by kernel_rfl)
  · exact st_loadc 32 (.tmp 59) rfl (by kernel_rfl) (K.dep 33 59 rfl) (Ob.cell (Ob.below m3 K.grow) 3 rfl)
  · exact st_lenh (.tmp 60) rfl (fk_val (K.dep 34 60 rfl) (Fk.mono _ _ _ _ v12b K.grow))
  · exact st_leq 3 (.tmp 61) (.const (.int .i64 8)) rfl .i64 ((((P).length : Nat) : Int)) (8) (K.dep 35 61 rfl) rfl _ (by rw [eq_comm, decide_eq_true_iff]; omega)
  · exact st_pick_t (.tmp 58) (.tmp 62) (.const (.bool false)) rfl (K.dep 32 58 rfl) (K.dep 36 62 rfl)
  · exact st_move (.tmp 63) rfl (K.dep 37 63 rfl)
  · exact st_call 8 (.func 8) _ _ #[] rfl rfl rfl Tryd.enter8 (fk_of (awake_any _ (hK.below (bl.trans (Below.mono K.grow bl.size)))))
  · exact st_pick_t (.tmp 64) (.tmp 65) (.const (.bool false)) rfl (K.dep 38 64 rfl) (K.dep 39 65 rfl)
  · exact st_assign (.tmp 66) rfl (K.dep 40 66 rfl)
  intro f11 w11 A hb
  replace bl0 := bl
  replace x0 := (A.old 0 rfl).trans x0
  clear x2
  replace x7 := (A.old 7 rfl).trans x7
  replace x3 := (A.old 3 rfl).trans x3
  replace x4 := (A.old 4 rfl).trans x4
  replace x15 := (A.old 15 rfl).trans x15
  have x2 : f11.eval (.tmp 2) = .bool true := A.has 41 2 rfl
  have lt_m3 := Ob.lt m3
  replace m3 := Ob.below m3 hb
  replace v12a := Fk.mono _ _ _ _ v12a hb
  replace v12b := Fk.mono _ _ _ _ v12b hb
  replace bl := (bl.trans (Below.mono hb bl.size))
  replace sz := A.size.trans sz
  replace df := A.defs.trans df
  clear A hb
  show Code.wp _ _ _ _ _
  refine wp_ret ?_
  repeat (first | with_reducible refine then_ret ?_ | with_reducible refine block_ret ?_)
  exact bodyPost_ret (v := .bool true) (ret_slot rfl f11 _ x2 _ _) df ⟨rfl, bl⟩
end Go.Proofs.YtnanipeapjpkfaaDoor
namespace Go.Proofs.YtnanipeapjpkfaaDoor
set_option maxRecDepth 100000
open Go.ChangeShapes Go.WideShapes Go.ChangeAt Go.RowKit

theorem own : ownKnob Tryd.prog.godebug = none := by kernel_rfl
theorem laidOut : laidOutB Tryd.prog = true := by kernel_rfl
theorem gK : Tryd.prog.globalNamed "syngraph/sha.roundNumbers" = some 0 := by kernel_rfl
theorem tK : (Tryd.prog.globals[0]?).map (·.type) = some 116 := by kernel_rfl
theorem cells108 : Tryd.prog.cellsOf 108 = 1 := by kernel_rfl
theorem cells116 : Tryd.prog.cellsOf 116 = 64 := by kernel_rfl
theorem cells5 : Tryd.prog.cellsOf 5 = 1 := by kernel_rfl
theorem cells23 : Tryd.prog.cellsOf 23 = 32 := by kernel_rfl
theorem under108 : Tryd.prog.underlying 108 = some (.int .u32) := by kernel_rfl
/-- What the rows list. -/
def laidK : List (String × DataW Unit) := [("syngraph/sha.roundNumbers", Rows.laid_syngraph_sha_roundNumbers)]
theorem laidK_tab : laidK = [("syngraph/sha.roundNumbers", Lib.tabData .u32 (KN.map vl))] := by kernel_rfl
theorem hasK_of {W : World} (h : laidMetH Tryd.prog laidK W) : HasK W 0 ∧ 0 < W.heap.size := by
  rw [MakeChecks.laidMetH_plain _ _ _ (by kernel_rfl), laidK_tab] at h
  have hT := Lib.tabIs_of_head gK tK Tryd.under116 under108 cells108 cells116 h
  have hc : ∀ i, i < 64 → W.cell? ⟨0, i, none⟩ = some (.int .u32 (vl (KN.getD i 0))) := fun i hi => by
    rw [hT.cell gK i (by simpa [KN] using hi)]
    have hi' : i < KN.length := by simpa [KN] using hi
    simp [hi']
  exact ⟨hc, block_lt_of_cell (hc 0 (by omega))⟩
/-- An array of bytes, by value, opened. -/
theorem open_arr8 {H : Type} {enc : TypeId × Value → H} {P : Program} {w : World} {r : Reach} {b0 base : Nat} {spare : Nat → Bool} {held : Bool} {t e : TypeId} {n : Nat} {v : Value} {d : DataW H} {p : List MemPlace}
    (ht : P.underlying t = some (.array n e)) (he : P.underlying e = some (.int .u8)) (hce : P.cellsOf e = 1) (hct : P.cellsOf t = n)
    (hv : Value.okWide P w r b0 t v) (h : DataW.Trod enc P w base spare held t v d p) : ∃ xs : List (BitVec 8), xs.length = n ∧ v = .agg (xs.map V).toArray := by
  unfold Value.okWide at hv
  rw [ht] at hv
  obtain ⟨cs, rfl, hsz, _⟩ := hv
  obtain ⟨fuel, hf⟩ := h
  obtain ⟨ys, m, _, _, hl, hn, hel⟩ := DataW.trod_array ht hf
  have hcell : ∀ i, i < n → ∃ z : Int, cs.toList[i]? = some (.int .u8 z) ∧ 0 ≤ z ∧ z < 256 := fun i hi => by
    have h1 := hel i hi
    rw [hce, List.getElem?_eq_getElem (by omega)] at h1
    obtain ⟨z, hc, _, hw⟩ := DataW.trod_int he h1
    refine ⟨z, ?_, ?_⟩
    · have := congrArg (·[0]?) hc
      simpa [List.getElem?_take, List.getElem?_drop, Value.cells] using this
    · have := bounds_u8 hw
      omega
  refine ⟨cs.toList.map fun v => match v with | .int _ z => BitVec.ofInt 8 z | _ => 0, ?_, ?_⟩
  · rw [List.length_map, Array.length_toList]; omega
  · congr 1
    apply Array.toList_inj.1
    apply List.ext_getElem?
    intro i
    by_cases hi : i < n
    · obtain ⟨z, hz, h0, h1⟩ := hcell i hi
      rw [hz]
      simp only [List.getElem?_map, hz, Option.map_some, List.map_map, Function.comp]
      simp only [V, bv]
      rw [BitVec.toNat_ofInt]
      congr 2
      omega
    · rw [List.getElem?_eq_none (by simp; omega), List.getElem?_eq_none (by simp; omega)]
theorem door_met (os : Os) (args : Array Value) : laidMetH Tryd.prog laidK ((World.doorLaid Tryd.prog 400 os).forCall (fun _ _ => 0) ⟨#[], args, []⟩).memory :=
  laidMetH_of_parts3 (fuel := 8) (laidMet_of_run' 8 (by kernel_rfl) (by kernel_rfl)) (by kernel_rfl) (by kernel_rfl)
end Go.Proofs.YtnanipeapjpkfaaDoor
namespace Go.Proofs.YtnanipeapjpkfaaDoor
set_option maxRecDepth 100000
open Go.ChangeShapes Go.WideShapes Go.ChangeAt Go.RowKit
theorem bv_ofInt (z : Int) (h0 : 0 ≤ z) (h1 : z < 256) : bv (BitVec.ofInt 8 z) = z := by
  unfold bv
  rw [BitVec.toNat_ofInt]
  omega
theorem sl_of {H : Type} {enc : TypeId × Value → H} {W : World} {a : Option Addr} {len cap : Nat} {d : DataW H} {p : List MemPlace}
    (h : DataW.Trod enc Tryd.prog W 0 (fun _ => true) true 36 (.slice a len cap) d p) : ∃ bs b o, Sl W a len cap bs b o ∧ len ≤ maxLen := by
  obtain ⟨fuel, hf⟩ := h
  rcases open_ints Tryd.under36 Tryd.under5 (by kernel_rfl) hf with ⟨hcs, _⟩ | ⟨x, l, c, zs, hcs, _, hl, hm, hz, _, hcell, hwz⟩
  · simp [Value.cells] at hcs
    obtain ⟨rfl, rfl, rfl⟩ := hcs
    exact ⟨[], 0, 0, ⟨rfl, Nat.le_refl _, fun _ => ⟨rfl, rfl⟩, fun h => absurd h (by omega)⟩, by unfold maxLen; omega⟩
  · simp [Value.cells] at hcs
    obtain ⟨rfl, rfl, rfl⟩ := hcs
    have hlen : zs.length = cap := by simpa using hz
    refine ⟨(zs.take len).map (BitVec.ofInt 8), x.block, x.off, ⟨?_, hl, fun h => by (cases h), fun hp => ?_⟩, by unfold maxLen at *; omega⟩
    · rw [List.length_map, List.length_take]; omega
    · have hspot : x.spot = none := by
        have := hcell 0 (by omega)
        simp only [Addr.add, if_true] at this
        unfold World.cell? at this
        split at this
        · split at this
          · cases this
          · rename_i h; simpa using h
        · cases this
      have hx : x = ⟨x.block, x.off, none⟩ := by rw [← hspot]
      have hadd : ∀ i, x.add i = ⟨x.block, x.off + i, none⟩ := fun i => by
        unfold Addr.add
        split
        · rename_i h; subst h; rw [Nat.add_zero]; exact hx
        · rfl
      refine ⟨by rw [← hx], ?_, ?_⟩
      · have := block_lt_of_cell (hcell 0 (by omega))
        simpa [Addr.add] using this
      · intro i hi
        have hil : i < zs.length := by rw [List.length_map, List.length_take] at hi; omega
        have hin : i < len := by rw [List.length_map, List.length_take] at hi; omega
        rw [← hadd, hcell i hil]
        have hb := bounds_u8 (hwz (zs[i]) (List.getElem_mem hil))
        have e1 : zs.getD i 0 = zs[i] := by simp [hil]
        have e2 : ((zs.take len).map (BitVec.ofInt 8)).getD i 0 = BitVec.ofInt 8 zs[i] := by simp [hil, hin]
        rw [e1, e2, bv_ofInt _ (by omega) (by omega)]
end Go.Proofs.YtnanipeapjpkfaaDoor
