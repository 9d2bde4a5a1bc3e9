/- recovered, ledUp. -/
import Derived.Test.YtnanipeapjpkfaaDoorM8
namespace Go.Proofs.YtnanipeapjpkfaaDoor
set_option maxRecDepth 100000
open Go.RowKit
theorem recovered_ok1 {kind : Nat} (i : Int) {S P : List (List (BitVec 8))} {sA pA : Option Addr} {sC pC : Nat} {h : List (BitVec 8)} (hh : h.length = 32) (hkd : kind = 1) (hl : S.length = 67) (w : World) (vS : (Fk.hs S).f (.slice sA (S).length sC) w) (_vP : (Fk.hs P).f (.slice pA (P).length pC) w) (hK : Tab w) {y : List (BitVec 8)} (ey1 : Box (pub (all67 (recOf h S)) = y)) :
    Calls Tryd.prog 50 #[.agg ([.int .i64 ((kind : Nat) : Int), .int .i64 (i), .slice sA (S).length sC, .slice pA (P).length pC] : List Value).toArray, .agg ((h).map V).toArray] w fun e w' => e = .returned (.tuple #[.agg ((y).map V).toArray, .int .i64 0]) ∧ Below w.heap.size w w' := by
  have hy : y.length = 32 := by rw [← ey1.out]; exact pub_len _
  go_enter Tryd.func50, Tryd.ntmps50
  refine code_both (fun f w1 => f.tmps.size = 21 ∧ f.defers = [] ∧ f.eval (.tmp 0) = .agg ([.int .i64 ((kind : Nat) : Int), .int .i64 (i), .slice sA (S).length sC, .slice pA (P).length pC] : List Value).toArray ∧ f.eval (.tmp 1) = .agg ((h).map V).toArray ∧ Below w.heap.size w (w1)) ⟨rfl, rfl, rfl, rfl, Below.refl _ _⟩ ?_
  rintro f0 w0 ⟨sz, df, x0, x1, bl⟩
  have bl0 := bl
  refine wp_seq ?_
  -- R0
  refine wp_region_seq [] (by kernel_rfl) (by kernel_rfl) (by rw [sz]; kernel_rfl) (by kernel_rfl) trivial ?_
  intro f1 w1 A hb
  replace bl0 := bl
  replace x0 := (A.old 0 rfl).trans x0
  replace x1 := (A.old 1 rfl).trans x1
  replace bl := (bl.trans (Below.mono hb bl.size))
  replace sz := A.size.trans sz
  replace df := A.defs.trans df
  clear A hb
  refine wl_one (.nw w1.heap.size 38 ([.int .i64 ((kind : Nat) : Int), .int .i64 (i), .slice sA (S).length sC, .slice pA (P).length pC] : List Value)) rfl 2 rfl (by rw [sz]; decide) (st_box 38 (.tmp 0) rfl _ _ (by rw [show _ = _ from x0]; kernel_rfl) (Nat.le_refl _)) ?_
  intro f2 w2 df2 sz2 old2 new2 hb
  replace bl0 := bl
  replace x0 := (old2 0 rfl).trans x0
  replace x1 := (old2 1 rfl).trans x1
  have x2 : Fk.f (.nw w1.heap.size 38 ([.int .i64 ((kind : Nat) : Int), .int .i64 (i), .slice sA (S).length sC, .slice pA (P).length pC] : List Value)) (f2.eval (.tmp 2)) w2 := new2
  replace bl := (bl.trans (Below.mono hb bl.size))
  replace sz := sz2.trans sz
  replace df := df2.trans df
  clear df2 sz2 old2 new2 hb
  obtain ⟨g2, hg2, e2, m2⟩ := x2
  have x2 := e2
  clear e2
  have hw2 : w.heap.size ≤ g2 := Nat.le_trans bl0.size hg2
  clear x0
  refine wl_one (.nw w2.heap.size 23 ((h).map V)) rfl 3 rfl (by rw [sz]; decide) (st_box 23 (.tmp 1) rfl _ _ (by rw [show _ = _ from x1]; kernel_rfl) (Nat.le_refl _)) ?_
  intro f3 w3 df2 sz2 old2 new2 hb
  replace bl0 := bl
  replace x1 := (old2 1 rfl).trans x1
  replace x2 := (old2 2 rfl).trans x2
  have x3 : Fk.f (.nw w2.heap.size 23 ((h).map V)) (f3.eval (.tmp 3)) w3 := new2
  have lt_m2 := Ob.lt m2
  replace m2 := Ob.below m2 hb
  replace bl := (bl.trans (Below.mono hb bl.size))
  replace sz := sz2.trans sz
  replace df := df2.trans df
  clear df2 sz2 old2 new2 hb
  obtain ⟨g3, hg3, e3, m3⟩ := x3
  have x3 := e3
  clear e3
  have nm2_3 : g2 ≠ g3 := Nat.ne_of_lt (Nat.lt_of_lt_of_le lt_m2 hg3)
  have hw3 : w.heap.size ≤ g3 := Nat.le_trans bl0.size hg3
  clear x1
  refine wl_one (.nw w3.heap.size 23 ((hz).map V)) rfl 4 rfl (by rw [sz]; decide) (st_alloc23 rfl _ (Nat.le_refl _)) ?_
  intro f4 w4 df2 sz2 old2 new2 hb
  replace bl0 := bl
  replace x2 := (old2 2 rfl).trans x2
  replace x3 := (old2 3 rfl).trans x3
  have x4 : Fk.f (.nw w3.heap.size 23 ((hz).map V)) (f4.eval (.tmp 4)) w4 := new2
  have lt_m2 := Ob.lt m2
  replace m2 := Ob.below m2 hb
  have lt_m3 := Ob.lt m3
  replace m3 := Ob.below m3 hb
  replace bl := (bl.trans (Below.mono hb bl.size))
  replace sz := sz2.trans sz
  replace df := df2.trans df
  clear df2 sz2 old2 new2 hb
  obtain ⟨g4, hg4, e4, m4⟩ := x4
  have x4 := e4
  clear e4
  have nm2_4 : g2 ≠ g4 := Nat.ne_of_lt (Nat.lt_of_lt_of_le lt_m2 hg4)
  have nm3_4 : g3 ≠ g4 := Nat.ne_of_lt (Nat.lt_of_lt_of_le lt_m3 hg4)
  have hw4 : w.heap.size ≤ g4 := Nat.le_trans bl0.size hg4
  refine wl_one (.eq (.int .i64 0)) rfl 5 rfl (by rw [sz]; decide) (st_assign (.const (.int .i64 0)) rfl rfl) ?_
  intro f5 w5 df2 sz2 old2 new2 hb
  replace bl0 := bl
  replace x2 := (old2 2 rfl).trans x2
  replace x3 := (old2 3 rfl).trans x3
  replace x4 := (old2 4 rfl).trans x4
  have x5 : f5.eval (.tmp 5) = .int .i64 0 := new2
  have lt_m2 := Ob.lt m2
  replace m2 := Ob.below m2 hb
  have lt_m3 := Ob.lt m3
  replace m3 := Ob.below m3 hb
  have lt_m4 := Ob.lt m4
  replace m4 := Ob.below m4 hb
  replace bl := (bl.trans (Below.mono hb bl.size))
  replace sz := sz2.trans sz
  replace df := df2.trans df
  clear df2 sz2 old2 new2 hb
  refine wpList_nil ?_
  show Code.wp _ _ _ _ _
  refine wp_seq ?_
  refine wp_seq ?_
  -- R1
  refine wp_all_seq [.eq (.pointer (some ⟨g2, 0, none⟩)), .eq (.int .i64 ((kind : Nat) : Int)), .eq (.bool true)] (by kernel_rfl) (by kernel_rfl) (by rw [sz]; kernel_rfl) (by kernel_rfl) ⟨fun hw ac u K => ?_, fun hw ac u K => ?_, fun hw ac u K => ?_, trivial⟩ ?_
  · exact st_field 38 0 (.tmp 2) rfl ((K.old 2 rfl).trans x2) (by kernel_rfl)
  · exact st_loadc 3 (.tmp 6) rfl (by kernel_rfl) (K.dep 0 6 rfl) (Ob.cell (Ob.below m2 K.grow) 0 rfl)
  · exact st_eqi 3 (.tmp 7) (.const (.int .i64 1)) rfl .i64 (((kind : Nat) : Int)) (1) (K.dep 1 7 rfl) rfl _ (by simp [hkd])
  intro f6 w6 A hb
  replace bl0 := bl
  replace x2 := (A.old 2 rfl).trans x2
  replace x3 := (A.old 3 rfl).trans x3
  replace x4 := (A.old 4 rfl).trans x4
  replace x5 := (A.old 5 rfl).trans x5
  have x8 : f6.eval (.tmp 8) = .bool true := A.has 2 8 rfl
  have lt_m2 := Ob.lt m2
  replace m2 := Ob.below m2 hb
  have lt_m3 := Ob.lt m3
  replace m3 := Ob.below m3 hb
  have lt_m4 := Ob.lt m4
  replace m4 := Ob.below m4 hb
  replace bl := (bl.trans (Below.mono hb bl.size))
  replace sz := A.size.trans sz
  replace df := A.defs.trans df
  clear A hb
  show Code.wp _ _ _ _ _
  refine wp_cond_true x8 ?_
  refine wp_seq ?_
  -- R2
  refine wp_region_seq [.eq (.agg ((h).map V).toArray), .eq (.pointer (some ⟨g2, 2, none⟩)), .eq (.slice sA (S).length sC), .eq (.tuple #[.agg ((y).map V).toArray, .int .i64 0]), .eq (.agg ((y).map V).toArray), .eq (.int .i64 0)] (by kernel_rfl) (by kernel_rfl) (by rw [sz]; kernel_rfl) (by kernel_rfl) ⟨fun hw ac u K => ?_, fun hw ac u K => ?_, fun hw ac u K => ?_, fun hw ac u K => ?_, fun hw ac u K => ?_, fun hw ac u K => ?_, trivial⟩ ?_
  · exact st_load23 (.tmp 3) rfl (g3) (h) ((K.old 3 rfl).trans x3) hh (Ob.below m3 K.grow)
  · exact st_field 38 2 (.tmp 2) rfl ((K.old 2 rfl).trans x2) (by kernel_rfl)
  · exact st_loadc 32 (.tmp 10) rfl (by kernel_rfl) (K.dep 1 10 rfl) (Ob.cell (Ob.below m2 K.grow) 2 rfl)
  · exact st_call 22 (.func 22) _ _ #[.agg ((h).map V).toArray, .slice sA (S).length sC] rfl rfl (arg2 (K.dep 0 9 rfl) (K.dep 2 11 rfl)) Tryd.enter22 (fk_recover_ok hh hl (hK.below (bl.trans (Below.mono K.grow bl.size))) (Fk.mono _ _ _ _ vS (bl.trans (Below.mono K.grow bl.size))) ey1)
  · exact st_ext0 (.tmp 12) rfl (K.dep 3 12 rfl) rfl
  · exact st_ext1 (.tmp 12) rfl (K.dep 3 12 rfl) rfl
  intro f7 w7 A hb
  replace bl0 := bl
  replace x2 := (A.old 2 rfl).trans x2
  replace x3 := (A.old 3 rfl).trans x3
  replace x4 := (A.old 4 rfl).trans x4
  replace x5 := (A.old 5 rfl).trans x5
  replace x8 := (A.old 8 rfl).trans x8
  have x13 : f7.eval (.tmp 13) = .agg ((y).map V).toArray := A.has 4 13 rfl
  have x14 : f7.eval (.tmp 14) = .int .i64 0 := A.has 5 14 rfl
  have lt_m2 := Ob.lt m2
  replace m2 := Ob.below m2 hb
  have lt_m3 := Ob.lt m3
  replace m3 := Ob.below m3 hb
  have lt_m4 := Ob.lt m4
  replace m4 := Ob.below m4 hb
  replace bl := (bl.trans (Below.mono hb bl.size))
  replace sz := A.size.trans sz
  replace df := A.defs.trans df
  clear A hb
  refine wl_store rfl (.tmp 4) (.tmp 13) rfl rfl (g4) (y) (hz) x4 x13 m4 hz_len hy ?_
  replace m2 : Ob (w7.setRow g4 ((y).map V : List Value).toArray) (g2) 38 ([.int .i64 ((kind : Nat) : Int), .int .i64 (i), .slice sA (S).length sC, .slice pA (P).length pC]) := Ob.setRow_other m2 _ nm2_4
  replace m3 : Ob (w7.setRow g4 ((y).map V : List Value).toArray) (g3) 23 ((h).map V) := Ob.setRow_other m3 _ nm3_4
  replace m4 : Ob (w7.setRow g4 ((y).map V : List Value).toArray) (g4) 23 ((y).map V) := Ob.setRow m4 ((y).map V)
  replace bl : Below w.heap.size w (w7.setRow g4 ((y).map V : List Value).toArray) := bl.trans (below_setRow _ _ _ _ hw4)
  generalize w7.setRow g4 ((y).map V : List Value).toArray = w8b at bl m2 m3 m4 ⊢
  clear x13
  refine wl_one (.eq (.int .i64 0)) rfl 5 rfl (by rw [sz]; decide) (st_assign (.tmp 14) rfl x14) ?_
  intro f9 w9 df2 sz2 old2 new2 hb
  replace bl0 := bl
  replace x2 := (old2 2 rfl).trans x2
  replace x3 := (old2 3 rfl).trans x3
  replace x4 := (old2 4 rfl).trans x4
  clear x5
  replace x8 := (old2 8 rfl).trans x8
  replace x14 := (old2 14 rfl).trans x14
  have x5 : f9.eval (.tmp 5) = .int .i64 0 := new2
  have lt_m2 := Ob.lt m2
  replace m2 := Ob.below m2 hb
  have lt_m3 := Ob.lt m3
  replace m3 := Ob.below m3 hb
  have lt_m4 := Ob.lt m4
  replace m4 := Ob.below m4 hb
  replace bl := (bl.trans (Below.mono hb bl.size))
  replace sz := sz2.trans sz
  replace df := df2.trans df
  clear df2 sz2 old2 new2 hb
  refine wpList_nil ?_
  clear x14
  show Code.wp _ _ _ _ _
  refine wp_ret ?_
  repeat (first | with_reducible refine then_ret ?_ | with_reducible refine block_ret ?_)
  exact bodyPost_ret (v := .tuple #[.agg ((y).map V).toArray, .int .i64 0]) (ret_hash2 rfl f9 _ g4 (y) _ hy x4 m4 x5) df ⟨rfl, bl⟩
theorem recovered_ok2 {kind : Nat} (i : Int) {S P : List (List (BitVec 8))} {sA pA : Option Addr} {sC pC : Nat} {h : List (BitVec 8)} (hh : h.length = 32) (hkd : kind = 2) (hl : S.length = 512) (w : World) (vS : (Fk.hs S).f (.slice sA (S).length sC) w) (_vP : (Fk.hs P).f (.slice pA (P).length pC) w) (hK : Tab w) {y : List (BitVec 8)} (ey1 : Box (pub (all512 (rcOf h S)) = y)) :
    Calls Tryd.prog 50 #[.agg ([.int .i64 ((kind : Nat) : Int), .int .i64 (i), .slice sA (S).length sC, .slice pA (P).length pC] : List Value).toArray, .agg ((h).map V).toArray] w fun e w' => e = .returned (.tuple #[.agg ((y).map V).toArray, .int .i64 0]) ∧ Below w.heap.size w w' := by
  have hy : y.length = 32 := by rw [← ey1.out]; exact pub_len _
  go_enter Tryd.func50, Tryd.ntmps50
  refine code_both (fun f w1 => f.tmps.size = 21 ∧ f.defers = [] ∧ f.eval (.tmp 0) = .agg ([.int .i64 ((kind : Nat) : Int), .int .i64 (i), .slice sA (S).length sC, .slice pA (P).length pC] : List Value).toArray ∧ f.eval (.tmp 1) = .agg ((h).map V).toArray ∧ Below w.heap.size w (w1)) ⟨rfl, rfl, rfl, rfl, Below.refl _ _⟩ ?_
  rintro f0 w0 ⟨sz, df, x0, x1, bl⟩
  have bl0 := bl
  refine wp_seq ?_
  -- R0
  refine wp_region_seq [] (by kernel_rfl) (by kernel_rfl) (by rw [sz]; kernel_rfl) (by kernel_rfl) trivial ?_
  intro f1 w1 A hb
  replace bl0 := bl
  replace x0 := (A.old 0 rfl).trans x0
  replace x1 := (A.old 1 rfl).trans x1
  replace bl := (bl.trans (Below.mono hb bl.size))
  replace sz := A.size.trans sz
  replace df := A.defs.trans df
  clear A hb
  refine wl_one (.nw w1.heap.size 38 ([.int .i64 ((kind : Nat) : Int), .int .i64 (i), .slice sA (S).length sC, .slice pA (P).length pC] : List Value)) rfl 2 rfl (by rw [sz]; decide) (st_box 38 (.tmp 0) rfl _ _ (by rw [show _ = _ from x0]; kernel_rfl) (Nat.le_refl _)) ?_
  intro f2 w2 df2 sz2 old2 new2 hb
  replace bl0 := bl
  replace x0 := (old2 0 rfl).trans x0
  replace x1 := (old2 1 rfl).trans x1
  have x2 : Fk.f (.nw w1.heap.size 38 ([.int .i64 ((kind : Nat) : Int), .int .i64 (i), .slice sA (S).length sC, .slice pA (P).length pC] : List Value)) (f2.eval (.tmp 2)) w2 := new2
  replace bl := (bl.trans (Below.mono hb bl.size))
  replace sz := sz2.trans sz
  replace df := df2.trans df
  clear df2 sz2 old2 new2 hb
  obtain ⟨g2, hg2, e2, m2⟩ := x2
  have x2 := e2
  clear e2
  have hw2 : w.heap.size ≤ g2 := Nat.le_trans bl0.size hg2
  clear x0
  refine wl_one (.nw w2.heap.size 23 ((h).map V)) rfl 3 rfl (by rw [sz]; decide) (st_box 23 (.tmp 1) rfl _ _ (by rw [show _ = _ from x1]; kernel_rfl) (Nat.le_refl _)) ?_
  intro f3 w3 df2 sz2 old2 new2 hb
  replace bl0 := bl
  replace x1 := (old2 1 rfl).trans x1
  replace x2 := (old2 2 rfl).trans x2
  have x3 : Fk.f (.nw w2.heap.size 23 ((h).map V)) (f3.eval (.tmp 3)) w3 := new2
  have lt_m2 := Ob.lt m2
  replace m2 := Ob.below m2 hb
  replace bl := (bl.trans (Below.mono hb bl.size))
  replace sz := sz2.trans sz
  replace df := df2.trans df
  clear df2 sz2 old2 new2 hb
  obtain ⟨g3, hg3, e3, m3⟩ := x3
  have x3 := e3
  clear e3
  have nm2_3 : g2 ≠ g3 := Nat.ne_of_lt (Nat.lt_of_lt_of_le lt_m2 hg3)
  have hw3 : w.heap.size ≤ g3 := Nat.le_trans bl0.size hg3
  clear x1
  refine wl_one (.nw w3.heap.size 23 ((hz).map V)) rfl 4 rfl (by rw [sz]; decide) (st_alloc23 rfl _ (Nat.le_refl _)) ?_
  intro f4 w4 df2 sz2 old2 new2 hb
  replace bl0 := bl
  replace x2 := (old2 2 rfl).trans x2
  replace x3 := (old2 3 rfl).trans x3
  have x4 : Fk.f (.nw w3.heap.size 23 ((hz).map V)) (f4.eval (.tmp 4)) w4 := new2
  have lt_m2 := Ob.lt m2
  replace m2 := Ob.below m2 hb
  have lt_m3 := Ob.lt m3
  replace m3 := Ob.below m3 hb
  replace bl := (bl.trans (Below.mono hb bl.size))
  replace sz := sz2.trans sz
  replace df := df2.trans df
  clear df2 sz2 old2 new2 hb
  obtain ⟨g4, hg4, e4, m4⟩ := x4
  have x4 := e4
  clear e4
  have nm2_4 : g2 ≠ g4 := Nat.ne_of_lt (Nat.lt_of_lt_of_le lt_m2 hg4)
  have nm3_4 : g3 ≠ g4 := Nat.ne_of_lt (Nat.lt_of_lt_of_le lt_m3 hg4)
  have hw4 : w.heap.size ≤ g4 := Nat.le_trans bl0.size hg4
  refine wl_one (.eq (.int .i64 0)) rfl 5 rfl (by rw [sz]; decide) (st_assign (.const (.int .i64 0)) rfl rfl) ?_
  intro f5 w5 df2 sz2 old2 new2 hb
  replace bl0 := bl
  replace x2 := (old2 2 rfl).trans x2
  replace x3 := (old2 3 rfl).trans x3
  replace x4 := (old2 4 rfl).trans x4
  have x5 : f5.eval (.tmp 5) = .int .i64 0 := new2
  have lt_m2 := Ob.lt m2
  replace m2 := Ob.below m2 hb
  have lt_m3 := Ob.lt m3
  replace m3 := Ob.below m3 hb
  have lt_m4 := Ob.lt m4
  replace m4 := Ob.below m4 hb
  replace bl := (bl.trans (Below.mono hb bl.size))
  replace sz := sz2.trans sz
  replace df := df2.trans df
  clear df2 sz2 old2 new2 hb
  refine wpList_nil ?_
  show Code.wp _ _ _ _ _
  refine wp_seq ?_
  refine wp_seq ?_
  -- R1
  refine wp_all_seq [.eq (.pointer (some ⟨g2, 0, none⟩)), .eq (.int .i64 ((kind : Nat) : Int)), .eq (.bool false)] (by kernel_rfl) (by kernel_rfl) (by rw [sz]; kernel_rfl) (by kernel_rfl) ⟨fun hw ac u K => ?_, fun hw ac u K => ?_, fun hw ac u K => ?_, trivial⟩ ?_
  · exact st_field 38 0 (.tmp 2) rfl ((K.old 2 rfl).trans x2) (by kernel_rfl)
  · exact st_loadc 3 (.tmp 6) rfl (by kernel_rfl) (K.dep 0 6 rfl) (Ob.cell (Ob.below m2 K.grow) 0 rfl)
  · exact st_eqi 3 (.tmp 7) (.const (.int .i64 1)) rfl .i64 (((kind : Nat) : Int)) (1) (K.dep 1 7 rfl) rfl _ (by simp [hkd])
  intro f6 w6 A hb
  replace bl0 := bl
  replace x2 := (A.old 2 rfl).trans x2
  replace x3 := (A.old 3 rfl).trans x3
  replace x4 := (A.old 4 rfl).trans x4
  replace x5 := (A.old 5 rfl).trans x5
  have x8 : f6.eval (.tmp 8) = .bool false := A.has 2 8 rfl
  have lt_m2 := Ob.lt m2
  replace m2 := Ob.below m2 hb
  have lt_m3 := Ob.lt m3
  replace m3 := Ob.below m3 hb
  have lt_m4 := Ob.lt m4
  replace m4 := Ob.below m4 hb
  replace bl := (bl.trans (Below.mono hb bl.size))
  replace sz := A.size.trans sz
  replace df := A.defs.trans df
  clear A hb
  show Code.wp _ _ _ _ _
  refine wp_cond_false x8 ?_
  refine wp_skip ?_
  show Code.wp _ _ _ _ _
  refine wp_seq ?_
  -- R3
  refine wp_region_seq [.eq (.agg ((h).map V).toArray), .eq (.pointer (some ⟨g2, 2, none⟩)), .eq (.slice sA (S).length sC), .eq (.tuple #[.agg ((y).map V).toArray, .int .i64 0]), .eq (.agg ((y).map V).toArray), .eq (.int .i64 0)] (by kernel_rfl) (by kernel_rfl) (by rw [sz]; kernel_rfl) (by kernel_rfl) ⟨fun hw ac u K => ?_, fun hw ac u K => ?_, fun hw ac u K => ?_, fun hw ac u K => ?_, fun hw ac u K => ?_, fun hw ac u K => ?_, trivial⟩ ?_
  · exact st_load23 (.tmp 3) rfl (g3) (h) ((K.old 3 rfl).trans x3) hh (Ob.below m3 K.grow)
  · exact st_field 38 2 (.tmp 2) rfl ((K.old 2 rfl).trans x2) (by kernel_rfl)
  · exact st_loadc 32 (.tmp 16) rfl (by kernel_rfl) (K.dep 1 16 rfl) (Ob.cell (Ob.below m2 K.grow) 2 rfl)
  · exact st_call 23 (.func 23) _ _ #[.agg ((h).map V).toArray, .slice sA (S).length sC] rfl rfl (arg2 (K.dep 0 15 rfl) (K.dep 2 17 rfl)) Tryd.enter23 (fk_recover_okL hh hl (hK.below (bl.trans (Below.mono K.grow bl.size))) (Fk.mono _ _ _ _ vS (bl.trans (Below.mono K.grow bl.size))) ey1)
  · exact st_ext0 (.tmp 18) rfl (K.dep 3 18 rfl) rfl
  · exact st_ext1 (.tmp 18) rfl (K.dep 3 18 rfl) rfl
  intro f7 w7 A hb
  replace bl0 := bl
  replace x2 := (A.old 2 rfl).trans x2
  replace x3 := (A.old 3 rfl).trans x3
  replace x4 := (A.old 4 rfl).trans x4
  replace x5 := (A.old 5 rfl).trans x5
  replace x8 := (A.old 8 rfl).trans x8
  have x19 : f7.eval (.tmp 19) = .agg ((y).map V).toArray := A.has 4 19 rfl
  have x20 : f7.eval (.tmp 20) = .int .i64 0 := A.has 5 20 rfl
  have lt_m2 := Ob.lt m2
  replace m2 := Ob.below m2 hb
  have lt_m3 := Ob.lt m3
  replace m3 := Ob.below m3 hb
  have lt_m4 := Ob.lt m4
  replace m4 := Ob.below m4 hb
  replace bl := (bl.trans (Below.mono hb bl.size))
  replace sz := A.size.trans sz
  replace df := A.defs.trans df
  clear A hb
  refine wl_store rfl (.tmp 4) (.tmp 19) rfl rfl (g4) (y) (hz) x4 x19 m4 hz_len hy ?_
  replace m2 : Ob (w7.setRow g4 ((y).map V : List Value).toArray) (g2) 38 ([.int .i64 ((kind : Nat) : Int), .int .i64 (i), .slice sA (S).length sC, .slice pA (P).length pC]) := Ob.setRow_other m2 _ nm2_4
  replace m3 : Ob (w7.setRow g4 ((y).map V : List Value).toArray) (g3) 23 ((h).map V) := Ob.setRow_other m3 _ nm3_4
  replace m4 : Ob (w7.setRow g4 ((y).map V : List Value).toArray) (g4) 23 ((y).map V) := Ob.setRow m4 ((y).map V)
  replace bl : Below w.heap.size w (w7.setRow g4 ((y).map V : List Value).toArray) := bl.trans (below_setRow _ _ _ _ hw4)
  generalize w7.setRow g4 ((y).map V : List Value).toArray = w8b at bl m2 m3 m4 ⊢
  clear x19
  refine wl_one (.eq (.int .i64 0)) rfl 5 rfl (by rw [sz]; decide) (st_assign (.tmp 20) rfl x20) ?_
  intro f9 w9 df2 sz2 old2 new2 hb
  replace bl0 := bl
  replace x2 := (old2 2 rfl).trans x2
  replace x3 := (old2 3 rfl).trans x3
  replace x4 := (old2 4 rfl).trans x4
  clear x5
  replace x8 := (old2 8 rfl).trans x8
  replace x20 := (old2 20 rfl).trans x20
  have x5 : f9.eval (.tmp 5) = .int .i64 0 := new2
  have lt_m2 := Ob.lt m2
  replace m2 := Ob.below m2 hb
  have lt_m3 := Ob.lt m3
  replace m3 := Ob.below m3 hb
  have lt_m4 := Ob.lt m4
  replace m4 := Ob.below m4 hb
  replace bl := (bl.trans (Below.mono hb bl.size))
  replace sz := sz2.trans sz
  replace df := df2.trans df
  clear df2 sz2 old2 new2 hb
  refine wpList_nil ?_
  clear x20
  show Code.wp _ _ _ _ _
  refine wp_ret ?_
  repeat (first | with_reducible refine then_ret ?_ | with_reducible refine block_ret ?_)
  exact bodyPost_ret (v := .tuple #[.agg ((y).map V).toArray, .int .i64 0]) (ret_hash2 rfl f9 _ g4 (y) _ hy x4 m4 x5) df ⟨rfl, bl⟩
theorem recovered_no1 {kind : Nat} (i : Int) {S P : List (List (BitVec 8))} {sA pA : Option Addr} {sC pC : Nat} {h : List (BitVec 8)} (hh : h.length = 32) (hkd : kind = 1) (hl : S.length ≠ 67) (w : World) (vS : (Fk.hs S).f (.slice sA (S).length sC) w) (_vP : (Fk.hs P).f (.slice pA (P).length pC) w)   :
    Calls Tryd.prog 50 #[.agg ([.int .i64 ((kind : Nat) : Int), .int .i64 (i), .slice sA (S).length sC, .slice pA (P).length pC] : List Value).toArray, .agg ((h).map V).toArray] w fun e w' => e = .returned (.tuple #[.agg ((hz).map V).toArray, .int .i64 10]) ∧ Below w.heap.size w w' := by
  go_enter Tryd.func50, Tryd.ntmps50
  refine code_both (fun f w1 => f.tmps.size = 21 ∧ f.defers = [] ∧ f.eval (.tmp 0) = .agg ([.int .i64 ((kind : Nat) : Int), .int .i64 (i), .slice sA (S).length sC, .slice pA (P).length pC] : List Value).toArray ∧ f.eval (.tmp 1) = .agg ((h).map V).toArray ∧ Below w.heap.size w (w1)) ⟨rfl, rfl, rfl, rfl, Below.refl _ _⟩ ?_
  rintro f0 w0 ⟨sz, df, x0, x1, bl⟩
  have bl0 := bl
  refine wp_seq ?_
  -- R0
  refine wp_region_seq [] (by kernel_rfl) (by kernel_rfl) (by rw [sz]; kernel_rfl) (by kernel_rfl) trivial ?_
  intro f1 w1 A hb
  replace bl0 := bl
  replace x0 := (A.old 0 rfl).trans x0
  replace x1 := (A.old 1 rfl).trans x1
  replace bl := (bl.trans (Below.mono hb bl.size))
  replace sz := A.size.trans sz
  replace df := A.defs.trans df
  clear A hb
  refine wl_one (.nw w1.heap.size 38 ([.int .i64 ((kind : Nat) : Int), .int .i64 (i), .slice sA (S).length sC, .slice pA (P).length pC] : List Value)) rfl 2 rfl (by rw [sz]; decide) (st_box 38 (.tmp 0) rfl _ _ (by rw [show _ = _ from x0]; kernel_rfl) (Nat.le_refl _)) ?_
  intro f2 w2 df2 sz2 old2 new2 hb
  replace bl0 := bl
  replace x0 := (old2 0 rfl).trans x0
  replace x1 := (old2 1 rfl).trans x1
  have x2 : Fk.f (.nw w1.heap.size 38 ([.int .i64 ((kind : Nat) : Int), .int .i64 (i), .slice sA (S).length sC, .slice pA (P).length pC] : List Value)) (f2.eval (.tmp 2)) w2 := new2
  replace bl := (bl.trans (Below.mono hb bl.size))
  replace sz := sz2.trans sz
  replace df := df2.trans df
  clear df2 sz2 old2 new2 hb
  obtain ⟨g2, hg2, e2, m2⟩ := x2
  have x2 := e2
  clear e2
  have hw2 : w.heap.size ≤ g2 := Nat.le_trans bl0.size hg2
  clear x0
  refine wl_one (.nw w2.heap.size 23 ((h).map V)) rfl 3 rfl (by rw [sz]; decide) (st_box 23 (.tmp 1) rfl _ _ (by rw [show _ = _ from x1]; kernel_rfl) (Nat.le_refl _)) ?_
  intro f3 w3 df2 sz2 old2 new2 hb
  replace bl0 := bl
  replace x1 := (old2 1 rfl).trans x1
  replace x2 := (old2 2 rfl).trans x2
  have x3 : Fk.f (.nw w2.heap.size 23 ((h).map V)) (f3.eval (.tmp 3)) w3 := new2
  have lt_m2 := Ob.lt m2
  replace m2 := Ob.below m2 hb
  replace bl := (bl.trans (Below.mono hb bl.size))
  replace sz := sz2.trans sz
  replace df := df2.trans df
  clear df2 sz2 old2 new2 hb
  obtain ⟨g3, hg3, e3, m3⟩ := x3
  have x3 := e3
  clear e3
  have nm2_3 : g2 ≠ g3 := Nat.ne_of_lt (Nat.lt_of_lt_of_le lt_m2 hg3)
  have hw3 : w.heap.size ≤ g3 := Nat.le_trans bl0.size hg3
  clear x1
  refine wl_one (.nw w3.heap.size 23 ((hz).map V)) rfl 4 rfl (by rw [sz]; decide) (st_alloc23 rfl _ (Nat.le_refl _)) ?_
  intro f4 w4 df2 sz2 old2 new2 hb
  replace bl0 := bl
  replace x2 := (old2 2 rfl).trans x2
  replace x3 := (old2 3 rfl).trans x3
  have x4 : Fk.f (.nw w3.heap.size 23 ((hz).map V)) (f4.eval (.tmp 4)) w4 := new2
  have lt_m2 := Ob.lt m2
  replace m2 := Ob.below m2 hb
  have lt_m3 := Ob.lt m3
  replace m3 := Ob.below m3 hb
  replace bl := (bl.trans (Below.mono hb bl.size))
  replace sz := sz2.trans sz
  replace df := df2.trans df
  clear df2 sz2 old2 new2 hb
  obtain ⟨g4, hg4, e4, m4⟩ := x4
  have x4 := e4
  clear e4
  have nm2_4 : g2 ≠ g4 := Nat.ne_of_lt (Nat.lt_of_lt_of_le lt_m2 hg4)
  have nm3_4 : g3 ≠ g4 := Nat.ne_of_lt (Nat.lt_of_lt_of_le lt_m3 hg4)
  have hw4 : w.heap.size ≤ g4 := Nat.le_trans bl0.size hg4
  refine wl_one (.eq (.int .i64 0)) rfl 5 rfl (by rw [sz]; decide) (st_assign (.const (.int .i64 0)) rfl rfl) ?_
  intro f5 w5 df2 sz2 old2 new2 hb
  replace bl0 := bl
  replace x2 := (old2 2 rfl).trans x2
  replace x3 := (old2 3 rfl).trans x3
  replace x4 := (old2 4 rfl).trans x4
  have x5 : f5.eval (.tmp 5) = .int .i64 0 := new2
  have lt_m2 := Ob.lt m2
  replace m2 := Ob.below m2 hb
  have lt_m3 := Ob.lt m3
  replace m3 := Ob.below m3 hb
  have lt_m4 := Ob.lt m4
  replace m4 := Ob.below m4 hb
  replace bl := (bl.trans (Below.mono hb bl.size))
  replace sz := sz2.trans sz
  replace df := df2.trans df
  clear df2 sz2 old2 new2 hb
  refine wpList_nil ?_
  show Code.wp _ _ _ _ _
  refine wp_seq ?_
  refine wp_seq ?_
  -- R1
  refine wp_all_seq [.eq (.pointer (some ⟨g2, 0, none⟩)), .eq (.int .i64 ((kind : Nat) : Int)), .eq (.bool true)] (by kernel_rfl) (by kernel_rfl) (by rw [sz]; kernel_rfl) (by kernel_rfl) ⟨fun hw ac u K => ?_, fun hw ac u K => ?_, fun hw ac u K => ?_, trivial⟩ ?_
  · exact st_field 38 0 (.tmp 2) rfl ((K.old 2 rfl).trans x2) (by kernel_rfl)
  · exact st_loadc 3 (.tmp 6) rfl (by kernel_rfl) (K.dep 0 6 rfl) (Ob.cell (Ob.below m2 K.grow) 0 rfl)
  · exact st_eqi 3 (.tmp 7) (.const (.int .i64 1)) rfl .i64 (((kind : Nat) : Int)) (1) (K.dep 1 7 rfl) rfl _ (by simp [hkd])
  intro f6 w6 A hb
  replace bl0 := bl
  replace x2 := (A.old 2 rfl).trans x2
  replace x3 := (A.old 3 rfl).trans x3
  replace x4 := (A.old 4 rfl).trans x4
  replace x5 := (A.old 5 rfl).trans x5
  have x8 : f6.eval (.tmp 8) = .bool true := A.has 2 8 rfl
  have lt_m2 := Ob.lt m2
  replace m2 := Ob.below m2 hb
  have lt_m3 := Ob.lt m3
  replace m3 := Ob.below m3 hb
  have lt_m4 := Ob.lt m4
  replace m4 := Ob.below m4 hb
  replace bl := (bl.trans (Below.mono hb bl.size))
  replace sz := A.size.trans sz
  replace df := A.defs.trans df
  clear A hb
  show Code.wp _ _ _ _ _
  refine wp_cond_true x8 ?_
  refine wp_seq ?_
  -- R2
  refine wp_region_seq [.eq (.agg ((h).map V).toArray), .eq (.pointer (some ⟨g2, 2, none⟩)), .eq (.slice sA (S).length sC), .eq (.tuple #[.agg ((hz).map V).toArray, .int .i64 10]), .eq (.agg ((hz).map V).toArray), .eq (.int .i64 10)] (by kernel_rfl) (by kernel_rfl) (by rw [sz]; kernel_rfl) (by kernel_rfl) ⟨fun hw ac u K => ?_, fun hw ac u K => ?_, fun hw ac u K => ?_, fun hw ac u K => ?_, fun hw ac u K => ?_, fun hw ac u K => ?_, trivial⟩ ?_
  · exact st_load23 (.tmp 3) rfl (g3) (h) ((K.old 3 rfl).trans x3) hh (Ob.below m3 K.grow)
  · exact st_field 38 2 (.tmp 2) rfl ((K.old 2 rfl).trans x2) (by kernel_rfl)
  · exact st_loadc 32 (.tmp 10) rfl (by kernel_rfl) (K.dep 1 10 rfl) (Ob.cell (Ob.below m2 K.grow) 2 rfl)
  · exact st_call 22 (.func 22) _ _ #[.agg ((h).map V).toArray, .slice sA (S).length sC] rfl rfl (arg2 (K.dep 0 9 rfl) (K.dep 2 11 rfl)) Tryd.enter22 (fk_recover_no hl (Fk.mono _ _ _ _ vS (bl.trans (Below.mono K.grow bl.size))))
  · exact st_ext0 (.tmp 12) rfl (K.dep 3 12 rfl) rfl
  · exact st_ext1 (.tmp 12) rfl (K.dep 3 12 rfl) rfl
  intro f7 w7 A hb
  replace bl0 := bl
  replace x2 := (A.old 2 rfl).trans x2
  replace x3 := (A.old 3 rfl).trans x3
  replace x4 := (A.old 4 rfl).trans x4
  replace x5 := (A.old 5 rfl).trans x5
  replace x8 := (A.old 8 rfl).trans x8
  have x13 : f7.eval (.tmp 13) = .agg ((hz).map V).toArray := A.has 4 13 rfl
  have x14 : f7.eval (.tmp 14) = .int .i64 10 := A.has 5 14 rfl
  have lt_m2 := Ob.lt m2
  replace m2 := Ob.below m2 hb
  have lt_m3 := Ob.lt m3
  replace m3 := Ob.below m3 hb
  have lt_m4 := Ob.lt m4
  replace m4 := Ob.below m4 hb
  replace bl := (bl.trans (Below.mono hb bl.size))
  replace sz := A.size.trans sz
  replace df := A.defs.trans df
  clear A hb
  refine wl_store rfl (.tmp 4) (.tmp 13) rfl rfl (g4) (hz) (hz) x4 x13 m4 hz_len hz_len ?_
  replace m2 : Ob (w7.setRow g4 ((hz).map V : List Value).toArray) (g2) 38 ([.int .i64 ((kind : Nat) : Int), .int .i64 (i), .slice sA (S).length sC, .slice pA (P).length pC]) := Ob.setRow_other m2 _ nm2_4
  replace m3 : Ob (w7.setRow g4 ((hz).map V : List Value).toArray) (g3) 23 ((h).map V) := Ob.setRow_other m3 _ nm3_4
  replace m4 : Ob (w7.setRow g4 ((hz).map V : List Value).toArray) (g4) 23 ((hz).map V) := Ob.setRow m4 ((hz).map V)
  replace bl : Below w.heap.size w (w7.setRow g4 ((hz).map V : List Value).toArray) := bl.trans (below_setRow _ _ _ _ hw4)
  generalize w7.setRow g4 ((hz).map V : List Value).toArray = w8b at bl m2 m3 m4 ⊢
  clear x13
  refine wl_one (.eq (.int .i64 10)) rfl 5 rfl (by rw [sz]; decide) (st_assign (.tmp 14) rfl x14) ?_
  intro f9 w9 df2 sz2 old2 new2 hb
  replace bl0 := bl
  replace x2 := (old2 2 rfl).trans x2
  replace x3 := (old2 3 rfl).trans x3
  replace x4 := (old2 4 rfl).trans x4
  clear x5
  replace x8 := (old2 8 rfl).trans x8
  replace x14 := (old2 14 rfl).trans x14
  have x5 : f9.eval (.tmp 5) = .int .i64 10 := new2
  have lt_m2 := Ob.lt m2
  replace m2 := Ob.below m2 hb
  have lt_m3 := Ob.lt m3
  replace m3 := Ob.below m3 hb
  have lt_m4 := Ob.lt m4
  replace m4 := Ob.below m4 hb
  replace bl := (bl.trans (Below.mono hb bl.size))
  replace sz := sz2.trans sz
  replace df := df2.trans df
  clear df2 sz2 old2 new2 hb
  refine wpList_nil ?_
  clear x14
  show Code.wp _ _ _ _ _
  refine wp_ret ?_
  repeat (first | with_reducible refine then_ret ?_ | with_reducible refine block_ret ?_)
  exact bodyPost_ret (v := .tuple #[.agg ((hz).map V).toArray, .int .i64 10]) (ret_hash2 rfl f9 _ g4 (hz) _ hz_len x4 m4 x5) df ⟨rfl, bl⟩
theorem recovered_no2 {kind : Nat} (i : Int) {S P : List (List (BitVec 8))} {sA pA : Option Addr} {sC pC : Nat} {h : List (BitVec 8)} (hh : h.length = 32) (hkd : kind = 2) (hl : S.length ≠ 512) (w : World) (vS : (Fk.hs S).f (.slice sA (S).length sC) w) (_vP : (Fk.hs P).f (.slice pA (P).length pC) w)   :
    Calls Tryd.prog 50 #[.agg ([.int .i64 ((kind : Nat) : Int), .int .i64 (i), .slice sA (S).length sC, .slice pA (P).length pC] : List Value).toArray, .agg ((h).map V).toArray] w fun e w' => e = .returned (.tuple #[.agg ((hz).map V).toArray, .int .i64 10]) ∧ Below w.heap.size w w' := by
  go_enter Tryd.func50, Tryd.ntmps50
  refine code_both (fun f w1 => f.tmps.size = 21 ∧ f.defers = [] ∧ f.eval (.tmp 0) = .agg ([.int .i64 ((kind : Nat) : Int), .int .i64 (i), .slice sA (S).length sC, .slice pA (P).length pC] : List Value).toArray ∧ f.eval (.tmp 1) = .agg ((h).map V).toArray ∧ Below w.heap.size w (w1)) ⟨rfl, rfl, rfl, rfl, Below.refl _ _⟩ ?_
  rintro f0 w0 ⟨sz, df, x0, x1, bl⟩
  have bl0 := bl
  refine wp_seq ?_
  -- R0
  refine wp_region_seq [] (by kernel_rfl) (by kernel_rfl) (by rw [sz]; kernel_rfl) (by kernel_rfl) trivial ?_
  intro f1 w1 A hb
  replace bl0 := bl
  replace x0 := (A.old 0 rfl).trans x0
  replace x1 := (A.old 1 rfl).trans x1
  replace bl := (bl.trans (Below.mono hb bl.size))
  replace sz := A.size.trans sz
  replace df := A.defs.trans df
  clear A hb
  refine wl_one (.nw w1.heap.size 38 ([.int .i64 ((kind : Nat) : Int), .int .i64 (i), .slice sA (S).length sC, .slice pA (P).length pC] : List Value)) rfl 2 rfl (by rw [sz]; decide) (st_box 38 (.tmp 0) rfl _ _ (by rw [show _ = _ from x0]; kernel_rfl) (Nat.le_refl _)) ?_
  intro f2 w2 df2 sz2 old2 new2 hb
  replace bl0 := bl
  replace x0 := (old2 0 rfl).trans x0
  replace x1 := (old2 1 rfl).trans x1
  have x2 : Fk.f (.nw w1.heap.size 38 ([.int .i64 ((kind : Nat) : Int), .int .i64 (i), .slice sA (S).length sC, .slice pA (P).length pC] : List Value)) (f2.eval (.tmp 2)) w2 := new2
  replace bl := (bl.trans (Below.mono hb bl.size))
  replace sz := sz2.trans sz
  replace df := df2.trans df
  clear df2 sz2 old2 new2 hb
  obtain ⟨g2, hg2, e2, m2⟩ := x2
  have x2 := e2
  clear e2
  have hw2 : w.heap.size ≤ g2 := Nat.le_trans bl0.size hg2
  clear x0
  refine wl_one (.nw w2.heap.size 23 ((h).map V)) rfl 3 rfl (by rw [sz]; decide) (st_box 23 (.tmp 1) rfl _ _ (by rw [show _ = _ from x1]; kernel_rfl) (Nat.le_refl _)) ?_
  intro f3 w3 df2 sz2 old2 new2 hb
  replace bl0 := bl
  replace x1 := (old2 1 rfl).trans x1
  replace x2 := (old2 2 rfl).trans x2
  have x3 : Fk.f (.nw w2.heap.size 23 ((h).map V)) (f3.eval (.tmp 3)) w3 := new2
  have lt_m2 := Ob.lt m2
  replace m2 := Ob.below m2 hb
  replace bl := (bl.trans (Below.mono hb bl.size))
  replace sz := sz2.trans sz
  replace df := df2.trans df
  clear df2 sz2 old2 new2 hb
  obtain ⟨g3, hg3, e3, m3⟩ := x3
  have x3 := e3
  clear e3
  have nm2_3 : g2 ≠ g3 := Nat.ne_of_lt (Nat.lt_of_lt_of_le lt_m2 hg3)
  have hw3 : w.heap.size ≤ g3 := Nat.le_trans bl0.size hg3
  clear x1
  refine wl_one (.nw w3.heap.size 23 ((hz).map V)) rfl 4 rfl (by rw [sz]; decide) (st_alloc23 rfl _ (Nat.le_refl _)) ?_
  intro f4 w4 df2 sz2 old2 new2 hb
  replace bl0 := bl
  replace x2 := (old2 2 rfl).trans x2
  replace x3 := (old2 3 rfl).trans x3
  have x4 : Fk.f (.nw w3.heap.size 23 ((hz).map V)) (f4.eval (.tmp 4)) w4 := new2
  have lt_m2 := Ob.lt m2
  replace m2 := Ob.below m2 hb
  have lt_m3 := Ob.lt m3
  replace m3 := Ob.below m3 hb
  replace bl := (bl.trans (Below.mono hb bl.size))
  replace sz := sz2.trans sz
  replace df := df2.trans df
  clear df2 sz2 old2 new2 hb
  obtain ⟨g4, hg4, e4, m4⟩ := x4
  have x4 := e4
  clear e4
  have nm2_4 : g2 ≠ g4 := Nat.ne_of_lt (Nat.lt_of_lt_of_le lt_m2 hg4)
  have nm3_4 : g3 ≠ g4 := Nat.ne_of_lt (Nat.lt_of_lt_of_le lt_m3 hg4)
  have hw4 : w.heap.size ≤ g4 := Nat.le_trans bl0.size hg4
  refine wl_one (.eq (.int .i64 0)) rfl 5 rfl (by rw [sz]; decide) (st_assign (.const (.int .i64 0)) rfl rfl) ?_
  intro f5 w5 df2 sz2 old2 new2 hb
  replace bl0 := bl
  replace x2 := (old2 2 rfl).trans x2
  replace x3 := (old2 3 rfl).trans x3
  replace x4 := (old2 4 rfl).trans x4
  have x5 : f5.eval (.tmp 5) = .int .i64 0 := new2
  have lt_m2 := Ob.lt m2
  replace m2 := Ob.below m2 hb
  have lt_m3 := Ob.lt m3
  replace m3 := Ob.below m3 hb
  have lt_m4 := Ob.lt m4
  replace m4 := Ob.below m4 hb
  replace bl := (bl.trans (Below.mono hb bl.size))
  replace sz := sz2.trans sz
  replace df := df2.trans df
  clear df2 sz2 old2 new2 hb
  refine wpList_nil ?_
  show Code.wp _ _ _ _ _
  refine wp_seq ?_
  refine wp_seq ?_
  -- R1
  refine wp_all_seq [.eq (.pointer (some ⟨g2, 0, none⟩)), .eq (.int .i64 ((kind : Nat) : Int)), .eq (.bool false)] (by kernel_rfl) (by kernel_rfl) (by rw [sz]; kernel_rfl) (by kernel_rfl) ⟨fun hw ac u K => ?_, fun hw ac u K => ?_, fun hw ac u K => ?_, trivial⟩ ?_
  · exact st_field 38 0 (.tmp 2) rfl ((K.old 2 rfl).trans x2) (by kernel_rfl)
  · exact st_loadc 3 (.tmp 6) rfl (by kernel_rfl) (K.dep 0 6 rfl) (Ob.cell (Ob.below m2 K.grow) 0 rfl)
  · exact st_eqi 3 (.tmp 7) (.const (.int .i64 1)) rfl .i64 (((kind : Nat) : Int)) (1) (K.dep 1 7 rfl) rfl _ (by simp [hkd])
  intro f6 w6 A hb
  replace bl0 := bl
  replace x2 := (A.old 2 rfl).trans x2
  replace x3 := (A.old 3 rfl).trans x3
  replace x4 := (A.old 4 rfl).trans x4
  replace x5 := (A.old 5 rfl).trans x5
  have x8 : f6.eval (.tmp 8) = .bool false := A.has 2 8 rfl
  have lt_m2 := Ob.lt m2
  replace m2 := Ob.below m2 hb
  have lt_m3 := Ob.lt m3
  replace m3 := Ob.below m3 hb
  have lt_m4 := Ob.lt m4
  replace m4 := Ob.below m4 hb
  replace bl := (bl.trans (Below.mono hb bl.size))
  replace sz := A.size.trans sz
  replace df := A.defs.trans df
  clear A hb
  show Code.wp _ _ _ _ _
  refine wp_cond_false x8 ?_
  refine wp_skip ?_
  show Code.wp _ _ _ _ _
  refine wp_seq ?_
  -- R3
  refine wp_region_seq [.eq (.agg ((h).map V).toArray), .eq (.pointer (some ⟨g2, 2, none⟩)), .eq (.slice sA (S).length sC), .eq (.tuple #[.agg ((hz).map V).toArray, .int .i64 10]), .eq (.agg ((hz).map V).toArray), .eq (.int .i64 10)] (by kernel_rfl) (by kernel_rfl) (by rw [sz]; kernel_rfl) (by kernel_rfl) ⟨fun hw ac u K => ?_, fun hw ac u K => ?_, fun hw ac u K => ?_, fun hw ac u K => ?_, fun hw ac u K => ?_, fun hw ac u K => ?_, trivial⟩ ?_
  · exact st_load23 (.tmp 3) rfl (g3) (h) ((K.old 3 rfl).trans x3) hh (Ob.below m3 K.grow)
  · exact st_field 38 2 (.tmp 2) rfl ((K.old 2 rfl).trans x2) (by kernel_rfl)
  · exact st_loadc 32 (.tmp 16) rfl (by kernel_rfl) (K.dep 1 16 rfl) (Ob.cell (Ob.below m2 K.grow) 2 rfl)
  · exact st_call 23 (.func 23) _ _ #[.agg ((h).map V).toArray, .slice sA (S).length sC] rfl rfl (arg2 (K.dep 0 15 rfl) (K.dep 2 17 rfl)) Tryd.enter23 (fk_recover_noL hl (Fk.mono _ _ _ _ vS (bl.trans (Below.mono K.grow bl.size))))
  · exact st_ext0 (.tmp 18) rfl (K.dep 3 18 rfl) rfl
  · exact st_ext1 (.tmp 18) rfl (K.dep 3 18 rfl) rfl
  intro f7 w7 A hb
  replace bl0 := bl
  replace x2 := (A.old 2 rfl).trans x2
  replace x3 := (A.old 3 rfl).trans x3
  replace x4 := (A.old 4 rfl).trans x4
  replace x5 := (A.old 5 rfl).trans x5
  replace x8 := (A.old 8 rfl).trans x8
  have x19 : f7.eval (.tmp 19) = .agg ((hz).map V).toArray := A.has 4 19 rfl
  have x20 : f7.eval (.tmp 20) = .int .i64 10 := A.has 5 20 rfl
  have lt_m2 := Ob.lt m2
  replace m2 := Ob.below m2 hb
  have lt_m3 := Ob.lt m3
  replace m3 := Ob.below m3 hb
  have lt_m4 := Ob.lt m4
  replace m4 := Ob.below m4 hb
  replace bl := (bl.trans (Below.mono hb bl.size))
  replace sz := A.size.trans sz
  replace df := A.defs.trans df
  clear A hb
  refine wl_store rfl (.tmp 4) (.tmp 19) rfl rfl (g4) (hz) (hz) x4 x19 m4 hz_len hz_len ?_
  replace m2 : Ob (w7.setRow g4 ((hz).map V : List Value).toArray) (g2) 38 ([.int .i64 ((kind : Nat) : Int), .int .i64 (i), .slice sA (S).length sC, .slice pA (P).length pC]) := Ob.setRow_other m2 _ nm2_4
  replace m3 : Ob (w7.setRow g4 ((hz).map V : List Value).toArray) (g3) 23 ((h).map V) := Ob.setRow_other m3 _ nm3_4
  replace m4 : Ob (w7.setRow g4 ((hz).map V : List Value).toArray) (g4) 23 ((hz).map V) := Ob.setRow m4 ((hz).map V)
  replace bl : Below w.heap.size w (w7.setRow g4 ((hz).map V : List Value).toArray) := bl.trans (below_setRow _ _ _ _ hw4)
  generalize w7.setRow g4 ((hz).map V : List Value).toArray = w8b at bl m2 m3 m4 ⊢
  clear x19
  refine wl_one (.eq (.int .i64 10)) rfl 5 rfl (by rw [sz]; decide) (st_assign (.tmp 20) rfl x20) ?_
  intro f9 w9 df2 sz2 old2 new2 hb
  replace bl0 := bl
  replace x2 := (old2 2 rfl).trans x2
  replace x3 := (old2 3 rfl).trans x3
  replace x4 := (old2 4 rfl).trans x4
  clear x5
  replace x8 := (old2 8 rfl).trans x8
  replace x20 := (old2 20 rfl).trans x20
  have x5 : f9.eval (.tmp 5) = .int .i64 10 := new2
  have lt_m2 := Ob.lt m2
  replace m2 := Ob.below m2 hb
  have lt_m3 := Ob.lt m3
  replace m3 := Ob.below m3 hb
  have lt_m4 := Ob.lt m4
  replace m4 := Ob.below m4 hb
  replace bl := (bl.trans (Below.mono hb bl.size))
  replace sz := sz2.trans sz
  replace df := df2.trans df
  clear df2 sz2 old2 new2 hb
  refine wpList_nil ?_
  clear x20
  show Code.wp _ _ _ _ _
  refine wp_ret ?_
  repeat (first | with_reducible refine then_ret ?_ | with_reducible refine block_ret ?_)
  exact bodyPost_ret (v := .tuple #[.agg ((hz).map V).toArray, .int .i64 10]) (ret_hash2 rfl f9 _ g4 (hz) _ hz_len x4 m4 x5) df ⟨rfl, bl⟩
theorem recovered_ok {kind : Nat} (h1 : 1 ≤ kind) (h2 : kind ≤ 2) (i : Int) {S P : List (List (BitVec 8))} {sA pA : Option Addr} {sC pC : Nat} {h : List (BitVec 8)} (hh : h.length = 32) (hl : S.length = npt kind) (w : World) (vS : (Fk.hs S).f (.slice sA (S).length sC) w) (_vP : (Fk.hs P).f (.slice pA (P).length pC) w) (hK : Tab w) {y : List (BitVec 8)} (ey : Box (rcv kind h S = y)) :
    Calls Tryd.prog 50 #[.agg ([.int .i64 ((kind : Nat) : Int), .int .i64 (i), .slice sA (S).length sC, .slice pA (P).length pC] : List Value).toArray, .agg ((h).map V).toArray] w fun e w' => e = .returned (.tuple #[.agg ((y).map V).toArray, .int .i64 0]) ∧ Below w.heap.size w w' := by
  rcases (show kind = 1 ∨ kind = 2 by omega) with hkd | hkd
  · exact recovered_ok1 i hh hkd (by rw [hl, hkd]; rfl) w vS _vP hK ⟨by rw [← ey.out]; unfold rcv; rw [if_pos hkd]⟩
  · exact recovered_ok2 i hh hkd (by rw [hl, hkd]; rfl) w vS _vP hK ⟨by rw [← ey.out]; unfold rcv; rw [if_neg (by omega)]⟩
theorem recovered_no {kind : Nat} (h1 : 1 ≤ kind) (h2 : kind ≤ 2) (i : Int) {S P : List (List (BitVec 8))} {sA pA : Option Addr} {sC pC : Nat} {h : List (BitVec 8)} (hh : h.length = 32) (hl : S.length ≠ npt kind) (w : World) (vS : (Fk.hs S).f (.slice sA (S).length sC) w) (_vP : (Fk.hs P).f (.slice pA (P).length pC) w) :
    Calls Tryd.prog 50 #[.agg ([.int .i64 ((kind : Nat) : Int), .int .i64 (i), .slice sA (S).length sC, .slice pA (P).length pC] : List Value).toArray, .agg ((h).map V).toArray] w fun e w' => e = .returned (.tuple #[.agg ((hz).map V).toArray, .int .i64 10]) ∧ Below w.heap.size w w' := by
  rcases (show kind = 1 ∨ kind = 2 by omega) with hkd | hkd
  · exact recovered_no1 i hh hkd (by rw [hkd] at hl; exact hl) w vS _vP
  · exact recovered_no2 i hh hkd (by rw [hkd] at hl; exact hl) w vS _vP
theorem hs_len {P : List (List (BitVec 8))} {v : Value} {w : World} (h : (Fk.hs P).f v w) {k : Nat} {p : List (BitVec 8)} (hk : P[k]? = some p) : p.length = 32 := by
  obtain ⟨A, C, lb, lo, e, hl⟩ := h
  exact (hl.all k p hk).1
theorem ledUp_any (k0 : Int) (i : Nat) (hi : i ≤ 1000000) {S P : List (List (BitVec 8))} {sA pA : Option Addr} {sC pC : Nat} {x : List (BitVec 8)} (hx : x.length = 32) (hPl : P.length ≤ 60) (w : World) (_vS : (Fk.hs S).f (.slice sA (S).length sC) w) (vP : (Fk.hs P).f (.slice pA (P).length pC) w) (hK : Tab w) {y : List (BitVec 8)} (ey : Box (up i P x P.length = y)) :
    Calls Tryd.prog 51 #[.agg ([.int .i64 (k0), .int .i64 ((i : Nat) : Int), .slice sA (S).length sC, .slice pA (P).length pC] : List Value).toArray, .agg ((x).map V).toArray] w fun e w' => e = .returned (.agg ((y).map V).toArray) ∧ Below w.heap.size w w' := by
  go_enter Tryd.func51, Tryd.ntmps51
  refine code_both (fun f w1 => f.tmps.size = 31 ∧ f.defers = [] ∧ f.eval (.tmp 0) = .agg ([.int .i64 (k0), .int .i64 ((i : Nat) : Int), .slice sA (S).length sC, .slice pA (P).length pC] : List Value).toArray ∧ f.eval (.tmp 1) = .agg ((x).map V).toArray ∧ Below w.heap.size w (w1)) ⟨rfl, rfl, rfl, rfl, Below.refl _ _⟩ ?_
  rintro f0 w0 ⟨sz, df, x0, x1, bl⟩
  have bl0 := bl
  refine wp_seq ?_
  -- R0
  refine wp_region_seq [] (by kernel_rfl) (by kernel_rfl) (by rw [sz]; kernel_rfl) (by kernel_rfl) trivial ?_
  intro f1 w1 A hb
  replace bl0 := bl
  replace x0 := (A.old 0 rfl).trans x0
  replace x1 := (A.old 1 rfl).trans x1
  replace bl := (bl.trans (Below.mono hb bl.size))
  replace sz := A.size.trans sz
  replace df := A.defs.trans df
  clear A hb
  refine wl_one (.nw w1.heap.size 38 ([.int .i64 (k0), .int .i64 ((i : Nat) : Int), .slice sA (S).length sC, .slice pA (P).length pC] : List Value)) rfl 2 rfl (by rw [sz]; decide) (st_box 38 (.tmp 0) rfl _ _ (by rw [show _ = _ from x0]; kernel_rfl) (Nat.le_refl _)) ?_
  intro f2 w2 df2 sz2 old2 new2 hb
  replace bl0 := bl
  replace x0 := (old2 0 rfl).trans x0
  replace x1 := (old2 1 rfl).trans x1
  have x2 : Fk.f (.nw w1.heap.size 38 ([.int .i64 (k0), .int .i64 ((i : Nat) : Int), .slice sA (S).length sC, .slice pA (P).length pC] : List Value)) (f2.eval (.tmp 2)) w2 := new2
  replace bl := (bl.trans (Below.mono hb bl.size))
  replace sz := sz2.trans sz
  replace df := df2.trans df
  clear df2 sz2 old2 new2 hb
  obtain ⟨g2, hg2, e2, m2⟩ := x2
  have x2 := e2
  clear e2
  have hw2 : w.heap.size ≤ g2 := Nat.le_trans bl0.size hg2
  clear x0
  refine wl_one (.nw w2.heap.size 23 ((x).map V)) rfl 3 rfl (by rw [sz]; decide) (st_box 23 (.tmp 1) rfl _ _ (by rw [show _ = _ from x1]; kernel_rfl) (Nat.le_refl _)) ?_
  intro f3 w3 df2 sz2 old2 new2 hb
  replace bl0 := bl
  replace x1 := (old2 1 rfl).trans x1
  replace x2 := (old2 2 rfl).trans x2
  have x3 : Fk.f (.nw w2.heap.size 23 ((x).map V)) (f3.eval (.tmp 3)) w3 := new2
  have lt_m2 := Ob.lt m2
  replace m2 := Ob.below m2 hb
  replace bl := (bl.trans (Below.mono hb bl.size))
  replace sz := sz2.trans sz
  replace df := df2.trans df
  clear df2 sz2 old2 new2 hb
  obtain ⟨g3, hg3, e3, m3⟩ := x3
  have x3 := e3
  clear e3
  have nm2_3 : g2 ≠ g3 := Nat.ne_of_lt (Nat.lt_of_lt_of_le lt_m2 hg3)
  have hw3 : w.heap.size ≤ g3 := Nat.le_trans bl0.size hg3
  clear x1
  refine wl_one (.nw w3.heap.size 23 ((hz).map V)) rfl 4 rfl (by rw [sz]; decide) (st_alloc23 rfl _ (Nat.le_refl _)) ?_
  intro f4 w4 df2 sz2 old2 new2 hb
  replace bl0 := bl
  replace x2 := (old2 2 rfl).trans x2
  replace x3 := (old2 3 rfl).trans x3
  have x4 : Fk.f (.nw w3.heap.size 23 ((hz).map V)) (f4.eval (.tmp 4)) w4 := new2
  have lt_m2 := Ob.lt m2
  replace m2 := Ob.below m2 hb
  have lt_m3 := Ob.lt m3
  replace m3 := Ob.below m3 hb
  replace bl := (bl.trans (Below.mono hb bl.size))
  replace sz := sz2.trans sz
  replace df := df2.trans df
  clear df2 sz2 old2 new2 hb
  obtain ⟨g4, hg4, e4, m4⟩ := x4
  have x4 := e4
  clear e4
  have nm2_4 : g2 ≠ g4 := Nat.ne_of_lt (Nat.lt_of_lt_of_le lt_m2 hg4)
  have nm3_4 : g3 ≠ g4 := Nat.ne_of_lt (Nat.lt_of_lt_of_le lt_m3 hg4)
  have hw4 : w.heap.size ≤ g4 := Nat.le_trans bl0.size hg4
  refine wpList_nil ?_
  show Code.wp _ _ _ _ _
  refine wp_seq ?_
  -- R1
  refine wp_region_seq [.eq (.agg ((x).map V).toArray), .nw w4.heap.size 23 ((hz).map V)] (by kernel_rfl) (by kernel_rfl) (by rw [sz]; kernel_rfl) (by kernel_rfl) ⟨fun hw ac u K => ?_, fun hw ac u K => ?_, trivial⟩ ?_
  · exact st_load23 (.tmp 3) rfl (g3) (x) ((K.old 3 rfl).trans x3) hx (Ob.below m3 K.grow)
  · exact st_alloc23 rfl _ K.grow.size
  intro f5 w5 A hb
  replace bl0 := bl
  replace x2 := (A.old 2 rfl).trans x2
  replace x3 := (A.old 3 rfl).trans x3
  replace x4 := (A.old 4 rfl).trans x4
  have x5 : Fk.f (.nw w4.heap.size 23 ((hz).map V)) (f5.eval (.tmp 5)) w5 := A.has 1 5 rfl
  have x8 : f5.eval (.tmp 8) = .agg ((x).map V).toArray := A.has 0 8 rfl
  have lt_m2 := Ob.lt m2
  replace m2 := Ob.below m2 hb
  have lt_m3 := Ob.lt m3
  replace m3 := Ob.below m3 hb
  have lt_m4 := Ob.lt m4
  replace m4 := Ob.below m4 hb
  replace bl := (bl.trans (Below.mono hb bl.size))
  replace sz := A.size.trans sz
  replace df := A.defs.trans df
  clear A hb
  clear x3
  obtain ⟨g5, hg5, e5, m5⟩ := x5
  have x5 := e5
  clear e5
  have nm2_5 : g2 ≠ g5 := Nat.ne_of_lt (Nat.lt_of_lt_of_le lt_m2 hg5)
  have nm3_5 : g3 ≠ g5 := Nat.ne_of_lt (Nat.lt_of_lt_of_le lt_m3 hg5)
  have nm4_5 : g4 ≠ g5 := Nat.ne_of_lt (Nat.lt_of_lt_of_le lt_m4 hg5)
  have hw5 : w.heap.size ≤ g5 := Nat.le_trans bl0.size hg5
  refine wl_store rfl (.tmp 5) (.tmp 8) rfl rfl (g5) (x) (hz) x5 x8 m5 hz_len hx ?_
  replace m2 : Ob (w5.setRow g5 ((x).map V : List Value).toArray) (g2) 38 ([.int .i64 (k0), .int .i64 ((i : Nat) : Int), .slice sA (S).length sC, .slice pA (P).length pC]) := Ob.setRow_other m2 _ nm2_5
  replace m3 : Ob (w5.setRow g5 ((x).map V : List Value).toArray) (g3) 23 ((x).map V) := Ob.setRow_other m3 _ nm3_5
  replace m4 : Ob (w5.setRow g5 ((x).map V : List Value).toArray) (g4) 23 ((hz).map V) := Ob.setRow_other m4 _ nm4_5
  replace m5 : Ob (w5.setRow g5 ((x).map V : List Value).toArray) (g5) 23 ((x).map V) := Ob.setRow m5 ((x).map V)
  replace bl : Below w.heap.size w (w5.setRow g5 ((x).map V : List Value).toArray) := bl.trans (below_setRow _ _ _ _ hw5)
  generalize w5.setRow g5 ((x).map V : List Value).toArray = w6b at bl m2 m3 m4 m5 ⊢
  refine wpList_nil ?_
  clear x8
  show Code.wp _ _ _ _ _
  refine wp_seq ?_
  refine wp_seq ?_
  -- R2
  refine wp_all_seq [.eq (.pointer (some ⟨g2, 3, none⟩)), .eq (.slice pA (P).length pC), .eq (.int .i64 (((P).length : Nat) : Int)), .eq (.int .i64 0)] (by kernel_rfl) (by kernel_rfl) (by rw [sz]; kernel_rfl) (by kernel_rfl) ⟨fun hw ac u K => ?_, fun hw ac u K => ?_, fun hw ac u K => ?_, fun hw ac u K => ?_, trivial⟩ ?_
  · exact st_field 38 3 (.tmp 2) rfl ((K.old 2 rfl).trans x2) (by kernel_rfl)
  · exact st_loadc 32 (.tmp 9) rfl (by kernel_rfl) (K.dep 0 9 rfl) (Ob.cell (Ob.below m2 K.grow) 3 rfl)
  · exact st_lenh (.tmp 10) rfl (fk_val (K.dep 1 10 rfl) (Fk.mono _ _ _ _ vP (bl.trans (Below.mono K.grow bl.size))))
  · exact st_move (.const (.int .i64 0)) rfl rfl
  intro f7 w7 A hb
  replace bl0 := bl
  replace x2 := (A.old 2 rfl).trans x2
  replace x4 := (A.old 4 rfl).trans x4
  replace x5 := (A.old 5 rfl).trans x5
  have x10 : f7.eval (.tmp 10) = .slice pA (P).length pC := A.has 1 10 rfl
  have x11 : f7.eval (.tmp 11) = .int .i64 (((P).length : Nat) : Int) := A.has 2 11 rfl
  have x12 : f7.eval (.tmp 12) = .int .i64 0 := A.has 3 12 rfl
  have lt_m2 := Ob.lt m2
  replace m2 := Ob.below m2 hb
  have lt_m3 := Ob.lt m3
  replace m3 := Ob.below m3 hb
  have lt_m4 := Ob.lt m4
  replace m4 := Ob.below m4 hb
  have lt_m5 := Ob.lt m5
  replace m5 := Ob.below m5 hb
  replace bl := (bl.trans (Below.mono hb bl.size))
  replace sz := A.size.trans sz
  replace df := A.defs.trans df
  clear A hb
  show Code.wp _ _ _ _ _
  refine wp_block ?_
  refine wp_loop (fun f v1 => ∃ k : Nat, k ≤ P.length ∧ f.tmps.size = 31 ∧ f.defers = [] ∧ f.eval (.tmp 2) = .pointer (some ⟨g2, 0, none⟩) ∧ f.eval (.tmp 4) = .pointer (some ⟨g4, 0, none⟩) ∧ f.eval (.tmp 5) = .pointer (some ⟨g5, 0, none⟩) ∧ f.eval (.tmp 10) = .slice pA (P).length pC ∧ f.eval (.tmp 11) = .int .i64 (((P).length : Nat) : Int) ∧ f.eval (.tmp 12) = .int .i64 ((k : Nat) : Int) ∧ Ob v1 (g2) 38 ([.int .i64 (k0), .int .i64 ((i : Nat) : Int), .slice sA (S).length sC, .slice pA (P).length pC]) ∧ Ob v1 (g3) 23 ((x).map V) ∧ Ob v1 (g4) 23 ((hz).map V) ∧ Ob v1 (g5) 23 ((up i P x k).map V) ∧ Below w.heap.size w (v1)) (fun f _ => P.length - (intOf (f.eval (.tmp 12))).toNat) ⟨0, Nat.zero_le _, sz, df, x2, x4, x5, x10, x11, x12, m2, m3, m4, m5, bl⟩ ?_
  intro f8 w8 hI
  clear sz df bl bl0 x2 x4 x5 x10 x11 x12 m2 m3 m4 m5
  obtain ⟨k, hkP, sz, df, x2, x4, x5, x10, x11, x12, m2, m3, m4, m5, bl⟩ := hI
  have bl0 := bl
  have hcnt := x12
  obtain ⟨z, ez⟩ : ∃ z, Box (up i P x k = z) := ⟨_, ⟨rfl⟩⟩
  have hz1 : z.length = 32 := by rw [← ez.out]; exact up_len _ _ _ hx _
  rw [ez.out] at m5
  refine wp_seq ?_
  by_cases hlt : k < P.length
  rotate_left
  · skip
    -- R3
    refine wp_all_seq [.eq (.bool false)] (by kernel_rfl) (by kernel_rfl) (by rw [sz]; kernel_rfl) (by kernel_rfl) ⟨fun hw ac u K => ?_, trivial⟩ ?_
    · exact st_lss 3 (.tmp 12) (.tmp 11) rfl .i64 (((k : Nat) : Int)) ((((P).length : Nat) : Int)) ((K.old 12 rfl).trans x12) ((K.old 11 rfl).trans x11) _ (by first | (simp; done) | (simp; omega))
    intro f9 w9 A hb
    replace bl0 := bl
    replace x2 := (A.old 2 rfl).trans x2
    replace x4 := (A.old 4 rfl).trans x4
    replace x5 := (A.old 5 rfl).trans x5
    replace x10 := (A.old 10 rfl).trans x10
    replace x11 := (A.old 11 rfl).trans x11
    replace x12 := (A.old 12 rfl).trans x12
    have x13 : f9.eval (.tmp 13) = .bool false := A.has 0 13 rfl
    have lt_m2 := Ob.lt m2
    replace m2 := Ob.below m2 hb
    have lt_m3 := Ob.lt m3
    replace m3 := Ob.below m3 hb
    have lt_m4 := Ob.lt m4
    replace m4 := Ob.below m4 hb
    have lt_m5 := Ob.lt m5
    replace m5 := Ob.below m5 hb
    replace bl := (bl.trans (Below.mono hb bl.size))
    replace sz := A.size.trans sz
    replace df := A.defs.trans df
    clear A hb
    show Code.wp _ _ _ _ _
    refine wp_seq ?_
    refine wp_cond_false x13 ?_
    refine wp_exit ?_
    show Code.wp _ _ _ _ _
    refine wp_seq ?_
    -- R9
    refine wp_region_seq [.eq (.agg ((z).map V).toArray)] (by kernel_rfl) (by kernel_rfl) (by rw [sz]; kernel_rfl) (by kernel_rfl) ⟨fun hw ac u K => ?_, trivial⟩ ?_
    · exact st_load23 (.tmp 5) rfl (g5) (z) ((K.old 5 rfl).trans x5) hz1 (Ob.below m5 K.grow)
    intro f10 w10 A hb
    replace bl0 := bl
    replace x2 := (A.old 2 rfl).trans x2
    replace x4 := (A.old 4 rfl).trans x4
    replace x5 := (A.old 5 rfl).trans x5
    replace x10 := (A.old 10 rfl).trans x10
    replace x11 := (A.old 11 rfl).trans x11
    replace x12 := (A.old 12 rfl).trans x12
    replace x13 := (A.old 13 rfl).trans x13
    have x30 : f10.eval (.tmp 30) = .agg ((z).map V).toArray := A.has 0 30 rfl
    have lt_m2 := Ob.lt m2
    replace m2 := Ob.below m2 hb
    have lt_m3 := Ob.lt m3
    replace m3 := Ob.below m3 hb
    have lt_m4 := Ob.lt m4
    replace m4 := Ob.below m4 hb
    have lt_m5 := Ob.lt m5
    replace m5 := Ob.below m5 hb
    replace bl := (bl.trans (Below.mono hb bl.size))
    replace sz := A.size.trans sz
    replace df := A.defs.trans df
    clear A hb
    refine wl_store rfl (.tmp 4) (.tmp 30) rfl rfl (g4) (z) (hz) x4 x30 m4 hz_len hz1 ?_
    replace m2 : Ob (w10.setRow g4 ((z).map V : List Value).toArray) (g2) 38 ([.int .i64 (k0), .int .i64 ((i : Nat) : Int), .slice sA (S).length sC, .slice pA (P).length pC]) := Ob.setRow_other m2 _ nm2_4
    replace m3 : Ob (w10.setRow g4 ((z).map V : List Value).toArray) (g3) 23 ((x).map V) := Ob.setRow_other m3 _ nm3_4
    replace m4 : Ob (w10.setRow g4 ((z).map V : List Value).toArray) (g4) 23 ((z).map V) := Ob.setRow m4 ((z).map V)
    replace m5 : Ob (w10.setRow g4 ((z).map V : List Value).toArray) (g5) 23 ((z).map V) := Ob.setRow_other m5 _ nm4_5.symm
    replace bl : Below w.heap.size w (w10.setRow g4 ((z).map V : List Value).toArray) := bl.trans (below_setRow _ _ _ _ hw4)
    generalize w10.setRow g4 ((z).map V : List Value).toArray = w11b at bl m2 m3 m4 m5 ⊢
    refine wpList_nil ?_
    clear x30
    show Code.wp _ _ _ _ _
    refine wp_ret ?_
    repeat (first | with_reducible refine then_ret ?_ | with_reducible refine block_ret ?_)
    obtain rfl : k = P.length := by omega
    exact bodyPost_ret (v := .agg ((z).map V).toArray) (ret_hash rfl f10 _ g4 (z) hz1 x4 m4) df ⟨by rw [← ez.out, ey.out], bl⟩
  obtain ⟨p, hpk⟩ : ∃ p, P[k]? = some p := ⟨_, List.getElem?_eq_getElem hlt⟩
  have hp : p.length = 32 := hs_len vP hpk
  have hpg : P.getD k [] = p := by rw [List.getD_eq_getElem?_getD, hpk]; rfl
  have hi2 : i / 2 ^ k ≤ 1000000 := Nat.le_trans (Nat.div_le_self _ _) hi
  -- R3
  refine wp_all_seq [.eq (.bool true)] (by kernel_rfl) (by kernel_rfl) (by rw [sz]; kernel_rfl) (by kernel_rfl) ⟨fun hw ac u K => ?_, trivial⟩ ?_
  · exact st_lss 3 (.tmp 12) (.tmp 11) rfl .i64 (((k : Nat) : Int)) ((((P).length : Nat) : Int)) ((K.old 12 rfl).trans x12) ((K.old 11 rfl).trans x11) _ (by first | (simp; done) | (simp; omega))
  intro f9 w9 A hb
  replace bl0 := bl
  replace x2 := (A.old 2 rfl).trans x2
  replace x4 := (A.old 4 rfl).trans x4
  replace x5 := (A.old 5 rfl).trans x5
  replace x10 := (A.old 10 rfl).trans x10
  replace x11 := (A.old 11 rfl).trans x11
  replace x12 := (A.old 12 rfl).trans x12
  have x13 : f9.eval (.tmp 13) = .bool true := A.has 0 13 rfl
  have lt_m2 := Ob.lt m2
  replace m2 := Ob.below m2 hb
  have lt_m3 := Ob.lt m3
  replace m3 := Ob.below m3 hb
  have lt_m4 := Ob.lt m4
  replace m4 := Ob.below m4 hb
  have lt_m5 := Ob.lt m5
  replace m5 := Ob.below m5 hb
  replace bl := (bl.trans (Below.mono hb bl.size))
  replace sz := A.size.trans sz
  replace df := A.defs.trans df
  clear A hb
  show Code.wp _ _ _ _ _
  refine wp_seq ?_
  refine wp_cond_true x13 ?_
  refine wp_skip ?_
  show Code.wp _ _ _ _ _
  refine wp_seq ?_
  refine wp_block ?_
  refine wp_seq ?_
  -- R4
  refine wp_region_seq [.eq (.int .i64 ((k : Nat) : Int)), .ph (p), .eq (.agg ((p).map V).toArray), .nw w9.heap.size 23 ((hz).map V), .eq (.int .i64 ((k : Nat) : Int))] (by kernel_rfl) (by kernel_rfl) (by rw [sz]; kernel_rfl) (by kernel_rfl) ⟨fun hw ac u K => ?_, fun hw ac u K => ?_, fun hw ac u K => ?_, fun hw ac u K => ?_, fun hw ac u K => ?_, trivial⟩ ?_
  · exact st_move (.tmp 12) rfl ((K.old 12 rfl).trans x12)
  · exact st_idxh (.tmp 10) (.tmp 12) rfl (fk_val ((K.old 10 rfl).trans x10) (Fk.mono _ _ _ _ vP (bl.trans (Below.mono K.grow bl.size)))) (k) (p) ((K.old 12 rfl).trans x12) hpk
  · exact st_loadh (.tmp 15) rfl (K.dep 1 15 rfl)
  · exact st_alloc23 rfl _ K.grow.size
  · exact st_assign (.tmp 14) rfl (K.dep 0 14 rfl)
  intro f10 w10 A hb
  replace bl0 := bl
  replace x2 := (A.old 2 rfl).trans x2
  replace x4 := (A.old 4 rfl).trans x4
  replace x5 := (A.old 5 rfl).trans x5
  replace x10 := (A.old 10 rfl).trans x10
  replace x11 := (A.old 11 rfl).trans x11
  replace x12 := (A.old 12 rfl).trans x12
  replace x13 := (A.old 13 rfl).trans x13
  have x6 : f10.eval (.tmp 6) = .int .i64 ((k : Nat) : Int) := A.has 4 6 rfl
  have x7 : Fk.f (.nw w9.heap.size 23 ((hz).map V)) (f10.eval (.tmp 7)) w10 := A.has 3 7 rfl
  have x16 : f10.eval (.tmp 16) = .agg ((p).map V).toArray := A.has 2 16 rfl
  have lt_m2 := Ob.lt m2
  replace m2 := Ob.below m2 hb
  have lt_m3 := Ob.lt m3
  replace m3 := Ob.below m3 hb
  have lt_m4 := Ob.lt m4
  replace m4 := Ob.below m4 hb
  have lt_m5 := Ob.lt m5
  replace m5 := Ob.below m5 hb
  replace bl := (bl.trans (Below.mono hb bl.size))
  replace sz := A.size.trans sz
  replace df := A.defs.trans df
  clear A hb
  obtain ⟨g7, hg7, e7, m7⟩ := x7
  have x7 := e7
  clear e7
  have nm2_7 : g2 ≠ g7 := Nat.ne_of_lt (Nat.lt_of_lt_of_le lt_m2 hg7)
  have nm3_7 : g3 ≠ g7 := Nat.ne_of_lt (Nat.lt_of_lt_of_le lt_m3 hg7)
  have nm4_7 : g4 ≠ g7 := Nat.ne_of_lt (Nat.lt_of_lt_of_le lt_m4 hg7)
  have nm5_7 : g5 ≠ g7 := Nat.ne_of_lt (Nat.lt_of_lt_of_le lt_m5 hg7)
  have hw7 : w.heap.size ≤ g7 := Nat.le_trans bl0.size hg7
  refine wl_store rfl (.tmp 7) (.tmp 16) rfl rfl (g7) (p) (hz) x7 x16 m7 hz_len hp ?_
  replace m2 : Ob (w10.setRow g7 ((p).map V : List Value).toArray) (g2) 38 ([.int .i64 (k0), .int .i64 ((i : Nat) : Int), .slice sA (S).length sC, .slice pA (P).length pC]) := Ob.setRow_other m2 _ nm2_7
  replace m3 : Ob (w10.setRow g7 ((p).map V : List Value).toArray) (g3) 23 ((x).map V) := Ob.setRow_other m3 _ nm3_7
  replace m4 : Ob (w10.setRow g7 ((p).map V : List Value).toArray) (g4) 23 ((hz).map V) := Ob.setRow_other m4 _ nm4_7
  replace m5 : Ob (w10.setRow g7 ((p).map V : List Value).toArray) (g5) 23 ((z).map V) := Ob.setRow_other m5 _ nm5_7
  replace m7 : Ob (w10.setRow g7 ((p).map V : List Value).toArray) (g7) 23 ((p).map V) := Ob.setRow m7 ((p).map V)
  replace bl : Below w.heap.size w (w10.setRow g7 ((p).map V : List Value).toArray) := bl.trans (below_setRow _ _ _ _ hw7)
  generalize w10.setRow g7 ((p).map V : List Value).toArray = w11b at bl m2 m3 m4 m5 m7 ⊢
  refine wpList_nil ?_
  clear x16
  show Code.wp _ _ _ _ _
  refine wp_seq ?_
  by_cases hev : i / 2 ^ k % 2 = 0
  rotate_left
  · skip
    obtain ⟨z2, ez2⟩ : ∃ q, Box (nd p z = q) := ⟨_, ⟨rfl⟩⟩
    have hz2 : z2.length = 32 := by rw [← ez2.out]; exact nd_len _ _
    have eup : up i P x (k + 1) = z2 := by rw [up_odd hev, ez.out, hpg, ez2.out]
    -- R5
    refine wp_all_seq [.eq (.pointer (some ⟨g2, 1, none⟩)), .eq (.int .i64 ((i : Nat) : Int)), .eq (.int .i64 ((k : Nat) : Int)), .eq (.int .i64 ((i / 2 ^ k : Nat) : Int)), .eq (.int .i64 ((i / 2 ^ k % 2 : Nat) : Int)), .eq (.bool false)] (by kernel_rfl) (by kernel_rfl) (by rw [sz]; kernel_rfl) (by kernel_rfl) ⟨fun hw ac u K => ?_, fun hw ac u K => ?_, fun hw ac u K => ?_, fun hw ac u K => ?_, fun hw ac u K => ?_, fun hw ac u K => ?_, trivial⟩ ?_
    · exact st_field 38 1 (.tmp 2) rfl ((K.old 2 rfl).trans x2) (by kernel_rfl)
    · exact st_loadc 3 (.tmp 17) rfl (by kernel_rfl) (K.dep 0 17 rfl) (Ob.cell (Ob.below m2 K.grow) 1 rfl)
    · exact st_move (.tmp 6) rfl ((K.old 6 rfl).trans x6)
    · exact st_shr 3 3 (.tmp 18) (.tmp 19) rfl (i) (k) (K.dep 1 18 rfl) (K.dep 2 19 rfl) (i / 2 ^ k) rfl (by omega)
    · exact st_and1 (.tmp 20) (.const (.int .i64 1)) rfl (i / 2 ^ k) hi2 (K.dep 3 20 rfl) rfl
    · exact st_eqi 3 (.tmp 21) (.const (.int .i64 0)) rfl .i64 (((i / 2 ^ k % 2 : Nat) : Int)) (0) (K.dep 4 21 rfl) rfl _ (by rw [eq_comm, decide_eq_false_iff_not]; omega)
    intro f12 w12 A hb
    replace bl0 := bl
    replace x2 := (A.old 2 rfl).trans x2
    replace x4 := (A.old 4 rfl).trans x4
    replace x5 := (A.old 5 rfl).trans x5
    replace x10 := (A.old 10 rfl).trans x10
    replace x11 := (A.old 11 rfl).trans x11
    replace x12 := (A.old 12 rfl).trans x12
    replace x13 := (A.old 13 rfl).trans x13
    replace x6 := (A.old 6 rfl).trans x6
    replace x7 := (A.old 7 rfl).trans x7
    have x22 : f12.eval (.tmp 22) = .bool false := A.has 5 22 rfl
    have lt_m2 := Ob.lt m2
    replace m2 := Ob.below m2 hb
    have lt_m3 := Ob.lt m3
    replace m3 := Ob.below m3 hb
    have lt_m4 := Ob.lt m4
    replace m4 := Ob.below m4 hb
    have lt_m5 := Ob.lt m5
    replace m5 := Ob.below m5 hb
    have lt_m7 := Ob.lt m7
    replace m7 := Ob.below m7 hb
    replace bl := (bl.trans (Below.mono hb bl.size))
    replace sz := A.size.trans sz
    replace df := A.defs.trans df
    clear A hb
    clear x6
    show Code.wp _ _ _ _ _
    refine wp_cond_false x22 ?_
    -- R7
    refine wp_region_seq [.eq (.agg ((p).map V).toArray), .eq (.agg ((z).map V).toArray), .eq (.agg ((z2).map V).toArray)] (by kernel_rfl) (by kernel_rfl) (by rw [sz]; kernel_rfl) (by kernel_rfl) ⟨fun hw ac u K => ?_, fun hw ac u K => ?_, fun hw ac u K => ?_, trivial⟩ ?_
    · exact st_load23 (.tmp 7) rfl (g7) (p) ((K.old 7 rfl).trans x7) hp (Ob.below m7 K.grow)
    · exact st_load23 (.tmp 5) rfl (g5) (z) ((K.old 5 rfl).trans x5) hz1 (Ob.below m5 K.grow)
    · exact st_call 26 (.func 26) _ _ #[.agg ((p).map V).toArray, .agg ((z).map V).toArray] rfl rfl (arg2 (K.dep 0 26 rfl) (K.dep 1 27 rfl)) Tryd.enter26 (fk_node hp hz1 (hK.below (bl.trans (Below.mono K.grow bl.size))) ez2)
    intro f13 w13 A hb
    replace bl0 := bl
    replace x2 := (A.old 2 rfl).trans x2
    replace x4 := (A.old 4 rfl).trans x4
    replace x5 := (A.old 5 rfl).trans x5
    replace x10 := (A.old 10 rfl).trans x10
    replace x11 := (A.old 11 rfl).trans x11
    replace x12 := (A.old 12 rfl).trans x12
    replace x13 := (A.old 13 rfl).trans x13
    replace x7 := (A.old 7 rfl).trans x7
    replace x22 := (A.old 22 rfl).trans x22
    have x28 : f13.eval (.tmp 28) = .agg ((z2).map V).toArray := A.has 2 28 rfl
    have lt_m2 := Ob.lt m2
    replace m2 := Ob.below m2 hb
    have lt_m3 := Ob.lt m3
    replace m3 := Ob.below m3 hb
    have lt_m4 := Ob.lt m4
    replace m4 := Ob.below m4 hb
    have lt_m5 := Ob.lt m5
    replace m5 := Ob.below m5 hb
    have lt_m7 := Ob.lt m7
    replace m7 := Ob.below m7 hb
    replace bl := (bl.trans (Below.mono hb bl.size))
    replace sz := A.size.trans sz
    replace df := A.defs.trans df
    clear A hb
    refine wl_store rfl (.tmp 5) (.tmp 28) rfl rfl (g5) (z2) (z) x5 x28 m5 hz1 hz2 ?_
    replace m2 : Ob (w13.setRow g5 ((z2).map V : List Value).toArray) (g2) 38 ([.int .i64 (k0), .int .i64 ((i : Nat) : Int), .slice sA (S).length sC, .slice pA (P).length pC]) := Ob.setRow_other m2 _ nm2_5
    replace m3 : Ob (w13.setRow g5 ((z2).map V : List Value).toArray) (g3) 23 ((x).map V) := Ob.setRow_other m3 _ nm3_5
    replace m4 : Ob (w13.setRow g5 ((z2).map V : List Value).toArray) (g4) 23 ((hz).map V) := Ob.setRow_other m4 _ nm4_5
    replace m5 : Ob (w13.setRow g5 ((z2).map V : List Value).toArray) (g5) 23 ((z2).map V) := Ob.setRow m5 ((z2).map V)
    replace m7 : Ob (w13.setRow g5 ((z2).map V : List Value).toArray) (g7) 23 ((p).map V) := Ob.setRow_other m7 _ nm5_7.symm
    replace bl : Below w.heap.size w (w13.setRow g5 ((z2).map V : List Value).toArray) := bl.trans (below_setRow _ _ _ _ hw5)
    generalize w13.setRow g5 ((z2).map V : List Value).toArray = w14b at bl m2 m3 m4 m5 m7 ⊢
    refine wpList_nil ?_
    clear x28
    show Code.wp _ _ _ _ _
    -- R8
    refine wp_region_seq [.eq (.int .i64 ((k + 1 : Nat) : Int))] (by kernel_rfl) (by kernel_rfl) (by rw [sz]; kernel_rfl) (by kernel_rfl) ⟨fun hw ac u K => ?_, trivial⟩ ?_
    · exact st_add (.tmp 12) (.const (.int .i64 1)) rfl (k) (1) (k + 1) ((K.old 12 rfl).trans x12) rfl (by omega) (by omega)
    intro f15 w15 A hb
    replace bl0 := bl
    replace x2 := (A.old 2 rfl).trans x2
    replace x4 := (A.old 4 rfl).trans x4
    replace x5 := (A.old 5 rfl).trans x5
    replace x10 := (A.old 10 rfl).trans x10
    replace x11 := (A.old 11 rfl).trans x11
    replace x12 := (A.old 12 rfl).trans x12
    replace x13 := (A.old 13 rfl).trans x13
    replace x7 := (A.old 7 rfl).trans x7
    replace x22 := (A.old 22 rfl).trans x22
    have x29 : f15.eval (.tmp 29) = .int .i64 ((k + 1 : Nat) : Int) := A.has 0 29 rfl
    have lt_m2 := Ob.lt m2
    replace m2 := Ob.below m2 hb
    have lt_m3 := Ob.lt m3
    replace m3 := Ob.below m3 hb
    have lt_m4 := Ob.lt m4
    replace m4 := Ob.below m4 hb
    have lt_m5 := Ob.lt m5
    replace m5 := Ob.below m5 hb
    have lt_m7 := Ob.lt m7
    replace m7 := Ob.below m7 hb
    replace bl := (bl.trans (Below.mono hb bl.size))
    replace sz := A.size.trans sz
    replace df := A.defs.trans df
    clear A hb
    refine wl_one (.eq (.int .i64 ((k + 1 : Nat) : Int))) rfl 12 rfl (by rw [sz]; decide) (st_move (.tmp 29) rfl x29) ?_
    intro f16 w16 df2 sz2 old2 new2 hb
    replace bl0 := bl
    replace x2 := (old2 2 rfl).trans x2
    replace x4 := (old2 4 rfl).trans x4
    replace x5 := (old2 5 rfl).trans x5
    replace x10 := (old2 10 rfl).trans x10
    replace x11 := (old2 11 rfl).trans x11
    clear x12
    replace x13 := (old2 13 rfl).trans x13
    replace x7 := (old2 7 rfl).trans x7
    replace x22 := (old2 22 rfl).trans x22
    replace x29 := (old2 29 rfl).trans x29
    have x12 : f16.eval (.tmp 12) = .int .i64 ((k + 1 : Nat) : Int) := new2
    have lt_m2 := Ob.lt m2
    replace m2 := Ob.below m2 hb
    have lt_m3 := Ob.lt m3
    replace m3 := Ob.below m3 hb
    have lt_m4 := Ob.lt m4
    replace m4 := Ob.below m4 hb
    have lt_m5 := Ob.lt m5
    replace m5 := Ob.below m5 hb
    have lt_m7 := Ob.lt m7
    replace m7 := Ob.below m7 hb
    replace bl := (bl.trans (Below.mono hb bl.size))
    replace sz := sz2.trans sz
    replace df := df2.trans df
    clear df2 sz2 old2 new2 hb
    refine wpList_nil ?_
    clear x29
    show (∃ _, _) ∧ _
    refine ⟨⟨k + 1, by omega, sz, df, x2, x4, x5, x10, x11, x12, m2, m3, m4, (by rw [eup]; exact m5), bl⟩, ?_⟩
    rw [show f16.eval (.tmp 12) = _ from x12, show _ = _ from hcnt]
    simp [intOf]
    omega
  obtain ⟨z2, ez2⟩ : ∃ q, Box (nd z p = q) := ⟨_, ⟨rfl⟩⟩
  have hz2 : z2.length = 32 := by rw [← ez2.out]; exact nd_len _ _
  have eup : up i P x (k + 1) = z2 := by rw [up_even hev, ez.out, hpg, ez2.out]
  -- R5
  refine wp_all_seq [.eq (.pointer (some ⟨g2, 1, none⟩)), .eq (.int .i64 ((i : Nat) : Int)), .eq (.int .i64 ((k : Nat) : Int)), .eq (.int .i64 ((i / 2 ^ k : Nat) : Int)), .eq (.int .i64 ((i / 2 ^ k % 2 : Nat) : Int)), .eq (.bool true)] (by kernel_rfl) (by kernel_rfl) (by rw [sz]; kernel_rfl) (by kernel_rfl) ⟨fun hw ac u K => ?_, fun hw ac u K => ?_, fun hw ac u K => ?_, fun hw ac u K => ?_, fun hw ac u K => ?_, fun hw ac u K => ?_, trivial⟩ ?_
  · exact st_field 38 1 (.tmp 2) rfl ((K.old 2 rfl).trans x2) (by kernel_rfl)
  · exact st_loadc 3 (.tmp 17) rfl (by kernel_rfl) (K.dep 0 17 rfl) (Ob.cell (Ob.below m2 K.grow) 1 rfl)
  · exact st_move (.tmp 6) rfl ((K.old 6 rfl).trans x6)
  · exact st_shr 3 3 (.tmp 18) (.tmp 19) rfl (i) (k) (K.dep 1 18 rfl) (K.dep 2 19 rfl) (i / 2 ^ k) rfl (by omega)
  · exact st_and1 (.tmp 20) (.const (.int .i64 1)) rfl (i / 2 ^ k) hi2 (K.dep 3 20 rfl) rfl
  · exact st_eqi 3 (.tmp 21) (.const (.int .i64 0)) rfl .i64 (((i / 2 ^ k % 2 : Nat) : Int)) (0) (K.dep 4 21 rfl) rfl _ (by rw [eq_comm, decide_eq_true_iff]; omega)
  intro f12 w12 A hb
  replace bl0 := bl
  replace x2 := (A.old 2 rfl).trans x2
  replace x4 := (A.old 4 rfl).trans x4
  replace x5 := (A.old 5 rfl).trans x5
  replace x10 := (A.old 10 rfl).trans x10
  replace x11 := (A.old 11 rfl).trans x11
  replace x12 := (A.old 12 rfl).trans x12
  replace x13 := (A.old 13 rfl).trans x13
  replace x6 := (A.old 6 rfl).trans x6
  replace x7 := (A.old 7 rfl).trans x7
  have x22 : f12.eval (.tmp 22) = .bool true := A.has 5 22 rfl
  have lt_m2 := Ob.lt m2
  replace m2 := Ob.below m2 hb
  have lt_m3 := Ob.lt m3
  replace m3 := Ob.below m3 hb
  have lt_m4 := Ob.lt m4
  replace m4 := Ob.below m4 hb
  have lt_m5 := Ob.lt m5
  replace m5 := Ob.below m5 hb
  have lt_m7 := Ob.lt m7
  replace m7 := Ob.below m7 hb
  replace bl := (bl.trans (Below.mono hb bl.size))
  replace sz := A.size.trans sz
  replace df := A.defs.trans df
  clear A hb
  clear x6
  show Code.wp _ _ _ _ _
  refine wp_cond_true x22 ?_
  -- R6
  refine wp_region_seq [.eq (.agg ((z).map V).toArray), .eq (.agg ((p).map V).toArray), .eq (.agg ((z2).map V).toArray)] (by kernel_rfl) (by kernel_rfl) (by rw [sz]; kernel_rfl) (by kernel_rfl) ⟨fun hw ac u K => ?_, fun hw ac u K => ?_, fun hw ac u K => ?_, trivial⟩ ?_
  · exact st_load23 (.tmp 5) rfl (g5) (z) ((K.old 5 rfl).trans x5) hz1 (Ob.below m5 K.grow)
  · exact st_load23 (.tmp 7) rfl (g7) (p) ((K.old 7 rfl).trans x7) hp (Ob.below m7 K.grow)
  · exact st_call 26 (.func 26) _ _ #[.agg ((z).map V).toArray, .agg ((p).map V).toArray] rfl rfl (arg2 (K.dep 0 23 rfl) (K.dep 1 24 rfl)) Tryd.enter26 (fk_node hz1 hp (hK.below (bl.trans (Below.mono K.grow bl.size))) ez2)
  intro f13 w13 A hb
  replace bl0 := bl
  replace x2 := (A.old 2 rfl).trans x2
  replace x4 := (A.old 4 rfl).trans x4
  replace x5 := (A.old 5 rfl).trans x5
  replace x10 := (A.old 10 rfl).trans x10
  replace x11 := (A.old 11 rfl).trans x11
  replace x12 := (A.old 12 rfl).trans x12
  replace x13 := (A.old 13 rfl).trans x13
  replace x7 := (A.old 7 rfl).trans x7
  replace x22 := (A.old 22 rfl).trans x22
  have x25 : f13.eval (.tmp 25) = .agg ((z2).map V).toArray := A.has 2 25 rfl
  have lt_m2 := Ob.lt m2
  replace m2 := Ob.below m2 hb
  have lt_m3 := Ob.lt m3
  replace m3 := Ob.below m3 hb
  have lt_m4 := Ob.lt m4
  replace m4 := Ob.below m4 hb
  have lt_m5 := Ob.lt m5
  replace m5 := Ob.below m5 hb
  have lt_m7 := Ob.lt m7
  replace m7 := Ob.below m7 hb
  replace bl := (bl.trans (Below.mono hb bl.size))
  replace sz := A.size.trans sz
  replace df := A.defs.trans df
  clear A hb
  refine wl_store rfl (.tmp 5) (.tmp 25) rfl rfl (g5) (z2) (z) x5 x25 m5 hz1 hz2 ?_
  replace m2 : Ob (w13.setRow g5 ((z2).map V : List Value).toArray) (g2) 38 ([.int .i64 (k0), .int .i64 ((i : Nat) : Int), .slice sA (S).length sC, .slice pA (P).length pC]) := Ob.setRow_other m2 _ nm2_5
  replace m3 : Ob (w13.setRow g5 ((z2).map V : List Value).toArray) (g3) 23 ((x).map V) := Ob.setRow_other m3 _ nm3_5
  replace m4 : Ob (w13.setRow g5 ((z2).map V : List Value).toArray) (g4) 23 ((hz).map V) := Ob.setRow_other m4 _ nm4_5
  replace m5 : Ob (w13.setRow g5 ((z2).map V : List Value).toArray) (g5) 23 ((z2).map V) := Ob.setRow m5 ((z2).map V)
  replace m7 : Ob (w13.setRow g5 ((z2).map V : List Value).toArray) (g7) 23 ((p).map V) := Ob.setRow_other m7 _ nm5_7.symm
  replace bl : Below w.heap.size w (w13.setRow g5 ((z2).map V : List Value).toArray) := bl.trans (below_setRow _ _ _ _ hw5)
  generalize w13.setRow g5 ((z2).map V : List Value).toArray = w14b at bl m2 m3 m4 m5 m7 ⊢
  refine wpList_nil ?_
  clear x25
  show Code.wp _ _ _ _ _
  -- R8
  refine wp_region_seq [.eq (.int .i64 ((k + 1 : Nat) : Int))] (by kernel_rfl) (by kernel_rfl) (by rw [sz]; kernel_rfl) (by kernel_rfl) ⟨fun hw ac u K => ?_, trivial⟩ ?_
  · exact st_add (.tmp 12) (.const (.int .i64 1)) rfl (k) (1) (k + 1) ((K.old 12 rfl).trans x12) rfl (by omega) (by omega)
  intro f15 w15 A hb
  replace bl0 := bl
  replace x2 := (A.old 2 rfl).trans x2
  replace x4 := (A.old 4 rfl).trans x4
  replace x5 := (A.old 5 rfl).trans x5
  replace x10 := (A.old 10 rfl).trans x10
  replace x11 := (A.old 11 rfl).trans x11
  replace x12 := (A.old 12 rfl).trans x12
  replace x13 := (A.old 13 rfl).trans x13
  replace x7 := (A.old 7 rfl).trans x7
  replace x22 := (A.old 22 rfl).trans x22
  have x29 : f15.eval (.tmp 29) = .int .i64 ((k + 1 : Nat) : Int) := A.has 0 29 rfl
  have lt_m2 := Ob.lt m2
  replace m2 := Ob.below m2 hb
  have lt_m3 := Ob.lt m3
  replace m3 := Ob.below m3 hb
  have lt_m4 := Ob.lt m4
  replace m4 := Ob.below m4 hb
  have lt_m5 := Ob.lt m5
  replace m5 := Ob.below m5 hb
  have lt_m7 := Ob.lt m7
  replace m7 := Ob.below m7 hb
  replace bl := (bl.trans (Below.mono hb bl.size))
  replace sz := A.size.trans sz
  replace df := A.defs.trans df
  clear A hb
  refine wl_one (.eq (.int .i64 ((k + 1 : Nat) : Int))) rfl 12 rfl (by rw [sz]; decide) (st_move (.tmp 29) rfl x29) ?_
  intro f16 w16 df2 sz2 old2 new2 hb
  replace bl0 := bl
  replace x2 := (old2 2 rfl).trans x2
  replace x4 := (old2 4 rfl).trans x4
  replace x5 := (old2 5 rfl).trans x5
  replace x10 := (old2 10 rfl).trans x10
  replace x11 := (old2 11 rfl).trans x11
  clear x12
  replace x13 := (old2 13 rfl).trans x13
  replace x7 := (old2 7 rfl).trans x7
  replace x22 := (old2 22 rfl).trans x22
  replace x29 := (old2 29 rfl).trans x29
  have x12 : f16.eval (.tmp 12) = .int .i64 ((k + 1 : Nat) : Int) := new2
  have lt_m2 := Ob.lt m2
  replace m2 := Ob.below m2 hb
  have lt_m3 := Ob.lt m3
  replace m3 := Ob.below m3 hb
  have lt_m4 := Ob.lt m4
  replace m4 := Ob.below m4 hb
  have lt_m5 := Ob.lt m5
  replace m5 := Ob.below m5 hb
  have lt_m7 := Ob.lt m7
  replace m7 := Ob.below m7 hb
  replace bl := (bl.trans (Below.mono hb bl.size))
  replace sz := sz2.trans sz
  replace df := df2.trans df
  clear df2 sz2 old2 new2 hb
  refine wpList_nil ?_
  clear x29
  show (∃ _, _) ∧ _
  refine ⟨⟨k + 1, by omega, sz, df, x2, x4, x5, x10, x11, x12, m2, m3, m4, (by rw [eup]; exact m5), bl⟩, ?_⟩
  rw [show f16.eval (.tmp 12) = _ from x12, show _ = _ from hcnt]
  simp [intOf]
  omega
end Go.Proofs.YtnanipeapjpkfaaDoor
