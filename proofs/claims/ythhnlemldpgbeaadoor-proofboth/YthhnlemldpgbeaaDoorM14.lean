/- ProofBoth, from a list. -/
import Derived.Test.YthhnlemldpgbeaaDoorM13
namespace Go.Proofs.YthhnlemldpgbeaaDoor
set_option maxRecDepth 100000
open Go.RowKit
set_option maxHeartbeats 1000000 in
theorem both_bad {old rt : List (BitVec 8)} (hold : old.length = 32) (hrt : rt.length = 32) {P : List (List (BitVec 8))} {pA : Option Addr} {pC : Nat} (w : World) (hK : Tab w) (hv : (Fk.hc P).f (.slice pA (P).length pC) w) (h80 : P.length ≤ 80) {m n : Nat} (hm1 : 1 ≤ m) (hm2 : m ≤ n) (hn : n ≤ 1152921504606846976) (hb : bres old P (stp m n true).1 (stp m n true).2 = none) :
    Calls Tryd.prog 4 #[.agg (([.int .i64 ((m : Nat) : Int), .int .i64 ((n : Nat) : Int)] : List Value) ++ ((old).map V ++ ((rt).map V ++ (([.slice pA (P).length pC] : List Value))))).toArray] w fun e w' => e = .returned (.bool true) ∧ Below w.heap.size w w' := by
  have hvs := hc_hs hv
  go_enter Tryd.func4, Tryd.ntmps4
  refine code_both (fun f w1 => f.tmps.size = 194 ∧ f.defers = [] ∧ f.eval (.tmp 0) = .agg (([.int .i64 ((m : Nat) : Int), .int .i64 ((n : Nat) : Int)] : List Value) ++ ((old).map V ++ ((rt).map V ++ (([.slice pA (P).length pC] : List Value))))).toArray ∧ Below w.heap.size w (w1)) ⟨rfl, rfl, rfl, Below.refl _ _⟩ ?_
  rintro f0 w0 ⟨sz, df, x0, bl⟩
  have bl0 := bl
  refine wp_seq ?_
  refine wp_region_seq [] (by kernel_rfl) (by kernel_rfl) (by rw [sz]; kernel_rfl) (by kernel_rfl) trivial ?_
  intro f1 w1 A hb
  replace bl0 := bl
  replace x0 := (A.old 0 rfl).trans x0
  replace bl := (bl.trans (Below.mono hb bl.size))
  replace sz := A.size.trans sz
  replace df := A.defs.trans df
  clear A hb
  refine wl_one (.nw w1.heap.size 38 (([.int .i64 ((m : Nat) : Int), .int .i64 ((n : Nat) : Int)] : List Value) ++ ((old).map V ++ ((rt).map V ++ (([.slice pA (P).length pC] : List Value)))))) rfl 1 rfl (by rw [sz]; decide) (st_box 38 (.tmp 0) rfl _ _ (by rw [show _ = _ from x0]; kernel_rfl) (Nat.le_refl _)) ?_
  intro f2 w2 df2 sz2 old2 new2 hb
  replace bl0 := bl
  replace x0 := (old2 0 rfl).trans x0
  have x1 : Fk.f (.nw w1.heap.size 38 (([.int .i64 ((m : Nat) : Int), .int .i64 ((n : Nat) : Int)] : List Value) ++ ((old).map V ++ ((rt).map V ++ (([.slice pA (P).length pC] : List Value)))))) (f2.eval (.tmp 1)) w2 := new2
  replace bl := (bl.trans (Below.mono hb bl.size))
  replace sz := sz2.trans sz
  replace df := df2.trans df
  clear df2 sz2 old2 new2 hb
  obtain ⟨g1, hg1, e1, m1⟩ := x1
  have x1 := e1
  clear e1
  have hw1 : w.heap.size ≤ g1 := Nat.le_trans bl0.size hg1
  clear x0
  refine wl_one (.eq (.bool false)) rfl 2 rfl (by rw [sz]; decide) (st_assign (.const (.bool false)) rfl rfl) ?_
  intro f3 w3 df2 sz2 old2 new2 hb
  replace bl0 := bl
  replace x1 := (old2 1 rfl).trans x1
  have x2 : f3.eval (.tmp 2) = .bool false := new2
  have lt_m1 := Ob.lt m1
  replace m1 := Ob.below m1 hb
  replace bl := (bl.trans (Below.mono hb bl.size))
  replace sz := sz2.trans sz
  replace df := df2.trans df
  clear df2 sz2 old2 new2 hb
  refine wpList_nil ?_
  show Code.wp _ _ _ _ _
  refine wp_seq ?_
  refine wp_seq ?_
  refine wp_all_seq [.eq (.pointer (some ⟨g1, 66, none⟩)), .eq (.slice pA (P).length pC), .eq (.int .i64 (((P).length : Nat) : Int)), .eq (.bool false), .eq (.bool false), .eq (.pointer (some ⟨g1, 1, none⟩)), .eq (.int .i64 ((n : Nat) : Int)), .eq (.bool false), .eq (.bool false)] (by kernel_rfl) (by kernel_rfl) (by rw [sz]; kernel_rfl) (by kernel_rfl) ⟨fun hw ac u K => ?_, fun hw ac u K => ?_, fun hw ac u K => ?_, fun hw ac u K => ?_, fun hw ac u K => ?_, fun hw ac u K => ?_, fun hw ac u K => ?_, fun hw ac u K => ?_, fun hw ac u K => ?_, trivial⟩ ?_
  · exact st_field 38 4 (.tmp 1) rfl ((K.old 1 rfl).trans x1) (by kernel_rfl)
  · exact st_loadc 24 (.tmp 12) rfl (by kernel_rfl) (K.dep 0 12 rfl) (ob_cell_at (Ob.below m1 K.grow) (([.int .i64 ((m : Nat) : Int), .int .i64 ((n : Nat) : Int)] : List Value) ++ ((old).map V ++ ((rt).map V))) (([] : List Value)) _ 66 (by simp) (by simp [hold, hrt]))
  · exact st_lenc (.tmp 13) rfl ((P).length) rfl (fk_val (K.dep 1 13 rfl) (Fk.mono _ _ _ _ hv (bl.trans (Below.mono K.grow bl.size))))
  · exact st_gtr 3 (.tmp 14) (.const (.int .i64 80)) rfl .i64 ((((P).length : Nat) : Int)) (80) (K.dep 2 14 rfl) rfl _ (by rw [eq_comm, decide_eq_false_iff_not]; omega)
  · exact st_move (.tmp 15) rfl (K.dep 3 15 rfl)
  · exact st_field 38 1 (.tmp 1) rfl ((K.old 1 rfl).trans x1) (by kernel_rfl)
  · exact st_loadc 3 (.tmp 17) rfl (by kernel_rfl) (K.dep 5 17 rfl) (ob_cell_at (Ob.below m1 K.grow) (([.int .i64 ((m : Nat) : Int)] : List Value)) ((old).map V ++ ((rt).map V ++ (([.slice pA (P).length pC] : List Value)))) _ 1 (by simp) (by rfl))
  · exact st_gtr 3 (.tmp 18) (.const (.int .i64 1152921504606846976)) rfl .i64 (((n : Nat) : Int)) (1152921504606846976) (K.dep 6 18 rfl) rfl _ (by rw [eq_comm, decide_eq_false_iff_not]; omega)
  · exact st_pick_f' (.tmp 16) (.const (.bool true)) (.tmp 19) rfl (K.dep 4 16 rfl) (K.dep 7 19 rfl)
  intro f4 w4 A hb
  replace bl0 := bl
  replace x1 := (A.old 1 rfl).trans x1
  replace x2 := (A.old 2 rfl).trans x2
  have x20 : f4.eval (.tmp 20) = .bool false := A.has 8 20 rfl
  have lt_m1 := Ob.lt m1
  replace m1 := Ob.below m1 hb
  replace bl := (bl.trans (Below.mono hb bl.size))
  replace sz := A.size.trans sz
  replace df := A.defs.trans df
  clear A hb
  show Code.wp _ _ _ _ _
  refine wp_cond_false x20 ?_
  refine wp_skip ?_
  show Code.wp _ _ _ _ _
  refine wp_seq ?_
  refine wp_region_seq [.eq (.pointer (some ⟨g1, 0, none⟩)), .eq (.int .i64 ((m : Nat) : Int)), .eq (.pointer (some ⟨g1, 1, none⟩)), .eq (.int .i64 ((n : Nat) : Int)), .eq (.pointer (some ⟨g1, 2, none⟩)), .eq (.agg ((old).map V).toArray), .eq (.pointer (some ⟨g1, 66, none⟩)), .eq (.slice pA (P).length pC), .eq (.tuple #[.agg ((hz).map V).toArray, .agg ((hz).map V).toArray, .int .i64 22]), .eq (.tuple #[.agg ((hz).map V).toArray, .agg ((hz).map V).toArray, .int .i64 22]), .eq (.agg ((hz).map V).toArray), .eq (.agg ((hz).map V).toArray), .eq (.int .i64 22)] (by kernel_rfl) (by kernel_rfl) (by rw [sz]; kernel_rfl) (by kernel_rfl) ⟨fun hw ac u K => ?_, fun hw ac u K => ?_, fun hw ac u K => ?_, fun hw ac u K => ?_, fun hw ac u K => ?_, fun hw ac u K => ?_, fun hw ac u K => ?_, fun hw ac u K => ?_, fun hw ac u K => ?_, fun hw ac u K => ?_, fun hw ac u K => ?_, fun hw ac u K => ?_, fun hw ac u K => ?_, trivial⟩ ?_
  · exact st_field 38 0 (.tmp 1) rfl ((K.old 1 rfl).trans x1) (by kernel_rfl)
  · exact st_loadc 3 (.tmp 23) rfl (by kernel_rfl) (K.dep 0 23 rfl) (ob_cell_at (Ob.below m1 K.grow) (([] : List Value)) (([.int .i64 ((n : Nat) : Int)] : List Value) ++ ((old).map V ++ ((rt).map V ++ (([.slice pA (P).length pC] : List Value))))) _ 0 (by simp) (by rfl))
  · exact st_field 38 1 (.tmp 1) rfl ((K.old 1 rfl).trans x1) (by kernel_rfl)
  · exact st_loadc 3 (.tmp 25) rfl (by kernel_rfl) (K.dep 2 25 rfl) (ob_cell_at (Ob.below m1 K.grow) (([.int .i64 ((m : Nat) : Int)] : List Value)) ((old).map V ++ ((rt).map V ++ (([.slice pA (P).length pC] : List Value)))) _ 1 (by simp) (by rfl))
  · exact st_field 38 2 (.tmp 1) rfl ((K.old 1 rfl).trans x1) (by kernel_rfl)
  · exact st_loadz 23 (.tmp 27) rfl (g1) 2 ((old).map V) (by kernel_rfl) (by rw [List.length_map, hold]; kernel_rfl) (K.dep 4 27 rfl) (ob_range_at (Ob.below m1 K.grow) (([.int .i64 ((m : Nat) : Int), .int .i64 ((n : Nat) : Int)] : List Value)) ((rt).map V ++ (([.slice pA (P).length pC] : List Value))) _ 2 (by simp) (by rfl))
  · exact st_field 38 4 (.tmp 1) rfl ((K.old 1 rfl).trans x1) (by kernel_rfl)
  · exact st_loadc 24 (.tmp 29) rfl (by kernel_rfl) (K.dep 6 29 rfl) (ob_cell_at (Ob.below m1 K.grow) (([.int .i64 ((m : Nat) : Int), .int .i64 ((n : Nat) : Int)] : List Value) ++ ((old).map V ++ ((rt).map V))) (([] : List Value)) _ 66 (by simp) (by simp [hold, hrt]))
  · exact st_call 14 (.func 14) _ _ #[.int .i64 ((m : Nat) : Int), .int .i64 ((n : Nat) : Int), .agg ((old).map V).toArray, .slice pA (P).length pC] rfl rfl (arg4 (K.dep 1 24 rfl) (K.dep 3 26 rfl) (K.dep 5 28 rfl) (K.dep 7 30 rfl)) Tryd.enter14 (fk_both_bad hold hm1 hm2 hn (Fk.mono _ _ _ _ hv (bl.trans (Below.mono K.grow bl.size))) (by omega) (hK.below (bl.trans (Below.mono K.grow bl.size))) hb)
  · exact st_move (.tmp 31) rfl (K.dep 8 31 rfl)
  · exact st_tri0 (.tmp 22) rfl (K.dep 9 22 rfl)
  · exact st_tri1 (.tmp 22) rfl (K.dep 9 22 rfl)
  · exact st_tri2 (.tmp 22) rfl (K.dep 9 22 rfl)
  intro f5 w5 A hb
  replace bl0 := bl
  replace x1 := (A.old 1 rfl).trans x1
  replace x2 := (A.old 2 rfl).trans x2
  replace x20 := (A.old 20 rfl).trans x20
  have x32 : f5.eval (.tmp 32) = .agg ((hz).map V).toArray := A.has 10 32 rfl
  have x33 : f5.eval (.tmp 33) = .agg ((hz).map V).toArray := A.has 11 33 rfl
  have x34 : f5.eval (.tmp 34) = .int .i64 22 := A.has 12 34 rfl
  have lt_m1 := Ob.lt m1
  replace m1 := Ob.below m1 hb
  replace bl := (bl.trans (Below.mono hb bl.size))
  replace sz := A.size.trans sz
  replace df := A.defs.trans df
  clear A hb
  refine wl_one (.nw w5.heap.size 23 ((hz).map V)) rfl 3 rfl (by rw [sz]; decide) (st_alloc23 rfl _ (Nat.le_refl _)) ?_
  intro f6 w6 df2 sz2 old2 new2 hb
  replace bl0 := bl
  replace x1 := (old2 1 rfl).trans x1
  replace x2 := (old2 2 rfl).trans x2
  replace x20 := (old2 20 rfl).trans x20
  replace x32 := (old2 32 rfl).trans x32
  replace x33 := (old2 33 rfl).trans x33
  replace x34 := (old2 34 rfl).trans x34
  have x3 : Fk.f (.nw w5.heap.size 23 ((hz).map V)) (f6.eval (.tmp 3)) w6 := new2
  have lt_m1 := Ob.lt m1
  replace m1 := Ob.below m1 hb
  replace bl := (bl.trans (Below.mono hb bl.size))
  replace sz := sz2.trans sz
  replace df := df2.trans df
  clear df2 sz2 old2 new2 hb
  obtain ⟨g3, hg3, e3, m3⟩ := x3
  have x3 := e3
  clear e3
  have nm1_3 : g1 ≠ g3 := Nat.ne_of_lt (Nat.lt_of_lt_of_le lt_m1 hg3)
  have hw3 : w.heap.size ≤ g3 := Nat.le_trans bl0.size hg3
  refine wl_one (.nw w6.heap.size 23 ((hz).map V)) rfl 4 rfl (by rw [sz]; decide) (st_alloc23 rfl _ (Nat.le_refl _)) ?_
  intro f7 w7 df2 sz2 old2 new2 hb
  replace bl0 := bl
  replace x1 := (old2 1 rfl).trans x1
  replace x2 := (old2 2 rfl).trans x2
  replace x20 := (old2 20 rfl).trans x20
  replace x32 := (old2 32 rfl).trans x32
  replace x33 := (old2 33 rfl).trans x33
  replace x34 := (old2 34 rfl).trans x34
  replace x3 := (old2 3 rfl).trans x3
  have x4 : Fk.f (.nw w6.heap.size 23 ((hz).map V)) (f7.eval (.tmp 4)) w7 := new2
  have lt_m1 := Ob.lt m1
  replace m1 := Ob.below m1 hb
  have lt_m3 := Ob.lt m3
  replace m3 := Ob.below m3 hb
  replace bl := (bl.trans (Below.mono hb bl.size))
  replace sz := sz2.trans sz
  replace df := df2.trans df
  clear df2 sz2 old2 new2 hb
  obtain ⟨g4, hg4, e4, m4⟩ := x4
  have x4 := e4
  clear e4
  have nm1_4 : g1 ≠ g4 := Nat.ne_of_lt (Nat.lt_of_lt_of_le lt_m1 hg4)
  have nm3_4 : g3 ≠ g4 := Nat.ne_of_lt (Nat.lt_of_lt_of_le lt_m3 hg4)
  have hw4 : w.heap.size ≤ g4 := Nat.le_trans bl0.size hg4
  refine wl_store rfl (.tmp 3) (.tmp 32) rfl rfl (g3) (hz) (hz) x3 x32 m3 hz_len hz_len ?_
  replace m1 : Ob (w7.setRow g3 ((hz).map V : List Value).toArray) (g1) 38 (([.int .i64 ((m : Nat) : Int), .int .i64 ((n : Nat) : Int)] : List Value) ++ ((old).map V ++ ((rt).map V ++ (([.slice pA (P).length pC] : List Value))))) := Ob.setRow_other m1 _ nm1_3
  replace m3 : Ob (w7.setRow g3 ((hz).map V : List Value).toArray) (g3) 23 ((hz).map V) := Ob.setRow m3 ((hz).map V)
  replace m4 : Ob (w7.setRow g3 ((hz).map V : List Value).toArray) (g4) 23 ((hz).map V) := Ob.setRow_other m4 _ nm3_4.symm
  replace bl : Below w.heap.size w (w7.setRow g3 ((hz).map V : List Value).toArray) := bl.trans (below_setRow _ _ _ _ hw3)
  generalize w7.setRow g3 ((hz).map V : List Value).toArray = w8b at bl m1 m3 m4 ⊢
  clear x32
  refine wl_store rfl (.tmp 4) (.tmp 33) rfl rfl (g4) (hz) (hz) x4 x33 m4 hz_len hz_len ?_
  replace m1 : Ob (w8b.setRow g4 ((hz).map V : List Value).toArray) (g1) 38 (([.int .i64 ((m : Nat) : Int), .int .i64 ((n : Nat) : Int)] : List Value) ++ ((old).map V ++ ((rt).map V ++ (([.slice pA (P).length pC] : List Value))))) := Ob.setRow_other m1 _ nm1_4
  replace m3 : Ob (w8b.setRow g4 ((hz).map V : List Value).toArray) (g3) 23 ((hz).map V) := Ob.setRow_other m3 _ nm3_4
  replace m4 : Ob (w8b.setRow g4 ((hz).map V : List Value).toArray) (g4) 23 ((hz).map V) := Ob.setRow m4 ((hz).map V)
  replace bl : Below w.heap.size w (w8b.setRow g4 ((hz).map V : List Value).toArray) := bl.trans (below_setRow _ _ _ _ hw4)
  generalize w8b.setRow g4 ((hz).map V : List Value).toArray = w9b at bl m1 m3 m4 ⊢
  clear x33
  refine wl_one (.eq (.int .i64 22)) rfl 5 rfl (by rw [sz]; decide) (st_assign (.tmp 34) rfl x34) ?_
  intro f10 w10 df2 sz2 old2 new2 hb
  replace bl0 := bl
  replace x1 := (old2 1 rfl).trans x1
  replace x2 := (old2 2 rfl).trans x2
  replace x20 := (old2 20 rfl).trans x20
  replace x34 := (old2 34 rfl).trans x34
  replace x3 := (old2 3 rfl).trans x3
  replace x4 := (old2 4 rfl).trans x4
  have x5 : f10.eval (.tmp 5) = .int .i64 22 := new2
  have lt_m1 := Ob.lt m1
  replace m1 := Ob.below m1 hb
  have lt_m3 := Ob.lt m3
  replace m3 := Ob.below m3 hb
  have lt_m4 := Ob.lt m4
  replace m4 := Ob.below m4 hb
  replace bl := (bl.trans (Below.mono hb bl.size))
  replace sz := sz2.trans sz
  replace df := df2.trans df
  clear df2 sz2 old2 new2 hb
  refine wpList_nil ?_
  clear x34
  show Code.wp _ _ _ _ _
  refine wp_seq ?_
  refine wp_all_seq [.eq (.pointer (some ⟨g1, 0, none⟩)), .eq (.int .i64 ((m : Nat) : Int)), .eq (.pointer (some ⟨g1, 1, none⟩)), .eq (.int .i64 ((n : Nat) : Int)), .eq (.pointer (some ⟨g1, 2, none⟩)), .eq (.agg ((old).map V).toArray), .eq (.pointer (some ⟨g1, 34, none⟩)), .eq (.agg ((rt).map V).toArray), .eq (.pointer (some ⟨g1, 66, none⟩)), .eq (.slice pA (P).length pC), .eq (.int .i64 22), .eq (.int .i64 22)] (by kernel_rfl) (by kernel_rfl) (by rw [sz]; kernel_rfl) (by kernel_rfl) ⟨fun hw ac u K => ?_, fun hw ac u K => ?_, fun hw ac u K => ?_, fun hw ac u K => ?_, fun hw ac u K => ?_, fun hw ac u K => ?_, fun hw ac u K => ?_, fun hw ac u K => ?_, fun hw ac u K => ?_, fun hw ac u K => ?_, fun hw ac u K => ?_, fun hw ac u K => ?_, trivial⟩ ?_
  · exact st_field 38 0 (.tmp 1) rfl ((K.old 1 rfl).trans x1) (by kernel_rfl)
  · exact st_loadc 3 (.tmp 35) rfl (by kernel_rfl) (K.dep 0 35 rfl) (ob_cell_at (Ob.below m1 K.grow) (([] : List Value)) (([.int .i64 ((n : Nat) : Int)] : List Value) ++ ((old).map V ++ ((rt).map V ++ (([.slice pA (P).length pC] : List Value))))) _ 0 (by simp) (by rfl))
  · exact st_field 38 1 (.tmp 1) rfl ((K.old 1 rfl).trans x1) (by kernel_rfl)
  · exact st_loadc 3 (.tmp 37) rfl (by kernel_rfl) (K.dep 2 37 rfl) (ob_cell_at (Ob.below m1 K.grow) (([.int .i64 ((m : Nat) : Int)] : List Value)) ((old).map V ++ ((rt).map V ++ (([.slice pA (P).length pC] : List Value)))) _ 1 (by simp) (by rfl))
  · exact st_field 38 2 (.tmp 1) rfl ((K.old 1 rfl).trans x1) (by kernel_rfl)
  · exact st_loadz 23 (.tmp 39) rfl (g1) 2 ((old).map V) (by kernel_rfl) (by rw [List.length_map, hold]; kernel_rfl) (K.dep 4 39 rfl) (ob_range_at (Ob.below m1 K.grow) (([.int .i64 ((m : Nat) : Int), .int .i64 ((n : Nat) : Int)] : List Value)) ((rt).map V ++ (([.slice pA (P).length pC] : List Value))) _ 2 (by simp) (by rfl))
  · exact st_field 38 3 (.tmp 1) rfl ((K.old 1 rfl).trans x1) (by kernel_rfl)
  · exact st_loadz 23 (.tmp 41) rfl (g1) 34 ((rt).map V) (by kernel_rfl) (by rw [List.length_map, hrt]; kernel_rfl) (K.dep 6 41 rfl) (ob_range_at (Ob.below m1 K.grow) (([.int .i64 ((m : Nat) : Int), .int .i64 ((n : Nat) : Int)] : List Value) ++ ((old).map V)) (([.slice pA (P).length pC] : List Value)) _ 34 (by simp) (by simp [hold]))
  · exact st_field 38 4 (.tmp 1) rfl ((K.old 1 rfl).trans x1) (by kernel_rfl)
  · exact st_loadc 24 (.tmp 43) rfl (by kernel_rfl) (K.dep 8 43 rfl) (ob_cell_at (Ob.below m1 K.grow) (([.int .i64 ((m : Nat) : Int), .int .i64 ((n : Nat) : Int)] : List Value) ++ ((old).map V ++ ((rt).map V))) (([] : List Value)) _ 66 (by simp) (by simp [hold, hrt]))
  · exact st_call 15 (.func 15) _ _ #[.int .i64 ((m : Nat) : Int), .int .i64 ((n : Nat) : Int), .agg ((old).map V).toArray, .agg ((rt).map V).toArray, .slice pA (P).length pC] rfl rfl (arg5 (K.dep 1 36 rfl) (K.dep 3 38 rfl) (K.dep 5 40 rfl) (K.dep 7 42 rfl) (K.dep 9 44 rfl)) Tryd.enter15 (fk_on_any hold hrt hm1 hm2 hn (Fk.mono _ _ _ _ hv (bl.trans (Below.mono K.grow bl.size))) (by omega) (hK.below (bl.trans (Below.mono K.grow bl.size))) 22 (by rw [if_neg (fun h => by rw [hb] at h; cases h)]))
  · exact st_assign (.tmp 45) rfl (K.dep 10 45 rfl)
  intro f11 w11 A hb
  replace bl0 := bl
  replace x1 := (A.old 1 rfl).trans x1
  replace x2 := (A.old 2 rfl).trans x2
  replace x20 := (A.old 20 rfl).trans x20
  replace x3 := (A.old 3 rfl).trans x3
  replace x4 := (A.old 4 rfl).trans x4
  replace x5 := (A.old 5 rfl).trans x5
  have x6 : f11.eval (.tmp 6) = .int .i64 22 := A.has 11 6 rfl
  have lt_m1 := Ob.lt m1
  replace m1 := Ob.below m1 hb
  have lt_m3 := Ob.lt m3
  replace m3 := Ob.below m3 hb
  have lt_m4 := Ob.lt m4
  replace m4 := Ob.below m4 hb
  replace bl := (bl.trans (Below.mono hb bl.size))
  replace sz := A.size.trans sz
  replace df := A.defs.trans df
  clear A hb
  show Code.wp _ _ _ _ _
  refine wp_seq ?_
  refine wp_seq ?_
  refine wp_all_seq [.eq (.pointer (some ⟨g1, 0, none⟩)), .eq (.int .i64 ((m : Nat) : Int)), .eq (.bool false), .eq (.bool false), .eq (.pointer (some ⟨g1, 0, none⟩)), .eq (.int .i64 ((m : Nat) : Int)), .eq (.pointer (some ⟨g1, 1, none⟩)), .eq (.int .i64 ((n : Nat) : Int)), .eq (.bool false), .eq (.bool false)] (by kernel_rfl) (by kernel_rfl) (by rw [sz]; kernel_rfl) (by kernel_rfl) ⟨fun hw ac u K => ?_, fun hw ac u K => ?_, fun hw ac u K => ?_, fun hw ac u K => ?_, fun hw ac u K => ?_, fun hw ac u K => ?_, fun hw ac u K => ?_, fun hw ac u K => ?_, fun hw ac u K => ?_, fun hw ac u K => ?_, trivial⟩ ?_
  · exact st_field 38 0 (.tmp 1) rfl ((K.old 1 rfl).trans x1) (by kernel_rfl)
  · exact st_loadc 3 (.tmp 46) rfl (by kernel_rfl) (K.dep 0 46 rfl) (ob_cell_at (Ob.below m1 K.grow) (([] : List Value)) (([.int .i64 ((n : Nat) : Int)] : List Value) ++ ((old).map V ++ ((rt).map V ++ (([.slice pA (P).length pC] : List Value))))) _ 0 (by simp) (by rfl))
  · exact st_lss 3 (.tmp 47) (.const (.int .i64 0)) rfl .i64 (((m : Nat) : Int)) (0) (K.dep 1 47 rfl) rfl _ (by rw [eq_comm, decide_eq_false_iff_not]; omega)
  · exact st_move (.tmp 48) rfl (K.dep 2 48 rfl)
  · exact st_field 38 0 (.tmp 1) rfl ((K.old 1 rfl).trans x1) (by kernel_rfl)
  · exact st_loadc 3 (.tmp 50) rfl (by kernel_rfl) (K.dep 4 50 rfl) (ob_cell_at (Ob.below m1 K.grow) (([] : List Value)) (([.int .i64 ((n : Nat) : Int)] : List Value) ++ ((old).map V ++ ((rt).map V ++ (([.slice pA (P).length pC] : List Value))))) _ 0 (by simp) (by rfl))
  · exact st_field 38 1 (.tmp 1) rfl ((K.old 1 rfl).trans x1) (by kernel_rfl)
  · exact st_loadc 3 (.tmp 52) rfl (by kernel_rfl) (K.dep 6 52 rfl) (ob_cell_at (Ob.below m1 K.grow) (([.int .i64 ((m : Nat) : Int)] : List Value)) ((old).map V ++ ((rt).map V ++ (([.slice pA (P).length pC] : List Value)))) _ 1 (by simp) (by rfl))
  · exact st_gtr 3 (.tmp 51) (.tmp 53) rfl .i64 (((m : Nat) : Int)) (((n : Nat) : Int)) (K.dep 5 51 rfl) (K.dep 7 53 rfl) _ (by rw [eq_comm, decide_eq_false_iff_not]; omega)
  · exact st_pick_f' (.tmp 49) (.const (.bool true)) (.tmp 54) rfl (K.dep 3 49 rfl) (K.dep 8 54 rfl)
  intro f12 w12 A hb
  replace bl0 := bl
  replace x1 := (A.old 1 rfl).trans x1
  replace x2 := (A.old 2 rfl).trans x2
  replace x20 := (A.old 20 rfl).trans x20
  replace x3 := (A.old 3 rfl).trans x3
  replace x4 := (A.old 4 rfl).trans x4
  replace x5 := (A.old 5 rfl).trans x5
  replace x6 := (A.old 6 rfl).trans x6
  have x55 : f12.eval (.tmp 55) = .bool false := A.has 9 55 rfl
  have lt_m1 := Ob.lt m1
  replace m1 := Ob.below m1 hb
  have lt_m3 := Ob.lt m3
  replace m3 := Ob.below m3 hb
  have lt_m4 := Ob.lt m4
  replace m4 := Ob.below m4 hb
  replace bl := (bl.trans (Below.mono hb bl.size))
  replace sz := A.size.trans sz
  replace df := A.defs.trans df
  clear A hb
  show Code.wp _ _ _ _ _
  refine wp_cond_false x55 ?_
  refine wp_skip ?_
  show Code.wp _ _ _ _ _
  refine wp_seq ?_
  refine wp_seq ?_
  refine wp_all_seq [.eq (.pointer (some ⟨g1, 0, none⟩)), .eq (.int .i64 ((m : Nat) : Int)), .eq (.bool false)] (by kernel_rfl) (by kernel_rfl) (by rw [sz]; kernel_rfl) (by kernel_rfl) ⟨fun hw ac u K => ?_, fun hw ac u K => ?_, fun hw ac u K => ?_, trivial⟩ ?_
  · exact st_field 38 0 (.tmp 1) rfl ((K.old 1 rfl).trans x1) (by kernel_rfl)
  · exact st_loadc 3 (.tmp 75) rfl (by kernel_rfl) (K.dep 0 75 rfl) (ob_cell_at (Ob.below m1 K.grow) (([] : List Value)) (([.int .i64 ((n : Nat) : Int)] : List Value) ++ ((old).map V ++ ((rt).map V ++ (([.slice pA (P).length pC] : List Value))))) _ 0 (by simp) (by rfl))
  · exact st_eqi 3 (.tmp 76) (.const (.int .i64 0)) rfl .i64 (((m : Nat) : Int)) (0) (K.dep 1 76 rfl) rfl _ (by rw [eq_comm, decide_eq_false_iff_not]; omega)
  intro f13 w13 A hb
  replace bl0 := bl
  replace x1 := (A.old 1 rfl).trans x1
  replace x2 := (A.old 2 rfl).trans x2
  replace x20 := (A.old 20 rfl).trans x20
  replace x3 := (A.old 3 rfl).trans x3
  replace x4 := (A.old 4 rfl).trans x4
  replace x5 := (A.old 5 rfl).trans x5
  replace x6 := (A.old 6 rfl).trans x6
  replace x55 := (A.old 55 rfl).trans x55
  have x77 : f13.eval (.tmp 77) = .bool false := A.has 2 77 rfl
  have lt_m1 := Ob.lt m1
  replace m1 := Ob.below m1 hb
  have lt_m3 := Ob.lt m3
  replace m3 := Ob.below m3 hb
  have lt_m4 := Ob.lt m4
  replace m4 := Ob.below m4 hb
  replace bl := (bl.trans (Below.mono hb bl.size))
  replace sz := A.size.trans sz
  replace df := A.defs.trans df
  clear A hb
  show Code.wp _ _ _ _ _
  refine wp_cond_false x77 ?_
  refine wp_skip ?_
  show Code.wp _ _ _ _ _
  refine wp_seq ?_
  refine wp_region_seq [.eq (.agg (([.int .i64 ((m : Nat) : Int), .int .i64 ((n : Nat) : Int)] : List Value) ++ ((old).map V ++ ((rt).map V ++ (([.slice pA (P).length pC] : List Value))))).toArray), .eq (.tuple #[.agg ((hz).map V).toArray, .agg ((hz).map V).toArray, .bool false]), .eq (.tuple #[.agg ((hz).map V).toArray, .agg ((hz).map V).toArray, .bool false]), .eq (.agg ((hz).map V).toArray), .eq (.agg ((hz).map V).toArray), .eq (.bool false)] (by kernel_rfl) (by kernel_rfl) (by rw [sz]; kernel_rfl) (by kernel_rfl) ⟨fun hw ac u K => ?_, fun hw ac u K => ?_, fun hw ac u K => ?_, fun hw ac u K => ?_, fun hw ac u K => ?_, fun hw ac u K => ?_, trivial⟩ ?_
  · exact st_loadz 38 (.tmp 1) rfl (g1) 0 (([.int .i64 ((m : Nat) : Int), .int .i64 ((n : Nat) : Int)] : List Value) ++ ((old).map V ++ ((rt).map V ++ (([.slice pA (P).length pC] : List Value))))) (by kernel_rfl) (by simp only [List.length_append, List.length_map, List.length_cons, List.length_nil, hold, hrt]; kernel_rfl) ((K.old 1 rfl).trans x1) (Ob.range (Ob.below m1 K.grow) 0 _ (fun j v hj => by simpa using hj))
  · exact st_call 17 (.func 17) _ _ #[.agg (([.int .i64 ((m : Nat) : Int), .int .i64 ((n : Nat) : Int)] : List Value) ++ ((old).map V ++ ((rt).map V ++ (([.slice pA (P).length pC] : List Value))))).toArray] rfl rfl (one_arg (K.dep 0 138 rfl)) Tryd.enter17 (fk_of (lboth_bad hold hrt _ (hK.below (bl.trans (Below.mono K.grow bl.size))) (Fk.mono _ _ _ _ hv (bl.trans (Below.mono K.grow bl.size))) hm1 hm2 hn hb))
  · exact st_move (.tmp 139) rfl (K.dep 1 139 rfl)
  · exact st_tri0 (.tmp 137) rfl (K.dep 2 137 rfl)
  · exact st_tri1 (.tmp 137) rfl (K.dep 2 137 rfl)
  · exact st_tri2 (.tmp 137) rfl (K.dep 2 137 rfl)
  intro f14 w14 A hb
  replace bl0 := bl
  replace x1 := (A.old 1 rfl).trans x1
  replace x2 := (A.old 2 rfl).trans x2
  replace x20 := (A.old 20 rfl).trans x20
  replace x3 := (A.old 3 rfl).trans x3
  replace x4 := (A.old 4 rfl).trans x4
  replace x5 := (A.old 5 rfl).trans x5
  replace x6 := (A.old 6 rfl).trans x6
  replace x55 := (A.old 55 rfl).trans x55
  replace x77 := (A.old 77 rfl).trans x77
  have x140 : f14.eval (.tmp 140) = .agg ((hz).map V).toArray := A.has 3 140 rfl
  have x141 : f14.eval (.tmp 141) = .agg ((hz).map V).toArray := A.has 4 141 rfl
  have x142 : f14.eval (.tmp 142) = .bool false := A.has 5 142 rfl
  have lt_m1 := Ob.lt m1
  replace m1 := Ob.below m1 hb
  have lt_m3 := Ob.lt m3
  replace m3 := Ob.below m3 hb
  have lt_m4 := Ob.lt m4
  replace m4 := Ob.below m4 hb
  replace bl := (bl.trans (Below.mono hb bl.size))
  replace sz := A.size.trans sz
  replace df := A.defs.trans df
  clear A hb
  refine wl_one (.nw w14.heap.size 23 ((hz).map V)) rfl 8 rfl (by rw [sz]; decide) (st_alloc23 rfl _ (Nat.le_refl _)) ?_
  intro f15 w15 df2 sz2 old2 new2 hb
  replace bl0 := bl
  replace x1 := (old2 1 rfl).trans x1
  replace x2 := (old2 2 rfl).trans x2
  replace x20 := (old2 20 rfl).trans x20
  replace x3 := (old2 3 rfl).trans x3
  replace x4 := (old2 4 rfl).trans x4
  replace x5 := (old2 5 rfl).trans x5
  replace x6 := (old2 6 rfl).trans x6
  replace x55 := (old2 55 rfl).trans x55
  replace x77 := (old2 77 rfl).trans x77
  replace x140 := (old2 140 rfl).trans x140
  replace x141 := (old2 141 rfl).trans x141
  replace x142 := (old2 142 rfl).trans x142
  have x8 : Fk.f (.nw w14.heap.size 23 ((hz).map V)) (f15.eval (.tmp 8)) w15 := new2
  have lt_m1 := Ob.lt m1
  replace m1 := Ob.below m1 hb
  have lt_m3 := Ob.lt m3
  replace m3 := Ob.below m3 hb
  have lt_m4 := Ob.lt m4
  replace m4 := Ob.below m4 hb
  replace bl := (bl.trans (Below.mono hb bl.size))
  replace sz := sz2.trans sz
  replace df := df2.trans df
  clear df2 sz2 old2 new2 hb
  obtain ⟨g8, hg8, e8, m8⟩ := x8
  have x8 := e8
  clear e8
  have nm1_8 : g1 ≠ g8 := Nat.ne_of_lt (Nat.lt_of_lt_of_le lt_m1 hg8)
  have nm3_8 : g3 ≠ g8 := Nat.ne_of_lt (Nat.lt_of_lt_of_le lt_m3 hg8)
  have nm4_8 : g4 ≠ g8 := Nat.ne_of_lt (Nat.lt_of_lt_of_le lt_m4 hg8)
  have hw8 : w.heap.size ≤ g8 := Nat.le_trans bl0.size hg8
  refine wl_one (.nw w15.heap.size 23 ((hz).map V)) rfl 9 rfl (by rw [sz]; decide) (st_alloc23 rfl _ (Nat.le_refl _)) ?_
  intro f16 w16 df2 sz2 old2 new2 hb
  replace bl0 := bl
  replace x1 := (old2 1 rfl).trans x1
  replace x2 := (old2 2 rfl).trans x2
  replace x20 := (old2 20 rfl).trans x20
  replace x3 := (old2 3 rfl).trans x3
  replace x4 := (old2 4 rfl).trans x4
  replace x5 := (old2 5 rfl).trans x5
  replace x6 := (old2 6 rfl).trans x6
  replace x55 := (old2 55 rfl).trans x55
  replace x77 := (old2 77 rfl).trans x77
  replace x140 := (old2 140 rfl).trans x140
  replace x141 := (old2 141 rfl).trans x141
  replace x142 := (old2 142 rfl).trans x142
  replace x8 := (old2 8 rfl).trans x8
  have x9 : Fk.f (.nw w15.heap.size 23 ((hz).map V)) (f16.eval (.tmp 9)) w16 := new2
  have lt_m1 := Ob.lt m1
  replace m1 := Ob.below m1 hb
  have lt_m3 := Ob.lt m3
  replace m3 := Ob.below m3 hb
  have lt_m4 := Ob.lt m4
  replace m4 := Ob.below m4 hb
  have lt_m8 := Ob.lt m8
  replace m8 := Ob.below m8 hb
  replace bl := (bl.trans (Below.mono hb bl.size))
  replace sz := sz2.trans sz
  replace df := df2.trans df
  clear df2 sz2 old2 new2 hb
  obtain ⟨g9, hg9, e9, m9⟩ := x9
  have x9 := e9
  clear e9
  have nm1_9 : g1 ≠ g9 := Nat.ne_of_lt (Nat.lt_of_lt_of_le lt_m1 hg9)
  have nm3_9 : g3 ≠ g9 := Nat.ne_of_lt (Nat.lt_of_lt_of_le lt_m3 hg9)
  have nm4_9 : g4 ≠ g9 := Nat.ne_of_lt (Nat.lt_of_lt_of_le lt_m4 hg9)
  have nm8_9 : g8 ≠ g9 := Nat.ne_of_lt (Nat.lt_of_lt_of_le lt_m8 hg9)
  have hw9 : w.heap.size ≤ g9 := Nat.le_trans bl0.size hg9
  refine wl_store rfl (.tmp 8) (.tmp 140) rfl rfl (g8) (hz) (hz) x8 x140 m8 hz_len hz_len ?_
  replace m1 : Ob (w16.setRow g8 ((hz).map V : List Value).toArray) (g1) 38 (([.int .i64 ((m : Nat) : Int), .int .i64 ((n : Nat) : Int)] : List Value) ++ ((old).map V ++ ((rt).map V ++ (([.slice pA (P).length pC] : List Value))))) := Ob.setRow_other m1 _ nm1_8
  replace m3 : Ob (w16.setRow g8 ((hz).map V : List Value).toArray) (g3) 23 ((hz).map V) := Ob.setRow_other m3 _ nm3_8
  replace m4 : Ob (w16.setRow g8 ((hz).map V : List Value).toArray) (g4) 23 ((hz).map V) := Ob.setRow_other m4 _ nm4_8
  replace m8 : Ob (w16.setRow g8 ((hz).map V : List Value).toArray) (g8) 23 ((hz).map V) := Ob.setRow m8 ((hz).map V)
  replace m9 : Ob (w16.setRow g8 ((hz).map V : List Value).toArray) (g9) 23 ((hz).map V) := Ob.setRow_other m9 _ nm8_9.symm
  replace bl : Below w.heap.size w (w16.setRow g8 ((hz).map V : List Value).toArray) := bl.trans (below_setRow _ _ _ _ hw8)
  generalize w16.setRow g8 ((hz).map V : List Value).toArray = w17b at bl m1 m3 m4 m8 m9 ⊢
  clear x140
  refine wl_store rfl (.tmp 9) (.tmp 141) rfl rfl (g9) (hz) (hz) x9 x141 m9 hz_len hz_len ?_
  replace m1 : Ob (w17b.setRow g9 ((hz).map V : List Value).toArray) (g1) 38 (([.int .i64 ((m : Nat) : Int), .int .i64 ((n : Nat) : Int)] : List Value) ++ ((old).map V ++ ((rt).map V ++ (([.slice pA (P).length pC] : List Value))))) := Ob.setRow_other m1 _ nm1_9
  replace m3 : Ob (w17b.setRow g9 ((hz).map V : List Value).toArray) (g3) 23 ((hz).map V) := Ob.setRow_other m3 _ nm3_9
  replace m4 : Ob (w17b.setRow g9 ((hz).map V : List Value).toArray) (g4) 23 ((hz).map V) := Ob.setRow_other m4 _ nm4_9
  replace m8 : Ob (w17b.setRow g9 ((hz).map V : List Value).toArray) (g8) 23 ((hz).map V) := Ob.setRow_other m8 _ nm8_9
  replace m9 : Ob (w17b.setRow g9 ((hz).map V : List Value).toArray) (g9) 23 ((hz).map V) := Ob.setRow m9 ((hz).map V)
  replace bl : Below w.heap.size w (w17b.setRow g9 ((hz).map V : List Value).toArray) := bl.trans (below_setRow _ _ _ _ hw9)
  generalize w17b.setRow g9 ((hz).map V : List Value).toArray = w18b at bl m1 m3 m4 m8 m9 ⊢
  clear x141
  refine wl_one (.eq (.bool false)) rfl 10 rfl (by rw [sz]; decide) (st_assign (.tmp 142) rfl x142) ?_
  intro f19 w19 df2 sz2 old2 new2 hb
  replace bl0 := bl
  replace x1 := (old2 1 rfl).trans x1
  replace x2 := (old2 2 rfl).trans x2
  replace x20 := (old2 20 rfl).trans x20
  replace x3 := (old2 3 rfl).trans x3
  replace x4 := (old2 4 rfl).trans x4
  replace x5 := (old2 5 rfl).trans x5
  replace x6 := (old2 6 rfl).trans x6
  replace x55 := (old2 55 rfl).trans x55
  replace x77 := (old2 77 rfl).trans x77
  replace x142 := (old2 142 rfl).trans x142
  replace x8 := (old2 8 rfl).trans x8
  replace x9 := (old2 9 rfl).trans x9
  have x10 : f19.eval (.tmp 10) = .bool false := new2
  have lt_m1 := Ob.lt m1
  replace m1 := Ob.below m1 hb
  have lt_m3 := Ob.lt m3
  replace m3 := Ob.below m3 hb
  have lt_m4 := Ob.lt m4
  replace m4 := Ob.below m4 hb
  have lt_m8 := Ob.lt m8
  replace m8 := Ob.below m8 hb
  have lt_m9 := Ob.lt m9
  replace m9 := Ob.below m9 hb
  replace bl := (bl.trans (Below.mono hb bl.size))
  replace sz := sz2.trans sz
  replace df := df2.trans df
  clear df2 sz2 old2 new2 hb
  refine wpList_nil ?_
  clear x142
  show Code.wp _ _ _ _ _
  refine wp_seq ?_
  refine wp_seq ?_
  refine wp_all_seq [.eq (.bool false), .eq (.bool true)] (by kernel_rfl) (by kernel_rfl) (by rw [sz]; kernel_rfl) (by kernel_rfl) ⟨fun hw ac u K => ?_, fun hw ac u K => ?_, trivial⟩ ?_
  · exact st_move (.tmp 10) rfl ((K.old 10 rfl).trans x10)
  · exact st_not (.tmp 143) rfl false (K.dep 0 143 rfl)
  intro f20 w20 A hb
  replace bl0 := bl
  replace x1 := (A.old 1 rfl).trans x1
  replace x2 := (A.old 2 rfl).trans x2
  replace x20 := (A.old 20 rfl).trans x20
  replace x3 := (A.old 3 rfl).trans x3
  replace x4 := (A.old 4 rfl).trans x4
  replace x5 := (A.old 5 rfl).trans x5
  replace x6 := (A.old 6 rfl).trans x6
  replace x55 := (A.old 55 rfl).trans x55
  replace x77 := (A.old 77 rfl).trans x77
  replace x8 := (A.old 8 rfl).trans x8
  replace x9 := (A.old 9 rfl).trans x9
  replace x10 := (A.old 10 rfl).trans x10
  have x144 : f20.eval (.tmp 144) = .bool true := A.has 1 144 rfl
  have lt_m1 := Ob.lt m1
  replace m1 := Ob.below m1 hb
  have lt_m3 := Ob.lt m3
  replace m3 := Ob.below m3 hb
  have lt_m4 := Ob.lt m4
  replace m4 := Ob.below m4 hb
  have lt_m8 := Ob.lt m8
  replace m8 := Ob.below m8 hb
  have lt_m9 := Ob.lt m9
  replace m9 := Ob.below m9 hb
  replace bl := (bl.trans (Below.mono hb bl.size))
  replace sz := A.size.trans sz
  replace df := A.defs.trans df
  clear A hb
  clear x10
  show Code.wp _ _ _ _ _
  refine wp_cond_true x144 ?_
  refine wp_seq ?_
  refine wp_all_seq [.eq (.int .i64 22), .eq (.bool true), .eq (.bool true), .eq (.agg ((hz).map V).toArray), .eq (.agg ((hz).map V).toArray), .eq (.bool true), .eq (.bool true), .eq (.bool true), .eq (.agg ((hz).map V).toArray), .eq (.agg ((hz).map V).toArray), .eq (.bool true), .eq (.bool true), .eq (.bool true), .eq (.int .i64 22), .eq (.bool true), .eq (.bool true), .eq (.bool true), .eq (.bool true), .eq (.bool true), .eq (.bool true)] (by kernel_rfl) (by kernel_rfl) (by rw [sz]; kernel_rfl) (by kernel_rfl) ⟨fun hw ac u K => ?_, fun hw ac u K => ?_, fun hw ac u K => ?_, fun hw ac u K => ?_, fun hw ac u K => ?_, fun hw ac u K => ?_, fun hw ac u K => ?_, fun hw ac u K => ?_, fun hw ac u K => ?_, fun hw ac u K => ?_, fun hw ac u K => ?_, fun hw ac u K => ?_, fun hw ac u K => ?_, fun hw ac u K => ?_, fun hw ac u K => ?_, fun hw ac u K => ?_, fun hw ac u K => ?_, fun hw ac u K => ?_, fun hw ac u K => ?_, fun hw ac u K => ?_, trivial⟩ ?_
  · exact st_move (.tmp 5) rfl ((K.old 5 rfl).trans x5)
  · exact st_eqi 28 (.tmp 145) (.const (.int .i64 22)) rfl .i64 (22) (22) (K.dep 0 145 rfl) rfl _ (by rfl)
  · exact st_move (.tmp 146) rfl (K.dep 1 146 rfl)
  · exact st_load23 (.tmp 3) rfl (g3) (hz) ((K.old 3 rfl).trans x3) hz_len (Ob.below m3 K.grow)
  · exact st_zero23 rfl
  · exact st_eqh (.tmp 148) (.tmp 149) rfl (hz) (hz) hz_len hz_len (K.dep 3 148 rfl) (K.dep 4 149 rfl) _ (by simp)
  · exact st_pick_t (.tmp 147) (.tmp 150) (.const (.bool false)) rfl (K.dep 2 147 rfl) (K.dep 5 150 rfl)
  · exact st_move (.tmp 151) rfl (K.dep 6 151 rfl)
  · exact st_load23 (.tmp 4) rfl (g4) (hz) ((K.old 4 rfl).trans x4) hz_len (Ob.below m4 K.grow)
  · exact st_zero23 rfl
  · exact st_eqh (.tmp 153) (.tmp 154) rfl (hz) (hz) hz_len hz_len (K.dep 8 153 rfl) (K.dep 9 154 rfl) _ (by simp)
  · exact st_pick_t (.tmp 152) (.tmp 155) (.const (.bool false)) rfl (K.dep 7 152 rfl) (K.dep 10 155 rfl)
  · exact st_move (.tmp 156) rfl (K.dep 11 156 rfl)
  · exact st_move (.tmp 6) rfl ((K.old 6 rfl).trans x6)
  · exact st_eqi 28 (.tmp 158) (.const (.int .i64 22)) rfl .i64 (22) (22) (K.dep 13 158 rfl) rfl _ (by rfl)
  · exact st_pick_t (.tmp 157) (.tmp 159) (.const (.bool false)) rfl (K.dep 12 157 rfl) (K.dep 14 159 rfl)
  · exact st_move (.tmp 160) rfl (K.dep 15 160 rfl)
  · exact st_call 8 (.func 8) _ _ #[] rfl rfl rfl Tryd.enter8 (fk_of (awake_any _ (hK.below (bl.trans (Below.mono K.grow bl.size)))))
  · exact st_pick_t (.tmp 161) (.tmp 162) (.const (.bool false)) rfl (K.dep 16 161 rfl) (K.dep 17 162 rfl)
  · exact st_assign (.tmp 163) rfl (K.dep 18 163 rfl)
  intro f21 w21 A hb
  replace bl0 := bl
  replace x1 := (A.old 1 rfl).trans x1
  clear x2
  replace x20 := (A.old 20 rfl).trans x20
  replace x3 := (A.old 3 rfl).trans x3
  replace x4 := (A.old 4 rfl).trans x4
  replace x5 := (A.old 5 rfl).trans x5
  replace x6 := (A.old 6 rfl).trans x6
  replace x55 := (A.old 55 rfl).trans x55
  replace x77 := (A.old 77 rfl).trans x77
  replace x8 := (A.old 8 rfl).trans x8
  replace x9 := (A.old 9 rfl).trans x9
  replace x144 := (A.old 144 rfl).trans x144
  have x2 : f21.eval (.tmp 2) = .bool true := A.has 19 2 rfl
  have lt_m1 := Ob.lt m1
  replace m1 := Ob.below m1 hb
  have lt_m3 := Ob.lt m3
  replace m3 := Ob.below m3 hb
  have lt_m4 := Ob.lt m4
  replace m4 := Ob.below m4 hb
  have lt_m8 := Ob.lt m8
  replace m8 := Ob.below m8 hb
  have lt_m9 := Ob.lt m9
  replace m9 := Ob.below m9 hb
  replace bl := (bl.trans (Below.mono hb bl.size))
  replace sz := A.size.trans sz
  replace df := A.defs.trans df
  clear A hb
  show Code.wp _ _ _ _ _
  refine wp_ret ?_
  repeat (first | with_reducible refine then_ret ?_ | with_reducible refine block_ret ?_)
  exact bodyPost_ret (v := .bool true) (ret_slot rfl f21 _ x2 _ _) df ⟨rfl, bl⟩
set_option maxHeartbeats 1000000 in
theorem both_good {old rt : List (BitVec 8)} (hold : old.length = 32) (hrt : rt.length = 32) {P : List (List (BitVec 8))} {pA : Option Addr} {pC : Nat} (w : World) (hK : Tab w) (hv : (Fk.hc P).f (.slice pA (P).length pC) w) (h80 : P.length ≤ 80) {m n : Nat} (hm1 : 1 ≤ m) (hm2 : m ≤ n) (hn : n ≤ 1152921504606846976) {x y : List (BitVec 8)} (hb : bres old P (stp m n true).1 (stp m n true).2 = some (x, y)) :
    Calls Tryd.prog 4 #[.agg (([.int .i64 ((m : Nat) : Int), .int .i64 ((n : Nat) : Int)] : List Value) ++ ((old).map V ++ ((rt).map V ++ (([.slice pA (P).length pC] : List Value))))).toArray] w fun e w' => e = .returned (.bool true) ∧ Below w.heap.size w w' := by
  have hvs := hc_hs hv
  obtain ⟨hx, hy⟩ := bres_len hold (fun p hp => hc_len hv p hp) hb
  go_enter Tryd.func4, Tryd.ntmps4
  refine code_both (fun f w1 => f.tmps.size = 194 ∧ f.defers = [] ∧ f.eval (.tmp 0) = .agg (([.int .i64 ((m : Nat) : Int), .int .i64 ((n : Nat) : Int)] : List Value) ++ ((old).map V ++ ((rt).map V ++ (([.slice pA (P).length pC] : List Value))))).toArray ∧ Below w.heap.size w (w1)) ⟨rfl, rfl, rfl, Below.refl _ _⟩ ?_
  rintro f0 w0 ⟨sz, df, x0, bl⟩
  have bl0 := bl
  refine wp_seq ?_
  refine wp_region_seq [] (by kernel_rfl) (by kernel_rfl) (by rw [sz]; kernel_rfl) (by kernel_rfl) trivial ?_
  intro f1 w1 A hb
  replace bl0 := bl
  replace x0 := (A.old 0 rfl).trans x0
  replace bl := (bl.trans (Below.mono hb bl.size))
  replace sz := A.size.trans sz
  replace df := A.defs.trans df
  clear A hb
  refine wl_one (.nw w1.heap.size 38 (([.int .i64 ((m : Nat) : Int), .int .i64 ((n : Nat) : Int)] : List Value) ++ ((old).map V ++ ((rt).map V ++ (([.slice pA (P).length pC] : List Value)))))) rfl 1 rfl (by rw [sz]; decide) (st_box 38 (.tmp 0) rfl _ _ (by rw [show _ = _ from x0]; kernel_rfl) (Nat.le_refl _)) ?_
  intro f2 w2 df2 sz2 old2 new2 hb
  replace bl0 := bl
  replace x0 := (old2 0 rfl).trans x0
  have x1 : Fk.f (.nw w1.heap.size 38 (([.int .i64 ((m : Nat) : Int), .int .i64 ((n : Nat) : Int)] : List Value) ++ ((old).map V ++ ((rt).map V ++ (([.slice pA (P).length pC] : List Value)))))) (f2.eval (.tmp 1)) w2 := new2
  replace bl := (bl.trans (Below.mono hb bl.size))
  replace sz := sz2.trans sz
  replace df := df2.trans df
  clear df2 sz2 old2 new2 hb
  obtain ⟨g1, hg1, e1, m1⟩ := x1
  have x1 := e1
  clear e1
  have hw1 : w.heap.size ≤ g1 := Nat.le_trans bl0.size hg1
  clear x0
  refine wl_one (.eq (.bool false)) rfl 2 rfl (by rw [sz]; decide) (st_assign (.const (.bool false)) rfl rfl) ?_
  intro f3 w3 df2 sz2 old2 new2 hb
  replace bl0 := bl
  replace x1 := (old2 1 rfl).trans x1
  have x2 : f3.eval (.tmp 2) = .bool false := new2
  have lt_m1 := Ob.lt m1
  replace m1 := Ob.below m1 hb
  replace bl := (bl.trans (Below.mono hb bl.size))
  replace sz := sz2.trans sz
  replace df := df2.trans df
  clear df2 sz2 old2 new2 hb
  refine wpList_nil ?_
  show Code.wp _ _ _ _ _
  refine wp_seq ?_
  refine wp_seq ?_
  refine wp_all_seq [.eq (.pointer (some ⟨g1, 66, none⟩)), .eq (.slice pA (P).length pC), .eq (.int .i64 (((P).length : Nat) : Int)), .eq (.bool false), .eq (.bool false), .eq (.pointer (some ⟨g1, 1, none⟩)), .eq (.int .i64 ((n : Nat) : Int)), .eq (.bool false), .eq (.bool false)] (by kernel_rfl) (by kernel_rfl) (by rw [sz]; kernel_rfl) (by kernel_rfl) ⟨fun hw ac u K => ?_, fun hw ac u K => ?_, fun hw ac u K => ?_, fun hw ac u K => ?_, fun hw ac u K => ?_, fun hw ac u K => ?_, fun hw ac u K => ?_, fun hw ac u K => ?_, fun hw ac u K => ?_, trivial⟩ ?_
  · exact st_field 38 4 (.tmp 1) rfl ((K.old 1 rfl).trans x1) (by kernel_rfl)
  · exact st_loadc 24 (.tmp 12) rfl (by kernel_rfl) (K.dep 0 12 rfl) (ob_cell_at (Ob.below m1 K.grow) (([.int .i64 ((m : Nat) : Int), .int .i64 ((n : Nat) : Int)] : List Value) ++ ((old).map V ++ ((rt).map V))) (([] : List Value)) _ 66 (by simp) (by simp [hold, hrt]))
  · exact st_lenc (.tmp 13) rfl ((P).length) rfl (fk_val (K.dep 1 13 rfl) (Fk.mono _ _ _ _ hv (bl.trans (Below.mono K.grow bl.size))))
  · exact st_gtr 3 (.tmp 14) (.const (.int .i64 80)) rfl .i64 ((((P).length : Nat) : Int)) (80) (K.dep 2 14 rfl) rfl _ (by rw [eq_comm, decide_eq_false_iff_not]; omega)
  · exact st_move (.tmp 15) rfl (K.dep 3 15 rfl)
  · exact st_field 38 1 (.tmp 1) rfl ((K.old 1 rfl).trans x1) (by kernel_rfl)
  · exact st_loadc 3 (.tmp 17) rfl (by kernel_rfl) (K.dep 5 17 rfl) (ob_cell_at (Ob.below m1 K.grow) (([.int .i64 ((m : Nat) : Int)] : List Value)) ((old).map V ++ ((rt).map V ++ (([.slice pA (P).length pC] : List Value)))) _ 1 (by simp) (by rfl))
  · exact st_gtr 3 (.tmp 18) (.const (.int .i64 1152921504606846976)) rfl .i64 (((n : Nat) : Int)) (1152921504606846976) (K.dep 6 18 rfl) rfl _ (by rw [eq_comm, decide_eq_false_iff_not]; omega)
  · exact st_pick_f' (.tmp 16) (.const (.bool true)) (.tmp 19) rfl (K.dep 4 16 rfl) (K.dep 7 19 rfl)
  intro f4 w4 A hb
  replace bl0 := bl
  replace x1 := (A.old 1 rfl).trans x1
  replace x2 := (A.old 2 rfl).trans x2
  have x20 : f4.eval (.tmp 20) = .bool false := A.has 8 20 rfl
  have lt_m1 := Ob.lt m1
  replace m1 := Ob.below m1 hb
  replace bl := (bl.trans (Below.mono hb bl.size))
  replace sz := A.size.trans sz
  replace df := A.defs.trans df
  clear A hb
  show Code.wp _ _ _ _ _
  refine wp_cond_false x20 ?_
  refine wp_skip ?_
  show Code.wp _ _ _ _ _
  refine wp_seq ?_
  refine wp_region_seq [.eq (.pointer (some ⟨g1, 0, none⟩)), .eq (.int .i64 ((m : Nat) : Int)), .eq (.pointer (some ⟨g1, 1, none⟩)), .eq (.int .i64 ((n : Nat) : Int)), .eq (.pointer (some ⟨g1, 2, none⟩)), .eq (.agg ((old).map V).toArray), .eq (.pointer (some ⟨g1, 66, none⟩)), .eq (.slice pA (P).length pC), .eq (.tuple #[.agg ((x).map V).toArray, .agg ((y).map V).toArray, .int .i64 0]), .eq (.tuple #[.agg ((x).map V).toArray, .agg ((y).map V).toArray, .int .i64 0]), .eq (.agg ((x).map V).toArray), .eq (.agg ((y).map V).toArray), .eq (.int .i64 0)] (by kernel_rfl) (by kernel_rfl) (by rw [sz]; kernel_rfl) (by kernel_rfl) ⟨fun hw ac u K => ?_, fun hw ac u K => ?_, fun hw ac u K => ?_, fun hw ac u K => ?_, fun hw ac u K => ?_, fun hw ac u K => ?_, fun hw ac u K => ?_, fun hw ac u K => ?_, fun hw ac u K => ?_, fun hw ac u K => ?_, fun hw ac u K => ?_, fun hw ac u K => ?_, fun hw ac u K => ?_, trivial⟩ ?_
  · exact st_field 38 0 (.tmp 1) rfl ((K.old 1 rfl).trans x1) (by kernel_rfl)
  · exact st_loadc 3 (.tmp 23) rfl (by kernel_rfl) (K.dep 0 23 rfl) (ob_cell_at (Ob.below m1 K.grow) (([] : List Value)) (([.int .i64 ((n : Nat) : Int)] : List Value) ++ ((old).map V ++ ((rt).map V ++ (([.slice pA (P).length pC] : List Value))))) _ 0 (by simp) (by rfl))
  · exact st_field 38 1 (.tmp 1) rfl ((K.old 1 rfl).trans x1) (by kernel_rfl)
  · exact st_loadc 3 (.tmp 25) rfl (by kernel_rfl) (K.dep 2 25 rfl) (ob_cell_at (Ob.below m1 K.grow) (([.int .i64 ((m : Nat) : Int)] : List Value)) ((old).map V ++ ((rt).map V ++ (([.slice pA (P).length pC] : List Value)))) _ 1 (by simp) (by rfl))
  · exact st_field 38 2 (.tmp 1) rfl ((K.old 1 rfl).trans x1) (by kernel_rfl)
  · exact st_loadz 23 (.tmp 27) rfl (g1) 2 ((old).map V) (by kernel_rfl) (by rw [List.length_map, hold]; kernel_rfl) (K.dep 4 27 rfl) (ob_range_at (Ob.below m1 K.grow) (([.int .i64 ((m : Nat) : Int), .int .i64 ((n : Nat) : Int)] : List Value)) ((rt).map V ++ (([.slice pA (P).length pC] : List Value))) _ 2 (by simp) (by rfl))
  · exact st_field 38 4 (.tmp 1) rfl ((K.old 1 rfl).trans x1) (by kernel_rfl)
  · exact st_loadc 24 (.tmp 29) rfl (by kernel_rfl) (K.dep 6 29 rfl) (ob_cell_at (Ob.below m1 K.grow) (([.int .i64 ((m : Nat) : Int), .int .i64 ((n : Nat) : Int)] : List Value) ++ ((old).map V ++ ((rt).map V))) (([] : List Value)) _ 66 (by simp) (by simp [hold, hrt]))
  · exact st_call 14 (.func 14) _ _ #[.int .i64 ((m : Nat) : Int), .int .i64 ((n : Nat) : Int), .agg ((old).map V).toArray, .slice pA (P).length pC] rfl rfl (arg4 (K.dep 1 24 rfl) (K.dep 3 26 rfl) (K.dep 5 28 rfl) (K.dep 7 30 rfl)) Tryd.enter14 (fk_both_ok hold hm1 hm2 hn (Fk.mono _ _ _ _ hv (bl.trans (Below.mono K.grow bl.size))) (by omega) (hK.below (bl.trans (Below.mono K.grow bl.size))) hb)
  · exact st_move (.tmp 31) rfl (K.dep 8 31 rfl)
  · exact st_tri0 (.tmp 22) rfl (K.dep 9 22 rfl)
  · exact st_tri1 (.tmp 22) rfl (K.dep 9 22 rfl)
  · exact st_tri2 (.tmp 22) rfl (K.dep 9 22 rfl)
  intro f5 w5 A hb
  replace bl0 := bl
  replace x1 := (A.old 1 rfl).trans x1
  replace x2 := (A.old 2 rfl).trans x2
  replace x20 := (A.old 20 rfl).trans x20
  have x32 : f5.eval (.tmp 32) = .agg ((x).map V).toArray := A.has 10 32 rfl
  have x33 : f5.eval (.tmp 33) = .agg ((y).map V).toArray := A.has 11 33 rfl
  have x34 : f5.eval (.tmp 34) = .int .i64 0 := A.has 12 34 rfl
  have lt_m1 := Ob.lt m1
  replace m1 := Ob.below m1 hb
  replace bl := (bl.trans (Below.mono hb bl.size))
  replace sz := A.size.trans sz
  replace df := A.defs.trans df
  clear A hb
  refine wl_one (.nw w5.heap.size 23 ((hz).map V)) rfl 3 rfl (by rw [sz]; decide) (st_alloc23 rfl _ (Nat.le_refl _)) ?_
  intro f6 w6 df2 sz2 old2 new2 hb
  replace bl0 := bl
  replace x1 := (old2 1 rfl).trans x1
  replace x2 := (old2 2 rfl).trans x2
  replace x20 := (old2 20 rfl).trans x20
  replace x32 := (old2 32 rfl).trans x32
  replace x33 := (old2 33 rfl).trans x33
  replace x34 := (old2 34 rfl).trans x34
  have x3 : Fk.f (.nw w5.heap.size 23 ((hz).map V)) (f6.eval (.tmp 3)) w6 := new2
  have lt_m1 := Ob.lt m1
  replace m1 := Ob.below m1 hb
  replace bl := (bl.trans (Below.mono hb bl.size))
  replace sz := sz2.trans sz
  replace df := df2.trans df
  clear df2 sz2 old2 new2 hb
  obtain ⟨g3, hg3, e3, m3⟩ := x3
  have x3 := e3
  clear e3
  have nm1_3 : g1 ≠ g3 := Nat.ne_of_lt (Nat.lt_of_lt_of_le lt_m1 hg3)
  have hw3 : w.heap.size ≤ g3 := Nat.le_trans bl0.size hg3
  refine wl_one (.nw w6.heap.size 23 ((hz).map V)) rfl 4 rfl (by rw [sz]; decide) (st_alloc23 rfl _ (Nat.le_refl _)) ?_
  intro f7 w7 df2 sz2 old2 new2 hb
  replace bl0 := bl
  replace x1 := (old2 1 rfl).trans x1
  replace x2 := (old2 2 rfl).trans x2
  replace x20 := (old2 20 rfl).trans x20
  replace x32 := (old2 32 rfl).trans x32
  replace x33 := (old2 33 rfl).trans x33
  replace x34 := (old2 34 rfl).trans x34
  replace x3 := (old2 3 rfl).trans x3
  have x4 : Fk.f (.nw w6.heap.size 23 ((hz).map V)) (f7.eval (.tmp 4)) w7 := new2
  have lt_m1 := Ob.lt m1
  replace m1 := Ob.below m1 hb
  have lt_m3 := Ob.lt m3
  replace m3 := Ob.below m3 hb
  replace bl := (bl.trans (Below.mono hb bl.size))
  replace sz := sz2.trans sz
  replace df := df2.trans df
  clear df2 sz2 old2 new2 hb
  obtain ⟨g4, hg4, e4, m4⟩ := x4
  have x4 := e4
  clear e4
  have nm1_4 : g1 ≠ g4 := Nat.ne_of_lt (Nat.lt_of_lt_of_le lt_m1 hg4)
  have nm3_4 : g3 ≠ g4 := Nat.ne_of_lt (Nat.lt_of_lt_of_le lt_m3 hg4)
  have hw4 : w.heap.size ≤ g4 := Nat.le_trans bl0.size hg4
  refine wl_store rfl (.tmp 3) (.tmp 32) rfl rfl (g3) (x) (hz) x3 x32 m3 hz_len hx ?_
  replace m1 : Ob (w7.setRow g3 ((x).map V : List Value).toArray) (g1) 38 (([.int .i64 ((m : Nat) : Int), .int .i64 ((n : Nat) : Int)] : List Value) ++ ((old).map V ++ ((rt).map V ++ (([.slice pA (P).length pC] : List Value))))) := Ob.setRow_other m1 _ nm1_3
  replace m3 : Ob (w7.setRow g3 ((x).map V : List Value).toArray) (g3) 23 ((x).map V) := Ob.setRow m3 ((x).map V)
  replace m4 : Ob (w7.setRow g3 ((x).map V : List Value).toArray) (g4) 23 ((hz).map V) := Ob.setRow_other m4 _ nm3_4.symm
  replace bl : Below w.heap.size w (w7.setRow g3 ((x).map V : List Value).toArray) := bl.trans (below_setRow _ _ _ _ hw3)
  generalize w7.setRow g3 ((x).map V : List Value).toArray = w8b at bl m1 m3 m4 ⊢
  clear x32
  refine wl_store rfl (.tmp 4) (.tmp 33) rfl rfl (g4) (y) (hz) x4 x33 m4 hz_len hy ?_
  replace m1 : Ob (w8b.setRow g4 ((y).map V : List Value).toArray) (g1) 38 (([.int .i64 ((m : Nat) : Int), .int .i64 ((n : Nat) : Int)] : List Value) ++ ((old).map V ++ ((rt).map V ++ (([.slice pA (P).length pC] : List Value))))) := Ob.setRow_other m1 _ nm1_4
  replace m3 : Ob (w8b.setRow g4 ((y).map V : List Value).toArray) (g3) 23 ((x).map V) := Ob.setRow_other m3 _ nm3_4
  replace m4 : Ob (w8b.setRow g4 ((y).map V : List Value).toArray) (g4) 23 ((y).map V) := Ob.setRow m4 ((y).map V)
  replace bl : Below w.heap.size w (w8b.setRow g4 ((y).map V : List Value).toArray) := bl.trans (below_setRow _ _ _ _ hw4)
  generalize w8b.setRow g4 ((y).map V : List Value).toArray = w9b at bl m1 m3 m4 ⊢
  clear x33
  refine wl_one (.eq (.int .i64 0)) rfl 5 rfl (by rw [sz]; decide) (st_assign (.tmp 34) rfl x34) ?_
  intro f10 w10 df2 sz2 old2 new2 hb
  replace bl0 := bl
  replace x1 := (old2 1 rfl).trans x1
  replace x2 := (old2 2 rfl).trans x2
  replace x20 := (old2 20 rfl).trans x20
  replace x34 := (old2 34 rfl).trans x34
  replace x3 := (old2 3 rfl).trans x3
  replace x4 := (old2 4 rfl).trans x4
  have x5 : f10.eval (.tmp 5) = .int .i64 0 := new2
  have lt_m1 := Ob.lt m1
  replace m1 := Ob.below m1 hb
  have lt_m3 := Ob.lt m3
  replace m3 := Ob.below m3 hb
  have lt_m4 := Ob.lt m4
  replace m4 := Ob.below m4 hb
  replace bl := (bl.trans (Below.mono hb bl.size))
  replace sz := sz2.trans sz
  replace df := df2.trans df
  clear df2 sz2 old2 new2 hb
  refine wpList_nil ?_
  clear x34
  show Code.wp _ _ _ _ _
  refine wp_seq ?_
  by_cases hxo : x = old
  rotate_left
  · skip
    refine wp_all_seq [.eq (.pointer (some ⟨g1, 0, none⟩)), .eq (.int .i64 ((m : Nat) : Int)), .eq (.pointer (some ⟨g1, 1, none⟩)), .eq (.int .i64 ((n : Nat) : Int)), .eq (.pointer (some ⟨g1, 2, none⟩)), .eq (.agg ((old).map V).toArray), .eq (.pointer (some ⟨g1, 34, none⟩)), .eq (.agg ((rt).map V).toArray), .eq (.pointer (some ⟨g1, 66, none⟩)), .eq (.slice pA (P).length pC), .eq (.int .i64 22), .eq (.int .i64 22)] (by kernel_rfl) (by kernel_rfl) (by rw [sz]; kernel_rfl) (by kernel_rfl) ⟨fun hw ac u K => ?_, fun hw ac u K => ?_, fun hw ac u K => ?_, fun hw ac u K => ?_, fun hw ac u K => ?_, fun hw ac u K => ?_, fun hw ac u K => ?_, fun hw ac u K => ?_, fun hw ac u K => ?_, fun hw ac u K => ?_, fun hw ac u K => ?_, fun hw ac u K => ?_, trivial⟩ ?_
    · exact st_field 38 0 (.tmp 1) rfl ((K.old 1 rfl).trans x1) (by kernel_rfl)
    · exact st_loadc 3 (.tmp 35) rfl (by kernel_rfl) (K.dep 0 35 rfl) (ob_cell_at (Ob.below m1 K.grow) (([] : List Value)) (([.int .i64 ((n : Nat) : Int)] : List Value) ++ ((old).map V ++ ((rt).map V ++ (([.slice pA (P).length pC] : List Value))))) _ 0 (by simp) (by rfl))
    · exact st_field 38 1 (.tmp 1) rfl ((K.old 1 rfl).trans x1) (by kernel_rfl)
    · exact st_loadc 3 (.tmp 37) rfl (by kernel_rfl) (K.dep 2 37 rfl) (ob_cell_at (Ob.below m1 K.grow) (([.int .i64 ((m : Nat) : Int)] : List Value)) ((old).map V ++ ((rt).map V ++ (([.slice pA (P).length pC] : List Value)))) _ 1 (by simp) (by rfl))
    · exact st_field 38 2 (.tmp 1) rfl ((K.old 1 rfl).trans x1) (by kernel_rfl)
    · exact st_loadz 23 (.tmp 39) rfl (g1) 2 ((old).map V) (by kernel_rfl) (by rw [List.length_map, hold]; kernel_rfl) (K.dep 4 39 rfl) (ob_range_at (Ob.below m1 K.grow) (([.int .i64 ((m : Nat) : Int), .int .i64 ((n : Nat) : Int)] : List Value)) ((rt).map V ++ (([.slice pA (P).length pC] : List Value))) _ 2 (by simp) (by rfl))
    · exact st_field 38 3 (.tmp 1) rfl ((K.old 1 rfl).trans x1) (by kernel_rfl)
    · exact st_loadz 23 (.tmp 41) rfl (g1) 34 ((rt).map V) (by kernel_rfl) (by rw [List.length_map, hrt]; kernel_rfl) (K.dep 6 41 rfl) (ob_range_at (Ob.below m1 K.grow) (([.int .i64 ((m : Nat) : Int), .int .i64 ((n : Nat) : Int)] : List Value) ++ ((old).map V)) (([.slice pA (P).length pC] : List Value)) _ 34 (by simp) (by simp [hold]))
    · exact st_field 38 4 (.tmp 1) rfl ((K.old 1 rfl).trans x1) (by kernel_rfl)
    · exact st_loadc 24 (.tmp 43) rfl (by kernel_rfl) (K.dep 8 43 rfl) (ob_cell_at (Ob.below m1 K.grow) (([.int .i64 ((m : Nat) : Int), .int .i64 ((n : Nat) : Int)] : List Value) ++ ((old).map V ++ ((rt).map V))) (([] : List Value)) _ 66 (by simp) (by simp [hold, hrt]))
    · exact st_call 15 (.func 15) _ _ #[.int .i64 ((m : Nat) : Int), .int .i64 ((n : Nat) : Int), .agg ((old).map V).toArray, .agg ((rt).map V).toArray, .slice pA (P).length pC] rfl rfl (arg5 (K.dep 1 36 rfl) (K.dep 3 38 rfl) (K.dep 5 40 rfl) (K.dep 7 42 rfl) (K.dep 9 44 rfl)) Tryd.enter15 (fk_on_any hold hrt hm1 hm2 hn (Fk.mono _ _ _ _ hv (bl.trans (Below.mono K.grow bl.size))) (by omega) (hK.below (bl.trans (Below.mono K.grow bl.size))) 22 (by rw [if_neg (fun h => by rw [hb] at h; simp at h; exact hxo h.1)]))
    · exact st_assign (.tmp 45) rfl (K.dep 10 45 rfl)
    intro f11 w11 A hb
    replace bl0 := bl
    replace x1 := (A.old 1 rfl).trans x1
    replace x2 := (A.old 2 rfl).trans x2
    replace x20 := (A.old 20 rfl).trans x20
    replace x3 := (A.old 3 rfl).trans x3
    replace x4 := (A.old 4 rfl).trans x4
    replace x5 := (A.old 5 rfl).trans x5
    have x6 : f11.eval (.tmp 6) = .int .i64 22 := A.has 11 6 rfl
    have lt_m1 := Ob.lt m1
    replace m1 := Ob.below m1 hb
    have lt_m3 := Ob.lt m3
    replace m3 := Ob.below m3 hb
    have lt_m4 := Ob.lt m4
    replace m4 := Ob.below m4 hb
    replace bl := (bl.trans (Below.mono hb bl.size))
    replace sz := A.size.trans sz
    replace df := A.defs.trans df
    clear A hb
    show Code.wp _ _ _ _ _
    refine wp_seq ?_
    refine wp_seq ?_
    refine wp_all_seq [.eq (.pointer (some ⟨g1, 0, none⟩)), .eq (.int .i64 ((m : Nat) : Int)), .eq (.bool false), .eq (.bool false), .eq (.pointer (some ⟨g1, 0, none⟩)), .eq (.int .i64 ((m : Nat) : Int)), .eq (.pointer (some ⟨g1, 1, none⟩)), .eq (.int .i64 ((n : Nat) : Int)), .eq (.bool false), .eq (.bool false)] (by kernel_rfl) (by kernel_rfl) (by rw [sz]; kernel_rfl) (by kernel_rfl) ⟨fun hw ac u K => ?_, fun hw ac u K => ?_, fun hw ac u K => ?_, fun hw ac u K => ?_, fun hw ac u K => ?_, fun hw ac u K => ?_, fun hw ac u K => ?_, fun hw ac u K => ?_, fun hw ac u K => ?_, fun hw ac u K => ?_, trivial⟩ ?_
    · exact st_field 38 0 (.tmp 1) rfl ((K.old 1 rfl).trans x1) (by kernel_rfl)
    · exact st_loadc 3 (.tmp 46) rfl (by kernel_rfl) (K.dep 0 46 rfl) (ob_cell_at (Ob.below m1 K.grow) (([] : List Value)) (([.int .i64 ((n : Nat) : Int)] : List Value) ++ ((old).map V ++ ((rt).map V ++ (([.slice pA (P).length pC] : List Value))))) _ 0 (by simp) (by rfl))
    · exact st_lss 3 (.tmp 47) (.const (.int .i64 0)) rfl .i64 (((m : Nat) : Int)) (0) (K.dep 1 47 rfl) rfl _ (by rw [eq_comm, decide_eq_false_iff_not]; omega)
    · exact st_move (.tmp 48) rfl (K.dep 2 48 rfl)
    · exact st_field 38 0 (.tmp 1) rfl ((K.old 1 rfl).trans x1) (by kernel_rfl)
    · exact st_loadc 3 (.tmp 50) rfl (by kernel_rfl) (K.dep 4 50 rfl) (ob_cell_at (Ob.below m1 K.grow) (([] : List Value)) (([.int .i64 ((n : Nat) : Int)] : List Value) ++ ((old).map V ++ ((rt).map V ++ (([.slice pA (P).length pC] : List Value))))) _ 0 (by simp) (by rfl))
    · exact st_field 38 1 (.tmp 1) rfl ((K.old 1 rfl).trans x1) (by kernel_rfl)
    · exact st_loadc 3 (.tmp 52) rfl (by kernel_rfl) (K.dep 6 52 rfl) (ob_cell_at (Ob.below m1 K.grow) (([.int .i64 ((m : Nat) : Int)] : List Value)) ((old).map V ++ ((rt).map V ++ (([.slice pA (P).length pC] : List Value)))) _ 1 (by simp) (by rfl))
    · exact st_gtr 3 (.tmp 51) (.tmp 53) rfl .i64 (((m : Nat) : Int)) (((n : Nat) : Int)) (K.dep 5 51 rfl) (K.dep 7 53 rfl) _ (by rw [eq_comm, decide_eq_false_iff_not]; omega)
    · exact st_pick_f' (.tmp 49) (.const (.bool true)) (.tmp 54) rfl (K.dep 3 49 rfl) (K.dep 8 54 rfl)
    intro f12 w12 A hb
    replace bl0 := bl
    replace x1 := (A.old 1 rfl).trans x1
    replace x2 := (A.old 2 rfl).trans x2
    replace x20 := (A.old 20 rfl).trans x20
    replace x3 := (A.old 3 rfl).trans x3
    replace x4 := (A.old 4 rfl).trans x4
    replace x5 := (A.old 5 rfl).trans x5
    replace x6 := (A.old 6 rfl).trans x6
    have x55 : f12.eval (.tmp 55) = .bool false := A.has 9 55 rfl
    have lt_m1 := Ob.lt m1
    replace m1 := Ob.below m1 hb
    have lt_m3 := Ob.lt m3
    replace m3 := Ob.below m3 hb
    have lt_m4 := Ob.lt m4
    replace m4 := Ob.below m4 hb
    replace bl := (bl.trans (Below.mono hb bl.size))
    replace sz := A.size.trans sz
    replace df := A.defs.trans df
    clear A hb
    show Code.wp _ _ _ _ _
    refine wp_cond_false x55 ?_
    refine wp_skip ?_
    show Code.wp _ _ _ _ _
    refine wp_seq ?_
    refine wp_seq ?_
    refine wp_all_seq [.eq (.pointer (some ⟨g1, 0, none⟩)), .eq (.int .i64 ((m : Nat) : Int)), .eq (.bool false)] (by kernel_rfl) (by kernel_rfl) (by rw [sz]; kernel_rfl) (by kernel_rfl) ⟨fun hw ac u K => ?_, fun hw ac u K => ?_, fun hw ac u K => ?_, trivial⟩ ?_
    · exact st_field 38 0 (.tmp 1) rfl ((K.old 1 rfl).trans x1) (by kernel_rfl)
    · exact st_loadc 3 (.tmp 75) rfl (by kernel_rfl) (K.dep 0 75 rfl) (ob_cell_at (Ob.below m1 K.grow) (([] : List Value)) (([.int .i64 ((n : Nat) : Int)] : List Value) ++ ((old).map V ++ ((rt).map V ++ (([.slice pA (P).length pC] : List Value))))) _ 0 (by simp) (by rfl))
    · exact st_eqi 3 (.tmp 76) (.const (.int .i64 0)) rfl .i64 (((m : Nat) : Int)) (0) (K.dep 1 76 rfl) rfl _ (by rw [eq_comm, decide_eq_false_iff_not]; omega)
    intro f13 w13 A hb
    replace bl0 := bl
    replace x1 := (A.old 1 rfl).trans x1
    replace x2 := (A.old 2 rfl).trans x2
    replace x20 := (A.old 20 rfl).trans x20
    replace x3 := (A.old 3 rfl).trans x3
    replace x4 := (A.old 4 rfl).trans x4
    replace x5 := (A.old 5 rfl).trans x5
    replace x6 := (A.old 6 rfl).trans x6
    replace x55 := (A.old 55 rfl).trans x55
    have x77 : f13.eval (.tmp 77) = .bool false := A.has 2 77 rfl
    have lt_m1 := Ob.lt m1
    replace m1 := Ob.below m1 hb
    have lt_m3 := Ob.lt m3
    replace m3 := Ob.below m3 hb
    have lt_m4 := Ob.lt m4
    replace m4 := Ob.below m4 hb
    replace bl := (bl.trans (Below.mono hb bl.size))
    replace sz := A.size.trans sz
    replace df := A.defs.trans df
    clear A hb
    show Code.wp _ _ _ _ _
    refine wp_cond_false x77 ?_
    refine wp_skip ?_
    show Code.wp _ _ _ _ _
    refine wp_seq ?_
    refine wp_region_seq [.eq (.agg (([.int .i64 ((m : Nat) : Int), .int .i64 ((n : Nat) : Int)] : List Value) ++ ((old).map V ++ ((rt).map V ++ (([.slice pA (P).length pC] : List Value))))).toArray), .eq (.tuple #[.agg ((x).map V).toArray, .agg ((y).map V).toArray, .bool true]), .eq (.tuple #[.agg ((x).map V).toArray, .agg ((y).map V).toArray, .bool true]), .eq (.agg ((x).map V).toArray), .eq (.agg ((y).map V).toArray), .eq (.bool true)] (by kernel_rfl) (by kernel_rfl) (by rw [sz]; kernel_rfl) (by kernel_rfl) ⟨fun hw ac u K => ?_, fun hw ac u K => ?_, fun hw ac u K => ?_, fun hw ac u K => ?_, fun hw ac u K => ?_, fun hw ac u K => ?_, trivial⟩ ?_
    · exact st_loadz 38 (.tmp 1) rfl (g1) 0 (([.int .i64 ((m : Nat) : Int), .int .i64 ((n : Nat) : Int)] : List Value) ++ ((old).map V ++ ((rt).map V ++ (([.slice pA (P).length pC] : List Value))))) (by kernel_rfl) (by simp only [List.length_append, List.length_map, List.length_cons, List.length_nil, hold, hrt]; kernel_rfl) ((K.old 1 rfl).trans x1) (Ob.range (Ob.below m1 K.grow) 0 _ (fun j v hj => by simpa using hj))
    · exact st_call 17 (.func 17) _ _ #[.agg (([.int .i64 ((m : Nat) : Int), .int .i64 ((n : Nat) : Int)] : List Value) ++ ((old).map V ++ ((rt).map V ++ (([.slice pA (P).length pC] : List Value))))).toArray] rfl rfl (one_arg (K.dep 0 138 rfl)) Tryd.enter17 (fk_of (lboth_ok hold hrt _ (hK.below (bl.trans (Below.mono K.grow bl.size))) (Fk.mono _ _ _ _ hv (bl.trans (Below.mono K.grow bl.size))) hm1 hm2 hn hb))
    · exact st_move (.tmp 139) rfl (K.dep 1 139 rfl)
    · exact st_tri0 (.tmp 137) rfl (K.dep 2 137 rfl)
    · exact st_tri1 (.tmp 137) rfl (K.dep 2 137 rfl)
    · exact st_tri2 (.tmp 137) rfl (K.dep 2 137 rfl)
    intro f14 w14 A hb
    replace bl0 := bl
    replace x1 := (A.old 1 rfl).trans x1
    replace x2 := (A.old 2 rfl).trans x2
    replace x20 := (A.old 20 rfl).trans x20
    replace x3 := (A.old 3 rfl).trans x3
    replace x4 := (A.old 4 rfl).trans x4
    replace x5 := (A.old 5 rfl).trans x5
    replace x6 := (A.old 6 rfl).trans x6
    replace x55 := (A.old 55 rfl).trans x55
    replace x77 := (A.old 77 rfl).trans x77
    have x140 : f14.eval (.tmp 140) = .agg ((x).map V).toArray := A.has 3 140 rfl
    have x141 : f14.eval (.tmp 141) = .agg ((y).map V).toArray := A.has 4 141 rfl
    have x142 : f14.eval (.tmp 142) = .bool true := A.has 5 142 rfl
    have lt_m1 := Ob.lt m1
    replace m1 := Ob.below m1 hb
    have lt_m3 := Ob.lt m3
    replace m3 := Ob.below m3 hb
    have lt_m4 := Ob.lt m4
    replace m4 := Ob.below m4 hb
    replace bl := (bl.trans (Below.mono hb bl.size))
    replace sz := A.size.trans sz
    replace df := A.defs.trans df
    clear A hb
    refine wl_one (.nw w14.heap.size 23 ((hz).map V)) rfl 8 rfl (by rw [sz]; decide) (st_alloc23 rfl _ (Nat.le_refl _)) ?_
    intro f15 w15 df2 sz2 old2 new2 hb
    replace bl0 := bl
    replace x1 := (old2 1 rfl).trans x1
    replace x2 := (old2 2 rfl).trans x2
    replace x20 := (old2 20 rfl).trans x20
    replace x3 := (old2 3 rfl).trans x3
    replace x4 := (old2 4 rfl).trans x4
    replace x5 := (old2 5 rfl).trans x5
    replace x6 := (old2 6 rfl).trans x6
    replace x55 := (old2 55 rfl).trans x55
    replace x77 := (old2 77 rfl).trans x77
    replace x140 := (old2 140 rfl).trans x140
    replace x141 := (old2 141 rfl).trans x141
    replace x142 := (old2 142 rfl).trans x142
    have x8 : Fk.f (.nw w14.heap.size 23 ((hz).map V)) (f15.eval (.tmp 8)) w15 := new2
    have lt_m1 := Ob.lt m1
    replace m1 := Ob.below m1 hb
    have lt_m3 := Ob.lt m3
    replace m3 := Ob.below m3 hb
    have lt_m4 := Ob.lt m4
    replace m4 := Ob.below m4 hb
    replace bl := (bl.trans (Below.mono hb bl.size))
    replace sz := sz2.trans sz
    replace df := df2.trans df
    clear df2 sz2 old2 new2 hb
    obtain ⟨g8, hg8, e8, m8⟩ := x8
    have x8 := e8
    clear e8
    have nm1_8 : g1 ≠ g8 := Nat.ne_of_lt (Nat.lt_of_lt_of_le lt_m1 hg8)
    have nm3_8 : g3 ≠ g8 := Nat.ne_of_lt (Nat.lt_of_lt_of_le lt_m3 hg8)
    have nm4_8 : g4 ≠ g8 := Nat.ne_of_lt (Nat.lt_of_lt_of_le lt_m4 hg8)
    have hw8 : w.heap.size ≤ g8 := Nat.le_trans bl0.size hg8
    refine wl_one (.nw w15.heap.size 23 ((hz).map V)) rfl 9 rfl (by rw [sz]; decide) (st_alloc23 rfl _ (Nat.le_refl _)) ?_
    intro f16 w16 df2 sz2 old2 new2 hb
    replace bl0 := bl
    replace x1 := (old2 1 rfl).trans x1
    replace x2 := (old2 2 rfl).trans x2
    replace x20 := (old2 20 rfl).trans x20
    replace x3 := (old2 3 rfl).trans x3
    replace x4 := (old2 4 rfl).trans x4
    replace x5 := (old2 5 rfl).trans x5
    replace x6 := (old2 6 rfl).trans x6
    replace x55 := (old2 55 rfl).trans x55
    replace x77 := (old2 77 rfl).trans x77
    replace x140 := (old2 140 rfl).trans x140
    replace x141 := (old2 141 rfl).trans x141
    replace x142 := (old2 142 rfl).trans x142
    replace x8 := (old2 8 rfl).trans x8
    have x9 : Fk.f (.nw w15.heap.size 23 ((hz).map V)) (f16.eval (.tmp 9)) w16 := new2
    have lt_m1 := Ob.lt m1
    replace m1 := Ob.below m1 hb
    have lt_m3 := Ob.lt m3
    replace m3 := Ob.below m3 hb
    have lt_m4 := Ob.lt m4
    replace m4 := Ob.below m4 hb
    have lt_m8 := Ob.lt m8
    replace m8 := Ob.below m8 hb
    replace bl := (bl.trans (Below.mono hb bl.size))
    replace sz := sz2.trans sz
    replace df := df2.trans df
    clear df2 sz2 old2 new2 hb
    obtain ⟨g9, hg9, e9, m9⟩ := x9
    have x9 := e9
    clear e9
    have nm1_9 : g1 ≠ g9 := Nat.ne_of_lt (Nat.lt_of_lt_of_le lt_m1 hg9)
    have nm3_9 : g3 ≠ g9 := Nat.ne_of_lt (Nat.lt_of_lt_of_le lt_m3 hg9)
    have nm4_9 : g4 ≠ g9 := Nat.ne_of_lt (Nat.lt_of_lt_of_le lt_m4 hg9)
    have nm8_9 : g8 ≠ g9 := Nat.ne_of_lt (Nat.lt_of_lt_of_le lt_m8 hg9)
    have hw9 : w.heap.size ≤ g9 := Nat.le_trans bl0.size hg9
    refine wl_store rfl (.tmp 8) (.tmp 140) rfl rfl (g8) (x) (hz) x8 x140 m8 hz_len hx ?_
    replace m1 : Ob (w16.setRow g8 ((x).map V : List Value).toArray) (g1) 38 (([.int .i64 ((m : Nat) : Int), .int .i64 ((n : Nat) : Int)] : List Value) ++ ((old).map V ++ ((rt).map V ++ (([.slice pA (P).length pC] : List Value))))) := Ob.setRow_other m1 _ nm1_8
    replace m3 : Ob (w16.setRow g8 ((x).map V : List Value).toArray) (g3) 23 ((x).map V) := Ob.setRow_other m3 _ nm3_8
    replace m4 : Ob (w16.setRow g8 ((x).map V : List Value).toArray) (g4) 23 ((y).map V) := Ob.setRow_other m4 _ nm4_8
    replace m8 : Ob (w16.setRow g8 ((x).map V : List Value).toArray) (g8) 23 ((x).map V) := Ob.setRow m8 ((x).map V)
    replace m9 : Ob (w16.setRow g8 ((x).map V : List Value).toArray) (g9) 23 ((hz).map V) := Ob.setRow_other m9 _ nm8_9.symm
    replace bl : Below w.heap.size w (w16.setRow g8 ((x).map V : List Value).toArray) := bl.trans (below_setRow _ _ _ _ hw8)
    generalize w16.setRow g8 ((x).map V : List Value).toArray = w17b at bl m1 m3 m4 m8 m9 ⊢
    clear x140
    refine wl_store rfl (.tmp 9) (.tmp 141) rfl rfl (g9) (y) (hz) x9 x141 m9 hz_len hy ?_
    replace m1 : Ob (w17b.setRow g9 ((y).map V : List Value).toArray) (g1) 38 (([.int .i64 ((m : Nat) : Int), .int .i64 ((n : Nat) : Int)] : List Value) ++ ((old).map V ++ ((rt).map V ++ (([.slice pA (P).length pC] : List Value))))) := Ob.setRow_other m1 _ nm1_9
    replace m3 : Ob (w17b.setRow g9 ((y).map V : List Value).toArray) (g3) 23 ((x).map V) := Ob.setRow_other m3 _ nm3_9
    replace m4 : Ob (w17b.setRow g9 ((y).map V : List Value).toArray) (g4) 23 ((y).map V) := Ob.setRow_other m4 _ nm4_9
    replace m8 : Ob (w17b.setRow g9 ((y).map V : List Value).toArray) (g8) 23 ((x).map V) := Ob.setRow_other m8 _ nm8_9
    replace m9 : Ob (w17b.setRow g9 ((y).map V : List Value).toArray) (g9) 23 ((y).map V) := Ob.setRow m9 ((y).map V)
    replace bl : Below w.heap.size w (w17b.setRow g9 ((y).map V : List Value).toArray) := bl.trans (below_setRow _ _ _ _ hw9)
    generalize w17b.setRow g9 ((y).map V : List Value).toArray = w18b at bl m1 m3 m4 m8 m9 ⊢
    clear x141
    refine wl_one (.eq (.bool true)) rfl 10 rfl (by rw [sz]; decide) (st_assign (.tmp 142) rfl x142) ?_
    intro f19 w19 df2 sz2 old2 new2 hb
    replace bl0 := bl
    replace x1 := (old2 1 rfl).trans x1
    replace x2 := (old2 2 rfl).trans x2
    replace x20 := (old2 20 rfl).trans x20
    replace x3 := (old2 3 rfl).trans x3
    replace x4 := (old2 4 rfl).trans x4
    replace x5 := (old2 5 rfl).trans x5
    replace x6 := (old2 6 rfl).trans x6
    replace x55 := (old2 55 rfl).trans x55
    replace x77 := (old2 77 rfl).trans x77
    replace x142 := (old2 142 rfl).trans x142
    replace x8 := (old2 8 rfl).trans x8
    replace x9 := (old2 9 rfl).trans x9
    have x10 : f19.eval (.tmp 10) = .bool true := new2
    have lt_m1 := Ob.lt m1
    replace m1 := Ob.below m1 hb
    have lt_m3 := Ob.lt m3
    replace m3 := Ob.below m3 hb
    have lt_m4 := Ob.lt m4
    replace m4 := Ob.below m4 hb
    have lt_m8 := Ob.lt m8
    replace m8 := Ob.below m8 hb
    have lt_m9 := Ob.lt m9
    replace m9 := Ob.below m9 hb
    replace bl := (bl.trans (Below.mono hb bl.size))
    replace sz := sz2.trans sz
    replace df := df2.trans df
    clear df2 sz2 old2 new2 hb
    refine wpList_nil ?_
    clear x142
    show Code.wp _ _ _ _ _
    refine wp_seq ?_
    refine wp_seq ?_
    refine wp_all_seq [.eq (.bool true), .eq (.bool false)] (by kernel_rfl) (by kernel_rfl) (by rw [sz]; kernel_rfl) (by kernel_rfl) ⟨fun hw ac u K => ?_, fun hw ac u K => ?_, trivial⟩ ?_
    · exact st_move (.tmp 10) rfl ((K.old 10 rfl).trans x10)
    · exact st_not (.tmp 143) rfl true (K.dep 0 143 rfl)
    intro f20 w20 A hb
    replace bl0 := bl
    replace x1 := (A.old 1 rfl).trans x1
    replace x2 := (A.old 2 rfl).trans x2
    replace x20 := (A.old 20 rfl).trans x20
    replace x3 := (A.old 3 rfl).trans x3
    replace x4 := (A.old 4 rfl).trans x4
    replace x5 := (A.old 5 rfl).trans x5
    replace x6 := (A.old 6 rfl).trans x6
    replace x55 := (A.old 55 rfl).trans x55
    replace x77 := (A.old 77 rfl).trans x77
    replace x8 := (A.old 8 rfl).trans x8
    replace x9 := (A.old 9 rfl).trans x9
    replace x10 := (A.old 10 rfl).trans x10
    have x144 : f20.eval (.tmp 144) = .bool false := A.has 1 144 rfl
    have lt_m1 := Ob.lt m1
    replace m1 := Ob.below m1 hb
    have lt_m3 := Ob.lt m3
    replace m3 := Ob.below m3 hb
    have lt_m4 := Ob.lt m4
    replace m4 := Ob.below m4 hb
    have lt_m8 := Ob.lt m8
    replace m8 := Ob.below m8 hb
    have lt_m9 := Ob.lt m9
    replace m9 := Ob.below m9 hb
    replace bl := (bl.trans (Below.mono hb bl.size))
    replace sz := A.size.trans sz
    replace df := A.defs.trans df
    clear A hb
    clear x10
    show Code.wp _ _ _ _ _
    refine wp_cond_false x144 ?_
    refine wp_skip ?_
    show Code.wp _ _ _ _ _
    refine wp_seq ?_
    refine wp_all_seq [.eq (.int .i64 0)] (by kernel_rfl) (by kernel_rfl) (by rw [sz]; kernel_rfl) (by kernel_rfl) ⟨fun hw ac u K => ?_, trivial⟩ ?_
    · exact st_assign (.const (.int .i64 0)) rfl rfl
    intro f21 w21 A hb
    replace bl0 := bl
    replace x1 := (A.old 1 rfl).trans x1
    replace x2 := (A.old 2 rfl).trans x2
    replace x20 := (A.old 20 rfl).trans x20
    replace x3 := (A.old 3 rfl).trans x3
    replace x4 := (A.old 4 rfl).trans x4
    replace x5 := (A.old 5 rfl).trans x5
    replace x6 := (A.old 6 rfl).trans x6
    replace x55 := (A.old 55 rfl).trans x55
    replace x77 := (A.old 77 rfl).trans x77
    replace x8 := (A.old 8 rfl).trans x8
    replace x9 := (A.old 9 rfl).trans x9
    replace x144 := (A.old 144 rfl).trans x144
    have x11 : f21.eval (.tmp 11) = .int .i64 0 := A.has 0 11 rfl
    have lt_m1 := Ob.lt m1
    replace m1 := Ob.below m1 hb
    have lt_m3 := Ob.lt m3
    replace m3 := Ob.below m3 hb
    have lt_m4 := Ob.lt m4
    replace m4 := Ob.below m4 hb
    have lt_m8 := Ob.lt m8
    replace m8 := Ob.below m8 hb
    have lt_m9 := Ob.lt m9
    replace m9 := Ob.below m9 hb
    replace bl := (bl.trans (Below.mono hb bl.size))
    replace sz := A.size.trans sz
    replace df := A.defs.trans df
    clear A hb
    show Code.wp _ _ _ _ _
    refine wp_seq ?_
    refine wp_seq ?_
    refine wp_all_seq [.eq (.agg ((x).map V).toArray), .eq (.pointer (some ⟨g1, 2, none⟩)), .eq (.agg ((old).map V).toArray), .eq (.bool true), .eq (.bool true), .any, .any, .any, .any, .eq (.bool true)] (by kernel_rfl) (by kernel_rfl) (by rw [sz]; kernel_rfl) (by kernel_rfl) ⟨fun hw ac u K => ?_, fun hw ac u K => ?_, fun hw ac u K => ?_, fun hw ac u K => ?_, fun hw ac u K => ?_, fun hw ac u K => ?_, fun hw ac u K => ?_, fun hw ac u K => ?_, fun hw ac u K => ?_, fun hw ac u K => ?_, trivial⟩ ?_
    · exact st_load23 (.tmp 8) rfl (g8) (x) ((K.old 8 rfl).trans x8) hx (Ob.below m8 K.grow)
    · exact st_field 38 2 (.tmp 1) rfl ((K.old 1 rfl).trans x1) (by kernel_rfl)
    · exact st_loadz 23 (.tmp 165) rfl (g1) 2 ((old).map V) (by kernel_rfl) (by rw [List.length_map, hold]; kernel_rfl) (K.dep 1 165 rfl) (ob_range_at (Ob.below m1 K.grow) (([.int .i64 ((m : Nat) : Int), .int .i64 ((n : Nat) : Int)] : List Value)) ((rt).map V ++ (([.slice pA (P).length pC] : List Value))) _ 2 (by simp) (by rfl))
    · exact st_neqh (.tmp 164) (.tmp 166) rfl (x) (old) hx hold (K.dep 0 164 rfl) (K.dep 2 166 rfl) _ (by simp [hxo])
    · exact st_move (.tmp 167) rfl (K.dep 3 167 rfl)
    · exact (Bool.false_ne_true hw).elim
    · exact (Bool.false_ne_true hw).elim
    · exact (Bool.false_ne_true hw).elim
    · exact (Bool.false_ne_true hw).elim
    · exact st_pick_t (.tmp 168) (.const (.bool true)) (.tmp 172) rfl (K.dep 4 168 rfl) rfl
    intro f22 w22 A hb
    replace bl0 := bl
    replace x1 := (A.old 1 rfl).trans x1
    replace x2 := (A.old 2 rfl).trans x2
    replace x20 := (A.old 20 rfl).trans x20
    replace x3 := (A.old 3 rfl).trans x3
    replace x4 := (A.old 4 rfl).trans x4
    replace x5 := (A.old 5 rfl).trans x5
    replace x6 := (A.old 6 rfl).trans x6
    replace x55 := (A.old 55 rfl).trans x55
    replace x77 := (A.old 77 rfl).trans x77
    replace x8 := (A.old 8 rfl).trans x8
    replace x9 := (A.old 9 rfl).trans x9
    replace x144 := (A.old 144 rfl).trans x144
    replace x11 := (A.old 11 rfl).trans x11
    have x173 : f22.eval (.tmp 173) = .bool true := A.has 9 173 rfl
    have lt_m1 := Ob.lt m1
    replace m1 := Ob.below m1 hb
    have lt_m3 := Ob.lt m3
    replace m3 := Ob.below m3 hb
    have lt_m4 := Ob.lt m4
    replace m4 := Ob.below m4 hb
    have lt_m8 := Ob.lt m8
    replace m8 := Ob.below m8 hb
    have lt_m9 := Ob.lt m9
    replace m9 := Ob.below m9 hb
    replace bl := (bl.trans (Below.mono hb bl.size))
    replace sz := A.size.trans sz
    replace df := A.defs.trans df
    clear A hb
    show Code.wp _ _ _ _ _
    refine wp_cond_true x173 ?_
    refine wp_all_seq [.eq (.int .i64 22)] (by kernel_rfl) (by kernel_rfl) (by rw [sz]; kernel_rfl) (by kernel_rfl) ⟨fun hw ac u K => ?_, trivial⟩ ?_
    · exact st_assign (.const (.int .i64 22)) rfl rfl
    intro f23 w23 A hb
    replace bl0 := bl
    replace x1 := (A.old 1 rfl).trans x1
    replace x2 := (A.old 2 rfl).trans x2
    replace x20 := (A.old 20 rfl).trans x20
    replace x3 := (A.old 3 rfl).trans x3
    replace x4 := (A.old 4 rfl).trans x4
    replace x5 := (A.old 5 rfl).trans x5
    replace x6 := (A.old 6 rfl).trans x6
    replace x55 := (A.old 55 rfl).trans x55
    replace x77 := (A.old 77 rfl).trans x77
    replace x8 := (A.old 8 rfl).trans x8
    replace x9 := (A.old 9 rfl).trans x9
    replace x144 := (A.old 144 rfl).trans x144
    clear x11
    replace x173 := (A.old 173 rfl).trans x173
    have x11 : f23.eval (.tmp 11) = .int .i64 22 := A.has 0 11 rfl
    have lt_m1 := Ob.lt m1
    replace m1 := Ob.below m1 hb
    have lt_m3 := Ob.lt m3
    replace m3 := Ob.below m3 hb
    have lt_m4 := Ob.lt m4
    replace m4 := Ob.below m4 hb
    have lt_m8 := Ob.lt m8
    replace m8 := Ob.below m8 hb
    have lt_m9 := Ob.lt m9
    replace m9 := Ob.below m9 hb
    replace bl := (bl.trans (Below.mono hb bl.size))
    replace sz := A.size.trans sz
    replace df := A.defs.trans df
    clear A hb
    show Code.wp _ _ _ _ _
    refine wp_seq ?_
    refine wp_all_seq [.eq (.int .i64 0), .eq (.bool true), .eq (.bool true), .eq (.agg ((x).map V).toArray), .eq (.agg ((x).map V).toArray), .eq (.bool true), .eq (.bool true), .eq (.bool true), .eq (.agg ((y).map V).toArray), .eq (.agg ((y).map V).toArray), .eq (.bool true), .eq (.bool true), .eq (.bool true), .eq (.int .i64 22), .eq (.int .i64 22), .eq (.bool true), .eq (.bool true), .eq (.bool true), .eq (.bool true), .eq (.bool true), .eq (.bool true)] (by kernel_rfl) (by kernel_rfl) (by rw [sz]; kernel_rfl) (by kernel_rfl) ⟨fun hw ac u K => ?_, fun hw ac u K => ?_, fun hw ac u K => ?_, fun hw ac u K => ?_, fun hw ac u K => ?_, fun hw ac u K => ?_, fun hw ac u K => ?_, fun hw ac u K => ?_, fun hw ac u K => ?_, fun hw ac u K => ?_, fun hw ac u K => ?_, fun hw ac u K => ?_, fun hw ac u K => ?_, fun hw ac u K => ?_, fun hw ac u K => ?_, fun hw ac u K => ?_, fun hw ac u K => ?_, fun hw ac u K => ?_, fun hw ac u K => ?_, fun hw ac u K => ?_, fun hw ac u K => ?_, trivial⟩ ?_
    · exact st_move (.tmp 5) rfl ((K.old 5 rfl).trans x5)
    · exact st_eqi 28 (.tmp 174) (.const (.int .i64 0)) rfl .i64 (0) (0) (K.dep 0 174 rfl) rfl _ (by rfl)
    · exact st_move (.tmp 175) rfl (K.dep 1 175 rfl)
    · exact st_load23 (.tmp 3) rfl (g3) (x) ((K.old 3 rfl).trans x3) hx (Ob.below m3 K.grow)
    · exact st_load23 (.tmp 8) rfl (g8) (x) ((K.old 8 rfl).trans x8) hx (Ob.below m8 K.grow)
    · exact st_eqh (.tmp 177) (.tmp 178) rfl (x) (x) hx hx (K.dep 3 177 rfl) (K.dep 4 178 rfl) _ (by simp)
    · exact st_pick_t (.tmp 176) (.tmp 179) (.const (.bool false)) rfl (K.dep 2 176 rfl) (K.dep 5 179 rfl)
    · exact st_move (.tmp 180) rfl (K.dep 6 180 rfl)
    · exact st_load23 (.tmp 4) rfl (g4) (y) ((K.old 4 rfl).trans x4) hy (Ob.below m4 K.grow)
    · exact st_load23 (.tmp 9) rfl (g9) (y) ((K.old 9 rfl).trans x9) hy (Ob.below m9 K.grow)
    · exact st_eqh (.tmp 182) (.tmp 183) rfl (y) (y) hy hy (K.dep 8 182 rfl) (K.dep 9 183 rfl) _ (by simp)
    · exact st_pick_t (.tmp 181) (.tmp 184) (.const (.bool false)) rfl (K.dep 7 181 rfl) (K.dep 10 184 rfl)
    · exact st_move (.tmp 185) rfl (K.dep 11 185 rfl)
    · exact st_move (.tmp 6) rfl ((K.old 6 rfl).trans x6)
    · exact st_move (.tmp 11) rfl ((K.old 11 rfl).trans x11)
    · exact st_eqi 28 (.tmp 187) (.tmp 188) rfl .i64 (22) (22) (K.dep 13 187 rfl) (K.dep 14 188 rfl) _ (by rfl)
    · exact st_pick_t (.tmp 186) (.tmp 189) (.const (.bool false)) rfl (K.dep 12 186 rfl) (K.dep 15 189 rfl)
    · exact st_move (.tmp 190) rfl (K.dep 16 190 rfl)
    · exact st_call 8 (.func 8) _ _ #[] rfl rfl rfl Tryd.enter8 (fk_of (awake_any _ (hK.below (bl.trans (Below.mono K.grow bl.size)))))
    · exact st_pick_t (.tmp 191) (.tmp 192) (.const (.bool false)) rfl (K.dep 17 191 rfl) (K.dep 18 192 rfl)
    · exact st_assign (.tmp 193) rfl (K.dep 19 193 rfl)
    intro f24 w24 A hb
    replace bl0 := bl
    replace x1 := (A.old 1 rfl).trans x1
    clear x2
    replace x20 := (A.old 20 rfl).trans x20
    replace x3 := (A.old 3 rfl).trans x3
    replace x4 := (A.old 4 rfl).trans x4
    replace x5 := (A.old 5 rfl).trans x5
    replace x6 := (A.old 6 rfl).trans x6
    replace x55 := (A.old 55 rfl).trans x55
    replace x77 := (A.old 77 rfl).trans x77
    replace x8 := (A.old 8 rfl).trans x8
    replace x9 := (A.old 9 rfl).trans x9
    replace x144 := (A.old 144 rfl).trans x144
    replace x173 := (A.old 173 rfl).trans x173
    replace x11 := (A.old 11 rfl).trans x11
    have x2 : f24.eval (.tmp 2) = .bool true := A.has 20 2 rfl
    have lt_m1 := Ob.lt m1
    replace m1 := Ob.below m1 hb
    have lt_m3 := Ob.lt m3
    replace m3 := Ob.below m3 hb
    have lt_m4 := Ob.lt m4
    replace m4 := Ob.below m4 hb
    have lt_m8 := Ob.lt m8
    replace m8 := Ob.below m8 hb
    have lt_m9 := Ob.lt m9
    replace m9 := Ob.below m9 hb
    replace bl := (bl.trans (Below.mono hb bl.size))
    replace sz := A.size.trans sz
    replace df := A.defs.trans df
    clear A hb
    clear x11
    show Code.wp _ _ _ _ _
    refine wp_ret ?_
    repeat (first | with_reducible refine then_ret ?_ | with_reducible refine block_ret ?_)
    exact bodyPost_ret (v := .bool true) (ret_slot rfl f24 _ x2 _ _) df ⟨rfl, bl⟩
  by_cases hyr : y = rt
  rotate_left
  · skip
    refine wp_all_seq [.eq (.pointer (some ⟨g1, 0, none⟩)), .eq (.int .i64 ((m : Nat) : Int)), .eq (.pointer (some ⟨g1, 1, none⟩)), .eq (.int .i64 ((n : Nat) : Int)), .eq (.pointer (some ⟨g1, 2, none⟩)), .eq (.agg ((old).map V).toArray), .eq (.pointer (some ⟨g1, 34, none⟩)), .eq (.agg ((rt).map V).toArray), .eq (.pointer (some ⟨g1, 66, none⟩)), .eq (.slice pA (P).length pC), .eq (.int .i64 22), .eq (.int .i64 22)] (by kernel_rfl) (by kernel_rfl) (by rw [sz]; kernel_rfl) (by kernel_rfl) ⟨fun hw ac u K => ?_, fun hw ac u K => ?_, fun hw ac u K => ?_, fun hw ac u K => ?_, fun hw ac u K => ?_, fun hw ac u K => ?_, fun hw ac u K => ?_, fun hw ac u K => ?_, fun hw ac u K => ?_, fun hw ac u K => ?_, fun hw ac u K => ?_, fun hw ac u K => ?_, trivial⟩ ?_
    · exact st_field 38 0 (.tmp 1) rfl ((K.old 1 rfl).trans x1) (by kernel_rfl)
    · exact st_loadc 3 (.tmp 35) rfl (by kernel_rfl) (K.dep 0 35 rfl) (ob_cell_at (Ob.below m1 K.grow) (([] : List Value)) (([.int .i64 ((n : Nat) : Int)] : List Value) ++ ((old).map V ++ ((rt).map V ++ (([.slice pA (P).length pC] : List Value))))) _ 0 (by simp) (by rfl))
    · exact st_field 38 1 (.tmp 1) rfl ((K.old 1 rfl).trans x1) (by kernel_rfl)
    · exact st_loadc 3 (.tmp 37) rfl (by kernel_rfl) (K.dep 2 37 rfl) (ob_cell_at (Ob.below m1 K.grow) (([.int .i64 ((m : Nat) : Int)] : List Value)) ((old).map V ++ ((rt).map V ++ (([.slice pA (P).length pC] : List Value)))) _ 1 (by simp) (by rfl))
    · exact st_field 38 2 (.tmp 1) rfl ((K.old 1 rfl).trans x1) (by kernel_rfl)
    · exact st_loadz 23 (.tmp 39) rfl (g1) 2 ((old).map V) (by kernel_rfl) (by rw [List.length_map, hold]; kernel_rfl) (K.dep 4 39 rfl) (ob_range_at (Ob.below m1 K.grow) (([.int .i64 ((m : Nat) : Int), .int .i64 ((n : Nat) : Int)] : List Value)) ((rt).map V ++ (([.slice pA (P).length pC] : List Value))) _ 2 (by simp) (by rfl))
    · exact st_field 38 3 (.tmp 1) rfl ((K.old 1 rfl).trans x1) (by kernel_rfl)
    · exact st_loadz 23 (.tmp 41) rfl (g1) 34 ((rt).map V) (by kernel_rfl) (by rw [List.length_map, hrt]; kernel_rfl) (K.dep 6 41 rfl) (ob_range_at (Ob.below m1 K.grow) (([.int .i64 ((m : Nat) : Int), .int .i64 ((n : Nat) : Int)] : List Value) ++ ((old).map V)) (([.slice pA (P).length pC] : List Value)) _ 34 (by simp) (by simp [hold]))
    · exact st_field 38 4 (.tmp 1) rfl ((K.old 1 rfl).trans x1) (by kernel_rfl)
    · exact st_loadc 24 (.tmp 43) rfl (by kernel_rfl) (K.dep 8 43 rfl) (ob_cell_at (Ob.below m1 K.grow) (([.int .i64 ((m : Nat) : Int), .int .i64 ((n : Nat) : Int)] : List Value) ++ ((old).map V ++ ((rt).map V))) (([] : List Value)) _ 66 (by simp) (by simp [hold, hrt]))
    · exact st_call 15 (.func 15) _ _ #[.int .i64 ((m : Nat) : Int), .int .i64 ((n : Nat) : Int), .agg ((old).map V).toArray, .agg ((rt).map V).toArray, .slice pA (P).length pC] rfl rfl (arg5 (K.dep 1 36 rfl) (K.dep 3 38 rfl) (K.dep 5 40 rfl) (K.dep 7 42 rfl) (K.dep 9 44 rfl)) Tryd.enter15 (fk_on_any hold hrt hm1 hm2 hn (Fk.mono _ _ _ _ hv (bl.trans (Below.mono K.grow bl.size))) (by omega) (hK.below (bl.trans (Below.mono K.grow bl.size))) 22 (by rw [if_neg (fun h => by rw [hb] at h; simp at h; exact hyr h.2)]))
    · exact st_assign (.tmp 45) rfl (K.dep 10 45 rfl)
    intro f11 w11 A hb
    replace bl0 := bl
    replace x1 := (A.old 1 rfl).trans x1
    replace x2 := (A.old 2 rfl).trans x2
    replace x20 := (A.old 20 rfl).trans x20
    replace x3 := (A.old 3 rfl).trans x3
    replace x4 := (A.old 4 rfl).trans x4
    replace x5 := (A.old 5 rfl).trans x5
    have x6 : f11.eval (.tmp 6) = .int .i64 22 := A.has 11 6 rfl
    have lt_m1 := Ob.lt m1
    replace m1 := Ob.below m1 hb
    have lt_m3 := Ob.lt m3
    replace m3 := Ob.below m3 hb
    have lt_m4 := Ob.lt m4
    replace m4 := Ob.below m4 hb
    replace bl := (bl.trans (Below.mono hb bl.size))
    replace sz := A.size.trans sz
    replace df := A.defs.trans df
    clear A hb
    show Code.wp _ _ _ _ _
    refine wp_seq ?_
    refine wp_seq ?_
    refine wp_all_seq [.eq (.pointer (some ⟨g1, 0, none⟩)), .eq (.int .i64 ((m : Nat) : Int)), .eq (.bool false), .eq (.bool false), .eq (.pointer (some ⟨g1, 0, none⟩)), .eq (.int .i64 ((m : Nat) : Int)), .eq (.pointer (some ⟨g1, 1, none⟩)), .eq (.int .i64 ((n : Nat) : Int)), .eq (.bool false), .eq (.bool false)] (by kernel_rfl) (by kernel_rfl) (by rw [sz]; kernel_rfl) (by kernel_rfl) ⟨fun hw ac u K => ?_, fun hw ac u K => ?_, fun hw ac u K => ?_, fun hw ac u K => ?_, fun hw ac u K => ?_, fun hw ac u K => ?_, fun hw ac u K => ?_, fun hw ac u K => ?_, fun hw ac u K => ?_, fun hw ac u K => ?_, trivial⟩ ?_
    · exact st_field 38 0 (.tmp 1) rfl ((K.old 1 rfl).trans x1) (by kernel_rfl)
    · exact st_loadc 3 (.tmp 46) rfl (by kernel_rfl) (K.dep 0 46 rfl) (ob_cell_at (Ob.below m1 K.grow) (([] : List Value)) (([.int .i64 ((n : Nat) : Int)] : List Value) ++ ((old).map V ++ ((rt).map V ++ (([.slice pA (P).length pC] : List Value))))) _ 0 (by simp) (by rfl))
    · exact st_lss 3 (.tmp 47) (.const (.int .i64 0)) rfl .i64 (((m : Nat) : Int)) (0) (K.dep 1 47 rfl) rfl _ (by rw [eq_comm, decide_eq_false_iff_not]; omega)
    · exact st_move (.tmp 48) rfl (K.dep 2 48 rfl)
    · exact st_field 38 0 (.tmp 1) rfl ((K.old 1 rfl).trans x1) (by kernel_rfl)
    · exact st_loadc 3 (.tmp 50) rfl (by kernel_rfl) (K.dep 4 50 rfl) (ob_cell_at (Ob.below m1 K.grow) (([] : List Value)) (([.int .i64 ((n : Nat) : Int)] : List Value) ++ ((old).map V ++ ((rt).map V ++ (([.slice pA (P).length pC] : List Value))))) _ 0 (by simp) (by rfl))
    · exact st_field 38 1 (.tmp 1) rfl ((K.old 1 rfl).trans x1) (by kernel_rfl)
    · exact st_loadc 3 (.tmp 52) rfl (by kernel_rfl) (K.dep 6 52 rfl) (ob_cell_at (Ob.below m1 K.grow) (([.int .i64 ((m : Nat) : Int)] : List Value)) ((old).map V ++ ((rt).map V ++ (([.slice pA (P).length pC] : List Value)))) _ 1 (by simp) (by rfl))
    · exact st_gtr 3 (.tmp 51) (.tmp 53) rfl .i64 (((m : Nat) : Int)) (((n : Nat) : Int)) (K.dep 5 51 rfl) (K.dep 7 53 rfl) _ (by rw [eq_comm, decide_eq_false_iff_not]; omega)
    · exact st_pick_f' (.tmp 49) (.const (.bool true)) (.tmp 54) rfl (K.dep 3 49 rfl) (K.dep 8 54 rfl)
    intro f12 w12 A hb
    replace bl0 := bl
    replace x1 := (A.old 1 rfl).trans x1
    replace x2 := (A.old 2 rfl).trans x2
    replace x20 := (A.old 20 rfl).trans x20
    replace x3 := (A.old 3 rfl).trans x3
    replace x4 := (A.old 4 rfl).trans x4
    replace x5 := (A.old 5 rfl).trans x5
    replace x6 := (A.old 6 rfl).trans x6
    have x55 : f12.eval (.tmp 55) = .bool false := A.has 9 55 rfl
    have lt_m1 := Ob.lt m1
    replace m1 := Ob.below m1 hb
    have lt_m3 := Ob.lt m3
    replace m3 := Ob.below m3 hb
    have lt_m4 := Ob.lt m4
    replace m4 := Ob.below m4 hb
    replace bl := (bl.trans (Below.mono hb bl.size))
    replace sz := A.size.trans sz
    replace df := A.defs.trans df
    clear A hb
    show Code.wp _ _ _ _ _
    refine wp_cond_false x55 ?_
    refine wp_skip ?_
    show Code.wp _ _ _ _ _
    refine wp_seq ?_
    refine wp_seq ?_
    refine wp_all_seq [.eq (.pointer (some ⟨g1, 0, none⟩)), .eq (.int .i64 ((m : Nat) : Int)), .eq (.bool false)] (by kernel_rfl) (by kernel_rfl) (by rw [sz]; kernel_rfl) (by kernel_rfl) ⟨fun hw ac u K => ?_, fun hw ac u K => ?_, fun hw ac u K => ?_, trivial⟩ ?_
    · exact st_field 38 0 (.tmp 1) rfl ((K.old 1 rfl).trans x1) (by kernel_rfl)
    · exact st_loadc 3 (.tmp 75) rfl (by kernel_rfl) (K.dep 0 75 rfl) (ob_cell_at (Ob.below m1 K.grow) (([] : List Value)) (([.int .i64 ((n : Nat) : Int)] : List Value) ++ ((old).map V ++ ((rt).map V ++ (([.slice pA (P).length pC] : List Value))))) _ 0 (by simp) (by rfl))
    · exact st_eqi 3 (.tmp 76) (.const (.int .i64 0)) rfl .i64 (((m : Nat) : Int)) (0) (K.dep 1 76 rfl) rfl _ (by rw [eq_comm, decide_eq_false_iff_not]; omega)
    intro f13 w13 A hb
    replace bl0 := bl
    replace x1 := (A.old 1 rfl).trans x1
    replace x2 := (A.old 2 rfl).trans x2
    replace x20 := (A.old 20 rfl).trans x20
    replace x3 := (A.old 3 rfl).trans x3
    replace x4 := (A.old 4 rfl).trans x4
    replace x5 := (A.old 5 rfl).trans x5
    replace x6 := (A.old 6 rfl).trans x6
    replace x55 := (A.old 55 rfl).trans x55
    have x77 : f13.eval (.tmp 77) = .bool false := A.has 2 77 rfl
    have lt_m1 := Ob.lt m1
    replace m1 := Ob.below m1 hb
    have lt_m3 := Ob.lt m3
    replace m3 := Ob.below m3 hb
    have lt_m4 := Ob.lt m4
    replace m4 := Ob.below m4 hb
    replace bl := (bl.trans (Below.mono hb bl.size))
    replace sz := A.size.trans sz
    replace df := A.defs.trans df
    clear A hb
    show Code.wp _ _ _ _ _
    refine wp_cond_false x77 ?_
    refine wp_skip ?_
    show Code.wp _ _ _ _ _
    refine wp_seq ?_
    refine wp_region_seq [.eq (.agg (([.int .i64 ((m : Nat) : Int), .int .i64 ((n : Nat) : Int)] : List Value) ++ ((old).map V ++ ((rt).map V ++ (([.slice pA (P).length pC] : List Value))))).toArray), .eq (.tuple #[.agg ((x).map V).toArray, .agg ((y).map V).toArray, .bool true]), .eq (.tuple #[.agg ((x).map V).toArray, .agg ((y).map V).toArray, .bool true]), .eq (.agg ((x).map V).toArray), .eq (.agg ((y).map V).toArray), .eq (.bool true)] (by kernel_rfl) (by kernel_rfl) (by rw [sz]; kernel_rfl) (by kernel_rfl) ⟨fun hw ac u K => ?_, fun hw ac u K => ?_, fun hw ac u K => ?_, fun hw ac u K => ?_, fun hw ac u K => ?_, fun hw ac u K => ?_, trivial⟩ ?_
    · exact st_loadz 38 (.tmp 1) rfl (g1) 0 (([.int .i64 ((m : Nat) : Int), .int .i64 ((n : Nat) : Int)] : List Value) ++ ((old).map V ++ ((rt).map V ++ (([.slice pA (P).length pC] : List Value))))) (by kernel_rfl) (by simp only [List.length_append, List.length_map, List.length_cons, List.length_nil, hold, hrt]; kernel_rfl) ((K.old 1 rfl).trans x1) (Ob.range (Ob.below m1 K.grow) 0 _ (fun j v hj => by simpa using hj))
    · exact st_call 17 (.func 17) _ _ #[.agg (([.int .i64 ((m : Nat) : Int), .int .i64 ((n : Nat) : Int)] : List Value) ++ ((old).map V ++ ((rt).map V ++ (([.slice pA (P).length pC] : List Value))))).toArray] rfl rfl (one_arg (K.dep 0 138 rfl)) Tryd.enter17 (fk_of (lboth_ok hold hrt _ (hK.below (bl.trans (Below.mono K.grow bl.size))) (Fk.mono _ _ _ _ hv (bl.trans (Below.mono K.grow bl.size))) hm1 hm2 hn hb))
    · exact st_move (.tmp 139) rfl (K.dep 1 139 rfl)
    · exact st_tri0 (.tmp 137) rfl (K.dep 2 137 rfl)
    · exact st_tri1 (.tmp 137) rfl (K.dep 2 137 rfl)
    · exact st_tri2 (.tmp 137) rfl (K.dep 2 137 rfl)
    intro f14 w14 A hb
    replace bl0 := bl
    replace x1 := (A.old 1 rfl).trans x1
    replace x2 := (A.old 2 rfl).trans x2
    replace x20 := (A.old 20 rfl).trans x20
    replace x3 := (A.old 3 rfl).trans x3
    replace x4 := (A.old 4 rfl).trans x4
    replace x5 := (A.old 5 rfl).trans x5
    replace x6 := (A.old 6 rfl).trans x6
    replace x55 := (A.old 55 rfl).trans x55
    replace x77 := (A.old 77 rfl).trans x77
    have x140 : f14.eval (.tmp 140) = .agg ((x).map V).toArray := A.has 3 140 rfl
    have x141 : f14.eval (.tmp 141) = .agg ((y).map V).toArray := A.has 4 141 rfl
    have x142 : f14.eval (.tmp 142) = .bool true := A.has 5 142 rfl
    have lt_m1 := Ob.lt m1
    replace m1 := Ob.below m1 hb
    have lt_m3 := Ob.lt m3
    replace m3 := Ob.below m3 hb
    have lt_m4 := Ob.lt m4
    replace m4 := Ob.below m4 hb
    replace bl := (bl.trans (Below.mono hb bl.size))
    replace sz := A.size.trans sz
    replace df := A.defs.trans df
    clear A hb
    refine wl_one (.nw w14.heap.size 23 ((hz).map V)) rfl 8 rfl (by rw [sz]; decide) (st_alloc23 rfl _ (Nat.le_refl _)) ?_
    intro f15 w15 df2 sz2 old2 new2 hb
    replace bl0 := bl
    replace x1 := (old2 1 rfl).trans x1
    replace x2 := (old2 2 rfl).trans x2
    replace x20 := (old2 20 rfl).trans x20
    replace x3 := (old2 3 rfl).trans x3
    replace x4 := (old2 4 rfl).trans x4
    replace x5 := (old2 5 rfl).trans x5
    replace x6 := (old2 6 rfl).trans x6
    replace x55 := (old2 55 rfl).trans x55
    replace x77 := (old2 77 rfl).trans x77
    replace x140 := (old2 140 rfl).trans x140
    replace x141 := (old2 141 rfl).trans x141
    replace x142 := (old2 142 rfl).trans x142
    have x8 : Fk.f (.nw w14.heap.size 23 ((hz).map V)) (f15.eval (.tmp 8)) w15 := new2
    have lt_m1 := Ob.lt m1
    replace m1 := Ob.below m1 hb
    have lt_m3 := Ob.lt m3
    replace m3 := Ob.below m3 hb
    have lt_m4 := Ob.lt m4
    replace m4 := Ob.below m4 hb
    replace bl := (bl.trans (Below.mono hb bl.size))
    replace sz := sz2.trans sz
    replace df := df2.trans df
    clear df2 sz2 old2 new2 hb
    obtain ⟨g8, hg8, e8, m8⟩ := x8
    have x8 := e8
    clear e8
    have nm1_8 : g1 ≠ g8 := Nat.ne_of_lt (Nat.lt_of_lt_of_le lt_m1 hg8)
    have nm3_8 : g3 ≠ g8 := Nat.ne_of_lt (Nat.lt_of_lt_of_le lt_m3 hg8)
    have nm4_8 : g4 ≠ g8 := Nat.ne_of_lt (Nat.lt_of_lt_of_le lt_m4 hg8)
    have hw8 : w.heap.size ≤ g8 := Nat.le_trans bl0.size hg8
    refine wl_one (.nw w15.heap.size 23 ((hz).map V)) rfl 9 rfl (by rw [sz]; decide) (st_alloc23 rfl _ (Nat.le_refl _)) ?_
    intro f16 w16 df2 sz2 old2 new2 hb
    replace bl0 := bl
    replace x1 := (old2 1 rfl).trans x1
    replace x2 := (old2 2 rfl).trans x2
    replace x20 := (old2 20 rfl).trans x20
    replace x3 := (old2 3 rfl).trans x3
    replace x4 := (old2 4 rfl).trans x4
    replace x5 := (old2 5 rfl).trans x5
    replace x6 := (old2 6 rfl).trans x6
    replace x55 := (old2 55 rfl).trans x55
    replace x77 := (old2 77 rfl).trans x77
    replace x140 := (old2 140 rfl).trans x140
    replace x141 := (old2 141 rfl).trans x141
    replace x142 := (old2 142 rfl).trans x142
    replace x8 := (old2 8 rfl).trans x8
    have x9 : Fk.f (.nw w15.heap.size 23 ((hz).map V)) (f16.eval (.tmp 9)) w16 := new2
    have lt_m1 := Ob.lt m1
    replace m1 := Ob.below m1 hb
    have lt_m3 := Ob.lt m3
    replace m3 := Ob.below m3 hb
    have lt_m4 := Ob.lt m4
    replace m4 := Ob.below m4 hb
    have lt_m8 := Ob.lt m8
    replace m8 := Ob.below m8 hb
    replace bl := (bl.trans (Below.mono hb bl.size))
    replace sz := sz2.trans sz
    replace df := df2.trans df
    clear df2 sz2 old2 new2 hb
    obtain ⟨g9, hg9, e9, m9⟩ := x9
    have x9 := e9
    clear e9
    have nm1_9 : g1 ≠ g9 := Nat.ne_of_lt (Nat.lt_of_lt_of_le lt_m1 hg9)
    have nm3_9 : g3 ≠ g9 := Nat.ne_of_lt (Nat.lt_of_lt_of_le lt_m3 hg9)
    have nm4_9 : g4 ≠ g9 := Nat.ne_of_lt (Nat.lt_of_lt_of_le lt_m4 hg9)
    have nm8_9 : g8 ≠ g9 := Nat.ne_of_lt (Nat.lt_of_lt_of_le lt_m8 hg9)
    have hw9 : w.heap.size ≤ g9 := Nat.le_trans bl0.size hg9
    refine wl_store rfl (.tmp 8) (.tmp 140) rfl rfl (g8) (x) (hz) x8 x140 m8 hz_len hx ?_
    replace m1 : Ob (w16.setRow g8 ((x).map V : List Value).toArray) (g1) 38 (([.int .i64 ((m : Nat) : Int), .int .i64 ((n : Nat) : Int)] : List Value) ++ ((old).map V ++ ((rt).map V ++ (([.slice pA (P).length pC] : List Value))))) := Ob.setRow_other m1 _ nm1_8
    replace m3 : Ob (w16.setRow g8 ((x).map V : List Value).toArray) (g3) 23 ((x).map V) := Ob.setRow_other m3 _ nm3_8
    replace m4 : Ob (w16.setRow g8 ((x).map V : List Value).toArray) (g4) 23 ((y).map V) := Ob.setRow_other m4 _ nm4_8
    replace m8 : Ob (w16.setRow g8 ((x).map V : List Value).toArray) (g8) 23 ((x).map V) := Ob.setRow m8 ((x).map V)
    replace m9 : Ob (w16.setRow g8 ((x).map V : List Value).toArray) (g9) 23 ((hz).map V) := Ob.setRow_other m9 _ nm8_9.symm
    replace bl : Below w.heap.size w (w16.setRow g8 ((x).map V : List Value).toArray) := bl.trans (below_setRow _ _ _ _ hw8)
    generalize w16.setRow g8 ((x).map V : List Value).toArray = w17b at bl m1 m3 m4 m8 m9 ⊢
    clear x140
    refine wl_store rfl (.tmp 9) (.tmp 141) rfl rfl (g9) (y) (hz) x9 x141 m9 hz_len hy ?_
    replace m1 : Ob (w17b.setRow g9 ((y).map V : List Value).toArray) (g1) 38 (([.int .i64 ((m : Nat) : Int), .int .i64 ((n : Nat) : Int)] : List Value) ++ ((old).map V ++ ((rt).map V ++ (([.slice pA (P).length pC] : List Value))))) := Ob.setRow_other m1 _ nm1_9
    replace m3 : Ob (w17b.setRow g9 ((y).map V : List Value).toArray) (g3) 23 ((x).map V) := Ob.setRow_other m3 _ nm3_9
    replace m4 : Ob (w17b.setRow g9 ((y).map V : List Value).toArray) (g4) 23 ((y).map V) := Ob.setRow_other m4 _ nm4_9
    replace m8 : Ob (w17b.setRow g9 ((y).map V : List Value).toArray) (g8) 23 ((x).map V) := Ob.setRow_other m8 _ nm8_9
    replace m9 : Ob (w17b.setRow g9 ((y).map V : List Value).toArray) (g9) 23 ((y).map V) := Ob.setRow m9 ((y).map V)
    replace bl : Below w.heap.size w (w17b.setRow g9 ((y).map V : List Value).toArray) := bl.trans (below_setRow _ _ _ _ hw9)
    generalize w17b.setRow g9 ((y).map V : List Value).toArray = w18b at bl m1 m3 m4 m8 m9 ⊢
    clear x141
    refine wl_one (.eq (.bool true)) rfl 10 rfl (by rw [sz]; decide) (st_assign (.tmp 142) rfl x142) ?_
    intro f19 w19 df2 sz2 old2 new2 hb
    replace bl0 := bl
    replace x1 := (old2 1 rfl).trans x1
    replace x2 := (old2 2 rfl).trans x2
    replace x20 := (old2 20 rfl).trans x20
    replace x3 := (old2 3 rfl).trans x3
    replace x4 := (old2 4 rfl).trans x4
    replace x5 := (old2 5 rfl).trans x5
    replace x6 := (old2 6 rfl).trans x6
    replace x55 := (old2 55 rfl).trans x55
    replace x77 := (old2 77 rfl).trans x77
    replace x142 := (old2 142 rfl).trans x142
    replace x8 := (old2 8 rfl).trans x8
    replace x9 := (old2 9 rfl).trans x9
    have x10 : f19.eval (.tmp 10) = .bool true := new2
    have lt_m1 := Ob.lt m1
    replace m1 := Ob.below m1 hb
    have lt_m3 := Ob.lt m3
    replace m3 := Ob.below m3 hb
    have lt_m4 := Ob.lt m4
    replace m4 := Ob.below m4 hb
    have lt_m8 := Ob.lt m8
    replace m8 := Ob.below m8 hb
    have lt_m9 := Ob.lt m9
    replace m9 := Ob.below m9 hb
    replace bl := (bl.trans (Below.mono hb bl.size))
    replace sz := sz2.trans sz
    replace df := df2.trans df
    clear df2 sz2 old2 new2 hb
    refine wpList_nil ?_
    clear x142
    show Code.wp _ _ _ _ _
    refine wp_seq ?_
    refine wp_seq ?_
    refine wp_all_seq [.eq (.bool true), .eq (.bool false)] (by kernel_rfl) (by kernel_rfl) (by rw [sz]; kernel_rfl) (by kernel_rfl) ⟨fun hw ac u K => ?_, fun hw ac u K => ?_, trivial⟩ ?_
    · exact st_move (.tmp 10) rfl ((K.old 10 rfl).trans x10)
    · exact st_not (.tmp 143) rfl true (K.dep 0 143 rfl)
    intro f20 w20 A hb
    replace bl0 := bl
    replace x1 := (A.old 1 rfl).trans x1
    replace x2 := (A.old 2 rfl).trans x2
    replace x20 := (A.old 20 rfl).trans x20
    replace x3 := (A.old 3 rfl).trans x3
    replace x4 := (A.old 4 rfl).trans x4
    replace x5 := (A.old 5 rfl).trans x5
    replace x6 := (A.old 6 rfl).trans x6
    replace x55 := (A.old 55 rfl).trans x55
    replace x77 := (A.old 77 rfl).trans x77
    replace x8 := (A.old 8 rfl).trans x8
    replace x9 := (A.old 9 rfl).trans x9
    replace x10 := (A.old 10 rfl).trans x10
    have x144 : f20.eval (.tmp 144) = .bool false := A.has 1 144 rfl
    have lt_m1 := Ob.lt m1
    replace m1 := Ob.below m1 hb
    have lt_m3 := Ob.lt m3
    replace m3 := Ob.below m3 hb
    have lt_m4 := Ob.lt m4
    replace m4 := Ob.below m4 hb
    have lt_m8 := Ob.lt m8
    replace m8 := Ob.below m8 hb
    have lt_m9 := Ob.lt m9
    replace m9 := Ob.below m9 hb
    replace bl := (bl.trans (Below.mono hb bl.size))
    replace sz := A.size.trans sz
    replace df := A.defs.trans df
    clear A hb
    clear x10
    show Code.wp _ _ _ _ _
    refine wp_cond_false x144 ?_
    refine wp_skip ?_
    show Code.wp _ _ _ _ _
    refine wp_seq ?_
    refine wp_all_seq [.eq (.int .i64 0)] (by kernel_rfl) (by kernel_rfl) (by rw [sz]; kernel_rfl) (by kernel_rfl) ⟨fun hw ac u K => ?_, trivial⟩ ?_
    · exact st_assign (.const (.int .i64 0)) rfl rfl
    intro f21 w21 A hb
    replace bl0 := bl
    replace x1 := (A.old 1 rfl).trans x1
    replace x2 := (A.old 2 rfl).trans x2
    replace x20 := (A.old 20 rfl).trans x20
    replace x3 := (A.old 3 rfl).trans x3
    replace x4 := (A.old 4 rfl).trans x4
    replace x5 := (A.old 5 rfl).trans x5
    replace x6 := (A.old 6 rfl).trans x6
    replace x55 := (A.old 55 rfl).trans x55
    replace x77 := (A.old 77 rfl).trans x77
    replace x8 := (A.old 8 rfl).trans x8
    replace x9 := (A.old 9 rfl).trans x9
    replace x144 := (A.old 144 rfl).trans x144
    have x11 : f21.eval (.tmp 11) = .int .i64 0 := A.has 0 11 rfl
    have lt_m1 := Ob.lt m1
    replace m1 := Ob.below m1 hb
    have lt_m3 := Ob.lt m3
    replace m3 := Ob.below m3 hb
    have lt_m4 := Ob.lt m4
    replace m4 := Ob.below m4 hb
    have lt_m8 := Ob.lt m8
    replace m8 := Ob.below m8 hb
    have lt_m9 := Ob.lt m9
    replace m9 := Ob.below m9 hb
    replace bl := (bl.trans (Below.mono hb bl.size))
    replace sz := A.size.trans sz
    replace df := A.defs.trans df
    clear A hb
    show Code.wp _ _ _ _ _
    refine wp_seq ?_
    refine wp_seq ?_
    refine wp_all_seq [.eq (.agg ((x).map V).toArray), .eq (.pointer (some ⟨g1, 2, none⟩)), .eq (.agg ((old).map V).toArray), .eq (.bool false), .eq (.bool false), .eq (.agg ((y).map V).toArray), .eq (.pointer (some ⟨g1, 34, none⟩)), .eq (.agg ((rt).map V).toArray), .eq (.bool true), .eq (.bool true)] (by kernel_rfl) (by kernel_rfl) (by rw [sz]; kernel_rfl) (by kernel_rfl) ⟨fun hw ac u K => ?_, fun hw ac u K => ?_, fun hw ac u K => ?_, fun hw ac u K => ?_, fun hw ac u K => ?_, fun hw ac u K => ?_, fun hw ac u K => ?_, fun hw ac u K => ?_, fun hw ac u K => ?_, fun hw ac u K => ?_, trivial⟩ ?_
    · exact st_load23 (.tmp 8) rfl (g8) (x) ((K.old 8 rfl).trans x8) hx (Ob.below m8 K.grow)
    · exact st_field 38 2 (.tmp 1) rfl ((K.old 1 rfl).trans x1) (by kernel_rfl)
    · exact st_loadz 23 (.tmp 165) rfl (g1) 2 ((old).map V) (by kernel_rfl) (by rw [List.length_map, hold]; kernel_rfl) (K.dep 1 165 rfl) (ob_range_at (Ob.below m1 K.grow) (([.int .i64 ((m : Nat) : Int), .int .i64 ((n : Nat) : Int)] : List Value)) ((rt).map V ++ (([.slice pA (P).length pC] : List Value))) _ 2 (by simp) (by rfl))
    · exact st_neqh (.tmp 164) (.tmp 166) rfl (x) (old) hx hold (K.dep 0 164 rfl) (K.dep 2 166 rfl) _ (by simp [hxo])
    · exact st_move (.tmp 167) rfl (K.dep 3 167 rfl)
    · exact st_load23 (.tmp 9) rfl (g9) (y) ((K.old 9 rfl).trans x9) hy (Ob.below m9 K.grow)
    · exact st_field 38 3 (.tmp 1) rfl ((K.old 1 rfl).trans x1) (by kernel_rfl)
    · exact st_loadz 23 (.tmp 170) rfl (g1) 34 ((rt).map V) (by kernel_rfl) (by rw [List.length_map, hrt]; kernel_rfl) (K.dep 6 170 rfl) (ob_range_at (Ob.below m1 K.grow) (([.int .i64 ((m : Nat) : Int), .int .i64 ((n : Nat) : Int)] : List Value) ++ ((old).map V)) (([.slice pA (P).length pC] : List Value)) _ 34 (by simp) (by simp [hold]))
    · exact st_neqh (.tmp 169) (.tmp 171) rfl (y) (rt) hy hrt (K.dep 5 169 rfl) (K.dep 7 171 rfl) _ (by simp [hyr])
    · exact st_pick_f' (.tmp 168) (.const (.bool true)) (.tmp 172) rfl (K.dep 4 168 rfl) (K.dep 8 172 rfl)
    intro f22 w22 A hb
    replace bl0 := bl
    replace x1 := (A.old 1 rfl).trans x1
    replace x2 := (A.old 2 rfl).trans x2
    replace x20 := (A.old 20 rfl).trans x20
    replace x3 := (A.old 3 rfl).trans x3
    replace x4 := (A.old 4 rfl).trans x4
    replace x5 := (A.old 5 rfl).trans x5
    replace x6 := (A.old 6 rfl).trans x6
    replace x55 := (A.old 55 rfl).trans x55
    replace x77 := (A.old 77 rfl).trans x77
    replace x8 := (A.old 8 rfl).trans x8
    replace x9 := (A.old 9 rfl).trans x9
    replace x144 := (A.old 144 rfl).trans x144
    replace x11 := (A.old 11 rfl).trans x11
    have x173 : f22.eval (.tmp 173) = .bool true := A.has 9 173 rfl
    have lt_m1 := Ob.lt m1
    replace m1 := Ob.below m1 hb
    have lt_m3 := Ob.lt m3
    replace m3 := Ob.below m3 hb
    have lt_m4 := Ob.lt m4
    replace m4 := Ob.below m4 hb
    have lt_m8 := Ob.lt m8
    replace m8 := Ob.below m8 hb
    have lt_m9 := Ob.lt m9
    replace m9 := Ob.below m9 hb
    replace bl := (bl.trans (Below.mono hb bl.size))
    replace sz := A.size.trans sz
    replace df := A.defs.trans df
    clear A hb
    show Code.wp _ _ _ _ _
    refine wp_cond_true x173 ?_
    refine wp_all_seq [.eq (.int .i64 22)] (by kernel_rfl) (by kernel_rfl) (by rw [sz]; kernel_rfl) (by kernel_rfl) ⟨fun hw ac u K => ?_, trivial⟩ ?_
    · exact st_assign (.const (.int .i64 22)) rfl rfl
    intro f23 w23 A hb
    replace bl0 := bl
    replace x1 := (A.old 1 rfl).trans x1
    replace x2 := (A.old 2 rfl).trans x2
    replace x20 := (A.old 20 rfl).trans x20
    replace x3 := (A.old 3 rfl).trans x3
    replace x4 := (A.old 4 rfl).trans x4
    replace x5 := (A.old 5 rfl).trans x5
    replace x6 := (A.old 6 rfl).trans x6
    replace x55 := (A.old 55 rfl).trans x55
    replace x77 := (A.old 77 rfl).trans x77
    replace x8 := (A.old 8 rfl).trans x8
    replace x9 := (A.old 9 rfl).trans x9
    replace x144 := (A.old 144 rfl).trans x144
    clear x11
    replace x173 := (A.old 173 rfl).trans x173
    have x11 : f23.eval (.tmp 11) = .int .i64 22 := A.has 0 11 rfl
    have lt_m1 := Ob.lt m1
    replace m1 := Ob.below m1 hb
    have lt_m3 := Ob.lt m3
    replace m3 := Ob.below m3 hb
    have lt_m4 := Ob.lt m4
    replace m4 := Ob.below m4 hb
    have lt_m8 := Ob.lt m8
    replace m8 := Ob.below m8 hb
    have lt_m9 := Ob.lt m9
    replace m9 := Ob.below m9 hb
    replace bl := (bl.trans (Below.mono hb bl.size))
    replace sz := A.size.trans sz
    replace df := A.defs.trans df
    clear A hb
    show Code.wp _ _ _ _ _
    refine wp_seq ?_
    refine wp_all_seq [.eq (.int .i64 0), .eq (.bool true), .eq (.bool true), .eq (.agg ((x).map V).toArray), .eq (.agg ((x).map V).toArray), .eq (.bool true), .eq (.bool true), .eq (.bool true), .eq (.agg ((y).map V).toArray), .eq (.agg ((y).map V).toArray), .eq (.bool true), .eq (.bool true), .eq (.bool true), .eq (.int .i64 22), .eq (.int .i64 22), .eq (.bool true), .eq (.bool true), .eq (.bool true), .eq (.bool true), .eq (.bool true), .eq (.bool true)] (by kernel_rfl) (by kernel_rfl) (by rw [sz]; kernel_rfl) (by kernel_rfl) ⟨fun hw ac u K => ?_, fun hw ac u K => ?_, fun hw ac u K => ?_, fun hw ac u K => ?_, fun hw ac u K => ?_, fun hw ac u K => ?_, fun hw ac u K => ?_, fun hw ac u K => ?_, fun hw ac u K => ?_, fun hw ac u K => ?_, fun hw ac u K => ?_, fun hw ac u K => ?_, fun hw ac u K => ?_, fun hw ac u K => ?_, fun hw ac u K => ?_, fun hw ac u K => ?_, fun hw ac u K => ?_, fun hw ac u K => ?_, fun hw ac u K => ?_, fun hw ac u K => ?_, fun hw ac u K => ?_, trivial⟩ ?_
    · exact st_move (.tmp 5) rfl ((K.old 5 rfl).trans x5)
    · exact st_eqi 28 (.tmp 174) (.const (.int .i64 0)) rfl .i64 (0) (0) (K.dep 0 174 rfl) rfl _ (by rfl)
    · exact st_move (.tmp 175) rfl (K.dep 1 175 rfl)
    · exact st_load23 (.tmp 3) rfl (g3) (x) ((K.old 3 rfl).trans x3) hx (Ob.below m3 K.grow)
    · exact st_load23 (.tmp 8) rfl (g8) (x) ((K.old 8 rfl).trans x8) hx (Ob.below m8 K.grow)
    · exact st_eqh (.tmp 177) (.tmp 178) rfl (x) (x) hx hx (K.dep 3 177 rfl) (K.dep 4 178 rfl) _ (by simp)
    · exact st_pick_t (.tmp 176) (.tmp 179) (.const (.bool false)) rfl (K.dep 2 176 rfl) (K.dep 5 179 rfl)
    · exact st_move (.tmp 180) rfl (K.dep 6 180 rfl)
    · exact st_load23 (.tmp 4) rfl (g4) (y) ((K.old 4 rfl).trans x4) hy (Ob.below m4 K.grow)
    · exact st_load23 (.tmp 9) rfl (g9) (y) ((K.old 9 rfl).trans x9) hy (Ob.below m9 K.grow)
    · exact st_eqh (.tmp 182) (.tmp 183) rfl (y) (y) hy hy (K.dep 8 182 rfl) (K.dep 9 183 rfl) _ (by simp)
    · exact st_pick_t (.tmp 181) (.tmp 184) (.const (.bool false)) rfl (K.dep 7 181 rfl) (K.dep 10 184 rfl)
    · exact st_move (.tmp 185) rfl (K.dep 11 185 rfl)
    · exact st_move (.tmp 6) rfl ((K.old 6 rfl).trans x6)
    · exact st_move (.tmp 11) rfl ((K.old 11 rfl).trans x11)
    · exact st_eqi 28 (.tmp 187) (.tmp 188) rfl .i64 (22) (22) (K.dep 13 187 rfl) (K.dep 14 188 rfl) _ (by rfl)
    · exact st_pick_t (.tmp 186) (.tmp 189) (.const (.bool false)) rfl (K.dep 12 186 rfl) (K.dep 15 189 rfl)
    · exact st_move (.tmp 190) rfl (K.dep 16 190 rfl)
    · exact st_call 8 (.func 8) _ _ #[] rfl rfl rfl Tryd.enter8 (fk_of (awake_any _ (hK.below (bl.trans (Below.mono K.grow bl.size)))))
    · exact st_pick_t (.tmp 191) (.tmp 192) (.const (.bool false)) rfl (K.dep 17 191 rfl) (K.dep 18 192 rfl)
    · exact st_assign (.tmp 193) rfl (K.dep 19 193 rfl)
    intro f24 w24 A hb
    replace bl0 := bl
    replace x1 := (A.old 1 rfl).trans x1
    clear x2
    replace x20 := (A.old 20 rfl).trans x20
    replace x3 := (A.old 3 rfl).trans x3
    replace x4 := (A.old 4 rfl).trans x4
    replace x5 := (A.old 5 rfl).trans x5
    replace x6 := (A.old 6 rfl).trans x6
    replace x55 := (A.old 55 rfl).trans x55
    replace x77 := (A.old 77 rfl).trans x77
    replace x8 := (A.old 8 rfl).trans x8
    replace x9 := (A.old 9 rfl).trans x9
    replace x144 := (A.old 144 rfl).trans x144
    replace x173 := (A.old 173 rfl).trans x173
    replace x11 := (A.old 11 rfl).trans x11
    have x2 : f24.eval (.tmp 2) = .bool true := A.has 20 2 rfl
    have lt_m1 := Ob.lt m1
    replace m1 := Ob.below m1 hb
    have lt_m3 := Ob.lt m3
    replace m3 := Ob.below m3 hb
    have lt_m4 := Ob.lt m4
    replace m4 := Ob.below m4 hb
    have lt_m8 := Ob.lt m8
    replace m8 := Ob.below m8 hb
    have lt_m9 := Ob.lt m9
    replace m9 := Ob.below m9 hb
    replace bl := (bl.trans (Below.mono hb bl.size))
    replace sz := A.size.trans sz
    replace df := A.defs.trans df
    clear A hb
    clear x11
    show Code.wp _ _ _ _ _
    refine wp_ret ?_
    repeat (first | with_reducible refine then_ret ?_ | with_reducible refine block_ret ?_)
    exact bodyPost_ret (v := .bool true) (ret_slot rfl f24 _ x2 _ _) df ⟨rfl, bl⟩
  refine wp_all_seq [.eq (.pointer (some ⟨g1, 0, none⟩)), .eq (.int .i64 ((m : Nat) : Int)), .eq (.pointer (some ⟨g1, 1, none⟩)), .eq (.int .i64 ((n : Nat) : Int)), .eq (.pointer (some ⟨g1, 2, none⟩)), .eq (.agg ((old).map V).toArray), .eq (.pointer (some ⟨g1, 34, none⟩)), .eq (.agg ((rt).map V).toArray), .eq (.pointer (some ⟨g1, 66, none⟩)), .eq (.slice pA (P).length pC), .eq (.int .i64 0), .eq (.int .i64 0)] (by kernel_rfl) (by kernel_rfl) (by rw [sz]; kernel_rfl) (by kernel_rfl) ⟨fun hw ac u K => ?_, fun hw ac u K => ?_, fun hw ac u K => ?_, fun hw ac u K => ?_, fun hw ac u K => ?_, fun hw ac u K => ?_, fun hw ac u K => ?_, fun hw ac u K => ?_, fun hw ac u K => ?_, fun hw ac u K => ?_, fun hw ac u K => ?_, fun hw ac u K => ?_, trivial⟩ ?_
  · exact st_field 38 0 (.tmp 1) rfl ((K.old 1 rfl).trans x1) (by kernel_rfl)
  · exact st_loadc 3 (.tmp 35) rfl (by kernel_rfl) (K.dep 0 35 rfl) (ob_cell_at (Ob.below m1 K.grow) (([] : List Value)) (([.int .i64 ((n : Nat) : Int)] : List Value) ++ ((old).map V ++ ((rt).map V ++ (([.slice pA (P).length pC] : List Value))))) _ 0 (by simp) (by rfl))
  · exact st_field 38 1 (.tmp 1) rfl ((K.old 1 rfl).trans x1) (by kernel_rfl)
  · exact st_loadc 3 (.tmp 37) rfl (by kernel_rfl) (K.dep 2 37 rfl) (ob_cell_at (Ob.below m1 K.grow) (([.int .i64 ((m : Nat) : Int)] : List Value)) ((old).map V ++ ((rt).map V ++ (([.slice pA (P).length pC] : List Value)))) _ 1 (by simp) (by rfl))
  · exact st_field 38 2 (.tmp 1) rfl ((K.old 1 rfl).trans x1) (by kernel_rfl)
  · exact st_loadz 23 (.tmp 39) rfl (g1) 2 ((old).map V) (by kernel_rfl) (by rw [List.length_map, hold]; kernel_rfl) (K.dep 4 39 rfl) (ob_range_at (Ob.below m1 K.grow) (([.int .i64 ((m : Nat) : Int), .int .i64 ((n : Nat) : Int)] : List Value)) ((rt).map V ++ (([.slice pA (P).length pC] : List Value))) _ 2 (by simp) (by rfl))
  · exact st_field 38 3 (.tmp 1) rfl ((K.old 1 rfl).trans x1) (by kernel_rfl)
  · exact st_loadz 23 (.tmp 41) rfl (g1) 34 ((rt).map V) (by kernel_rfl) (by rw [List.length_map, hrt]; kernel_rfl) (K.dep 6 41 rfl) (ob_range_at (Ob.below m1 K.grow) (([.int .i64 ((m : Nat) : Int), .int .i64 ((n : Nat) : Int)] : List Value) ++ ((old).map V)) (([.slice pA (P).length pC] : List Value)) _ 34 (by simp) (by simp [hold]))
  · exact st_field 38 4 (.tmp 1) rfl ((K.old 1 rfl).trans x1) (by kernel_rfl)
  · exact st_loadc 24 (.tmp 43) rfl (by kernel_rfl) (K.dep 8 43 rfl) (ob_cell_at (Ob.below m1 K.grow) (([.int .i64 ((m : Nat) : Int), .int .i64 ((n : Nat) : Int)] : List Value) ++ ((old).map V ++ ((rt).map V))) (([] : List Value)) _ 66 (by simp) (by simp [hold, hrt]))
  · exact st_call 15 (.func 15) _ _ #[.int .i64 ((m : Nat) : Int), .int .i64 ((n : Nat) : Int), .agg ((old).map V).toArray, .agg ((rt).map V).toArray, .slice pA (P).length pC] rfl rfl (arg5 (K.dep 1 36 rfl) (K.dep 3 38 rfl) (K.dep 5 40 rfl) (K.dep 7 42 rfl) (K.dep 9 44 rfl)) Tryd.enter15 (fk_on_any hold hrt hm1 hm2 hn (Fk.mono _ _ _ _ hv (bl.trans (Below.mono K.grow bl.size))) (by omega) (hK.below (bl.trans (Below.mono K.grow bl.size))) 0 (by rw [if_pos (by rw [hb, hxo, hyr])]))
  · exact st_assign (.tmp 45) rfl (K.dep 10 45 rfl)
  intro f11 w11 A hb
  replace bl0 := bl
  replace x1 := (A.old 1 rfl).trans x1
  replace x2 := (A.old 2 rfl).trans x2
  replace x20 := (A.old 20 rfl).trans x20
  replace x3 := (A.old 3 rfl).trans x3
  replace x4 := (A.old 4 rfl).trans x4
  replace x5 := (A.old 5 rfl).trans x5
  have x6 : f11.eval (.tmp 6) = .int .i64 0 := A.has 11 6 rfl
  have lt_m1 := Ob.lt m1
  replace m1 := Ob.below m1 hb
  have lt_m3 := Ob.lt m3
  replace m3 := Ob.below m3 hb
  have lt_m4 := Ob.lt m4
  replace m4 := Ob.below m4 hb
  replace bl := (bl.trans (Below.mono hb bl.size))
  replace sz := A.size.trans sz
  replace df := A.defs.trans df
  clear A hb
  show Code.wp _ _ _ _ _
  refine wp_seq ?_
  refine wp_seq ?_
  refine wp_all_seq [.eq (.pointer (some ⟨g1, 0, none⟩)), .eq (.int .i64 ((m : Nat) : Int)), .eq (.bool false), .eq (.bool false), .eq (.pointer (some ⟨g1, 0, none⟩)), .eq (.int .i64 ((m : Nat) : Int)), .eq (.pointer (some ⟨g1, 1, none⟩)), .eq (.int .i64 ((n : Nat) : Int)), .eq (.bool false), .eq (.bool false)] (by kernel_rfl) (by kernel_rfl) (by rw [sz]; kernel_rfl) (by kernel_rfl) ⟨fun hw ac u K => ?_, fun hw ac u K => ?_, fun hw ac u K => ?_, fun hw ac u K => ?_, fun hw ac u K => ?_, fun hw ac u K => ?_, fun hw ac u K => ?_, fun hw ac u K => ?_, fun hw ac u K => ?_, fun hw ac u K => ?_, trivial⟩ ?_
  · exact st_field 38 0 (.tmp 1) rfl ((K.old 1 rfl).trans x1) (by kernel_rfl)
  · exact st_loadc 3 (.tmp 46) rfl (by kernel_rfl) (K.dep 0 46 rfl) (ob_cell_at (Ob.below m1 K.grow) (([] : List Value)) (([.int .i64 ((n : Nat) : Int)] : List Value) ++ ((old).map V ++ ((rt).map V ++ (([.slice pA (P).length pC] : List Value))))) _ 0 (by simp) (by rfl))
  · exact st_lss 3 (.tmp 47) (.const (.int .i64 0)) rfl .i64 (((m : Nat) : Int)) (0) (K.dep 1 47 rfl) rfl _ (by rw [eq_comm, decide_eq_false_iff_not]; omega)
  · exact st_move (.tmp 48) rfl (K.dep 2 48 rfl)
  · exact st_field 38 0 (.tmp 1) rfl ((K.old 1 rfl).trans x1) (by kernel_rfl)
  · exact st_loadc 3 (.tmp 50) rfl (by kernel_rfl) (K.dep 4 50 rfl) (ob_cell_at (Ob.below m1 K.grow) (([] : List Value)) (([.int .i64 ((n : Nat) : Int)] : List Value) ++ ((old).map V ++ ((rt).map V ++ (([.slice pA (P).length pC] : List Value))))) _ 0 (by simp) (by rfl))
  · exact st_field 38 1 (.tmp 1) rfl ((K.old 1 rfl).trans x1) (by kernel_rfl)
  · exact st_loadc 3 (.tmp 52) rfl (by kernel_rfl) (K.dep 6 52 rfl) (ob_cell_at (Ob.below m1 K.grow) (([.int .i64 ((m : Nat) : Int)] : List Value)) ((old).map V ++ ((rt).map V ++ (([.slice pA (P).length pC] : List Value)))) _ 1 (by simp) (by rfl))
  · exact st_gtr 3 (.tmp 51) (.tmp 53) rfl .i64 (((m : Nat) : Int)) (((n : Nat) : Int)) (K.dep 5 51 rfl) (K.dep 7 53 rfl) _ (by rw [eq_comm, decide_eq_false_iff_not]; omega)
  · exact st_pick_f' (.tmp 49) (.const (.bool true)) (.tmp 54) rfl (K.dep 3 49 rfl) (K.dep 8 54 rfl)
  intro f12 w12 A hb
  replace bl0 := bl
  replace x1 := (A.old 1 rfl).trans x1
  replace x2 := (A.old 2 rfl).trans x2
  replace x20 := (A.old 20 rfl).trans x20
  replace x3 := (A.old 3 rfl).trans x3
  replace x4 := (A.old 4 rfl).trans x4
  replace x5 := (A.old 5 rfl).trans x5
  replace x6 := (A.old 6 rfl).trans x6
  have x55 : f12.eval (.tmp 55) = .bool false := A.has 9 55 rfl
  have lt_m1 := Ob.lt m1
  replace m1 := Ob.below m1 hb
  have lt_m3 := Ob.lt m3
  replace m3 := Ob.below m3 hb
  have lt_m4 := Ob.lt m4
  replace m4 := Ob.below m4 hb
  replace bl := (bl.trans (Below.mono hb bl.size))
  replace sz := A.size.trans sz
  replace df := A.defs.trans df
  clear A hb
  show Code.wp _ _ _ _ _
  refine wp_cond_false x55 ?_
  refine wp_skip ?_
  show Code.wp _ _ _ _ _
  refine wp_seq ?_
  refine wp_seq ?_
  refine wp_all_seq [.eq (.pointer (some ⟨g1, 0, none⟩)), .eq (.int .i64 ((m : Nat) : Int)), .eq (.bool false)] (by kernel_rfl) (by kernel_rfl) (by rw [sz]; kernel_rfl) (by kernel_rfl) ⟨fun hw ac u K => ?_, fun hw ac u K => ?_, fun hw ac u K => ?_, trivial⟩ ?_
  · exact st_field 38 0 (.tmp 1) rfl ((K.old 1 rfl).trans x1) (by kernel_rfl)
  · exact st_loadc 3 (.tmp 75) rfl (by kernel_rfl) (K.dep 0 75 rfl) (ob_cell_at (Ob.below m1 K.grow) (([] : List Value)) (([.int .i64 ((n : Nat) : Int)] : List Value) ++ ((old).map V ++ ((rt).map V ++ (([.slice pA (P).length pC] : List Value))))) _ 0 (by simp) (by rfl))
  · exact st_eqi 3 (.tmp 76) (.const (.int .i64 0)) rfl .i64 (((m : Nat) : Int)) (0) (K.dep 1 76 rfl) rfl _ (by rw [eq_comm, decide_eq_false_iff_not]; omega)
  intro f13 w13 A hb
  replace bl0 := bl
  replace x1 := (A.old 1 rfl).trans x1
  replace x2 := (A.old 2 rfl).trans x2
  replace x20 := (A.old 20 rfl).trans x20
  replace x3 := (A.old 3 rfl).trans x3
  replace x4 := (A.old 4 rfl).trans x4
  replace x5 := (A.old 5 rfl).trans x5
  replace x6 := (A.old 6 rfl).trans x6
  replace x55 := (A.old 55 rfl).trans x55
  have x77 : f13.eval (.tmp 77) = .bool false := A.has 2 77 rfl
  have lt_m1 := Ob.lt m1
  replace m1 := Ob.below m1 hb
  have lt_m3 := Ob.lt m3
  replace m3 := Ob.below m3 hb
  have lt_m4 := Ob.lt m4
  replace m4 := Ob.below m4 hb
  replace bl := (bl.trans (Below.mono hb bl.size))
  replace sz := A.size.trans sz
  replace df := A.defs.trans df
  clear A hb
  show Code.wp _ _ _ _ _
  refine wp_cond_false x77 ?_
  refine wp_skip ?_
  show Code.wp _ _ _ _ _
  refine wp_seq ?_
  refine wp_region_seq [.eq (.agg (([.int .i64 ((m : Nat) : Int), .int .i64 ((n : Nat) : Int)] : List Value) ++ ((old).map V ++ ((rt).map V ++ (([.slice pA (P).length pC] : List Value))))).toArray), .eq (.tuple #[.agg ((x).map V).toArray, .agg ((y).map V).toArray, .bool true]), .eq (.tuple #[.agg ((x).map V).toArray, .agg ((y).map V).toArray, .bool true]), .eq (.agg ((x).map V).toArray), .eq (.agg ((y).map V).toArray), .eq (.bool true)] (by kernel_rfl) (by kernel_rfl) (by rw [sz]; kernel_rfl) (by kernel_rfl) ⟨fun hw ac u K => ?_, fun hw ac u K => ?_, fun hw ac u K => ?_, fun hw ac u K => ?_, fun hw ac u K => ?_, fun hw ac u K => ?_, trivial⟩ ?_
  · exact st_loadz 38 (.tmp 1) rfl (g1) 0 (([.int .i64 ((m : Nat) : Int), .int .i64 ((n : Nat) : Int)] : List Value) ++ ((old).map V ++ ((rt).map V ++ (([.slice pA (P).length pC] : List Value))))) (by kernel_rfl) (by simp only [List.length_append, List.length_map, List.length_cons, List.length_nil, hold, hrt]; kernel_rfl) ((K.old 1 rfl).trans x1) (Ob.range (Ob.below m1 K.grow) 0 _ (fun j v hj => by simpa using hj))
  · exact st_call 17 (.func 17) _ _ #[.agg (([.int .i64 ((m : Nat) : Int), .int .i64 ((n : Nat) : Int)] : List Value) ++ ((old).map V ++ ((rt).map V ++ (([.slice pA (P).length pC] : List Value))))).toArray] rfl rfl (one_arg (K.dep 0 138 rfl)) Tryd.enter17 (fk_of (lboth_ok hold hrt _ (hK.below (bl.trans (Below.mono K.grow bl.size))) (Fk.mono _ _ _ _ hv (bl.trans (Below.mono K.grow bl.size))) hm1 hm2 hn hb))
  · exact st_move (.tmp 139) rfl (K.dep 1 139 rfl)
  · exact st_tri0 (.tmp 137) rfl (K.dep 2 137 rfl)
  · exact st_tri1 (.tmp 137) rfl (K.dep 2 137 rfl)
  · exact st_tri2 (.tmp 137) rfl (K.dep 2 137 rfl)
  intro f14 w14 A hb
  replace bl0 := bl
  replace x1 := (A.old 1 rfl).trans x1
  replace x2 := (A.old 2 rfl).trans x2
  replace x20 := (A.old 20 rfl).trans x20
  replace x3 := (A.old 3 rfl).trans x3
  replace x4 := (A.old 4 rfl).trans x4
  replace x5 := (A.old 5 rfl).trans x5
  replace x6 := (A.old 6 rfl).trans x6
  replace x55 := (A.old 55 rfl).trans x55
  replace x77 := (A.old 77 rfl).trans x77
  have x140 : f14.eval (.tmp 140) = .agg ((x).map V).toArray := A.has 3 140 rfl
  have x141 : f14.eval (.tmp 141) = .agg ((y).map V).toArray := A.has 4 141 rfl
  have x142 : f14.eval (.tmp 142) = .bool true := A.has 5 142 rfl
  have lt_m1 := Ob.lt m1
  replace m1 := Ob.below m1 hb
  have lt_m3 := Ob.lt m3
  replace m3 := Ob.below m3 hb
  have lt_m4 := Ob.lt m4
  replace m4 := Ob.below m4 hb
  replace bl := (bl.trans (Below.mono hb bl.size))
  replace sz := A.size.trans sz
  replace df := A.defs.trans df
  clear A hb
  refine wl_one (.nw w14.heap.size 23 ((hz).map V)) rfl 8 rfl (by rw [sz]; decide) (st_alloc23 rfl _ (Nat.le_refl _)) ?_
  intro f15 w15 df2 sz2 old2 new2 hb
  replace bl0 := bl
  replace x1 := (old2 1 rfl).trans x1
  replace x2 := (old2 2 rfl).trans x2
  replace x20 := (old2 20 rfl).trans x20
  replace x3 := (old2 3 rfl).trans x3
  replace x4 := (old2 4 rfl).trans x4
  replace x5 := (old2 5 rfl).trans x5
  replace x6 := (old2 6 rfl).trans x6
  replace x55 := (old2 55 rfl).trans x55
  replace x77 := (old2 77 rfl).trans x77
  replace x140 := (old2 140 rfl).trans x140
  replace x141 := (old2 141 rfl).trans x141
  replace x142 := (old2 142 rfl).trans x142
  have x8 : Fk.f (.nw w14.heap.size 23 ((hz).map V)) (f15.eval (.tmp 8)) w15 := new2
  have lt_m1 := Ob.lt m1
  replace m1 := Ob.below m1 hb
  have lt_m3 := Ob.lt m3
  replace m3 := Ob.below m3 hb
  have lt_m4 := Ob.lt m4
  replace m4 := Ob.below m4 hb
  replace bl := (bl.trans (Below.mono hb bl.size))
  replace sz := sz2.trans sz
  replace df := df2.trans df
  clear df2 sz2 old2 new2 hb
  obtain ⟨g8, hg8, e8, m8⟩ := x8
  have x8 := e8
  clear e8
  have nm1_8 : g1 ≠ g8 := Nat.ne_of_lt (Nat.lt_of_lt_of_le lt_m1 hg8)
  have nm3_8 : g3 ≠ g8 := Nat.ne_of_lt (Nat.lt_of_lt_of_le lt_m3 hg8)
  have nm4_8 : g4 ≠ g8 := Nat.ne_of_lt (Nat.lt_of_lt_of_le lt_m4 hg8)
  have hw8 : w.heap.size ≤ g8 := Nat.le_trans bl0.size hg8
  refine wl_one (.nw w15.heap.size 23 ((hz).map V)) rfl 9 rfl (by rw [sz]; decide) (st_alloc23 rfl _ (Nat.le_refl _)) ?_
  intro f16 w16 df2 sz2 old2 new2 hb
  replace bl0 := bl
  replace x1 := (old2 1 rfl).trans x1
  replace x2 := (old2 2 rfl).trans x2
  replace x20 := (old2 20 rfl).trans x20
  replace x3 := (old2 3 rfl).trans x3
  replace x4 := (old2 4 rfl).trans x4
  replace x5 := (old2 5 rfl).trans x5
  replace x6 := (old2 6 rfl).trans x6
  replace x55 := (old2 55 rfl).trans x55
  replace x77 := (old2 77 rfl).trans x77
  replace x140 := (old2 140 rfl).trans x140
  replace x141 := (old2 141 rfl).trans x141
  replace x142 := (old2 142 rfl).trans x142
  replace x8 := (old2 8 rfl).trans x8
  have x9 : Fk.f (.nw w15.heap.size 23 ((hz).map V)) (f16.eval (.tmp 9)) w16 := new2
  have lt_m1 := Ob.lt m1
  replace m1 := Ob.below m1 hb
  have lt_m3 := Ob.lt m3
  replace m3 := Ob.below m3 hb
  have lt_m4 := Ob.lt m4
  replace m4 := Ob.below m4 hb
  have lt_m8 := Ob.lt m8
  replace m8 := Ob.below m8 hb
  replace bl := (bl.trans (Below.mono hb bl.size))
  replace sz := sz2.trans sz
  replace df := df2.trans df
  clear df2 sz2 old2 new2 hb
  obtain ⟨g9, hg9, e9, m9⟩ := x9
  have x9 := e9
  clear e9
  have nm1_9 : g1 ≠ g9 := Nat.ne_of_lt (Nat.lt_of_lt_of_le lt_m1 hg9)
  have nm3_9 : g3 ≠ g9 := Nat.ne_of_lt (Nat.lt_of_lt_of_le lt_m3 hg9)
  have nm4_9 : g4 ≠ g9 := Nat.ne_of_lt (Nat.lt_of_lt_of_le lt_m4 hg9)
  have nm8_9 : g8 ≠ g9 := Nat.ne_of_lt (Nat.lt_of_lt_of_le lt_m8 hg9)
  have hw9 : w.heap.size ≤ g9 := Nat.le_trans bl0.size hg9
  refine wl_store rfl (.tmp 8) (.tmp 140) rfl rfl (g8) (x) (hz) x8 x140 m8 hz_len hx ?_
  replace m1 : Ob (w16.setRow g8 ((x).map V : List Value).toArray) (g1) 38 (([.int .i64 ((m : Nat) : Int), .int .i64 ((n : Nat) : Int)] : List Value) ++ ((old).map V ++ ((rt).map V ++ (([.slice pA (P).length pC] : List Value))))) := Ob.setRow_other m1 _ nm1_8
  replace m3 : Ob (w16.setRow g8 ((x).map V : List Value).toArray) (g3) 23 ((x).map V) := Ob.setRow_other m3 _ nm3_8
  replace m4 : Ob (w16.setRow g8 ((x).map V : List Value).toArray) (g4) 23 ((y).map V) := Ob.setRow_other m4 _ nm4_8
  replace m8 : Ob (w16.setRow g8 ((x).map V : List Value).toArray) (g8) 23 ((x).map V) := Ob.setRow m8 ((x).map V)
  replace m9 : Ob (w16.setRow g8 ((x).map V : List Value).toArray) (g9) 23 ((hz).map V) := Ob.setRow_other m9 _ nm8_9.symm
  replace bl : Below w.heap.size w (w16.setRow g8 ((x).map V : List Value).toArray) := bl.trans (below_setRow _ _ _ _ hw8)
  generalize w16.setRow g8 ((x).map V : List Value).toArray = w17b at bl m1 m3 m4 m8 m9 ⊢
  clear x140
  refine wl_store rfl (.tmp 9) (.tmp 141) rfl rfl (g9) (y) (hz) x9 x141 m9 hz_len hy ?_
  replace m1 : Ob (w17b.setRow g9 ((y).map V : List Value).toArray) (g1) 38 (([.int .i64 ((m : Nat) : Int), .int .i64 ((n : Nat) : Int)] : List Value) ++ ((old).map V ++ ((rt).map V ++ (([.slice pA (P).length pC] : List Value))))) := Ob.setRow_other m1 _ nm1_9
  replace m3 : Ob (w17b.setRow g9 ((y).map V : List Value).toArray) (g3) 23 ((x).map V) := Ob.setRow_other m3 _ nm3_9
  replace m4 : Ob (w17b.setRow g9 ((y).map V : List Value).toArray) (g4) 23 ((y).map V) := Ob.setRow_other m4 _ nm4_9
  replace m8 : Ob (w17b.setRow g9 ((y).map V : List Value).toArray) (g8) 23 ((x).map V) := Ob.setRow_other m8 _ nm8_9
  replace m9 : Ob (w17b.setRow g9 ((y).map V : List Value).toArray) (g9) 23 ((y).map V) := Ob.setRow m9 ((y).map V)
  replace bl : Below w.heap.size w (w17b.setRow g9 ((y).map V : List Value).toArray) := bl.trans (below_setRow _ _ _ _ hw9)
  generalize w17b.setRow g9 ((y).map V : List Value).toArray = w18b at bl m1 m3 m4 m8 m9 ⊢
  clear x141
  refine wl_one (.eq (.bool true)) rfl 10 rfl (by rw [sz]; decide) (st_assign (.tmp 142) rfl x142) ?_
  intro f19 w19 df2 sz2 old2 new2 hb
  replace bl0 := bl
  replace x1 := (old2 1 rfl).trans x1
  replace x2 := (old2 2 rfl).trans x2
  replace x20 := (old2 20 rfl).trans x20
  replace x3 := (old2 3 rfl).trans x3
  replace x4 := (old2 4 rfl).trans x4
  replace x5 := (old2 5 rfl).trans x5
  replace x6 := (old2 6 rfl).trans x6
  replace x55 := (old2 55 rfl).trans x55
  replace x77 := (old2 77 rfl).trans x77
  replace x142 := (old2 142 rfl).trans x142
  replace x8 := (old2 8 rfl).trans x8
  replace x9 := (old2 9 rfl).trans x9
  have x10 : f19.eval (.tmp 10) = .bool true := new2
  have lt_m1 := Ob.lt m1
  replace m1 := Ob.below m1 hb
  have lt_m3 := Ob.lt m3
  replace m3 := Ob.below m3 hb
  have lt_m4 := Ob.lt m4
  replace m4 := Ob.below m4 hb
  have lt_m8 := Ob.lt m8
  replace m8 := Ob.below m8 hb
  have lt_m9 := Ob.lt m9
  replace m9 := Ob.below m9 hb
  replace bl := (bl.trans (Below.mono hb bl.size))
  replace sz := sz2.trans sz
  replace df := df2.trans df
  clear df2 sz2 old2 new2 hb
  refine wpList_nil ?_
  clear x142
  show Code.wp _ _ _ _ _
  refine wp_seq ?_
  refine wp_seq ?_
  refine wp_all_seq [.eq (.bool true), .eq (.bool false)] (by kernel_rfl) (by kernel_rfl) (by rw [sz]; kernel_rfl) (by kernel_rfl) ⟨fun hw ac u K => ?_, fun hw ac u K => ?_, trivial⟩ ?_
  · exact st_move (.tmp 10) rfl ((K.old 10 rfl).trans x10)
  · exact st_not (.tmp 143) rfl true (K.dep 0 143 rfl)
  intro f20 w20 A hb
  replace bl0 := bl
  replace x1 := (A.old 1 rfl).trans x1
  replace x2 := (A.old 2 rfl).trans x2
  replace x20 := (A.old 20 rfl).trans x20
  replace x3 := (A.old 3 rfl).trans x3
  replace x4 := (A.old 4 rfl).trans x4
  replace x5 := (A.old 5 rfl).trans x5
  replace x6 := (A.old 6 rfl).trans x6
  replace x55 := (A.old 55 rfl).trans x55
  replace x77 := (A.old 77 rfl).trans x77
  replace x8 := (A.old 8 rfl).trans x8
  replace x9 := (A.old 9 rfl).trans x9
  replace x10 := (A.old 10 rfl).trans x10
  have x144 : f20.eval (.tmp 144) = .bool false := A.has 1 144 rfl
  have lt_m1 := Ob.lt m1
  replace m1 := Ob.below m1 hb
  have lt_m3 := Ob.lt m3
  replace m3 := Ob.below m3 hb
  have lt_m4 := Ob.lt m4
  replace m4 := Ob.below m4 hb
  have lt_m8 := Ob.lt m8
  replace m8 := Ob.below m8 hb
  have lt_m9 := Ob.lt m9
  replace m9 := Ob.below m9 hb
  replace bl := (bl.trans (Below.mono hb bl.size))
  replace sz := A.size.trans sz
  replace df := A.defs.trans df
  clear A hb
  clear x10
  show Code.wp _ _ _ _ _
  refine wp_cond_false x144 ?_
  refine wp_skip ?_
  show Code.wp _ _ _ _ _
  refine wp_seq ?_
  refine wp_all_seq [.eq (.int .i64 0)] (by kernel_rfl) (by kernel_rfl) (by rw [sz]; kernel_rfl) (by kernel_rfl) ⟨fun hw ac u K => ?_, trivial⟩ ?_
  · exact st_assign (.const (.int .i64 0)) rfl rfl
  intro f21 w21 A hb
  replace bl0 := bl
  replace x1 := (A.old 1 rfl).trans x1
  replace x2 := (A.old 2 rfl).trans x2
  replace x20 := (A.old 20 rfl).trans x20
  replace x3 := (A.old 3 rfl).trans x3
  replace x4 := (A.old 4 rfl).trans x4
  replace x5 := (A.old 5 rfl).trans x5
  replace x6 := (A.old 6 rfl).trans x6
  replace x55 := (A.old 55 rfl).trans x55
  replace x77 := (A.old 77 rfl).trans x77
  replace x8 := (A.old 8 rfl).trans x8
  replace x9 := (A.old 9 rfl).trans x9
  replace x144 := (A.old 144 rfl).trans x144
  have x11 : f21.eval (.tmp 11) = .int .i64 0 := A.has 0 11 rfl
  have lt_m1 := Ob.lt m1
  replace m1 := Ob.below m1 hb
  have lt_m3 := Ob.lt m3
  replace m3 := Ob.below m3 hb
  have lt_m4 := Ob.lt m4
  replace m4 := Ob.below m4 hb
  have lt_m8 := Ob.lt m8
  replace m8 := Ob.below m8 hb
  have lt_m9 := Ob.lt m9
  replace m9 := Ob.below m9 hb
  replace bl := (bl.trans (Below.mono hb bl.size))
  replace sz := A.size.trans sz
  replace df := A.defs.trans df
  clear A hb
  show Code.wp _ _ _ _ _
  refine wp_seq ?_
  refine wp_seq ?_
  refine wp_all_seq [.eq (.agg ((x).map V).toArray), .eq (.pointer (some ⟨g1, 2, none⟩)), .eq (.agg ((old).map V).toArray), .eq (.bool false), .eq (.bool false), .eq (.agg ((y).map V).toArray), .eq (.pointer (some ⟨g1, 34, none⟩)), .eq (.agg ((rt).map V).toArray), .eq (.bool false), .eq (.bool false)] (by kernel_rfl) (by kernel_rfl) (by rw [sz]; kernel_rfl) (by kernel_rfl) ⟨fun hw ac u K => ?_, fun hw ac u K => ?_, fun hw ac u K => ?_, fun hw ac u K => ?_, fun hw ac u K => ?_, fun hw ac u K => ?_, fun hw ac u K => ?_, fun hw ac u K => ?_, fun hw ac u K => ?_, fun hw ac u K => ?_, trivial⟩ ?_
  · exact st_load23 (.tmp 8) rfl (g8) (x) ((K.old 8 rfl).trans x8) hx (Ob.below m8 K.grow)
  · exact st_field 38 2 (.tmp 1) rfl ((K.old 1 rfl).trans x1) (by kernel_rfl)
  · exact st_loadz 23 (.tmp 165) rfl (g1) 2 ((old).map V) (by kernel_rfl) (by rw [List.length_map, hold]; kernel_rfl) (K.dep 1 165 rfl) (ob_range_at (Ob.below m1 K.grow) (([.int .i64 ((m : Nat) : Int), .int .i64 ((n : Nat) : Int)] : List Value)) ((rt).map V ++ (([.slice pA (P).length pC] : List Value))) _ 2 (by simp) (by rfl))
  · exact st_neqh (.tmp 164) (.tmp 166) rfl (x) (old) hx hold (K.dep 0 164 rfl) (K.dep 2 166 rfl) _ (by simp [hxo])
  · exact st_move (.tmp 167) rfl (K.dep 3 167 rfl)
  · exact st_load23 (.tmp 9) rfl (g9) (y) ((K.old 9 rfl).trans x9) hy (Ob.below m9 K.grow)
  · exact st_field 38 3 (.tmp 1) rfl ((K.old 1 rfl).trans x1) (by kernel_rfl)
  · exact st_loadz 23 (.tmp 170) rfl (g1) 34 ((rt).map V) (by kernel_rfl) (by rw [List.length_map, hrt]; kernel_rfl) (K.dep 6 170 rfl) (ob_range_at (Ob.below m1 K.grow) (([.int .i64 ((m : Nat) : Int), .int .i64 ((n : Nat) : Int)] : List Value) ++ ((old).map V)) (([.slice pA (P).length pC] : List Value)) _ 34 (by simp) (by simp [hold]))
  · exact st_neqh (.tmp 169) (.tmp 171) rfl (y) (rt) hy hrt (K.dep 5 169 rfl) (K.dep 7 171 rfl) _ (by simp [hyr])
  · exact st_pick_f' (.tmp 168) (.const (.bool true)) (.tmp 172) rfl (K.dep 4 168 rfl) (K.dep 8 172 rfl)
  intro f22 w22 A hb
  replace bl0 := bl
  replace x1 := (A.old 1 rfl).trans x1
  replace x2 := (A.old 2 rfl).trans x2
  replace x20 := (A.old 20 rfl).trans x20
  replace x3 := (A.old 3 rfl).trans x3
  replace x4 := (A.old 4 rfl).trans x4
  replace x5 := (A.old 5 rfl).trans x5
  replace x6 := (A.old 6 rfl).trans x6
  replace x55 := (A.old 55 rfl).trans x55
  replace x77 := (A.old 77 rfl).trans x77
  replace x8 := (A.old 8 rfl).trans x8
  replace x9 := (A.old 9 rfl).trans x9
  replace x144 := (A.old 144 rfl).trans x144
  replace x11 := (A.old 11 rfl).trans x11
  have x173 : f22.eval (.tmp 173) = .bool false := A.has 9 173 rfl
  have lt_m1 := Ob.lt m1
  replace m1 := Ob.below m1 hb
  have lt_m3 := Ob.lt m3
  replace m3 := Ob.below m3 hb
  have lt_m4 := Ob.lt m4
  replace m4 := Ob.below m4 hb
  have lt_m8 := Ob.lt m8
  replace m8 := Ob.below m8 hb
  have lt_m9 := Ob.lt m9
  replace m9 := Ob.below m9 hb
  replace bl := (bl.trans (Below.mono hb bl.size))
  replace sz := A.size.trans sz
  replace df := A.defs.trans df
  clear A hb
  show Code.wp _ _ _ _ _
  refine wp_cond_false x173 ?_
  refine wp_skip ?_
  show Code.wp _ _ _ _ _
  refine wp_seq ?_
  refine wp_all_seq [.eq (.int .i64 0), .eq (.bool true), .eq (.bool true), .eq (.agg ((x).map V).toArray), .eq (.agg ((x).map V).toArray), .eq (.bool true), .eq (.bool true), .eq (.bool true), .eq (.agg ((y).map V).toArray), .eq (.agg ((y).map V).toArray), .eq (.bool true), .eq (.bool true), .eq (.bool true), .eq (.int .i64 0), .eq (.int .i64 0), .eq (.bool true), .eq (.bool true), .eq (.bool true), .eq (.bool true), .eq (.bool true), .eq (.bool true)] (by kernel_rfl) (by kernel_rfl) (by rw [sz]; kernel_rfl) (by kernel_rfl) ⟨fun hw ac u K => ?_, fun hw ac u K => ?_, fun hw ac u K => ?_, fun hw ac u K => ?_, fun hw ac u K => ?_, fun hw ac u K => ?_, fun hw ac u K => ?_, fun hw ac u K => ?_, fun hw ac u K => ?_, fun hw ac u K => ?_, fun hw ac u K => ?_, fun hw ac u K => ?_, fun hw ac u K => ?_, fun hw ac u K => ?_, fun hw ac u K => ?_, fun hw ac u K => ?_, fun hw ac u K => ?_, fun hw ac u K => ?_, fun hw ac u K => ?_, fun hw ac u K => ?_, fun hw ac u K => ?_, trivial⟩ ?_
  · exact st_move (.tmp 5) rfl ((K.old 5 rfl).trans x5)
  · exact st_eqi 28 (.tmp 174) (.const (.int .i64 0)) rfl .i64 (0) (0) (K.dep 0 174 rfl) rfl _ (by rfl)
  · exact st_move (.tmp 175) rfl (K.dep 1 175 rfl)
  · exact st_load23 (.tmp 3) rfl (g3) (x) ((K.old 3 rfl).trans x3) hx (Ob.below m3 K.grow)
  · exact st_load23 (.tmp 8) rfl (g8) (x) ((K.old 8 rfl).trans x8) hx (Ob.below m8 K.grow)
  · exact st_eqh (.tmp 177) (.tmp 178) rfl (x) (x) hx hx (K.dep 3 177 rfl) (K.dep 4 178 rfl) _ (by simp)
  · exact st_pick_t (.tmp 176) (.tmp 179) (.const (.bool false)) rfl (K.dep 2 176 rfl) (K.dep 5 179 rfl)
  · exact st_move (.tmp 180) rfl (K.dep 6 180 rfl)
  · exact st_load23 (.tmp 4) rfl (g4) (y) ((K.old 4 rfl).trans x4) hy (Ob.below m4 K.grow)
  · exact st_load23 (.tmp 9) rfl (g9) (y) ((K.old 9 rfl).trans x9) hy (Ob.below m9 K.grow)
  · exact st_eqh (.tmp 182) (.tmp 183) rfl (y) (y) hy hy (K.dep 8 182 rfl) (K.dep 9 183 rfl) _ (by simp)
  · exact st_pick_t (.tmp 181) (.tmp 184) (.const (.bool false)) rfl (K.dep 7 181 rfl) (K.dep 10 184 rfl)
  · exact st_move (.tmp 185) rfl (K.dep 11 185 rfl)
  · exact st_move (.tmp 6) rfl ((K.old 6 rfl).trans x6)
  · exact st_move (.tmp 11) rfl ((K.old 11 rfl).trans x11)
  · exact st_eqi 28 (.tmp 187) (.tmp 188) rfl .i64 (0) (0) (K.dep 13 187 rfl) (K.dep 14 188 rfl) _ (by rfl)
  · exact st_pick_t (.tmp 186) (.tmp 189) (.const (.bool false)) rfl (K.dep 12 186 rfl) (K.dep 15 189 rfl)
  · exact st_move (.tmp 190) rfl (K.dep 16 190 rfl)
  · exact st_call 8 (.func 8) _ _ #[] rfl rfl rfl Tryd.enter8 (fk_of (awake_any _ (hK.below (bl.trans (Below.mono K.grow bl.size)))))
  · exact st_pick_t (.tmp 191) (.tmp 192) (.const (.bool false)) rfl (K.dep 17 191 rfl) (K.dep 18 192 rfl)
  · exact st_assign (.tmp 193) rfl (K.dep 19 193 rfl)
  intro f23 w23 A hb
  replace bl0 := bl
  replace x1 := (A.old 1 rfl).trans x1
  clear x2
  replace x20 := (A.old 20 rfl).trans x20
  replace x3 := (A.old 3 rfl).trans x3
  replace x4 := (A.old 4 rfl).trans x4
  replace x5 := (A.old 5 rfl).trans x5
  replace x6 := (A.old 6 rfl).trans x6
  replace x55 := (A.old 55 rfl).trans x55
  replace x77 := (A.old 77 rfl).trans x77
  replace x8 := (A.old 8 rfl).trans x8
  replace x9 := (A.old 9 rfl).trans x9
  replace x144 := (A.old 144 rfl).trans x144
  replace x11 := (A.old 11 rfl).trans x11
  replace x173 := (A.old 173 rfl).trans x173
  have x2 : f23.eval (.tmp 2) = .bool true := A.has 20 2 rfl
  have lt_m1 := Ob.lt m1
  replace m1 := Ob.below m1 hb
  have lt_m3 := Ob.lt m3
  replace m3 := Ob.below m3 hb
  have lt_m4 := Ob.lt m4
  replace m4 := Ob.below m4 hb
  have lt_m8 := Ob.lt m8
  replace m8 := Ob.below m8 hb
  have lt_m9 := Ob.lt m9
  replace m9 := Ob.below m9 hb
  replace bl := (bl.trans (Below.mono hb bl.size))
  replace sz := A.size.trans sz
  replace df := A.defs.trans df
  clear A hb
  clear x11
  show Code.wp _ _ _ _ _
  refine wp_ret ?_
  repeat (first | with_reducible refine then_ret ?_ | with_reducible refine block_ret ?_)
  exact bodyPost_ret (v := .bool true) (ret_slot rfl f23 _ x2 _ _) df ⟨rfl, bl⟩
end Go.Proofs.YthhnlemldpgbeaaDoor
