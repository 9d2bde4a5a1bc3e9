/- In. -/
import Derived.Test.YtfmeeimhfdnjpaaDoorM14
namespace Go.Proofs.YtfmeeimhfdnjpaaDoor
set_option maxRecDepth 100000
open Go.RowKit
set_option maxHeartbeats 1000000 in
theorem fk_cin_no {ps : List Pt} (_hs : smallP ps) {lb : List (BitVec 8)} (_hlb : lb.length ≤ 300) {P : List (List (BitVec 8))} (_hP : P.length ≤ 50) {w : World} {va ul up : Value} (ha : (Fk.mc ps).f va w) (_hl : (Fk.sl lb).f ul w) (_hp : (Fk.hc P).f up w) (_hK : Tab w) {i n : Int} (h : n ≠ ps.length ∨ i < 0 ∨ (ps.length : Int) ≤ i) :
    Calls Tryd.prog 16 #[va, .agg ([.int .i64 i, .int .i64 n, ul, up] : List Value).toArray] w fun e w' => ∃ u, e = .returned u ∧ (Fk.c3 false 11).f u w' ∧ Below w.heap.size w w' := by
  have ham := ha.1
  go_enter Tryd.func16, Tryd.ntmps16
  refine code_both (fun f w1 => f.tmps.size = 51 ∧ f.defers = [] ∧ f.eval (.tmp 0) = va ∧ f.eval (.tmp 1) = .agg ([.int .i64 i, .int .i64 n, ul, up] : List Value).toArray ∧ Below w.heap.size w (w1)) ⟨rfl, rfl, rfl, rfl, Below.refl _ _⟩ ?_
  rintro f0 w0 ⟨sz, df, x0, x1, bl⟩
  have bl0 := bl
  refine wp_seq ?_
  refine wp_region_seq [] (by kernel_rfl) (by kernel_rfl) (by rw [sz]; kernel_rfl) (by kernel_rfl) trivial ?_
  intro f1 w1 A hb
  replace bl0 := bl
  replace x0 := (A.old 0 rfl).trans x0
  replace x1 := (A.old 1 rfl).trans x1
  replace bl := (bl.trans (Below.mono hb bl.size))
  replace sz := A.size.trans sz
  replace df := A.defs.trans df
  clear A hb
  refine wl_one (.nw w1.heap.size 39 ([.int .i64 i, .int .i64 n, ul, up] : List Value)) rfl 3 rfl (by rw [sz]; decide) (st_box 39 (.tmp 1) rfl _ _ (by rw [show _ = _ from x1]; kernel_rfl) (Nat.le_refl _)) ?_
  intro f2 w2 df2 sz2 old2 new2 hb
  replace bl0 := bl
  replace x0 := (old2 0 rfl).trans x0
  replace x1 := (old2 1 rfl).trans x1
  have x3 : Fk.f (.nw w1.heap.size 39 ([.int .i64 i, .int .i64 n, ul, up] : List Value)) (f2.eval (.tmp 3)) w2 := new2
  replace bl := (bl.trans (Below.mono hb bl.size))
  replace sz := sz2.trans sz
  replace df := df2.trans df
  clear df2 sz2 old2 new2 hb
  obtain ⟨g3, hg3, e3, m3⟩ := x3
  have x3 := e3
  clear e3
  have hw3 : w.heap.size ≤ g3 := Nat.le_trans bl0.size hg3
  clear x1
  refine wl_one (.nw w2.heap.size 25 [.slice none 0 0, .slice none 0 0]) rfl 4 rfl (by rw [sz]; decide) (st_alloc 25 rfl _ _ (by kernel_rfl) (Nat.le_refl _)) ?_
  intro f3 w3 df2 sz2 old2 new2 hb
  replace bl0 := bl
  replace x0 := (old2 0 rfl).trans x0
  replace x3 := (old2 3 rfl).trans x3
  have x4 : Fk.f (.nw w2.heap.size 25 [.slice none 0 0, .slice none 0 0]) (f3.eval (.tmp 4)) w3 := new2
  have lt_m3 := Ob.lt m3
  replace m3 := Ob.below m3 hb
  replace bl := (bl.trans (Below.mono hb bl.size))
  replace sz := sz2.trans sz
  replace df := df2.trans df
  clear df2 sz2 old2 new2 hb
  obtain ⟨g4, hg4, e4, m4⟩ := x4
  have x4 := e4
  clear e4
  have nm3_4 : g3 ≠ g4 := Nat.ne_of_lt (Nat.lt_of_lt_of_le lt_m3 hg4)
  have hw4 : w.heap.size ≤ g4 := Nat.le_trans bl0.size hg4
  refine wl_one (.eq (.bool false)) rfl 5 rfl (by rw [sz]; decide) (st_assign (.const (.bool false)) rfl rfl) ?_
  intro f4 w4 df2 sz2 old2 new2 hb
  replace bl0 := bl
  replace x0 := (old2 0 rfl).trans x0
  replace x3 := (old2 3 rfl).trans x3
  replace x4 := (old2 4 rfl).trans x4
  have x5 : f4.eval (.tmp 5) = .bool false := new2
  have lt_m3 := Ob.lt m3
  replace m3 := Ob.below m3 hb
  have lt_m4 := Ob.lt m4
  replace m4 := Ob.below m4 hb
  replace bl := (bl.trans (Below.mono hb bl.size))
  replace sz := sz2.trans sz
  replace df := df2.trans df
  clear df2 sz2 old2 new2 hb
  refine wl_one (.eq (.int .i64 0)) rfl 6 rfl (by rw [sz]; decide) (st_assign (.const (.int .i64 0)) rfl rfl) ?_
  intro f5 w5 df2 sz2 old2 new2 hb
  replace bl0 := bl
  replace x0 := (old2 0 rfl).trans x0
  replace x3 := (old2 3 rfl).trans x3
  replace x4 := (old2 4 rfl).trans x4
  replace x5 := (old2 5 rfl).trans x5
  have x6 : f5.eval (.tmp 6) = .int .i64 0 := new2
  have lt_m3 := Ob.lt m3
  replace m3 := Ob.below m3 hb
  have lt_m4 := Ob.lt m4
  replace m4 := Ob.below m4 hb
  replace bl := (bl.trans (Below.mono hb bl.size))
  replace sz := sz2.trans sz
  replace df := df2.trans df
  clear df2 sz2 old2 new2 hb
  refine wpList_nil ?_
  show Code.wp _ _ _ _ _
  refine wp_seq ?_
  refine wp_seq ?_
  by_cases hn : n ≠ (ps.length : Int)
  rotate_left
  · skip
    by_cases hi : i < 0
    rotate_left
    · skip
      refine wp_all_seq [.eq (.pointer (some ⟨g3, 1, none⟩)), .eq (.int .i64 n), .eq (va), .eq (.int .i64 (((ps).length : Nat) : Int)), .eq (.bool false), .eq (.bool false), .eq (.pointer (some ⟨g3, 0, none⟩)), .eq (.int .i64 i), .eq (.bool false), .eq (.bool false), .eq (.bool false), .eq (.pointer (some ⟨g3, 0, none⟩)), .eq (.int .i64 i), .eq (.pointer (some ⟨g3, 1, none⟩)), .eq (.int .i64 n), .eq (.bool true), .eq (.bool true)] (by kernel_rfl) (by kernel_rfl) (by rw [sz]; kernel_rfl) (by kernel_rfl) ⟨fun hw ac u K => ?_, fun hw ac u K => ?_, fun hw ac u K => ?_, fun hw ac u K => ?_, fun hw ac u K => ?_, fun hw ac u K => ?_, fun hw ac u K => ?_, fun hw ac u K => ?_, fun hw ac u K => ?_, fun hw ac u K => ?_, fun hw ac u K => ?_, fun hw ac u K => ?_, fun hw ac u K => ?_, fun hw ac u K => ?_, fun hw ac u K => ?_, fun hw ac u K => ?_, fun hw ac u K => ?_, trivial⟩ ?_
      · exact st_field 39 1 (.tmp 3) rfl ((K.old 3 rfl).trans x3) (by kernel_rfl)
      · exact st_loadc 3 (.tmp 7) rfl (by kernel_rfl) (K.dep 0 7 rfl) (Ob.cell (Ob.below m3 K.grow) 1 rfl)
      · exact st_move (.tmp 0) rfl ((K.old 0 rfl).trans x0)
      · exact st_lenm (.tmp 9) rfl (fk_val (K.dep 2 9 rfl) (Fk.mono _ _ _ _ ham (bl.trans (Below.mono K.grow bl.size))))
      · exact st_neqi 3 (.tmp 8) (.tmp 10) rfl .i64 (n) ((((ps).length : Nat) : Int)) (K.dep 1 8 rfl) (K.dep 3 10 rfl) _ (by symm; rw [decide_eq_false_iff_not]; exact hn)
      · exact st_move (.tmp 11) rfl (K.dep 4 11 rfl)
      · exact st_field 39 0 (.tmp 3) rfl ((K.old 3 rfl).trans x3) (by kernel_rfl)
      · exact st_loadc 3 (.tmp 13) rfl (by kernel_rfl) (K.dep 6 13 rfl) (Ob.cell (Ob.below m3 K.grow) 0 rfl)
      · exact st_lss 3 (.tmp 14) (.const (.int .i64 0)) rfl .i64 (i) (0) (K.dep 7 14 rfl) rfl _ (by symm; rw [decide_eq_false_iff_not]; exact hi)
      · exact st_pick_f' (.tmp 12) (.const (.bool true)) (.tmp 15) rfl (K.dep 5 12 rfl) (K.dep 8 15 rfl)
      · exact st_move (.tmp 16) rfl (K.dep 9 16 rfl)
      · exact st_field 39 0 (.tmp 3) rfl ((K.old 3 rfl).trans x3) (by kernel_rfl)
      · exact st_loadc 3 (.tmp 18) rfl (by kernel_rfl) (K.dep 11 18 rfl) (Ob.cell (Ob.below m3 K.grow) 0 rfl)
      · exact st_field 39 1 (.tmp 3) rfl ((K.old 3 rfl).trans x3) (by kernel_rfl)
      · exact st_loadc 3 (.tmp 20) rfl (by kernel_rfl) (K.dep 13 20 rfl) (Ob.cell (Ob.below m3 K.grow) 1 rfl)
      · exact st_geq 3 (.tmp 19) (.tmp 21) rfl .i64 (i) (n) (K.dep 12 19 rfl) (K.dep 14 21 rfl) _ (by symm; rw [decide_eq_true_iff]; exact (by rcases h with h | h | h; exact absurd h hn; exact absurd h hi; omega))
      · exact st_pick_f' (.tmp 17) (.const (.bool true)) (.tmp 22) rfl (K.dep 10 17 rfl) (K.dep 15 22 rfl)
      intro f6 w6 A hb
      replace bl0 := bl
      replace x0 := (A.old 0 rfl).trans x0
      replace x3 := (A.old 3 rfl).trans x3
      replace x4 := (A.old 4 rfl).trans x4
      replace x5 := (A.old 5 rfl).trans x5
      replace x6 := (A.old 6 rfl).trans x6
      have x23 : f6.eval (.tmp 23) = .bool true := A.has 16 23 rfl
      have lt_m3 := Ob.lt m3
      replace m3 := Ob.below m3 hb
      have lt_m4 := Ob.lt m4
      replace m4 := Ob.below m4 hb
      replace bl := (bl.trans (Below.mono hb bl.size))
      replace sz := A.size.trans sz
      replace df := A.defs.trans df
      clear A hb
      show Code.wp _ _ _ _ _
      refine wp_cond_true x23 ?_
      refine wp_seq ?_
      refine wp_region_seq [.eq (.agg ([.slice none 0 0, .slice none 0 0] : List Value).toArray)] (by kernel_rfl) (by kernel_rfl) (by rw [sz]; kernel_rfl) (by kernel_rfl) ⟨fun hw ac u K => ?_, trivial⟩ ?_
      · exact st_build 25 _ rfl (by kernel_rfl)
      intro f7 w7 A hb
      replace bl0 := bl
      replace x0 := (A.old 0 rfl).trans x0
      replace x3 := (A.old 3 rfl).trans x3
      replace x4 := (A.old 4 rfl).trans x4
      replace x5 := (A.old 5 rfl).trans x5
      replace x6 := (A.old 6 rfl).trans x6
      replace x23 := (A.old 23 rfl).trans x23
      have x24 : f7.eval (.tmp 24) = .agg ([.slice none 0 0, .slice none 0 0] : List Value).toArray := A.has 0 24 rfl
      have lt_m3 := Ob.lt m3
      replace m3 := Ob.below m3 hb
      have lt_m4 := Ob.lt m4
      replace m4 := Ob.below m4 hb
      replace bl := (bl.trans (Below.mono hb bl.size))
      replace sz := A.size.trans sz
      replace df := A.defs.trans df
      clear A hb
      refine wl_str rfl 25 (.tmp 4) (.tmp 24) rfl rfl (g4) ([.slice none 0 0, .slice none 0 0] : List Value).toArray x4 x24 25 _ m4 (by kernel_rfl) (by kernel_rfl) (by kernel_rfl) ?_
      replace m3 : Ob (w7.setRow g4 ([.slice none 0 0, .slice none 0 0] : List Value).toArray) (g3) 39 ([.int .i64 i, .int .i64 n, ul, up]) := Ob.setRow_other m3 _ nm3_4
      replace m4 : Ob (w7.setRow g4 ([.slice none 0 0, .slice none 0 0] : List Value).toArray) (g4) 25 ([.slice none 0 0, .slice none 0 0]) := Ob.setRow m4 ([.slice none 0 0, .slice none 0 0])
      replace bl : Below w.heap.size w (w7.setRow g4 ([.slice none 0 0, .slice none 0 0] : List Value).toArray) := bl.trans (below_setRow _ _ _ _ hw4)
      generalize w7.setRow g4 ([.slice none 0 0, .slice none 0 0] : List Value).toArray = w8b at bl m3 m4 ⊢
      clear x24
      refine wl_one (.eq (.bool false)) rfl 5 rfl (by rw [sz]; decide) (st_assign (.const (.bool false)) rfl rfl) ?_
      intro f9 w9 df2 sz2 old2 new2 hb
      replace bl0 := bl
      replace x0 := (old2 0 rfl).trans x0
      replace x3 := (old2 3 rfl).trans x3
      replace x4 := (old2 4 rfl).trans x4
      clear x5
      replace x6 := (old2 6 rfl).trans x6
      replace x23 := (old2 23 rfl).trans x23
      have x5 : f9.eval (.tmp 5) = .bool false := new2
      have lt_m3 := Ob.lt m3
      replace m3 := Ob.below m3 hb
      have lt_m4 := Ob.lt m4
      replace m4 := Ob.below m4 hb
      replace bl := (bl.trans (Below.mono hb bl.size))
      replace sz := sz2.trans sz
      replace df := df2.trans df
      clear df2 sz2 old2 new2 hb
      refine wl_one (.eq (.int .i64 11)) rfl 6 rfl (by rw [sz]; decide) (st_assign (.const (.int .i64 11)) rfl rfl) ?_
      intro f10 w10 df2 sz2 old2 new2 hb
      replace bl0 := bl
      replace x0 := (old2 0 rfl).trans x0
      replace x3 := (old2 3 rfl).trans x3
      replace x4 := (old2 4 rfl).trans x4
      clear x6
      replace x23 := (old2 23 rfl).trans x23
      replace x5 := (old2 5 rfl).trans x5
      have x6 : f10.eval (.tmp 6) = .int .i64 11 := new2
      have lt_m3 := Ob.lt m3
      replace m3 := Ob.below m3 hb
      have lt_m4 := Ob.lt m4
      replace m4 := Ob.below m4 hb
      replace bl := (bl.trans (Below.mono hb bl.size))
      replace sz := sz2.trans sz
      replace df := df2.trans df
      clear df2 sz2 old2 new2 hb
      refine wpList_nil ?_
      show Code.wp _ _ _ _ _
      refine wp_ret ?_
      repeat (first | with_reducible refine then_ret ?_ | with_reducible refine block_ret ?_)
      exact bodyPost_ret (v := .tuple #[.agg ([.slice none 0 0, .slice none 0 0] : List Value).toArray, .bool false, .int .i64 11]) (ret_c3 rfl f10 _ g4 _ _ _ _ x4 m4 x5 x6) df ⟨_, rfl, c3_none _ _, bl⟩
    refine wp_all_seq [.eq (.pointer (some ⟨g3, 1, none⟩)), .eq (.int .i64 n), .eq (va), .eq (.int .i64 (((ps).length : Nat) : Int)), .eq (.bool false), .eq (.bool false), .eq (.pointer (some ⟨g3, 0, none⟩)), .eq (.int .i64 i), .eq (.bool true), .eq (.bool true), .eq (.bool true), .any, .any, .any, .any, .any, .eq (.bool true)] (by kernel_rfl) (by kernel_rfl) (by rw [sz]; kernel_rfl) (by kernel_rfl) ⟨fun hw ac u K => ?_, fun hw ac u K => ?_, fun hw ac u K => ?_, fun hw ac u K => ?_, fun hw ac u K => ?_, fun hw ac u K => ?_, fun hw ac u K => ?_, fun hw ac u K => ?_, fun hw ac u K => ?_, fun hw ac u K => ?_, fun hw ac u K => ?_, fun hw ac u K => ?_, fun hw ac u K => ?_, fun hw ac u K => ?_, fun hw ac u K => ?_, fun hw ac u K => ?_, fun hw ac u K => ?_, trivial⟩ ?_
    · exact st_field 39 1 (.tmp 3) rfl ((K.old 3 rfl).trans x3) (by kernel_rfl)
    · exact st_loadc 3 (.tmp 7) rfl (by kernel_rfl) (K.dep 0 7 rfl) (Ob.cell (Ob.below m3 K.grow) 1 rfl)
    · exact st_move (.tmp 0) rfl ((K.old 0 rfl).trans x0)
    · exact st_lenm (.tmp 9) rfl (fk_val (K.dep 2 9 rfl) (Fk.mono _ _ _ _ ham (bl.trans (Below.mono K.grow bl.size))))
    · exact st_neqi 3 (.tmp 8) (.tmp 10) rfl .i64 (n) ((((ps).length : Nat) : Int)) (K.dep 1 8 rfl) (K.dep 3 10 rfl) _ (by symm; rw [decide_eq_false_iff_not]; exact hn)
    · exact st_move (.tmp 11) rfl (K.dep 4 11 rfl)
    · exact st_field 39 0 (.tmp 3) rfl ((K.old 3 rfl).trans x3) (by kernel_rfl)
    · exact st_loadc 3 (.tmp 13) rfl (by kernel_rfl) (K.dep 6 13 rfl) (Ob.cell (Ob.below m3 K.grow) 0 rfl)
    · exact st_lss 3 (.tmp 14) (.const (.int .i64 0)) rfl .i64 (i) (0) (K.dep 7 14 rfl) rfl _ (by symm; rw [decide_eq_true_iff]; exact hi)
    · exact st_pick_f' (.tmp 12) (.const (.bool true)) (.tmp 15) rfl (K.dep 5 12 rfl) (K.dep 8 15 rfl)
    · exact st_move (.tmp 16) rfl (K.dep 9 16 rfl)
    · exact (Bool.false_ne_true hw).elim
    · exact (Bool.false_ne_true hw).elim
    · exact (Bool.false_ne_true hw).elim
    · exact (Bool.false_ne_true hw).elim
    · exact (Bool.false_ne_true hw).elim
    · exact st_pick_t (.tmp 17) (.const (.bool true)) (.tmp 22) rfl (K.dep 10 17 rfl) rfl
    intro f6 w6 A hb
    replace bl0 := bl
    replace x0 := (A.old 0 rfl).trans x0
    replace x3 := (A.old 3 rfl).trans x3
    replace x4 := (A.old 4 rfl).trans x4
    replace x5 := (A.old 5 rfl).trans x5
    replace x6 := (A.old 6 rfl).trans x6
    have x23 : f6.eval (.tmp 23) = .bool true := A.has 16 23 rfl
    have lt_m3 := Ob.lt m3
    replace m3 := Ob.below m3 hb
    have lt_m4 := Ob.lt m4
    replace m4 := Ob.below m4 hb
    replace bl := (bl.trans (Below.mono hb bl.size))
    replace sz := A.size.trans sz
    replace df := A.defs.trans df
    clear A hb
    show Code.wp _ _ _ _ _
    refine wp_cond_true x23 ?_
    refine wp_seq ?_
    refine wp_region_seq [.eq (.agg ([.slice none 0 0, .slice none 0 0] : List Value).toArray)] (by kernel_rfl) (by kernel_rfl) (by rw [sz]; kernel_rfl) (by kernel_rfl) ⟨fun hw ac u K => ?_, trivial⟩ ?_
    · exact st_build 25 _ rfl (by kernel_rfl)
    intro f7 w7 A hb
    replace bl0 := bl
    replace x0 := (A.old 0 rfl).trans x0
    replace x3 := (A.old 3 rfl).trans x3
    replace x4 := (A.old 4 rfl).trans x4
    replace x5 := (A.old 5 rfl).trans x5
    replace x6 := (A.old 6 rfl).trans x6
    replace x23 := (A.old 23 rfl).trans x23
    have x24 : f7.eval (.tmp 24) = .agg ([.slice none 0 0, .slice none 0 0] : List Value).toArray := A.has 0 24 rfl
    have lt_m3 := Ob.lt m3
    replace m3 := Ob.below m3 hb
    have lt_m4 := Ob.lt m4
    replace m4 := Ob.below m4 hb
    replace bl := (bl.trans (Below.mono hb bl.size))
    replace sz := A.size.trans sz
    replace df := A.defs.trans df
    clear A hb
    refine wl_str rfl 25 (.tmp 4) (.tmp 24) rfl rfl (g4) ([.slice none 0 0, .slice none 0 0] : List Value).toArray x4 x24 25 _ m4 (by kernel_rfl) (by kernel_rfl) (by kernel_rfl) ?_
    replace m3 : Ob (w7.setRow g4 ([.slice none 0 0, .slice none 0 0] : List Value).toArray) (g3) 39 ([.int .i64 i, .int .i64 n, ul, up]) := Ob.setRow_other m3 _ nm3_4
    replace m4 : Ob (w7.setRow g4 ([.slice none 0 0, .slice none 0 0] : List Value).toArray) (g4) 25 ([.slice none 0 0, .slice none 0 0]) := Ob.setRow m4 ([.slice none 0 0, .slice none 0 0])
    replace bl : Below w.heap.size w (w7.setRow g4 ([.slice none 0 0, .slice none 0 0] : List Value).toArray) := bl.trans (below_setRow _ _ _ _ hw4)
    generalize w7.setRow g4 ([.slice none 0 0, .slice none 0 0] : List Value).toArray = w8b at bl m3 m4 ⊢
    clear x24
    refine wl_one (.eq (.bool false)) rfl 5 rfl (by rw [sz]; decide) (st_assign (.const (.bool false)) rfl rfl) ?_
    intro f9 w9 df2 sz2 old2 new2 hb
    replace bl0 := bl
    replace x0 := (old2 0 rfl).trans x0
    replace x3 := (old2 3 rfl).trans x3
    replace x4 := (old2 4 rfl).trans x4
    clear x5
    replace x6 := (old2 6 rfl).trans x6
    replace x23 := (old2 23 rfl).trans x23
    have x5 : f9.eval (.tmp 5) = .bool false := new2
    have lt_m3 := Ob.lt m3
    replace m3 := Ob.below m3 hb
    have lt_m4 := Ob.lt m4
    replace m4 := Ob.below m4 hb
    replace bl := (bl.trans (Below.mono hb bl.size))
    replace sz := sz2.trans sz
    replace df := df2.trans df
    clear df2 sz2 old2 new2 hb
    refine wl_one (.eq (.int .i64 11)) rfl 6 rfl (by rw [sz]; decide) (st_assign (.const (.int .i64 11)) rfl rfl) ?_
    intro f10 w10 df2 sz2 old2 new2 hb
    replace bl0 := bl
    replace x0 := (old2 0 rfl).trans x0
    replace x3 := (old2 3 rfl).trans x3
    replace x4 := (old2 4 rfl).trans x4
    clear x6
    replace x23 := (old2 23 rfl).trans x23
    replace x5 := (old2 5 rfl).trans x5
    have x6 : f10.eval (.tmp 6) = .int .i64 11 := new2
    have lt_m3 := Ob.lt m3
    replace m3 := Ob.below m3 hb
    have lt_m4 := Ob.lt m4
    replace m4 := Ob.below m4 hb
    replace bl := (bl.trans (Below.mono hb bl.size))
    replace sz := sz2.trans sz
    replace df := df2.trans df
    clear df2 sz2 old2 new2 hb
    refine wpList_nil ?_
    show Code.wp _ _ _ _ _
    refine wp_ret ?_
    repeat (first | with_reducible refine then_ret ?_ | with_reducible refine block_ret ?_)
    exact bodyPost_ret (v := .tuple #[.agg ([.slice none 0 0, .slice none 0 0] : List Value).toArray, .bool false, .int .i64 11]) (ret_c3 rfl f10 _ g4 _ _ _ _ x4 m4 x5 x6) df ⟨_, rfl, c3_none _ _, bl⟩
  refine wp_all_seq [.eq (.pointer (some ⟨g3, 1, none⟩)), .eq (.int .i64 n), .eq (va), .eq (.int .i64 (((ps).length : Nat) : Int)), .eq (.bool true), .eq (.bool true), .any, .any, .any, .eq (.bool true), .eq (.bool true), .any, .any, .any, .any, .any, .eq (.bool true)] (by kernel_rfl) (by kernel_rfl) (by rw [sz]; kernel_rfl) (by kernel_rfl) ⟨fun hw ac u K => ?_, fun hw ac u K => ?_, fun hw ac u K => ?_, fun hw ac u K => ?_, fun hw ac u K => ?_, fun hw ac u K => ?_, fun hw ac u K => ?_, fun hw ac u K => ?_, fun hw ac u K => ?_, fun hw ac u K => ?_, fun hw ac u K => ?_, fun hw ac u K => ?_, fun hw ac u K => ?_, fun hw ac u K => ?_, fun hw ac u K => ?_, fun hw ac u K => ?_, fun hw ac u K => ?_, trivial⟩ ?_
  · exact st_field 39 1 (.tmp 3) rfl ((K.old 3 rfl).trans x3) (by kernel_rfl)
  · exact st_loadc 3 (.tmp 7) rfl (by kernel_rfl) (K.dep 0 7 rfl) (Ob.cell (Ob.below m3 K.grow) 1 rfl)
  · exact st_move (.tmp 0) rfl ((K.old 0 rfl).trans x0)
  · exact st_lenm (.tmp 9) rfl (fk_val (K.dep 2 9 rfl) (Fk.mono _ _ _ _ ham (bl.trans (Below.mono K.grow bl.size))))
  · exact st_neqi 3 (.tmp 8) (.tmp 10) rfl .i64 (n) ((((ps).length : Nat) : Int)) (K.dep 1 8 rfl) (K.dep 3 10 rfl) _ (by symm; rw [decide_eq_true_iff]; exact hn)
  · exact st_move (.tmp 11) rfl (K.dep 4 11 rfl)
  · exact (Bool.false_ne_true hw).elim
  · exact (Bool.false_ne_true hw).elim
  · exact (Bool.false_ne_true hw).elim
  · exact st_pick_t (.tmp 12) (.const (.bool true)) (.tmp 15) rfl (K.dep 5 12 rfl) rfl
  · exact st_move (.tmp 16) rfl (K.dep 9 16 rfl)
  · exact (Bool.false_ne_true hw).elim
  · exact (Bool.false_ne_true hw).elim
  · exact (Bool.false_ne_true hw).elim
  · exact (Bool.false_ne_true hw).elim
  · exact (Bool.false_ne_true hw).elim
  · exact st_pick_t (.tmp 17) (.const (.bool true)) (.tmp 22) rfl (K.dep 10 17 rfl) rfl
  intro f6 w6 A hb
  replace bl0 := bl
  replace x0 := (A.old 0 rfl).trans x0
  replace x3 := (A.old 3 rfl).trans x3
  replace x4 := (A.old 4 rfl).trans x4
  replace x5 := (A.old 5 rfl).trans x5
  replace x6 := (A.old 6 rfl).trans x6
  have x23 : f6.eval (.tmp 23) = .bool true := A.has 16 23 rfl
  have lt_m3 := Ob.lt m3
  replace m3 := Ob.below m3 hb
  have lt_m4 := Ob.lt m4
  replace m4 := Ob.below m4 hb
  replace bl := (bl.trans (Below.mono hb bl.size))
  replace sz := A.size.trans sz
  replace df := A.defs.trans df
  clear A hb
  show Code.wp _ _ _ _ _
  refine wp_cond_true x23 ?_
  refine wp_seq ?_
  refine wp_region_seq [.eq (.agg ([.slice none 0 0, .slice none 0 0] : List Value).toArray)] (by kernel_rfl) (by kernel_rfl) (by rw [sz]; kernel_rfl) (by kernel_rfl) ⟨fun hw ac u K => ?_, trivial⟩ ?_
  · exact st_build 25 _ rfl (by kernel_rfl)
  intro f7 w7 A hb
  replace bl0 := bl
  replace x0 := (A.old 0 rfl).trans x0
  replace x3 := (A.old 3 rfl).trans x3
  replace x4 := (A.old 4 rfl).trans x4
  replace x5 := (A.old 5 rfl).trans x5
  replace x6 := (A.old 6 rfl).trans x6
  replace x23 := (A.old 23 rfl).trans x23
  have x24 : f7.eval (.tmp 24) = .agg ([.slice none 0 0, .slice none 0 0] : List Value).toArray := A.has 0 24 rfl
  have lt_m3 := Ob.lt m3
  replace m3 := Ob.below m3 hb
  have lt_m4 := Ob.lt m4
  replace m4 := Ob.below m4 hb
  replace bl := (bl.trans (Below.mono hb bl.size))
  replace sz := A.size.trans sz
  replace df := A.defs.trans df
  clear A hb
  refine wl_str rfl 25 (.tmp 4) (.tmp 24) rfl rfl (g4) ([.slice none 0 0, .slice none 0 0] : List Value).toArray x4 x24 25 _ m4 (by kernel_rfl) (by kernel_rfl) (by kernel_rfl) ?_
  replace m3 : Ob (w7.setRow g4 ([.slice none 0 0, .slice none 0 0] : List Value).toArray) (g3) 39 ([.int .i64 i, .int .i64 n, ul, up]) := Ob.setRow_other m3 _ nm3_4
  replace m4 : Ob (w7.setRow g4 ([.slice none 0 0, .slice none 0 0] : List Value).toArray) (g4) 25 ([.slice none 0 0, .slice none 0 0]) := Ob.setRow m4 ([.slice none 0 0, .slice none 0 0])
  replace bl : Below w.heap.size w (w7.setRow g4 ([.slice none 0 0, .slice none 0 0] : List Value).toArray) := bl.trans (below_setRow _ _ _ _ hw4)
  generalize w7.setRow g4 ([.slice none 0 0, .slice none 0 0] : List Value).toArray = w8b at bl m3 m4 ⊢
  clear x24
  refine wl_one (.eq (.bool false)) rfl 5 rfl (by rw [sz]; decide) (st_assign (.const (.bool false)) rfl rfl) ?_
  intro f9 w9 df2 sz2 old2 new2 hb
  replace bl0 := bl
  replace x0 := (old2 0 rfl).trans x0
  replace x3 := (old2 3 rfl).trans x3
  replace x4 := (old2 4 rfl).trans x4
  clear x5
  replace x6 := (old2 6 rfl).trans x6
  replace x23 := (old2 23 rfl).trans x23
  have x5 : f9.eval (.tmp 5) = .bool false := new2
  have lt_m3 := Ob.lt m3
  replace m3 := Ob.below m3 hb
  have lt_m4 := Ob.lt m4
  replace m4 := Ob.below m4 hb
  replace bl := (bl.trans (Below.mono hb bl.size))
  replace sz := sz2.trans sz
  replace df := df2.trans df
  clear df2 sz2 old2 new2 hb
  refine wl_one (.eq (.int .i64 11)) rfl 6 rfl (by rw [sz]; decide) (st_assign (.const (.int .i64 11)) rfl rfl) ?_
  intro f10 w10 df2 sz2 old2 new2 hb
  replace bl0 := bl
  replace x0 := (old2 0 rfl).trans x0
  replace x3 := (old2 3 rfl).trans x3
  replace x4 := (old2 4 rfl).trans x4
  clear x6
  replace x23 := (old2 23 rfl).trans x23
  replace x5 := (old2 5 rfl).trans x5
  have x6 : f10.eval (.tmp 6) = .int .i64 11 := new2
  have lt_m3 := Ob.lt m3
  replace m3 := Ob.below m3 hb
  have lt_m4 := Ob.lt m4
  replace m4 := Ob.below m4 hb
  replace bl := (bl.trans (Below.mono hb bl.size))
  replace sz := sz2.trans sz
  replace df := df2.trans df
  clear df2 sz2 old2 new2 hb
  refine wpList_nil ?_
  show Code.wp _ _ _ _ _
  refine wp_ret ?_
  repeat (first | with_reducible refine then_ret ?_ | with_reducible refine block_ret ?_)
  exact bodyPost_ret (v := .tuple #[.agg ([.slice none 0 0, .slice none 0 0] : List Value).toArray, .bool false, .int .i64 11]) (ret_c3 rfl f10 _ g4 _ _ _ _ x4 m4 x5 x6) df ⟨_, rfl, c3_none _ _, bl⟩
set_option maxHeartbeats 1000000 in
theorem fk_cin_bad {ps : List Pt} (hs : smallP ps) {lb : List (BitVec 8)} (hlb : lb.length ≤ 300) {P : List (List (BitVec 8))} (hP : P.length ≤ 50) {w : World} {va ul up : Value} (ha : (Fk.mc ps).f va w) (hl : (Fk.sl lb).f ul w) (hp : (Fk.hc P).f up w) (hK : Tab w) {i : Nat} (hi : i < ps.length) (h : ¬ (P.length = (sds i ps.length).length ∧ ldt (lf lb) P (sds i ps.length) = mroot (lhs ps))) :
    Calls Tryd.prog 16 #[va, .agg ([.int .i64 ((i : Nat) : Int), .int .i64 ((ps.length : Nat) : Int), ul, up] : List Value).toArray] w fun e w' => ∃ u, e = .returned u ∧ (Fk.c3 false 22).f u w' ∧ Below w.heap.size w w' := by
  have ham := ha.1
  have h40 := hs.2
  obtain ⟨lv, elv⟩ : ∃ x, Box (lf lb = x) := ⟨_, ⟨rfl⟩⟩
  obtain ⟨rv, erv⟩ : ∃ x, Box (mroot (lhs ps) = x) := ⟨_, ⟨rfl⟩⟩
  have hlv : lv.length = 32 := by rw [← elv.out]; exact lf_len _
  have hrv : rv.length = 32 := by rw [← erv.out]; exact mroot_len (lhs_32 ps)
  have hr : ¬ (P.length = (sds i ps.length).length ∧ ldt lv P (sds i ps.length) = rv) := by rw [← elv.out, ← erv.out]; exact h
  go_enter Tryd.func16, Tryd.ntmps16
  refine code_both (fun f w1 => f.tmps.size = 51 ∧ f.defers = [] ∧ f.eval (.tmp 0) = va ∧ f.eval (.tmp 1) = .agg ([.int .i64 ((i : Nat) : Int), .int .i64 ((ps.length : Nat) : Int), ul, up] : List Value).toArray ∧ Below w.heap.size w (w1)) ⟨rfl, rfl, rfl, rfl, Below.refl _ _⟩ ?_
  rintro f0 w0 ⟨sz, df, x0, x1, bl⟩
  have bl0 := bl
  refine wp_seq ?_
  refine wp_region_seq [] (by kernel_rfl) (by kernel_rfl) (by rw [sz]; kernel_rfl) (by kernel_rfl) trivial ?_
  intro f1 w1 A hb
  replace bl0 := bl
  replace x0 := (A.old 0 rfl).trans x0
  replace x1 := (A.old 1 rfl).trans x1
  replace bl := (bl.trans (Below.mono hb bl.size))
  replace sz := A.size.trans sz
  replace df := A.defs.trans df
  clear A hb
  refine wl_one (.nw w1.heap.size 39 ([.int .i64 ((i : Nat) : Int), .int .i64 ((ps.length : Nat) : Int), ul, up] : List Value)) rfl 3 rfl (by rw [sz]; decide) (st_box 39 (.tmp 1) rfl _ _ (by rw [show _ = _ from x1]; kernel_rfl) (Nat.le_refl _)) ?_
  intro f2 w2 df2 sz2 old2 new2 hb
  replace bl0 := bl
  replace x0 := (old2 0 rfl).trans x0
  replace x1 := (old2 1 rfl).trans x1
  have x3 : Fk.f (.nw w1.heap.size 39 ([.int .i64 ((i : Nat) : Int), .int .i64 ((ps.length : Nat) : Int), ul, up] : List Value)) (f2.eval (.tmp 3)) w2 := new2
  replace bl := (bl.trans (Below.mono hb bl.size))
  replace sz := sz2.trans sz
  replace df := df2.trans df
  clear df2 sz2 old2 new2 hb
  obtain ⟨g3, hg3, e3, m3⟩ := x3
  have x3 := e3
  clear e3
  have hw3 : w.heap.size ≤ g3 := Nat.le_trans bl0.size hg3
  clear x1
  refine wl_one (.nw w2.heap.size 25 [.slice none 0 0, .slice none 0 0]) rfl 4 rfl (by rw [sz]; decide) (st_alloc 25 rfl _ _ (by kernel_rfl) (Nat.le_refl _)) ?_
  intro f3 w3 df2 sz2 old2 new2 hb
  replace bl0 := bl
  replace x0 := (old2 0 rfl).trans x0
  replace x3 := (old2 3 rfl).trans x3
  have x4 : Fk.f (.nw w2.heap.size 25 [.slice none 0 0, .slice none 0 0]) (f3.eval (.tmp 4)) w3 := new2
  have lt_m3 := Ob.lt m3
  replace m3 := Ob.below m3 hb
  replace bl := (bl.trans (Below.mono hb bl.size))
  replace sz := sz2.trans sz
  replace df := df2.trans df
  clear df2 sz2 old2 new2 hb
  obtain ⟨g4, hg4, e4, m4⟩ := x4
  have x4 := e4
  clear e4
  have nm3_4 : g3 ≠ g4 := Nat.ne_of_lt (Nat.lt_of_lt_of_le lt_m3 hg4)
  have hw4 : w.heap.size ≤ g4 := Nat.le_trans bl0.size hg4
  refine wl_one (.eq (.bool false)) rfl 5 rfl (by rw [sz]; decide) (st_assign (.const (.bool false)) rfl rfl) ?_
  intro f4 w4 df2 sz2 old2 new2 hb
  replace bl0 := bl
  replace x0 := (old2 0 rfl).trans x0
  replace x3 := (old2 3 rfl).trans x3
  replace x4 := (old2 4 rfl).trans x4
  have x5 : f4.eval (.tmp 5) = .bool false := new2
  have lt_m3 := Ob.lt m3
  replace m3 := Ob.below m3 hb
  have lt_m4 := Ob.lt m4
  replace m4 := Ob.below m4 hb
  replace bl := (bl.trans (Below.mono hb bl.size))
  replace sz := sz2.trans sz
  replace df := df2.trans df
  clear df2 sz2 old2 new2 hb
  refine wl_one (.eq (.int .i64 0)) rfl 6 rfl (by rw [sz]; decide) (st_assign (.const (.int .i64 0)) rfl rfl) ?_
  intro f5 w5 df2 sz2 old2 new2 hb
  replace bl0 := bl
  replace x0 := (old2 0 rfl).trans x0
  replace x3 := (old2 3 rfl).trans x3
  replace x4 := (old2 4 rfl).trans x4
  replace x5 := (old2 5 rfl).trans x5
  have x6 : f5.eval (.tmp 6) = .int .i64 0 := new2
  have lt_m3 := Ob.lt m3
  replace m3 := Ob.below m3 hb
  have lt_m4 := Ob.lt m4
  replace m4 := Ob.below m4 hb
  replace bl := (bl.trans (Below.mono hb bl.size))
  replace sz := sz2.trans sz
  replace df := df2.trans df
  clear df2 sz2 old2 new2 hb
  refine wpList_nil ?_
  show Code.wp _ _ _ _ _
  refine wp_seq ?_
  refine wp_seq ?_
  refine wp_all_seq [.eq (.pointer (some ⟨g3, 1, none⟩)), .eq (.int .i64 ((ps.length : Nat) : Int)), .eq (va), .eq (.int .i64 (((ps).length : Nat) : Int)), .eq (.bool false), .eq (.bool false), .eq (.pointer (some ⟨g3, 0, none⟩)), .eq (.int .i64 ((i : Nat) : Int)), .eq (.bool false), .eq (.bool false), .eq (.bool false), .eq (.pointer (some ⟨g3, 0, none⟩)), .eq (.int .i64 ((i : Nat) : Int)), .eq (.pointer (some ⟨g3, 1, none⟩)), .eq (.int .i64 ((ps.length : Nat) : Int)), .eq (.bool false), .eq (.bool false)] (by kernel_rfl) (by kernel_rfl) (by rw [sz]; kernel_rfl) (by kernel_rfl) ⟨fun hw ac u K => ?_, fun hw ac u K => ?_, fun hw ac u K => ?_, fun hw ac u K => ?_, fun hw ac u K => ?_, fun hw ac u K => ?_, fun hw ac u K => ?_, fun hw ac u K => ?_, fun hw ac u K => ?_, fun hw ac u K => ?_, fun hw ac u K => ?_, fun hw ac u K => ?_, fun hw ac u K => ?_, fun hw ac u K => ?_, fun hw ac u K => ?_, fun hw ac u K => ?_, fun hw ac u K => ?_, trivial⟩ ?_
  · exact st_field 39 1 (.tmp 3) rfl ((K.old 3 rfl).trans x3) (by kernel_rfl)
  · exact st_loadc 3 (.tmp 7) rfl (by kernel_rfl) (K.dep 0 7 rfl) (Ob.cell (Ob.below m3 K.grow) 1 rfl)
  · exact st_move (.tmp 0) rfl ((K.old 0 rfl).trans x0)
  · exact st_lenm (.tmp 9) rfl (fk_val (K.dep 2 9 rfl) (Fk.mono _ _ _ _ ham (bl.trans (Below.mono K.grow bl.size))))
  · exact st_neqi 3 (.tmp 8) (.tmp 10) rfl .i64 (((ps.length : Nat) : Int)) ((((ps).length : Nat) : Int)) (K.dep 1 8 rfl) (K.dep 3 10 rfl) _ (by simp)
  · exact st_move (.tmp 11) rfl (K.dep 4 11 rfl)
  · exact st_field 39 0 (.tmp 3) rfl ((K.old 3 rfl).trans x3) (by kernel_rfl)
  · exact st_loadc 3 (.tmp 13) rfl (by kernel_rfl) (K.dep 6 13 rfl) (Ob.cell (Ob.below m3 K.grow) 0 rfl)
  · exact st_lss 3 (.tmp 14) (.const (.int .i64 0)) rfl .i64 (((i : Nat) : Int)) (0) (K.dep 7 14 rfl) rfl _ (by symm; rw [decide_eq_false_iff_not]; exact (by omega))
  · exact st_pick_f' (.tmp 12) (.const (.bool true)) (.tmp 15) rfl (K.dep 5 12 rfl) (K.dep 8 15 rfl)
  · exact st_move (.tmp 16) rfl (K.dep 9 16 rfl)
  · exact st_field 39 0 (.tmp 3) rfl ((K.old 3 rfl).trans x3) (by kernel_rfl)
  · exact st_loadc 3 (.tmp 18) rfl (by kernel_rfl) (K.dep 11 18 rfl) (Ob.cell (Ob.below m3 K.grow) 0 rfl)
  · exact st_field 39 1 (.tmp 3) rfl ((K.old 3 rfl).trans x3) (by kernel_rfl)
  · exact st_loadc 3 (.tmp 20) rfl (by kernel_rfl) (K.dep 13 20 rfl) (Ob.cell (Ob.below m3 K.grow) 1 rfl)
  · exact st_geq 3 (.tmp 19) (.tmp 21) rfl .i64 (((i : Nat) : Int)) (((ps.length : Nat) : Int)) (K.dep 12 19 rfl) (K.dep 14 21 rfl) _ (by symm; rw [decide_eq_false_iff_not]; exact (by omega))
  · exact st_pick_f' (.tmp 17) (.const (.bool true)) (.tmp 22) rfl (K.dep 10 17 rfl) (K.dep 15 22 rfl)
  intro f6 w6 A hb
  replace bl0 := bl
  replace x0 := (A.old 0 rfl).trans x0
  replace x3 := (A.old 3 rfl).trans x3
  replace x4 := (A.old 4 rfl).trans x4
  replace x5 := (A.old 5 rfl).trans x5
  replace x6 := (A.old 6 rfl).trans x6
  have x23 : f6.eval (.tmp 23) = .bool false := A.has 16 23 rfl
  have lt_m3 := Ob.lt m3
  replace m3 := Ob.below m3 hb
  have lt_m4 := Ob.lt m4
  replace m4 := Ob.below m4 hb
  replace bl := (bl.trans (Below.mono hb bl.size))
  replace sz := A.size.trans sz
  replace df := A.defs.trans df
  clear A hb
  show Code.wp _ _ _ _ _
  refine wp_cond_false x23 ?_
  refine wp_skip ?_
  show Code.wp _ _ _ _ _
  refine wp_seq ?_
  refine wp_seq ?_
  refine wp_all [.eq (.pointer (some ⟨g3, 2, none⟩)), .eq (ul), .eq (.agg ((lv).map V).toArray), .eq (.pointer (some ⟨g3, 0, none⟩)), .eq (.int .i64 ((i : Nat) : Int)), .eq (.pointer (some ⟨g3, 1, none⟩)), .eq (.int .i64 ((ps.length : Nat) : Int)), .eq (.pointer (some ⟨g3, 3, none⟩)), .eq (up), .eq (va), .eq (.agg ((rv).map V).toArray), .eq (.int .i64 22), .eq (.bool true)] Tryd.mixed (by kernel_rfl) (by kernel_rfl) (by rw [sz]; kernel_rfl) (by kernel_rfl) ⟨fun hw ac u K => ?_, fun hw ac u K => ?_, fun hw ac u K => ?_, fun hw ac u K => ?_, fun hw ac u K => ?_, fun hw ac u K => ?_, fun hw ac u K => ?_, fun hw ac u K => ?_, fun hw ac u K => ?_, fun hw ac u K => ?_, fun hw ac u K => ?_, fun hw ac u K => ?_, fun hw ac u K => ?_, trivial⟩ ?_
  · exact st_field 39 2 (.tmp 3) rfl ((K.old 3 rfl).trans x3) (by kernel_rfl)
  · exact st_loadc 22 (.tmp 25) rfl (by kernel_rfl) (K.dep 0 25 rfl) (Ob.cell (Ob.below m3 K.grow) 2 rfl)
  · exact st_call 18 (.func 18) _ _ #[ul] rfl rfl (one_arg (K.dep 1 26 rfl)) Tryd.enter18 (fk_leaf (by omega) (hK.below (bl.trans (Below.mono K.grow bl.size))) (Fk.mono _ _ _ _ hl (bl.trans (Below.mono K.grow bl.size))) elv)
  · exact st_field 39 0 (.tmp 3) rfl ((K.old 3 rfl).trans x3) (by kernel_rfl)
  · exact st_loadc 3 (.tmp 28) rfl (by kernel_rfl) (K.dep 3 28 rfl) (Ob.cell (Ob.below m3 K.grow) 0 rfl)
  · exact st_field 39 1 (.tmp 3) rfl ((K.old 3 rfl).trans x3) (by kernel_rfl)
  · exact st_loadc 3 (.tmp 30) rfl (by kernel_rfl) (K.dep 5 30 rfl) (Ob.cell (Ob.below m3 K.grow) 1 rfl)
  · exact st_field 39 3 (.tmp 3) rfl ((K.old 3 rfl).trans x3) (by kernel_rfl)
  · exact st_loadc 35 (.tmp 32) rfl (by kernel_rfl) (K.dep 7 32 rfl) (Ob.cell (Ob.below m3 K.grow) 3 rfl)
  · exact st_move (.tmp 0) rfl ((K.old 0 rfl).trans x0)
  · exact st_call 31 (.func 31) _ _ #[va] rfl rfl (one_arg (K.dep 9 34 rfl)) Tryd.enter31 (fk_lroot (by omega) (smallP_mx hs) (Fk.mono _ _ _ _ ham (bl.trans (Below.mono K.grow bl.size))) (hK.below (bl.trans (Below.mono K.grow bl.size))) erv)
  · exact st_call 17 (.func 17) _ _ #[.agg ((lv).map V).toArray, .int .i64 ((i : Nat) : Int), .int .i64 ((ps.length : Nat) : Int), up, .agg ((rv).map V).toArray] rfl rfl (arg5 (K.dep 2 27 rfl) (K.dep 4 29 rfl) (K.dep 6 31 rfl) (K.dep 8 33 rfl) (K.dep 10 35 rfl)) Tryd.enter17 (fk_in_any hlv hrv hi (by omega) (Fk.mono _ _ _ _ hp (bl.trans (Below.mono K.grow bl.size))) (by omega) (hK.below (bl.trans (Below.mono K.grow bl.size))) _ (by rw [if_neg hr]))
  · exact st_neqi 40 (.tmp 36) (.const (.int .i64 0)) rfl .i64 (22) (0) (K.dep 11 36 rfl) rfl _ (by rfl)
  intro f7 w7 A hb
  replace bl0 := bl
  replace x0 := (A.old 0 rfl).trans x0
  replace x3 := (A.old 3 rfl).trans x3
  replace x4 := (A.old 4 rfl).trans x4
  replace x5 := (A.old 5 rfl).trans x5
  replace x6 := (A.old 6 rfl).trans x6
  replace x23 := (A.old 23 rfl).trans x23
  have x37 : f7.eval (.tmp 37) = .bool true := A.has 12 37 rfl
  have lt_m3 := Ob.lt m3
  replace m3 := Ob.below m3 hb
  have lt_m4 := Ob.lt m4
  replace m4 := Ob.below m4 hb
  replace bl := (bl.trans (Below.mono hb bl.size))
  replace sz := A.size.trans sz
  replace df := A.defs.trans df
  clear A hb
  show Code.wp _ _ _ _ _
  refine wp_cond_true x37 ?_
  refine wp_seq ?_
  refine wp_region_seq [.eq (.agg ([.slice none 0 0, .slice none 0 0] : List Value).toArray)] (by kernel_rfl) (by kernel_rfl) (by rw [sz]; kernel_rfl) (by kernel_rfl) ⟨fun hw ac u K => ?_, trivial⟩ ?_
  · exact st_build 25 _ rfl (by kernel_rfl)
  intro f8 w8 A hb
  replace bl0 := bl
  replace x0 := (A.old 0 rfl).trans x0
  replace x3 := (A.old 3 rfl).trans x3
  replace x4 := (A.old 4 rfl).trans x4
  replace x5 := (A.old 5 rfl).trans x5
  replace x6 := (A.old 6 rfl).trans x6
  replace x23 := (A.old 23 rfl).trans x23
  replace x37 := (A.old 37 rfl).trans x37
  have x38 : f8.eval (.tmp 38) = .agg ([.slice none 0 0, .slice none 0 0] : List Value).toArray := A.has 0 38 rfl
  have lt_m3 := Ob.lt m3
  replace m3 := Ob.below m3 hb
  have lt_m4 := Ob.lt m4
  replace m4 := Ob.below m4 hb
  replace bl := (bl.trans (Below.mono hb bl.size))
  replace sz := A.size.trans sz
  replace df := A.defs.trans df
  clear A hb
  refine wl_str rfl 25 (.tmp 4) (.tmp 38) rfl rfl (g4) ([.slice none 0 0, .slice none 0 0] : List Value).toArray x4 x38 25 _ m4 (by kernel_rfl) (by kernel_rfl) (by kernel_rfl) ?_
  replace m3 : Ob (w8.setRow g4 ([.slice none 0 0, .slice none 0 0] : List Value).toArray) (g3) 39 ([.int .i64 ((i : Nat) : Int), .int .i64 ((ps.length : Nat) : Int), ul, up]) := Ob.setRow_other m3 _ nm3_4
  replace m4 : Ob (w8.setRow g4 ([.slice none 0 0, .slice none 0 0] : List Value).toArray) (g4) 25 ([.slice none 0 0, .slice none 0 0]) := Ob.setRow m4 ([.slice none 0 0, .slice none 0 0])
  replace bl : Below w.heap.size w (w8.setRow g4 ([.slice none 0 0, .slice none 0 0] : List Value).toArray) := bl.trans (below_setRow _ _ _ _ hw4)
  generalize w8.setRow g4 ([.slice none 0 0, .slice none 0 0] : List Value).toArray = w9b at bl m3 m4 ⊢
  clear x38
  refine wl_one (.eq (.bool false)) rfl 5 rfl (by rw [sz]; decide) (st_assign (.const (.bool false)) rfl rfl) ?_
  intro f10 w10 df2 sz2 old2 new2 hb
  replace bl0 := bl
  replace x0 := (old2 0 rfl).trans x0
  replace x3 := (old2 3 rfl).trans x3
  replace x4 := (old2 4 rfl).trans x4
  clear x5
  replace x6 := (old2 6 rfl).trans x6
  replace x23 := (old2 23 rfl).trans x23
  replace x37 := (old2 37 rfl).trans x37
  have x5 : f10.eval (.tmp 5) = .bool false := new2
  have lt_m3 := Ob.lt m3
  replace m3 := Ob.below m3 hb
  have lt_m4 := Ob.lt m4
  replace m4 := Ob.below m4 hb
  replace bl := (bl.trans (Below.mono hb bl.size))
  replace sz := sz2.trans sz
  replace df := df2.trans df
  clear df2 sz2 old2 new2 hb
  refine wl_one (.eq (.int .i64 22)) rfl 6 rfl (by rw [sz]; decide) (st_assign (.const (.int .i64 22)) rfl rfl) ?_
  intro f11 w11 df2 sz2 old2 new2 hb
  replace bl0 := bl
  replace x0 := (old2 0 rfl).trans x0
  replace x3 := (old2 3 rfl).trans x3
  replace x4 := (old2 4 rfl).trans x4
  clear x6
  replace x23 := (old2 23 rfl).trans x23
  replace x37 := (old2 37 rfl).trans x37
  replace x5 := (old2 5 rfl).trans x5
  have x6 : f11.eval (.tmp 6) = .int .i64 22 := new2
  have lt_m3 := Ob.lt m3
  replace m3 := Ob.below m3 hb
  have lt_m4 := Ob.lt m4
  replace m4 := Ob.below m4 hb
  replace bl := (bl.trans (Below.mono hb bl.size))
  replace sz := sz2.trans sz
  replace df := df2.trans df
  clear df2 sz2 old2 new2 hb
  refine wpList_nil ?_
  show Code.wp _ _ _ _ _
  refine wp_ret ?_
  repeat (first | with_reducible refine then_ret ?_ | with_reducible refine block_ret ?_)
  exact bodyPost_ret (v := .tuple #[.agg ([.slice none 0 0, .slice none 0 0] : List Value).toArray, .bool false, .int .i64 22]) (ret_c3 rfl f11 _ g4 _ _ _ _ x4 m4 x5 x6) df ⟨_, rfl, c3_none _ _, bl⟩
set_option maxHeartbeats 1000000 in
theorem cin_same {ps : List Pt} (hs : smallP ps) {lb : List (BitVec 8)} (hlb : lb.length ≤ 300) {P : List (List (BitVec 8))} (hP : P.length ≤ 50) {w : World} {va ul up : Value} (ha : (Fk.mc ps).f va w) (hl : (Fk.sl lb).f ul w) (hp : (Fk.hc P).f up w) (hK : Tab w) {i : Nat} {p : Pt} (hpk : ps[i]? = some p) (h1 : P.length = (sds i ps.length).length) (h2 : ldt (lf lb) P (sds i ps.length) = mroot (lhs ps)) (hq : lb = p.bs) :
    Calls Tryd.prog 16 #[va, .agg ([.int .i64 ((i : Nat) : Int), .int .i64 ((ps.length : Nat) : Int), ul, up] : List Value).toArray] w fun e w' => ∃ u, e = .returned u ∧ (Fk.c3 false 0).f u w' ∧ Below w.heap.size w w' := by
  have ham := ha.1
  have h40 := hs.2
  obtain ⟨lv, elv⟩ : ∃ x, Box (lf lb = x) := ⟨_, ⟨rfl⟩⟩
  obtain ⟨rv, erv⟩ : ∃ x, Box (mroot (lhs ps) = x) := ⟨_, ⟨rfl⟩⟩
  have hlv : lv.length = 32 := by rw [← elv.out]; exact lf_len _
  have hrv : rv.length = 32 := by rw [← erv.out]; exact mroot_len (lhs_32 ps)
  have hi : i < ps.length := (List.getElem?_eq_some_iff.1 hpk).1
  have hr : P.length = (sds i ps.length).length ∧ ldt lv P (sds i ps.length) = rv := by rw [← elv.out, ← erv.out]; exact ⟨h1, h2⟩
  have hslp : (Fk.sl p.bs).f (.slice p.sp p.m p.c) w := ⟨_, _, _, _, _, rfl, mg_ok ham hpk⟩
  go_enter Tryd.func16, Tryd.ntmps16
  refine code_both (fun f w1 => f.tmps.size = 51 ∧ f.defers = [] ∧ f.eval (.tmp 0) = va ∧ f.eval (.tmp 1) = .agg ([.int .i64 ((i : Nat) : Int), .int .i64 ((ps.length : Nat) : Int), ul, up] : List Value).toArray ∧ Below w.heap.size w (w1)) ⟨rfl, rfl, rfl, rfl, Below.refl _ _⟩ ?_
  rintro f0 w0 ⟨sz, df, x0, x1, bl⟩
  have bl0 := bl
  refine wp_seq ?_
  refine wp_region_seq [] (by kernel_rfl) (by kernel_rfl) (by rw [sz]; kernel_rfl) (by kernel_rfl) trivial ?_
  intro f1 w1 A hb
  replace bl0 := bl
  replace x0 := (A.old 0 rfl).trans x0
  replace x1 := (A.old 1 rfl).trans x1
  replace bl := (bl.trans (Below.mono hb bl.size))
  replace sz := A.size.trans sz
  replace df := A.defs.trans df
  clear A hb
  refine wl_one (.nw w1.heap.size 39 ([.int .i64 ((i : Nat) : Int), .int .i64 ((ps.length : Nat) : Int), ul, up] : List Value)) rfl 3 rfl (by rw [sz]; decide) (st_box 39 (.tmp 1) rfl _ _ (by rw [show _ = _ from x1]; kernel_rfl) (Nat.le_refl _)) ?_
  intro f2 w2 df2 sz2 old2 new2 hb
  replace bl0 := bl
  replace x0 := (old2 0 rfl).trans x0
  replace x1 := (old2 1 rfl).trans x1
  have x3 : Fk.f (.nw w1.heap.size 39 ([.int .i64 ((i : Nat) : Int), .int .i64 ((ps.length : Nat) : Int), ul, up] : List Value)) (f2.eval (.tmp 3)) w2 := new2
  replace bl := (bl.trans (Below.mono hb bl.size))
  replace sz := sz2.trans sz
  replace df := df2.trans df
  clear df2 sz2 old2 new2 hb
  obtain ⟨g3, hg3, e3, m3⟩ := x3
  have x3 := e3
  clear e3
  have hw3 : w.heap.size ≤ g3 := Nat.le_trans bl0.size hg3
  clear x1
  refine wl_one (.nw w2.heap.size 25 [.slice none 0 0, .slice none 0 0]) rfl 4 rfl (by rw [sz]; decide) (st_alloc 25 rfl _ _ (by kernel_rfl) (Nat.le_refl _)) ?_
  intro f3 w3 df2 sz2 old2 new2 hb
  replace bl0 := bl
  replace x0 := (old2 0 rfl).trans x0
  replace x3 := (old2 3 rfl).trans x3
  have x4 : Fk.f (.nw w2.heap.size 25 [.slice none 0 0, .slice none 0 0]) (f3.eval (.tmp 4)) w3 := new2
  have lt_m3 := Ob.lt m3
  replace m3 := Ob.below m3 hb
  replace bl := (bl.trans (Below.mono hb bl.size))
  replace sz := sz2.trans sz
  replace df := df2.trans df
  clear df2 sz2 old2 new2 hb
  obtain ⟨g4, hg4, e4, m4⟩ := x4
  have x4 := e4
  clear e4
  have nm3_4 : g3 ≠ g4 := Nat.ne_of_lt (Nat.lt_of_lt_of_le lt_m3 hg4)
  have hw4 : w.heap.size ≤ g4 := Nat.le_trans bl0.size hg4
  refine wl_one (.eq (.bool false)) rfl 5 rfl (by rw [sz]; decide) (st_assign (.const (.bool false)) rfl rfl) ?_
  intro f4 w4 df2 sz2 old2 new2 hb
  replace bl0 := bl
  replace x0 := (old2 0 rfl).trans x0
  replace x3 := (old2 3 rfl).trans x3
  replace x4 := (old2 4 rfl).trans x4
  have x5 : f4.eval (.tmp 5) = .bool false := new2
  have lt_m3 := Ob.lt m3
  replace m3 := Ob.below m3 hb
  have lt_m4 := Ob.lt m4
  replace m4 := Ob.below m4 hb
  replace bl := (bl.trans (Below.mono hb bl.size))
  replace sz := sz2.trans sz
  replace df := df2.trans df
  clear df2 sz2 old2 new2 hb
  refine wl_one (.eq (.int .i64 0)) rfl 6 rfl (by rw [sz]; decide) (st_assign (.const (.int .i64 0)) rfl rfl) ?_
  intro f5 w5 df2 sz2 old2 new2 hb
  replace bl0 := bl
  replace x0 := (old2 0 rfl).trans x0
  replace x3 := (old2 3 rfl).trans x3
  replace x4 := (old2 4 rfl).trans x4
  replace x5 := (old2 5 rfl).trans x5
  have x6 : f5.eval (.tmp 6) = .int .i64 0 := new2
  have lt_m3 := Ob.lt m3
  replace m3 := Ob.below m3 hb
  have lt_m4 := Ob.lt m4
  replace m4 := Ob.below m4 hb
  replace bl := (bl.trans (Below.mono hb bl.size))
  replace sz := sz2.trans sz
  replace df := df2.trans df
  clear df2 sz2 old2 new2 hb
  refine wpList_nil ?_
  show Code.wp _ _ _ _ _
  refine wp_seq ?_
  refine wp_seq ?_
  refine wp_all_seq [.eq (.pointer (some ⟨g3, 1, none⟩)), .eq (.int .i64 ((ps.length : Nat) : Int)), .eq (va), .eq (.int .i64 (((ps).length : Nat) : Int)), .eq (.bool false), .eq (.bool false), .eq (.pointer (some ⟨g3, 0, none⟩)), .eq (.int .i64 ((i : Nat) : Int)), .eq (.bool false), .eq (.bool false), .eq (.bool false), .eq (.pointer (some ⟨g3, 0, none⟩)), .eq (.int .i64 ((i : Nat) : Int)), .eq (.pointer (some ⟨g3, 1, none⟩)), .eq (.int .i64 ((ps.length : Nat) : Int)), .eq (.bool false), .eq (.bool false)] (by kernel_rfl) (by kernel_rfl) (by rw [sz]; kernel_rfl) (by kernel_rfl) ⟨fun hw ac u K => ?_, fun hw ac u K => ?_, fun hw ac u K => ?_, fun hw ac u K => ?_, fun hw ac u K => ?_, fun hw ac u K => ?_, fun hw ac u K => ?_, fun hw ac u K => ?_, fun hw ac u K => ?_, fun hw ac u K => ?_, fun hw ac u K => ?_, fun hw ac u K => ?_, fun hw ac u K => ?_, fun hw ac u K => ?_, fun hw ac u K => ?_, fun hw ac u K => ?_, fun hw ac u K => ?_, trivial⟩ ?_
  · exact st_field 39 1 (.tmp 3) rfl ((K.old 3 rfl).trans x3) (by kernel_rfl)
  · exact st_loadc 3 (.tmp 7) rfl (by kernel_rfl) (K.dep 0 7 rfl) (Ob.cell (Ob.below m3 K.grow) 1 rfl)
  · exact st_move (.tmp 0) rfl ((K.old 0 rfl).trans x0)
  · exact st_lenm (.tmp 9) rfl (fk_val (K.dep 2 9 rfl) (Fk.mono _ _ _ _ ham (bl.trans (Below.mono K.grow bl.size))))
  · exact st_neqi 3 (.tmp 8) (.tmp 10) rfl .i64 (((ps.length : Nat) : Int)) ((((ps).length : Nat) : Int)) (K.dep 1 8 rfl) (K.dep 3 10 rfl) _ (by simp)
  · exact st_move (.tmp 11) rfl (K.dep 4 11 rfl)
  · exact st_field 39 0 (.tmp 3) rfl ((K.old 3 rfl).trans x3) (by kernel_rfl)
  · exact st_loadc 3 (.tmp 13) rfl (by kernel_rfl) (K.dep 6 13 rfl) (Ob.cell (Ob.below m3 K.grow) 0 rfl)
  · exact st_lss 3 (.tmp 14) (.const (.int .i64 0)) rfl .i64 (((i : Nat) : Int)) (0) (K.dep 7 14 rfl) rfl _ (by symm; rw [decide_eq_false_iff_not]; exact (by omega))
  · exact st_pick_f' (.tmp 12) (.const (.bool true)) (.tmp 15) rfl (K.dep 5 12 rfl) (K.dep 8 15 rfl)
  · exact st_move (.tmp 16) rfl (K.dep 9 16 rfl)
  · exact st_field 39 0 (.tmp 3) rfl ((K.old 3 rfl).trans x3) (by kernel_rfl)
  · exact st_loadc 3 (.tmp 18) rfl (by kernel_rfl) (K.dep 11 18 rfl) (Ob.cell (Ob.below m3 K.grow) 0 rfl)
  · exact st_field 39 1 (.tmp 3) rfl ((K.old 3 rfl).trans x3) (by kernel_rfl)
  · exact st_loadc 3 (.tmp 20) rfl (by kernel_rfl) (K.dep 13 20 rfl) (Ob.cell (Ob.below m3 K.grow) 1 rfl)
  · exact st_geq 3 (.tmp 19) (.tmp 21) rfl .i64 (((i : Nat) : Int)) (((ps.length : Nat) : Int)) (K.dep 12 19 rfl) (K.dep 14 21 rfl) _ (by symm; rw [decide_eq_false_iff_not]; exact (by omega))
  · exact st_pick_f' (.tmp 17) (.const (.bool true)) (.tmp 22) rfl (K.dep 10 17 rfl) (K.dep 15 22 rfl)
  intro f6 w6 A hb
  replace bl0 := bl
  replace x0 := (A.old 0 rfl).trans x0
  replace x3 := (A.old 3 rfl).trans x3
  replace x4 := (A.old 4 rfl).trans x4
  replace x5 := (A.old 5 rfl).trans x5
  replace x6 := (A.old 6 rfl).trans x6
  have x23 : f6.eval (.tmp 23) = .bool false := A.has 16 23 rfl
  have lt_m3 := Ob.lt m3
  replace m3 := Ob.below m3 hb
  have lt_m4 := Ob.lt m4
  replace m4 := Ob.below m4 hb
  replace bl := (bl.trans (Below.mono hb bl.size))
  replace sz := A.size.trans sz
  replace df := A.defs.trans df
  clear A hb
  show Code.wp _ _ _ _ _
  refine wp_cond_false x23 ?_
  refine wp_skip ?_
  show Code.wp _ _ _ _ _
  refine wp_seq ?_
  refine wp_seq ?_
  refine wp_all [.eq (.pointer (some ⟨g3, 2, none⟩)), .eq (ul), .eq (.agg ((lv).map V).toArray), .eq (.pointer (some ⟨g3, 0, none⟩)), .eq (.int .i64 ((i : Nat) : Int)), .eq (.pointer (some ⟨g3, 1, none⟩)), .eq (.int .i64 ((ps.length : Nat) : Int)), .eq (.pointer (some ⟨g3, 3, none⟩)), .eq (up), .eq (va), .eq (.agg ((rv).map V).toArray), .eq (.int .i64 0), .eq (.bool false)] Tryd.mixed (by kernel_rfl) (by kernel_rfl) (by rw [sz]; kernel_rfl) (by kernel_rfl) ⟨fun hw ac u K => ?_, fun hw ac u K => ?_, fun hw ac u K => ?_, fun hw ac u K => ?_, fun hw ac u K => ?_, fun hw ac u K => ?_, fun hw ac u K => ?_, fun hw ac u K => ?_, fun hw ac u K => ?_, fun hw ac u K => ?_, fun hw ac u K => ?_, fun hw ac u K => ?_, fun hw ac u K => ?_, trivial⟩ ?_
  · exact st_field 39 2 (.tmp 3) rfl ((K.old 3 rfl).trans x3) (by kernel_rfl)
  · exact st_loadc 22 (.tmp 25) rfl (by kernel_rfl) (K.dep 0 25 rfl) (Ob.cell (Ob.below m3 K.grow) 2 rfl)
  · exact st_call 18 (.func 18) _ _ #[ul] rfl rfl (one_arg (K.dep 1 26 rfl)) Tryd.enter18 (fk_leaf (by omega) (hK.below (bl.trans (Below.mono K.grow bl.size))) (Fk.mono _ _ _ _ hl (bl.trans (Below.mono K.grow bl.size))) elv)
  · exact st_field 39 0 (.tmp 3) rfl ((K.old 3 rfl).trans x3) (by kernel_rfl)
  · exact st_loadc 3 (.tmp 28) rfl (by kernel_rfl) (K.dep 3 28 rfl) (Ob.cell (Ob.below m3 K.grow) 0 rfl)
  · exact st_field 39 1 (.tmp 3) rfl ((K.old 3 rfl).trans x3) (by kernel_rfl)
  · exact st_loadc 3 (.tmp 30) rfl (by kernel_rfl) (K.dep 5 30 rfl) (Ob.cell (Ob.below m3 K.grow) 1 rfl)
  · exact st_field 39 3 (.tmp 3) rfl ((K.old 3 rfl).trans x3) (by kernel_rfl)
  · exact st_loadc 35 (.tmp 32) rfl (by kernel_rfl) (K.dep 7 32 rfl) (Ob.cell (Ob.below m3 K.grow) 3 rfl)
  · exact st_move (.tmp 0) rfl ((K.old 0 rfl).trans x0)
  · exact st_call 31 (.func 31) _ _ #[va] rfl rfl (one_arg (K.dep 9 34 rfl)) Tryd.enter31 (fk_lroot (by omega) (smallP_mx hs) (Fk.mono _ _ _ _ ham (bl.trans (Below.mono K.grow bl.size))) (hK.below (bl.trans (Below.mono K.grow bl.size))) erv)
  · exact st_call 17 (.func 17) _ _ #[.agg ((lv).map V).toArray, .int .i64 ((i : Nat) : Int), .int .i64 ((ps.length : Nat) : Int), up, .agg ((rv).map V).toArray] rfl rfl (arg5 (K.dep 2 27 rfl) (K.dep 4 29 rfl) (K.dep 6 31 rfl) (K.dep 8 33 rfl) (K.dep 10 35 rfl)) Tryd.enter17 (fk_in_any hlv hrv hi (by omega) (Fk.mono _ _ _ _ hp (bl.trans (Below.mono K.grow bl.size))) (by omega) (hK.below (bl.trans (Below.mono K.grow bl.size))) _ (by rw [if_pos hr]))
  · exact st_neqi 40 (.tmp 36) (.const (.int .i64 0)) rfl .i64 (0) (0) (K.dep 11 36 rfl) rfl _ (by rfl)
  intro f7 w7 A hb
  replace bl0 := bl
  replace x0 := (A.old 0 rfl).trans x0
  replace x3 := (A.old 3 rfl).trans x3
  replace x4 := (A.old 4 rfl).trans x4
  replace x5 := (A.old 5 rfl).trans x5
  replace x6 := (A.old 6 rfl).trans x6
  replace x23 := (A.old 23 rfl).trans x23
  have x37 : f7.eval (.tmp 37) = .bool false := A.has 12 37 rfl
  have lt_m3 := Ob.lt m3
  replace m3 := Ob.below m3 hb
  have lt_m4 := Ob.lt m4
  replace m4 := Ob.below m4 hb
  replace bl := (bl.trans (Below.mono hb bl.size))
  replace sz := A.size.trans sz
  replace df := A.defs.trans df
  clear A hb
  show Code.wp _ _ _ _ _
  refine wp_cond_false x37 ?_
  refine wp_skip ?_
  show Code.wp _ _ _ _ _
  refine wp_seq ?_
  refine wp_seq ?_
  refine wp_all [.eq (.pointer (some ⟨g3, 2, none⟩)), .eq (ul), .eq (va), .eq (.pointer (some ⟨g3, 0, none⟩)), .eq (.int .i64 ((i : Nat) : Int)), .pv (.slice p.sp p.m p.c), .eq (.slice p.sp p.m p.c), .eq (.bool true)] Tryd.mixed (by kernel_rfl) (by kernel_rfl) (by rw [sz]; kernel_rfl) (by kernel_rfl) ⟨fun hw ac u K => ?_, fun hw ac u K => ?_, fun hw ac u K => ?_, fun hw ac u K => ?_, fun hw ac u K => ?_, fun hw ac u K => ?_, fun hw ac u K => ?_, fun hw ac u K => ?_, trivial⟩ ?_
  · exact st_field 39 2 (.tmp 3) rfl ((K.old 3 rfl).trans x3) (by kernel_rfl)
  · exact st_loadc 22 (.tmp 39) rfl (by kernel_rfl) (K.dep 0 39 rfl) (Ob.cell (Ob.below m3 K.grow) 2 rfl)
  · exact st_move (.tmp 0) rfl ((K.old 0 rfl).trans x0)
  · exact st_field 39 0 (.tmp 3) rfl ((K.old 3 rfl).trans x3) (by kernel_rfl)
  · exact st_loadc 3 (.tmp 42) rfl (by kernel_rfl) (K.dep 3 42 rfl) (Ob.cell (Ob.below m3 K.grow) 0 rfl)
  · exact st_idxm (.tmp 41) (.tmp 43) rfl (fk_val (K.dep 2 41 rfl) (Fk.mono _ _ _ _ ham (bl.trans (Below.mono K.grow bl.size)))) i p (K.dep 4 43 rfl) hpk
  · exact st_loadsl (.tmp 44) rfl (K.dep 5 44 rfl)
  · exact st_call 25 (.func 25) _ _ #[ul, .slice p.sp p.m p.c] rfl rfl (arg2 (K.dep 1 40 rfl) (K.dep 6 45 rfl)) Tryd.enter25 (fk_beq (Fk.mono _ _ _ _ hl (bl.trans (Below.mono K.grow bl.size))) (Fk.mono _ _ _ _ hslp (bl.trans (Below.mono K.grow bl.size))) (by symm; rw [decide_eq_true_iff]; exact hq))
  intro f8 w8 A hb
  replace bl0 := bl
  replace x0 := (A.old 0 rfl).trans x0
  replace x3 := (A.old 3 rfl).trans x3
  replace x4 := (A.old 4 rfl).trans x4
  replace x5 := (A.old 5 rfl).trans x5
  replace x6 := (A.old 6 rfl).trans x6
  replace x23 := (A.old 23 rfl).trans x23
  replace x37 := (A.old 37 rfl).trans x37
  have x46 : f8.eval (.tmp 46) = .bool true := A.has 7 46 rfl
  have lt_m3 := Ob.lt m3
  replace m3 := Ob.below m3 hb
  have lt_m4 := Ob.lt m4
  replace m4 := Ob.below m4 hb
  replace bl := (bl.trans (Below.mono hb bl.size))
  replace sz := A.size.trans sz
  replace df := A.defs.trans df
  clear A hb
  show Code.wp _ _ _ _ _
  refine wp_cond_true x46 ?_
  refine wp_seq ?_
  refine wp_region_seq [.eq (.agg ([.slice none 0 0, .slice none 0 0] : List Value).toArray)] (by kernel_rfl) (by kernel_rfl) (by rw [sz]; kernel_rfl) (by kernel_rfl) ⟨fun hw ac u K => ?_, trivial⟩ ?_
  · exact st_build 25 _ rfl (by kernel_rfl)
  intro f9 w9 A hb
  replace bl0 := bl
  replace x0 := (A.old 0 rfl).trans x0
  replace x3 := (A.old 3 rfl).trans x3
  replace x4 := (A.old 4 rfl).trans x4
  replace x5 := (A.old 5 rfl).trans x5
  replace x6 := (A.old 6 rfl).trans x6
  replace x23 := (A.old 23 rfl).trans x23
  replace x37 := (A.old 37 rfl).trans x37
  replace x46 := (A.old 46 rfl).trans x46
  have x47 : f9.eval (.tmp 47) = .agg ([.slice none 0 0, .slice none 0 0] : List Value).toArray := A.has 0 47 rfl
  have lt_m3 := Ob.lt m3
  replace m3 := Ob.below m3 hb
  have lt_m4 := Ob.lt m4
  replace m4 := Ob.below m4 hb
  replace bl := (bl.trans (Below.mono hb bl.size))
  replace sz := A.size.trans sz
  replace df := A.defs.trans df
  clear A hb
  refine wl_str rfl 25 (.tmp 4) (.tmp 47) rfl rfl (g4) ([.slice none 0 0, .slice none 0 0] : List Value).toArray x4 x47 25 _ m4 (by kernel_rfl) (by kernel_rfl) (by kernel_rfl) ?_
  replace m3 : Ob (w9.setRow g4 ([.slice none 0 0, .slice none 0 0] : List Value).toArray) (g3) 39 ([.int .i64 ((i : Nat) : Int), .int .i64 ((ps.length : Nat) : Int), ul, up]) := Ob.setRow_other m3 _ nm3_4
  replace m4 : Ob (w9.setRow g4 ([.slice none 0 0, .slice none 0 0] : List Value).toArray) (g4) 25 ([.slice none 0 0, .slice none 0 0]) := Ob.setRow m4 ([.slice none 0 0, .slice none 0 0])
  replace bl : Below w.heap.size w (w9.setRow g4 ([.slice none 0 0, .slice none 0 0] : List Value).toArray) := bl.trans (below_setRow _ _ _ _ hw4)
  generalize w9.setRow g4 ([.slice none 0 0, .slice none 0 0] : List Value).toArray = w10b at bl m3 m4 ⊢
  clear x47
  refine wl_one (.eq (.bool false)) rfl 5 rfl (by rw [sz]; decide) (st_assign (.const (.bool false)) rfl rfl) ?_
  intro f11 w11 df2 sz2 old2 new2 hb
  replace bl0 := bl
  replace x0 := (old2 0 rfl).trans x0
  replace x3 := (old2 3 rfl).trans x3
  replace x4 := (old2 4 rfl).trans x4
  clear x5
  replace x6 := (old2 6 rfl).trans x6
  replace x23 := (old2 23 rfl).trans x23
  replace x37 := (old2 37 rfl).trans x37
  replace x46 := (old2 46 rfl).trans x46
  have x5 : f11.eval (.tmp 5) = .bool false := new2
  have lt_m3 := Ob.lt m3
  replace m3 := Ob.below m3 hb
  have lt_m4 := Ob.lt m4
  replace m4 := Ob.below m4 hb
  replace bl := (bl.trans (Below.mono hb bl.size))
  replace sz := sz2.trans sz
  replace df := df2.trans df
  clear df2 sz2 old2 new2 hb
  refine wl_one (.eq (.int .i64 0)) rfl 6 rfl (by rw [sz]; decide) (st_assign (.const (.int .i64 0)) rfl rfl) ?_
  intro f12 w12 df2 sz2 old2 new2 hb
  replace bl0 := bl
  replace x0 := (old2 0 rfl).trans x0
  replace x3 := (old2 3 rfl).trans x3
  replace x4 := (old2 4 rfl).trans x4
  clear x6
  replace x23 := (old2 23 rfl).trans x23
  replace x37 := (old2 37 rfl).trans x37
  replace x46 := (old2 46 rfl).trans x46
  replace x5 := (old2 5 rfl).trans x5
  have x6 : f12.eval (.tmp 6) = .int .i64 0 := new2
  have lt_m3 := Ob.lt m3
  replace m3 := Ob.below m3 hb
  have lt_m4 := Ob.lt m4
  replace m4 := Ob.below m4 hb
  replace bl := (bl.trans (Below.mono hb bl.size))
  replace sz := sz2.trans sz
  replace df := df2.trans df
  clear df2 sz2 old2 new2 hb
  refine wpList_nil ?_
  show Code.wp _ _ _ _ _
  refine wp_ret ?_
  repeat (first | with_reducible refine then_ret ?_ | with_reducible refine block_ret ?_)
  exact bodyPost_ret (v := .tuple #[.agg ([.slice none 0 0, .slice none 0 0] : List Value).toArray, .bool false, .int .i64 0]) (ret_c3 rfl f12 _ g4 _ _ _ _ x4 m4 x5 x6) df ⟨_, rfl, c3_none _ _, bl⟩
set_option maxHeartbeats 1000000 in
theorem cin_diff {ps : List Pt} (hs : smallP ps) {lb : List (BitVec 8)} (hlb : lb.length ≤ 300) {P : List (List (BitVec 8))} (hP : P.length ≤ 50) {w : World} {va ul up : Value} (ha : (Fk.mc ps).f va w) (hl : (Fk.sl lb).f ul w) (hp : (Fk.hc P).f up w) (hK : Tab w) {i : Nat} {p : Pt} (hpk : ps[i]? = some p) (h1 : P.length = (sds i ps.length).length) (h2 : ldt (lf lb) P (sds i ps.length) = mroot (lhs ps)) (hq : lb ≠ p.bs) :
    Calls Tryd.prog 16 #[va, .agg ([.int .i64 ((i : Nat) : Int), .int .i64 ((ps.length : Nat) : Int), ul, up] : List Value).toArray] w fun e w' => ∃ u, e = .returned u ∧ (Fk.c3 true 0).f u w' ∧ Below w.heap.size w w' := by
  have ham := ha.1
  have h40 := hs.2
  obtain ⟨lv, elv⟩ : ∃ x, Box (lf lb = x) := ⟨_, ⟨rfl⟩⟩
  obtain ⟨rv, erv⟩ : ∃ x, Box (mroot (lhs ps) = x) := ⟨_, ⟨rfl⟩⟩
  have hlv : lv.length = 32 := by rw [← elv.out]; exact lf_len _
  have hrv : rv.length = 32 := by rw [← erv.out]; exact mroot_len (lhs_32 ps)
  have hi : i < ps.length := (List.getElem?_eq_some_iff.1 hpk).1
  have hr : P.length = (sds i ps.length).length ∧ ldt lv P (sds i ps.length) = rv := by rw [← elv.out, ← erv.out]; exact ⟨h1, h2⟩
  have hslp : (Fk.sl p.bs).f (.slice p.sp p.m p.c) w := ⟨_, _, _, _, _, rfl, mg_ok ham hpk⟩
  go_enter Tryd.func16, Tryd.ntmps16
  refine code_both (fun f w1 => f.tmps.size = 51 ∧ f.defers = [] ∧ f.eval (.tmp 0) = va ∧ f.eval (.tmp 1) = .agg ([.int .i64 ((i : Nat) : Int), .int .i64 ((ps.length : Nat) : Int), ul, up] : List Value).toArray ∧ Below w.heap.size w (w1)) ⟨rfl, rfl, rfl, rfl, Below.refl _ _⟩ ?_
  rintro f0 w0 ⟨sz, df, x0, x1, bl⟩
  have bl0 := bl
  refine wp_seq ?_
  refine wp_region_seq [] (by kernel_rfl) (by kernel_rfl) (by rw [sz]; kernel_rfl) (by kernel_rfl) trivial ?_
  intro f1 w1 A hb
  replace bl0 := bl
  replace x0 := (A.old 0 rfl).trans x0
  replace x1 := (A.old 1 rfl).trans x1
  replace bl := (bl.trans (Below.mono hb bl.size))
  replace sz := A.size.trans sz
  replace df := A.defs.trans df
  clear A hb
  refine wl_one (.nw w1.heap.size 39 ([.int .i64 ((i : Nat) : Int), .int .i64 ((ps.length : Nat) : Int), ul, up] : List Value)) rfl 3 rfl (by rw [sz]; decide) (st_box 39 (.tmp 1) rfl _ _ (by rw [show _ = _ from x1]; kernel_rfl) (Nat.le_refl _)) ?_
  intro f2 w2 df2 sz2 old2 new2 hb
  replace bl0 := bl
  replace x0 := (old2 0 rfl).trans x0
  replace x1 := (old2 1 rfl).trans x1
  have x3 : Fk.f (.nw w1.heap.size 39 ([.int .i64 ((i : Nat) : Int), .int .i64 ((ps.length : Nat) : Int), ul, up] : List Value)) (f2.eval (.tmp 3)) w2 := new2
  replace bl := (bl.trans (Below.mono hb bl.size))
  replace sz := sz2.trans sz
  replace df := df2.trans df
  clear df2 sz2 old2 new2 hb
  obtain ⟨g3, hg3, e3, m3⟩ := x3
  have x3 := e3
  clear e3
  have hw3 : w.heap.size ≤ g3 := Nat.le_trans bl0.size hg3
  clear x1
  refine wl_one (.nw w2.heap.size 25 [.slice none 0 0, .slice none 0 0]) rfl 4 rfl (by rw [sz]; decide) (st_alloc 25 rfl _ _ (by kernel_rfl) (Nat.le_refl _)) ?_
  intro f3 w3 df2 sz2 old2 new2 hb
  replace bl0 := bl
  replace x0 := (old2 0 rfl).trans x0
  replace x3 := (old2 3 rfl).trans x3
  have x4 : Fk.f (.nw w2.heap.size 25 [.slice none 0 0, .slice none 0 0]) (f3.eval (.tmp 4)) w3 := new2
  have lt_m3 := Ob.lt m3
  replace m3 := Ob.below m3 hb
  replace bl := (bl.trans (Below.mono hb bl.size))
  replace sz := sz2.trans sz
  replace df := df2.trans df
  clear df2 sz2 old2 new2 hb
  obtain ⟨g4, hg4, e4, m4⟩ := x4
  have x4 := e4
  clear e4
  have nm3_4 : g3 ≠ g4 := Nat.ne_of_lt (Nat.lt_of_lt_of_le lt_m3 hg4)
  have hw4 : w.heap.size ≤ g4 := Nat.le_trans bl0.size hg4
  refine wl_one (.eq (.bool false)) rfl 5 rfl (by rw [sz]; decide) (st_assign (.const (.bool false)) rfl rfl) ?_
  intro f4 w4 df2 sz2 old2 new2 hb
  replace bl0 := bl
  replace x0 := (old2 0 rfl).trans x0
  replace x3 := (old2 3 rfl).trans x3
  replace x4 := (old2 4 rfl).trans x4
  have x5 : f4.eval (.tmp 5) = .bool false := new2
  have lt_m3 := Ob.lt m3
  replace m3 := Ob.below m3 hb
  have lt_m4 := Ob.lt m4
  replace m4 := Ob.below m4 hb
  replace bl := (bl.trans (Below.mono hb bl.size))
  replace sz := sz2.trans sz
  replace df := df2.trans df
  clear df2 sz2 old2 new2 hb
  refine wl_one (.eq (.int .i64 0)) rfl 6 rfl (by rw [sz]; decide) (st_assign (.const (.int .i64 0)) rfl rfl) ?_
  intro f5 w5 df2 sz2 old2 new2 hb
  replace bl0 := bl
  replace x0 := (old2 0 rfl).trans x0
  replace x3 := (old2 3 rfl).trans x3
  replace x4 := (old2 4 rfl).trans x4
  replace x5 := (old2 5 rfl).trans x5
  have x6 : f5.eval (.tmp 6) = .int .i64 0 := new2
  have lt_m3 := Ob.lt m3
  replace m3 := Ob.below m3 hb
  have lt_m4 := Ob.lt m4
  replace m4 := Ob.below m4 hb
  replace bl := (bl.trans (Below.mono hb bl.size))
  replace sz := sz2.trans sz
  replace df := df2.trans df
  clear df2 sz2 old2 new2 hb
  refine wpList_nil ?_
  show Code.wp _ _ _ _ _
  refine wp_seq ?_
  refine wp_seq ?_
  refine wp_all_seq [.eq (.pointer (some ⟨g3, 1, none⟩)), .eq (.int .i64 ((ps.length : Nat) : Int)), .eq (va), .eq (.int .i64 (((ps).length : Nat) : Int)), .eq (.bool false), .eq (.bool false), .eq (.pointer (some ⟨g3, 0, none⟩)), .eq (.int .i64 ((i : Nat) : Int)), .eq (.bool false), .eq (.bool false), .eq (.bool false), .eq (.pointer (some ⟨g3, 0, none⟩)), .eq (.int .i64 ((i : Nat) : Int)), .eq (.pointer (some ⟨g3, 1, none⟩)), .eq (.int .i64 ((ps.length : Nat) : Int)), .eq (.bool false), .eq (.bool false)] (by kernel_rfl) (by kernel_rfl) (by rw [sz]; kernel_rfl) (by kernel_rfl) ⟨fun hw ac u K => ?_, fun hw ac u K => ?_, fun hw ac u K => ?_, fun hw ac u K => ?_, fun hw ac u K => ?_, fun hw ac u K => ?_, fun hw ac u K => ?_, fun hw ac u K => ?_, fun hw ac u K => ?_, fun hw ac u K => ?_, fun hw ac u K => ?_, fun hw ac u K => ?_, fun hw ac u K => ?_, fun hw ac u K => ?_, fun hw ac u K => ?_, fun hw ac u K => ?_, fun hw ac u K => ?_, trivial⟩ ?_
  · exact st_field 39 1 (.tmp 3) rfl ((K.old 3 rfl).trans x3) (by kernel_rfl)
  · exact st_loadc 3 (.tmp 7) rfl (by kernel_rfl) (K.dep 0 7 rfl) (Ob.cell (Ob.below m3 K.grow) 1 rfl)
  · exact st_move (.tmp 0) rfl ((K.old 0 rfl).trans x0)
  · exact st_lenm (.tmp 9) rfl (fk_val (K.dep 2 9 rfl) (Fk.mono _ _ _ _ ham (bl.trans (Below.mono K.grow bl.size))))
  · exact st_neqi 3 (.tmp 8) (.tmp 10) rfl .i64 (((ps.length : Nat) : Int)) ((((ps).length : Nat) : Int)) (K.dep 1 8 rfl) (K.dep 3 10 rfl) _ (by simp)
  · exact st_move (.tmp 11) rfl (K.dep 4 11 rfl)
  · exact st_field 39 0 (.tmp 3) rfl ((K.old 3 rfl).trans x3) (by kernel_rfl)
  · exact st_loadc 3 (.tmp 13) rfl (by kernel_rfl) (K.dep 6 13 rfl) (Ob.cell (Ob.below m3 K.grow) 0 rfl)
  · exact st_lss 3 (.tmp 14) (.const (.int .i64 0)) rfl .i64 (((i : Nat) : Int)) (0) (K.dep 7 14 rfl) rfl _ (by symm; rw [decide_eq_false_iff_not]; exact (by omega))
  · exact st_pick_f' (.tmp 12) (.const (.bool true)) (.tmp 15) rfl (K.dep 5 12 rfl) (K.dep 8 15 rfl)
  · exact st_move (.tmp 16) rfl (K.dep 9 16 rfl)
  · exact st_field 39 0 (.tmp 3) rfl ((K.old 3 rfl).trans x3) (by kernel_rfl)
  · exact st_loadc 3 (.tmp 18) rfl (by kernel_rfl) (K.dep 11 18 rfl) (Ob.cell (Ob.below m3 K.grow) 0 rfl)
  · exact st_field 39 1 (.tmp 3) rfl ((K.old 3 rfl).trans x3) (by kernel_rfl)
  · exact st_loadc 3 (.tmp 20) rfl (by kernel_rfl) (K.dep 13 20 rfl) (Ob.cell (Ob.below m3 K.grow) 1 rfl)
  · exact st_geq 3 (.tmp 19) (.tmp 21) rfl .i64 (((i : Nat) : Int)) (((ps.length : Nat) : Int)) (K.dep 12 19 rfl) (K.dep 14 21 rfl) _ (by symm; rw [decide_eq_false_iff_not]; exact (by omega))
  · exact st_pick_f' (.tmp 17) (.const (.bool true)) (.tmp 22) rfl (K.dep 10 17 rfl) (K.dep 15 22 rfl)
  intro f6 w6 A hb
  replace bl0 := bl
  replace x0 := (A.old 0 rfl).trans x0
  replace x3 := (A.old 3 rfl).trans x3
  replace x4 := (A.old 4 rfl).trans x4
  replace x5 := (A.old 5 rfl).trans x5
  replace x6 := (A.old 6 rfl).trans x6
  have x23 : f6.eval (.tmp 23) = .bool false := A.has 16 23 rfl
  have lt_m3 := Ob.lt m3
  replace m3 := Ob.below m3 hb
  have lt_m4 := Ob.lt m4
  replace m4 := Ob.below m4 hb
  replace bl := (bl.trans (Below.mono hb bl.size))
  replace sz := A.size.trans sz
  replace df := A.defs.trans df
  clear A hb
  show Code.wp _ _ _ _ _
  refine wp_cond_false x23 ?_
  refine wp_skip ?_
  show Code.wp _ _ _ _ _
  refine wp_seq ?_
  refine wp_seq ?_
  refine wp_all [.eq (.pointer (some ⟨g3, 2, none⟩)), .eq (ul), .eq (.agg ((lv).map V).toArray), .eq (.pointer (some ⟨g3, 0, none⟩)), .eq (.int .i64 ((i : Nat) : Int)), .eq (.pointer (some ⟨g3, 1, none⟩)), .eq (.int .i64 ((ps.length : Nat) : Int)), .eq (.pointer (some ⟨g3, 3, none⟩)), .eq (up), .eq (va), .eq (.agg ((rv).map V).toArray), .eq (.int .i64 0), .eq (.bool false)] Tryd.mixed (by kernel_rfl) (by kernel_rfl) (by rw [sz]; kernel_rfl) (by kernel_rfl) ⟨fun hw ac u K => ?_, fun hw ac u K => ?_, fun hw ac u K => ?_, fun hw ac u K => ?_, fun hw ac u K => ?_, fun hw ac u K => ?_, fun hw ac u K => ?_, fun hw ac u K => ?_, fun hw ac u K => ?_, fun hw ac u K => ?_, fun hw ac u K => ?_, fun hw ac u K => ?_, fun hw ac u K => ?_, trivial⟩ ?_
  · exact st_field 39 2 (.tmp 3) rfl ((K.old 3 rfl).trans x3) (by kernel_rfl)
  · exact st_loadc 22 (.tmp 25) rfl (by kernel_rfl) (K.dep 0 25 rfl) (Ob.cell (Ob.below m3 K.grow) 2 rfl)
  · exact st_call 18 (.func 18) _ _ #[ul] rfl rfl (one_arg (K.dep 1 26 rfl)) Tryd.enter18 (fk_leaf (by omega) (hK.below (bl.trans (Below.mono K.grow bl.size))) (Fk.mono _ _ _ _ hl (bl.trans (Below.mono K.grow bl.size))) elv)
  · exact st_field 39 0 (.tmp 3) rfl ((K.old 3 rfl).trans x3) (by kernel_rfl)
  · exact st_loadc 3 (.tmp 28) rfl (by kernel_rfl) (K.dep 3 28 rfl) (Ob.cell (Ob.below m3 K.grow) 0 rfl)
  · exact st_field 39 1 (.tmp 3) rfl ((K.old 3 rfl).trans x3) (by kernel_rfl)
  · exact st_loadc 3 (.tmp 30) rfl (by kernel_rfl) (K.dep 5 30 rfl) (Ob.cell (Ob.below m3 K.grow) 1 rfl)
  · exact st_field 39 3 (.tmp 3) rfl ((K.old 3 rfl).trans x3) (by kernel_rfl)
  · exact st_loadc 35 (.tmp 32) rfl (by kernel_rfl) (K.dep 7 32 rfl) (Ob.cell (Ob.below m3 K.grow) 3 rfl)
  · exact st_move (.tmp 0) rfl ((K.old 0 rfl).trans x0)
  · exact st_call 31 (.func 31) _ _ #[va] rfl rfl (one_arg (K.dep 9 34 rfl)) Tryd.enter31 (fk_lroot (by omega) (smallP_mx hs) (Fk.mono _ _ _ _ ham (bl.trans (Below.mono K.grow bl.size))) (hK.below (bl.trans (Below.mono K.grow bl.size))) erv)
  · exact st_call 17 (.func 17) _ _ #[.agg ((lv).map V).toArray, .int .i64 ((i : Nat) : Int), .int .i64 ((ps.length : Nat) : Int), up, .agg ((rv).map V).toArray] rfl rfl (arg5 (K.dep 2 27 rfl) (K.dep 4 29 rfl) (K.dep 6 31 rfl) (K.dep 8 33 rfl) (K.dep 10 35 rfl)) Tryd.enter17 (fk_in_any hlv hrv hi (by omega) (Fk.mono _ _ _ _ hp (bl.trans (Below.mono K.grow bl.size))) (by omega) (hK.below (bl.trans (Below.mono K.grow bl.size))) _ (by rw [if_pos hr]))
  · exact st_neqi 40 (.tmp 36) (.const (.int .i64 0)) rfl .i64 (0) (0) (K.dep 11 36 rfl) rfl _ (by rfl)
  intro f7 w7 A hb
  replace bl0 := bl
  replace x0 := (A.old 0 rfl).trans x0
  replace x3 := (A.old 3 rfl).trans x3
  replace x4 := (A.old 4 rfl).trans x4
  replace x5 := (A.old 5 rfl).trans x5
  replace x6 := (A.old 6 rfl).trans x6
  replace x23 := (A.old 23 rfl).trans x23
  have x37 : f7.eval (.tmp 37) = .bool false := A.has 12 37 rfl
  have lt_m3 := Ob.lt m3
  replace m3 := Ob.below m3 hb
  have lt_m4 := Ob.lt m4
  replace m4 := Ob.below m4 hb
  replace bl := (bl.trans (Below.mono hb bl.size))
  replace sz := A.size.trans sz
  replace df := A.defs.trans df
  clear A hb
  show Code.wp _ _ _ _ _
  refine wp_cond_false x37 ?_
  refine wp_skip ?_
  show Code.wp _ _ _ _ _
  refine wp_seq ?_
  refine wp_seq ?_
  refine wp_all [.eq (.pointer (some ⟨g3, 2, none⟩)), .eq (ul), .eq (va), .eq (.pointer (some ⟨g3, 0, none⟩)), .eq (.int .i64 ((i : Nat) : Int)), .pv (.slice p.sp p.m p.c), .eq (.slice p.sp p.m p.c), .eq (.bool false)] Tryd.mixed (by kernel_rfl) (by kernel_rfl) (by rw [sz]; kernel_rfl) (by kernel_rfl) ⟨fun hw ac u K => ?_, fun hw ac u K => ?_, fun hw ac u K => ?_, fun hw ac u K => ?_, fun hw ac u K => ?_, fun hw ac u K => ?_, fun hw ac u K => ?_, fun hw ac u K => ?_, trivial⟩ ?_
  · exact st_field 39 2 (.tmp 3) rfl ((K.old 3 rfl).trans x3) (by kernel_rfl)
  · exact st_loadc 22 (.tmp 39) rfl (by kernel_rfl) (K.dep 0 39 rfl) (Ob.cell (Ob.below m3 K.grow) 2 rfl)
  · exact st_move (.tmp 0) rfl ((K.old 0 rfl).trans x0)
  · exact st_field 39 0 (.tmp 3) rfl ((K.old 3 rfl).trans x3) (by kernel_rfl)
  · exact st_loadc 3 (.tmp 42) rfl (by kernel_rfl) (K.dep 3 42 rfl) (Ob.cell (Ob.below m3 K.grow) 0 rfl)
  · exact st_idxm (.tmp 41) (.tmp 43) rfl (fk_val (K.dep 2 41 rfl) (Fk.mono _ _ _ _ ham (bl.trans (Below.mono K.grow bl.size)))) i p (K.dep 4 43 rfl) hpk
  · exact st_loadsl (.tmp 44) rfl (K.dep 5 44 rfl)
  · exact st_call 25 (.func 25) _ _ #[ul, .slice p.sp p.m p.c] rfl rfl (arg2 (K.dep 1 40 rfl) (K.dep 6 45 rfl)) Tryd.enter25 (fk_beq (Fk.mono _ _ _ _ hl (bl.trans (Below.mono K.grow bl.size))) (Fk.mono _ _ _ _ hslp (bl.trans (Below.mono K.grow bl.size))) (by symm; rw [decide_eq_false_iff_not]; exact hq))
  intro f8 w8 A hb
  replace bl0 := bl
  replace x0 := (A.old 0 rfl).trans x0
  replace x3 := (A.old 3 rfl).trans x3
  replace x4 := (A.old 4 rfl).trans x4
  replace x5 := (A.old 5 rfl).trans x5
  replace x6 := (A.old 6 rfl).trans x6
  replace x23 := (A.old 23 rfl).trans x23
  replace x37 := (A.old 37 rfl).trans x37
  have x46 : f8.eval (.tmp 46) = .bool false := A.has 7 46 rfl
  have lt_m3 := Ob.lt m3
  replace m3 := Ob.below m3 hb
  have lt_m4 := Ob.lt m4
  replace m4 := Ob.below m4 hb
  replace bl := (bl.trans (Below.mono hb bl.size))
  replace sz := A.size.trans sz
  replace df := A.defs.trans df
  clear A hb
  show Code.wp _ _ _ _ _
  refine wp_cond_false x46 ?_
  refine wp_skip ?_
  show Code.wp _ _ _ _ _
  refine wp_seq ?_
  refine wp_region_seq [.eq (va), .eq (.agg ([.int .i64 ((i : Nat) : Int), .int .i64 ((ps.length : Nat) : Int), ul, up] : List Value).toArray), .cv true] (by kernel_rfl) (by kernel_rfl) (by rw [sz]; kernel_rfl) (by kernel_rfl) ⟨fun hw ac u K => ?_, fun hw ac u K => ?_, fun hw ac u K => ?_, trivial⟩ ?_
  · exact st_move (.tmp 0) rfl ((K.old 0 rfl).trans x0)
  · exact st_loadz 39 (.tmp 3) rfl (g3) 0 [.int .i64 ((i : Nat) : Int), .int .i64 ((ps.length : Nat) : Int), ul, up] (by kernel_rfl) (by kernel_rfl) ((K.old 3 rfl).trans x3) (Ob.range (Ob.below m3 K.grow) 0 _ (fun j v hj => by simpa using hj))
  · exact st_call 32 (.func 32) _ _ #[va, .agg ([.int .i64 ((i : Nat) : Int), .int .i64 ((ps.length : Nat) : Int), ul, up] : List Value).toArray] rfl rfl (arg2 (K.dep 0 48 rfl) (K.dep 1 49 rfl)) Tryd.enter32 (fk_claimed hs hlb hP (Fk.mono _ _ _ _ ha (bl.trans (Below.mono K.grow bl.size))) (Fk.mono _ _ _ _ hl (bl.trans (Below.mono K.grow bl.size))) (Fk.mono _ _ _ _ hp (bl.trans (Below.mono K.grow bl.size))) (hK.below (bl.trans (Below.mono K.grow bl.size))) hpk hq elv ⟨by rw [lhs_len]; exact hr.1, by rw [lhs_len, erv.out]; exact hr.2⟩)
  intro f9 w9 A hb
  replace bl0 := bl
  replace x0 := (A.old 0 rfl).trans x0
  replace x3 := (A.old 3 rfl).trans x3
  replace x4 := (A.old 4 rfl).trans x4
  replace x5 := (A.old 5 rfl).trans x5
  replace x6 := (A.old 6 rfl).trans x6
  replace x23 := (A.old 23 rfl).trans x23
  replace x37 := (A.old 37 rfl).trans x37
  replace x46 := (A.old 46 rfl).trans x46
  have x50 : Fk.f (.cv true) (f9.eval (.tmp 50)) w9 := A.has 2 50 rfl
  have lt_m3 := Ob.lt m3
  replace m3 := Ob.below m3 hb
  have lt_m4 := Ob.lt m4
  replace m4 := Ob.below m4 hb
  replace bl := (bl.trans (Below.mono hb bl.size))
  replace sz := A.size.trans sz
  replace df := A.defs.trans df
  clear A hb
  obtain ⟨Az, Bz, uz, vz, ez, hAz, hBz, lAz, lBz, hrz⟩ := x50
  obtain ⟨pAz, mAz, cAz, _, _, rfl, _⟩ := id hAz
  obtain ⟨pBz, mBz, cBz, _, _, rfl, _⟩ := id hBz
  have x50 := ez
  clear ez
  refine wl_str rfl 25 (.tmp 4) (.tmp 50) rfl rfl (g4) ([.slice pAz mAz cAz, .slice pBz mBz cBz] : List Value).toArray x4 x50 25 _ m4 (by kernel_rfl) (by kernel_rfl) (by kernel_rfl) ?_
  replace hAz := sl_setRow (ds := ([.slice pAz mAz cAz, .slice pBz mBz cBz] : List Value).toArray) hAz m4
  replace hBz := sl_setRow (ds := ([.slice pAz mAz cAz, .slice pBz mBz cBz] : List Value).toArray) hBz m4
  replace m3 : Ob (w9.setRow g4 ([.slice pAz mAz cAz, .slice pBz mBz cBz] : List Value).toArray) (g3) 39 ([.int .i64 ((i : Nat) : Int), .int .i64 ((ps.length : Nat) : Int), ul, up]) := Ob.setRow_other m3 _ nm3_4
  replace m4 : Ob (w9.setRow g4 ([.slice pAz mAz cAz, .slice pBz mBz cBz] : List Value).toArray) (g4) 25 ([.slice pAz mAz cAz, .slice pBz mBz cBz]) := Ob.setRow m4 ([.slice pAz mAz cAz, .slice pBz mBz cBz])
  replace bl : Below w.heap.size w (w9.setRow g4 ([.slice pAz mAz cAz, .slice pBz mBz cBz] : List Value).toArray) := bl.trans (below_setRow _ _ _ _ hw4)
  generalize w9.setRow g4 ([.slice pAz mAz cAz, .slice pBz mBz cBz] : List Value).toArray = w10b at bl m3 m4 hAz hBz ⊢
  clear x50
  refine wl_one (.eq (.bool true)) rfl 5 rfl (by rw [sz]; decide) (st_assign (.const (.bool true)) rfl rfl) ?_
  intro f11 w11 df2 sz2 old2 new2 hb
  replace bl0 := bl
  replace x0 := (old2 0 rfl).trans x0
  replace x3 := (old2 3 rfl).trans x3
  replace x4 := (old2 4 rfl).trans x4
  clear x5
  replace x6 := (old2 6 rfl).trans x6
  replace x23 := (old2 23 rfl).trans x23
  replace x37 := (old2 37 rfl).trans x37
  replace x46 := (old2 46 rfl).trans x46
  have x5 : f11.eval (.tmp 5) = .bool true := new2
  have lt_m3 := Ob.lt m3
  replace m3 := Ob.below m3 hb
  have lt_m4 := Ob.lt m4
  replace m4 := Ob.below m4 hb
  replace hAz := Fk.mono _ _ _ _ hAz hb
  replace hBz := Fk.mono _ _ _ _ hBz hb
  replace bl := (bl.trans (Below.mono hb bl.size))
  replace sz := sz2.trans sz
  replace df := df2.trans df
  clear df2 sz2 old2 new2 hb
  refine wl_one (.eq (.int .i64 0)) rfl 6 rfl (by rw [sz]; decide) (st_assign (.const (.int .i64 0)) rfl rfl) ?_
  intro f12 w12 df2 sz2 old2 new2 hb
  replace bl0 := bl
  replace x0 := (old2 0 rfl).trans x0
  replace x3 := (old2 3 rfl).trans x3
  replace x4 := (old2 4 rfl).trans x4
  clear x6
  replace x23 := (old2 23 rfl).trans x23
  replace x37 := (old2 37 rfl).trans x37
  replace x46 := (old2 46 rfl).trans x46
  replace x5 := (old2 5 rfl).trans x5
  have x6 : f12.eval (.tmp 6) = .int .i64 0 := new2
  have lt_m3 := Ob.lt m3
  replace m3 := Ob.below m3 hb
  have lt_m4 := Ob.lt m4
  replace m4 := Ob.below m4 hb
  replace hAz := Fk.mono _ _ _ _ hAz hb
  replace hBz := Fk.mono _ _ _ _ hBz hb
  replace bl := (bl.trans (Below.mono hb bl.size))
  replace sz := sz2.trans sz
  replace df := df2.trans df
  clear df2 sz2 old2 new2 hb
  refine wpList_nil ?_
  show Code.wp _ _ _ _ _
  refine wp_ret ?_
  repeat (first | with_reducible refine then_ret ?_ | with_reducible refine block_ret ?_)
  exact bodyPost_ret (v := .tuple #[.agg ([.slice pAz mAz cAz, .slice pBz mBz cBz] : List Value).toArray, .bool true, .int .i64 0]) (ret_c3 rfl f12 _ g4 _ _ _ _ x4 m4 x5 x6) df ⟨_, rfl, ⟨Az, Bz, _, _, rfl, hAz, hBz, lAz, lBz, hrz⟩, bl⟩
theorem fk_cin_ok {ps : List Pt} (hs : smallP ps) {lb : List (BitVec 8)} (hlb : lb.length ≤ 300) {P : List (List (BitVec 8))} (hP : P.length ≤ 50) {w : World} {va ul up : Value} (ha : (Fk.mc ps).f va w) (hl : (Fk.sl lb).f ul w) (hp : (Fk.hc P).f up w) (hK : Tab w) {i : Nat} {p : Pt} (hi : ps[i]? = some p) (h1 : P.length = (sds i ps.length).length) (h2 : ldt (lf lb) P (sds i ps.length) = mroot (lhs ps)) {f : Bool} (hf : f = decide (lb ≠ p.bs)) :
    Calls Tryd.prog 16 #[va, .agg ([.int .i64 ((i : Nat) : Int), .int .i64 ((ps.length : Nat) : Int), ul, up] : List Value).toArray] w fun e w' => ∃ u, e = .returned u ∧ (Fk.c3 f 0).f u w' ∧ Below w.heap.size w w' := by
  by_cases hq : lb = p.bs
  · obtain rfl : f = false := by rw [hf]; simp [hq]
    exact cin_same hs hlb hP ha hl hp hK hi h1 h2 hq
  · obtain rfl : f = true := by rw [hf]; simp [hq]
    exact cin_diff hs hlb hP ha hl hp hK hi h1 h2 hq
end Go.Proofs.YtfmeeimhfdnjpaaDoor
