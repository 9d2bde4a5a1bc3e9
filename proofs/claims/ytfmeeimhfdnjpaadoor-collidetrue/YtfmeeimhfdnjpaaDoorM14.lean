/- In. Path. -/
import Derived.Test.YtfmeeimhfdnjpaaDoorM13
import Derived.Test.YtfmeeimhfdnjpaaDoorM4
namespace Go.Proofs.YtfmeeimhfdnjpaaDoor
set_option maxRecDepth 100000
open Go.RowKit
set_option maxHeartbeats 1000000 in
theorem fk_cin_no {ps : List Pt} (_hs : smallP ps) {lb : List (BitVec 8)} (_hlb : lb.length ≤ 300) {P : List (List (BitVec 8))} (_hP : P.length ≤ 50) {w : World} {va ul up : Value} (ha : (Fk.mc ps).f va w) (_hl : (Fk.sl lb).f ul w) (_hp : (Fk.hc P).f up w) (_hK : Tab w) {i n : Int} (h : n ≠ ps.length ∨ i < 0 ∨ (ps.length : Int) ≤ i) :
    Calls Tryd.prog 16 #[va, .agg ([.int .i64 i, .int .i64 n, ul, up] : List Value).toArray] w fun e w' => ∃ u, e = .returned u ∧ (Fk.c3 false 11).f u w' ∧ Below w.heap.size w w' := by
  have ham := ha.1
  go_enter Tryd.func16, Tryd.ntmps16
  refine code_both (fun f w1 => f.tmps.size = 51 ∧ f.defers = [] ∧ f.eval (.tmp 0) = va ∧ f.eval (.tmp 1) = .agg ([.int .i64 i, .int .i64 n, ul, up] : List Value).toArray ∧ Below w.heap.size w (w1)) ⟨rfl, rfl, rfl, rfl, Below.refl _ _⟩ ?_
  rintro f0 w0 ⟨sz, df, x0, x1, bl⟩
  have sd := And.intro sz df
  clear sz df
  have bl0 := bl
  refine wp_seq ?_
  refine wr_s [] (by rw [sd.1]; kernel_rfl) trivial ?_
  intro f1 w1 A hb
  replace x0 := A.t x0 rfl
  replace x1 := A.t x1 rfl
  replace bl := bgo bl hb
  replace sd := A.sd sd
  clear A hb
  refine wl_one (.nw w1.heap.size 39 ([.int .i64 i, .int .i64 n, ul, up] : List Value)) rfl 3 rfl (by rw [sd.1]; decide) (st_box 39 (.tmp 1) rfl _ _ (by rw [show _ = _ from x1]; kernel_rfl) (Nat.le_refl _)) ?_
  intro f2 w2 df2 sz2 old2 new2 hb
  replace bl0 := bl
  replace x0 := tr old2 x0 rfl
  replace x1 := tr old2 x1 rfl
  have x3 : Fk.f (.nw w1.heap.size 39 ([.int .i64 i, .int .i64 n, ul, up] : List Value)) (f2.eval (.tmp 3)) w2 := new2
  replace bl := bgo bl hb
  replace sd := sd2 sz2 df2 sd
  clear df2 sz2 old2 new2 hb
  obtain ⟨g3, hg3, e3, m3⟩ := x3
  have x3 := e3
  clear e3
  have hw3 : w.heap.size ≤ g3 := Nat.le_trans bl0.size hg3
  clear x1
  refine wl_one (.nw w2.heap.size 25 [.slice none 0 0, .slice none 0 0]) rfl 4 rfl (by rw [sd.1]; decide) (st_alloc 25 rfl _ _ (by kernel_rfl) (Nat.le_refl _)) ?_
  intro f3 w3 df2 sz2 old2 new2 hb
  replace bl0 := bl
  replace x0 := tr old2 x0 rfl
  replace x3 := tr old2 x3 rfl
  have x4 : Fk.f (.nw w2.heap.size 25 [.slice none 0 0, .slice none 0 0]) (f3.eval (.tmp 4)) w3 := new2
  have lt_m3 := Ob.lt m3
  replace m3 := Ob.below m3 hb
  replace bl := bgo bl hb
  replace sd := sd2 sz2 df2 sd
  clear df2 sz2 old2 new2 hb
  obtain ⟨g4, hg4, e4, m4⟩ := x4
  have x4 := e4
  clear e4
  have nm3_4 : g3 ≠ g4 := Nat.ne_of_lt (Nat.lt_of_lt_of_le lt_m3 hg4)
  have hw4 : w.heap.size ≤ g4 := Nat.le_trans bl0.size hg4
  refine wl_one (.eq (.bool false)) rfl 5 rfl (by rw [sd.1]; decide) (st_assign (.const (.bool false)) rfl rfl) ?_
  intro f4 w4 df2 sz2 old2 new2 hb
  replace x0 := tr old2 x0 rfl
  replace x3 := tr old2 x3 rfl
  replace x4 := tr old2 x4 rfl
  have x5 := Fk.e new2
  replace m3 := Ob.below m3 hb
  replace m4 := Ob.below m4 hb
  replace bl := bgo bl hb
  replace sd := sd2 sz2 df2 sd
  clear df2 sz2 old2 new2 hb
  clear x5
  refine wl_one (.eq (.int .i64 0)) rfl 6 rfl (by rw [sd.1]; decide) (st_assign (.const (.int .i64 0)) rfl rfl) ?_
  intro f5 w5 df2 sz2 old2 new2 hb
  replace x0 := tr old2 x0 rfl
  replace x3 := tr old2 x3 rfl
  replace x4 := tr old2 x4 rfl
  have x6 := Fk.e new2
  replace m3 := Ob.below m3 hb
  replace m4 := Ob.below m4 hb
  replace bl := bgo bl hb
  replace sd := sd2 sz2 df2 sd
  clear df2 sz2 old2 new2 hb
  refine wpList_nil ?_
  clear x6
  show Code.wp _ _ _ _ _
  refine wp_seq ?_
  refine wp_seq ?_
  by_cases hn : n ≠ (ps.length : Int)
  rotate_left
  · skip
    by_cases hi : i < 0
    rotate_left
    · skip
      refine wr_a [.eq (.pointer (some ⟨g3, 1, none⟩)), .eq (.int .i64 n), .eq (va), .eq (.int .i64 (((ps).length : Nat) : Int)), .eq (.bool false), .eq (.bool false), .eq (.pointer (some ⟨g3, 0, none⟩)), .eq (.int .i64 i), .eq (.bool false), .eq (.bool false), .eq (.bool false), .eq (.pointer (some ⟨g3, 0, none⟩)), .eq (.int .i64 i), .eq (.pointer (some ⟨g3, 1, none⟩)), .eq (.int .i64 n), .eq (.bool true), .eq (.bool true)] (by rw [sd.1]; kernel_rfl) ⟨fun hw ac u K => ?_, fun hw ac u K => ?_, fun hw ac u K => ?_, fun hw ac u K => ?_, fun hw ac u K => ?_, fun hw ac u K => ?_, fun hw ac u K => ?_, fun hw ac u K => ?_, fun hw ac u K => ?_, fun hw ac u K => ?_, fun hw ac u K => ?_, fun hw ac u K => ?_, fun hw ac u K => ?_, fun hw ac u K => ?_, fun hw ac u K => ?_, fun hw ac u K => ?_, fun hw ac u K => ?_, trivial⟩ ?_
      · exact st_field 39 1 (.tmp 3) rfl (K.t x3 rfl) (by kernel_rfl)
      · exact st_loadc 3 (.tmp 7) rfl (by kernel_rfl) (K.dep 0 7 rfl) (Ob.cell (Ob.below m3 K.grow) 1 rfl)
      · exact st_move (.tmp 0) rfl (K.t x0 rfl)
      · exact st_lenm (.tmp 9) rfl (fk_val (K.dep 2 9 rfl) (Fk.mono _ _ _ _ ham (bgo bl K.grow)))
      · exact st_neqi 3 (.tmp 8) (.tmp 10) rfl .i64 (n) ((((ps).length : Nat) : Int)) (K.dep 1 8 rfl) (K.dep 3 10 rfl) _ (by symm; rw [decide_eq_false_iff_not]; exact hn)
      · exact st_move (.tmp 11) rfl (K.dep 4 11 rfl)
      · exact st_field 39 0 (.tmp 3) rfl (K.t x3 rfl) (by kernel_rfl)
      · exact st_loadc 3 (.tmp 13) rfl (by kernel_rfl) (K.dep 6 13 rfl) (Ob.cell (Ob.below m3 K.grow) 0 rfl)
      · exact st_lss 3 (.tmp 14) (.const (.int .i64 0)) rfl .i64 (i) (0) (K.dep 7 14 rfl) rfl _ (by symm; rw [decide_eq_false_iff_not]; exact hi)
      · exact st_pick_f' (.tmp 12) (.const (.bool true)) (.tmp 15) rfl (K.dep 5 12 rfl) (K.dep 8 15 rfl)
      · exact st_move (.tmp 16) rfl (K.dep 9 16 rfl)
      · exact st_field 39 0 (.tmp 3) rfl (K.t x3 rfl) (by kernel_rfl)
      · exact st_loadc 3 (.tmp 18) rfl (by kernel_rfl) (K.dep 11 18 rfl) (Ob.cell (Ob.below m3 K.grow) 0 rfl)
      · exact st_field 39 1 (.tmp 3) rfl (K.t x3 rfl) (by kernel_rfl)
      · exact st_loadc 3 (.tmp 20) rfl (by kernel_rfl) (K.dep 13 20 rfl) (Ob.cell (Ob.below m3 K.grow) 1 rfl)
      · exact st_geq 3 (.tmp 19) (.tmp 21) rfl .i64 (i) (n) (K.dep 12 19 rfl) (K.dep 14 21 rfl) _ (by symm; rw [decide_eq_true_iff]; exact (by rcases h with h | h | h; exact absurd h hn; exact absurd h hi; omega))
      · exact st_pick_f' (.tmp 17) (.const (.bool true)) (.tmp 22) rfl (K.dep 10 17 rfl) (K.dep 15 22 rfl)
      intro f6 w6 A hb
      replace x0 := A.t x0 rfl
      replace x3 := A.t x3 rfl
      replace x4 := A.t x4 rfl
      have x23 := A.e 16 23 rfl rfl
      replace m3 := Ob.below m3 hb
      replace m4 := Ob.below m4 hb
      replace bl := bgo bl hb
      replace sd := A.sd sd
      clear A hb
      show Code.wp _ _ _ _ _
      refine wp_cond_true x23 ?_
      refine wp_seq ?_
      refine wr_s [.eq (.agg ([.slice none 0 0, .slice none 0 0] : List Value).toArray)] (by rw [sd.1]; kernel_rfl) ⟨fun hw ac u K => ?_, trivial⟩ ?_
      · exact st_build 25 _ rfl (by kernel_rfl)
      intro f7 w7 A hb
      replace x0 := A.t x0 rfl
      replace x3 := A.t x3 rfl
      replace x4 := A.t x4 rfl
      replace x23 := A.t x23 rfl
      have x24 := A.e 0 24 rfl rfl
      replace m3 := Ob.below m3 hb
      replace m4 := Ob.below m4 hb
      replace bl := bgo bl hb
      replace sd := A.sd sd
      clear A hb
      clear x0
      clear x3
      clear x23
      refine wl_str rfl 25 (.tmp 4) (.tmp 24) rfl rfl (g4) ([.slice none 0 0, .slice none 0 0] : List Value).toArray x4 x24 25 _ m4 (by kernel_rfl) (by kernel_rfl) (by kernel_rfl) ?_
      replace m3 : Ob (w7.setRow g4 ([.slice none 0 0, .slice none 0 0] : List Value).toArray) (g3) 39 ([.int .i64 i, .int .i64 n, ul, up]) := Ob.setRow_other m3 _ nm3_4
      replace m4 : Ob (w7.setRow g4 ([.slice none 0 0, .slice none 0 0] : List Value).toArray) (g4) 25 ([.slice none 0 0, .slice none 0 0]) := Ob.setRow m4 ([.slice none 0 0, .slice none 0 0])
      replace bl : Below w.heap.size w (w7.setRow g4 ([.slice none 0 0, .slice none 0 0] : List Value).toArray) := bl.trans (below_setRow _ _ _ _ hw4)
      generalize w7.setRow g4 ([.slice none 0 0, .slice none 0 0] : List Value).toArray = w8b at bl m3 m4 ⊢
      clear x24
      refine wl_one (.eq (.bool false)) rfl 5 rfl (by rw [sd.1]; decide) (st_assign (.const (.bool false)) rfl rfl) ?_
      intro f9 w9 df2 sz2 old2 new2 hb
      replace x4 := tr old2 x4 rfl
      have x5 := Fk.e new2
      replace m3 := Ob.below m3 hb
      replace m4 := Ob.below m4 hb
      replace bl := bgo bl hb
      replace sd := sd2 sz2 df2 sd
      clear df2 sz2 old2 new2 hb
      refine wl_one (.eq (.int .i64 11)) rfl 6 rfl (by rw [sd.1]; decide) (st_assign (.const (.int .i64 11)) rfl rfl) ?_
      intro f10 w10 df2 sz2 old2 new2 hb
      replace x4 := tr old2 x4 rfl
      replace x5 := tr old2 x5 rfl
      have x6 := Fk.e new2
      replace m3 := Ob.below m3 hb
      replace m4 := Ob.below m4 hb
      replace bl := bgo bl hb
      replace sd := sd2 sz2 df2 sd
      clear df2 sz2 old2 new2 hb
      refine wpList_nil ?_
      clear m3
      show Code.wp _ _ _ _ _
      refine wp_ret ?_
      repeat (first | with_reducible refine then_ret ?_ | with_reducible refine block_ret ?_)
      exact bodyPost_ret (v := .tuple #[.agg ([.slice none 0 0, .slice none 0 0] : List Value).toArray, .bool false, .int .i64 11]) (ret_c3 rfl f10 _ g4 _ _ _ _ x4 m4 x5 x6) sd.2 ⟨_, rfl, c3_none _ _, bl⟩
    refine wr_a [.eq (.pointer (some ⟨g3, 1, none⟩)), .eq (.int .i64 n), .eq (va), .eq (.int .i64 (((ps).length : Nat) : Int)), .eq (.bool false), .eq (.bool false), .eq (.pointer (some ⟨g3, 0, none⟩)), .eq (.int .i64 i), .eq (.bool true), .eq (.bool true), .eq (.bool true), .any, .any, .any, .any, .any, .eq (.bool true)] (by rw [sd.1]; kernel_rfl) ⟨fun hw ac u K => ?_, fun hw ac u K => ?_, fun hw ac u K => ?_, fun hw ac u K => ?_, fun hw ac u K => ?_, fun hw ac u K => ?_, fun hw ac u K => ?_, fun hw ac u K => ?_, fun hw ac u K => ?_, fun hw ac u K => ?_, fun hw ac u K => ?_, fun hw ac u K => ?_, fun hw ac u K => ?_, fun hw ac u K => ?_, fun hw ac u K => ?_, fun hw ac u K => ?_, fun hw ac u K => ?_, trivial⟩ ?_
    · exact st_field 39 1 (.tmp 3) rfl (K.t x3 rfl) (by kernel_rfl)
    · exact st_loadc 3 (.tmp 7) rfl (by kernel_rfl) (K.dep 0 7 rfl) (Ob.cell (Ob.below m3 K.grow) 1 rfl)
    · exact st_move (.tmp 0) rfl (K.t x0 rfl)
    · exact st_lenm (.tmp 9) rfl (fk_val (K.dep 2 9 rfl) (Fk.mono _ _ _ _ ham (bgo bl K.grow)))
    · exact st_neqi 3 (.tmp 8) (.tmp 10) rfl .i64 (n) ((((ps).length : Nat) : Int)) (K.dep 1 8 rfl) (K.dep 3 10 rfl) _ (by symm; rw [decide_eq_false_iff_not]; exact hn)
    · exact st_move (.tmp 11) rfl (K.dep 4 11 rfl)
    · exact st_field 39 0 (.tmp 3) rfl (K.t x3 rfl) (by kernel_rfl)
    · exact st_loadc 3 (.tmp 13) rfl (by kernel_rfl) (K.dep 6 13 rfl) (Ob.cell (Ob.below m3 K.grow) 0 rfl)
    · exact st_lss 3 (.tmp 14) (.const (.int .i64 0)) rfl .i64 (i) (0) (K.dep 7 14 rfl) rfl _ (by symm; rw [decide_eq_true_iff]; exact hi)
    · exact st_pick_f' (.tmp 12) (.const (.bool true)) (.tmp 15) rfl (K.dep 5 12 rfl) (K.dep 8 15 rfl)
    · exact st_move (.tmp 16) rfl (K.dep 9 16 rfl)
    · exact (Bool.false_ne_true hw).elim
    · exact (Bool.false_ne_true hw).elim
    · exact (Bool.false_ne_true hw).elim
    · exact (Bool.false_ne_true hw).elim
    · exact (Bool.false_ne_true hw).elim
    · exact st_pick_t (.tmp 17) (.const (.bool true)) (.tmp 22) rfl (K.dep 10 17 rfl) rfl
    intro f6 w6 A hb
    replace x0 := A.t x0 rfl
    replace x3 := A.t x3 rfl
    replace x4 := A.t x4 rfl
    have x23 := A.e 16 23 rfl rfl
    replace m3 := Ob.below m3 hb
    replace m4 := Ob.below m4 hb
    replace bl := bgo bl hb
    replace sd := A.sd sd
    clear A hb
    show Code.wp _ _ _ _ _
    refine wp_cond_true x23 ?_
    refine wp_seq ?_
    refine wr_s [.eq (.agg ([.slice none 0 0, .slice none 0 0] : List Value).toArray)] (by rw [sd.1]; kernel_rfl) ⟨fun hw ac u K => ?_, trivial⟩ ?_
    · exact st_build 25 _ rfl (by kernel_rfl)
    intro f7 w7 A hb
    replace x0 := A.t x0 rfl
    replace x3 := A.t x3 rfl
    replace x4 := A.t x4 rfl
    replace x23 := A.t x23 rfl
    have x24 := A.e 0 24 rfl rfl
    replace m3 := Ob.below m3 hb
    replace m4 := Ob.below m4 hb
    replace bl := bgo bl hb
    replace sd := A.sd sd
    clear A hb
    clear x0
    clear x3
    clear x23
    refine wl_str rfl 25 (.tmp 4) (.tmp 24) rfl rfl (g4) ([.slice none 0 0, .slice none 0 0] : List Value).toArray x4 x24 25 _ m4 (by kernel_rfl) (by kernel_rfl) (by kernel_rfl) ?_
    replace m3 : Ob (w7.setRow g4 ([.slice none 0 0, .slice none 0 0] : List Value).toArray) (g3) 39 ([.int .i64 i, .int .i64 n, ul, up]) := Ob.setRow_other m3 _ nm3_4
    replace m4 : Ob (w7.setRow g4 ([.slice none 0 0, .slice none 0 0] : List Value).toArray) (g4) 25 ([.slice none 0 0, .slice none 0 0]) := Ob.setRow m4 ([.slice none 0 0, .slice none 0 0])
    replace bl : Below w.heap.size w (w7.setRow g4 ([.slice none 0 0, .slice none 0 0] : List Value).toArray) := bl.trans (below_setRow _ _ _ _ hw4)
    generalize w7.setRow g4 ([.slice none 0 0, .slice none 0 0] : List Value).toArray = w8b at bl m3 m4 ⊢
    clear x24
    refine wl_one (.eq (.bool false)) rfl 5 rfl (by rw [sd.1]; decide) (st_assign (.const (.bool false)) rfl rfl) ?_
    intro f9 w9 df2 sz2 old2 new2 hb
    replace x4 := tr old2 x4 rfl
    have x5 := Fk.e new2
    replace m3 := Ob.below m3 hb
    replace m4 := Ob.below m4 hb
    replace bl := bgo bl hb
    replace sd := sd2 sz2 df2 sd
    clear df2 sz2 old2 new2 hb
    refine wl_one (.eq (.int .i64 11)) rfl 6 rfl (by rw [sd.1]; decide) (st_assign (.const (.int .i64 11)) rfl rfl) ?_
    intro f10 w10 df2 sz2 old2 new2 hb
    replace x4 := tr old2 x4 rfl
    replace x5 := tr old2 x5 rfl
    have x6 := Fk.e new2
    replace m3 := Ob.below m3 hb
    replace m4 := Ob.below m4 hb
    replace bl := bgo bl hb
    replace sd := sd2 sz2 df2 sd
    clear df2 sz2 old2 new2 hb
    refine wpList_nil ?_
    clear m3
    show Code.wp _ _ _ _ _
    refine wp_ret ?_
    repeat (first | with_reducible refine then_ret ?_ | with_reducible refine block_ret ?_)
    exact bodyPost_ret (v := .tuple #[.agg ([.slice none 0 0, .slice none 0 0] : List Value).toArray, .bool false, .int .i64 11]) (ret_c3 rfl f10 _ g4 _ _ _ _ x4 m4 x5 x6) sd.2 ⟨_, rfl, c3_none _ _, bl⟩
  refine wr_a [.eq (.pointer (some ⟨g3, 1, none⟩)), .eq (.int .i64 n), .eq (va), .eq (.int .i64 (((ps).length : Nat) : Int)), .eq (.bool true), .eq (.bool true), .any, .any, .any, .eq (.bool true), .eq (.bool true), .any, .any, .any, .any, .any, .eq (.bool true)] (by rw [sd.1]; kernel_rfl) ⟨fun hw ac u K => ?_, fun hw ac u K => ?_, fun hw ac u K => ?_, fun hw ac u K => ?_, fun hw ac u K => ?_, fun hw ac u K => ?_, fun hw ac u K => ?_, fun hw ac u K => ?_, fun hw ac u K => ?_, fun hw ac u K => ?_, fun hw ac u K => ?_, fun hw ac u K => ?_, fun hw ac u K => ?_, fun hw ac u K => ?_, fun hw ac u K => ?_, fun hw ac u K => ?_, fun hw ac u K => ?_, trivial⟩ ?_
  · exact st_field 39 1 (.tmp 3) rfl (K.t x3 rfl) (by kernel_rfl)
  · exact st_loadc 3 (.tmp 7) rfl (by kernel_rfl) (K.dep 0 7 rfl) (Ob.cell (Ob.below m3 K.grow) 1 rfl)
  · exact st_move (.tmp 0) rfl (K.t x0 rfl)
  · exact st_lenm (.tmp 9) rfl (fk_val (K.dep 2 9 rfl) (Fk.mono _ _ _ _ ham (bgo bl K.grow)))
  · exact st_neqi 3 (.tmp 8) (.tmp 10) rfl .i64 (n) ((((ps).length : Nat) : Int)) (K.dep 1 8 rfl) (K.dep 3 10 rfl) _ (by symm; rw [decide_eq_true_iff]; exact hn)
  · exact st_move (.tmp 11) rfl (K.dep 4 11 rfl)
  · exact (Bool.false_ne_true hw).elim
  · exact (Bool.false_ne_true hw).elim
  · exact (Bool.false_ne_true hw).elim
  · exact st_pick_t (.tmp 12) (.const (.bool true)) (.tmp 15) rfl (K.dep 5 12 rfl) rfl
  · exact st_move (.tmp 16) rfl (K.dep 9 16 rfl)
  · exact (Bool.false_ne_true hw).elim
  · exact (Bool.false_ne_true hw).elim
  · exact (Bool.false_ne_true hw).elim
  · exact (Bool.false_ne_true hw).elim
  · exact (Bool.false_ne_true hw).elim
  · exact st_pick_t (.tmp 17) (.const (.bool true)) (.tmp 22) rfl (K.dep 10 17 rfl) rfl
  intro f6 w6 A hb
  replace x0 := A.t x0 rfl
  replace x3 := A.t x3 rfl
  replace x4 := A.t x4 rfl
  have x23 := A.e 16 23 rfl rfl
  replace m3 := Ob.below m3 hb
  replace m4 := Ob.below m4 hb
  replace bl := bgo bl hb
  replace sd := A.sd sd
  clear A hb
  show Code.wp _ _ _ _ _
  refine wp_cond_true x23 ?_
  refine wp_seq ?_
  refine wr_s [.eq (.agg ([.slice none 0 0, .slice none 0 0] : List Value).toArray)] (by rw [sd.1]; kernel_rfl) ⟨fun hw ac u K => ?_, trivial⟩ ?_
  · exact st_build 25 _ rfl (by kernel_rfl)
  intro f7 w7 A hb
  replace x0 := A.t x0 rfl
  replace x3 := A.t x3 rfl
  replace x4 := A.t x4 rfl
  replace x23 := A.t x23 rfl
  have x24 := A.e 0 24 rfl rfl
  replace m3 := Ob.below m3 hb
  replace m4 := Ob.below m4 hb
  replace bl := bgo bl hb
  replace sd := A.sd sd
  clear A hb
  clear x0
  clear x3
  clear x23
  refine wl_str rfl 25 (.tmp 4) (.tmp 24) rfl rfl (g4) ([.slice none 0 0, .slice none 0 0] : List Value).toArray x4 x24 25 _ m4 (by kernel_rfl) (by kernel_rfl) (by kernel_rfl) ?_
  replace m3 : Ob (w7.setRow g4 ([.slice none 0 0, .slice none 0 0] : List Value).toArray) (g3) 39 ([.int .i64 i, .int .i64 n, ul, up]) := Ob.setRow_other m3 _ nm3_4
  replace m4 : Ob (w7.setRow g4 ([.slice none 0 0, .slice none 0 0] : List Value).toArray) (g4) 25 ([.slice none 0 0, .slice none 0 0]) := Ob.setRow m4 ([.slice none 0 0, .slice none 0 0])
  replace bl : Below w.heap.size w (w7.setRow g4 ([.slice none 0 0, .slice none 0 0] : List Value).toArray) := bl.trans (below_setRow _ _ _ _ hw4)
  generalize w7.setRow g4 ([.slice none 0 0, .slice none 0 0] : List Value).toArray = w8b at bl m3 m4 ⊢
  clear x24
  refine wl_one (.eq (.bool false)) rfl 5 rfl (by rw [sd.1]; decide) (st_assign (.const (.bool false)) rfl rfl) ?_
  intro f9 w9 df2 sz2 old2 new2 hb
  replace x4 := tr old2 x4 rfl
  have x5 := Fk.e new2
  replace m3 := Ob.below m3 hb
  replace m4 := Ob.below m4 hb
  replace bl := bgo bl hb
  replace sd := sd2 sz2 df2 sd
  clear df2 sz2 old2 new2 hb
  refine wl_one (.eq (.int .i64 11)) rfl 6 rfl (by rw [sd.1]; decide) (st_assign (.const (.int .i64 11)) rfl rfl) ?_
  intro f10 w10 df2 sz2 old2 new2 hb
  replace x4 := tr old2 x4 rfl
  replace x5 := tr old2 x5 rfl
  have x6 := Fk.e new2
  replace m3 := Ob.below m3 hb
  replace m4 := Ob.below m4 hb
  replace bl := bgo bl hb
  replace sd := sd2 sz2 df2 sd
  clear df2 sz2 old2 new2 hb
  refine wpList_nil ?_
  clear m3
  show Code.wp _ _ _ _ _
  refine wp_ret ?_
  repeat (first | with_reducible refine then_ret ?_ | with_reducible refine block_ret ?_)
  exact bodyPost_ret (v := .tuple #[.agg ([.slice none 0 0, .slice none 0 0] : List Value).toArray, .bool false, .int .i64 11]) (ret_c3 rfl f10 _ g4 _ _ _ _ x4 m4 x5 x6) sd.2 ⟨_, rfl, c3_none _ _, bl⟩
set_option maxHeartbeats 1000000 in
theorem cin_all {ps : List Pt} (hs : smallP ps) {lb : List (BitVec 8)} (hlb : lb.length ≤ 300) {P : List (List (BitVec 8))} (hP : P.length ≤ 50) {w : World} {va ul up : Value} (ha : (Fk.mc ps).f va w) (hl : (Fk.sl lb).f ul w) (hp : (Fk.hc P).f up w) (hK : Tab w) {i : Nat} {p : Pt} (hpk : ps[i]? = some p) {f : Bool} {er : Int} (hfe : (f, er) = if P.length = (sds i ps.length).length ∧ ldt (lf lb) P (sds i ps.length) = mroot (lhs ps) then (decide (lb ≠ p.bs), 0) else (false, 22)) :
    Calls Tryd.prog 16 #[va, .agg ([.int .i64 (i : Int), .int .i64 (ps.length : Int), ul, up] : List Value).toArray] w fun e w' => ∃ u, e = .returned u ∧ (Fk.c3 f er).f u w' ∧ Below w.heap.size w w' := by
  have ham := ha.1
  have h40 := hs.2
  obtain ⟨lv, elv⟩ : ∃ x, Box (lf lb = x) := ⟨_, ⟨rfl⟩⟩
  obtain ⟨rv, erv⟩ : ∃ x, Box (mroot (lhs ps) = x) := ⟨_, ⟨rfl⟩⟩
  have hlv : lv.length = 32 := by rw [← elv.out]; exact lf_len _
  have hrv : rv.length = 32 := by rw [← erv.out]; exact mroot_len (lhs_32 ps)
  have hi : i < ps.length := (List.getElem?_eq_some_iff.1 hpk).1
  rw [elv.out, erv.out] at hfe
  have hslp : (Fk.sl p.bs).f (.slice p.sp p.m p.c) w := ⟨_, _, _, _, _, rfl, mg_ok ham hpk⟩
  go_enter Tryd.func16, Tryd.ntmps16
  refine code_both (fun f w1 => f.tmps.size = 51 ∧ f.defers = [] ∧ f.eval (.tmp 0) = va ∧ f.eval (.tmp 1) = .agg ([.int .i64 (i : Int), .int .i64 (ps.length : Int), ul, up] : List Value).toArray ∧ Below w.heap.size w (w1)) ⟨rfl, rfl, rfl, rfl, Below.refl _ _⟩ ?_
  rintro f0 w0 ⟨sz, df, x0, x1, bl⟩
  have sd := And.intro sz df
  clear sz df
  have bl0 := bl
  refine wp_seq ?_
  refine wr_s [] (by rw [sd.1]; kernel_rfl) trivial ?_
  intro f1 w1 A hb
  replace x0 := A.t x0 rfl
  replace x1 := A.t x1 rfl
  replace bl := bgo bl hb
  replace sd := A.sd sd
  clear A hb
  refine wl_one (.nw w1.heap.size 39 ([.int .i64 (i : Int), .int .i64 (ps.length : Int), ul, up] : List Value)) rfl 3 rfl (by rw [sd.1]; decide) (st_box 39 (.tmp 1) rfl _ _ (by rw [show _ = _ from x1]; kernel_rfl) (Nat.le_refl _)) ?_
  intro f2 w2 df2 sz2 old2 new2 hb
  replace bl0 := bl
  replace x0 := tr old2 x0 rfl
  replace x1 := tr old2 x1 rfl
  have x3 : Fk.f (.nw w1.heap.size 39 ([.int .i64 (i : Int), .int .i64 (ps.length : Int), ul, up] : List Value)) (f2.eval (.tmp 3)) w2 := new2
  replace bl := bgo bl hb
  replace sd := sd2 sz2 df2 sd
  clear df2 sz2 old2 new2 hb
  obtain ⟨g3, hg3, e3, m3⟩ := x3
  have x3 := e3
  clear e3
  have hw3 : w.heap.size ≤ g3 := Nat.le_trans bl0.size hg3
  clear x1
  refine wl_one (.nw w2.heap.size 25 [.slice none 0 0, .slice none 0 0]) rfl 4 rfl (by rw [sd.1]; decide) (st_alloc 25 rfl _ _ (by kernel_rfl) (Nat.le_refl _)) ?_
  intro f3 w3 df2 sz2 old2 new2 hb
  replace bl0 := bl
  replace x0 := tr old2 x0 rfl
  replace x3 := tr old2 x3 rfl
  have x4 : Fk.f (.nw w2.heap.size 25 [.slice none 0 0, .slice none 0 0]) (f3.eval (.tmp 4)) w3 := new2
  have lt_m3 := Ob.lt m3
  replace m3 := Ob.below m3 hb
  replace bl := bgo bl hb
  replace sd := sd2 sz2 df2 sd
  clear df2 sz2 old2 new2 hb
  obtain ⟨g4, hg4, e4, m4⟩ := x4
  have x4 := e4
  clear e4
  have nm3_4 : g3 ≠ g4 := Nat.ne_of_lt (Nat.lt_of_lt_of_le lt_m3 hg4)
  have hw4 : w.heap.size ≤ g4 := Nat.le_trans bl0.size hg4
  refine wl_one (.eq (.bool false)) rfl 5 rfl (by rw [sd.1]; decide) (st_assign (.const (.bool false)) rfl rfl) ?_
  intro f4 w4 df2 sz2 old2 new2 hb
  replace x0 := tr old2 x0 rfl
  replace x3 := tr old2 x3 rfl
  replace x4 := tr old2 x4 rfl
  have x5 := Fk.e new2
  replace m3 := Ob.below m3 hb
  replace m4 := Ob.below m4 hb
  replace bl := bgo bl hb
  replace sd := sd2 sz2 df2 sd
  clear df2 sz2 old2 new2 hb
  clear x5
  refine wl_one (.eq (.int .i64 0)) rfl 6 rfl (by rw [sd.1]; decide) (st_assign (.const (.int .i64 0)) rfl rfl) ?_
  intro f5 w5 df2 sz2 old2 new2 hb
  replace x0 := tr old2 x0 rfl
  replace x3 := tr old2 x3 rfl
  replace x4 := tr old2 x4 rfl
  have x6 := Fk.e new2
  replace m3 := Ob.below m3 hb
  replace m4 := Ob.below m4 hb
  replace bl := bgo bl hb
  replace sd := sd2 sz2 df2 sd
  clear df2 sz2 old2 new2 hb
  refine wpList_nil ?_
  clear x6
  show Code.wp _ _ _ _ _
  refine wp_seq ?_
  refine wp_seq ?_
  refine wr_a [.eq (.pointer (some ⟨g3, 1, none⟩)), .eq (.int .i64 (ps.length : Int)), .eq (va), .eq (.int .i64 (((ps).length : Nat) : Int)), .eq (.bool false), .eq (.bool false), .eq (.pointer (some ⟨g3, 0, none⟩)), .eq (.int .i64 (i : Int)), .eq (.bool false), .eq (.bool false), .eq (.bool false), .eq (.pointer (some ⟨g3, 0, none⟩)), .eq (.int .i64 (i : Int)), .eq (.pointer (some ⟨g3, 1, none⟩)), .eq (.int .i64 (ps.length : Int)), .eq (.bool false), .eq (.bool false)] (by rw [sd.1]; kernel_rfl) ⟨fun hw ac u K => ?_, fun hw ac u K => ?_, fun hw ac u K => ?_, fun hw ac u K => ?_, fun hw ac u K => ?_, fun hw ac u K => ?_, fun hw ac u K => ?_, fun hw ac u K => ?_, fun hw ac u K => ?_, fun hw ac u K => ?_, fun hw ac u K => ?_, fun hw ac u K => ?_, fun hw ac u K => ?_, fun hw ac u K => ?_, fun hw ac u K => ?_, fun hw ac u K => ?_, fun hw ac u K => ?_, trivial⟩ ?_
  · exact st_field 39 1 (.tmp 3) rfl (K.t x3 rfl) (by kernel_rfl)
  · exact st_loadc 3 (.tmp 7) rfl (by kernel_rfl) (K.dep 0 7 rfl) (Ob.cell (Ob.below m3 K.grow) 1 rfl)
  · exact st_move (.tmp 0) rfl (K.t x0 rfl)
  · exact st_lenm (.tmp 9) rfl (fk_val (K.dep 2 9 rfl) (Fk.mono _ _ _ _ ham (bgo bl K.grow)))
  · exact st_neqi 3 (.tmp 8) (.tmp 10) rfl .i64 ((ps.length : Int)) ((((ps).length : Nat) : Int)) (K.dep 1 8 rfl) (K.dep 3 10 rfl) _ (by simp)
  · exact st_move (.tmp 11) rfl (K.dep 4 11 rfl)
  · exact st_field 39 0 (.tmp 3) rfl (K.t x3 rfl) (by kernel_rfl)
  · exact st_loadc 3 (.tmp 13) rfl (by kernel_rfl) (K.dep 6 13 rfl) (Ob.cell (Ob.below m3 K.grow) 0 rfl)
  · exact st_lss 3 (.tmp 14) (.const (.int .i64 0)) rfl .i64 ((i : Int)) (0) (K.dep 7 14 rfl) rfl _ (by symm; rw [decide_eq_false_iff_not]; exact (by omega))
  · exact st_pick_f' (.tmp 12) (.const (.bool true)) (.tmp 15) rfl (K.dep 5 12 rfl) (K.dep 8 15 rfl)
  · exact st_move (.tmp 16) rfl (K.dep 9 16 rfl)
  · exact st_field 39 0 (.tmp 3) rfl (K.t x3 rfl) (by kernel_rfl)
  · exact st_loadc 3 (.tmp 18) rfl (by kernel_rfl) (K.dep 11 18 rfl) (Ob.cell (Ob.below m3 K.grow) 0 rfl)
  · exact st_field 39 1 (.tmp 3) rfl (K.t x3 rfl) (by kernel_rfl)
  · exact st_loadc 3 (.tmp 20) rfl (by kernel_rfl) (K.dep 13 20 rfl) (Ob.cell (Ob.below m3 K.grow) 1 rfl)
  · exact st_geq 3 (.tmp 19) (.tmp 21) rfl .i64 ((i : Int)) ((ps.length : Int)) (K.dep 12 19 rfl) (K.dep 14 21 rfl) _ (by symm; rw [decide_eq_false_iff_not]; exact (by omega))
  · exact st_pick_f' (.tmp 17) (.const (.bool true)) (.tmp 22) rfl (K.dep 10 17 rfl) (K.dep 15 22 rfl)
  intro f6 w6 A hb
  replace x0 := A.t x0 rfl
  replace x3 := A.t x3 rfl
  replace x4 := A.t x4 rfl
  have x23 := A.e 16 23 rfl rfl
  replace m3 := Ob.below m3 hb
  replace m4 := Ob.below m4 hb
  replace bl := bgo bl hb
  replace sd := A.sd sd
  clear A hb
  show Code.wp _ _ _ _ _
  refine wp_cond_false x23 ?_
  refine wp_skip ?_
  show Code.wp _ _ _ _ _
  refine wp_seq ?_
  refine wp_seq ?_
  by_cases hr : P.length = (sds i ps.length).length ∧ ldt lv P (sds i ps.length) = rv
  rotate_left
  · skip
    rw [if_neg hr] at hfe
    obtain ⟨rfl, rfl⟩ : f = false ∧ er = 22 := Prod.mk.inj hfe
    refine wr_d [.eq (.pointer (some ⟨g3, 2, none⟩)), .eq (ul), .eq (.agg ((lv).map V).toArray), .eq (.pointer (some ⟨g3, 0, none⟩)), .eq (.int .i64 (i : Int)), .eq (.pointer (some ⟨g3, 1, none⟩)), .eq (.int .i64 (ps.length : Int)), .eq (.pointer (some ⟨g3, 3, none⟩)), .eq (up), .eq (va), .eq (.agg ((rv).map V).toArray), .eq (.int .i64 22), .eq (.bool true)] Tryd.mixed (by rw [sd.1]; kernel_rfl) ⟨fun hw ac u K => ?_, fun hw ac u K => ?_, fun hw ac u K => ?_, fun hw ac u K => ?_, fun hw ac u K => ?_, fun hw ac u K => ?_, fun hw ac u K => ?_, fun hw ac u K => ?_, fun hw ac u K => ?_, fun hw ac u K => ?_, fun hw ac u K => ?_, fun hw ac u K => ?_, fun hw ac u K => ?_, trivial⟩ ?_
    · exact st_field 39 2 (.tmp 3) rfl (K.t x3 rfl) (by kernel_rfl)
    · exact st_loadc 22 (.tmp 25) rfl (by kernel_rfl) (K.dep 0 25 rfl) (Ob.cell (Ob.below m3 K.grow) 2 rfl)
    · exact st_call 18 (.func 18) _ _ _ rfl rfl (one_arg (K.dep 1 26 rfl)) Tryd.enter18 (fk_leaf (by omega) (hK.below (bgo bl K.grow)) (Fk.mono _ _ _ _ hl (bgo bl K.grow)) elv)
    · exact st_field 39 0 (.tmp 3) rfl (K.t x3 rfl) (by kernel_rfl)
    · exact st_loadc 3 (.tmp 28) rfl (by kernel_rfl) (K.dep 3 28 rfl) (Ob.cell (Ob.below m3 K.grow) 0 rfl)
    · exact st_field 39 1 (.tmp 3) rfl (K.t x3 rfl) (by kernel_rfl)
    · exact st_loadc 3 (.tmp 30) rfl (by kernel_rfl) (K.dep 5 30 rfl) (Ob.cell (Ob.below m3 K.grow) 1 rfl)
    · exact st_field 39 3 (.tmp 3) rfl (K.t x3 rfl) (by kernel_rfl)
    · exact st_loadc 35 (.tmp 32) rfl (by kernel_rfl) (K.dep 7 32 rfl) (Ob.cell (Ob.below m3 K.grow) 3 rfl)
    · exact st_move (.tmp 0) rfl (K.t x0 rfl)
    · exact st_call 31 (.func 31) _ _ _ rfl rfl (one_arg (K.dep 9 34 rfl)) Tryd.enter31 (fk_lroot (by omega) (smallP_mx hs) (Fk.mono _ _ _ _ ham (bgo bl K.grow)) (hK.below (bgo bl K.grow)) erv)
    · exact st_call 17 (.func 17) _ _ _ rfl rfl (arg5 (K.dep 2 27 rfl) (K.dep 4 29 rfl) (K.dep 6 31 rfl) (K.dep 8 33 rfl) (K.dep 10 35 rfl)) Tryd.enter17 (fk_in_any hlv hrv hi (by omega) (Fk.mono _ _ _ _ hp (bgo bl K.grow)) (by omega) (hK.below (bgo bl K.grow)) _ (by rw [if_neg hr]))
    · exact st_neqi 40 (.tmp 36) (.const (.int .i64 0)) rfl .i64 (22) (0) (K.dep 11 36 rfl) rfl _ (by rfl)
    intro f7 w7 A hb
    replace x0 := A.t x0 rfl
    replace x3 := A.t x3 rfl
    replace x4 := A.t x4 rfl
    replace x23 := A.t x23 rfl
    have x37 := A.e 12 37 rfl rfl
    replace m3 := Ob.below m3 hb
    replace m4 := Ob.below m4 hb
    replace bl := bgo bl hb
    replace sd := A.sd sd
    clear A hb
    clear x23
    show Code.wp _ _ _ _ _
    refine wp_cond_true x37 ?_
    refine wp_seq ?_
    refine wr_s [.eq (.agg ([.slice none 0 0, .slice none 0 0] : List Value).toArray)] (by rw [sd.1]; kernel_rfl) ⟨fun hw ac u K => ?_, trivial⟩ ?_
    · exact st_build 25 _ rfl (by kernel_rfl)
    intro f8 w8 A hb
    replace x0 := A.t x0 rfl
    replace x3 := A.t x3 rfl
    replace x4 := A.t x4 rfl
    replace x37 := A.t x37 rfl
    have x38 := A.e 0 38 rfl rfl
    replace m3 := Ob.below m3 hb
    replace m4 := Ob.below m4 hb
    replace bl := bgo bl hb
    replace sd := A.sd sd
    clear A hb
    clear x0
    clear x3
    clear x37
    refine wl_str rfl 25 (.tmp 4) (.tmp 38) rfl rfl (g4) ([.slice none 0 0, .slice none 0 0] : List Value).toArray x4 x38 25 _ m4 (by kernel_rfl) (by kernel_rfl) (by kernel_rfl) ?_
    replace m3 : Ob (w8.setRow g4 ([.slice none 0 0, .slice none 0 0] : List Value).toArray) (g3) 39 ([.int .i64 (i : Int), .int .i64 (ps.length : Int), ul, up]) := Ob.setRow_other m3 _ nm3_4
    replace m4 : Ob (w8.setRow g4 ([.slice none 0 0, .slice none 0 0] : List Value).toArray) (g4) 25 ([.slice none 0 0, .slice none 0 0]) := Ob.setRow m4 ([.slice none 0 0, .slice none 0 0])
    replace bl : Below w.heap.size w (w8.setRow g4 ([.slice none 0 0, .slice none 0 0] : List Value).toArray) := bl.trans (below_setRow _ _ _ _ hw4)
    generalize w8.setRow g4 ([.slice none 0 0, .slice none 0 0] : List Value).toArray = w9b at bl m3 m4 ⊢
    clear x38
    refine wl_one (.eq (.bool false)) rfl 5 rfl (by rw [sd.1]; decide) (st_assign (.const (.bool false)) rfl rfl) ?_
    intro f10 w10 df2 sz2 old2 new2 hb
    replace x4 := tr old2 x4 rfl
    have x5 := Fk.e new2
    replace m3 := Ob.below m3 hb
    replace m4 := Ob.below m4 hb
    replace bl := bgo bl hb
    replace sd := sd2 sz2 df2 sd
    clear df2 sz2 old2 new2 hb
    refine wl_one (.eq (.int .i64 22)) rfl 6 rfl (by rw [sd.1]; decide) (st_assign (.const (.int .i64 22)) rfl rfl) ?_
    intro f11 w11 df2 sz2 old2 new2 hb
    replace x4 := tr old2 x4 rfl
    replace x5 := tr old2 x5 rfl
    have x6 := Fk.e new2
    replace m3 := Ob.below m3 hb
    replace m4 := Ob.below m4 hb
    replace bl := bgo bl hb
    replace sd := sd2 sz2 df2 sd
    clear df2 sz2 old2 new2 hb
    refine wpList_nil ?_
    clear m3
    show Code.wp _ _ _ _ _
    refine wp_ret ?_
    repeat (first | with_reducible refine then_ret ?_ | with_reducible refine block_ret ?_)
    exact bodyPost_ret (v := .tuple #[.agg ([.slice none 0 0, .slice none 0 0] : List Value).toArray, .bool false, .int .i64 22]) (ret_c3 rfl f11 _ g4 _ _ _ _ x4 m4 x5 x6) sd.2 ⟨_, rfl, c3_none _ _, bl⟩
  rw [if_pos hr] at hfe
  refine wr_d [.eq (.pointer (some ⟨g3, 2, none⟩)), .eq (ul), .eq (.agg ((lv).map V).toArray), .eq (.pointer (some ⟨g3, 0, none⟩)), .eq (.int .i64 (i : Int)), .eq (.pointer (some ⟨g3, 1, none⟩)), .eq (.int .i64 (ps.length : Int)), .eq (.pointer (some ⟨g3, 3, none⟩)), .eq (up), .eq (va), .eq (.agg ((rv).map V).toArray), .eq (.int .i64 0), .eq (.bool false)] Tryd.mixed (by rw [sd.1]; kernel_rfl) ⟨fun hw ac u K => ?_, fun hw ac u K => ?_, fun hw ac u K => ?_, fun hw ac u K => ?_, fun hw ac u K => ?_, fun hw ac u K => ?_, fun hw ac u K => ?_, fun hw ac u K => ?_, fun hw ac u K => ?_, fun hw ac u K => ?_, fun hw ac u K => ?_, fun hw ac u K => ?_, fun hw ac u K => ?_, trivial⟩ ?_
  · exact st_field 39 2 (.tmp 3) rfl (K.t x3 rfl) (by kernel_rfl)
  · exact st_loadc 22 (.tmp 25) rfl (by kernel_rfl) (K.dep 0 25 rfl) (Ob.cell (Ob.below m3 K.grow) 2 rfl)
  · exact st_call 18 (.func 18) _ _ _ rfl rfl (one_arg (K.dep 1 26 rfl)) Tryd.enter18 (fk_leaf (by omega) (hK.below (bgo bl K.grow)) (Fk.mono _ _ _ _ hl (bgo bl K.grow)) elv)
  · exact st_field 39 0 (.tmp 3) rfl (K.t x3 rfl) (by kernel_rfl)
  · exact st_loadc 3 (.tmp 28) rfl (by kernel_rfl) (K.dep 3 28 rfl) (Ob.cell (Ob.below m3 K.grow) 0 rfl)
  · exact st_field 39 1 (.tmp 3) rfl (K.t x3 rfl) (by kernel_rfl)
  · exact st_loadc 3 (.tmp 30) rfl (by kernel_rfl) (K.dep 5 30 rfl) (Ob.cell (Ob.below m3 K.grow) 1 rfl)
  · exact st_field 39 3 (.tmp 3) rfl (K.t x3 rfl) (by kernel_rfl)
  · exact st_loadc 35 (.tmp 32) rfl (by kernel_rfl) (K.dep 7 32 rfl) (Ob.cell (Ob.below m3 K.grow) 3 rfl)
  · exact st_move (.tmp 0) rfl (K.t x0 rfl)
  · exact st_call 31 (.func 31) _ _ _ rfl rfl (one_arg (K.dep 9 34 rfl)) Tryd.enter31 (fk_lroot (by omega) (smallP_mx hs) (Fk.mono _ _ _ _ ham (bgo bl K.grow)) (hK.below (bgo bl K.grow)) erv)
  · exact st_call 17 (.func 17) _ _ _ rfl rfl (arg5 (K.dep 2 27 rfl) (K.dep 4 29 rfl) (K.dep 6 31 rfl) (K.dep 8 33 rfl) (K.dep 10 35 rfl)) Tryd.enter17 (fk_in_any hlv hrv hi (by omega) (Fk.mono _ _ _ _ hp (bgo bl K.grow)) (by omega) (hK.below (bgo bl K.grow)) _ (by rw [if_pos hr]))
  · exact st_neqi 40 (.tmp 36) (.const (.int .i64 0)) rfl .i64 (0) (0) (K.dep 11 36 rfl) rfl _ (by rfl)
  intro f7 w7 A hb
  replace x0 := A.t x0 rfl
  replace x3 := A.t x3 rfl
  replace x4 := A.t x4 rfl
  replace x23 := A.t x23 rfl
  have x37 := A.e 12 37 rfl rfl
  replace m3 := Ob.below m3 hb
  replace m4 := Ob.below m4 hb
  replace bl := bgo bl hb
  replace sd := A.sd sd
  clear A hb
  clear x23
  show Code.wp _ _ _ _ _
  refine wp_cond_false x37 ?_
  refine wp_skip ?_
  show Code.wp _ _ _ _ _
  refine wp_seq ?_
  refine wp_seq ?_
  by_cases hq : lb = p.bs
  rotate_left
  · skip
    rw [show decide (lb ≠ p.bs) = true from decide_eq_true hq] at hfe
    obtain ⟨rfl, rfl⟩ : f = true ∧ er = 0 := Prod.mk.inj hfe
    refine wr_d [.eq (.pointer (some ⟨g3, 2, none⟩)), .eq (ul), .eq (va), .eq (.pointer (some ⟨g3, 0, none⟩)), .eq (.int .i64 (i : Int)), .pv (.slice p.sp p.m p.c), .eq (.slice p.sp p.m p.c), .eq (.bool false)] Tryd.mixed (by rw [sd.1]; kernel_rfl) ⟨fun hw ac u K => ?_, fun hw ac u K => ?_, fun hw ac u K => ?_, fun hw ac u K => ?_, fun hw ac u K => ?_, fun hw ac u K => ?_, fun hw ac u K => ?_, fun hw ac u K => ?_, trivial⟩ ?_
    · exact st_field 39 2 (.tmp 3) rfl (K.t x3 rfl) (by kernel_rfl)
    · exact st_loadc 22 (.tmp 39) rfl (by kernel_rfl) (K.dep 0 39 rfl) (Ob.cell (Ob.below m3 K.grow) 2 rfl)
    · exact st_move (.tmp 0) rfl (K.t x0 rfl)
    · exact st_field 39 0 (.tmp 3) rfl (K.t x3 rfl) (by kernel_rfl)
    · exact st_loadc 3 (.tmp 42) rfl (by kernel_rfl) (K.dep 3 42 rfl) (Ob.cell (Ob.below m3 K.grow) 0 rfl)
    · exact st_idxm (.tmp 41) (.tmp 43) rfl (fk_val (K.dep 2 41 rfl) (Fk.mono _ _ _ _ ham (bgo bl K.grow))) i p (K.dep 4 43 rfl) hpk
    · exact st_loadsl (.tmp 44) rfl (K.dep 5 44 rfl)
    · exact st_call 25 (.func 25) _ _ _ rfl rfl (arg2 (K.dep 1 40 rfl) (K.dep 6 45 rfl)) Tryd.enter25 (fk_beq (Fk.mono _ _ _ _ hl (bgo bl K.grow)) (Fk.mono _ _ _ _ hslp (bgo bl K.grow)) (by symm; rw [decide_eq_false_iff_not]; exact hq))
    intro f8 w8 A hb
    replace x0 := A.t x0 rfl
    replace x3 := A.t x3 rfl
    replace x4 := A.t x4 rfl
    replace x37 := A.t x37 rfl
    have x46 := A.e 7 46 rfl rfl
    replace m3 := Ob.below m3 hb
    replace m4 := Ob.below m4 hb
    replace bl := bgo bl hb
    replace sd := A.sd sd
    clear A hb
    clear x37
    show Code.wp _ _ _ _ _
    refine wp_cond_false x46 ?_
    refine wp_skip ?_
    show Code.wp _ _ _ _ _
    refine wp_seq ?_
    refine wr_s [.eq (va), .eq (.agg ([.int .i64 (i : Int), .int .i64 (ps.length : Int), ul, up] : List Value).toArray), .cv true] (by rw [sd.1]; kernel_rfl) ⟨fun hw ac u K => ?_, fun hw ac u K => ?_, fun hw ac u K => ?_, trivial⟩ ?_
    · exact st_move (.tmp 0) rfl (K.t x0 rfl)
    · exact st_loadz 39 (.tmp 3) rfl (g3) 0 [.int .i64 (i : Int), .int .i64 (ps.length : Int), ul, up] (by kernel_rfl) (by kernel_rfl) (K.t x3 rfl) (Ob.range (Ob.below m3 K.grow) 0 _ (fun j v hj => by simpa using hj))
    · exact st_call 32 (.func 32) _ _ _ rfl rfl (arg2 (K.dep 0 48 rfl) (K.dep 1 49 rfl)) Tryd.enter32 (fk_claimed hs hlb hP (Fk.mono _ _ _ _ ha (bgo bl K.grow)) (Fk.mono _ _ _ _ hl (bgo bl K.grow)) (Fk.mono _ _ _ _ hp (bgo bl K.grow)) (hK.below (bgo bl K.grow)) hpk hq elv ⟨by rw [lhs_len]; exact hr.1, by rw [lhs_len, erv.out]; exact hr.2⟩)
    intro f9 w9 A hb
    replace x0 := A.t x0 rfl
    replace x3 := A.t x3 rfl
    replace x4 := A.t x4 rfl
    replace x46 := A.t x46 rfl
    have x50 : Fk.f (.cv true) (f9.eval (.tmp 50)) w9 := A.has 2 50 rfl
    replace m3 := Ob.below m3 hb
    replace m4 := Ob.below m4 hb
    replace bl := bgo bl hb
    replace sd := A.sd sd
    clear A hb
    clear x0
    clear x3
    clear x46
    obtain ⟨Az, Bz, uz, vz, ez, hAz, hBz, lAz, lBz, hrz⟩ := x50
    obtain ⟨pAz, mAz, cAz, _, _, rfl, _⟩ := id hAz
    obtain ⟨pBz, mBz, cBz, _, _, rfl, _⟩ := id hBz
    have x50 := ez
    clear ez
    refine wl_str rfl 25 (.tmp 4) (.tmp 50) rfl rfl (g4) ([.slice pAz mAz cAz, .slice pBz mBz cBz] : List Value).toArray x4 x50 25 _ m4 (by kernel_rfl) (by kernel_rfl) (by kernel_rfl) ?_
    replace hAz := sl_setRow (ds := ([.slice pAz mAz cAz, .slice pBz mBz cBz] : List Value).toArray) hAz m4
    replace hBz := sl_setRow (ds := ([.slice pAz mAz cAz, .slice pBz mBz cBz] : List Value).toArray) hBz m4
    replace m3 : Ob (w9.setRow g4 ([.slice pAz mAz cAz, .slice pBz mBz cBz] : List Value).toArray) (g3) 39 ([.int .i64 (i : Int), .int .i64 (ps.length : Int), ul, up]) := Ob.setRow_other m3 _ nm3_4
    replace m4 : Ob (w9.setRow g4 ([.slice pAz mAz cAz, .slice pBz mBz cBz] : List Value).toArray) (g4) 25 ([.slice pAz mAz cAz, .slice pBz mBz cBz]) := Ob.setRow m4 ([.slice pAz mAz cAz, .slice pBz mBz cBz])
    replace bl : Below w.heap.size w (w9.setRow g4 ([.slice pAz mAz cAz, .slice pBz mBz cBz] : List Value).toArray) := bl.trans (below_setRow _ _ _ _ hw4)
    generalize w9.setRow g4 ([.slice pAz mAz cAz, .slice pBz mBz cBz] : List Value).toArray = w10b at bl m3 m4 hAz hBz ⊢
    clear x50
    refine wl_one (.eq (.bool true)) rfl 5 rfl (by rw [sd.1]; decide) (st_assign (.const (.bool true)) rfl rfl) ?_
    intro f11 w11 df2 sz2 old2 new2 hb
    replace x4 := tr old2 x4 rfl
    have x5 := Fk.e new2
    replace m3 := Ob.below m3 hb
    replace m4 := Ob.below m4 hb
    replace hAz := Fk.mono _ _ _ _ hAz hb
    replace hBz := Fk.mono _ _ _ _ hBz hb
    replace bl := bgo bl hb
    replace sd := sd2 sz2 df2 sd
    clear df2 sz2 old2 new2 hb
    refine wl_one (.eq (.int .i64 0)) rfl 6 rfl (by rw [sd.1]; decide) (st_assign (.const (.int .i64 0)) rfl rfl) ?_
    intro f12 w12 df2 sz2 old2 new2 hb
    replace x4 := tr old2 x4 rfl
    replace x5 := tr old2 x5 rfl
    have x6 := Fk.e new2
    replace m3 := Ob.below m3 hb
    replace m4 := Ob.below m4 hb
    replace hAz := Fk.mono _ _ _ _ hAz hb
    replace hBz := Fk.mono _ _ _ _ hBz hb
    replace bl := bgo bl hb
    replace sd := sd2 sz2 df2 sd
    clear df2 sz2 old2 new2 hb
    refine wpList_nil ?_
    clear m3
    show Code.wp _ _ _ _ _
    refine wp_ret ?_
    repeat (first | with_reducible refine then_ret ?_ | with_reducible refine block_ret ?_)
    exact bodyPost_ret (v := .tuple #[.agg ([.slice pAz mAz cAz, .slice pBz mBz cBz] : List Value).toArray, .bool true, .int .i64 0]) (ret_c3 rfl f12 _ g4 _ _ _ _ x4 m4 x5 x6) sd.2 ⟨_, rfl, ⟨Az, Bz, _, _, rfl, hAz, hBz, lAz, lBz, hrz⟩, bl⟩
  rw [show decide (lb ≠ p.bs) = false from decide_eq_false (fun h => h hq)] at hfe
  obtain ⟨rfl, rfl⟩ : f = false ∧ er = 0 := Prod.mk.inj hfe
  refine wr_d [.eq (.pointer (some ⟨g3, 2, none⟩)), .eq (ul), .eq (va), .eq (.pointer (some ⟨g3, 0, none⟩)), .eq (.int .i64 (i : Int)), .pv (.slice p.sp p.m p.c), .eq (.slice p.sp p.m p.c), .eq (.bool true)] Tryd.mixed (by rw [sd.1]; kernel_rfl) ⟨fun hw ac u K => ?_, fun hw ac u K => ?_, fun hw ac u K => ?_, fun hw ac u K => ?_, fun hw ac u K => ?_, fun hw ac u K => ?_, fun hw ac u K => ?_, fun hw ac u K => ?_, trivial⟩ ?_
  · exact st_field 39 2 (.tmp 3) rfl (K.t x3 rfl) (by kernel_rfl)
  · exact st_loadc 22 (.tmp 39) rfl (by kernel_rfl) (K.dep 0 39 rfl) (Ob.cell (Ob.below m3 K.grow) 2 rfl)
  · exact st_move (.tmp 0) rfl (K.t x0 rfl)
  · exact st_field 39 0 (.tmp 3) rfl (K.t x3 rfl) (by kernel_rfl)
  · exact st_loadc 3 (.tmp 42) rfl (by kernel_rfl) (K.dep 3 42 rfl) (Ob.cell (Ob.below m3 K.grow) 0 rfl)
  · exact st_idxm (.tmp 41) (.tmp 43) rfl (fk_val (K.dep 2 41 rfl) (Fk.mono _ _ _ _ ham (bgo bl K.grow))) i p (K.dep 4 43 rfl) hpk
  · exact st_loadsl (.tmp 44) rfl (K.dep 5 44 rfl)
  · exact st_call 25 (.func 25) _ _ _ rfl rfl (arg2 (K.dep 1 40 rfl) (K.dep 6 45 rfl)) Tryd.enter25 (fk_beq (Fk.mono _ _ _ _ hl (bgo bl K.grow)) (Fk.mono _ _ _ _ hslp (bgo bl K.grow)) (by symm; rw [decide_eq_true_iff]; exact hq))
  intro f8 w8 A hb
  replace x0 := A.t x0 rfl
  replace x3 := A.t x3 rfl
  replace x4 := A.t x4 rfl
  replace x37 := A.t x37 rfl
  have x46 := A.e 7 46 rfl rfl
  replace m3 := Ob.below m3 hb
  replace m4 := Ob.below m4 hb
  replace bl := bgo bl hb
  replace sd := A.sd sd
  clear A hb
  clear x37
  show Code.wp _ _ _ _ _
  refine wp_cond_true x46 ?_
  refine wp_seq ?_
  refine wr_s [.eq (.agg ([.slice none 0 0, .slice none 0 0] : List Value).toArray)] (by rw [sd.1]; kernel_rfl) ⟨fun hw ac u K => ?_, trivial⟩ ?_
  · exact st_build 25 _ rfl (by kernel_rfl)
  intro f9 w9 A hb
  replace x0 := A.t x0 rfl
  replace x3 := A.t x3 rfl
  replace x4 := A.t x4 rfl
  replace x46 := A.t x46 rfl
  have x47 := A.e 0 47 rfl rfl
  replace m3 := Ob.below m3 hb
  replace m4 := Ob.below m4 hb
  replace bl := bgo bl hb
  replace sd := A.sd sd
  clear A hb
  clear x0
  clear x3
  clear x46
  refine wl_str rfl 25 (.tmp 4) (.tmp 47) rfl rfl (g4) ([.slice none 0 0, .slice none 0 0] : List Value).toArray x4 x47 25 _ m4 (by kernel_rfl) (by kernel_rfl) (by kernel_rfl) ?_
  replace m3 : Ob (w9.setRow g4 ([.slice none 0 0, .slice none 0 0] : List Value).toArray) (g3) 39 ([.int .i64 (i : Int), .int .i64 (ps.length : Int), ul, up]) := Ob.setRow_other m3 _ nm3_4
  replace m4 : Ob (w9.setRow g4 ([.slice none 0 0, .slice none 0 0] : List Value).toArray) (g4) 25 ([.slice none 0 0, .slice none 0 0]) := Ob.setRow m4 ([.slice none 0 0, .slice none 0 0])
  replace bl : Below w.heap.size w (w9.setRow g4 ([.slice none 0 0, .slice none 0 0] : List Value).toArray) := bl.trans (below_setRow _ _ _ _ hw4)
  generalize w9.setRow g4 ([.slice none 0 0, .slice none 0 0] : List Value).toArray = w10b at bl m3 m4 ⊢
  clear x47
  refine wl_one (.eq (.bool false)) rfl 5 rfl (by rw [sd.1]; decide) (st_assign (.const (.bool false)) rfl rfl) ?_
  intro f11 w11 df2 sz2 old2 new2 hb
  replace x4 := tr old2 x4 rfl
  have x5 := Fk.e new2
  replace m3 := Ob.below m3 hb
  replace m4 := Ob.below m4 hb
  replace bl := bgo bl hb
  replace sd := sd2 sz2 df2 sd
  clear df2 sz2 old2 new2 hb
  refine wl_one (.eq (.int .i64 0)) rfl 6 rfl (by rw [sd.1]; decide) (st_assign (.const (.int .i64 0)) rfl rfl) ?_
  intro f12 w12 df2 sz2 old2 new2 hb
  replace x4 := tr old2 x4 rfl
  replace x5 := tr old2 x5 rfl
  have x6 := Fk.e new2
  replace m3 := Ob.below m3 hb
  replace m4 := Ob.below m4 hb
  replace bl := bgo bl hb
  replace sd := sd2 sz2 df2 sd
  clear df2 sz2 old2 new2 hb
  refine wpList_nil ?_
  clear m3
  show Code.wp _ _ _ _ _
  refine wp_ret ?_
  repeat (first | with_reducible refine then_ret ?_ | with_reducible refine block_ret ?_)
  exact bodyPost_ret (v := .tuple #[.agg ([.slice none 0 0, .slice none 0 0] : List Value).toArray, .bool false, .int .i64 0]) (ret_c3 rfl f12 _ g4 _ _ _ _ x4 m4 x5 x6) sd.2 ⟨_, rfl, c3_none _ _, bl⟩
theorem fk_cin_bad {ps : List Pt} (hs : smallP ps) {lb : List (BitVec 8)} (hlb : lb.length ≤ 300) {P : List (List (BitVec 8))} (hP : P.length ≤ 50) {w : World} {va ul up : Value} (ha : (Fk.mc ps).f va w) (hl : (Fk.sl lb).f ul w) (hp : (Fk.hc P).f up w) (hK : Tab w) {i : Nat} (hi : i < ps.length) (h : ¬ (P.length = (sds i ps.length).length ∧ ldt (lf lb) P (sds i ps.length) = mroot (lhs ps))) :
    Calls Tryd.prog 16 #[va, .agg ([.int .i64 (i : Int), .int .i64 (ps.length : Int), ul, up] : List Value).toArray] w fun e w' => ∃ u, e = .returned u ∧ (Fk.c3 false 22).f u w' ∧ Below w.heap.size w w' := by
  exact cin_all hs hlb hP ha hl hp hK (List.getElem?_eq_getElem hi) (by rw [if_neg h])
theorem fk_cin_ok {ps : List Pt} (hs : smallP ps) {lb : List (BitVec 8)} (hlb : lb.length ≤ 300) {P : List (List (BitVec 8))} (hP : P.length ≤ 50) {w : World} {va ul up : Value} (ha : (Fk.mc ps).f va w) (hl : (Fk.sl lb).f ul w) (hp : (Fk.hc P).f up w) (hK : Tab w) {i : Nat} {p : Pt} (hi : ps[i]? = some p) (h1 : P.length = (sds i ps.length).length) (h2 : ldt (lf lb) P (sds i ps.length) = mroot (lhs ps)) {f : Bool} (hf : f = decide (lb ≠ p.bs)) :
    Calls Tryd.prog 16 #[va, .agg ([.int .i64 (i : Int), .int .i64 (ps.length : Int), ul, up] : List Value).toArray] w fun e w' => ∃ u, e = .returned u ∧ (Fk.c3 f 0).f u w' ∧ Below w.heap.size w w' := by
  exact cin_all hs hlb hP ha hl hp hK hi (by rw [if_pos ⟨h1, h2⟩, hf])
end Go.Proofs.YtfmeeimhfdnjpaaDoor
namespace Go.Proofs.YtfmeeimhfdnjpaaDoor
set_option maxRecDepth 100000
open Go.RowKit
theorem mpath_len (n : Nat) : ∀ (l : List (List (BitVec 8))) (i : Nat), l.length = n → (mpath l i).length ≤ n := by
  induction n using Nat.strongRecOn with
  | ind n ih =>
    intro l i hn
    by_cases h1 : l.length ≤ 1
    · rw [mpath_one h1]; exact Nat.zero_le _
    · have h2 : 2 ≤ l.length := by omega
      have hs := spl_lt h2
      have hp := spl_pos l.length
      by_cases hi : i < spl l.length
      · have := ih (spl l.length) (by omega) (l.take (spl l.length)) i (by rw [List.length_take]; omega)
        rw [mpath_left h2 hi, List.length_append, List.length_singleton]; omega
      · have := ih (l.length - spl l.length) (by omega) (l.drop (spl l.length)) (i - spl l.length) (by rw [List.length_drop])
        rw [mpath_right h2 hi, List.length_append, List.length_singleton]; omega
theorem msub_len (n : Nat) : ∀ (l : List (List (BitVec 8))) (m : Nat) (b : Bool), l.length = n → (msub l m b).length ≤ n + 1 := by
  induction n using Nat.strongRecOn with
  | ind n ih =>
    intro l m b hn
    by_cases hm : m = l.length
    · rw [msub, if_pos hm]; split <;> simp
    · by_cases h1 : l.length ≤ 1
      · rw [msub, if_neg hm, dif_pos h1]; exact Nat.zero_le _
      · have h2 : 2 ≤ l.length := by omega
        have hs := spl_lt h2
        have hp := spl_pos l.length
        by_cases hi : m ≤ spl l.length
        · have := ih (spl l.length) (by omega) (l.take (spl l.length)) m b (by rw [List.length_take]; omega)
          rw [msub_left h2 hm hi, List.length_append, List.length_singleton]; omega
        · have := ih (l.length - spl l.length) (by omega) (l.drop (spl l.length)) (m - spl l.length) false (by rw [List.length_drop])
          rw [msub_right h2 hm hi, List.length_append, List.length_singleton]; omega
theorem path_in (l : List (List (BitVec 8))) (i : Nat) (hi : i < l.length) : ∀ (w : World) (v : Value), l.length ≤ 1000 → (Fk.hc l).f v w → Tab w →
    Calls Tryd.prog 39 #[v, .int .i64 (i : Int)] w fun e w' => ∃ u, e = .returned u ∧ (Fk.ow w.heap.size (mpath l i)).f u w' ∧ Below w.heap.size w w' := by
  suffices H : ∀ (n : Nat) (l : List (List (BitVec 8))), l.length = n → ∀ (i : Nat), i < l.length → ∀ (w : World) (v : Value), l.length ≤ 1000 → (Fk.hc l).f v w → Tab w →
    Calls Tryd.prog 39 #[v, .int .i64 (i : Int)] w fun e w' => ∃ u, e = .returned u ∧ (Fk.ow w.heap.size (mpath l i)).f u w' ∧ Below w.heap.size w w' from H _ l rfl i hi
  clear hi i l
  intro n
  induction n using Nat.strongRecOn with
  | ind n ih0 =>
  intro l hn i hi w v h1000 hv hK
  have ih : ∀ (l' : List (List (BitVec 8))), l'.length < n → ∀ (i : Nat), i < l'.length → ∀ (w : World) (v : Value), l'.length ≤ 1000 → (Fk.hc l').f v w → Tab w →
    Calls Tryd.prog 39 #[v, .int .i64 (i : Int)] w fun e w' => ∃ u, e = .returned u ∧ (Fk.ow w.heap.size (mpath l' i)).f u w' ∧ Below w.heap.size w w' := fun l' hl' => ih0 _ hl' l' rfl
  clear ih0
  by_cases h1 : l.length = 1
  · skip
    go_enter Tryd.func39, Tryd.ntmps39
    refine code_both (fun f w1 => f.tmps.size = 39 ∧ f.defers = [] ∧ f.eval (.tmp 0) = v ∧ f.eval (.tmp 1) = .int .i64 (i : Int) ∧ Below w.heap.size w (w1)) ⟨rfl, rfl, rfl, rfl, Below.refl _ _⟩ ?_
    rintro f0 w0 ⟨sz, df, x0, x1, bl⟩
    have sd := And.intro sz df
    clear sz df
    have bl0 := bl
    refine wp_seq ?_
    refine wr_a [.eq (.slice none 0 0)] (by rw [sd.1]; kernel_rfl) ⟨fun hw ac u K => ?_, trivial⟩ ?_
    · exact st_assign (.const (.slice none 0 0)) rfl rfl
    intro f1 w1 A hb
    replace x0 := A.t x0 rfl
    replace x1 := A.t x1 rfl
    replace bl := bgo bl hb
    replace sd := A.sd sd
    clear A hb
    show Code.wp _ _ _ _ _
    refine wp_seq ?_
    refine wp_seq ?_
    refine wr_a [.eq (v), .eq (.int .i64 (((l).length : Nat) : Int)), .eq (.bool true)] (by rw [sd.1]; kernel_rfl) ⟨fun hw ac u K => ?_, fun hw ac u K => ?_, fun hw ac u K => ?_, trivial⟩ ?_
    · exact st_move (.tmp 0) rfl (K.t x0 rfl)
    · exact st_lenc (.tmp 6) rfl ((l).length) rfl (fk_val (K.dep 0 6 rfl) (Fk.mono _ _ _ _ hv (bgo bl K.grow)))
    · exact st_eqi 3 (.tmp 7) (.const (.int .i64 1)) rfl .i64 ((((l).length : Nat) : Int)) (1) (K.dep 1 7 rfl) rfl _ (by rw [eq_comm, decide_eq_true_iff]; omega)
    intro f2 w2 A hb
    replace x0 := A.t x0 rfl
    replace x1 := A.t x1 rfl
    have x8 := A.e 2 8 rfl rfl
    replace bl := bgo bl hb
    replace sd := A.sd sd
    clear A hb
    show Code.wp _ _ _ _ _
    refine wp_cond_true x8 ?_
    refine wp_seq ?_
    refine wr_a [.eq (.slice none 0 0)] (by rw [sd.1]; kernel_rfl) ⟨fun hw ac u K => ?_, trivial⟩ ?_
    · exact st_assign (.const (.slice none 0 0)) rfl rfl
    intro f3 w3 A hb
    replace x0 := A.t x0 rfl
    replace x1 := A.t x1 rfl
    replace x8 := A.t x8 rfl
    have x4 := A.e 0 4 rfl rfl
    replace bl := bgo bl hb
    replace sd := A.sd sd
    clear A hb
    clear x0
    clear x1
    clear x8
    show Code.wp _ _ _ _ _
    refine wp_ret ?_
    repeat (first | with_reducible refine then_ret ?_ | with_reducible refine block_ret ?_)
    rw [mpath_one (by omega)]
    exact bodyPost_ret (v := .slice none 0 0) (ret_slot rfl f3 _ x4 _ _) sd.2 ⟨_, rfl, ow_nil _ _, bl⟩
  · skip
    have h2 : 2 ≤ l.length := by omega
    obtain ⟨k, hk⟩ : ∃ k, spl l.length = k := ⟨_, rfl⟩
    have hk1 : k < l.length := by rw [← hk]; exact spl_lt h2
    have hk2 : 1 ≤ k := by rw [← hk]; exact spl_pos _
    obtain ⟨y1, ey1⟩ : ∃ p, Box (mroot (l.take k) = p) := ⟨_, ⟨rfl⟩⟩
    obtain ⟨y2, ey2⟩ : ∃ p, Box (mroot (l.drop k) = p) := ⟨_, ⟨rfl⟩⟩
    have hy1 : y1.length = 32 := by rw [← ey1.out]; exact mroot_len (fun x hx => hc_len hv x (List.mem_of_mem_take hx))
    have hy2 : y2.length = 32 := by rw [← ey2.out]; exact mroot_len (fun x hx => hc_len hv x (List.mem_of_mem_drop hx))
    go_enter Tryd.func39, Tryd.ntmps39
    refine code_both (fun f w1 => f.tmps.size = 39 ∧ f.defers = [] ∧ f.eval (.tmp 0) = v ∧ f.eval (.tmp 1) = .int .i64 (i : Int) ∧ Below w.heap.size w (w1)) ⟨rfl, rfl, rfl, rfl, Below.refl _ _⟩ ?_
    rintro f0 w0 ⟨sz, df, x0, x1, bl⟩
    have sd := And.intro sz df
    clear sz df
    have bl0 := bl
    refine wp_seq ?_
    refine wr_a [.eq (.slice none 0 0)] (by rw [sd.1]; kernel_rfl) ⟨fun hw ac u K => ?_, trivial⟩ ?_
    · exact st_assign (.const (.slice none 0 0)) rfl rfl
    intro f1 w1 A hb
    replace x0 := A.t x0 rfl
    replace x1 := A.t x1 rfl
    replace bl := bgo bl hb
    replace sd := A.sd sd
    clear A hb
    show Code.wp _ _ _ _ _
    refine wp_seq ?_
    refine wp_seq ?_
    refine wr_a [.eq (v), .eq (.int .i64 (((l).length : Nat) : Int)), .eq (.bool false)] (by rw [sd.1]; kernel_rfl) ⟨fun hw ac u K => ?_, fun hw ac u K => ?_, fun hw ac u K => ?_, trivial⟩ ?_
    · exact st_move (.tmp 0) rfl (K.t x0 rfl)
    · exact st_lenc (.tmp 6) rfl ((l).length) rfl (fk_val (K.dep 0 6 rfl) (Fk.mono _ _ _ _ hv (bgo bl K.grow)))
    · exact st_eqi 3 (.tmp 7) (.const (.int .i64 1)) rfl .i64 ((((l).length : Nat) : Int)) (1) (K.dep 1 7 rfl) rfl _ (by rw [eq_comm, decide_eq_false_iff_not]; omega)
    intro f2 w2 A hb
    replace x0 := A.t x0 rfl
    replace x1 := A.t x1 rfl
    have x8 := A.e 2 8 rfl rfl
    replace bl := bgo bl hb
    replace sd := A.sd sd
    clear A hb
    show Code.wp _ _ _ _ _
    refine wp_cond_false x8 ?_
    refine wp_skip ?_
    show Code.wp _ _ _ _ _
    refine wp_seq ?_
    refine wr_a [.eq (v), .eq (.int .i64 (((l).length : Nat) : Int)), .eq (.int .i64 (k : Int)), .eq (.int .i64 (k : Int))] (by rw [sd.1]; kernel_rfl) ⟨fun hw ac u K => ?_, fun hw ac u K => ?_, fun hw ac u K => ?_, fun hw ac u K => ?_, trivial⟩ ?_
    · exact st_move (.tmp 0) rfl (K.t x0 rfl)
    · exact st_lenc (.tmp 9) rfl ((l).length) rfl (fk_val (K.dep 0 9 rfl) (Fk.mono _ _ _ _ hv (bgo bl K.grow)))
    · exact st_call 35 (.func 35) _ _ _ rfl rfl (one_arg (K.dep 1 10 rfl)) Tryd.enter35 (by rw [← hk]; exact fk_of (split_hi l.length (by omega) (by omega) _))
    · exact st_assign (.tmp 11) rfl (K.dep 2 11 rfl)
    intro f3 w3 A hb
    replace x0 := A.t x0 rfl
    replace x1 := A.t x1 rfl
    replace x8 := A.t x8 rfl
    have x5 := A.e 3 5 rfl rfl
    replace bl := bgo bl hb
    replace sd := A.sd sd
    clear A hb
    clear x8
    show Code.wp _ _ _ _ _
    refine wp_seq ?_
    refine wp_seq ?_
    by_cases hik : i < k
    rotate_left
    · skip
      have hl1 := mpath_len _ (l.drop k) (i - k) rfl
      rw [List.length_drop] at hl1
      refine wr_a [.eq (.int .i64 (i : Int)), .eq (.int .i64 (k : Int)), .eq (.bool false)] (by rw [sd.1]; kernel_rfl) ⟨fun hw ac u K => ?_, fun hw ac u K => ?_, fun hw ac u K => ?_, trivial⟩ ?_
      · exact st_move (.tmp 1) rfl (K.t x1 rfl)
      · exact st_move (.tmp 5) rfl (K.t x5 rfl)
      · exact st_lss 3 (.tmp 12) (.tmp 13) rfl .i64 ((i : Int)) ((k : Int)) (K.dep 0 12 rfl) (K.dep 1 13 rfl) _ (by first | (simp; done) | (simp; omega))
      intro f4 w4 A hb
      replace x0 := A.t x0 rfl
      replace x1 := A.t x1 rfl
      replace x5 := A.t x5 rfl
      have x14 := A.e 2 14 rfl rfl
      replace bl := bgo bl hb
      replace sd := A.sd sd
      clear A hb
      show Code.wp _ _ _ _ _
      refine wp_cond_false x14 ?_
      refine wp_skip ?_
      show Code.wp _ _ _ _ _
      refine wp_seq ?_
      refine wr_t [.eq (v), .eq (.int .i64 (k : Int)), .hc ((l).drop (k)), .eq (.int .i64 (i : Int)), .eq (.int .i64 (k : Int)), .eq (.int .i64 ((i - k : Nat) : Int)), .ow w.heap.size (mpath (l.drop k) (i - k)), .eq (v), .eq (.int .i64 (k : Int)), .hc ((l).take (k)), .eq (.agg ((y1).map V).toArray), .hs ([y1])] [12, 13] Tryd.mixed (by rw [sd.1]; kernel_rfl) ⟨fun hw ac u K => ?_, fun hw ac u K => ?_, fun hw ac u K => ?_, fun hw ac u K => ?_, fun hw ac u K => ?_, fun hw ac u K => ?_, fun hw ac u K => ?_, fun hw ac u K => ?_, fun hw ac u K => ?_, fun hw ac u K => ?_, fun hw ac u K => ?_, fun hw ac u K => ?_, trivial⟩ ?_
      · exact st_move (.tmp 0) rfl (K.t x0 rfl)
      · exact st_move (.tmp 5) rfl (K.t x5 rfl)
      · exact st_restc (.tmp 26) (.tmp 27) rfl (fk_val (K.dep 0 26 rfl) (Fk.mono _ _ _ _ hv (bgo bl K.grow))) (k) (K.dep 1 27 rfl) (by omega)
      · exact st_move (.tmp 1) rfl (K.t x1 rfl)
      · exact st_move (.tmp 5) rfl (K.t x5 rfl)
      · exact st_sub (.tmp 29) (.tmp 30) rfl (i) (k) (i - k) (K.dep 3 29 rfl) (K.dep 4 30 rfl) (by omega) (by omega)
      · exact st_call 39 (.func 39) _ _ _ rfl rfl (arg2 rfl (K.dep 5 31 rfl)) Tryd.enter39 (fk_ow (bgo bl K.grow).size (ih (l.drop k) (by rw [List.length_drop]; omega) (i - k) (by rw [List.length_drop]; omega) _ _ (by rw [List.length_drop]; omega) (K.dep 2 28 rfl) (hK.below (bgo bl K.grow))))
      · exact st_move (.tmp 0) rfl (K.t x0 rfl)
      · exact st_move (.tmp 5) rfl (K.t x5 rfl)
      · exact st_cuth (.tmp 33) (.tmp 34) rfl (fk_val (K.dep 7 33 rfl) (Fk.mono _ _ _ _ hv (bgo bl K.grow))) (k) (K.dep 8 34 rfl) (by omega)
      · exact st_call 19 (.func 19) _ _ _ rfl rfl (one_arg rfl) Tryd.enter19 (fk_of (root_any (l.take k) _ _ (by rw [List.length_take]; omega) (K.dep 9 35 rfl) (hK.below (bgo bl K.grow)) ey1))
      · exact st_bh1 (.tmp 36) rfl hy1 (K.dep 10 36 rfl)
      intro f5 w5 A hb
      replace bl0 := bl
      replace x0 := A.t x0 rfl
      replace x1 := A.t x1 rfl
      replace x5 := A.t x5 rfl
      replace x14 := A.t x14 rfl
      have x32 : Fk.f (.ow w.heap.size (mpath (l.drop k) (i - k))) (f5.eval (.tmp 32)) w5 := A.has 6 32 rfl
      have x37 : Fk.f (.hs ([y1])) (f5.eval (.tmp 37)) w5 := A.has 11 37 rfl
      replace bl := bgo bl hb
      replace sd := A.sd sd
      clear A hb
      clear x0
      clear x1
      clear x5
      clear x14
      refine wl_append rfl (.tmp 32) (.tmp 37) rfl 38 rfl (by rw [sd.1]; decide) x32 x37 bl (by omega) ?_
      intro f6 w6 df2 sz2 old2 new2 bl2
      clear x32
      clear x37
      have x38 : Fk.f (.ow w.heap.size (mpath (l.drop k) (i - k) ++ [y1])) (f6.eval (.tmp 38)) w6 := new2
      replace bl := bl2
      replace bl0 := bl
      replace sd := sd2 sz2 df2 sd
      clear df2 sz2 old2 new2 bl2
      refine wl_one (.ow w.heap.size (mpath (l.drop k) (i - k) ++ [y1])) rfl 4 rfl (by rw [sd.1]; decide) (st_assign (.tmp 38) rfl x38) ?_
      intro f7 w7 df2 sz2 old2 new2 hb
      replace x38 := f_at (old2 38 rfl) (Fk.mono _ _ _ _ x38 hb)
      have x4 : Fk.f (.ow w.heap.size (mpath (l.drop k) (i - k) ++ [y1])) (f7.eval (.tmp 4)) w7 := new2
      replace bl := bgo bl hb
      replace sd := sd2 sz2 df2 sd
      clear df2 sz2 old2 new2 hb
      refine wpList_nil ?_
      clear x38
      show Code.wp _ _ _ _ _
      refine wp_ret ?_
      repeat (first | with_reducible refine then_ret ?_ | with_reducible refine block_ret ?_)
      rw [mpath_right h2 (by rw [hk]; exact hik), hk, ey1.out]
      exact bodyPost_ret (v := f7.eval (.tmp 4)) (ret_slot rfl f7 _ rfl _ _) sd.2 ⟨_, rfl, x4, bl⟩
    have hl1 := mpath_len _ (l.take k) i rfl
    rw [List.length_take] at hl1
    refine wr_a [.eq (.int .i64 (i : Int)), .eq (.int .i64 (k : Int)), .eq (.bool true)] (by rw [sd.1]; kernel_rfl) ⟨fun hw ac u K => ?_, fun hw ac u K => ?_, fun hw ac u K => ?_, trivial⟩ ?_
    · exact st_move (.tmp 1) rfl (K.t x1 rfl)
    · exact st_move (.tmp 5) rfl (K.t x5 rfl)
    · exact st_lss 3 (.tmp 12) (.tmp 13) rfl .i64 ((i : Int)) ((k : Int)) (K.dep 0 12 rfl) (K.dep 1 13 rfl) _ (by first | (simp; done) | (simp; omega))
    intro f4 w4 A hb
    replace x0 := A.t x0 rfl
    replace x1 := A.t x1 rfl
    replace x5 := A.t x5 rfl
    have x14 := A.e 2 14 rfl rfl
    replace bl := bgo bl hb
    replace sd := A.sd sd
    clear A hb
    show Code.wp _ _ _ _ _
    refine wp_cond_true x14 ?_
    refine wp_seq ?_
    refine wr_t [.eq (v), .eq (.int .i64 (k : Int)), .hc ((l).take (k)), .eq (.int .i64 (i : Int)), .ow w.heap.size (mpath (l.take k) i), .eq (v), .eq (.int .i64 (k : Int)), .hc ((l).drop (k)), .eq (.agg ((y2).map V).toArray), .hs ([y2])] [10, 11] Tryd.mixed (by rw [sd.1]; kernel_rfl) ⟨fun hw ac u K => ?_, fun hw ac u K => ?_, fun hw ac u K => ?_, fun hw ac u K => ?_, fun hw ac u K => ?_, fun hw ac u K => ?_, fun hw ac u K => ?_, fun hw ac u K => ?_, fun hw ac u K => ?_, fun hw ac u K => ?_, trivial⟩ ?_
    · exact st_move (.tmp 0) rfl (K.t x0 rfl)
    · exact st_move (.tmp 5) rfl (K.t x5 rfl)
    · exact st_cuth (.tmp 15) (.tmp 16) rfl (fk_val (K.dep 0 15 rfl) (Fk.mono _ _ _ _ hv (bgo bl K.grow))) (k) (K.dep 1 16 rfl) (by omega)
    · exact st_move (.tmp 1) rfl (K.t x1 rfl)
    · exact st_call 39 (.func 39) _ _ _ rfl rfl (arg2 rfl (K.dep 3 18 rfl)) Tryd.enter39 (fk_ow (bgo bl K.grow).size (ih (l.take k) (by rw [List.length_take]; omega) i (by rw [List.length_take]; omega) _ _ (by rw [List.length_take]; omega) (K.dep 2 17 rfl) (hK.below (bgo bl K.grow))))
    · exact st_move (.tmp 0) rfl (K.t x0 rfl)
    · exact st_move (.tmp 5) rfl (K.t x5 rfl)
    · exact st_restc (.tmp 20) (.tmp 21) rfl (fk_val (K.dep 5 20 rfl) (Fk.mono _ _ _ _ hv (bgo bl K.grow))) (k) (K.dep 6 21 rfl) (by omega)
    · exact st_call 19 (.func 19) _ _ _ rfl rfl (one_arg rfl) Tryd.enter19 (fk_of (root_any (l.drop k) _ _ (by rw [List.length_drop]; omega) (K.dep 7 22 rfl) (hK.below (bgo bl K.grow)) ey2))
    · exact st_bh1 (.tmp 23) rfl hy2 (K.dep 8 23 rfl)
    intro f5 w5 A hb
    replace bl0 := bl
    replace x0 := A.t x0 rfl
    replace x1 := A.t x1 rfl
    replace x5 := A.t x5 rfl
    replace x14 := A.t x14 rfl
    have x19 : Fk.f (.ow w.heap.size (mpath (l.take k) i)) (f5.eval (.tmp 19)) w5 := A.has 4 19 rfl
    have x24 : Fk.f (.hs ([y2])) (f5.eval (.tmp 24)) w5 := A.has 9 24 rfl
    replace bl := bgo bl hb
    replace sd := A.sd sd
    clear A hb
    clear x0
    clear x1
    clear x5
    clear x14
    refine wl_append rfl (.tmp 19) (.tmp 24) rfl 25 rfl (by rw [sd.1]; decide) x19 x24 bl (by omega) ?_
    intro f6 w6 df2 sz2 old2 new2 bl2
    clear x19
    clear x24
    have x25 : Fk.f (.ow w.heap.size (mpath (l.take k) i ++ [y2])) (f6.eval (.tmp 25)) w6 := new2
    replace bl := bl2
    replace bl0 := bl
    replace sd := sd2 sz2 df2 sd
    clear df2 sz2 old2 new2 bl2
    refine wl_one (.ow w.heap.size (mpath (l.take k) i ++ [y2])) rfl 4 rfl (by rw [sd.1]; decide) (st_assign (.tmp 25) rfl x25) ?_
    intro f7 w7 df2 sz2 old2 new2 hb
    replace x25 := f_at (old2 25 rfl) (Fk.mono _ _ _ _ x25 hb)
    have x4 : Fk.f (.ow w.heap.size (mpath (l.take k) i ++ [y2])) (f7.eval (.tmp 4)) w7 := new2
    replace bl := bgo bl hb
    replace sd := sd2 sz2 df2 sd
    clear df2 sz2 old2 new2 hb
    refine wpList_nil ?_
    clear x25
    show Code.wp _ _ _ _ _
    refine wp_ret ?_
    repeat (first | with_reducible refine then_ret ?_ | with_reducible refine block_ret ?_)
    rw [mpath_left h2 (by rw [hk]; exact hik), hk, ey2.out]
    exact bodyPost_ret (v := f7.eval (.tmp 4)) (ret_slot rfl f7 _ rfl _ _) sd.2 ⟨_, rfl, x4, bl⟩
theorem path_ok {l : List (List (BitVec 8))} {i : Nat} (hi : i < l.length) (h1000 : l.length ≤ 1000) (w : World) {v : Value} (hv : (Fk.hc l).f v w) (hK : Tab w) :
    Calls Tryd.prog 23 #[v, .int .i64 (i : Int)] w fun e w' => ∃ u, e = .returned u ∧ (Fk.t2 (.ow w.heap.size (mpath l i)) (.int .i64 0)).f u w' ∧ Below w.heap.size w w' := by
  go_enter Tryd.func23, Tryd.ntmps23
  refine code_both (fun f w1 => f.tmps.size = 17 ∧ f.defers = [] ∧ f.eval (.tmp 0) = v ∧ f.eval (.tmp 1) = .int .i64 (i : Int) ∧ Below w.heap.size w (w1)) ⟨rfl, rfl, rfl, rfl, Below.refl _ _⟩ ?_
  rintro f0 w0 ⟨sz, df, x0, x1, bl⟩
  have sd := And.intro sz df
  clear sz df
  have bl0 := bl
  refine wp_seq ?_
  refine wr_s [] (by rw [sd.1]; kernel_rfl) trivial ?_
  intro f1 w1 A hb
  replace x0 := A.t x0 rfl
  replace x1 := A.t x1 rfl
  replace bl := bgo bl hb
  replace sd := A.sd sd
  clear A hb
  refine wl_one (.eq (.slice none 0 0)) rfl 4 rfl (by rw [sd.1]; decide) (st_assign (.const (.slice none 0 0)) rfl rfl) ?_
  intro f2 w2 df2 sz2 old2 new2 hb
  replace x0 := tr old2 x0 rfl
  replace x1 := tr old2 x1 rfl
  have x4 := Fk.e new2
  replace bl := bgo bl hb
  replace sd := sd2 sz2 df2 sd
  clear df2 sz2 old2 new2 hb
  clear x4
  refine wl_one (.eq (.int .i64 0)) rfl 5 rfl (by rw [sd.1]; decide) (st_assign (.const (.int .i64 0)) rfl rfl) ?_
  intro f3 w3 df2 sz2 old2 new2 hb
  replace x0 := tr old2 x0 rfl
  replace x1 := tr old2 x1 rfl
  have x5 := Fk.e new2
  replace bl := bgo bl hb
  replace sd := sd2 sz2 df2 sd
  clear df2 sz2 old2 new2 hb
  refine wpList_nil ?_
  clear x5
  show Code.wp _ _ _ _ _
  refine wp_seq ?_
  refine wp_seq ?_
  refine wr_a [.eq (.int .i64 (i : Int)), .eq (.bool false), .eq (.bool false), .eq (.int .i64 (i : Int)), .eq (v), .eq (.int .i64 (((l).length : Nat) : Int)), .eq (.bool false), .eq (.bool false)] (by rw [sd.1]; kernel_rfl) ⟨fun hw ac u K => ?_, fun hw ac u K => ?_, fun hw ac u K => ?_, fun hw ac u K => ?_, fun hw ac u K => ?_, fun hw ac u K => ?_, fun hw ac u K => ?_, fun hw ac u K => ?_, trivial⟩ ?_
  · exact st_move (.tmp 1) rfl (K.t x1 rfl)
  · exact st_lss 3 (.tmp 6) (.const (.int .i64 0)) rfl .i64 ((i : Int)) (0) (K.dep 0 6 rfl) rfl _ (by rw [eq_comm, decide_eq_false_iff_not]; omega)
  · exact st_move (.tmp 7) rfl (K.dep 1 7 rfl)
  · exact st_move (.tmp 1) rfl (K.t x1 rfl)
  · exact st_move (.tmp 0) rfl (K.t x0 rfl)
  · exact st_lenc (.tmp 10) rfl ((l).length) rfl (fk_val (K.dep 4 10 rfl) (Fk.mono _ _ _ _ hv (bgo bl K.grow)))
  · exact st_geq 3 (.tmp 9) (.tmp 11) rfl .i64 ((i : Int)) ((((l).length : Nat) : Int)) (K.dep 3 9 rfl) (K.dep 5 11 rfl) _ (by rw [eq_comm, decide_eq_false_iff_not]; omega)
  · exact st_pick_f' (.tmp 8) (.const (.bool true)) (.tmp 12) rfl (K.dep 2 8 rfl) (K.dep 6 12 rfl)
  intro f4 w4 A hb
  replace x0 := A.t x0 rfl
  replace x1 := A.t x1 rfl
  have x13 := A.e 7 13 rfl rfl
  replace bl := bgo bl hb
  replace sd := A.sd sd
  clear A hb
  show Code.wp _ _ _ _ _
  refine wp_cond_false x13 ?_
  refine wp_skip ?_
  show Code.wp _ _ _ _ _
  refine wp_seq ?_
  refine wr_a [.eq (v), .eq (.int .i64 (i : Int)), .ow w.heap.size (mpath l i), .ow w.heap.size (mpath l i), .eq (.int .i64 0)] (by rw [sd.1]; kernel_rfl) ⟨fun hw ac u K => ?_, fun hw ac u K => ?_, fun hw ac u K => ?_, fun hw ac u K => ?_, fun hw ac u K => ?_, trivial⟩ ?_
  · exact st_move (.tmp 0) rfl (K.t x0 rfl)
  · exact st_move (.tmp 1) rfl (K.t x1 rfl)
  · exact st_call 39 (.func 39) _ _ _ rfl rfl (arg2 (K.dep 0 14 rfl) (K.dep 1 15 rfl)) Tryd.enter39 (fk_ow (bgo bl K.grow).size (path_in l i hi _ _ h1000 (Fk.mono _ _ _ _ hv (bgo bl K.grow)) (hK.below (bgo bl K.grow))))
  · exact st_assign (.tmp 16) rfl (K.dep 2 16 rfl)
  · exact st_assign (.const (.int .i64 0)) rfl rfl
  intro f5 w5 A hb
  replace x0 := A.t x0 rfl
  replace x1 := A.t x1 rfl
  replace x13 := A.t x13 rfl
  have x4 : Fk.f (.ow w.heap.size (mpath l i)) (f5.eval (.tmp 4)) w5 := A.has 3 4 rfl
  have x5 := A.e 4 5 rfl rfl
  replace bl := bgo bl hb
  replace sd := A.sd sd
  clear A hb
  clear x0
  clear x1
  clear x13
  show Code.wp _ _ _ _ _
  refine wp_ret ?_
  repeat (first | with_reducible refine then_ret ?_ | with_reducible refine block_ret ?_)
  exact bodyPost_ret (v := .tuple #[f5.eval (.tmp 4), .int .i64 0]) (ret_two rfl f5 _ _ rfl x5 _ _) sd.2 ⟨_, rfl, ⟨_, rfl, x4⟩, bl⟩
end Go.Proofs.YtfmeeimhfdnjpaaDoor
