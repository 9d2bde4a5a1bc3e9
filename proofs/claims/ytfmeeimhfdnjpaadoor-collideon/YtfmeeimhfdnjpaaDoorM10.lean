/- On. What is asked of package proof: it holds. -/
import Derived.Test.YtfmeeimhfdnjpaaDoorM9
namespace Go.Proofs.YtfmeeimhfdnjpaaDoor
set_option maxRecDepth 100000
open Go.RowKit
theorem on_err {old : List (BitVec 8)} (hold : old.length = 32) {rt : List (BitVec 8)} (_hrt : rt.length = 32) {m n E : Int} (hE : E ≠ 0) {P : List (List (BitVec 8))} {v : Value} {w : World} (hv : (Fk.hc P).f v w) (_hP : P.length ≤ 100000) (hK : Tab w) (hb : ∀ w' : World, (Fk.hc P).f v w' → Tab w' → Calls Tryd.prog 38 #[.int .i64 m, .int .i64 n, .agg ((old).map V).toArray, v] w' fun e w2 => ∃ u, e = .returned u ∧ (Fk.eq (.tuple #[.agg ((hz).map V).toArray, .agg ((hz).map V).toArray, .int .i64 E])).f u w2 ∧ Below w'.heap.size w' w2) :
    Calls Tryd.prog 21 #[.int .i64 m, .int .i64 n, .agg ((old).map V).toArray, .agg ((rt).map V).toArray, v] w fun e w' => ∃ u, e = .returned u ∧ (Fk.eq (.int .i64 E)).f u w' ∧ Below w.heap.size w w' := by
  have hvs := hc_hs hv
  go_enter Tryd.func21, Tryd.ntmps21
  refine code_both (fun f w1 => f.tmps.size = 47 ∧ f.defers = [] ∧ f.eval (.tmp 0) = .int .i64 m ∧ f.eval (.tmp 1) = .int .i64 n ∧ f.eval (.tmp 2) = .agg ((old).map V).toArray ∧ f.eval (.tmp 3) = .agg ((rt).map V).toArray ∧ f.eval (.tmp 4) = v ∧ Below w.heap.size w (w1)) ⟨rfl, rfl, rfl, rfl, rfl, rfl, rfl, Below.refl _ _⟩ ?_
  rintro f0 w0 ⟨sz, df, x0, x1, x2, x3, x4, bl⟩
  have sd := And.intro sz df
  clear sz df
  have bl0 := bl
  refine wp_seq ?_
  refine wr_s [] (by rw [sd.1]; kernel_rfl) trivial ?_
  intro f1 w1 A hb
  replace x0 := A.t x0 rfl
  replace x1 := A.t x1 rfl
  replace x2 := A.t x2 rfl
  replace x3 := A.t x3 rfl
  replace x4 := A.t x4 rfl
  replace bl := bgo bl hb
  replace sd := A.sd sd
  clear A hb
  refine wl_one (.nw w1.heap.size 33 ((old).map V)) rfl 7 rfl (by rw [sd.1]; decide) (st_box 33 (.tmp 2) rfl _ _ (by rw [show _ = _ from x2]; kernel_rfl) (Nat.le_refl _)) ?_
  intro f2 w2 df2 sz2 old2 new2 hb
  replace bl0 := bl
  replace x0 := tr old2 x0 rfl
  replace x1 := tr old2 x1 rfl
  replace x2 := tr old2 x2 rfl
  replace x3 := tr old2 x3 rfl
  replace x4 := tr old2 x4 rfl
  have x7 : Fk.f (.nw w1.heap.size 33 ((old).map V)) (f2.eval (.tmp 7)) w2 := new2
  replace bl := bgo bl hb
  replace sd := sd2 sz2 df2 sd
  clear df2 sz2 old2 new2 hb
  obtain ⟨g7, hg7, e7, m7⟩ := x7
  have x7 := e7
  clear e7
  have hw7 : w.heap.size ≤ g7 := Nat.le_trans bl0.size hg7
  clear x2
  refine wl_one (.nw w2.heap.size 33 ((rt).map V)) rfl 8 rfl (by rw [sd.1]; decide) (st_box 33 (.tmp 3) rfl _ _ (by rw [show _ = _ from x3]; kernel_rfl) (Nat.le_refl _)) ?_
  intro f3 w3 df2 sz2 old2 new2 hb
  replace bl0 := bl
  replace x0 := tr old2 x0 rfl
  replace x1 := tr old2 x1 rfl
  replace x3 := tr old2 x3 rfl
  replace x4 := tr old2 x4 rfl
  replace x7 := tr old2 x7 rfl
  have x8 : Fk.f (.nw w2.heap.size 33 ((rt).map V)) (f3.eval (.tmp 8)) w3 := new2
  have lt_m7 := Ob.lt m7
  replace m7 := Ob.below m7 hb
  replace bl := bgo bl hb
  replace sd := sd2 sz2 df2 sd
  clear df2 sz2 old2 new2 hb
  obtain ⟨g8, hg8, e8, m8⟩ := x8
  have x8 := e8
  clear e8
  have nm7_8 : g7 ≠ g8 := Nat.ne_of_lt (Nat.lt_of_lt_of_le lt_m7 hg8)
  have hw8 : w.heap.size ≤ g8 := Nat.le_trans bl0.size hg8
  clear x3
  refine wl_one (.eq (.int .i64 0)) rfl 10 rfl (by rw [sd.1]; decide) (st_assign (.const (.int .i64 0)) rfl rfl) ?_
  intro f4 w4 df2 sz2 old2 new2 hb
  replace x0 := tr old2 x0 rfl
  replace x1 := tr old2 x1 rfl
  replace x4 := tr old2 x4 rfl
  replace x7 := tr old2 x7 rfl
  replace x8 := tr old2 x8 rfl
  have x10 := Fk.e new2
  replace m7 := Ob.below m7 hb
  replace m8 := Ob.below m8 hb
  replace bl := bgo bl hb
  replace sd := sd2 sz2 df2 sd
  clear df2 sz2 old2 new2 hb
  refine wpList_nil ?_
  clear x10
  show Code.wp _ _ _ _ _
  refine wp_seq ?_
  refine wr_s [.eq (.int .i64 m), .eq (.int .i64 n), .eq (.agg ((old).map V).toArray), .eq (v), .eq (.tuple #[.agg ((hz).map V).toArray, .agg ((hz).map V).toArray, .int .i64 E]), .eq (.tuple #[.agg ((hz).map V).toArray, .agg ((hz).map V).toArray, .int .i64 E]), .eq (.agg ((hz).map V).toArray), .eq (.agg ((hz).map V).toArray), .eq (.int .i64 E)] (by rw [sd.1]; kernel_rfl) ⟨fun hw ac u K => ?_, fun hw ac u K => ?_, fun hw ac u K => ?_, fun hw ac u K => ?_, fun hw ac u K => ?_, fun hw ac u K => ?_, fun hw ac u K => ?_, fun hw ac u K => ?_, fun hw ac u K => ?_, trivial⟩ ?_
  · exact st_move (.tmp 0) rfl (K.t x0 rfl)
  · exact st_move (.tmp 1) rfl (K.t x1 rfl)
  · exact st_load33 (.tmp 7) rfl (g7) (old) (K.t x7 rfl) hold (Ob.below m7 K.grow)
  · exact st_move (.tmp 4) rfl (K.t x4 rfl)
  · exact st_call 38 (.func 38) _ _ _ rfl rfl (arg4 (K.dep 0 15 rfl) (K.dep 1 16 rfl) (K.dep 2 17 rfl) (K.dep 3 18 rfl)) Tryd.enter38 (hb _ (Fk.mono _ _ _ _ hv (bgo bl K.grow)) (hK.below (bgo bl K.grow)))
  · exact st_move (.tmp 19) rfl (K.dep 4 19 rfl)
  · exact st_tri0 (.tmp 14) rfl (K.dep 5 14 rfl)
  · exact st_tri1 (.tmp 14) rfl (K.dep 5 14 rfl)
  · exact st_tri2 (.tmp 14) rfl (K.dep 5 14 rfl)
  intro f5 w5 A hb
  replace x0 := A.t x0 rfl
  replace x1 := A.t x1 rfl
  replace x4 := A.t x4 rfl
  replace x7 := A.t x7 rfl
  replace x8 := A.t x8 rfl
  have x20 := A.e 6 20 rfl rfl
  have x21 := A.e 7 21 rfl rfl
  have x22 := A.e 8 22 rfl rfl
  replace m7 := Ob.below m7 hb
  replace m8 := Ob.below m8 hb
  replace bl := bgo bl hb
  replace sd := A.sd sd
  clear A hb
  clear x4
  refine wl_one (.nw w5.heap.size 33 ((hz).map V)) rfl 11 rfl (by rw [sd.1]; decide) (st_alloc33 rfl _ (Nat.le_refl _)) ?_
  intro f6 w6 df2 sz2 old2 new2 hb
  replace bl0 := bl
  replace x0 := tr old2 x0 rfl
  replace x1 := tr old2 x1 rfl
  replace x7 := tr old2 x7 rfl
  replace x8 := tr old2 x8 rfl
  replace x20 := tr old2 x20 rfl
  replace x21 := tr old2 x21 rfl
  replace x22 := tr old2 x22 rfl
  have x11 : Fk.f (.nw w5.heap.size 33 ((hz).map V)) (f6.eval (.tmp 11)) w6 := new2
  have lt_m7 := Ob.lt m7
  replace m7 := Ob.below m7 hb
  have lt_m8 := Ob.lt m8
  replace m8 := Ob.below m8 hb
  replace bl := bgo bl hb
  replace sd := sd2 sz2 df2 sd
  clear df2 sz2 old2 new2 hb
  obtain ⟨g11, hg11, e11, m11⟩ := x11
  have x11 := e11
  clear e11
  have nm7_11 : g7 ≠ g11 := Nat.ne_of_lt (Nat.lt_of_lt_of_le lt_m7 hg11)
  have nm8_11 : g8 ≠ g11 := Nat.ne_of_lt (Nat.lt_of_lt_of_le lt_m8 hg11)
  have hw11 : w.heap.size ≤ g11 := Nat.le_trans bl0.size hg11
  refine wl_one (.nw w6.heap.size 33 ((hz).map V)) rfl 12 rfl (by rw [sd.1]; decide) (st_alloc33 rfl _ (Nat.le_refl _)) ?_
  intro f7 w7 df2 sz2 old2 new2 hb
  replace bl0 := bl
  replace x0 := tr old2 x0 rfl
  replace x1 := tr old2 x1 rfl
  replace x7 := tr old2 x7 rfl
  replace x8 := tr old2 x8 rfl
  replace x20 := tr old2 x20 rfl
  replace x21 := tr old2 x21 rfl
  replace x22 := tr old2 x22 rfl
  replace x11 := tr old2 x11 rfl
  have x12 : Fk.f (.nw w6.heap.size 33 ((hz).map V)) (f7.eval (.tmp 12)) w7 := new2
  have lt_m7 := Ob.lt m7
  replace m7 := Ob.below m7 hb
  have lt_m8 := Ob.lt m8
  replace m8 := Ob.below m8 hb
  have lt_m11 := Ob.lt m11
  replace m11 := Ob.below m11 hb
  replace bl := bgo bl hb
  replace sd := sd2 sz2 df2 sd
  clear df2 sz2 old2 new2 hb
  obtain ⟨g12, hg12, e12, m12⟩ := x12
  have x12 := e12
  clear e12
  have nm7_12 : g7 ≠ g12 := Nat.ne_of_lt (Nat.lt_of_lt_of_le lt_m7 hg12)
  have nm8_12 : g8 ≠ g12 := Nat.ne_of_lt (Nat.lt_of_lt_of_le lt_m8 hg12)
  have nm11_12 : g11 ≠ g12 := Nat.ne_of_lt (Nat.lt_of_lt_of_le lt_m11 hg12)
  have hw12 : w.heap.size ≤ g12 := Nat.le_trans bl0.size hg12
  refine wl_store rfl (.tmp 11) (.tmp 20) rfl rfl (g11) (hz) (hz) x11 x20 m11 hz_len hz_len ?_
  replace m7 : Ob (w7.setRow g11 ((hz).map V : List Value).toArray) (g7) 33 ((old).map V) := Ob.setRow_other m7 _ nm7_11
  replace m8 : Ob (w7.setRow g11 ((hz).map V : List Value).toArray) (g8) 33 ((rt).map V) := Ob.setRow_other m8 _ nm8_11
  replace m11 : Ob (w7.setRow g11 ((hz).map V : List Value).toArray) (g11) 33 ((hz).map V) := Ob.setRow m11 ((hz).map V)
  replace m12 : Ob (w7.setRow g11 ((hz).map V : List Value).toArray) (g12) 33 ((hz).map V) := Ob.setRow_other m12 _ nm11_12.symm
  replace bl : Below w.heap.size w (w7.setRow g11 ((hz).map V : List Value).toArray) := bl.trans (below_setRow _ _ _ _ hw11)
  generalize w7.setRow g11 ((hz).map V : List Value).toArray = w8b at bl m7 m8 m11 m12 ⊢
  clear x20
  refine wl_store rfl (.tmp 12) (.tmp 21) rfl rfl (g12) (hz) (hz) x12 x21 m12 hz_len hz_len ?_
  replace m7 : Ob (w8b.setRow g12 ((hz).map V : List Value).toArray) (g7) 33 ((old).map V) := Ob.setRow_other m7 _ nm7_12
  replace m8 : Ob (w8b.setRow g12 ((hz).map V : List Value).toArray) (g8) 33 ((rt).map V) := Ob.setRow_other m8 _ nm8_12
  replace m11 : Ob (w8b.setRow g12 ((hz).map V : List Value).toArray) (g11) 33 ((hz).map V) := Ob.setRow_other m11 _ nm11_12
  replace m12 : Ob (w8b.setRow g12 ((hz).map V : List Value).toArray) (g12) 33 ((hz).map V) := Ob.setRow m12 ((hz).map V)
  replace bl : Below w.heap.size w (w8b.setRow g12 ((hz).map V : List Value).toArray) := bl.trans (below_setRow _ _ _ _ hw12)
  generalize w8b.setRow g12 ((hz).map V : List Value).toArray = w9b at bl m7 m8 m11 m12 ⊢
  clear x21
  refine wl_one (.eq (.int .i64 E)) rfl 13 rfl (by rw [sd.1]; decide) (st_assign (.tmp 22) rfl x22) ?_
  intro f10 w10 df2 sz2 old2 new2 hb
  replace x0 := tr old2 x0 rfl
  replace x1 := tr old2 x1 rfl
  replace x7 := tr old2 x7 rfl
  replace x8 := tr old2 x8 rfl
  replace x22 := tr old2 x22 rfl
  replace x11 := tr old2 x11 rfl
  replace x12 := tr old2 x12 rfl
  have x13 := Fk.e new2
  replace m7 := Ob.below m7 hb
  replace m8 := Ob.below m8 hb
  replace m11 := Ob.below m11 hb
  replace m12 := Ob.below m12 hb
  replace bl := bgo bl hb
  replace sd := sd2 sz2 df2 sd
  clear df2 sz2 old2 new2 hb
  refine wpList_nil ?_
  clear x22
  show Code.wp _ _ _ _ _
  refine wp_seq ?_
  refine wp_seq ?_
  refine wr_a [.eq (.int .i64 E), .eq (.bool true)] (by rw [sd.1]; kernel_rfl) ⟨fun hw ac u K => ?_, fun hw ac u K => ?_, trivial⟩ ?_
  · exact st_move (.tmp 13) rfl (K.t x13 rfl)
  · exact st_neqi 40 (.tmp 23) (.const (.int .i64 0)) rfl .i64 (E) (0) (K.dep 0 23 rfl) rfl _ (by rw [eq_comm, decide_eq_true_iff]; exact hE)
  intro f11 w11 A hb
  replace x0 := A.t x0 rfl
  replace x1 := A.t x1 rfl
  replace x7 := A.t x7 rfl
  replace x8 := A.t x8 rfl
  replace x11 := A.t x11 rfl
  replace x12 := A.t x12 rfl
  replace x13 := A.t x13 rfl
  have x24 := A.e 1 24 rfl rfl
  replace m7 := Ob.below m7 hb
  replace m8 := Ob.below m8 hb
  replace m11 := Ob.below m11 hb
  replace m12 := Ob.below m12 hb
  replace bl := bgo bl hb
  replace sd := A.sd sd
  clear A hb
  show Code.wp _ _ _ _ _
  refine wp_cond_true x24 ?_
  refine wp_seq ?_
  refine wr_a [.eq (.int .i64 E), .eq (.int .i64 E)] (by rw [sd.1]; kernel_rfl) ⟨fun hw ac u K => ?_, fun hw ac u K => ?_, trivial⟩ ?_
  · exact st_move (.tmp 13) rfl (K.t x13 rfl)
  · exact st_assign (.tmp 25) rfl (K.dep 0 25 rfl)
  intro f12 w12 A hb
  replace x0 := A.t x0 rfl
  replace x1 := A.t x1 rfl
  replace x7 := A.t x7 rfl
  replace x8 := A.t x8 rfl
  replace x11 := A.t x11 rfl
  replace x12 := A.t x12 rfl
  replace x13 := A.t x13 rfl
  replace x24 := A.t x24 rfl
  have x10 := A.e 1 10 rfl rfl
  replace m7 := Ob.below m7 hb
  replace m8 := Ob.below m8 hb
  replace m11 := Ob.below m11 hb
  replace m12 := Ob.below m12 hb
  replace bl := bgo bl hb
  replace sd := A.sd sd
  clear A hb
  clear x0
  clear x1
  clear x7
  clear x8
  clear x11
  clear x12
  clear x13
  clear x24
  clear m7 m8 m11 m12
  show Code.wp _ _ _ _ _
  refine wp_ret ?_
  repeat (first | with_reducible refine then_ret ?_ | with_reducible refine block_ret ?_)
  exact bodyPost_ret (v := .int .i64 E) (ret_slot rfl f12 _ x10 _ _) sd.2 ⟨_, rfl, rfl, bl⟩
theorem on_z {old : List (BitVec 8)} (hold : old.length = 32) {rt : List (BitVec 8)} (hrt : rt.length = 32) {n : Nat} {r : Int} (hr : r = if old = shaOf [] then (if 0 < n then 0 else if rt = old then 0 else 22) else 22) {P : List (List (BitVec 8))} {v : Value} {w : World} (hv : (Fk.hc P).f v w) (_hP : P.length ≤ 100000) (hK : Tab w) (hb : ∀ w' : World, (Fk.hc P).f v w' → Tab w' → Calls Tryd.prog 38 #[.int .i64 0, .int .i64 (n : Int), .agg ((old).map V).toArray, v] w' fun e w2 => ∃ u, e = .returned u ∧ (Fk.eq (.tuple #[.agg ((old).map V).toArray, .agg ((old).map V).toArray, .int .i64 0])).f u w2 ∧ Below w'.heap.size w' w2) :
    Calls Tryd.prog 21 #[.int .i64 0, .int .i64 (n : Int), .agg ((old).map V).toArray, .agg ((rt).map V).toArray, v] w fun e w' => ∃ u, e = .returned u ∧ (Fk.eq (.int .i64 r)).f u w' ∧ Below w.heap.size w w' := by
  have hvs := hc_hs hv
  obtain ⟨o0, eo⟩ : ∃ o, shaOf [] = o := ⟨_, rfl⟩
  have ho0 : o0.length = 32 := by rw [← eo]; exact shaOf_len _
  have hnil := sl_nil w
  rw [eo] at hr
  go_enter Tryd.func21, Tryd.ntmps21
  refine code_both (fun f w1 => f.tmps.size = 47 ∧ f.defers = [] ∧ f.eval (.tmp 0) = .int .i64 0 ∧ f.eval (.tmp 1) = .int .i64 (n : Int) ∧ f.eval (.tmp 2) = .agg ((old).map V).toArray ∧ f.eval (.tmp 3) = .agg ((rt).map V).toArray ∧ f.eval (.tmp 4) = v ∧ Below w.heap.size w (w1)) ⟨rfl, rfl, rfl, rfl, rfl, rfl, rfl, Below.refl _ _⟩ ?_
  rintro f0 w0 ⟨sz, df, x0, x1, x2, x3, x4, bl⟩
  have sd := And.intro sz df
  clear sz df
  have bl0 := bl
  refine wp_seq ?_
  refine wr_s [] (by rw [sd.1]; kernel_rfl) trivial ?_
  intro f1 w1 A hb
  replace x0 := A.t x0 rfl
  replace x1 := A.t x1 rfl
  replace x2 := A.t x2 rfl
  replace x3 := A.t x3 rfl
  replace x4 := A.t x4 rfl
  replace bl := bgo bl hb
  replace sd := A.sd sd
  clear A hb
  refine wl_one (.nw w1.heap.size 33 ((old).map V)) rfl 7 rfl (by rw [sd.1]; decide) (st_box 33 (.tmp 2) rfl _ _ (by rw [show _ = _ from x2]; kernel_rfl) (Nat.le_refl _)) ?_
  intro f2 w2 df2 sz2 old2 new2 hb
  replace bl0 := bl
  replace x0 := tr old2 x0 rfl
  replace x1 := tr old2 x1 rfl
  replace x2 := tr old2 x2 rfl
  replace x3 := tr old2 x3 rfl
  replace x4 := tr old2 x4 rfl
  have x7 : Fk.f (.nw w1.heap.size 33 ((old).map V)) (f2.eval (.tmp 7)) w2 := new2
  replace bl := bgo bl hb
  replace sd := sd2 sz2 df2 sd
  clear df2 sz2 old2 new2 hb
  obtain ⟨g7, hg7, e7, m7⟩ := x7
  have x7 := e7
  clear e7
  have hw7 : w.heap.size ≤ g7 := Nat.le_trans bl0.size hg7
  clear x2
  refine wl_one (.nw w2.heap.size 33 ((rt).map V)) rfl 8 rfl (by rw [sd.1]; decide) (st_box 33 (.tmp 3) rfl _ _ (by rw [show _ = _ from x3]; kernel_rfl) (Nat.le_refl _)) ?_
  intro f3 w3 df2 sz2 old2 new2 hb
  replace bl0 := bl
  replace x0 := tr old2 x0 rfl
  replace x1 := tr old2 x1 rfl
  replace x3 := tr old2 x3 rfl
  replace x4 := tr old2 x4 rfl
  replace x7 := tr old2 x7 rfl
  have x8 : Fk.f (.nw w2.heap.size 33 ((rt).map V)) (f3.eval (.tmp 8)) w3 := new2
  have lt_m7 := Ob.lt m7
  replace m7 := Ob.below m7 hb
  replace bl := bgo bl hb
  replace sd := sd2 sz2 df2 sd
  clear df2 sz2 old2 new2 hb
  obtain ⟨g8, hg8, e8, m8⟩ := x8
  have x8 := e8
  clear e8
  have nm7_8 : g7 ≠ g8 := Nat.ne_of_lt (Nat.lt_of_lt_of_le lt_m7 hg8)
  have hw8 : w.heap.size ≤ g8 := Nat.le_trans bl0.size hg8
  clear x3
  refine wl_one (.eq (.int .i64 0)) rfl 10 rfl (by rw [sd.1]; decide) (st_assign (.const (.int .i64 0)) rfl rfl) ?_
  intro f4 w4 df2 sz2 old2 new2 hb
  replace x0 := tr old2 x0 rfl
  replace x1 := tr old2 x1 rfl
  replace x4 := tr old2 x4 rfl
  replace x7 := tr old2 x7 rfl
  replace x8 := tr old2 x8 rfl
  have x10 := Fk.e new2
  replace m7 := Ob.below m7 hb
  replace m8 := Ob.below m8 hb
  replace bl := bgo bl hb
  replace sd := sd2 sz2 df2 sd
  clear df2 sz2 old2 new2 hb
  refine wpList_nil ?_
  clear x10
  show Code.wp _ _ _ _ _
  refine wp_seq ?_
  refine wr_s [.eq (.int .i64 0), .eq (.int .i64 (n : Int)), .eq (.agg ((old).map V).toArray), .eq (v), .eq (.tuple #[.agg ((old).map V).toArray, .agg ((old).map V).toArray, .int .i64 0]), .eq (.tuple #[.agg ((old).map V).toArray, .agg ((old).map V).toArray, .int .i64 0]), .eq (.agg ((old).map V).toArray), .eq (.agg ((old).map V).toArray), .eq (.int .i64 0)] (by rw [sd.1]; kernel_rfl) ⟨fun hw ac u K => ?_, fun hw ac u K => ?_, fun hw ac u K => ?_, fun hw ac u K => ?_, fun hw ac u K => ?_, fun hw ac u K => ?_, fun hw ac u K => ?_, fun hw ac u K => ?_, fun hw ac u K => ?_, trivial⟩ ?_
  · exact st_move (.tmp 0) rfl (K.t x0 rfl)
  · exact st_move (.tmp 1) rfl (K.t x1 rfl)
  · exact st_load33 (.tmp 7) rfl (g7) (old) (K.t x7 rfl) hold (Ob.below m7 K.grow)
  · exact st_move (.tmp 4) rfl (K.t x4 rfl)
  · exact st_call 38 (.func 38) _ _ _ rfl rfl (arg4 (K.dep 0 15 rfl) (K.dep 1 16 rfl) (K.dep 2 17 rfl) (K.dep 3 18 rfl)) Tryd.enter38 (hb _ (Fk.mono _ _ _ _ hv (bgo bl K.grow)) (hK.below (bgo bl K.grow)))
  · exact st_move (.tmp 19) rfl (K.dep 4 19 rfl)
  · exact st_tri0 (.tmp 14) rfl (K.dep 5 14 rfl)
  · exact st_tri1 (.tmp 14) rfl (K.dep 5 14 rfl)
  · exact st_tri2 (.tmp 14) rfl (K.dep 5 14 rfl)
  intro f5 w5 A hb
  replace x0 := A.t x0 rfl
  replace x1 := A.t x1 rfl
  replace x4 := A.t x4 rfl
  replace x7 := A.t x7 rfl
  replace x8 := A.t x8 rfl
  have x20 := A.e 6 20 rfl rfl
  have x21 := A.e 7 21 rfl rfl
  have x22 := A.e 8 22 rfl rfl
  replace m7 := Ob.below m7 hb
  replace m8 := Ob.below m8 hb
  replace bl := bgo bl hb
  replace sd := A.sd sd
  clear A hb
  clear x4
  refine wl_one (.nw w5.heap.size 33 ((hz).map V)) rfl 11 rfl (by rw [sd.1]; decide) (st_alloc33 rfl _ (Nat.le_refl _)) ?_
  intro f6 w6 df2 sz2 old2 new2 hb
  replace bl0 := bl
  replace x0 := tr old2 x0 rfl
  replace x1 := tr old2 x1 rfl
  replace x7 := tr old2 x7 rfl
  replace x8 := tr old2 x8 rfl
  replace x20 := tr old2 x20 rfl
  replace x21 := tr old2 x21 rfl
  replace x22 := tr old2 x22 rfl
  have x11 : Fk.f (.nw w5.heap.size 33 ((hz).map V)) (f6.eval (.tmp 11)) w6 := new2
  have lt_m7 := Ob.lt m7
  replace m7 := Ob.below m7 hb
  have lt_m8 := Ob.lt m8
  replace m8 := Ob.below m8 hb
  replace bl := bgo bl hb
  replace sd := sd2 sz2 df2 sd
  clear df2 sz2 old2 new2 hb
  obtain ⟨g11, hg11, e11, m11⟩ := x11
  have x11 := e11
  clear e11
  have nm7_11 : g7 ≠ g11 := Nat.ne_of_lt (Nat.lt_of_lt_of_le lt_m7 hg11)
  have nm8_11 : g8 ≠ g11 := Nat.ne_of_lt (Nat.lt_of_lt_of_le lt_m8 hg11)
  have hw11 : w.heap.size ≤ g11 := Nat.le_trans bl0.size hg11
  refine wl_one (.nw w6.heap.size 33 ((hz).map V)) rfl 12 rfl (by rw [sd.1]; decide) (st_alloc33 rfl _ (Nat.le_refl _)) ?_
  intro f7 w7 df2 sz2 old2 new2 hb
  replace bl0 := bl
  replace x0 := tr old2 x0 rfl
  replace x1 := tr old2 x1 rfl
  replace x7 := tr old2 x7 rfl
  replace x8 := tr old2 x8 rfl
  replace x20 := tr old2 x20 rfl
  replace x21 := tr old2 x21 rfl
  replace x22 := tr old2 x22 rfl
  replace x11 := tr old2 x11 rfl
  have x12 : Fk.f (.nw w6.heap.size 33 ((hz).map V)) (f7.eval (.tmp 12)) w7 := new2
  have lt_m7 := Ob.lt m7
  replace m7 := Ob.below m7 hb
  have lt_m8 := Ob.lt m8
  replace m8 := Ob.below m8 hb
  have lt_m11 := Ob.lt m11
  replace m11 := Ob.below m11 hb
  replace bl := bgo bl hb
  replace sd := sd2 sz2 df2 sd
  clear df2 sz2 old2 new2 hb
  obtain ⟨g12, hg12, e12, m12⟩ := x12
  have x12 := e12
  clear e12
  have nm7_12 : g7 ≠ g12 := Nat.ne_of_lt (Nat.lt_of_lt_of_le lt_m7 hg12)
  have nm8_12 : g8 ≠ g12 := Nat.ne_of_lt (Nat.lt_of_lt_of_le lt_m8 hg12)
  have nm11_12 : g11 ≠ g12 := Nat.ne_of_lt (Nat.lt_of_lt_of_le lt_m11 hg12)
  have hw12 : w.heap.size ≤ g12 := Nat.le_trans bl0.size hg12
  refine wl_store rfl (.tmp 11) (.tmp 20) rfl rfl (g11) (old) (hz) x11 x20 m11 hz_len hold ?_
  replace m7 : Ob (w7.setRow g11 ((old).map V : List Value).toArray) (g7) 33 ((old).map V) := Ob.setRow_other m7 _ nm7_11
  replace m8 : Ob (w7.setRow g11 ((old).map V : List Value).toArray) (g8) 33 ((rt).map V) := Ob.setRow_other m8 _ nm8_11
  replace m11 : Ob (w7.setRow g11 ((old).map V : List Value).toArray) (g11) 33 ((old).map V) := Ob.setRow m11 ((old).map V)
  replace m12 : Ob (w7.setRow g11 ((old).map V : List Value).toArray) (g12) 33 ((hz).map V) := Ob.setRow_other m12 _ nm11_12.symm
  replace bl : Below w.heap.size w (w7.setRow g11 ((old).map V : List Value).toArray) := bl.trans (below_setRow _ _ _ _ hw11)
  generalize w7.setRow g11 ((old).map V : List Value).toArray = w8b at bl m7 m8 m11 m12 ⊢
  clear x20
  refine wl_store rfl (.tmp 12) (.tmp 21) rfl rfl (g12) (old) (hz) x12 x21 m12 hz_len hold ?_
  replace m7 : Ob (w8b.setRow g12 ((old).map V : List Value).toArray) (g7) 33 ((old).map V) := Ob.setRow_other m7 _ nm7_12
  replace m8 : Ob (w8b.setRow g12 ((old).map V : List Value).toArray) (g8) 33 ((rt).map V) := Ob.setRow_other m8 _ nm8_12
  replace m11 : Ob (w8b.setRow g12 ((old).map V : List Value).toArray) (g11) 33 ((old).map V) := Ob.setRow_other m11 _ nm11_12
  replace m12 : Ob (w8b.setRow g12 ((old).map V : List Value).toArray) (g12) 33 ((old).map V) := Ob.setRow m12 ((old).map V)
  replace bl : Below w.heap.size w (w8b.setRow g12 ((old).map V : List Value).toArray) := bl.trans (below_setRow _ _ _ _ hw12)
  generalize w8b.setRow g12 ((old).map V : List Value).toArray = w9b at bl m7 m8 m11 m12 ⊢
  clear x21
  refine wl_one (.eq (.int .i64 0)) rfl 13 rfl (by rw [sd.1]; decide) (st_assign (.tmp 22) rfl x22) ?_
  intro f10 w10 df2 sz2 old2 new2 hb
  replace x0 := tr old2 x0 rfl
  replace x1 := tr old2 x1 rfl
  replace x7 := tr old2 x7 rfl
  replace x8 := tr old2 x8 rfl
  replace x22 := tr old2 x22 rfl
  replace x11 := tr old2 x11 rfl
  replace x12 := tr old2 x12 rfl
  have x13 := Fk.e new2
  replace m7 := Ob.below m7 hb
  replace m8 := Ob.below m8 hb
  replace m11 := Ob.below m11 hb
  replace m12 := Ob.below m12 hb
  replace bl := bgo bl hb
  replace sd := sd2 sz2 df2 sd
  clear df2 sz2 old2 new2 hb
  refine wpList_nil ?_
  clear x22
  show Code.wp _ _ _ _ _
  refine wp_seq ?_
  refine wp_seq ?_
  refine wr_a [.eq (.int .i64 0), .eq (.bool false)] (by rw [sd.1]; kernel_rfl) ⟨fun hw ac u K => ?_, fun hw ac u K => ?_, trivial⟩ ?_
  · exact st_move (.tmp 13) rfl (K.t x13 rfl)
  · exact st_neqi 40 (.tmp 23) (.const (.int .i64 0)) rfl .i64 (0) (0) (K.dep 0 23 rfl) rfl _ (by rfl)
  intro f11 w11 A hb
  replace x0 := A.t x0 rfl
  replace x1 := A.t x1 rfl
  replace x7 := A.t x7 rfl
  replace x8 := A.t x8 rfl
  replace x11 := A.t x11 rfl
  replace x12 := A.t x12 rfl
  replace x13 := A.t x13 rfl
  have x24 := A.e 1 24 rfl rfl
  replace m7 := Ob.below m7 hb
  replace m8 := Ob.below m8 hb
  replace m11 := Ob.below m11 hb
  replace m12 := Ob.below m12 hb
  replace bl := bgo bl hb
  replace sd := A.sd sd
  clear A hb
  show Code.wp _ _ _ _ _
  refine wp_cond_false x24 ?_
  refine wp_skip ?_
  show Code.wp _ _ _ _ _
  refine wp_seq ?_
  refine wp_seq ?_
  by_cases ho : old = o0
  rotate_left
  · skip
    obtain rfl : r = 22 := by rw [hr]; exact if_neg ho
    refine wr_d [.eq (.int .i64 0), .eq (.bool true), .eq (.bool true), .eq (.agg ((old).map V).toArray), .eq (.agg ((o0).map V).toArray), .eq (.bool true), .eq (.bool true)] Tryd.mixed (by rw [sd.1]; kernel_rfl) ⟨fun hw ac u K => ?_, fun hw ac u K => ?_, fun hw ac u K => ?_, fun hw ac u K => ?_, fun hw ac u K => ?_, fun hw ac u K => ?_, fun hw ac u K => ?_, trivial⟩ ?_
    · exact st_move (.tmp 0) rfl (K.t x0 rfl)
    · exact st_eqi 3 (.tmp 26) (.const (.int .i64 0)) rfl .i64 (0) (0) (K.dep 0 26 rfl) rfl _ (by rfl)
    · exact st_move (.tmp 27) rfl (K.dep 1 27 rfl)
    · exact st_load33 (.tmp 7) rfl (g7) (old) (K.t x7 rfl) hold (Ob.below m7 K.grow)
    · exact st_call 26 (.func 26) _ _ _ rfl rfl (one_arg rfl) Tryd.enter26 (by rw [← eo]; exact fk_sum (by simp) (hK.below (bgo bl K.grow)) (Fk.mono _ _ _ _ hnil (bgo bl K.grow)))
    · exact st_neqh (.tmp 29) (.tmp 30) rfl (old) (o0) hold ho0 (K.dep 3 29 rfl) (K.dep 4 30 rfl) _ (by rw [eq_comm, decide_eq_true_iff]; exact ho)
    · exact st_pick_t (.tmp 28) (.tmp 31) (.const (.bool false)) rfl (K.dep 2 28 rfl) (K.dep 5 31 rfl)
    intro f12 w12 A hb
    replace x0 := A.t x0 rfl
    replace x1 := A.t x1 rfl
    replace x7 := A.t x7 rfl
    replace x8 := A.t x8 rfl
    replace x11 := A.t x11 rfl
    replace x12 := A.t x12 rfl
    replace x13 := A.t x13 rfl
    replace x24 := A.t x24 rfl
    have x32 := A.e 6 32 rfl rfl
    replace m7 := Ob.below m7 hb
    replace m8 := Ob.below m8 hb
    replace m11 := Ob.below m11 hb
    replace m12 := Ob.below m12 hb
    replace bl := bgo bl hb
    replace sd := A.sd sd
    clear A hb
    clear x13
    clear x24
    show Code.wp _ _ _ _ _
    refine wp_cond_true x32 ?_
    refine wp_seq ?_
    refine wr_a [.eq (.int .i64 22)] (by rw [sd.1]; kernel_rfl) ⟨fun hw ac u K => ?_, trivial⟩ ?_
    · exact st_assign (.const (.int .i64 22)) rfl rfl
    intro f13 w13 A hb
    replace x0 := A.t x0 rfl
    replace x1 := A.t x1 rfl
    replace x7 := A.t x7 rfl
    replace x8 := A.t x8 rfl
    replace x11 := A.t x11 rfl
    replace x12 := A.t x12 rfl
    replace x32 := A.t x32 rfl
    have x10 := A.e 0 10 rfl rfl
    replace m7 := Ob.below m7 hb
    replace m8 := Ob.below m8 hb
    replace m11 := Ob.below m11 hb
    replace m12 := Ob.below m12 hb
    replace bl := bgo bl hb
    replace sd := A.sd sd
    clear A hb
    clear x0
    clear x1
    clear x7
    clear x8
    clear x11
    clear x12
    clear x32
    clear m7 m8 m11 m12
    show Code.wp _ _ _ _ _
    refine wp_ret ?_
    repeat (first | with_reducible refine then_ret ?_ | with_reducible refine block_ret ?_)
    exact bodyPost_ret (v := .int .i64 22) (ret_slot rfl f13 _ x10 _ _) sd.2 ⟨_, rfl, rfl, bl⟩
  rw [if_pos ho] at hr
  refine wr_d [.eq (.int .i64 0), .eq (.bool true), .eq (.bool true), .eq (.agg ((old).map V).toArray), .eq (.agg ((o0).map V).toArray), .eq (.bool false), .eq (.bool false)] Tryd.mixed (by rw [sd.1]; kernel_rfl) ⟨fun hw ac u K => ?_, fun hw ac u K => ?_, fun hw ac u K => ?_, fun hw ac u K => ?_, fun hw ac u K => ?_, fun hw ac u K => ?_, fun hw ac u K => ?_, trivial⟩ ?_
  · exact st_move (.tmp 0) rfl (K.t x0 rfl)
  · exact st_eqi 3 (.tmp 26) (.const (.int .i64 0)) rfl .i64 (0) (0) (K.dep 0 26 rfl) rfl _ (by rfl)
  · exact st_move (.tmp 27) rfl (K.dep 1 27 rfl)
  · exact st_load33 (.tmp 7) rfl (g7) (old) (K.t x7 rfl) hold (Ob.below m7 K.grow)
  · exact st_call 26 (.func 26) _ _ _ rfl rfl (one_arg rfl) Tryd.enter26 (by rw [← eo]; exact fk_sum (by simp) (hK.below (bgo bl K.grow)) (Fk.mono _ _ _ _ hnil (bgo bl K.grow)))
  · exact st_neqh (.tmp 29) (.tmp 30) rfl (old) (o0) hold ho0 (K.dep 3 29 rfl) (K.dep 4 30 rfl) _ (by rw [eq_comm, decide_eq_false_iff_not]; exact fun h => h ho)
  · exact st_pick_t (.tmp 28) (.tmp 31) (.const (.bool false)) rfl (K.dep 2 28 rfl) (K.dep 5 31 rfl)
  intro f12 w12 A hb
  replace x0 := A.t x0 rfl
  replace x1 := A.t x1 rfl
  replace x7 := A.t x7 rfl
  replace x8 := A.t x8 rfl
  replace x11 := A.t x11 rfl
  replace x12 := A.t x12 rfl
  replace x13 := A.t x13 rfl
  replace x24 := A.t x24 rfl
  have x32 := A.e 6 32 rfl rfl
  replace m7 := Ob.below m7 hb
  replace m8 := Ob.below m8 hb
  replace m11 := Ob.below m11 hb
  replace m12 := Ob.below m12 hb
  replace bl := bgo bl hb
  replace sd := A.sd sd
  clear A hb
  clear x13
  clear x24
  show Code.wp _ _ _ _ _
  refine wp_cond_false x32 ?_
  refine wp_skip ?_
  show Code.wp _ _ _ _ _
  refine wp_seq ?_
  refine wp_seq ?_
  by_cases hn0 : 0 < n
  rotate_left
  · skip
    rw [if_neg hn0] at hr
    refine wr_a [.eq (.int .i64 0), .eq (.bool true), .eq (.bool true), .eq (.int .i64 (n : Int)), .eq (.bool false), .eq (.bool false)] (by rw [sd.1]; kernel_rfl) ⟨fun hw ac u K => ?_, fun hw ac u K => ?_, fun hw ac u K => ?_, fun hw ac u K => ?_, fun hw ac u K => ?_, fun hw ac u K => ?_, trivial⟩ ?_
    · exact st_move (.tmp 0) rfl (K.t x0 rfl)
    · exact st_eqi 3 (.tmp 33) (.const (.int .i64 0)) rfl .i64 (0) (0) (K.dep 0 33 rfl) rfl _ (by rfl)
    · exact st_move (.tmp 34) rfl (K.dep 1 34 rfl)
    · exact st_move (.tmp 1) rfl (K.t x1 rfl)
    · exact st_gtr 3 (.tmp 36) (.const (.int .i64 0)) rfl .i64 ((n : Int)) (0) (K.dep 3 36 rfl) rfl _ (by simpa using hn0)
    · exact st_pick_t (.tmp 35) (.tmp 37) (.const (.bool false)) rfl (K.dep 2 35 rfl) (K.dep 4 37 rfl)
    intro f13 w13 A hb
    replace x0 := A.t x0 rfl
    replace x1 := A.t x1 rfl
    replace x7 := A.t x7 rfl
    replace x8 := A.t x8 rfl
    replace x11 := A.t x11 rfl
    replace x12 := A.t x12 rfl
    replace x32 := A.t x32 rfl
    have x38 := A.e 5 38 rfl rfl
    replace m7 := Ob.below m7 hb
    replace m8 := Ob.below m8 hb
    replace m11 := Ob.below m11 hb
    replace m12 := Ob.below m12 hb
    replace bl := bgo bl hb
    replace sd := A.sd sd
    clear A hb
    clear x0
    clear x1
    clear x32
    show Code.wp _ _ _ _ _
    refine wp_cond_false x38 ?_
    refine wp_skip ?_
    show Code.wp _ _ _ _ _
    refine wp_seq ?_
    refine wp_seq ?_
    by_cases hro : rt = old
    rotate_left
    · skip
      obtain rfl : r = 22 := by rw [hr]; exact if_neg hro
      refine wr_a [.eq (.agg ((old).map V).toArray), .eq (.agg ((old).map V).toArray), .eq (.bool false), .eq (.bool false), .eq (.agg ((old).map V).toArray), .eq (.agg ((rt).map V).toArray), .eq (.bool true), .eq (.bool true)] (by rw [sd.1]; kernel_rfl) ⟨fun hw ac u K => ?_, fun hw ac u K => ?_, fun hw ac u K => ?_, fun hw ac u K => ?_, fun hw ac u K => ?_, fun hw ac u K => ?_, fun hw ac u K => ?_, fun hw ac u K => ?_, trivial⟩ ?_
      · exact st_load33 (.tmp 11) rfl (g11) (old) (K.t x11 rfl) hold (Ob.below m11 K.grow)
      · exact st_load33 (.tmp 7) rfl (g7) (old) (K.t x7 rfl) hold (Ob.below m7 K.grow)
      · exact st_neqh (.tmp 39) (.tmp 40) rfl (old) (old) hold hold (K.dep 0 39 rfl) (K.dep 1 40 rfl) _ (by simp)
      · exact st_move (.tmp 41) rfl (K.dep 2 41 rfl)
      · exact st_load33 (.tmp 12) rfl (g12) (old) (K.t x12 rfl) hold (Ob.below m12 K.grow)
      · exact st_load33 (.tmp 8) rfl (g8) (rt) (K.t x8 rfl) hrt (Ob.below m8 K.grow)
      · exact st_neqh (.tmp 43) (.tmp 44) rfl (old) (rt) hold hrt (K.dep 4 43 rfl) (K.dep 5 44 rfl) _ (by rw [eq_comm, decide_eq_true_iff]; exact fun h => hro h.symm)
      · exact st_pick_f' (.tmp 42) (.const (.bool true)) (.tmp 45) rfl (K.dep 3 42 rfl) (K.dep 6 45 rfl)
      intro f14 w14 A hb
      replace x7 := A.t x7 rfl
      replace x8 := A.t x8 rfl
      replace x11 := A.t x11 rfl
      replace x12 := A.t x12 rfl
      replace x38 := A.t x38 rfl
      have x46 := A.e 7 46 rfl rfl
      replace m7 := Ob.below m7 hb
      replace m8 := Ob.below m8 hb
      replace m11 := Ob.below m11 hb
      replace m12 := Ob.below m12 hb
      replace bl := bgo bl hb
      replace sd := A.sd sd
      clear A hb
      clear x7
      clear x8
      clear x11
      clear x12
      clear x38
      clear m7 m8 m11 m12
      show Code.wp _ _ _ _ _
      refine wp_cond_true x46 ?_
      refine wp_seq ?_
      refine wr_a [.eq (.int .i64 22)] (by rw [sd.1]; kernel_rfl) ⟨fun hw ac u K => ?_, trivial⟩ ?_
      · exact st_assign (.const (.int .i64 22)) rfl rfl
      intro f15 w15 A hb
      replace x46 := A.t x46 rfl
      have x10 := A.e 0 10 rfl rfl
      replace bl := bgo bl hb
      replace sd := A.sd sd
      clear A hb
      clear x46
      show Code.wp _ _ _ _ _
      refine wp_ret ?_
      repeat (first | with_reducible refine then_ret ?_ | with_reducible refine block_ret ?_)
      exact bodyPost_ret (v := .int .i64 22) (ret_slot rfl f15 _ x10 _ _) sd.2 ⟨_, rfl, rfl, bl⟩
    obtain rfl : r = 0 := by rw [hr]; exact if_pos hro
    refine wr_a [.eq (.agg ((old).map V).toArray), .eq (.agg ((old).map V).toArray), .eq (.bool false), .eq (.bool false), .eq (.agg ((old).map V).toArray), .eq (.agg ((rt).map V).toArray), .eq (.bool false), .eq (.bool false)] (by rw [sd.1]; kernel_rfl) ⟨fun hw ac u K => ?_, fun hw ac u K => ?_, fun hw ac u K => ?_, fun hw ac u K => ?_, fun hw ac u K => ?_, fun hw ac u K => ?_, fun hw ac u K => ?_, fun hw ac u K => ?_, trivial⟩ ?_
    · exact st_load33 (.tmp 11) rfl (g11) (old) (K.t x11 rfl) hold (Ob.below m11 K.grow)
    · exact st_load33 (.tmp 7) rfl (g7) (old) (K.t x7 rfl) hold (Ob.below m7 K.grow)
    · exact st_neqh (.tmp 39) (.tmp 40) rfl (old) (old) hold hold (K.dep 0 39 rfl) (K.dep 1 40 rfl) _ (by simp)
    · exact st_move (.tmp 41) rfl (K.dep 2 41 rfl)
    · exact st_load33 (.tmp 12) rfl (g12) (old) (K.t x12 rfl) hold (Ob.below m12 K.grow)
    · exact st_load33 (.tmp 8) rfl (g8) (rt) (K.t x8 rfl) hrt (Ob.below m8 K.grow)
    · exact st_neqh (.tmp 43) (.tmp 44) rfl (old) (rt) hold hrt (K.dep 4 43 rfl) (K.dep 5 44 rfl) _ (by simp [hro])
    · exact st_pick_f' (.tmp 42) (.const (.bool true)) (.tmp 45) rfl (K.dep 3 42 rfl) (K.dep 6 45 rfl)
    intro f14 w14 A hb
    replace x7 := A.t x7 rfl
    replace x8 := A.t x8 rfl
    replace x11 := A.t x11 rfl
    replace x12 := A.t x12 rfl
    replace x38 := A.t x38 rfl
    have x46 := A.e 7 46 rfl rfl
    replace m7 := Ob.below m7 hb
    replace m8 := Ob.below m8 hb
    replace m11 := Ob.below m11 hb
    replace m12 := Ob.below m12 hb
    replace bl := bgo bl hb
    replace sd := A.sd sd
    clear A hb
    clear x7
    clear x8
    clear x11
    clear x12
    clear x38
    clear m7 m8 m11 m12
    show Code.wp _ _ _ _ _
    refine wp_cond_false x46 ?_
    refine wp_skip ?_
    show Code.wp _ _ _ _ _
    refine wp_seq ?_
    refine wr_a [.eq (.int .i64 0)] (by rw [sd.1]; kernel_rfl) ⟨fun hw ac u K => ?_, trivial⟩ ?_
    · exact st_assign (.const (.int .i64 0)) rfl rfl
    intro f15 w15 A hb
    replace x46 := A.t x46 rfl
    have x10 := A.e 0 10 rfl rfl
    replace bl := bgo bl hb
    replace sd := A.sd sd
    clear A hb
    clear x46
    show Code.wp _ _ _ _ _
    refine wp_ret ?_
    repeat (first | with_reducible refine then_ret ?_ | with_reducible refine block_ret ?_)
    exact bodyPost_ret (v := .int .i64 0) (ret_slot rfl f15 _ x10 _ _) sd.2 ⟨_, rfl, rfl, bl⟩
  obtain rfl : r = 0 := by rw [hr]; exact if_pos hn0
  refine wr_a [.eq (.int .i64 0), .eq (.bool true), .eq (.bool true), .eq (.int .i64 (n : Int)), .eq (.bool true), .eq (.bool true)] (by rw [sd.1]; kernel_rfl) ⟨fun hw ac u K => ?_, fun hw ac u K => ?_, fun hw ac u K => ?_, fun hw ac u K => ?_, fun hw ac u K => ?_, fun hw ac u K => ?_, trivial⟩ ?_
  · exact st_move (.tmp 0) rfl (K.t x0 rfl)
  · exact st_eqi 3 (.tmp 33) (.const (.int .i64 0)) rfl .i64 (0) (0) (K.dep 0 33 rfl) rfl _ (by rfl)
  · exact st_move (.tmp 34) rfl (K.dep 1 34 rfl)
  · exact st_move (.tmp 1) rfl (K.t x1 rfl)
  · exact st_gtr 3 (.tmp 36) (.const (.int .i64 0)) rfl .i64 ((n : Int)) (0) (K.dep 3 36 rfl) rfl _ (by simpa using hn0)
  · exact st_pick_t (.tmp 35) (.tmp 37) (.const (.bool false)) rfl (K.dep 2 35 rfl) (K.dep 4 37 rfl)
  intro f13 w13 A hb
  replace x0 := A.t x0 rfl
  replace x1 := A.t x1 rfl
  replace x7 := A.t x7 rfl
  replace x8 := A.t x8 rfl
  replace x11 := A.t x11 rfl
  replace x12 := A.t x12 rfl
  replace x32 := A.t x32 rfl
  have x38 := A.e 5 38 rfl rfl
  replace m7 := Ob.below m7 hb
  replace m8 := Ob.below m8 hb
  replace m11 := Ob.below m11 hb
  replace m12 := Ob.below m12 hb
  replace bl := bgo bl hb
  replace sd := A.sd sd
  clear A hb
  clear x0
  clear x1
  clear x32
  show Code.wp _ _ _ _ _
  refine wp_cond_true x38 ?_
  refine wp_seq ?_
  refine wr_a [.eq (.int .i64 0)] (by rw [sd.1]; kernel_rfl) ⟨fun hw ac u K => ?_, trivial⟩ ?_
  · exact st_assign (.const (.int .i64 0)) rfl rfl
  intro f14 w14 A hb
  replace x7 := A.t x7 rfl
  replace x8 := A.t x8 rfl
  replace x11 := A.t x11 rfl
  replace x12 := A.t x12 rfl
  replace x38 := A.t x38 rfl
  have x10 := A.e 0 10 rfl rfl
  replace m7 := Ob.below m7 hb
  replace m8 := Ob.below m8 hb
  replace m11 := Ob.below m11 hb
  replace m12 := Ob.below m12 hb
  replace bl := bgo bl hb
  replace sd := A.sd sd
  clear A hb
  clear x7
  clear x8
  clear x11
  clear x12
  clear x38
  clear m7 m8 m11 m12
  show Code.wp _ _ _ _ _
  refine wp_ret ?_
  repeat (first | with_reducible refine then_ret ?_ | with_reducible refine block_ret ?_)
  exact bodyPost_ret (v := .int .i64 0) (ret_slot rfl f14 _ x10 _ _) sd.2 ⟨_, rfl, rfl, bl⟩
theorem on_b {old : List (BitVec 8)} (hold : old.length = 32) {rt : List (BitVec 8)} (hrt : rt.length = 32) {m n : Nat} (hm : 1 ≤ m) {x y : List (BitVec 8)} (hx : x.length = 32) (hy : y.length = 32) {r : Int} (hr : r = if x = old ∧ y = rt then 0 else 22) {P : List (List (BitVec 8))} {v : Value} {w : World} (hv : (Fk.hc P).f v w) (_hP : P.length ≤ 100000) (hK : Tab w) (hb : ∀ w' : World, (Fk.hc P).f v w' → Tab w' → Calls Tryd.prog 38 #[.int .i64 (m : Int), .int .i64 (n : Int), .agg ((old).map V).toArray, v] w' fun e w2 => ∃ u, e = .returned u ∧ (Fk.eq (.tuple #[.agg ((x).map V).toArray, .agg ((y).map V).toArray, .int .i64 0])).f u w2 ∧ Below w'.heap.size w' w2) :
    Calls Tryd.prog 21 #[.int .i64 (m : Int), .int .i64 (n : Int), .agg ((old).map V).toArray, .agg ((rt).map V).toArray, v] w fun e w' => ∃ u, e = .returned u ∧ (Fk.eq (.int .i64 r)).f u w' ∧ Below w.heap.size w w' := by
  have hvs := hc_hs hv
  go_enter Tryd.func21, Tryd.ntmps21
  refine code_both (fun f w1 => f.tmps.size = 47 ∧ f.defers = [] ∧ f.eval (.tmp 0) = .int .i64 (m : Int) ∧ f.eval (.tmp 1) = .int .i64 (n : Int) ∧ f.eval (.tmp 2) = .agg ((old).map V).toArray ∧ f.eval (.tmp 3) = .agg ((rt).map V).toArray ∧ f.eval (.tmp 4) = v ∧ Below w.heap.size w (w1)) ⟨rfl, rfl, rfl, rfl, rfl, rfl, rfl, Below.refl _ _⟩ ?_
  rintro f0 w0 ⟨sz, df, x0, x1, x2, x3, x4, bl⟩
  have sd := And.intro sz df
  clear sz df
  have bl0 := bl
  refine wp_seq ?_
  refine wr_s [] (by rw [sd.1]; kernel_rfl) trivial ?_
  intro f1 w1 A hb
  replace x0 := A.t x0 rfl
  replace x1 := A.t x1 rfl
  replace x2 := A.t x2 rfl
  replace x3 := A.t x3 rfl
  replace x4 := A.t x4 rfl
  replace bl := bgo bl hb
  replace sd := A.sd sd
  clear A hb
  refine wl_one (.nw w1.heap.size 33 ((old).map V)) rfl 7 rfl (by rw [sd.1]; decide) (st_box 33 (.tmp 2) rfl _ _ (by rw [show _ = _ from x2]; kernel_rfl) (Nat.le_refl _)) ?_
  intro f2 w2 df2 sz2 old2 new2 hb
  replace bl0 := bl
  replace x0 := tr old2 x0 rfl
  replace x1 := tr old2 x1 rfl
  replace x2 := tr old2 x2 rfl
  replace x3 := tr old2 x3 rfl
  replace x4 := tr old2 x4 rfl
  have x7 : Fk.f (.nw w1.heap.size 33 ((old).map V)) (f2.eval (.tmp 7)) w2 := new2
  replace bl := bgo bl hb
  replace sd := sd2 sz2 df2 sd
  clear df2 sz2 old2 new2 hb
  obtain ⟨g7, hg7, e7, m7⟩ := x7
  have x7 := e7
  clear e7
  have hw7 : w.heap.size ≤ g7 := Nat.le_trans bl0.size hg7
  clear x2
  refine wl_one (.nw w2.heap.size 33 ((rt).map V)) rfl 8 rfl (by rw [sd.1]; decide) (st_box 33 (.tmp 3) rfl _ _ (by rw [show _ = _ from x3]; kernel_rfl) (Nat.le_refl _)) ?_
  intro f3 w3 df2 sz2 old2 new2 hb
  replace bl0 := bl
  replace x0 := tr old2 x0 rfl
  replace x1 := tr old2 x1 rfl
  replace x3 := tr old2 x3 rfl
  replace x4 := tr old2 x4 rfl
  replace x7 := tr old2 x7 rfl
  have x8 : Fk.f (.nw w2.heap.size 33 ((rt).map V)) (f3.eval (.tmp 8)) w3 := new2
  have lt_m7 := Ob.lt m7
  replace m7 := Ob.below m7 hb
  replace bl := bgo bl hb
  replace sd := sd2 sz2 df2 sd
  clear df2 sz2 old2 new2 hb
  obtain ⟨g8, hg8, e8, m8⟩ := x8
  have x8 := e8
  clear e8
  have nm7_8 : g7 ≠ g8 := Nat.ne_of_lt (Nat.lt_of_lt_of_le lt_m7 hg8)
  have hw8 : w.heap.size ≤ g8 := Nat.le_trans bl0.size hg8
  clear x3
  refine wl_one (.eq (.int .i64 0)) rfl 10 rfl (by rw [sd.1]; decide) (st_assign (.const (.int .i64 0)) rfl rfl) ?_
  intro f4 w4 df2 sz2 old2 new2 hb
  replace x0 := tr old2 x0 rfl
  replace x1 := tr old2 x1 rfl
  replace x4 := tr old2 x4 rfl
  replace x7 := tr old2 x7 rfl
  replace x8 := tr old2 x8 rfl
  have x10 := Fk.e new2
  replace m7 := Ob.below m7 hb
  replace m8 := Ob.below m8 hb
  replace bl := bgo bl hb
  replace sd := sd2 sz2 df2 sd
  clear df2 sz2 old2 new2 hb
  refine wpList_nil ?_
  clear x10
  show Code.wp _ _ _ _ _
  refine wp_seq ?_
  refine wr_s [.eq (.int .i64 (m : Int)), .eq (.int .i64 (n : Int)), .eq (.agg ((old).map V).toArray), .eq (v), .eq (.tuple #[.agg ((x).map V).toArray, .agg ((y).map V).toArray, .int .i64 0]), .eq (.tuple #[.agg ((x).map V).toArray, .agg ((y).map V).toArray, .int .i64 0]), .eq (.agg ((x).map V).toArray), .eq (.agg ((y).map V).toArray), .eq (.int .i64 0)] (by rw [sd.1]; kernel_rfl) ⟨fun hw ac u K => ?_, fun hw ac u K => ?_, fun hw ac u K => ?_, fun hw ac u K => ?_, fun hw ac u K => ?_, fun hw ac u K => ?_, fun hw ac u K => ?_, fun hw ac u K => ?_, fun hw ac u K => ?_, trivial⟩ ?_
  · exact st_move (.tmp 0) rfl (K.t x0 rfl)
  · exact st_move (.tmp 1) rfl (K.t x1 rfl)
  · exact st_load33 (.tmp 7) rfl (g7) (old) (K.t x7 rfl) hold (Ob.below m7 K.grow)
  · exact st_move (.tmp 4) rfl (K.t x4 rfl)
  · exact st_call 38 (.func 38) _ _ _ rfl rfl (arg4 (K.dep 0 15 rfl) (K.dep 1 16 rfl) (K.dep 2 17 rfl) (K.dep 3 18 rfl)) Tryd.enter38 (hb _ (Fk.mono _ _ _ _ hv (bgo bl K.grow)) (hK.below (bgo bl K.grow)))
  · exact st_move (.tmp 19) rfl (K.dep 4 19 rfl)
  · exact st_tri0 (.tmp 14) rfl (K.dep 5 14 rfl)
  · exact st_tri1 (.tmp 14) rfl (K.dep 5 14 rfl)
  · exact st_tri2 (.tmp 14) rfl (K.dep 5 14 rfl)
  intro f5 w5 A hb
  replace x0 := A.t x0 rfl
  replace x1 := A.t x1 rfl
  replace x4 := A.t x4 rfl
  replace x7 := A.t x7 rfl
  replace x8 := A.t x8 rfl
  have x20 := A.e 6 20 rfl rfl
  have x21 := A.e 7 21 rfl rfl
  have x22 := A.e 8 22 rfl rfl
  replace m7 := Ob.below m7 hb
  replace m8 := Ob.below m8 hb
  replace bl := bgo bl hb
  replace sd := A.sd sd
  clear A hb
  clear x4
  refine wl_one (.nw w5.heap.size 33 ((hz).map V)) rfl 11 rfl (by rw [sd.1]; decide) (st_alloc33 rfl _ (Nat.le_refl _)) ?_
  intro f6 w6 df2 sz2 old2 new2 hb
  replace bl0 := bl
  replace x0 := tr old2 x0 rfl
  replace x1 := tr old2 x1 rfl
  replace x7 := tr old2 x7 rfl
  replace x8 := tr old2 x8 rfl
  replace x20 := tr old2 x20 rfl
  replace x21 := tr old2 x21 rfl
  replace x22 := tr old2 x22 rfl
  have x11 : Fk.f (.nw w5.heap.size 33 ((hz).map V)) (f6.eval (.tmp 11)) w6 := new2
  have lt_m7 := Ob.lt m7
  replace m7 := Ob.below m7 hb
  have lt_m8 := Ob.lt m8
  replace m8 := Ob.below m8 hb
  replace bl := bgo bl hb
  replace sd := sd2 sz2 df2 sd
  clear df2 sz2 old2 new2 hb
  obtain ⟨g11, hg11, e11, m11⟩ := x11
  have x11 := e11
  clear e11
  have nm7_11 : g7 ≠ g11 := Nat.ne_of_lt (Nat.lt_of_lt_of_le lt_m7 hg11)
  have nm8_11 : g8 ≠ g11 := Nat.ne_of_lt (Nat.lt_of_lt_of_le lt_m8 hg11)
  have hw11 : w.heap.size ≤ g11 := Nat.le_trans bl0.size hg11
  refine wl_one (.nw w6.heap.size 33 ((hz).map V)) rfl 12 rfl (by rw [sd.1]; decide) (st_alloc33 rfl _ (Nat.le_refl _)) ?_
  intro f7 w7 df2 sz2 old2 new2 hb
  replace bl0 := bl
  replace x0 := tr old2 x0 rfl
  replace x1 := tr old2 x1 rfl
  replace x7 := tr old2 x7 rfl
  replace x8 := tr old2 x8 rfl
  replace x20 := tr old2 x20 rfl
  replace x21 := tr old2 x21 rfl
  replace x22 := tr old2 x22 rfl
  replace x11 := tr old2 x11 rfl
  have x12 : Fk.f (.nw w6.heap.size 33 ((hz).map V)) (f7.eval (.tmp 12)) w7 := new2
  have lt_m7 := Ob.lt m7
  replace m7 := Ob.below m7 hb
  have lt_m8 := Ob.lt m8
  replace m8 := Ob.below m8 hb
  have lt_m11 := Ob.lt m11
  replace m11 := Ob.below m11 hb
  replace bl := bgo bl hb
  replace sd := sd2 sz2 df2 sd
  clear df2 sz2 old2 new2 hb
  obtain ⟨g12, hg12, e12, m12⟩ := x12
  have x12 := e12
  clear e12
  have nm7_12 : g7 ≠ g12 := Nat.ne_of_lt (Nat.lt_of_lt_of_le lt_m7 hg12)
  have nm8_12 : g8 ≠ g12 := Nat.ne_of_lt (Nat.lt_of_lt_of_le lt_m8 hg12)
  have nm11_12 : g11 ≠ g12 := Nat.ne_of_lt (Nat.lt_of_lt_of_le lt_m11 hg12)
  have hw12 : w.heap.size ≤ g12 := Nat.le_trans bl0.size hg12
  refine wl_store rfl (.tmp 11) (.tmp 20) rfl rfl (g11) (x) (hz) x11 x20 m11 hz_len hx ?_
  replace m7 : Ob (w7.setRow g11 ((x).map V : List Value).toArray) (g7) 33 ((old).map V) := Ob.setRow_other m7 _ nm7_11
  replace m8 : Ob (w7.setRow g11 ((x).map V : List Value).toArray) (g8) 33 ((rt).map V) := Ob.setRow_other m8 _ nm8_11
  replace m11 : Ob (w7.setRow g11 ((x).map V : List Value).toArray) (g11) 33 ((x).map V) := Ob.setRow m11 ((x).map V)
  replace m12 : Ob (w7.setRow g11 ((x).map V : List Value).toArray) (g12) 33 ((hz).map V) := Ob.setRow_other m12 _ nm11_12.symm
  replace bl : Below w.heap.size w (w7.setRow g11 ((x).map V : List Value).toArray) := bl.trans (below_setRow _ _ _ _ hw11)
  generalize w7.setRow g11 ((x).map V : List Value).toArray = w8b at bl m7 m8 m11 m12 ⊢
  clear x20
  refine wl_store rfl (.tmp 12) (.tmp 21) rfl rfl (g12) (y) (hz) x12 x21 m12 hz_len hy ?_
  replace m7 : Ob (w8b.setRow g12 ((y).map V : List Value).toArray) (g7) 33 ((old).map V) := Ob.setRow_other m7 _ nm7_12
  replace m8 : Ob (w8b.setRow g12 ((y).map V : List Value).toArray) (g8) 33 ((rt).map V) := Ob.setRow_other m8 _ nm8_12
  replace m11 : Ob (w8b.setRow g12 ((y).map V : List Value).toArray) (g11) 33 ((x).map V) := Ob.setRow_other m11 _ nm11_12
  replace m12 : Ob (w8b.setRow g12 ((y).map V : List Value).toArray) (g12) 33 ((y).map V) := Ob.setRow m12 ((y).map V)
  replace bl : Below w.heap.size w (w8b.setRow g12 ((y).map V : List Value).toArray) := bl.trans (below_setRow _ _ _ _ hw12)
  generalize w8b.setRow g12 ((y).map V : List Value).toArray = w9b at bl m7 m8 m11 m12 ⊢
  clear x21
  refine wl_one (.eq (.int .i64 0)) rfl 13 rfl (by rw [sd.1]; decide) (st_assign (.tmp 22) rfl x22) ?_
  intro f10 w10 df2 sz2 old2 new2 hb
  replace x0 := tr old2 x0 rfl
  replace x1 := tr old2 x1 rfl
  replace x7 := tr old2 x7 rfl
  replace x8 := tr old2 x8 rfl
  replace x22 := tr old2 x22 rfl
  replace x11 := tr old2 x11 rfl
  replace x12 := tr old2 x12 rfl
  have x13 := Fk.e new2
  replace m7 := Ob.below m7 hb
  replace m8 := Ob.below m8 hb
  replace m11 := Ob.below m11 hb
  replace m12 := Ob.below m12 hb
  replace bl := bgo bl hb
  replace sd := sd2 sz2 df2 sd
  clear df2 sz2 old2 new2 hb
  refine wpList_nil ?_
  clear x22
  show Code.wp _ _ _ _ _
  refine wp_seq ?_
  refine wp_seq ?_
  refine wr_a [.eq (.int .i64 0), .eq (.bool false)] (by rw [sd.1]; kernel_rfl) ⟨fun hw ac u K => ?_, fun hw ac u K => ?_, trivial⟩ ?_
  · exact st_move (.tmp 13) rfl (K.t x13 rfl)
  · exact st_neqi 40 (.tmp 23) (.const (.int .i64 0)) rfl .i64 (0) (0) (K.dep 0 23 rfl) rfl _ (by rfl)
  intro f11 w11 A hb
  replace x0 := A.t x0 rfl
  replace x1 := A.t x1 rfl
  replace x7 := A.t x7 rfl
  replace x8 := A.t x8 rfl
  replace x11 := A.t x11 rfl
  replace x12 := A.t x12 rfl
  replace x13 := A.t x13 rfl
  have x24 := A.e 1 24 rfl rfl
  replace m7 := Ob.below m7 hb
  replace m8 := Ob.below m8 hb
  replace m11 := Ob.below m11 hb
  replace m12 := Ob.below m12 hb
  replace bl := bgo bl hb
  replace sd := A.sd sd
  clear A hb
  show Code.wp _ _ _ _ _
  refine wp_cond_false x24 ?_
  refine wp_skip ?_
  show Code.wp _ _ _ _ _
  refine wp_seq ?_
  refine wp_seq ?_
  refine wr_d [.eq (.int .i64 (m : Int)), .eq (.bool false), .eq (.bool false), .any, .any, .any, .eq (.bool false)] Tryd.mixed (by rw [sd.1]; kernel_rfl) ⟨fun hw ac u K => ?_, fun hw ac u K => ?_, fun hw ac u K => ?_, fun hw ac u K => ?_, fun hw ac u K => ?_, fun hw ac u K => ?_, fun hw ac u K => ?_, trivial⟩ ?_
  · exact st_move (.tmp 0) rfl (K.t x0 rfl)
  · exact st_eqi 3 (.tmp 26) (.const (.int .i64 0)) rfl .i64 ((m : Int)) (0) (K.dep 0 26 rfl) rfl _ (by rw [eq_comm, decide_eq_false_iff_not]; omega)
  · exact st_move (.tmp 27) rfl (K.dep 1 27 rfl)
  · exact (Bool.false_ne_true hw).elim
  · exact (Bool.false_ne_true hw).elim
  · exact (Bool.false_ne_true hw).elim
  · exact st_pick_f' (.tmp 28) (.tmp 31) (.const (.bool false)) rfl (K.dep 2 28 rfl) rfl
  intro f12 w12 A hb
  replace x0 := A.t x0 rfl
  replace x1 := A.t x1 rfl
  replace x7 := A.t x7 rfl
  replace x8 := A.t x8 rfl
  replace x11 := A.t x11 rfl
  replace x12 := A.t x12 rfl
  replace x13 := A.t x13 rfl
  replace x24 := A.t x24 rfl
  have x32 := A.e 6 32 rfl rfl
  replace m7 := Ob.below m7 hb
  replace m8 := Ob.below m8 hb
  replace m11 := Ob.below m11 hb
  replace m12 := Ob.below m12 hb
  replace bl := bgo bl hb
  replace sd := A.sd sd
  clear A hb
  clear x13
  clear x24
  show Code.wp _ _ _ _ _
  refine wp_cond_false x32 ?_
  refine wp_skip ?_
  show Code.wp _ _ _ _ _
  refine wp_seq ?_
  refine wp_seq ?_
  refine wr_a [.eq (.int .i64 (m : Int)), .eq (.bool false), .eq (.bool false), .any, .any, .eq (.bool false)] (by rw [sd.1]; kernel_rfl) ⟨fun hw ac u K => ?_, fun hw ac u K => ?_, fun hw ac u K => ?_, fun hw ac u K => ?_, fun hw ac u K => ?_, fun hw ac u K => ?_, trivial⟩ ?_
  · exact st_move (.tmp 0) rfl (K.t x0 rfl)
  · exact st_eqi 3 (.tmp 33) (.const (.int .i64 0)) rfl .i64 ((m : Int)) (0) (K.dep 0 33 rfl) rfl _ (by rw [eq_comm, decide_eq_false_iff_not]; omega)
  · exact st_move (.tmp 34) rfl (K.dep 1 34 rfl)
  · exact (Bool.false_ne_true hw).elim
  · exact (Bool.false_ne_true hw).elim
  · exact st_pick_f' (.tmp 35) (.tmp 37) (.const (.bool false)) rfl (K.dep 2 35 rfl) rfl
  intro f13 w13 A hb
  replace x0 := A.t x0 rfl
  replace x1 := A.t x1 rfl
  replace x7 := A.t x7 rfl
  replace x8 := A.t x8 rfl
  replace x11 := A.t x11 rfl
  replace x12 := A.t x12 rfl
  replace x32 := A.t x32 rfl
  have x38 := A.e 5 38 rfl rfl
  replace m7 := Ob.below m7 hb
  replace m8 := Ob.below m8 hb
  replace m11 := Ob.below m11 hb
  replace m12 := Ob.below m12 hb
  replace bl := bgo bl hb
  replace sd := A.sd sd
  clear A hb
  clear x0
  clear x1
  clear x32
  show Code.wp _ _ _ _ _
  refine wp_cond_false x38 ?_
  refine wp_skip ?_
  show Code.wp _ _ _ _ _
  refine wp_seq ?_
  refine wp_seq ?_
  by_cases hxo : x = old
  rotate_left
  · skip
    obtain rfl : r = 22 := by rw [hr]; exact if_neg (fun h => hxo h.1)
    refine wr_a [.eq (.agg ((x).map V).toArray), .eq (.agg ((old).map V).toArray), .eq (.bool true), .eq (.bool true), .any, .any, .any, .eq (.bool true)] (by rw [sd.1]; kernel_rfl) ⟨fun hw ac u K => ?_, fun hw ac u K => ?_, fun hw ac u K => ?_, fun hw ac u K => ?_, fun hw ac u K => ?_, fun hw ac u K => ?_, fun hw ac u K => ?_, fun hw ac u K => ?_, trivial⟩ ?_
    · exact st_load33 (.tmp 11) rfl (g11) (x) (K.t x11 rfl) hx (Ob.below m11 K.grow)
    · exact st_load33 (.tmp 7) rfl (g7) (old) (K.t x7 rfl) hold (Ob.below m7 K.grow)
    · exact st_neqh (.tmp 39) (.tmp 40) rfl (x) (old) hx hold (K.dep 0 39 rfl) (K.dep 1 40 rfl) _ (by simp [hxo])
    · exact st_move (.tmp 41) rfl (K.dep 2 41 rfl)
    · exact (Bool.false_ne_true hw).elim
    · exact (Bool.false_ne_true hw).elim
    · exact (Bool.false_ne_true hw).elim
    · exact st_pick_t (.tmp 42) (.const (.bool true)) (.tmp 45) rfl (K.dep 3 42 rfl) rfl
    intro f14 w14 A hb
    replace x7 := A.t x7 rfl
    replace x8 := A.t x8 rfl
    replace x11 := A.t x11 rfl
    replace x12 := A.t x12 rfl
    replace x38 := A.t x38 rfl
    have x46 := A.e 7 46 rfl rfl
    replace m7 := Ob.below m7 hb
    replace m8 := Ob.below m8 hb
    replace m11 := Ob.below m11 hb
    replace m12 := Ob.below m12 hb
    replace bl := bgo bl hb
    replace sd := A.sd sd
    clear A hb
    clear x7
    clear x8
    clear x11
    clear x12
    clear x38
    clear m7 m8 m11 m12
    show Code.wp _ _ _ _ _
    refine wp_cond_true x46 ?_
    refine wp_seq ?_
    refine wr_a [.eq (.int .i64 22)] (by rw [sd.1]; kernel_rfl) ⟨fun hw ac u K => ?_, trivial⟩ ?_
    · exact st_assign (.const (.int .i64 22)) rfl rfl
    intro f15 w15 A hb
    replace x46 := A.t x46 rfl
    have x10 := A.e 0 10 rfl rfl
    replace bl := bgo bl hb
    replace sd := A.sd sd
    clear A hb
    clear x46
    show Code.wp _ _ _ _ _
    refine wp_ret ?_
    repeat (first | with_reducible refine then_ret ?_ | with_reducible refine block_ret ?_)
    exact bodyPost_ret (v := .int .i64 22) (ret_slot rfl f15 _ x10 _ _) sd.2 ⟨_, rfl, rfl, bl⟩
  by_cases hyr : y = rt
  rotate_left
  · skip
    obtain rfl : r = 22 := by rw [hr]; exact if_neg (fun h => hyr h.2)
    refine wr_a [.eq (.agg ((x).map V).toArray), .eq (.agg ((old).map V).toArray), .eq (.bool false), .eq (.bool false), .eq (.agg ((y).map V).toArray), .eq (.agg ((rt).map V).toArray), .eq (.bool true), .eq (.bool true)] (by rw [sd.1]; kernel_rfl) ⟨fun hw ac u K => ?_, fun hw ac u K => ?_, fun hw ac u K => ?_, fun hw ac u K => ?_, fun hw ac u K => ?_, fun hw ac u K => ?_, fun hw ac u K => ?_, fun hw ac u K => ?_, trivial⟩ ?_
    · exact st_load33 (.tmp 11) rfl (g11) (x) (K.t x11 rfl) hx (Ob.below m11 K.grow)
    · exact st_load33 (.tmp 7) rfl (g7) (old) (K.t x7 rfl) hold (Ob.below m7 K.grow)
    · exact st_neqh (.tmp 39) (.tmp 40) rfl (x) (old) hx hold (K.dep 0 39 rfl) (K.dep 1 40 rfl) _ (by simp [hxo])
    · exact st_move (.tmp 41) rfl (K.dep 2 41 rfl)
    · exact st_load33 (.tmp 12) rfl (g12) (y) (K.t x12 rfl) hy (Ob.below m12 K.grow)
    · exact st_load33 (.tmp 8) rfl (g8) (rt) (K.t x8 rfl) hrt (Ob.below m8 K.grow)
    · exact st_neqh (.tmp 43) (.tmp 44) rfl (y) (rt) hy hrt (K.dep 4 43 rfl) (K.dep 5 44 rfl) _ (by simp [hyr])
    · exact st_pick_f' (.tmp 42) (.const (.bool true)) (.tmp 45) rfl (K.dep 3 42 rfl) (K.dep 6 45 rfl)
    intro f14 w14 A hb
    replace x7 := A.t x7 rfl
    replace x8 := A.t x8 rfl
    replace x11 := A.t x11 rfl
    replace x12 := A.t x12 rfl
    replace x38 := A.t x38 rfl
    have x46 := A.e 7 46 rfl rfl
    replace m7 := Ob.below m7 hb
    replace m8 := Ob.below m8 hb
    replace m11 := Ob.below m11 hb
    replace m12 := Ob.below m12 hb
    replace bl := bgo bl hb
    replace sd := A.sd sd
    clear A hb
    clear x7
    clear x8
    clear x11
    clear x12
    clear x38
    clear m7 m8 m11 m12
    show Code.wp _ _ _ _ _
    refine wp_cond_true x46 ?_
    refine wp_seq ?_
    refine wr_a [.eq (.int .i64 22)] (by rw [sd.1]; kernel_rfl) ⟨fun hw ac u K => ?_, trivial⟩ ?_
    · exact st_assign (.const (.int .i64 22)) rfl rfl
    intro f15 w15 A hb
    replace x46 := A.t x46 rfl
    have x10 := A.e 0 10 rfl rfl
    replace bl := bgo bl hb
    replace sd := A.sd sd
    clear A hb
    clear x46
    show Code.wp _ _ _ _ _
    refine wp_ret ?_
    repeat (first | with_reducible refine then_ret ?_ | with_reducible refine block_ret ?_)
    exact bodyPost_ret (v := .int .i64 22) (ret_slot rfl f15 _ x10 _ _) sd.2 ⟨_, rfl, rfl, bl⟩
  obtain rfl : r = 0 := by rw [hr]; exact if_pos ⟨hxo, hyr⟩
  refine wr_a [.eq (.agg ((x).map V).toArray), .eq (.agg ((old).map V).toArray), .eq (.bool false), .eq (.bool false), .eq (.agg ((y).map V).toArray), .eq (.agg ((rt).map V).toArray), .eq (.bool false), .eq (.bool false)] (by rw [sd.1]; kernel_rfl) ⟨fun hw ac u K => ?_, fun hw ac u K => ?_, fun hw ac u K => ?_, fun hw ac u K => ?_, fun hw ac u K => ?_, fun hw ac u K => ?_, fun hw ac u K => ?_, fun hw ac u K => ?_, trivial⟩ ?_
  · exact st_load33 (.tmp 11) rfl (g11) (x) (K.t x11 rfl) hx (Ob.below m11 K.grow)
  · exact st_load33 (.tmp 7) rfl (g7) (old) (K.t x7 rfl) hold (Ob.below m7 K.grow)
  · exact st_neqh (.tmp 39) (.tmp 40) rfl (x) (old) hx hold (K.dep 0 39 rfl) (K.dep 1 40 rfl) _ (by simp [hxo])
  · exact st_move (.tmp 41) rfl (K.dep 2 41 rfl)
  · exact st_load33 (.tmp 12) rfl (g12) (y) (K.t x12 rfl) hy (Ob.below m12 K.grow)
  · exact st_load33 (.tmp 8) rfl (g8) (rt) (K.t x8 rfl) hrt (Ob.below m8 K.grow)
  · exact st_neqh (.tmp 43) (.tmp 44) rfl (y) (rt) hy hrt (K.dep 4 43 rfl) (K.dep 5 44 rfl) _ (by simp [hyr])
  · exact st_pick_f' (.tmp 42) (.const (.bool true)) (.tmp 45) rfl (K.dep 3 42 rfl) (K.dep 6 45 rfl)
  intro f14 w14 A hb
  replace x7 := A.t x7 rfl
  replace x8 := A.t x8 rfl
  replace x11 := A.t x11 rfl
  replace x12 := A.t x12 rfl
  replace x38 := A.t x38 rfl
  have x46 := A.e 7 46 rfl rfl
  replace m7 := Ob.below m7 hb
  replace m8 := Ob.below m8 hb
  replace m11 := Ob.below m11 hb
  replace m12 := Ob.below m12 hb
  replace bl := bgo bl hb
  replace sd := A.sd sd
  clear A hb
  clear x7
  clear x8
  clear x11
  clear x12
  clear x38
  clear m7 m8 m11 m12
  show Code.wp _ _ _ _ _
  refine wp_cond_false x46 ?_
  refine wp_skip ?_
  show Code.wp _ _ _ _ _
  refine wp_seq ?_
  refine wr_a [.eq (.int .i64 0)] (by rw [sd.1]; kernel_rfl) ⟨fun hw ac u K => ?_, trivial⟩ ?_
  · exact st_assign (.const (.int .i64 0)) rfl rfl
  intro f15 w15 A hb
  replace x46 := A.t x46 rfl
  have x10 := A.e 0 10 rfl rfl
  replace bl := bgo bl hb
  replace sd := A.sd sd
  clear A hb
  clear x46
  show Code.wp _ _ _ _ _
  refine wp_ret ?_
  repeat (first | with_reducible refine then_ret ?_ | with_reducible refine block_ret ?_)
  exact bodyPost_ret (v := .int .i64 0) (ret_slot rfl f15 _ x10 _ _) sd.2 ⟨_, rfl, rfl, bl⟩
end Go.Proofs.YtfmeeimhfdnjpaaDoor
namespace Go.Proofs.YtfmeeimhfdnjpaaDoor
set_option maxRecDepth 100000
open Go.RowKit
theorem bres_len {old : List (BitVec 8)} (hold : old.length = 32) {P : List (List (BitVec 8))} (hP : ∀ p ∈ P, p.length = 32) {c : Bool} {S : List Bool} {x y : List (BitVec 8)} (hb : bres old P c S = some (x, y)) : x.length = 32 ∧ y.length = 32 := by
  have key : ∀ (a : List (BitVec 8)) (R : List (List (BitVec 8))), a.length = 32 → R.length = S.length → bth a R S = (x, y) → x.length = 32 ∧ y.length = 32 := by
    intro a R ha hl e
    have h1 := bk_len ha R S S.length
    rw [bk_all a hl, e] at h1
    exact h1
  unfold bres at hb
  cases c with
  | false =>
    simp only [Bool.false_eq_true, if_false] at hb
    by_cases hl : P.length = S.length
    · rw [if_pos hl] at hb
      exact key _ _ hold hl (Option.some.inj hb)
    · rw [if_neg hl] at hb
      cases hb
  | true =>
    simp only [if_true] at hb
    cases P with
    | nil => cases hb
    | cons p r =>
      by_cases hl : r.length = S.length
      · simp only [if_pos hl] at hb
        exact key _ _ (hP p (by simp)) hl (Option.some.inj hb)
      · simp only [if_neg hl] at hb
        cases hb
theorem fk_lead_ok {leaf : List (BitVec 8)} (hlf : leaf.length = 32) {i n : Nat} (hi : i < n) (hn : n ≤ 1152921504606846976) {P : List (List (BitVec 8))} {v : Value} {w : World} (hv : (Fk.hc P).f v w) (hP : P.length ≤ 100000) (hK : Tab w) (hl : P.length = (sds i n).length) {y : List (BitVec 8)} (ey : Box (ldt leaf P (sds i n) = y)) :
    Calls Tryd.prog 33 #[.agg ((leaf).map V).toArray, .int .i64 (i : Int), .int .i64 (n : Int), v] w fun e w' => ∃ u, e = .returned u ∧ (Fk.eq (.tuple #[.agg ((y).map V).toArray, .int .i64 0])).f u w' ∧ Below w.heap.size w w' := by
  exact lead_ok hlf hi hn hv hP hK hl ey
theorem fk_in_any {leaf : List (BitVec 8)} (hlf : leaf.length = 32) {rt : List (BitVec 8)} (hrt : rt.length = 32) {i n : Nat} (hi : i < n) (hn : n ≤ 1152921504606846976) {P : List (List (BitVec 8))} {v : Value} {w : World} (hv : (Fk.hc P).f v w) (hP : P.length ≤ 100000) (hK : Tab w) (r : Int) (hr : r = if P.length = (sds i n).length ∧ ldt leaf P (sds i n) = rt then 0 else 22) :
    Calls Tryd.prog 17 #[.agg ((leaf).map V).toArray, .int .i64 (i : Int), .int .i64 (n : Int), v, .agg ((rt).map V).toArray] w fun e w' => ∃ u, e = .returned u ∧ (Fk.eq (.int .i64 r)).f u w' ∧ Below w.heap.size w w' := by
  subst hr
  by_cases hl : P.length = (sds i n).length
  · obtain ⟨y, ey⟩ : ∃ y, Box (ldt leaf P (sds i n) = y) := ⟨_, ⟨rfl⟩⟩
    by_cases hyr : y = rt
    · rw [if_pos ⟨hl, ey.out.trans hyr⟩]
      exact in_ok hlf hrt hi hn hv hP hK hl ey hyr
    · rw [if_neg (fun h => hyr (ey.out.symm.trans h.2))]
      exact in_other hlf hrt hi hn hv hP hK hl ey hyr
  · rw [if_neg (fun h => hl h.1)]
    exact in_bad hlf hrt hi hn hv hP hK hl
theorem fk_both_zero {old : List (BitVec 8)} (hold : old.length = 32) {n : Nat} (_hn : n ≤ 1152921504606846976) {P : List (List (BitVec 8))} {v : Value} {w : World} (hv : (Fk.hc P).f v w) (hP : P.length ≤ 100000) (hK : Tab w) (hl : P.length = 0) :
    Calls Tryd.prog 38 #[.int .i64 0, .int .i64 (n : Int), .agg ((old).map V).toArray, v] w fun e w' => ∃ u, e = .returned u ∧ (Fk.eq (.tuple #[.agg ((old).map V).toArray, .agg ((old).map V).toArray, .int .i64 0])).f u w' ∧ Below w.heap.size w w' := by
  exact pboth_ok0 hold (by omega) (by omega) (fun w => mturns_zero _ w) (c := false) rfl (S := []) rfl (by decide) rfl hv hP hK (by simpa using hl) (xa := old) (xb := old) (by rw [List.eq_nil_of_length_eq_zero hl]; rfl)
theorem fk_both_zbad {old : List (BitVec 8)} (hold : old.length = 32) {n : Nat} (_hn : n ≤ 1152921504606846976) {P : List (List (BitVec 8))} {v : Value} {w : World} (hv : (Fk.hc P).f v w) (hP : P.length ≤ 100000) (hK : Tab w) (hl : P.length ≠ 0) :
    Calls Tryd.prog 38 #[.int .i64 0, .int .i64 (n : Int), .agg ((old).map V).toArray, v] w fun e w' => ∃ u, e = .returned u ∧ (Fk.eq (.tuple #[.agg ((hz).map V).toArray, .agg ((hz).map V).toArray, .int .i64 22])).f u w' ∧ Below w.heap.size w w' := by
  exact pboth_bad0 hold (by omega) (by omega) (fun w => mturns_zero _ w) (c := false) rfl (S := []) rfl (by decide) rfl hv hP hK (by simpa using hl)
theorem fk_both_bad {old : List (BitVec 8)} (hold : old.length = 32) {m n : Nat} (hm1 : 1 ≤ m) (hm2 : m ≤ n) (hn : n ≤ 1152921504606846976) {P : List (List (BitVec 8))} {v : Value} {w : World} (hv : (Fk.hc P).f v w) (hP : P.length ≤ 100000) (hK : Tab w) (hb : bres old P (stp m n true).1 (stp m n true).2 = none) :
    Calls Tryd.prog 38 #[.int .i64 (m : Int), .int .i64 (n : Int), .agg ((old).map V).toArray, v] w fun e w' => ∃ u, e = .returned u ∧ (Fk.eq (.tuple #[.agg ((hz).map V).toArray, .agg ((hz).map V).toArray, .int .i64 22])).f u w' ∧ Below w.heap.size w w' := by
  obtain ⟨k, rfl⟩ : ∃ k, m = k + 1 := ⟨m - 1, by omega⟩
  obtain ⟨c, S, hS⟩ : ∃ c S, stp (k + 1) n true = (c, S) := ⟨_, _, rfl⟩
  rw [hS] at hb
  have ht := fun w : World => mturns_any (m := k + 1) (x := k) (n := n) rfl (by omega) hn w
  have hcc : ((tdm k n).reverse.any fun y => false == y) = c := by rw [List.any_reverse, tdm_own n k (by omega), hS]
  have hLS : (tdm k n).reverse = S.map (!·) := by rw [tdm_stp n k true (by omega), hS]
  have hS60 : S.length ≤ 60 := by have := stp_log n (k + 1) true 60 (by omega); rw [hS] at this; exact this
  cases c
  · refine pboth_bad0 hold (by omega) (by omega) ht hcc hLS hS60 rfl hv hP hK (fun h => ?_)
    unfold bres at hb
    simp only [Bool.false_eq_true, if_false] at hb
    rw [if_pos h] at hb
    cases hb
  · refine pboth_bad1 hold (by omega) (by omega) ht hcc hLS hS60 rfl hv hP hK (fun h => ?_)
    unfold bres at hb
    simp only [if_true] at hb
    cases P with
    | nil => simp at h
    | cons p r =>
      simp only at hb
      rw [if_pos (by simpa using h)] at hb
      cases hb
theorem fk_both_ok {old : List (BitVec 8)} (hold : old.length = 32) {m n : Nat} (hm1 : 1 ≤ m) (hm2 : m ≤ n) (hn : n ≤ 1152921504606846976) {P : List (List (BitVec 8))} {v : Value} {w : World} (hv : (Fk.hc P).f v w) (hP : P.length ≤ 100000) (hK : Tab w) {x y : List (BitVec 8)} (hb : bres old P (stp m n true).1 (stp m n true).2 = some (x, y)) :
    Calls Tryd.prog 38 #[.int .i64 (m : Int), .int .i64 (n : Int), .agg ((old).map V).toArray, v] w fun e w' => ∃ u, e = .returned u ∧ (Fk.eq (.tuple #[.agg ((x).map V).toArray, .agg ((y).map V).toArray, .int .i64 0])).f u w' ∧ Below w.heap.size w w' := by
  obtain ⟨k, rfl⟩ : ∃ k, m = k + 1 := ⟨m - 1, by omega⟩
  obtain ⟨c, S, hS⟩ : ∃ c S, stp (k + 1) n true = (c, S) := ⟨_, _, rfl⟩
  rw [hS] at hb
  have ht := fun w : World => mturns_any (m := k + 1) (x := k) (n := n) rfl (by omega) hn w
  have hcc : ((tdm k n).reverse.any fun y => false == y) = c := by rw [List.any_reverse, tdm_own n k (by omega), hS]
  have hLS : (tdm k n).reverse = S.map (!·) := by rw [tdm_stp n k true (by omega), hS]
  have hS60 : S.length ≤ 60 := by have := stp_log n (k + 1) true 60 (by omega); rw [hS] at this; exact this
  cases c
  · unfold bres at hb
    simp only [Bool.false_eq_true, if_false] at hb
    by_cases h : P.length = S.length
    · rw [if_pos h] at hb
      exact pboth_ok0 hold (by omega) (by omega) ht hcc hLS hS60 rfl hv hP hK h (Option.some.inj hb)
    · rw [if_neg h] at hb
      cases hb
  · unfold bres at hb
    simp only [if_true] at hb
    cases P with
    | nil => cases hb
    | cons p r =>
      simp only at hb
      by_cases h : r.length = S.length
      · rw [if_pos h] at hb
        exact pboth_ok1 hold (by omega) (by omega) ht hcc hLS hS60 rfl hv hP hK (by simpa using h) (Option.some.inj hb)
      · rw [if_neg h] at hb
        cases hb
theorem fk_on_zero {old : List (BitVec 8)} (hold : old.length = 32) {rt : List (BitVec 8)} (hrt : rt.length = 32) {n : Nat} (hn : n ≤ 1152921504606846976) {P : List (List (BitVec 8))} {v : Value} {w : World} (hv : (Fk.hc P).f v w) (hP : P.length ≤ 100000) (hK : Tab w) (r : Int) (hr : r = if old = shaOf [] ∧ P.length = 0 ∧ (0 < n ∨ rt = old) then 0 else 22) :
    Calls Tryd.prog 21 #[.int .i64 0, .int .i64 (n : Int), .agg ((old).map V).toArray, .agg ((rt).map V).toArray, v] w fun e w' => ∃ u, e = .returned u ∧ (Fk.eq (.int .i64 r)).f u w' ∧ Below w.heap.size w w' := by
  subst hr
  by_cases hl : P.length = 0
  · have hb := fun (w' : World) (h1 : (Fk.hc P).f v w') (h2 : Tab w') => fk_both_zero hold hn h1 hP h2 hl
    refine on_z hold hrt ?_ hv hP hK hb
    by_cases ho : old = shaOf []
    · by_cases h0 : 0 < n
      · rw [if_pos ⟨ho, hl, .inl h0⟩, if_pos ho, if_pos h0]
      · by_cases hro : rt = old
        · rw [if_pos ⟨ho, hl, .inr hro⟩, if_pos ho, if_neg h0, if_pos hro]
        · rw [if_neg (fun h => h.2.2.elim h0 hro), if_pos ho, if_neg h0, if_neg hro]
    · rw [if_neg (fun h => ho h.1), if_neg ho]
  · rw [if_neg (fun h => hl h.2.1)]
    exact on_err hold hrt (by decide) hv hP hK (fun w' h1 h2 => fk_both_zbad hold hn h1 hP h2 hl)
theorem fk_on_any {old : List (BitVec 8)} (hold : old.length = 32) {rt : List (BitVec 8)} (hrt : rt.length = 32) {m n : Nat} (hm1 : 1 ≤ m) (hm2 : m ≤ n) (hn : n ≤ 1152921504606846976) {P : List (List (BitVec 8))} {v : Value} {w : World} (hv : (Fk.hc P).f v w) (hP : P.length ≤ 100000) (hK : Tab w) (r : Int) (hr : r = if bres old P (stp m n true).1 (stp m n true).2 = some (old, rt) then 0 else 22) :
    Calls Tryd.prog 21 #[.int .i64 (m : Int), .int .i64 (n : Int), .agg ((old).map V).toArray, .agg ((rt).map V).toArray, v] w fun e w' => ∃ u, e = .returned u ∧ (Fk.eq (.int .i64 r)).f u w' ∧ Below w.heap.size w w' := by
  subst hr
  cases hb : bres old P (stp m n true).1 (stp m n true).2 with
  | none =>
    rw [if_neg (by simp)]
    exact on_err hold hrt (by decide) hv hP hK (fun w' h1 h2 => fk_both_bad hold hm1 hm2 hn h1 hP h2 hb)
  | some xy =>
    obtain ⟨x, y⟩ := xy
    obtain ⟨hx, hy⟩ := bres_len hold (fun p hp => hc_len hv p hp) hb
    refine on_b hold hrt hm1 hx hy ?_ hv hP hK (fun (w' : World) (h1 : (Fk.hc P).f v w') (h2 : Tab w') => fk_both_ok hold hm1 hm2 hn h1 hP h2 hb)
    by_cases hxo : x = old
    · by_cases hyr : y = rt
      · rw [if_pos (by rw [hxo, hyr]), if_pos ⟨hxo, hyr⟩]
      · rw [if_neg (fun h => hyr (by have := Option.some.inj h; exact (Prod.mk.inj this).2)), if_neg (fun h => hyr h.2)]
    · rw [if_neg (fun h => hxo (by have := Option.some.inj h; exact (Prod.mk.inj this).1)), if_neg (fun h => hxo h.1)]
end Go.Proofs.YtfmeeimhfdnjpaaDoor
