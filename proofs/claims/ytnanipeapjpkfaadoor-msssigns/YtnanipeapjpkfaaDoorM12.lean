/- Verify. -/
import Derived.Test.YtnanipeapjpkfaaDoorM9
import Derived.Test.YtnanipeapjpkfaaDoorM11
namespace Go.Proofs.YtnanipeapjpkfaaDoor
set_option maxRecDepth 100000
open Go.RowKit
theorem verify_range (kind height sk si : Int) (hc : kind < 1 ∨ 2 < kind ∨ height < 0 ∨ 8 < height) {S P : List (List (BitVec 8))} {sA pA : Option Addr} {sC pC : Nat} {pb : List (BitVec 8)} (_hpb : pb.length = 32) (mv : Value) (w : World) :
    Calls Tryd.prog 21 #[.agg ((pb).map V).toArray, .int .i64 (kind), .int .i64 (height), mv, .agg ([.int .i64 (sk), .int .i64 (si), .slice sA (S).length sC, .slice pA (P).length pC] : List Value).toArray] w fun e w' => e = .returned (.int .i64 11) ∧ Below w.heap.size w w' := by
  go_enter Tryd.func21, Tryd.ntmps21
  refine code_both (fun f w1 => f.tmps.size = 57 ∧ f.defers = [] ∧ f.eval (.tmp 0) = .agg ((pb).map V).toArray ∧ f.eval (.tmp 1) = .int .i64 (kind) ∧ f.eval (.tmp 2) = .int .i64 (height) ∧ f.eval (.tmp 3) = mv ∧ f.eval (.tmp 4) = .agg ([.int .i64 (sk), .int .i64 (si), .slice sA (S).length sC, .slice pA (P).length pC] : List Value).toArray ∧ Below w.heap.size w (w1)) ⟨rfl, rfl, rfl, rfl, rfl, rfl, rfl, Below.refl _ _⟩ ?_
  rintro f0 w0 ⟨sz, df, x0, x1, x2, x3, x4, bl⟩
  have bl0 := bl
  refine wp_seq ?_
  -- R0
  refine wp_region_seq [] (by kernel_rfl) (by kernel_rfl) (by rw [sz]; kernel_rfl) (by kernel_rfl) trivial ?_
  intro f1 w1 A hb
  replace bl0 := bl
  replace x0 := (A.old 0 rfl).trans x0
  replace x1 := (A.old 1 rfl).trans x1
  replace x2 := (A.old 2 rfl).trans x2
  replace x3 := (A.old 3 rfl).trans x3
  replace x4 := (A.old 4 rfl).trans x4
  replace bl := (bl.trans (Below.mono hb bl.size))
  replace sz := A.size.trans sz
  replace df := A.defs.trans df
  clear A hb
  refine wl_one (.nw w1.heap.size 23 ((pb).map V)) rfl 5 rfl (by rw [sz]; decide) (st_box 23 (.tmp 0) rfl _ _ (by rw [show _ = _ from x0]; kernel_rfl) (Nat.le_refl _)) ?_
  intro f2 w2 df2 sz2 old2 new2 hb
  replace bl0 := bl
  replace x0 := (old2 0 rfl).trans x0
  replace x1 := (old2 1 rfl).trans x1
  replace x2 := (old2 2 rfl).trans x2
  replace x3 := (old2 3 rfl).trans x3
  replace x4 := (old2 4 rfl).trans x4
  have x5 : Fk.f (.nw w1.heap.size 23 ((pb).map V)) (f2.eval (.tmp 5)) w2 := new2
  replace bl := (bl.trans (Below.mono hb bl.size))
  replace sz := sz2.trans sz
  replace df := df2.trans df
  clear df2 sz2 old2 new2 hb
  obtain ⟨g5, hg5, e5, m5⟩ := x5
  have x5 := e5
  clear e5
  have hw5 : w.heap.size ≤ g5 := Nat.le_trans bl0.size hg5
  clear x0
  refine wl_one (.nw w2.heap.size 38 ([.int .i64 (sk), .int .i64 (si), .slice sA (S).length sC, .slice pA (P).length pC] : List Value)) rfl 9 rfl (by rw [sz]; decide) (st_box 38 (.tmp 4) rfl _ _ (by rw [show _ = _ from x4]; kernel_rfl) (Nat.le_refl _)) ?_
  intro f3 w3 df2 sz2 old2 new2 hb
  replace bl0 := bl
  replace x1 := (old2 1 rfl).trans x1
  replace x2 := (old2 2 rfl).trans x2
  replace x3 := (old2 3 rfl).trans x3
  replace x4 := (old2 4 rfl).trans x4
  replace x5 := (old2 5 rfl).trans x5
  have x9 : Fk.f (.nw w2.heap.size 38 ([.int .i64 (sk), .int .i64 (si), .slice sA (S).length sC, .slice pA (P).length pC] : List Value)) (f3.eval (.tmp 9)) w3 := new2
  have lt_m5 := Ob.lt m5
  replace m5 := Ob.below m5 hb
  replace bl := (bl.trans (Below.mono hb bl.size))
  replace sz := sz2.trans sz
  replace df := df2.trans df
  clear df2 sz2 old2 new2 hb
  obtain ⟨g9, hg9, e9, m9⟩ := x9
  have x9 := e9
  clear e9
  have nm5_9 : g5 ≠ g9 := Nat.ne_of_lt (Nat.lt_of_lt_of_le lt_m5 hg9)
  have hw9 : w.heap.size ≤ g9 := Nat.le_trans bl0.size hg9
  clear x4
  refine wl_one (.eq (.int .i64 0)) rfl 10 rfl (by rw [sz]; decide) (st_assign (.const (.int .i64 0)) rfl rfl) ?_
  intro f4 w4 df2 sz2 old2 new2 hb
  replace bl0 := bl
  replace x1 := (old2 1 rfl).trans x1
  replace x2 := (old2 2 rfl).trans x2
  replace x3 := (old2 3 rfl).trans x3
  replace x5 := (old2 5 rfl).trans x5
  replace x9 := (old2 9 rfl).trans x9
  have x10 : f4.eval (.tmp 10) = .int .i64 0 := new2
  have lt_m5 := Ob.lt m5
  replace m5 := Ob.below m5 hb
  have lt_m9 := Ob.lt m9
  replace m9 := Ob.below m9 hb
  replace bl := (bl.trans (Below.mono hb bl.size))
  replace sz := sz2.trans sz
  replace df := df2.trans df
  clear df2 sz2 old2 new2 hb
  refine wpList_nil ?_
  show Code.wp _ _ _ _ _
  refine wp_seq ?_
  refine wp_seq ?_
  -- R1
  refine wp_all_seq [.eq (.int .i64 (kind)), .eq (.int .i64 (height)), .eq (.bool false), .eq (.bool true)] (by kernel_rfl) (by kernel_rfl) (by rw [sz]; kernel_rfl) (by kernel_rfl) ⟨fun hw ac u K => ?_, fun hw ac u K => ?_, fun hw ac u K => ?_, fun hw ac u K => ?_, trivial⟩ ?_
  · exact st_move (.tmp 1) rfl ((K.old 1 rfl).trans x1)
  · exact st_move (.tmp 2) rfl ((K.old 2 rfl).trans x2)
  · exact st_call 34 (.func 34) _ _ #[.int .i64 (kind), .int .i64 (height)] rfl rfl (arg2 (K.dep 0 13 rfl) (K.dep 1 14 rfl)) Tryd.enter34 (fk_of (isKey_no kind height hc _))
  · exact st_not (.tmp 15) rfl false (K.dep 2 15 rfl)
  intro f5 w5 A hb
  replace bl0 := bl
  replace x1 := (A.old 1 rfl).trans x1
  replace x2 := (A.old 2 rfl).trans x2
  replace x3 := (A.old 3 rfl).trans x3
  replace x5 := (A.old 5 rfl).trans x5
  replace x9 := (A.old 9 rfl).trans x9
  replace x10 := (A.old 10 rfl).trans x10
  have x16 : f5.eval (.tmp 16) = .bool true := A.has 3 16 rfl
  have lt_m5 := Ob.lt m5
  replace m5 := Ob.below m5 hb
  have lt_m9 := Ob.lt m9
  replace m9 := Ob.below m9 hb
  replace bl := (bl.trans (Below.mono hb bl.size))
  replace sz := A.size.trans sz
  replace df := A.defs.trans df
  clear A hb
  show Code.wp _ _ _ _ _
  refine wp_cond_true x16 ?_
  refine wp_seq ?_
  -- R2
  refine wp_all_seq [.eq (.int .i64 11)] (by kernel_rfl) (by kernel_rfl) (by rw [sz]; kernel_rfl) (by kernel_rfl) ⟨fun hw ac u K => ?_, trivial⟩ ?_
  · exact st_assign (.const (.int .i64 11)) rfl rfl
  intro f6 w6 A hb
  replace bl0 := bl
  replace x1 := (A.old 1 rfl).trans x1
  replace x2 := (A.old 2 rfl).trans x2
  replace x3 := (A.old 3 rfl).trans x3
  replace x5 := (A.old 5 rfl).trans x5
  replace x9 := (A.old 9 rfl).trans x9
  clear x10
  replace x16 := (A.old 16 rfl).trans x16
  have x10 : f6.eval (.tmp 10) = .int .i64 11 := A.has 0 10 rfl
  have lt_m5 := Ob.lt m5
  replace m5 := Ob.below m5 hb
  have lt_m9 := Ob.lt m9
  replace m9 := Ob.below m9 hb
  replace bl := (bl.trans (Below.mono hb bl.size))
  replace sz := A.size.trans sz
  replace df := A.defs.trans df
  clear A hb
  show Code.wp _ _ _ _ _
  refine wp_ret ?_
  repeat (first | with_reducible refine then_ret ?_ | with_reducible refine block_ret ?_)
  exact bodyPost_ret (v := .int .i64 11) (ret_slot rfl f6 _ x10 _ _) df ⟨rfl, bl⟩
theorem verify_bad {kind height : Nat} (h1 : 1 ≤ kind) (h2 : kind ≤ 2) (h3 : height ≤ 8) (sk si : Int) {S P : List (List (BitVec 8))} {sA pA : Option Addr} {sC pC : Nat} {pb : List (BitVec 8)} (_hpb : pb.length = 32) (hb0 : sk ≠ kind ∨ si < 0 ∨ ((2 ^ height : Nat) : Int) ≤ si ∨ P.length ≠ height) (mv : Value) (w : World) (vP : (Fk.hs P).f (.slice pA (P).length pC) w) :
    Calls Tryd.prog 21 #[.agg ((pb).map V).toArray, .int .i64 ((kind : Nat) : Int), .int .i64 ((height : Nat) : Int), mv, .agg ([.int .i64 (sk), .int .i64 (si), .slice sA (S).length sC, .slice pA (P).length pC] : List Value).toArray] w fun e w' => e = .returned (.int .i64 21) ∧ Below w.heap.size w w' := by
  go_enter Tryd.func21, Tryd.ntmps21
  refine code_both (fun f w1 => f.tmps.size = 57 ∧ f.defers = [] ∧ f.eval (.tmp 0) = .agg ((pb).map V).toArray ∧ f.eval (.tmp 1) = .int .i64 ((kind : Nat) : Int) ∧ f.eval (.tmp 2) = .int .i64 ((height : Nat) : Int) ∧ f.eval (.tmp 3) = mv ∧ f.eval (.tmp 4) = .agg ([.int .i64 (sk), .int .i64 (si), .slice sA (S).length sC, .slice pA (P).length pC] : List Value).toArray ∧ Below w.heap.size w (w1)) ⟨rfl, rfl, rfl, rfl, rfl, rfl, rfl, Below.refl _ _⟩ ?_
  rintro f0 w0 ⟨sz, df, x0, x1, x2, x3, x4, bl⟩
  have bl0 := bl
  refine wp_seq ?_
  -- R0
  refine wp_region_seq [] (by kernel_rfl) (by kernel_rfl) (by rw [sz]; kernel_rfl) (by kernel_rfl) trivial ?_
  intro f1 w1 A hb
  replace bl0 := bl
  replace x0 := (A.old 0 rfl).trans x0
  replace x1 := (A.old 1 rfl).trans x1
  replace x2 := (A.old 2 rfl).trans x2
  replace x3 := (A.old 3 rfl).trans x3
  replace x4 := (A.old 4 rfl).trans x4
  replace bl := (bl.trans (Below.mono hb bl.size))
  replace sz := A.size.trans sz
  replace df := A.defs.trans df
  clear A hb
  refine wl_one (.nw w1.heap.size 23 ((pb).map V)) rfl 5 rfl (by rw [sz]; decide) (st_box 23 (.tmp 0) rfl _ _ (by rw [show _ = _ from x0]; kernel_rfl) (Nat.le_refl _)) ?_
  intro f2 w2 df2 sz2 old2 new2 hb
  replace bl0 := bl
  replace x0 := (old2 0 rfl).trans x0
  replace x1 := (old2 1 rfl).trans x1
  replace x2 := (old2 2 rfl).trans x2
  replace x3 := (old2 3 rfl).trans x3
  replace x4 := (old2 4 rfl).trans x4
  have x5 : Fk.f (.nw w1.heap.size 23 ((pb).map V)) (f2.eval (.tmp 5)) w2 := new2
  replace bl := (bl.trans (Below.mono hb bl.size))
  replace sz := sz2.trans sz
  replace df := df2.trans df
  clear df2 sz2 old2 new2 hb
  obtain ⟨g5, hg5, e5, m5⟩ := x5
  have x5 := e5
  clear e5
  have hw5 : w.heap.size ≤ g5 := Nat.le_trans bl0.size hg5
  clear x0
  refine wl_one (.nw w2.heap.size 38 ([.int .i64 (sk), .int .i64 (si), .slice sA (S).length sC, .slice pA (P).length pC] : List Value)) rfl 9 rfl (by rw [sz]; decide) (st_box 38 (.tmp 4) rfl _ _ (by rw [show _ = _ from x4]; kernel_rfl) (Nat.le_refl _)) ?_
  intro f3 w3 df2 sz2 old2 new2 hb
  replace bl0 := bl
  replace x1 := (old2 1 rfl).trans x1
  replace x2 := (old2 2 rfl).trans x2
  replace x3 := (old2 3 rfl).trans x3
  replace x4 := (old2 4 rfl).trans x4
  replace x5 := (old2 5 rfl).trans x5
  have x9 : Fk.f (.nw w2.heap.size 38 ([.int .i64 (sk), .int .i64 (si), .slice sA (S).length sC, .slice pA (P).length pC] : List Value)) (f3.eval (.tmp 9)) w3 := new2
  have lt_m5 := Ob.lt m5
  replace m5 := Ob.below m5 hb
  replace bl := (bl.trans (Below.mono hb bl.size))
  replace sz := sz2.trans sz
  replace df := df2.trans df
  clear df2 sz2 old2 new2 hb
  obtain ⟨g9, hg9, e9, m9⟩ := x9
  have x9 := e9
  clear e9
  have nm5_9 : g5 ≠ g9 := Nat.ne_of_lt (Nat.lt_of_lt_of_le lt_m5 hg9)
  have hw9 : w.heap.size ≤ g9 := Nat.le_trans bl0.size hg9
  clear x4
  refine wl_one (.eq (.int .i64 0)) rfl 10 rfl (by rw [sz]; decide) (st_assign (.const (.int .i64 0)) rfl rfl) ?_
  intro f4 w4 df2 sz2 old2 new2 hb
  replace bl0 := bl
  replace x1 := (old2 1 rfl).trans x1
  replace x2 := (old2 2 rfl).trans x2
  replace x3 := (old2 3 rfl).trans x3
  replace x5 := (old2 5 rfl).trans x5
  replace x9 := (old2 9 rfl).trans x9
  have x10 : f4.eval (.tmp 10) = .int .i64 0 := new2
  have lt_m5 := Ob.lt m5
  replace m5 := Ob.below m5 hb
  have lt_m9 := Ob.lt m9
  replace m9 := Ob.below m9 hb
  replace bl := (bl.trans (Below.mono hb bl.size))
  replace sz := sz2.trans sz
  replace df := df2.trans df
  clear df2 sz2 old2 new2 hb
  refine wpList_nil ?_
  show Code.wp _ _ _ _ _
  refine wp_seq ?_
  refine wp_seq ?_
  -- R1
  refine wp_all_seq [.eq (.int .i64 ((kind : Nat) : Int)), .eq (.int .i64 ((height : Nat) : Int)), .eq (.bool true), .eq (.bool false)] (by kernel_rfl) (by kernel_rfl) (by rw [sz]; kernel_rfl) (by kernel_rfl) ⟨fun hw ac u K => ?_, fun hw ac u K => ?_, fun hw ac u K => ?_, fun hw ac u K => ?_, trivial⟩ ?_
  · exact st_move (.tmp 1) rfl ((K.old 1 rfl).trans x1)
  · exact st_move (.tmp 2) rfl ((K.old 2 rfl).trans x2)
  · exact st_call 34 (.func 34) _ _ #[.int .i64 ((kind : Nat) : Int), .int .i64 ((height : Nat) : Int)] rfl rfl (arg2 (K.dep 0 13 rfl) (K.dep 1 14 rfl)) Tryd.enter34 (fk_of (isKey_yes kind height h1 h2 h3 _))
  · exact st_not (.tmp 15) rfl true (K.dep 2 15 rfl)
  intro f5 w5 A hb
  replace bl0 := bl
  replace x1 := (A.old 1 rfl).trans x1
  replace x2 := (A.old 2 rfl).trans x2
  replace x3 := (A.old 3 rfl).trans x3
  replace x5 := (A.old 5 rfl).trans x5
  replace x9 := (A.old 9 rfl).trans x9
  replace x10 := (A.old 10 rfl).trans x10
  have x16 : f5.eval (.tmp 16) = .bool false := A.has 3 16 rfl
  have lt_m5 := Ob.lt m5
  replace m5 := Ob.below m5 hb
  have lt_m9 := Ob.lt m9
  replace m9 := Ob.below m9 hb
  replace bl := (bl.trans (Below.mono hb bl.size))
  replace sz := A.size.trans sz
  replace df := A.defs.trans df
  clear A hb
  show Code.wp _ _ _ _ _
  refine wp_cond_false x16 ?_
  refine wp_skip ?_
  show Code.wp _ _ _ _ _
  refine wp_seq ?_
  refine wp_seq ?_
  have hc : sk ≠ kind ∨ (sk = kind ∧ si < 0) ∨ (sk = kind ∧ 0 ≤ si ∧ ((2 ^ height : Nat) : Int) ≤ si) ∨ (sk = kind ∧ 0 ≤ si ∧ si < ((2 ^ height : Nat) : Int) ∧ P.length ≠ height) := by omega
  rcases hc with hc | hc | hc | hc
  · skip
    -- R3
    refine wp_all [.eq (.pointer (some ⟨g9, 0, none⟩)), .eq (.int .i64 (sk)), .eq (.int .i64 ((kind : Nat) : Int)), .eq (.bool true), .eq (.bool true), .any, .any, .any, .eq (.bool true), .eq (.bool true), .any, .any, .any, .any, .any, .eq (.bool true), .eq (.bool true), .any, .any, .any, .any, .any, .eq (.bool true)] Tryd.mixed (by kernel_rfl) (by kernel_rfl) (by rw [sz]; kernel_rfl) (by kernel_rfl) ⟨fun hw ac u K => ?_, fun hw ac u K => ?_, fun hw ac u K => ?_, fun hw ac u K => ?_, fun hw ac u K => ?_, fun hw ac u K => ?_, fun hw ac u K => ?_, fun hw ac u K => ?_, fun hw ac u K => ?_, fun hw ac u K => ?_, fun hw ac u K => ?_, fun hw ac u K => ?_, fun hw ac u K => ?_, fun hw ac u K => ?_, fun hw ac u K => ?_, fun hw ac u K => ?_, fun hw ac u K => ?_, fun hw ac u K => ?_, fun hw ac u K => ?_, fun hw ac u K => ?_, fun hw ac u K => ?_, fun hw ac u K => ?_, fun hw ac u K => ?_, trivial⟩ ?_
    · exact st_field 38 0 (.tmp 9) rfl ((K.old 9 rfl).trans x9) (by kernel_rfl)
    · exact st_loadc 3 (.tmp 17) rfl (by kernel_rfl) (K.dep 0 17 rfl) (Ob.cell (Ob.below m9 K.grow) 0 rfl)
    · exact st_move (.tmp 1) rfl ((K.old 1 rfl).trans x1)
    · exact st_neqi 3 (.tmp 18) (.tmp 19) rfl .i64 ((sk)) (((kind : Nat) : Int)) (K.dep 1 18 rfl) (K.dep 2 19 rfl) _ (by rw [eq_comm, decide_eq_true_iff]; exact hc)
    · exact st_move (.tmp 20) rfl (K.dep 3 20 rfl)
    · exact (Bool.false_ne_true hw).elim
    · exact (Bool.false_ne_true hw).elim
    · exact (Bool.false_ne_true hw).elim
    · exact st_pick_t (.tmp 21) (.const (.bool true)) (.tmp 24) rfl (K.dep 4 21 rfl) rfl
    · exact st_move (.tmp 25) rfl (K.dep 8 25 rfl)
    · exact (Bool.false_ne_true hw).elim
    · exact (Bool.false_ne_true hw).elim
    · exact (Bool.false_ne_true hw).elim
    · exact (Bool.false_ne_true hw).elim
    · exact (Bool.false_ne_true hw).elim
    · exact st_pick_t (.tmp 26) (.const (.bool true)) (.tmp 31) rfl (K.dep 9 26 rfl) rfl
    · exact st_move (.tmp 32) rfl (K.dep 15 32 rfl)
    · exact (Bool.false_ne_true hw).elim
    · exact (Bool.false_ne_true hw).elim
    · exact (Bool.false_ne_true hw).elim
    · exact (Bool.false_ne_true hw).elim
    · exact (Bool.false_ne_true hw).elim
    · exact st_pick_t (.tmp 33) (.const (.bool true)) (.tmp 38) rfl (K.dep 16 33 rfl) rfl
    intro f6 w6 A hb
    replace bl0 := bl
    replace x1 := (A.old 1 rfl).trans x1
    replace x2 := (A.old 2 rfl).trans x2
    replace x3 := (A.old 3 rfl).trans x3
    replace x5 := (A.old 5 rfl).trans x5
    replace x9 := (A.old 9 rfl).trans x9
    replace x10 := (A.old 10 rfl).trans x10
    replace x16 := (A.old 16 rfl).trans x16
    have x39 : f6.eval (.tmp 39) = .bool true := A.has 22 39 rfl
    have lt_m5 := Ob.lt m5
    replace m5 := Ob.below m5 hb
    have lt_m9 := Ob.lt m9
    replace m9 := Ob.below m9 hb
    replace bl := (bl.trans (Below.mono hb bl.size))
    replace sz := A.size.trans sz
    replace df := A.defs.trans df
    clear A hb
    show Code.wp _ _ _ _ _
    refine wp_cond_true x39 ?_
    refine wp_seq ?_
    -- R4
    refine wp_all_seq [.eq (.int .i64 21)] (by kernel_rfl) (by kernel_rfl) (by rw [sz]; kernel_rfl) (by kernel_rfl) ⟨fun hw ac u K => ?_, trivial⟩ ?_
    · exact st_assign (.const (.int .i64 21)) rfl rfl
    intro f7 w7 A hb
    replace bl0 := bl
    replace x1 := (A.old 1 rfl).trans x1
    replace x2 := (A.old 2 rfl).trans x2
    replace x3 := (A.old 3 rfl).trans x3
    replace x5 := (A.old 5 rfl).trans x5
    replace x9 := (A.old 9 rfl).trans x9
    clear x10
    replace x16 := (A.old 16 rfl).trans x16
    replace x39 := (A.old 39 rfl).trans x39
    have x10 : f7.eval (.tmp 10) = .int .i64 21 := A.has 0 10 rfl
    have lt_m5 := Ob.lt m5
    replace m5 := Ob.below m5 hb
    have lt_m9 := Ob.lt m9
    replace m9 := Ob.below m9 hb
    replace bl := (bl.trans (Below.mono hb bl.size))
    replace sz := A.size.trans sz
    replace df := A.defs.trans df
    clear A hb
    show Code.wp _ _ _ _ _
    refine wp_ret ?_
    repeat (first | with_reducible refine then_ret ?_ | with_reducible refine block_ret ?_)
    exact bodyPost_ret (v := .int .i64 21) (ret_slot rfl f7 _ x10 _ _) df ⟨rfl, bl⟩
  · skip
    -- R3
    refine wp_all [.eq (.pointer (some ⟨g9, 0, none⟩)), .eq (.int .i64 (sk)), .eq (.int .i64 ((kind : Nat) : Int)), .eq (.bool false), .eq (.bool false), .eq (.pointer (some ⟨g9, 1, none⟩)), .eq (.int .i64 (si)), .eq (.bool true), .eq (.bool true), .eq (.bool true), .any, .any, .any, .any, .any, .eq (.bool true), .eq (.bool true), .any, .any, .any, .any, .any, .eq (.bool true)] Tryd.mixed (by kernel_rfl) (by kernel_rfl) (by rw [sz]; kernel_rfl) (by kernel_rfl) ⟨fun hw ac u K => ?_, fun hw ac u K => ?_, fun hw ac u K => ?_, fun hw ac u K => ?_, fun hw ac u K => ?_, fun hw ac u K => ?_, fun hw ac u K => ?_, fun hw ac u K => ?_, fun hw ac u K => ?_, fun hw ac u K => ?_, fun hw ac u K => ?_, fun hw ac u K => ?_, fun hw ac u K => ?_, fun hw ac u K => ?_, fun hw ac u K => ?_, fun hw ac u K => ?_, fun hw ac u K => ?_, fun hw ac u K => ?_, fun hw ac u K => ?_, fun hw ac u K => ?_, fun hw ac u K => ?_, fun hw ac u K => ?_, fun hw ac u K => ?_, trivial⟩ ?_
    · exact st_field 38 0 (.tmp 9) rfl ((K.old 9 rfl).trans x9) (by kernel_rfl)
    · exact st_loadc 3 (.tmp 17) rfl (by kernel_rfl) (K.dep 0 17 rfl) (Ob.cell (Ob.below m9 K.grow) 0 rfl)
    · exact st_move (.tmp 1) rfl ((K.old 1 rfl).trans x1)
    · exact st_neqi 3 (.tmp 18) (.tmp 19) rfl .i64 ((sk)) (((kind : Nat) : Int)) (K.dep 1 18 rfl) (K.dep 2 19 rfl) _ (by rw [eq_comm, decide_eq_false_iff_not]; omega)
    · exact st_move (.tmp 20) rfl (K.dep 3 20 rfl)
    · exact st_field 38 1 (.tmp 9) rfl ((K.old 9 rfl).trans x9) (by kernel_rfl)
    · exact st_loadc 3 (.tmp 22) rfl (by kernel_rfl) (K.dep 5 22 rfl) (Ob.cell (Ob.below m9 K.grow) 1 rfl)
    · exact st_lss 3 (.tmp 23) (.const (.int .i64 0)) rfl .i64 ((si)) (0) (K.dep 6 23 rfl) rfl _ (by rw [eq_comm, decide_eq_true_iff]; omega)
    · exact st_pick_f' (.tmp 21) (.const (.bool true)) (.tmp 24) rfl (K.dep 4 21 rfl) (K.dep 7 24 rfl)
    · exact st_move (.tmp 25) rfl (K.dep 8 25 rfl)
    · exact (Bool.false_ne_true hw).elim
    · exact (Bool.false_ne_true hw).elim
    · exact (Bool.false_ne_true hw).elim
    · exact (Bool.false_ne_true hw).elim
    · exact (Bool.false_ne_true hw).elim
    · exact st_pick_t (.tmp 26) (.const (.bool true)) (.tmp 31) rfl (K.dep 9 26 rfl) rfl
    · exact st_move (.tmp 32) rfl (K.dep 15 32 rfl)
    · exact (Bool.false_ne_true hw).elim
    · exact (Bool.false_ne_true hw).elim
    · exact (Bool.false_ne_true hw).elim
    · exact (Bool.false_ne_true hw).elim
    · exact (Bool.false_ne_true hw).elim
    · exact st_pick_t (.tmp 33) (.const (.bool true)) (.tmp 38) rfl (K.dep 16 33 rfl) rfl
    intro f6 w6 A hb
    replace bl0 := bl
    replace x1 := (A.old 1 rfl).trans x1
    replace x2 := (A.old 2 rfl).trans x2
    replace x3 := (A.old 3 rfl).trans x3
    replace x5 := (A.old 5 rfl).trans x5
    replace x9 := (A.old 9 rfl).trans x9
    replace x10 := (A.old 10 rfl).trans x10
    replace x16 := (A.old 16 rfl).trans x16
    have x39 : f6.eval (.tmp 39) = .bool true := A.has 22 39 rfl
    have lt_m5 := Ob.lt m5
    replace m5 := Ob.below m5 hb
    have lt_m9 := Ob.lt m9
    replace m9 := Ob.below m9 hb
    replace bl := (bl.trans (Below.mono hb bl.size))
    replace sz := A.size.trans sz
    replace df := A.defs.trans df
    clear A hb
    show Code.wp _ _ _ _ _
    refine wp_cond_true x39 ?_
    refine wp_seq ?_
    -- R4
    refine wp_all_seq [.eq (.int .i64 21)] (by kernel_rfl) (by kernel_rfl) (by rw [sz]; kernel_rfl) (by kernel_rfl) ⟨fun hw ac u K => ?_, trivial⟩ ?_
    · exact st_assign (.const (.int .i64 21)) rfl rfl
    intro f7 w7 A hb
    replace bl0 := bl
    replace x1 := (A.old 1 rfl).trans x1
    replace x2 := (A.old 2 rfl).trans x2
    replace x3 := (A.old 3 rfl).trans x3
    replace x5 := (A.old 5 rfl).trans x5
    replace x9 := (A.old 9 rfl).trans x9
    clear x10
    replace x16 := (A.old 16 rfl).trans x16
    replace x39 := (A.old 39 rfl).trans x39
    have x10 : f7.eval (.tmp 10) = .int .i64 21 := A.has 0 10 rfl
    have lt_m5 := Ob.lt m5
    replace m5 := Ob.below m5 hb
    have lt_m9 := Ob.lt m9
    replace m9 := Ob.below m9 hb
    replace bl := (bl.trans (Below.mono hb bl.size))
    replace sz := A.size.trans sz
    replace df := A.defs.trans df
    clear A hb
    show Code.wp _ _ _ _ _
    refine wp_ret ?_
    repeat (first | with_reducible refine then_ret ?_ | with_reducible refine block_ret ?_)
    exact bodyPost_ret (v := .int .i64 21) (ret_slot rfl f7 _ x10 _ _) df ⟨rfl, bl⟩
  · skip
    -- R3
    refine wp_all [.eq (.pointer (some ⟨g9, 0, none⟩)), .eq (.int .i64 (sk)), .eq (.int .i64 ((kind : Nat) : Int)), .eq (.bool false), .eq (.bool false), .eq (.pointer (some ⟨g9, 1, none⟩)), .eq (.int .i64 (si)), .eq (.bool false), .eq (.bool false), .eq (.bool false), .eq (.pointer (some ⟨g9, 1, none⟩)), .eq (.int .i64 (si)), .eq (.int .i64 ((height : Nat) : Int)), .eq (.int .i64 ((2 ^ height : Nat) : Int)), .eq (.bool true), .eq (.bool true), .eq (.bool true), .any, .any, .any, .any, .any, .eq (.bool true)] Tryd.mixed (by kernel_rfl) (by kernel_rfl) (by rw [sz]; kernel_rfl) (by kernel_rfl) ⟨fun hw ac u K => ?_, fun hw ac u K => ?_, fun hw ac u K => ?_, fun hw ac u K => ?_, fun hw ac u K => ?_, fun hw ac u K => ?_, fun hw ac u K => ?_, fun hw ac u K => ?_, fun hw ac u K => ?_, fun hw ac u K => ?_, fun hw ac u K => ?_, fun hw ac u K => ?_, fun hw ac u K => ?_, fun hw ac u K => ?_, fun hw ac u K => ?_, fun hw ac u K => ?_, fun hw ac u K => ?_, fun hw ac u K => ?_, fun hw ac u K => ?_, fun hw ac u K => ?_, fun hw ac u K => ?_, fun hw ac u K => ?_, fun hw ac u K => ?_, trivial⟩ ?_
    · exact st_field 38 0 (.tmp 9) rfl ((K.old 9 rfl).trans x9) (by kernel_rfl)
    · exact st_loadc 3 (.tmp 17) rfl (by kernel_rfl) (K.dep 0 17 rfl) (Ob.cell (Ob.below m9 K.grow) 0 rfl)
    · exact st_move (.tmp 1) rfl ((K.old 1 rfl).trans x1)
    · exact st_neqi 3 (.tmp 18) (.tmp 19) rfl .i64 ((sk)) (((kind : Nat) : Int)) (K.dep 1 18 rfl) (K.dep 2 19 rfl) _ (by rw [eq_comm, decide_eq_false_iff_not]; omega)
    · exact st_move (.tmp 20) rfl (K.dep 3 20 rfl)
    · exact st_field 38 1 (.tmp 9) rfl ((K.old 9 rfl).trans x9) (by kernel_rfl)
    · exact st_loadc 3 (.tmp 22) rfl (by kernel_rfl) (K.dep 5 22 rfl) (Ob.cell (Ob.below m9 K.grow) 1 rfl)
    · exact st_lss 3 (.tmp 23) (.const (.int .i64 0)) rfl .i64 ((si)) (0) (K.dep 6 23 rfl) rfl _ (by rw [eq_comm, decide_eq_false_iff_not]; omega)
    · exact st_pick_f' (.tmp 21) (.const (.bool true)) (.tmp 24) rfl (K.dep 4 21 rfl) (K.dep 7 24 rfl)
    · exact st_move (.tmp 25) rfl (K.dep 8 25 rfl)
    · exact st_field 38 1 (.tmp 9) rfl ((K.old 9 rfl).trans x9) (by kernel_rfl)
    · exact st_loadc 3 (.tmp 27) rfl (by kernel_rfl) (K.dep 10 27 rfl) (Ob.cell (Ob.below m9 K.grow) 1 rfl)
    · exact st_move (.tmp 2) rfl ((K.old 2 rfl).trans x2)
    · exact st_call 35 (.func 35) _ _ #[.int .i64 ((height : Nat) : Int)] rfl rfl (one_arg (K.dep 12 29 rfl)) Tryd.enter35 (fk_of (indexes_any height h3 _))
    · exact st_geq 3 (.tmp 28) (.tmp 30) rfl .i64 ((si)) (((2 ^ height : Nat) : Int)) (K.dep 11 28 rfl) (K.dep 13 30 rfl) _ (by rw [eq_comm, decide_eq_true_iff]; omega)
    · exact st_pick_f' (.tmp 26) (.const (.bool true)) (.tmp 31) rfl (K.dep 9 26 rfl) (K.dep 14 31 rfl)
    · exact st_move (.tmp 32) rfl (K.dep 15 32 rfl)
    · exact (Bool.false_ne_true hw).elim
    · exact (Bool.false_ne_true hw).elim
    · exact (Bool.false_ne_true hw).elim
    · exact (Bool.false_ne_true hw).elim
    · exact (Bool.false_ne_true hw).elim
    · exact st_pick_t (.tmp 33) (.const (.bool true)) (.tmp 38) rfl (K.dep 16 33 rfl) rfl
    intro f6 w6 A hb
    replace bl0 := bl
    replace x1 := (A.old 1 rfl).trans x1
    replace x2 := (A.old 2 rfl).trans x2
    replace x3 := (A.old 3 rfl).trans x3
    replace x5 := (A.old 5 rfl).trans x5
    replace x9 := (A.old 9 rfl).trans x9
    replace x10 := (A.old 10 rfl).trans x10
    replace x16 := (A.old 16 rfl).trans x16
    have x39 : f6.eval (.tmp 39) = .bool true := A.has 22 39 rfl
    have lt_m5 := Ob.lt m5
    replace m5 := Ob.below m5 hb
    have lt_m9 := Ob.lt m9
    replace m9 := Ob.below m9 hb
    replace bl := (bl.trans (Below.mono hb bl.size))
    replace sz := A.size.trans sz
    replace df := A.defs.trans df
    clear A hb
    show Code.wp _ _ _ _ _
    refine wp_cond_true x39 ?_
    refine wp_seq ?_
    -- R4
    refine wp_all_seq [.eq (.int .i64 21)] (by kernel_rfl) (by kernel_rfl) (by rw [sz]; kernel_rfl) (by kernel_rfl) ⟨fun hw ac u K => ?_, trivial⟩ ?_
    · exact st_assign (.const (.int .i64 21)) rfl rfl
    intro f7 w7 A hb
    replace bl0 := bl
    replace x1 := (A.old 1 rfl).trans x1
    replace x2 := (A.old 2 rfl).trans x2
    replace x3 := (A.old 3 rfl).trans x3
    replace x5 := (A.old 5 rfl).trans x5
    replace x9 := (A.old 9 rfl).trans x9
    clear x10
    replace x16 := (A.old 16 rfl).trans x16
    replace x39 := (A.old 39 rfl).trans x39
    have x10 : f7.eval (.tmp 10) = .int .i64 21 := A.has 0 10 rfl
    have lt_m5 := Ob.lt m5
    replace m5 := Ob.below m5 hb
    have lt_m9 := Ob.lt m9
    replace m9 := Ob.below m9 hb
    replace bl := (bl.trans (Below.mono hb bl.size))
    replace sz := A.size.trans sz
    replace df := A.defs.trans df
    clear A hb
    show Code.wp _ _ _ _ _
    refine wp_ret ?_
    repeat (first | with_reducible refine then_ret ?_ | with_reducible refine block_ret ?_)
    exact bodyPost_ret (v := .int .i64 21) (ret_slot rfl f7 _ x10 _ _) df ⟨rfl, bl⟩
  -- R3
  refine wp_all [.eq (.pointer (some ⟨g9, 0, none⟩)), .eq (.int .i64 (sk)), .eq (.int .i64 ((kind : Nat) : Int)), .eq (.bool false), .eq (.bool false), .eq (.pointer (some ⟨g9, 1, none⟩)), .eq (.int .i64 (si)), .eq (.bool false), .eq (.bool false), .eq (.bool false), .eq (.pointer (some ⟨g9, 1, none⟩)), .eq (.int .i64 (si)), .eq (.int .i64 ((height : Nat) : Int)), .eq (.int .i64 ((2 ^ height : Nat) : Int)), .eq (.bool false), .eq (.bool false), .eq (.bool false), .eq (.pointer (some ⟨g9, 3, none⟩)), .eq (.slice pA (P).length pC), .eq (.int .i64 (((P).length : Nat) : Int)), .eq (.int .i64 ((height : Nat) : Int)), .eq (.bool true), .eq (.bool true)] Tryd.mixed (by kernel_rfl) (by kernel_rfl) (by rw [sz]; kernel_rfl) (by kernel_rfl) ⟨fun hw ac u K => ?_, fun hw ac u K => ?_, fun hw ac u K => ?_, fun hw ac u K => ?_, fun hw ac u K => ?_, fun hw ac u K => ?_, fun hw ac u K => ?_, fun hw ac u K => ?_, fun hw ac u K => ?_, fun hw ac u K => ?_, fun hw ac u K => ?_, fun hw ac u K => ?_, fun hw ac u K => ?_, fun hw ac u K => ?_, fun hw ac u K => ?_, fun hw ac u K => ?_, fun hw ac u K => ?_, fun hw ac u K => ?_, fun hw ac u K => ?_, fun hw ac u K => ?_, fun hw ac u K => ?_, fun hw ac u K => ?_, fun hw ac u K => ?_, trivial⟩ ?_
  · exact st_field 38 0 (.tmp 9) rfl ((K.old 9 rfl).trans x9) (by kernel_rfl)
  · exact st_loadc 3 (.tmp 17) rfl (by kernel_rfl) (K.dep 0 17 rfl) (Ob.cell (Ob.below m9 K.grow) 0 rfl)
  · exact st_move (.tmp 1) rfl ((K.old 1 rfl).trans x1)
  · exact st_neqi 3 (.tmp 18) (.tmp 19) rfl .i64 ((sk)) (((kind : Nat) : Int)) (K.dep 1 18 rfl) (K.dep 2 19 rfl) _ (by rw [eq_comm, decide_eq_false_iff_not]; omega)
  · exact st_move (.tmp 20) rfl (K.dep 3 20 rfl)
  · exact st_field 38 1 (.tmp 9) rfl ((K.old 9 rfl).trans x9) (by kernel_rfl)
  · exact st_loadc 3 (.tmp 22) rfl (by kernel_rfl) (K.dep 5 22 rfl) (Ob.cell (Ob.below m9 K.grow) 1 rfl)
  · exact st_lss 3 (.tmp 23) (.const (.int .i64 0)) rfl .i64 ((si)) (0) (K.dep 6 23 rfl) rfl _ (by rw [eq_comm, decide_eq_false_iff_not]; omega)
  · exact st_pick_f' (.tmp 21) (.const (.bool true)) (.tmp 24) rfl (K.dep 4 21 rfl) (K.dep 7 24 rfl)
  · exact st_move (.tmp 25) rfl (K.dep 8 25 rfl)
  · exact st_field 38 1 (.tmp 9) rfl ((K.old 9 rfl).trans x9) (by kernel_rfl)
  · exact st_loadc 3 (.tmp 27) rfl (by kernel_rfl) (K.dep 10 27 rfl) (Ob.cell (Ob.below m9 K.grow) 1 rfl)
  · exact st_move (.tmp 2) rfl ((K.old 2 rfl).trans x2)
  · exact st_call 35 (.func 35) _ _ #[.int .i64 ((height : Nat) : Int)] rfl rfl (one_arg (K.dep 12 29 rfl)) Tryd.enter35 (fk_of (indexes_any height h3 _))
  · exact st_geq 3 (.tmp 28) (.tmp 30) rfl .i64 ((si)) (((2 ^ height : Nat) : Int)) (K.dep 11 28 rfl) (K.dep 13 30 rfl) _ (by rw [eq_comm, decide_eq_false_iff_not]; omega)
  · exact st_pick_f' (.tmp 26) (.const (.bool true)) (.tmp 31) rfl (K.dep 9 26 rfl) (K.dep 14 31 rfl)
  · exact st_move (.tmp 32) rfl (K.dep 15 32 rfl)
  · exact st_field 38 3 (.tmp 9) rfl ((K.old 9 rfl).trans x9) (by kernel_rfl)
  · exact st_loadc 32 (.tmp 34) rfl (by kernel_rfl) (K.dep 17 34 rfl) (Ob.cell (Ob.below m9 K.grow) 3 rfl)
  · exact st_lenh (.tmp 35) rfl (fk_val (K.dep 18 35 rfl) (Fk.mono _ _ _ _ vP (bl.trans (Below.mono K.grow bl.size))))
  · exact st_move (.tmp 2) rfl ((K.old 2 rfl).trans x2)
  · exact st_neqi 3 (.tmp 36) (.tmp 37) rfl .i64 ((((P).length : Nat) : Int)) (((height : Nat) : Int)) (K.dep 19 36 rfl) (K.dep 20 37 rfl) _ (by rw [eq_comm, decide_eq_true_iff]; omega)
  · exact st_pick_f' (.tmp 33) (.const (.bool true)) (.tmp 38) rfl (K.dep 16 33 rfl) (K.dep 21 38 rfl)
  intro f6 w6 A hb
  replace bl0 := bl
  replace x1 := (A.old 1 rfl).trans x1
  replace x2 := (A.old 2 rfl).trans x2
  replace x3 := (A.old 3 rfl).trans x3
  replace x5 := (A.old 5 rfl).trans x5
  replace x9 := (A.old 9 rfl).trans x9
  replace x10 := (A.old 10 rfl).trans x10
  replace x16 := (A.old 16 rfl).trans x16
  have x39 : f6.eval (.tmp 39) = .bool true := A.has 22 39 rfl
  have lt_m5 := Ob.lt m5
  replace m5 := Ob.below m5 hb
  have lt_m9 := Ob.lt m9
  replace m9 := Ob.below m9 hb
  replace bl := (bl.trans (Below.mono hb bl.size))
  replace sz := A.size.trans sz
  replace df := A.defs.trans df
  clear A hb
  show Code.wp _ _ _ _ _
  refine wp_cond_true x39 ?_
  refine wp_seq ?_
  -- R4
  refine wp_all_seq [.eq (.int .i64 21)] (by kernel_rfl) (by kernel_rfl) (by rw [sz]; kernel_rfl) (by kernel_rfl) ⟨fun hw ac u K => ?_, trivial⟩ ?_
  · exact st_assign (.const (.int .i64 21)) rfl rfl
  intro f7 w7 A hb
  replace bl0 := bl
  replace x1 := (A.old 1 rfl).trans x1
  replace x2 := (A.old 2 rfl).trans x2
  replace x3 := (A.old 3 rfl).trans x3
  replace x5 := (A.old 5 rfl).trans x5
  replace x9 := (A.old 9 rfl).trans x9
  clear x10
  replace x16 := (A.old 16 rfl).trans x16
  replace x39 := (A.old 39 rfl).trans x39
  have x10 : f7.eval (.tmp 10) = .int .i64 21 := A.has 0 10 rfl
  have lt_m5 := Ob.lt m5
  replace m5 := Ob.below m5 hb
  have lt_m9 := Ob.lt m9
  replace m9 := Ob.below m9 hb
  replace bl := (bl.trans (Below.mono hb bl.size))
  replace sz := A.size.trans sz
  replace df := A.defs.trans df
  clear A hb
  show Code.wp _ _ _ _ _
  refine wp_ret ?_
  repeat (first | with_reducible refine then_ret ?_ | with_reducible refine block_ret ?_)
  exact bodyPost_ret (v := .int .i64 21) (ret_slot rfl f7 _ x10 _ _) df ⟨rfl, bl⟩
theorem verify_parts {kind height : Nat} (h1 : 1 ≤ kind) (h2 : kind ≤ 2) (h3 : height ≤ 8) (i : Nat) (hi : i < 2 ^ height) {S P : List (List (BitVec 8))} {sA pA : Option Addr} {sC pC : Nat} {pb : List (BitVec 8)} (_hpb : pb.length = 32) (hP : P.length = height) (w : World) (mv : Value) {msg : List (BitVec 8)} (hml : msg.length ≤ 900000) (vm : (Fk.sl msg).f mv w) (hK : Tab w) (vS : (Fk.hs S).f (.slice sA (S).length sC) w) (vP : (Fk.hs P).f (.slice pA (P).length pC) w) {h : List (BitVec 8)} (eh : Box (ms msg = h)) (hl : S.length ≠ npt kind) :
    Calls Tryd.prog 21 #[.agg ((pb).map V).toArray, .int .i64 ((kind : Nat) : Int), .int .i64 ((height : Nat) : Int), mv, .agg ([.int .i64 ((kind : Nat) : Int), .int .i64 ((i : Nat) : Int), .slice sA (S).length sC, .slice pA (P).length pC] : List Value).toArray] w fun e w' => e = .returned (.int .i64 21) ∧ Below w.heap.size w w' := by
  have hh : h.length = 32 := by rw [← eh.out]; exact ms_len _
  go_enter Tryd.func21, Tryd.ntmps21
  refine code_both (fun f w1 => f.tmps.size = 57 ∧ f.defers = [] ∧ f.eval (.tmp 0) = .agg ((pb).map V).toArray ∧ f.eval (.tmp 1) = .int .i64 ((kind : Nat) : Int) ∧ f.eval (.tmp 2) = .int .i64 ((height : Nat) : Int) ∧ f.eval (.tmp 3) = mv ∧ f.eval (.tmp 4) = .agg ([.int .i64 ((kind : Nat) : Int), .int .i64 ((i : Nat) : Int), .slice sA (S).length sC, .slice pA (P).length pC] : List Value).toArray ∧ Below w.heap.size w (w1)) ⟨rfl, rfl, rfl, rfl, rfl, rfl, rfl, Below.refl _ _⟩ ?_
  rintro f0 w0 ⟨sz, df, x0, x1, x2, x3, x4, bl⟩
  have bl0 := bl
  refine wp_seq ?_
  -- R0
  refine wp_region_seq [] (by kernel_rfl) (by kernel_rfl) (by rw [sz]; kernel_rfl) (by kernel_rfl) trivial ?_
  intro f1 w1 A hb
  replace bl0 := bl
  replace x0 := (A.old 0 rfl).trans x0
  replace x1 := (A.old 1 rfl).trans x1
  replace x2 := (A.old 2 rfl).trans x2
  replace x3 := (A.old 3 rfl).trans x3
  replace x4 := (A.old 4 rfl).trans x4
  replace bl := (bl.trans (Below.mono hb bl.size))
  replace sz := A.size.trans sz
  replace df := A.defs.trans df
  clear A hb
  refine wl_one (.nw w1.heap.size 23 ((pb).map V)) rfl 5 rfl (by rw [sz]; decide) (st_box 23 (.tmp 0) rfl _ _ (by rw [show _ = _ from x0]; kernel_rfl) (Nat.le_refl _)) ?_
  intro f2 w2 df2 sz2 old2 new2 hb
  replace bl0 := bl
  replace x0 := (old2 0 rfl).trans x0
  replace x1 := (old2 1 rfl).trans x1
  replace x2 := (old2 2 rfl).trans x2
  replace x3 := (old2 3 rfl).trans x3
  replace x4 := (old2 4 rfl).trans x4
  have x5 : Fk.f (.nw w1.heap.size 23 ((pb).map V)) (f2.eval (.tmp 5)) w2 := new2
  replace bl := (bl.trans (Below.mono hb bl.size))
  replace sz := sz2.trans sz
  replace df := df2.trans df
  clear df2 sz2 old2 new2 hb
  obtain ⟨g5, hg5, e5, m5⟩ := x5
  have x5 := e5
  clear e5
  have hw5 : w.heap.size ≤ g5 := Nat.le_trans bl0.size hg5
  clear x0
  refine wl_one (.nw w2.heap.size 38 ([.int .i64 ((kind : Nat) : Int), .int .i64 ((i : Nat) : Int), .slice sA (S).length sC, .slice pA (P).length pC] : List Value)) rfl 9 rfl (by rw [sz]; decide) (st_box 38 (.tmp 4) rfl _ _ (by rw [show _ = _ from x4]; kernel_rfl) (Nat.le_refl _)) ?_
  intro f3 w3 df2 sz2 old2 new2 hb
  replace bl0 := bl
  replace x1 := (old2 1 rfl).trans x1
  replace x2 := (old2 2 rfl).trans x2
  replace x3 := (old2 3 rfl).trans x3
  replace x4 := (old2 4 rfl).trans x4
  replace x5 := (old2 5 rfl).trans x5
  have x9 : Fk.f (.nw w2.heap.size 38 ([.int .i64 ((kind : Nat) : Int), .int .i64 ((i : Nat) : Int), .slice sA (S).length sC, .slice pA (P).length pC] : List Value)) (f3.eval (.tmp 9)) w3 := new2
  have lt_m5 := Ob.lt m5
  replace m5 := Ob.below m5 hb
  replace bl := (bl.trans (Below.mono hb bl.size))
  replace sz := sz2.trans sz
  replace df := df2.trans df
  clear df2 sz2 old2 new2 hb
  obtain ⟨g9, hg9, e9, m9⟩ := x9
  have x9 := e9
  clear e9
  have nm5_9 : g5 ≠ g9 := Nat.ne_of_lt (Nat.lt_of_lt_of_le lt_m5 hg9)
  have hw9 : w.heap.size ≤ g9 := Nat.le_trans bl0.size hg9
  clear x4
  refine wl_one (.eq (.int .i64 0)) rfl 10 rfl (by rw [sz]; decide) (st_assign (.const (.int .i64 0)) rfl rfl) ?_
  intro f4 w4 df2 sz2 old2 new2 hb
  replace bl0 := bl
  replace x1 := (old2 1 rfl).trans x1
  replace x2 := (old2 2 rfl).trans x2
  replace x3 := (old2 3 rfl).trans x3
  replace x5 := (old2 5 rfl).trans x5
  replace x9 := (old2 9 rfl).trans x9
  have x10 : f4.eval (.tmp 10) = .int .i64 0 := new2
  have lt_m5 := Ob.lt m5
  replace m5 := Ob.below m5 hb
  have lt_m9 := Ob.lt m9
  replace m9 := Ob.below m9 hb
  replace bl := (bl.trans (Below.mono hb bl.size))
  replace sz := sz2.trans sz
  replace df := df2.trans df
  clear df2 sz2 old2 new2 hb
  refine wpList_nil ?_
  show Code.wp _ _ _ _ _
  refine wp_seq ?_
  refine wp_seq ?_
  -- R1
  refine wp_all_seq [.eq (.int .i64 ((kind : Nat) : Int)), .eq (.int .i64 ((height : Nat) : Int)), .eq (.bool true), .eq (.bool false)] (by kernel_rfl) (by kernel_rfl) (by rw [sz]; kernel_rfl) (by kernel_rfl) ⟨fun hw ac u K => ?_, fun hw ac u K => ?_, fun hw ac u K => ?_, fun hw ac u K => ?_, trivial⟩ ?_
  · exact st_move (.tmp 1) rfl ((K.old 1 rfl).trans x1)
  · exact st_move (.tmp 2) rfl ((K.old 2 rfl).trans x2)
  · exact st_call 34 (.func 34) _ _ #[.int .i64 ((kind : Nat) : Int), .int .i64 ((height : Nat) : Int)] rfl rfl (arg2 (K.dep 0 13 rfl) (K.dep 1 14 rfl)) Tryd.enter34 (fk_of (isKey_yes kind height h1 h2 h3 _))
  · exact st_not (.tmp 15) rfl true (K.dep 2 15 rfl)
  intro f5 w5 A hb
  replace bl0 := bl
  replace x1 := (A.old 1 rfl).trans x1
  replace x2 := (A.old 2 rfl).trans x2
  replace x3 := (A.old 3 rfl).trans x3
  replace x5 := (A.old 5 rfl).trans x5
  replace x9 := (A.old 9 rfl).trans x9
  replace x10 := (A.old 10 rfl).trans x10
  have x16 : f5.eval (.tmp 16) = .bool false := A.has 3 16 rfl
  have lt_m5 := Ob.lt m5
  replace m5 := Ob.below m5 hb
  have lt_m9 := Ob.lt m9
  replace m9 := Ob.below m9 hb
  replace bl := (bl.trans (Below.mono hb bl.size))
  replace sz := A.size.trans sz
  replace df := A.defs.trans df
  clear A hb
  show Code.wp _ _ _ _ _
  refine wp_cond_false x16 ?_
  refine wp_skip ?_
  show Code.wp _ _ _ _ _
  refine wp_seq ?_
  refine wp_seq ?_
  -- R3
  refine wp_all [.eq (.pointer (some ⟨g9, 0, none⟩)), .eq (.int .i64 ((kind : Nat) : Int)), .eq (.int .i64 ((kind : Nat) : Int)), .eq (.bool false), .eq (.bool false), .eq (.pointer (some ⟨g9, 1, none⟩)), .eq (.int .i64 ((i : Nat) : Int)), .eq (.bool false), .eq (.bool false), .eq (.bool false), .eq (.pointer (some ⟨g9, 1, none⟩)), .eq (.int .i64 ((i : Nat) : Int)), .eq (.int .i64 ((height : Nat) : Int)), .eq (.int .i64 ((2 ^ height : Nat) : Int)), .eq (.bool false), .eq (.bool false), .eq (.bool false), .eq (.pointer (some ⟨g9, 3, none⟩)), .eq (.slice pA (P).length pC), .eq (.int .i64 (((P).length : Nat) : Int)), .eq (.int .i64 ((height : Nat) : Int)), .eq (.bool false), .eq (.bool false)] Tryd.mixed (by kernel_rfl) (by kernel_rfl) (by rw [sz]; kernel_rfl) (by kernel_rfl) ⟨fun hw ac u K => ?_, fun hw ac u K => ?_, fun hw ac u K => ?_, fun hw ac u K => ?_, fun hw ac u K => ?_, fun hw ac u K => ?_, fun hw ac u K => ?_, fun hw ac u K => ?_, fun hw ac u K => ?_, fun hw ac u K => ?_, fun hw ac u K => ?_, fun hw ac u K => ?_, fun hw ac u K => ?_, fun hw ac u K => ?_, fun hw ac u K => ?_, fun hw ac u K => ?_, fun hw ac u K => ?_, fun hw ac u K => ?_, fun hw ac u K => ?_, fun hw ac u K => ?_, fun hw ac u K => ?_, fun hw ac u K => ?_, fun hw ac u K => ?_, trivial⟩ ?_
  · exact st_field 38 0 (.tmp 9) rfl ((K.old 9 rfl).trans x9) (by kernel_rfl)
  · exact st_loadc 3 (.tmp 17) rfl (by kernel_rfl) (K.dep 0 17 rfl) (Ob.cell (Ob.below m9 K.grow) 0 rfl)
  · exact st_move (.tmp 1) rfl ((K.old 1 rfl).trans x1)
  · exact st_neqi 3 (.tmp 18) (.tmp 19) rfl .i64 (((kind : Nat) : Int)) (((kind : Nat) : Int)) (K.dep 1 18 rfl) (K.dep 2 19 rfl) _ (by simp)
  · exact st_move (.tmp 20) rfl (K.dep 3 20 rfl)
  · exact st_field 38 1 (.tmp 9) rfl ((K.old 9 rfl).trans x9) (by kernel_rfl)
  · exact st_loadc 3 (.tmp 22) rfl (by kernel_rfl) (K.dep 5 22 rfl) (Ob.cell (Ob.below m9 K.grow) 1 rfl)
  · exact st_lss 3 (.tmp 23) (.const (.int .i64 0)) rfl .i64 (((i : Nat) : Int)) (0) (K.dep 6 23 rfl) rfl _ (by first | (simp; done) | (simp; omega))
  · exact st_pick_f' (.tmp 21) (.const (.bool true)) (.tmp 24) rfl (K.dep 4 21 rfl) (K.dep 7 24 rfl)
  · exact st_move (.tmp 25) rfl (K.dep 8 25 rfl)
  · exact st_field 38 1 (.tmp 9) rfl ((K.old 9 rfl).trans x9) (by kernel_rfl)
  · exact st_loadc 3 (.tmp 27) rfl (by kernel_rfl) (K.dep 10 27 rfl) (Ob.cell (Ob.below m9 K.grow) 1 rfl)
  · exact st_move (.tmp 2) rfl ((K.old 2 rfl).trans x2)
  · exact st_call 35 (.func 35) _ _ #[.int .i64 ((height : Nat) : Int)] rfl rfl (one_arg (K.dep 12 29 rfl)) Tryd.enter35 (fk_of (indexes_any height h3 _))
  · exact st_geq 3 (.tmp 28) (.tmp 30) rfl .i64 (((i : Nat) : Int)) (((2 ^ height : Nat) : Int)) (K.dep 11 28 rfl) (K.dep 13 30 rfl) _ (by rw [eq_comm, decide_eq_false_iff_not]; omega)
  · exact st_pick_f' (.tmp 26) (.const (.bool true)) (.tmp 31) rfl (K.dep 9 26 rfl) (K.dep 14 31 rfl)
  · exact st_move (.tmp 32) rfl (K.dep 15 32 rfl)
  · exact st_field 38 3 (.tmp 9) rfl ((K.old 9 rfl).trans x9) (by kernel_rfl)
  · exact st_loadc 32 (.tmp 34) rfl (by kernel_rfl) (K.dep 17 34 rfl) (Ob.cell (Ob.below m9 K.grow) 3 rfl)
  · exact st_lenh (.tmp 35) rfl (fk_val (K.dep 18 35 rfl) (Fk.mono _ _ _ _ vP (bl.trans (Below.mono K.grow bl.size))))
  · exact st_move (.tmp 2) rfl ((K.old 2 rfl).trans x2)
  · exact st_neqi 3 (.tmp 36) (.tmp 37) rfl .i64 ((((P).length : Nat) : Int)) (((height : Nat) : Int)) (K.dep 19 36 rfl) (K.dep 20 37 rfl) _ (by simp [hP])
  · exact st_pick_f' (.tmp 33) (.const (.bool true)) (.tmp 38) rfl (K.dep 16 33 rfl) (K.dep 21 38 rfl)
  intro f6 w6 A hb
  replace bl0 := bl
  replace x1 := (A.old 1 rfl).trans x1
  replace x2 := (A.old 2 rfl).trans x2
  replace x3 := (A.old 3 rfl).trans x3
  replace x5 := (A.old 5 rfl).trans x5
  replace x9 := (A.old 9 rfl).trans x9
  replace x10 := (A.old 10 rfl).trans x10
  replace x16 := (A.old 16 rfl).trans x16
  have x39 : f6.eval (.tmp 39) = .bool false := A.has 22 39 rfl
  have lt_m5 := Ob.lt m5
  replace m5 := Ob.below m5 hb
  have lt_m9 := Ob.lt m9
  replace m9 := Ob.below m9 hb
  replace bl := (bl.trans (Below.mono hb bl.size))
  replace sz := A.size.trans sz
  replace df := A.defs.trans df
  clear A hb
  show Code.wp _ _ _ _ _
  refine wp_cond_false x39 ?_
  refine wp_skip ?_
  show Code.wp _ _ _ _ _
  refine wp_seq ?_
  -- R5
  refine wp_region_late [.eq (.agg ([.int .i64 ((kind : Nat) : Int), .int .i64 ((i : Nat) : Int), .slice sA (S).length sC, .slice pA (P).length pC] : List Value).toArray), .eq (mv), .eq (.agg ((h).map V).toArray), .eq (.tuple #[.agg ((hz).map V).toArray, .int .i64 10]), .eq (.tuple #[.agg ((hz).map V).toArray, .int .i64 10]), .eq (.agg ((hz).map V).toArray), .eq (.int .i64 10), .nw w6.heap.size 23 ((hz).map V)] 6 46 _ _ [9] Tryd.mixed (by kernel_rfl) (by kernel_rfl) (by kernel_rfl) (by kernel_rfl) (by kernel_rfl) rfl rfl (by kernel_rfl) rfl (by kernel_rfl) rfl (by rw [sz]; kernel_rfl) (by kernel_rfl) (fun ac u K => ⟨_, late_ext rfl (K.dep 4 40 rfl) rfl, rfl⟩) ⟨fun hw ac u K => ?_, fun hw ac u K => ?_, fun hw ac u K => ?_, fun hw ac u K => ?_, fun hw ac u K => ?_, fun hw ac u K => ?_, fun hw ac u K => ?_, fun hw ac u K => ?_, trivial⟩ ?_
  · exact st_loadz 38 (.tmp 9) rfl (g9) 0 [.int .i64 ((kind : Nat) : Int), .int .i64 ((i : Nat) : Int), .slice sA (S).length sC, .slice pA (P).length pC] (by kernel_rfl) (by kernel_rfl) ((K.old 9 rfl).trans x9) (Ob.range (Ob.below m9 K.grow) 0 _ (fun j v hj => by simpa using hj))
  · exact st_move (.tmp 3) rfl ((K.old 3 rfl).trans x3)
  · exact st_call 17 (.func 17) _ _ #[mv] rfl rfl (one_arg (K.dep 1 42 rfl)) Tryd.enter17 (fk_message hml (hK.below (bl.trans (Below.mono K.grow bl.size))) (Fk.mono _ _ _ _ vm (bl.trans (Below.mono K.grow bl.size))) eh)
  · exact st_call 50 (.func 50) _ _ #[.agg ([.int .i64 ((kind : Nat) : Int), .int .i64 ((i : Nat) : Int), .slice sA (S).length sC, .slice pA (P).length pC] : List Value).toArray, .agg ((h).map V).toArray] rfl rfl (arg2 (K.dep 0 41 rfl) (K.dep 2 43 rfl)) Tryd.enter50 (fk_of (recovered_no h1 h2 _ hh hl _ (Fk.mono _ _ _ _ vS (bl.trans (Below.mono K.grow bl.size))) (Fk.mono _ _ _ _ vP (bl.trans (Below.mono K.grow bl.size)))))
  · exact st_move (.tmp 44) rfl (K.dep 3 44 rfl)
  · exact st_ext0 (.tmp 40) rfl (K.dep 4 40 rfl) rfl
  · exact st_ext1 (.tmp 40) rfl (K.dep 4 40 rfl) rfl
  · exact st_alloc23 rfl _ K.grow.size
  intro f7 w7 A hb
  replace bl0 := bl
  replace x1 := (A.old 1 rfl).trans x1
  replace x2 := (A.old 2 rfl).trans x2
  replace x3 := (A.old 3 rfl).trans x3
  replace x5 := (A.old 5 rfl).trans x5
  replace x9 := (A.old 9 rfl).trans x9
  replace x10 := (A.old 10 rfl).trans x10
  replace x16 := (A.old 16 rfl).trans x16
  replace x39 := (A.old 39 rfl).trans x39
  have x11 : Fk.f (.nw w6.heap.size 23 ((hz).map V)) (f7.eval (.tmp 11)) w7 := A.has 7 11 rfl
  have x45 : f7.eval (.tmp 45) = .agg ((hz).map V).toArray := A.has 5 45 rfl
  have x46 : f7.eval (.tmp 46) = .int .i64 10 := A.has 6 46 rfl
  have lt_m5 := Ob.lt m5
  replace m5 := Ob.below m5 hb
  have lt_m9 := Ob.lt m9
  replace m9 := Ob.below m9 hb
  replace bl := (bl.trans (Below.mono hb bl.size))
  replace sz := A.size.trans sz
  replace df := A.defs.trans df
  clear A hb
  clear x3
  obtain ⟨g11, hg11, e11, m11⟩ := x11
  have x11 := e11
  clear e11
  have nm5_11 : g5 ≠ g11 := Nat.ne_of_lt (Nat.lt_of_lt_of_le lt_m5 hg11)
  have nm9_11 : g9 ≠ g11 := Nat.ne_of_lt (Nat.lt_of_lt_of_le lt_m9 hg11)
  have hw11 : w.heap.size ≤ g11 := Nat.le_trans bl0.size hg11
  refine ⟨_, run_store23 (.tmp 11) (.tmp 45) rfl (g11) (hz) (hz) x11 x45 m11 hz_len hz_len, ?_⟩
  replace m5 : Ob (w7.setRow g11 ((hz).map V : List Value).toArray) (g5) 23 ((pb).map V) := Ob.setRow_other m5 _ nm5_11
  replace m9 : Ob (w7.setRow g11 ((hz).map V : List Value).toArray) (g9) 38 ([.int .i64 ((kind : Nat) : Int), .int .i64 ((i : Nat) : Int), .slice sA (S).length sC, .slice pA (P).length pC]) := Ob.setRow_other m9 _ nm9_11
  replace m11 : Ob (w7.setRow g11 ((hz).map V : List Value).toArray) (g11) 23 ((hz).map V) := Ob.setRow m11 ((hz).map V)
  replace bl : Below w.heap.size w (w7.setRow g11 ((hz).map V : List Value).toArray) := bl.trans (below_setRow _ _ _ _ hw11)
  generalize w7.setRow g11 ((hz).map V : List Value).toArray = w8b at bl m5 m9 m11 ⊢
  clear x45
  refine wl_one (.eq (.int .i64 10)) rfl 12 rfl (by rw [sz]; decide) (st_assign (.tmp 46) rfl x46) ?_
  intro f9 w9 df2 sz2 old2 new2 hb
  replace bl0 := bl
  replace x1 := (old2 1 rfl).trans x1
  replace x2 := (old2 2 rfl).trans x2
  replace x5 := (old2 5 rfl).trans x5
  replace x9 := (old2 9 rfl).trans x9
  replace x10 := (old2 10 rfl).trans x10
  replace x16 := (old2 16 rfl).trans x16
  replace x39 := (old2 39 rfl).trans x39
  replace x11 := (old2 11 rfl).trans x11
  replace x46 := (old2 46 rfl).trans x46
  have x12 : f9.eval (.tmp 12) = .int .i64 10 := new2
  have lt_m5 := Ob.lt m5
  replace m5 := Ob.below m5 hb
  have lt_m9 := Ob.lt m9
  replace m9 := Ob.below m9 hb
  have lt_m11 := Ob.lt m11
  replace m11 := Ob.below m11 hb
  replace bl := (bl.trans (Below.mono hb bl.size))
  replace sz := sz2.trans sz
  replace df := df2.trans df
  clear df2 sz2 old2 new2 hb
  refine wpList_nil ?_
  clear x46
  show Code.wp _ _ _ _ _
  refine wp_seq ?_
  refine wp_seq ?_
  -- R6
  refine wp_all [.eq (.int .i64 10), .eq (.bool true), .eq (.bool true), .any, .any, .any, .any, .any, .any, .eq (.bool true)] Tryd.mixed (by kernel_rfl) (by kernel_rfl) (by rw [sz]; kernel_rfl) (by kernel_rfl) ⟨fun hw ac u K => ?_, fun hw ac u K => ?_, fun hw ac u K => ?_, fun hw ac u K => ?_, fun hw ac u K => ?_, fun hw ac u K => ?_, fun hw ac u K => ?_, fun hw ac u K => ?_, fun hw ac u K => ?_, fun hw ac u K => ?_, trivial⟩ ?_
  · exact st_move (.tmp 12) rfl ((K.old 12 rfl).trans x12)
  · exact st_neqi 29 (.tmp 47) (.const (.int .i64 0)) rfl .i64 (10) (0) (K.dep 0 47 rfl) rfl _ (by rfl)
  · exact st_move (.tmp 48) rfl (K.dep 1 48 rfl)
  · exact (Bool.false_ne_true hw).elim
  · exact (Bool.false_ne_true hw).elim
  · exact (Bool.false_ne_true hw).elim
  · exact (Bool.false_ne_true hw).elim
  · exact (Bool.false_ne_true hw).elim
  · exact (Bool.false_ne_true hw).elim
  · exact st_pick_t (.tmp 49) (.const (.bool true)) (.tmp 55) rfl (K.dep 2 49 rfl) rfl
  intro f10 w10 A hb
  replace bl0 := bl
  replace x1 := (A.old 1 rfl).trans x1
  replace x2 := (A.old 2 rfl).trans x2
  replace x5 := (A.old 5 rfl).trans x5
  replace x9 := (A.old 9 rfl).trans x9
  replace x10 := (A.old 10 rfl).trans x10
  replace x16 := (A.old 16 rfl).trans x16
  replace x39 := (A.old 39 rfl).trans x39
  replace x11 := (A.old 11 rfl).trans x11
  replace x12 := (A.old 12 rfl).trans x12
  have x56 : f10.eval (.tmp 56) = .bool true := A.has 9 56 rfl
  have lt_m5 := Ob.lt m5
  replace m5 := Ob.below m5 hb
  have lt_m9 := Ob.lt m9
  replace m9 := Ob.below m9 hb
  have lt_m11 := Ob.lt m11
  replace m11 := Ob.below m11 hb
  replace bl := (bl.trans (Below.mono hb bl.size))
  replace sz := A.size.trans sz
  replace df := A.defs.trans df
  clear A hb
  clear x5
  clear x12
  show Code.wp _ _ _ _ _
  refine wp_cond_true x56 ?_
  refine wp_seq ?_
  -- R7
  refine wp_all_seq [.eq (.int .i64 21)] (by kernel_rfl) (by kernel_rfl) (by rw [sz]; kernel_rfl) (by kernel_rfl) ⟨fun hw ac u K => ?_, trivial⟩ ?_
  · exact st_assign (.const (.int .i64 21)) rfl rfl
  intro f11 w11 A hb
  replace bl0 := bl
  replace x1 := (A.old 1 rfl).trans x1
  replace x2 := (A.old 2 rfl).trans x2
  replace x9 := (A.old 9 rfl).trans x9
  clear x10
  replace x16 := (A.old 16 rfl).trans x16
  replace x39 := (A.old 39 rfl).trans x39
  replace x11 := (A.old 11 rfl).trans x11
  replace x56 := (A.old 56 rfl).trans x56
  have x10 : f11.eval (.tmp 10) = .int .i64 21 := A.has 0 10 rfl
  have lt_m5 := Ob.lt m5
  replace m5 := Ob.below m5 hb
  have lt_m9 := Ob.lt m9
  replace m9 := Ob.below m9 hb
  have lt_m11 := Ob.lt m11
  replace m11 := Ob.below m11 hb
  replace bl := (bl.trans (Below.mono hb bl.size))
  replace sz := A.size.trans sz
  replace df := A.defs.trans df
  clear A hb
  show Code.wp _ _ _ _ _
  refine wp_ret ?_
  repeat (first | with_reducible refine then_ret ?_ | with_reducible refine block_ret ?_)
  exact bodyPost_ret (v := .int .i64 21) (ret_slot rfl f11 _ x10 _ _) df ⟨rfl, bl⟩
theorem verify_yes {kind height : Nat} (h1 : 1 ≤ kind) (h2 : kind ≤ 2) (h3 : height ≤ 8) (i : Nat) (hi : i < 2 ^ height) {S P : List (List (BitVec 8))} {sA pA : Option Addr} {sC pC : Nat} {pb : List (BitVec 8)} (hpb : pb.length = 32) (hP : P.length = height) (w : World) (mv : Value) {msg : List (BitVec 8)} (hml : msg.length ≤ 900000) (vm : (Fk.sl msg).f mv w) (hK : Tab w) (vS : (Fk.hs S).f (.slice sA (S).length sC) w) (vP : (Fk.hs P).f (.slice pA (P).length pC) w) {h : List (BitVec 8)} (eh : Box (ms msg = h)) (hl : S.length = npt kind) (hup : up i P (lf (rcv kind h S)) P.length = pb) :
    Calls Tryd.prog 21 #[.agg ((pb).map V).toArray, .int .i64 ((kind : Nat) : Int), .int .i64 ((height : Nat) : Int), mv, .agg ([.int .i64 ((kind : Nat) : Int), .int .i64 ((i : Nat) : Int), .slice sA (S).length sC, .slice pA (P).length pC] : List Value).toArray] w fun e w' => e = .returned (.int .i64 0) ∧ Below w.heap.size w w' := by
  have hh : h.length = 32 := by rw [← eh.out]; exact ms_len _
  obtain ⟨y, er⟩ : ∃ y, Box (rcv kind h S = y) := ⟨_, ⟨rfl⟩⟩
  have hy : y.length = 32 := by rw [← er.out]; exact rcv_len _ _ _
  obtain ⟨z, ez⟩ : ∃ z, Box (lf y = z) := ⟨_, ⟨rfl⟩⟩
  have hz1 : z.length = 32 := by rw [← ez.out]; exact lf_len _
  obtain ⟨q, eq⟩ : ∃ q, Box (up i P z P.length = q) := ⟨_, ⟨rfl⟩⟩
  have hq : q.length = 32 := by rw [← eq.out]; exact up_len _ _ _ hz1 _
  rw [er.out, ez.out, eq.out] at hup
  have hqp : q = pb := hup
  clear hup
  go_enter Tryd.func21, Tryd.ntmps21
  refine code_both (fun f w1 => f.tmps.size = 57 ∧ f.defers = [] ∧ f.eval (.tmp 0) = .agg ((pb).map V).toArray ∧ f.eval (.tmp 1) = .int .i64 ((kind : Nat) : Int) ∧ f.eval (.tmp 2) = .int .i64 ((height : Nat) : Int) ∧ f.eval (.tmp 3) = mv ∧ f.eval (.tmp 4) = .agg ([.int .i64 ((kind : Nat) : Int), .int .i64 ((i : Nat) : Int), .slice sA (S).length sC, .slice pA (P).length pC] : List Value).toArray ∧ Below w.heap.size w (w1)) ⟨rfl, rfl, rfl, rfl, rfl, rfl, rfl, Below.refl _ _⟩ ?_
  rintro f0 w0 ⟨sz, df, x0, x1, x2, x3, x4, bl⟩
  have bl0 := bl
  refine wp_seq ?_
  -- R0
  refine wp_region_seq [] (by kernel_rfl) (by kernel_rfl) (by rw [sz]; kernel_rfl) (by kernel_rfl) trivial ?_
  intro f1 w1 A hb
  replace bl0 := bl
  replace x0 := (A.old 0 rfl).trans x0
  replace x1 := (A.old 1 rfl).trans x1
  replace x2 := (A.old 2 rfl).trans x2
  replace x3 := (A.old 3 rfl).trans x3
  replace x4 := (A.old 4 rfl).trans x4
  replace bl := (bl.trans (Below.mono hb bl.size))
  replace sz := A.size.trans sz
  replace df := A.defs.trans df
  clear A hb
  refine wl_one (.nw w1.heap.size 23 ((pb).map V)) rfl 5 rfl (by rw [sz]; decide) (st_box 23 (.tmp 0) rfl _ _ (by rw [show _ = _ from x0]; kernel_rfl) (Nat.le_refl _)) ?_
  intro f2 w2 df2 sz2 old2 new2 hb
  replace bl0 := bl
  replace x0 := (old2 0 rfl).trans x0
  replace x1 := (old2 1 rfl).trans x1
  replace x2 := (old2 2 rfl).trans x2
  replace x3 := (old2 3 rfl).trans x3
  replace x4 := (old2 4 rfl).trans x4
  have x5 : Fk.f (.nw w1.heap.size 23 ((pb).map V)) (f2.eval (.tmp 5)) w2 := new2
  replace bl := (bl.trans (Below.mono hb bl.size))
  replace sz := sz2.trans sz
  replace df := df2.trans df
  clear df2 sz2 old2 new2 hb
  obtain ⟨g5, hg5, e5, m5⟩ := x5
  have x5 := e5
  clear e5
  have hw5 : w.heap.size ≤ g5 := Nat.le_trans bl0.size hg5
  clear x0
  refine wl_one (.nw w2.heap.size 38 ([.int .i64 ((kind : Nat) : Int), .int .i64 ((i : Nat) : Int), .slice sA (S).length sC, .slice pA (P).length pC] : List Value)) rfl 9 rfl (by rw [sz]; decide) (st_box 38 (.tmp 4) rfl _ _ (by rw [show _ = _ from x4]; kernel_rfl) (Nat.le_refl _)) ?_
  intro f3 w3 df2 sz2 old2 new2 hb
  replace bl0 := bl
  replace x1 := (old2 1 rfl).trans x1
  replace x2 := (old2 2 rfl).trans x2
  replace x3 := (old2 3 rfl).trans x3
  replace x4 := (old2 4 rfl).trans x4
  replace x5 := (old2 5 rfl).trans x5
  have x9 : Fk.f (.nw w2.heap.size 38 ([.int .i64 ((kind : Nat) : Int), .int .i64 ((i : Nat) : Int), .slice sA (S).length sC, .slice pA (P).length pC] : List Value)) (f3.eval (.tmp 9)) w3 := new2
  have lt_m5 := Ob.lt m5
  replace m5 := Ob.below m5 hb
  replace bl := (bl.trans (Below.mono hb bl.size))
  replace sz := sz2.trans sz
  replace df := df2.trans df
  clear df2 sz2 old2 new2 hb
  obtain ⟨g9, hg9, e9, m9⟩ := x9
  have x9 := e9
  clear e9
  have nm5_9 : g5 ≠ g9 := Nat.ne_of_lt (Nat.lt_of_lt_of_le lt_m5 hg9)
  have hw9 : w.heap.size ≤ g9 := Nat.le_trans bl0.size hg9
  clear x4
  refine wl_one (.eq (.int .i64 0)) rfl 10 rfl (by rw [sz]; decide) (st_assign (.const (.int .i64 0)) rfl rfl) ?_
  intro f4 w4 df2 sz2 old2 new2 hb
  replace bl0 := bl
  replace x1 := (old2 1 rfl).trans x1
  replace x2 := (old2 2 rfl).trans x2
  replace x3 := (old2 3 rfl).trans x3
  replace x5 := (old2 5 rfl).trans x5
  replace x9 := (old2 9 rfl).trans x9
  have x10 : f4.eval (.tmp 10) = .int .i64 0 := new2
  have lt_m5 := Ob.lt m5
  replace m5 := Ob.below m5 hb
  have lt_m9 := Ob.lt m9
  replace m9 := Ob.below m9 hb
  replace bl := (bl.trans (Below.mono hb bl.size))
  replace sz := sz2.trans sz
  replace df := df2.trans df
  clear df2 sz2 old2 new2 hb
  refine wpList_nil ?_
  show Code.wp _ _ _ _ _
  refine wp_seq ?_
  refine wp_seq ?_
  -- R1
  refine wp_all_seq [.eq (.int .i64 ((kind : Nat) : Int)), .eq (.int .i64 ((height : Nat) : Int)), .eq (.bool true), .eq (.bool false)] (by kernel_rfl) (by kernel_rfl) (by rw [sz]; kernel_rfl) (by kernel_rfl) ⟨fun hw ac u K => ?_, fun hw ac u K => ?_, fun hw ac u K => ?_, fun hw ac u K => ?_, trivial⟩ ?_
  · exact st_move (.tmp 1) rfl ((K.old 1 rfl).trans x1)
  · exact st_move (.tmp 2) rfl ((K.old 2 rfl).trans x2)
  · exact st_call 34 (.func 34) _ _ #[.int .i64 ((kind : Nat) : Int), .int .i64 ((height : Nat) : Int)] rfl rfl (arg2 (K.dep 0 13 rfl) (K.dep 1 14 rfl)) Tryd.enter34 (fk_of (isKey_yes kind height h1 h2 h3 _))
  · exact st_not (.tmp 15) rfl true (K.dep 2 15 rfl)
  intro f5 w5 A hb
  replace bl0 := bl
  replace x1 := (A.old 1 rfl).trans x1
  replace x2 := (A.old 2 rfl).trans x2
  replace x3 := (A.old 3 rfl).trans x3
  replace x5 := (A.old 5 rfl).trans x5
  replace x9 := (A.old 9 rfl).trans x9
  replace x10 := (A.old 10 rfl).trans x10
  have x16 : f5.eval (.tmp 16) = .bool false := A.has 3 16 rfl
  have lt_m5 := Ob.lt m5
  replace m5 := Ob.below m5 hb
  have lt_m9 := Ob.lt m9
  replace m9 := Ob.below m9 hb
  replace bl := (bl.trans (Below.mono hb bl.size))
  replace sz := A.size.trans sz
  replace df := A.defs.trans df
  clear A hb
  show Code.wp _ _ _ _ _
  refine wp_cond_false x16 ?_
  refine wp_skip ?_
  show Code.wp _ _ _ _ _
  refine wp_seq ?_
  refine wp_seq ?_
  -- R3
  refine wp_all [.eq (.pointer (some ⟨g9, 0, none⟩)), .eq (.int .i64 ((kind : Nat) : Int)), .eq (.int .i64 ((kind : Nat) : Int)), .eq (.bool false), .eq (.bool false), .eq (.pointer (some ⟨g9, 1, none⟩)), .eq (.int .i64 ((i : Nat) : Int)), .eq (.bool false), .eq (.bool false), .eq (.bool false), .eq (.pointer (some ⟨g9, 1, none⟩)), .eq (.int .i64 ((i : Nat) : Int)), .eq (.int .i64 ((height : Nat) : Int)), .eq (.int .i64 ((2 ^ height : Nat) : Int)), .eq (.bool false), .eq (.bool false), .eq (.bool false), .eq (.pointer (some ⟨g9, 3, none⟩)), .eq (.slice pA (P).length pC), .eq (.int .i64 (((P).length : Nat) : Int)), .eq (.int .i64 ((height : Nat) : Int)), .eq (.bool false), .eq (.bool false)] Tryd.mixed (by kernel_rfl) (by kernel_rfl) (by rw [sz]; kernel_rfl) (by kernel_rfl) ⟨fun hw ac u K => ?_, fun hw ac u K => ?_, fun hw ac u K => ?_, fun hw ac u K => ?_, fun hw ac u K => ?_, fun hw ac u K => ?_, fun hw ac u K => ?_, fun hw ac u K => ?_, fun hw ac u K => ?_, fun hw ac u K => ?_, fun hw ac u K => ?_, fun hw ac u K => ?_, fun hw ac u K => ?_, fun hw ac u K => ?_, fun hw ac u K => ?_, fun hw ac u K => ?_, fun hw ac u K => ?_, fun hw ac u K => ?_, fun hw ac u K => ?_, fun hw ac u K => ?_, fun hw ac u K => ?_, fun hw ac u K => ?_, fun hw ac u K => ?_, trivial⟩ ?_
  · exact st_field 38 0 (.tmp 9) rfl ((K.old 9 rfl).trans x9) (by kernel_rfl)
  · exact st_loadc 3 (.tmp 17) rfl (by kernel_rfl) (K.dep 0 17 rfl) (Ob.cell (Ob.below m9 K.grow) 0 rfl)
  · exact st_move (.tmp 1) rfl ((K.old 1 rfl).trans x1)
  · exact st_neqi 3 (.tmp 18) (.tmp 19) rfl .i64 (((kind : Nat) : Int)) (((kind : Nat) : Int)) (K.dep 1 18 rfl) (K.dep 2 19 rfl) _ (by simp)
  · exact st_move (.tmp 20) rfl (K.dep 3 20 rfl)
  · exact st_field 38 1 (.tmp 9) rfl ((K.old 9 rfl).trans x9) (by kernel_rfl)
  · exact st_loadc 3 (.tmp 22) rfl (by kernel_rfl) (K.dep 5 22 rfl) (Ob.cell (Ob.below m9 K.grow) 1 rfl)
  · exact st_lss 3 (.tmp 23) (.const (.int .i64 0)) rfl .i64 (((i : Nat) : Int)) (0) (K.dep 6 23 rfl) rfl _ (by first | (simp; done) | (simp; omega))
  · exact st_pick_f' (.tmp 21) (.const (.bool true)) (.tmp 24) rfl (K.dep 4 21 rfl) (K.dep 7 24 rfl)
  · exact st_move (.tmp 25) rfl (K.dep 8 25 rfl)
  · exact st_field 38 1 (.tmp 9) rfl ((K.old 9 rfl).trans x9) (by kernel_rfl)
  · exact st_loadc 3 (.tmp 27) rfl (by kernel_rfl) (K.dep 10 27 rfl) (Ob.cell (Ob.below m9 K.grow) 1 rfl)
  · exact st_move (.tmp 2) rfl ((K.old 2 rfl).trans x2)
  · exact st_call 35 (.func 35) _ _ #[.int .i64 ((height : Nat) : Int)] rfl rfl (one_arg (K.dep 12 29 rfl)) Tryd.enter35 (fk_of (indexes_any height h3 _))
  · exact st_geq 3 (.tmp 28) (.tmp 30) rfl .i64 (((i : Nat) : Int)) (((2 ^ height : Nat) : Int)) (K.dep 11 28 rfl) (K.dep 13 30 rfl) _ (by rw [eq_comm, decide_eq_false_iff_not]; omega)
  · exact st_pick_f' (.tmp 26) (.const (.bool true)) (.tmp 31) rfl (K.dep 9 26 rfl) (K.dep 14 31 rfl)
  · exact st_move (.tmp 32) rfl (K.dep 15 32 rfl)
  · exact st_field 38 3 (.tmp 9) rfl ((K.old 9 rfl).trans x9) (by kernel_rfl)
  · exact st_loadc 32 (.tmp 34) rfl (by kernel_rfl) (K.dep 17 34 rfl) (Ob.cell (Ob.below m9 K.grow) 3 rfl)
  · exact st_lenh (.tmp 35) rfl (fk_val (K.dep 18 35 rfl) (Fk.mono _ _ _ _ vP (bl.trans (Below.mono K.grow bl.size))))
  · exact st_move (.tmp 2) rfl ((K.old 2 rfl).trans x2)
  · exact st_neqi 3 (.tmp 36) (.tmp 37) rfl .i64 ((((P).length : Nat) : Int)) (((height : Nat) : Int)) (K.dep 19 36 rfl) (K.dep 20 37 rfl) _ (by simp [hP])
  · exact st_pick_f' (.tmp 33) (.const (.bool true)) (.tmp 38) rfl (K.dep 16 33 rfl) (K.dep 21 38 rfl)
  intro f6 w6 A hb
  replace bl0 := bl
  replace x1 := (A.old 1 rfl).trans x1
  replace x2 := (A.old 2 rfl).trans x2
  replace x3 := (A.old 3 rfl).trans x3
  replace x5 := (A.old 5 rfl).trans x5
  replace x9 := (A.old 9 rfl).trans x9
  replace x10 := (A.old 10 rfl).trans x10
  replace x16 := (A.old 16 rfl).trans x16
  have x39 : f6.eval (.tmp 39) = .bool false := A.has 22 39 rfl
  have lt_m5 := Ob.lt m5
  replace m5 := Ob.below m5 hb
  have lt_m9 := Ob.lt m9
  replace m9 := Ob.below m9 hb
  replace bl := (bl.trans (Below.mono hb bl.size))
  replace sz := A.size.trans sz
  replace df := A.defs.trans df
  clear A hb
  show Code.wp _ _ _ _ _
  refine wp_cond_false x39 ?_
  refine wp_skip ?_
  show Code.wp _ _ _ _ _
  refine wp_seq ?_
  -- R5
  refine wp_region_late [.eq (.agg ([.int .i64 ((kind : Nat) : Int), .int .i64 ((i : Nat) : Int), .slice sA (S).length sC, .slice pA (P).length pC] : List Value).toArray), .eq (mv), .eq (.agg ((h).map V).toArray), .eq (.tuple #[.agg ((y).map V).toArray, .int .i64 0]), .eq (.tuple #[.agg ((y).map V).toArray, .int .i64 0]), .eq (.agg ((y).map V).toArray), .eq (.int .i64 0), .nw w6.heap.size 23 ((hz).map V)] 6 46 _ _ [9] Tryd.mixed (by kernel_rfl) (by kernel_rfl) (by kernel_rfl) (by kernel_rfl) (by kernel_rfl) rfl rfl (by kernel_rfl) rfl (by kernel_rfl) rfl (by rw [sz]; kernel_rfl) (by kernel_rfl) (fun ac u K => ⟨_, late_ext rfl (K.dep 4 40 rfl) rfl, rfl⟩) ⟨fun hw ac u K => ?_, fun hw ac u K => ?_, fun hw ac u K => ?_, fun hw ac u K => ?_, fun hw ac u K => ?_, fun hw ac u K => ?_, fun hw ac u K => ?_, fun hw ac u K => ?_, trivial⟩ ?_
  · exact st_loadz 38 (.tmp 9) rfl (g9) 0 [.int .i64 ((kind : Nat) : Int), .int .i64 ((i : Nat) : Int), .slice sA (S).length sC, .slice pA (P).length pC] (by kernel_rfl) (by kernel_rfl) ((K.old 9 rfl).trans x9) (Ob.range (Ob.below m9 K.grow) 0 _ (fun j v hj => by simpa using hj))
  · exact st_move (.tmp 3) rfl ((K.old 3 rfl).trans x3)
  · exact st_call 17 (.func 17) _ _ #[mv] rfl rfl (one_arg (K.dep 1 42 rfl)) Tryd.enter17 (fk_message hml (hK.below (bl.trans (Below.mono K.grow bl.size))) (Fk.mono _ _ _ _ vm (bl.trans (Below.mono K.grow bl.size))) eh)
  · exact st_call 50 (.func 50) _ _ #[.agg ([.int .i64 ((kind : Nat) : Int), .int .i64 ((i : Nat) : Int), .slice sA (S).length sC, .slice pA (P).length pC] : List Value).toArray, .agg ((h).map V).toArray] rfl rfl (arg2 (K.dep 0 41 rfl) (K.dep 2 43 rfl)) Tryd.enter50 (fk_of (recovered_ok h1 h2 _ hh hl _ (Fk.mono _ _ _ _ vS (bl.trans (Below.mono K.grow bl.size))) (Fk.mono _ _ _ _ vP (bl.trans (Below.mono K.grow bl.size))) (hK.below (bl.trans (Below.mono K.grow bl.size))) er))
  · exact st_move (.tmp 44) rfl (K.dep 3 44 rfl)
  · exact st_ext0 (.tmp 40) rfl (K.dep 4 40 rfl) rfl
  · exact st_ext1 (.tmp 40) rfl (K.dep 4 40 rfl) rfl
  · exact st_alloc23 rfl _ K.grow.size
  intro f7 w7 A hb
  replace bl0 := bl
  replace x1 := (A.old 1 rfl).trans x1
  replace x2 := (A.old 2 rfl).trans x2
  replace x3 := (A.old 3 rfl).trans x3
  replace x5 := (A.old 5 rfl).trans x5
  replace x9 := (A.old 9 rfl).trans x9
  replace x10 := (A.old 10 rfl).trans x10
  replace x16 := (A.old 16 rfl).trans x16
  replace x39 := (A.old 39 rfl).trans x39
  have x11 : Fk.f (.nw w6.heap.size 23 ((hz).map V)) (f7.eval (.tmp 11)) w7 := A.has 7 11 rfl
  have x45 : f7.eval (.tmp 45) = .agg ((y).map V).toArray := A.has 5 45 rfl
  have x46 : f7.eval (.tmp 46) = .int .i64 0 := A.has 6 46 rfl
  have lt_m5 := Ob.lt m5
  replace m5 := Ob.below m5 hb
  have lt_m9 := Ob.lt m9
  replace m9 := Ob.below m9 hb
  replace bl := (bl.trans (Below.mono hb bl.size))
  replace sz := A.size.trans sz
  replace df := A.defs.trans df
  clear A hb
  clear x3
  obtain ⟨g11, hg11, e11, m11⟩ := x11
  have x11 := e11
  clear e11
  have nm5_11 : g5 ≠ g11 := Nat.ne_of_lt (Nat.lt_of_lt_of_le lt_m5 hg11)
  have nm9_11 : g9 ≠ g11 := Nat.ne_of_lt (Nat.lt_of_lt_of_le lt_m9 hg11)
  have hw11 : w.heap.size ≤ g11 := Nat.le_trans bl0.size hg11
  refine ⟨_, run_store23 (.tmp 11) (.tmp 45) rfl (g11) (y) (hz) x11 x45 m11 hz_len hy, ?_⟩
  replace m5 : Ob (w7.setRow g11 ((y).map V : List Value).toArray) (g5) 23 ((pb).map V) := Ob.setRow_other m5 _ nm5_11
  replace m9 : Ob (w7.setRow g11 ((y).map V : List Value).toArray) (g9) 38 ([.int .i64 ((kind : Nat) : Int), .int .i64 ((i : Nat) : Int), .slice sA (S).length sC, .slice pA (P).length pC]) := Ob.setRow_other m9 _ nm9_11
  replace m11 : Ob (w7.setRow g11 ((y).map V : List Value).toArray) (g11) 23 ((y).map V) := Ob.setRow m11 ((y).map V)
  replace bl : Below w.heap.size w (w7.setRow g11 ((y).map V : List Value).toArray) := bl.trans (below_setRow _ _ _ _ hw11)
  generalize w7.setRow g11 ((y).map V : List Value).toArray = w8b at bl m5 m9 m11 ⊢
  clear x45
  refine wl_one (.eq (.int .i64 0)) rfl 12 rfl (by rw [sz]; decide) (st_assign (.tmp 46) rfl x46) ?_
  intro f9 w9 df2 sz2 old2 new2 hb
  replace bl0 := bl
  replace x1 := (old2 1 rfl).trans x1
  replace x2 := (old2 2 rfl).trans x2
  replace x5 := (old2 5 rfl).trans x5
  replace x9 := (old2 9 rfl).trans x9
  replace x10 := (old2 10 rfl).trans x10
  replace x16 := (old2 16 rfl).trans x16
  replace x39 := (old2 39 rfl).trans x39
  replace x11 := (old2 11 rfl).trans x11
  replace x46 := (old2 46 rfl).trans x46
  have x12 : f9.eval (.tmp 12) = .int .i64 0 := new2
  have lt_m5 := Ob.lt m5
  replace m5 := Ob.below m5 hb
  have lt_m9 := Ob.lt m9
  replace m9 := Ob.below m9 hb
  have lt_m11 := Ob.lt m11
  replace m11 := Ob.below m11 hb
  replace bl := (bl.trans (Below.mono hb bl.size))
  replace sz := sz2.trans sz
  replace df := df2.trans df
  clear df2 sz2 old2 new2 hb
  refine wpList_nil ?_
  clear x46
  show Code.wp _ _ _ _ _
  refine wp_seq ?_
  refine wp_seq ?_
  -- R6
  refine wp_all [.eq (.int .i64 0), .eq (.bool false), .eq (.bool false), .eq (.agg ([.int .i64 ((kind : Nat) : Int), .int .i64 ((i : Nat) : Int), .slice sA (S).length sC, .slice pA (P).length pC] : List Value).toArray), .sl (y), .eq (.agg ((z).map V).toArray), .eq (.agg ((q).map V).toArray), .eq (.agg ((pb).map V).toArray), .eq (.bool false), .eq (.bool false)] Tryd.mixed (by kernel_rfl) (by kernel_rfl) (by rw [sz]; kernel_rfl) (by kernel_rfl) ⟨fun hw ac u K => ?_, fun hw ac u K => ?_, fun hw ac u K => ?_, fun hw ac u K => ?_, fun hw ac u K => ?_, fun hw ac u K => ?_, fun hw ac u K => ?_, fun hw ac u K => ?_, fun hw ac u K => ?_, fun hw ac u K => ?_, trivial⟩ ?_
  · exact st_move (.tmp 12) rfl ((K.old 12 rfl).trans x12)
  · exact st_neqi 29 (.tmp 47) (.const (.int .i64 0)) rfl .i64 (0) (0) (K.dep 0 47 rfl) rfl _ (by rfl)
  · exact st_move (.tmp 48) rfl (K.dep 1 48 rfl)
  · exact st_loadz 38 (.tmp 9) rfl (g9) 0 [.int .i64 ((kind : Nat) : Int), .int .i64 ((i : Nat) : Int), .slice sA (S).length sC, .slice pA (P).length pC] (by kernel_rfl) (by kernel_rfl) ((K.old 9 rfl).trans x9) (Ob.range (Ob.below m9 K.grow) 0 _ (fun j v hj => by simpa using hj))
  · exact st_slice23 (.tmp 11) rfl (g11) 0 (y) ((K.old 11 rfl).trans x11) hy (Ob.lt (Ob.below m11 K.grow)) (HasV.bytes (Ob.below m11 K.grow))
  · exact st_call 24 (.func 24) _ _ #[ac.eval (.tmp 51)] rfl rfl (one_arg rfl) Tryd.enter24 (fk_leaf (by rw [hy]; omega) (hK.below (bl.trans (Below.mono K.grow bl.size))) (K.dep 4 51 rfl) ez)
  · exact st_call 51 (.func 51) _ _ #[.agg ([.int .i64 ((kind : Nat) : Int), .int .i64 ((i : Nat) : Int), .slice sA (S).length sC, .slice pA (P).length pC] : List Value).toArray, .agg ((z).map V).toArray] rfl rfl (arg2 (K.dep 3 50 rfl) (K.dep 5 52 rfl)) Tryd.enter51 (fk_of (ledUp_any _ i (Nat.le_of_lt (Nat.lt_of_lt_of_le hi (pow_le h3))) hz1 (by omega) _ (Fk.mono _ _ _ _ vS (bl.trans (Below.mono K.grow bl.size))) (Fk.mono _ _ _ _ vP (bl.trans (Below.mono K.grow bl.size))) (hK.below (bl.trans (Below.mono K.grow bl.size))) eq))
  · exact st_load23 (.tmp 5) rfl (g5) (pb) ((K.old 5 rfl).trans x5) hpb (Ob.below m5 K.grow)
  · exact st_neqh (.tmp 53) (.tmp 54) rfl (q) (pb) hq hpb (K.dep 6 53 rfl) (K.dep 7 54 rfl) _ (by simp [hqp])
  · exact st_pick_f' (.tmp 49) (.const (.bool true)) (.tmp 55) rfl (K.dep 2 49 rfl) (K.dep 8 55 rfl)
  intro f10 w10 A hb
  replace bl0 := bl
  replace x1 := (A.old 1 rfl).trans x1
  replace x2 := (A.old 2 rfl).trans x2
  replace x5 := (A.old 5 rfl).trans x5
  replace x9 := (A.old 9 rfl).trans x9
  replace x10 := (A.old 10 rfl).trans x10
  replace x16 := (A.old 16 rfl).trans x16
  replace x39 := (A.old 39 rfl).trans x39
  replace x11 := (A.old 11 rfl).trans x11
  replace x12 := (A.old 12 rfl).trans x12
  have x56 : f10.eval (.tmp 56) = .bool false := A.has 9 56 rfl
  have lt_m5 := Ob.lt m5
  replace m5 := Ob.below m5 hb
  have lt_m9 := Ob.lt m9
  replace m9 := Ob.below m9 hb
  have lt_m11 := Ob.lt m11
  replace m11 := Ob.below m11 hb
  replace bl := (bl.trans (Below.mono hb bl.size))
  replace sz := A.size.trans sz
  replace df := A.defs.trans df
  clear A hb
  clear x5
  clear x12
  show Code.wp _ _ _ _ _
  refine wp_cond_false x56 ?_
  refine wp_skip ?_
  show Code.wp _ _ _ _ _
  refine wp_seq ?_
  -- R8
  refine wp_all_seq [.eq (.int .i64 0)] (by kernel_rfl) (by kernel_rfl) (by rw [sz]; kernel_rfl) (by kernel_rfl) ⟨fun hw ac u K => ?_, trivial⟩ ?_
  · exact st_assign (.const (.int .i64 0)) rfl rfl
  intro f11 w11 A hb
  replace bl0 := bl
  replace x1 := (A.old 1 rfl).trans x1
  replace x2 := (A.old 2 rfl).trans x2
  replace x9 := (A.old 9 rfl).trans x9
  clear x10
  replace x16 := (A.old 16 rfl).trans x16
  replace x39 := (A.old 39 rfl).trans x39
  replace x11 := (A.old 11 rfl).trans x11
  replace x56 := (A.old 56 rfl).trans x56
  have x10 : f11.eval (.tmp 10) = .int .i64 0 := A.has 0 10 rfl
  have lt_m5 := Ob.lt m5
  replace m5 := Ob.below m5 hb
  have lt_m9 := Ob.lt m9
  replace m9 := Ob.below m9 hb
  have lt_m11 := Ob.lt m11
  replace m11 := Ob.below m11 hb
  replace bl := (bl.trans (Below.mono hb bl.size))
  replace sz := A.size.trans sz
  replace df := A.defs.trans df
  clear A hb
  show Code.wp _ _ _ _ _
  refine wp_ret ?_
  repeat (first | with_reducible refine then_ret ?_ | with_reducible refine block_ret ?_)
  exact bodyPost_ret (v := .int .i64 0) (ret_slot rfl f11 _ x10 _ _) df ⟨rfl, bl⟩
theorem verify_ne {kind height : Nat} (h1 : 1 ≤ kind) (h2 : kind ≤ 2) (h3 : height ≤ 8) (i : Nat) (hi : i < 2 ^ height) {S P : List (List (BitVec 8))} {sA pA : Option Addr} {sC pC : Nat} {pb : List (BitVec 8)} (hpb : pb.length = 32) (hP : P.length = height) (w : World) (mv : Value) {msg : List (BitVec 8)} (hml : msg.length ≤ 900000) (vm : (Fk.sl msg).f mv w) (hK : Tab w) (vS : (Fk.hs S).f (.slice sA (S).length sC) w) (vP : (Fk.hs P).f (.slice pA (P).length pC) w) {h : List (BitVec 8)} (eh : Box (ms msg = h)) (hl : S.length = npt kind) (hup : up i P (lf (rcv kind h S)) P.length ≠ pb) :
    Calls Tryd.prog 21 #[.agg ((pb).map V).toArray, .int .i64 ((kind : Nat) : Int), .int .i64 ((height : Nat) : Int), mv, .agg ([.int .i64 ((kind : Nat) : Int), .int .i64 ((i : Nat) : Int), .slice sA (S).length sC, .slice pA (P).length pC] : List Value).toArray] w fun e w' => e = .returned (.int .i64 21) ∧ Below w.heap.size w w' := by
  have hh : h.length = 32 := by rw [← eh.out]; exact ms_len _
  obtain ⟨y, er⟩ : ∃ y, Box (rcv kind h S = y) := ⟨_, ⟨rfl⟩⟩
  have hy : y.length = 32 := by rw [← er.out]; exact rcv_len _ _ _
  obtain ⟨z, ez⟩ : ∃ z, Box (lf y = z) := ⟨_, ⟨rfl⟩⟩
  have hz1 : z.length = 32 := by rw [← ez.out]; exact lf_len _
  obtain ⟨q, eq⟩ : ∃ q, Box (up i P z P.length = q) := ⟨_, ⟨rfl⟩⟩
  have hq : q.length = 32 := by rw [← eq.out]; exact up_len _ _ _ hz1 _
  rw [er.out, ez.out, eq.out] at hup
  have hqp : q ≠ pb := hup
  clear hup
  go_enter Tryd.func21, Tryd.ntmps21
  refine code_both (fun f w1 => f.tmps.size = 57 ∧ f.defers = [] ∧ f.eval (.tmp 0) = .agg ((pb).map V).toArray ∧ f.eval (.tmp 1) = .int .i64 ((kind : Nat) : Int) ∧ f.eval (.tmp 2) = .int .i64 ((height : Nat) : Int) ∧ f.eval (.tmp 3) = mv ∧ f.eval (.tmp 4) = .agg ([.int .i64 ((kind : Nat) : Int), .int .i64 ((i : Nat) : Int), .slice sA (S).length sC, .slice pA (P).length pC] : List Value).toArray ∧ Below w.heap.size w (w1)) ⟨rfl, rfl, rfl, rfl, rfl, rfl, rfl, Below.refl _ _⟩ ?_
  rintro f0 w0 ⟨sz, df, x0, x1, x2, x3, x4, bl⟩
  have bl0 := bl
  refine wp_seq ?_
  -- R0
  refine wp_region_seq [] (by kernel_rfl) (by kernel_rfl) (by rw [sz]; kernel_rfl) (by kernel_rfl) trivial ?_
  intro f1 w1 A hb
  replace bl0 := bl
  replace x0 := (A.old 0 rfl).trans x0
  replace x1 := (A.old 1 rfl).trans x1
  replace x2 := (A.old 2 rfl).trans x2
  replace x3 := (A.old 3 rfl).trans x3
  replace x4 := (A.old 4 rfl).trans x4
  replace bl := (bl.trans (Below.mono hb bl.size))
  replace sz := A.size.trans sz
  replace df := A.defs.trans df
  clear A hb
  refine wl_one (.nw w1.heap.size 23 ((pb).map V)) rfl 5 rfl (by rw [sz]; decide) (st_box 23 (.tmp 0) rfl _ _ (by rw [show _ = _ from x0]; kernel_rfl) (Nat.le_refl _)) ?_
  intro f2 w2 df2 sz2 old2 new2 hb
  replace bl0 := bl
  replace x0 := (old2 0 rfl).trans x0
  replace x1 := (old2 1 rfl).trans x1
  replace x2 := (old2 2 rfl).trans x2
  replace x3 := (old2 3 rfl).trans x3
  replace x4 := (old2 4 rfl).trans x4
  have x5 : Fk.f (.nw w1.heap.size 23 ((pb).map V)) (f2.eval (.tmp 5)) w2 := new2
  replace bl := (bl.trans (Below.mono hb bl.size))
  replace sz := sz2.trans sz
  replace df := df2.trans df
  clear df2 sz2 old2 new2 hb
  obtain ⟨g5, hg5, e5, m5⟩ := x5
  have x5 := e5
  clear e5
  have hw5 : w.heap.size ≤ g5 := Nat.le_trans bl0.size hg5
  clear x0
  refine wl_one (.nw w2.heap.size 38 ([.int .i64 ((kind : Nat) : Int), .int .i64 ((i : Nat) : Int), .slice sA (S).length sC, .slice pA (P).length pC] : List Value)) rfl 9 rfl (by rw [sz]; decide) (st_box 38 (.tmp 4) rfl _ _ (by rw [show _ = _ from x4]; kernel_rfl) (Nat.le_refl _)) ?_
  intro f3 w3 df2 sz2 old2 new2 hb
  replace bl0 := bl
  replace x1 := (old2 1 rfl).trans x1
  replace x2 := (old2 2 rfl).trans x2
  replace x3 := (old2 3 rfl).trans x3
  replace x4 := (old2 4 rfl).trans x4
  replace x5 := (old2 5 rfl).trans x5
  have x9 : Fk.f (.nw w2.heap.size 38 ([.int .i64 ((kind : Nat) : Int), .int .i64 ((i : Nat) : Int), .slice sA (S).length sC, .slice pA (P).length pC] : List Value)) (f3.eval (.tmp 9)) w3 := new2
  have lt_m5 := Ob.lt m5
  replace m5 := Ob.below m5 hb
  replace bl := (bl.trans (Below.mono hb bl.size))
  replace sz := sz2.trans sz
  replace df := df2.trans df
  clear df2 sz2 old2 new2 hb
  obtain ⟨g9, hg9, e9, m9⟩ := x9
  have x9 := e9
  clear e9
  have nm5_9 : g5 ≠ g9 := Nat.ne_of_lt (Nat.lt_of_lt_of_le lt_m5 hg9)
  have hw9 : w.heap.size ≤ g9 := Nat.le_trans bl0.size hg9
  clear x4
  refine wl_one (.eq (.int .i64 0)) rfl 10 rfl (by rw [sz]; decide) (st_assign (.const (.int .i64 0)) rfl rfl) ?_
  intro f4 w4 df2 sz2 old2 new2 hb
  replace bl0 := bl
  replace x1 := (old2 1 rfl).trans x1
  replace x2 := (old2 2 rfl).trans x2
  replace x3 := (old2 3 rfl).trans x3
  replace x5 := (old2 5 rfl).trans x5
  replace x9 := (old2 9 rfl).trans x9
  have x10 : f4.eval (.tmp 10) = .int .i64 0 := new2
  have lt_m5 := Ob.lt m5
  replace m5 := Ob.below m5 hb
  have lt_m9 := Ob.lt m9
  replace m9 := Ob.below m9 hb
  replace bl := (bl.trans (Below.mono hb bl.size))
  replace sz := sz2.trans sz
  replace df := df2.trans df
  clear df2 sz2 old2 new2 hb
  refine wpList_nil ?_
  show Code.wp _ _ _ _ _
  refine wp_seq ?_
  refine wp_seq ?_
  -- R1
  refine wp_all_seq [.eq (.int .i64 ((kind : Nat) : Int)), .eq (.int .i64 ((height : Nat) : Int)), .eq (.bool true), .eq (.bool false)] (by kernel_rfl) (by kernel_rfl) (by rw [sz]; kernel_rfl) (by kernel_rfl) ⟨fun hw ac u K => ?_, fun hw ac u K => ?_, fun hw ac u K => ?_, fun hw ac u K => ?_, trivial⟩ ?_
  · exact st_move (.tmp 1) rfl ((K.old 1 rfl).trans x1)
  · exact st_move (.tmp 2) rfl ((K.old 2 rfl).trans x2)
  · exact st_call 34 (.func 34) _ _ #[.int .i64 ((kind : Nat) : Int), .int .i64 ((height : Nat) : Int)] rfl rfl (arg2 (K.dep 0 13 rfl) (K.dep 1 14 rfl)) Tryd.enter34 (fk_of (isKey_yes kind height h1 h2 h3 _))
  · exact st_not (.tmp 15) rfl true (K.dep 2 15 rfl)
  intro f5 w5 A hb
  replace bl0 := bl
  replace x1 := (A.old 1 rfl).trans x1
  replace x2 := (A.old 2 rfl).trans x2
  replace x3 := (A.old 3 rfl).trans x3
  replace x5 := (A.old 5 rfl).trans x5
  replace x9 := (A.old 9 rfl).trans x9
  replace x10 := (A.old 10 rfl).trans x10
  have x16 : f5.eval (.tmp 16) = .bool false := A.has 3 16 rfl
  have lt_m5 := Ob.lt m5
  replace m5 := Ob.below m5 hb
  have lt_m9 := Ob.lt m9
  replace m9 := Ob.below m9 hb
  replace bl := (bl.trans (Below.mono hb bl.size))
  replace sz := A.size.trans sz
  replace df := A.defs.trans df
  clear A hb
  show Code.wp _ _ _ _ _
  refine wp_cond_false x16 ?_
  refine wp_skip ?_
  show Code.wp _ _ _ _ _
  refine wp_seq ?_
  refine wp_seq ?_
  -- R3
  refine wp_all [.eq (.pointer (some ⟨g9, 0, none⟩)), .eq (.int .i64 ((kind : Nat) : Int)), .eq (.int .i64 ((kind : Nat) : Int)), .eq (.bool false), .eq (.bool false), .eq (.pointer (some ⟨g9, 1, none⟩)), .eq (.int .i64 ((i : Nat) : Int)), .eq (.bool false), .eq (.bool false), .eq (.bool false), .eq (.pointer (some ⟨g9, 1, none⟩)), .eq (.int .i64 ((i : Nat) : Int)), .eq (.int .i64 ((height : Nat) : Int)), .eq (.int .i64 ((2 ^ height : Nat) : Int)), .eq (.bool false), .eq (.bool false), .eq (.bool false), .eq (.pointer (some ⟨g9, 3, none⟩)), .eq (.slice pA (P).length pC), .eq (.int .i64 (((P).length : Nat) : Int)), .eq (.int .i64 ((height : Nat) : Int)), .eq (.bool false), .eq (.bool false)] Tryd.mixed (by kernel_rfl) (by kernel_rfl) (by rw [sz]; kernel_rfl) (by kernel_rfl) ⟨fun hw ac u K => ?_, fun hw ac u K => ?_, fun hw ac u K => ?_, fun hw ac u K => ?_, fun hw ac u K => ?_, fun hw ac u K => ?_, fun hw ac u K => ?_, fun hw ac u K => ?_, fun hw ac u K => ?_, fun hw ac u K => ?_, fun hw ac u K => ?_, fun hw ac u K => ?_, fun hw ac u K => ?_, fun hw ac u K => ?_, fun hw ac u K => ?_, fun hw ac u K => ?_, fun hw ac u K => ?_, fun hw ac u K => ?_, fun hw ac u K => ?_, fun hw ac u K => ?_, fun hw ac u K => ?_, fun hw ac u K => ?_, fun hw ac u K => ?_, trivial⟩ ?_
  · exact st_field 38 0 (.tmp 9) rfl ((K.old 9 rfl).trans x9) (by kernel_rfl)
  · exact st_loadc 3 (.tmp 17) rfl (by kernel_rfl) (K.dep 0 17 rfl) (Ob.cell (Ob.below m9 K.grow) 0 rfl)
  · exact st_move (.tmp 1) rfl ((K.old 1 rfl).trans x1)
  · exact st_neqi 3 (.tmp 18) (.tmp 19) rfl .i64 (((kind : Nat) : Int)) (((kind : Nat) : Int)) (K.dep 1 18 rfl) (K.dep 2 19 rfl) _ (by simp)
  · exact st_move (.tmp 20) rfl (K.dep 3 20 rfl)
  · exact st_field 38 1 (.tmp 9) rfl ((K.old 9 rfl).trans x9) (by kernel_rfl)
  · exact st_loadc 3 (.tmp 22) rfl (by kernel_rfl) (K.dep 5 22 rfl) (Ob.cell (Ob.below m9 K.grow) 1 rfl)
  · exact st_lss 3 (.tmp 23) (.const (.int .i64 0)) rfl .i64 (((i : Nat) : Int)) (0) (K.dep 6 23 rfl) rfl _ (by first | (simp; done) | (simp; omega))
  · exact st_pick_f' (.tmp 21) (.const (.bool true)) (.tmp 24) rfl (K.dep 4 21 rfl) (K.dep 7 24 rfl)
  · exact st_move (.tmp 25) rfl (K.dep 8 25 rfl)
  · exact st_field 38 1 (.tmp 9) rfl ((K.old 9 rfl).trans x9) (by kernel_rfl)
  · exact st_loadc 3 (.tmp 27) rfl (by kernel_rfl) (K.dep 10 27 rfl) (Ob.cell (Ob.below m9 K.grow) 1 rfl)
  · exact st_move (.tmp 2) rfl ((K.old 2 rfl).trans x2)
  · exact st_call 35 (.func 35) _ _ #[.int .i64 ((height : Nat) : Int)] rfl rfl (one_arg (K.dep 12 29 rfl)) Tryd.enter35 (fk_of (indexes_any height h3 _))
  · exact st_geq 3 (.tmp 28) (.tmp 30) rfl .i64 (((i : Nat) : Int)) (((2 ^ height : Nat) : Int)) (K.dep 11 28 rfl) (K.dep 13 30 rfl) _ (by rw [eq_comm, decide_eq_false_iff_not]; omega)
  · exact st_pick_f' (.tmp 26) (.const (.bool true)) (.tmp 31) rfl (K.dep 9 26 rfl) (K.dep 14 31 rfl)
  · exact st_move (.tmp 32) rfl (K.dep 15 32 rfl)
  · exact st_field 38 3 (.tmp 9) rfl ((K.old 9 rfl).trans x9) (by kernel_rfl)
  · exact st_loadc 32 (.tmp 34) rfl (by kernel_rfl) (K.dep 17 34 rfl) (Ob.cell (Ob.below m9 K.grow) 3 rfl)
  · exact st_lenh (.tmp 35) rfl (fk_val (K.dep 18 35 rfl) (Fk.mono _ _ _ _ vP (bl.trans (Below.mono K.grow bl.size))))
  · exact st_move (.tmp 2) rfl ((K.old 2 rfl).trans x2)
  · exact st_neqi 3 (.tmp 36) (.tmp 37) rfl .i64 ((((P).length : Nat) : Int)) (((height : Nat) : Int)) (K.dep 19 36 rfl) (K.dep 20 37 rfl) _ (by simp [hP])
  · exact st_pick_f' (.tmp 33) (.const (.bool true)) (.tmp 38) rfl (K.dep 16 33 rfl) (K.dep 21 38 rfl)
  intro f6 w6 A hb
  replace bl0 := bl
  replace x1 := (A.old 1 rfl).trans x1
  replace x2 := (A.old 2 rfl).trans x2
  replace x3 := (A.old 3 rfl).trans x3
  replace x5 := (A.old 5 rfl).trans x5
  replace x9 := (A.old 9 rfl).trans x9
  replace x10 := (A.old 10 rfl).trans x10
  replace x16 := (A.old 16 rfl).trans x16
  have x39 : f6.eval (.tmp 39) = .bool false := A.has 22 39 rfl
  have lt_m5 := Ob.lt m5
  replace m5 := Ob.below m5 hb
  have lt_m9 := Ob.lt m9
  replace m9 := Ob.below m9 hb
  replace bl := (bl.trans (Below.mono hb bl.size))
  replace sz := A.size.trans sz
  replace df := A.defs.trans df
  clear A hb
  show Code.wp _ _ _ _ _
  refine wp_cond_false x39 ?_
  refine wp_skip ?_
  show Code.wp _ _ _ _ _
  refine wp_seq ?_
  -- R5
  refine wp_region_late [.eq (.agg ([.int .i64 ((kind : Nat) : Int), .int .i64 ((i : Nat) : Int), .slice sA (S).length sC, .slice pA (P).length pC] : List Value).toArray), .eq (mv), .eq (.agg ((h).map V).toArray), .eq (.tuple #[.agg ((y).map V).toArray, .int .i64 0]), .eq (.tuple #[.agg ((y).map V).toArray, .int .i64 0]), .eq (.agg ((y).map V).toArray), .eq (.int .i64 0), .nw w6.heap.size 23 ((hz).map V)] 6 46 _ _ [9] Tryd.mixed (by kernel_rfl) (by kernel_rfl) (by kernel_rfl) (by kernel_rfl) (by kernel_rfl) rfl rfl (by kernel_rfl) rfl (by kernel_rfl) rfl (by rw [sz]; kernel_rfl) (by kernel_rfl) (fun ac u K => ⟨_, late_ext rfl (K.dep 4 40 rfl) rfl, rfl⟩) ⟨fun hw ac u K => ?_, fun hw ac u K => ?_, fun hw ac u K => ?_, fun hw ac u K => ?_, fun hw ac u K => ?_, fun hw ac u K => ?_, fun hw ac u K => ?_, fun hw ac u K => ?_, trivial⟩ ?_
  · exact st_loadz 38 (.tmp 9) rfl (g9) 0 [.int .i64 ((kind : Nat) : Int), .int .i64 ((i : Nat) : Int), .slice sA (S).length sC, .slice pA (P).length pC] (by kernel_rfl) (by kernel_rfl) ((K.old 9 rfl).trans x9) (Ob.range (Ob.below m9 K.grow) 0 _ (fun j v hj => by simpa using hj))
  · exact st_move (.tmp 3) rfl ((K.old 3 rfl).trans x3)
  · exact st_call 17 (.func 17) _ _ #[mv] rfl rfl (one_arg (K.dep 1 42 rfl)) Tryd.enter17 (fk_message hml (hK.below (bl.trans (Below.mono K.grow bl.size))) (Fk.mono _ _ _ _ vm (bl.trans (Below.mono K.grow bl.size))) eh)
  · exact st_call 50 (.func 50) _ _ #[.agg ([.int .i64 ((kind : Nat) : Int), .int .i64 ((i : Nat) : Int), .slice sA (S).length sC, .slice pA (P).length pC] : List Value).toArray, .agg ((h).map V).toArray] rfl rfl (arg2 (K.dep 0 41 rfl) (K.dep 2 43 rfl)) Tryd.enter50 (fk_of (recovered_ok h1 h2 _ hh hl _ (Fk.mono _ _ _ _ vS (bl.trans (Below.mono K.grow bl.size))) (Fk.mono _ _ _ _ vP (bl.trans (Below.mono K.grow bl.size))) (hK.below (bl.trans (Below.mono K.grow bl.size))) er))
  · exact st_move (.tmp 44) rfl (K.dep 3 44 rfl)
  · exact st_ext0 (.tmp 40) rfl (K.dep 4 40 rfl) rfl
  · exact st_ext1 (.tmp 40) rfl (K.dep 4 40 rfl) rfl
  · exact st_alloc23 rfl _ K.grow.size
  intro f7 w7 A hb
  replace bl0 := bl
  replace x1 := (A.old 1 rfl).trans x1
  replace x2 := (A.old 2 rfl).trans x2
  replace x3 := (A.old 3 rfl).trans x3
  replace x5 := (A.old 5 rfl).trans x5
  replace x9 := (A.old 9 rfl).trans x9
  replace x10 := (A.old 10 rfl).trans x10
  replace x16 := (A.old 16 rfl).trans x16
  replace x39 := (A.old 39 rfl).trans x39
  have x11 : Fk.f (.nw w6.heap.size 23 ((hz).map V)) (f7.eval (.tmp 11)) w7 := A.has 7 11 rfl
  have x45 : f7.eval (.tmp 45) = .agg ((y).map V).toArray := A.has 5 45 rfl
  have x46 : f7.eval (.tmp 46) = .int .i64 0 := A.has 6 46 rfl
  have lt_m5 := Ob.lt m5
  replace m5 := Ob.below m5 hb
  have lt_m9 := Ob.lt m9
  replace m9 := Ob.below m9 hb
  replace bl := (bl.trans (Below.mono hb bl.size))
  replace sz := A.size.trans sz
  replace df := A.defs.trans df
  clear A hb
  clear x3
  obtain ⟨g11, hg11, e11, m11⟩ := x11
  have x11 := e11
  clear e11
  have nm5_11 : g5 ≠ g11 := Nat.ne_of_lt (Nat.lt_of_lt_of_le lt_m5 hg11)
  have nm9_11 : g9 ≠ g11 := Nat.ne_of_lt (Nat.lt_of_lt_of_le lt_m9 hg11)
  have hw11 : w.heap.size ≤ g11 := Nat.le_trans bl0.size hg11
  refine ⟨_, run_store23 (.tmp 11) (.tmp 45) rfl (g11) (y) (hz) x11 x45 m11 hz_len hy, ?_⟩
  replace m5 : Ob (w7.setRow g11 ((y).map V : List Value).toArray) (g5) 23 ((pb).map V) := Ob.setRow_other m5 _ nm5_11
  replace m9 : Ob (w7.setRow g11 ((y).map V : List Value).toArray) (g9) 38 ([.int .i64 ((kind : Nat) : Int), .int .i64 ((i : Nat) : Int), .slice sA (S).length sC, .slice pA (P).length pC]) := Ob.setRow_other m9 _ nm9_11
  replace m11 : Ob (w7.setRow g11 ((y).map V : List Value).toArray) (g11) 23 ((y).map V) := Ob.setRow m11 ((y).map V)
  replace bl : Below w.heap.size w (w7.setRow g11 ((y).map V : List Value).toArray) := bl.trans (below_setRow _ _ _ _ hw11)
  generalize w7.setRow g11 ((y).map V : List Value).toArray = w8b at bl m5 m9 m11 ⊢
  clear x45
  refine wl_one (.eq (.int .i64 0)) rfl 12 rfl (by rw [sz]; decide) (st_assign (.tmp 46) rfl x46) ?_
  intro f9 w9 df2 sz2 old2 new2 hb
  replace bl0 := bl
  replace x1 := (old2 1 rfl).trans x1
  replace x2 := (old2 2 rfl).trans x2
  replace x5 := (old2 5 rfl).trans x5
  replace x9 := (old2 9 rfl).trans x9
  replace x10 := (old2 10 rfl).trans x10
  replace x16 := (old2 16 rfl).trans x16
  replace x39 := (old2 39 rfl).trans x39
  replace x11 := (old2 11 rfl).trans x11
  replace x46 := (old2 46 rfl).trans x46
  have x12 : f9.eval (.tmp 12) = .int .i64 0 := new2
  have lt_m5 := Ob.lt m5
  replace m5 := Ob.below m5 hb
  have lt_m9 := Ob.lt m9
  replace m9 := Ob.below m9 hb
  have lt_m11 := Ob.lt m11
  replace m11 := Ob.below m11 hb
  replace bl := (bl.trans (Below.mono hb bl.size))
  replace sz := sz2.trans sz
  replace df := df2.trans df
  clear df2 sz2 old2 new2 hb
  refine wpList_nil ?_
  clear x46
  show Code.wp _ _ _ _ _
  refine wp_seq ?_
  refine wp_seq ?_
  -- R6
  refine wp_all [.eq (.int .i64 0), .eq (.bool false), .eq (.bool false), .eq (.agg ([.int .i64 ((kind : Nat) : Int), .int .i64 ((i : Nat) : Int), .slice sA (S).length sC, .slice pA (P).length pC] : List Value).toArray), .sl (y), .eq (.agg ((z).map V).toArray), .eq (.agg ((q).map V).toArray), .eq (.agg ((pb).map V).toArray), .eq (.bool true), .eq (.bool true)] Tryd.mixed (by kernel_rfl) (by kernel_rfl) (by rw [sz]; kernel_rfl) (by kernel_rfl) ⟨fun hw ac u K => ?_, fun hw ac u K => ?_, fun hw ac u K => ?_, fun hw ac u K => ?_, fun hw ac u K => ?_, fun hw ac u K => ?_, fun hw ac u K => ?_, fun hw ac u K => ?_, fun hw ac u K => ?_, fun hw ac u K => ?_, trivial⟩ ?_
  · exact st_move (.tmp 12) rfl ((K.old 12 rfl).trans x12)
  · exact st_neqi 29 (.tmp 47) (.const (.int .i64 0)) rfl .i64 (0) (0) (K.dep 0 47 rfl) rfl _ (by rfl)
  · exact st_move (.tmp 48) rfl (K.dep 1 48 rfl)
  · exact st_loadz 38 (.tmp 9) rfl (g9) 0 [.int .i64 ((kind : Nat) : Int), .int .i64 ((i : Nat) : Int), .slice sA (S).length sC, .slice pA (P).length pC] (by kernel_rfl) (by kernel_rfl) ((K.old 9 rfl).trans x9) (Ob.range (Ob.below m9 K.grow) 0 _ (fun j v hj => by simpa using hj))
  · exact st_slice23 (.tmp 11) rfl (g11) 0 (y) ((K.old 11 rfl).trans x11) hy (Ob.lt (Ob.below m11 K.grow)) (HasV.bytes (Ob.below m11 K.grow))
  · exact st_call 24 (.func 24) _ _ #[ac.eval (.tmp 51)] rfl rfl (one_arg rfl) Tryd.enter24 (fk_leaf (by rw [hy]; omega) (hK.below (bl.trans (Below.mono K.grow bl.size))) (K.dep 4 51 rfl) ez)
  · exact st_call 51 (.func 51) _ _ #[.agg ([.int .i64 ((kind : Nat) : Int), .int .i64 ((i : Nat) : Int), .slice sA (S).length sC, .slice pA (P).length pC] : List Value).toArray, .agg ((z).map V).toArray] rfl rfl (arg2 (K.dep 3 50 rfl) (K.dep 5 52 rfl)) Tryd.enter51 (fk_of (ledUp_any _ i (Nat.le_of_lt (Nat.lt_of_lt_of_le hi (pow_le h3))) hz1 (by omega) _ (Fk.mono _ _ _ _ vS (bl.trans (Below.mono K.grow bl.size))) (Fk.mono _ _ _ _ vP (bl.trans (Below.mono K.grow bl.size))) (hK.below (bl.trans (Below.mono K.grow bl.size))) eq))
  · exact st_load23 (.tmp 5) rfl (g5) (pb) ((K.old 5 rfl).trans x5) hpb (Ob.below m5 K.grow)
  · exact st_neqh (.tmp 53) (.tmp 54) rfl (q) (pb) hq hpb (K.dep 6 53 rfl) (K.dep 7 54 rfl) _ (by simp [hqp])
  · exact st_pick_f' (.tmp 49) (.const (.bool true)) (.tmp 55) rfl (K.dep 2 49 rfl) (K.dep 8 55 rfl)
  intro f10 w10 A hb
  replace bl0 := bl
  replace x1 := (A.old 1 rfl).trans x1
  replace x2 := (A.old 2 rfl).trans x2
  replace x5 := (A.old 5 rfl).trans x5
  replace x9 := (A.old 9 rfl).trans x9
  replace x10 := (A.old 10 rfl).trans x10
  replace x16 := (A.old 16 rfl).trans x16
  replace x39 := (A.old 39 rfl).trans x39
  replace x11 := (A.old 11 rfl).trans x11
  replace x12 := (A.old 12 rfl).trans x12
  have x56 : f10.eval (.tmp 56) = .bool true := A.has 9 56 rfl
  have lt_m5 := Ob.lt m5
  replace m5 := Ob.below m5 hb
  have lt_m9 := Ob.lt m9
  replace m9 := Ob.below m9 hb
  have lt_m11 := Ob.lt m11
  replace m11 := Ob.below m11 hb
  replace bl := (bl.trans (Below.mono hb bl.size))
  replace sz := A.size.trans sz
  replace df := A.defs.trans df
  clear A hb
  clear x5
  clear x12
  show Code.wp _ _ _ _ _
  refine wp_cond_true x56 ?_
  refine wp_seq ?_
  -- R7
  refine wp_all_seq [.eq (.int .i64 21)] (by kernel_rfl) (by kernel_rfl) (by rw [sz]; kernel_rfl) (by kernel_rfl) ⟨fun hw ac u K => ?_, trivial⟩ ?_
  · exact st_assign (.const (.int .i64 21)) rfl rfl
  intro f11 w11 A hb
  replace bl0 := bl
  replace x1 := (A.old 1 rfl).trans x1
  replace x2 := (A.old 2 rfl).trans x2
  replace x9 := (A.old 9 rfl).trans x9
  clear x10
  replace x16 := (A.old 16 rfl).trans x16
  replace x39 := (A.old 39 rfl).trans x39
  replace x11 := (A.old 11 rfl).trans x11
  replace x56 := (A.old 56 rfl).trans x56
  have x10 : f11.eval (.tmp 10) = .int .i64 21 := A.has 0 10 rfl
  have lt_m5 := Ob.lt m5
  replace m5 := Ob.below m5 hb
  have lt_m9 := Ob.lt m9
  replace m9 := Ob.below m9 hb
  have lt_m11 := Ob.lt m11
  replace m11 := Ob.below m11 hb
  replace bl := (bl.trans (Below.mono hb bl.size))
  replace sz := A.size.trans sz
  replace df := A.defs.trans df
  clear A hb
  show Code.wp _ _ _ _ _
  refine wp_ret ?_
  repeat (first | with_reducible refine then_ret ?_ | with_reducible refine block_ret ?_)
  exact bodyPost_ret (v := .int .i64 21) (ret_slot rfl f11 _ x10 _ _) df ⟨rfl, bl⟩
theorem verify_any {kind height : Nat} (h1 : 1 ≤ kind) (h2 : kind ≤ 2) (h3 : height ≤ 8) (i : Nat) (hi : i < 2 ^ height) {S P : List (List (BitVec 8))} {sA pA : Option Addr} {sC pC : Nat} {pb : List (BitVec 8)} (hpb : pb.length = 32) (hP : P.length = height) (w : World) (mv : Value) {msg : List (BitVec 8)} (hml : msg.length ≤ 900000) (vm : (Fk.sl msg).f mv w) (hK : Tab w) (vS : (Fk.hs S).f (.slice sA (S).length sC) w) (vP : (Fk.hs P).f (.slice pA (P).length pC) w) {h : List (BitVec 8)} (eh : Box (ms msg = h)) (hl : S.length = npt kind) (vr : Int) (hvr : vr = if up i P (lf (rcv kind h S)) P.length = pb then 0 else 21) :
    Calls Tryd.prog 21 #[.agg ((pb).map V).toArray, .int .i64 ((kind : Nat) : Int), .int .i64 ((height : Nat) : Int), mv, .agg ([.int .i64 ((kind : Nat) : Int), .int .i64 ((i : Nat) : Int), .slice sA (S).length sC, .slice pA (P).length pC] : List Value).toArray] w fun e w' => e = .returned (.int .i64 vr) ∧ Below w.heap.size w w' := by
  by_cases hup : up i P (lf (rcv kind h S)) P.length = pb
  · rw [if_pos hup] at hvr
    subst hvr
    exact verify_yes h1 h2 h3 i hi hpb hP w mv hml vm hK vS vP eh hl hup
  · rw [if_neg hup] at hvr
    subst hvr
    exact verify_ne h1 h2 h3 i hi hpb hP w mv hml vm hK vS vP eh hl hup
end Go.Proofs.YtnanipeapjpkfaaDoor
