/- Restore refused, New, Next, Left, leaf. root, Public, parts. -/
import Derived.Test.YtnanipeapjpkfaaDoorM6
namespace Go.Proofs.YtnanipeapjpkfaaDoor
set_option maxRecDepth 100000
open Go.RowKit
theorem restore_no (seed : List (BitVec 8)) (kind height next : Int) (h : kind < 1 ∨ 2 < kind ∨ height < 0 ∨ 8 < height ∨ next < 0 ∨ ((2 ^ height.toNat : Nat) : Int) < next) (w : World) :
    Calls Tryd.prog 9 #[.agg ((seed).map V).toArray, .int .i64 kind, .int .i64 height, .int .i64 next] w fun e w' => e = .returned (.tuple #[.pointer none, .int .i64 11]) ∧ Below w.heap.size w w' := by
  go_enter Tryd.func9, Tryd.ntmps9
  refine code_both (fun f w1 => f.tmps.size = 30 ∧ f.defers = [] ∧ f.eval (.tmp 0) = .agg ((seed).map V).toArray ∧ f.eval (.tmp 1) = .int .i64 (kind) ∧ f.eval (.tmp 2) = .int .i64 (height) ∧ f.eval (.tmp 3) = .int .i64 (next) ∧ Below w.heap.size w (w1)) ⟨rfl, rfl, rfl, rfl, rfl, rfl, Below.refl _ _⟩ ?_
  rintro f0 w0 ⟨sz, df, x0, x1, x2, x3, bl⟩
  have bl0 := bl
  refine wp_seq ?_
  -- R0
  refine wp_region_seq [] (by kernel_rfl) (by kernel_rfl) (by rw [sz]; kernel_rfl) (by kernel_rfl) trivial ?_
  intro f1 w1 A hb
  replace bl0 := bl
  replace x0 := (A.old 0 rfl).trans x0
  replace x1 := (A.old 1 rfl).trans x1
  replace x2 := (A.old 2 rfl).trans x2
  replace x3 := (A.old 3 rfl).trans x3
  replace bl := (bl.trans (Below.mono hb bl.size))
  replace sz := A.size.trans sz
  replace df := A.defs.trans df
  clear A hb
  refine wl_one (.nw w1.heap.size 23 ((seed).map V)) rfl 4 rfl (by rw [sz]; decide) (st_box 23 (.tmp 0) rfl _ _ (by rw [show _ = _ from x0]; kernel_rfl) (Nat.le_refl _)) ?_
  intro f2 w2 df2 sz2 old2 new2 hb
  replace bl0 := bl
  replace x0 := (old2 0 rfl).trans x0
  replace x1 := (old2 1 rfl).trans x1
  replace x2 := (old2 2 rfl).trans x2
  replace x3 := (old2 3 rfl).trans x3
  have x4 : Fk.f (.nw w1.heap.size 23 ((seed).map V)) (f2.eval (.tmp 4)) w2 := new2
  replace bl := (bl.trans (Below.mono hb bl.size))
  replace sz := sz2.trans sz
  replace df := df2.trans df
  clear df2 sz2 old2 new2 hb
  obtain ⟨g4, hg4, e4, m4⟩ := x4
  have x4 := e4
  clear e4
  have hw4 : w.heap.size ≤ g4 := Nat.le_trans bl0.size hg4
  clear x0
  refine wl_one (.eq (.pointer none)) rfl 8 rfl (by rw [sz]; decide) (st_assign (.const (.pointer none)) rfl rfl) ?_
  intro f3 w3 df2 sz2 old2 new2 hb
  replace bl0 := bl
  replace x1 := (old2 1 rfl).trans x1
  replace x2 := (old2 2 rfl).trans x2
  replace x3 := (old2 3 rfl).trans x3
  replace x4 := (old2 4 rfl).trans x4
  have x8 : f3.eval (.tmp 8) = .pointer none := new2
  have lt_m4 := Ob.lt m4
  replace m4 := Ob.below m4 hb
  replace bl := (bl.trans (Below.mono hb bl.size))
  replace sz := sz2.trans sz
  replace df := df2.trans df
  clear df2 sz2 old2 new2 hb
  refine wl_one (.eq (.int .i64 0)) rfl 9 rfl (by rw [sz]; decide) (st_assign (.const (.int .i64 0)) rfl rfl) ?_
  intro f4 w4 df2 sz2 old2 new2 hb
  replace bl0 := bl
  replace x1 := (old2 1 rfl).trans x1
  replace x2 := (old2 2 rfl).trans x2
  replace x3 := (old2 3 rfl).trans x3
  replace x4 := (old2 4 rfl).trans x4
  replace x8 := (old2 8 rfl).trans x8
  have x9 : f4.eval (.tmp 9) = .int .i64 0 := new2
  have lt_m4 := Ob.lt m4
  replace m4 := Ob.below m4 hb
  replace bl := (bl.trans (Below.mono hb bl.size))
  replace sz := sz2.trans sz
  replace df := df2.trans df
  clear df2 sz2 old2 new2 hb
  refine wpList_nil ?_
  show Code.wp _ _ _ _ _
  refine wp_seq ?_
  refine wp_seq ?_
  have hc : (kind < 1 ∨ 2 < kind ∨ height < 0 ∨ 8 < height) ∨ (1 ≤ kind ∧ kind ≤ 2 ∧ 0 ≤ height ∧ height ≤ 8) := by omega
  rcases hc with hc | hc
  rotate_left
  · skip
    obtain ⟨k, rfl⟩ := Int.eq_ofNat_of_zero_le (show 0 ≤ kind by omega)
    obtain ⟨hh, rfl⟩ := Int.eq_ofNat_of_zero_le (show 0 ≤ height by omega)
    have hy := fun w => isKey_yes k hh (by omega) (by omega) (by omega) w
    by_cases hn : next < 0
    rotate_left
    · skip
      have hgt : ((2 ^ hh : Nat) : Int) < next := by
        rcases h with h | h | h | h | h | h
        all_goals first | omega | skip
        simpa using h
      -- R1
      refine wp_all_seq [.eq (.int .i64 ((k : Nat) : Int)), .eq (.int .i64 ((hh : Nat) : Int)), .eq (.bool true), .eq (.bool false), .eq (.bool false), .eq (.int .i64 (next)), .eq (.bool false), .eq (.bool false), .eq (.bool false), .eq (.int .i64 (next)), .eq (.int .i64 ((hh : Nat) : Int)), .eq (.int .i64 ((2 ^ hh : Nat) : Int)), .eq (.bool true), .eq (.bool true)] (by kernel_rfl) (by kernel_rfl) (by rw [sz]; kernel_rfl) (by kernel_rfl) ⟨fun hw ac u K => ?_, fun hw ac u K => ?_, fun hw ac u K => ?_, fun hw ac u K => ?_, fun hw ac u K => ?_, fun hw ac u K => ?_, fun hw ac u K => ?_, fun hw ac u K => ?_, fun hw ac u K => ?_, fun hw ac u K => ?_, fun hw ac u K => ?_, fun hw ac u K => ?_, fun hw ac u K => ?_, fun hw ac u K => ?_, trivial⟩ ?_
      · exact st_move (.tmp 1) rfl ((K.old 1 rfl).trans x1)
      · exact st_move (.tmp 2) rfl ((K.old 2 rfl).trans x2)
      · exact st_call 34 (.func 34) _ _ #[.int .i64 ((k : Nat) : Int), .int .i64 ((hh : Nat) : Int)] rfl rfl (arg2 (K.dep 0 10 rfl) (K.dep 1 11 rfl)) Tryd.enter34 (fk_of (hy _))
      · exact st_not (.tmp 12) rfl true (K.dep 2 12 rfl)
      · exact st_move (.tmp 13) rfl (K.dep 3 13 rfl)
      · exact st_move (.tmp 3) rfl ((K.old 3 rfl).trans x3)
      · exact st_lss 3 (.tmp 15) (.const (.int .i64 0)) rfl .i64 ((next)) (0) (K.dep 5 15 rfl) rfl _ (by rw [eq_comm, decide_eq_false_iff_not]; omega)
      · exact st_pick_f' (.tmp 14) (.const (.bool true)) (.tmp 16) rfl (K.dep 4 14 rfl) (K.dep 6 16 rfl)
      · exact st_move (.tmp 17) rfl (K.dep 7 17 rfl)
      · exact st_move (.tmp 3) rfl ((K.old 3 rfl).trans x3)
      · exact st_move (.tmp 2) rfl ((K.old 2 rfl).trans x2)
      · exact st_call 35 (.func 35) _ _ #[.int .i64 ((hh : Nat) : Int)] rfl rfl (one_arg (K.dep 10 20 rfl)) Tryd.enter35 (fk_of (indexes_any hh (by omega) _))
      · exact st_gtr 3 (.tmp 19) (.tmp 21) rfl .i64 ((next)) (((2 ^ hh : Nat) : Int)) (K.dep 9 19 rfl) (K.dep 11 21 rfl) _ (by rw [eq_comm, decide_eq_true_iff]; exact hgt)
      · exact st_pick_f' (.tmp 18) (.const (.bool true)) (.tmp 22) rfl (K.dep 8 18 rfl) (K.dep 12 22 rfl)
      intro f5 w5 A hb
      replace bl0 := bl
      replace x1 := (A.old 1 rfl).trans x1
      replace x2 := (A.old 2 rfl).trans x2
      replace x3 := (A.old 3 rfl).trans x3
      replace x4 := (A.old 4 rfl).trans x4
      replace x8 := (A.old 8 rfl).trans x8
      replace x9 := (A.old 9 rfl).trans x9
      have x23 : f5.eval (.tmp 23) = .bool true := A.has 13 23 rfl
      have lt_m4 := Ob.lt m4
      replace m4 := Ob.below m4 hb
      replace bl := (bl.trans (Below.mono hb bl.size))
      replace sz := A.size.trans sz
      replace df := A.defs.trans df
      clear A hb
      show Code.wp _ _ _ _ _
      refine wp_cond_true x23 ?_
      refine wp_seq ?_
      -- R2
      refine wp_all_seq [.eq (.pointer none), .eq (.int .i64 11)] (by kernel_rfl) (by kernel_rfl) (by rw [sz]; kernel_rfl) (by kernel_rfl) ⟨fun hw ac u K => ?_, fun hw ac u K => ?_, trivial⟩ ?_
      · exact st_assign (.const (.pointer none)) rfl rfl
      · exact st_assign (.const (.int .i64 11)) rfl rfl
      intro f6 w6 A hb
      replace bl0 := bl
      replace x1 := (A.old 1 rfl).trans x1
      replace x2 := (A.old 2 rfl).trans x2
      replace x3 := (A.old 3 rfl).trans x3
      replace x4 := (A.old 4 rfl).trans x4
      clear x8
      clear x9
      replace x23 := (A.old 23 rfl).trans x23
      have x8 : f6.eval (.tmp 8) = .pointer none := A.has 0 8 rfl
      have x9 : f6.eval (.tmp 9) = .int .i64 11 := A.has 1 9 rfl
      have lt_m4 := Ob.lt m4
      replace m4 := Ob.below m4 hb
      replace bl := (bl.trans (Below.mono hb bl.size))
      replace sz := A.size.trans sz
      replace df := A.defs.trans df
      clear A hb
      show Code.wp _ _ _ _ _
      refine wp_ret ?_
      repeat (first | with_reducible refine then_ret ?_ | with_reducible refine block_ret ?_)
      exact bodyPost_ret (v := .tuple #[.pointer none, .int .i64 11]) (ret_two rfl f6 _ _ x8 x9 _ _) df ⟨rfl, bl⟩
    -- R1
    refine wp_all_seq [.eq (.int .i64 ((k : Nat) : Int)), .eq (.int .i64 ((hh : Nat) : Int)), .eq (.bool true), .eq (.bool false), .eq (.bool false), .eq (.int .i64 (next)), .eq (.bool true), .eq (.bool true), .eq (.bool true), .any, .any, .any, .any, .eq (.bool true)] (by kernel_rfl) (by kernel_rfl) (by rw [sz]; kernel_rfl) (by kernel_rfl) ⟨fun hw ac u K => ?_, fun hw ac u K => ?_, fun hw ac u K => ?_, fun hw ac u K => ?_, fun hw ac u K => ?_, fun hw ac u K => ?_, fun hw ac u K => ?_, fun hw ac u K => ?_, fun hw ac u K => ?_, fun hw ac u K => ?_, fun hw ac u K => ?_, fun hw ac u K => ?_, fun hw ac u K => ?_, fun hw ac u K => ?_, trivial⟩ ?_
    · exact st_move (.tmp 1) rfl ((K.old 1 rfl).trans x1)
    · exact st_move (.tmp 2) rfl ((K.old 2 rfl).trans x2)
    · exact st_call 34 (.func 34) _ _ #[.int .i64 ((k : Nat) : Int), .int .i64 ((hh : Nat) : Int)] rfl rfl (arg2 (K.dep 0 10 rfl) (K.dep 1 11 rfl)) Tryd.enter34 (fk_of (hy _))
    · exact st_not (.tmp 12) rfl true (K.dep 2 12 rfl)
    · exact st_move (.tmp 13) rfl (K.dep 3 13 rfl)
    · exact st_move (.tmp 3) rfl ((K.old 3 rfl).trans x3)
    · exact st_lss 3 (.tmp 15) (.const (.int .i64 0)) rfl .i64 ((next)) (0) (K.dep 5 15 rfl) rfl _ (by rw [eq_comm, decide_eq_true_iff]; omega)
    · exact st_pick_f' (.tmp 14) (.const (.bool true)) (.tmp 16) rfl (K.dep 4 14 rfl) (K.dep 6 16 rfl)
    · exact st_move (.tmp 17) rfl (K.dep 7 17 rfl)
    · exact (Bool.false_ne_true hw).elim
    · exact (Bool.false_ne_true hw).elim
    · exact (Bool.false_ne_true hw).elim
    · exact (Bool.false_ne_true hw).elim
    · exact st_pick_t (.tmp 18) (.const (.bool true)) (.tmp 22) rfl (K.dep 8 18 rfl) rfl
    intro f5 w5 A hb
    replace bl0 := bl
    replace x1 := (A.old 1 rfl).trans x1
    replace x2 := (A.old 2 rfl).trans x2
    replace x3 := (A.old 3 rfl).trans x3
    replace x4 := (A.old 4 rfl).trans x4
    replace x8 := (A.old 8 rfl).trans x8
    replace x9 := (A.old 9 rfl).trans x9
    have x23 : f5.eval (.tmp 23) = .bool true := A.has 13 23 rfl
    have lt_m4 := Ob.lt m4
    replace m4 := Ob.below m4 hb
    replace bl := (bl.trans (Below.mono hb bl.size))
    replace sz := A.size.trans sz
    replace df := A.defs.trans df
    clear A hb
    show Code.wp _ _ _ _ _
    refine wp_cond_true x23 ?_
    refine wp_seq ?_
    -- R2
    refine wp_all_seq [.eq (.pointer none), .eq (.int .i64 11)] (by kernel_rfl) (by kernel_rfl) (by rw [sz]; kernel_rfl) (by kernel_rfl) ⟨fun hw ac u K => ?_, fun hw ac u K => ?_, trivial⟩ ?_
    · exact st_assign (.const (.pointer none)) rfl rfl
    · exact st_assign (.const (.int .i64 11)) rfl rfl
    intro f6 w6 A hb
    replace bl0 := bl
    replace x1 := (A.old 1 rfl).trans x1
    replace x2 := (A.old 2 rfl).trans x2
    replace x3 := (A.old 3 rfl).trans x3
    replace x4 := (A.old 4 rfl).trans x4
    clear x8
    clear x9
    replace x23 := (A.old 23 rfl).trans x23
    have x8 : f6.eval (.tmp 8) = .pointer none := A.has 0 8 rfl
    have x9 : f6.eval (.tmp 9) = .int .i64 11 := A.has 1 9 rfl
    have lt_m4 := Ob.lt m4
    replace m4 := Ob.below m4 hb
    replace bl := (bl.trans (Below.mono hb bl.size))
    replace sz := A.size.trans sz
    replace df := A.defs.trans df
    clear A hb
    show Code.wp _ _ _ _ _
    refine wp_ret ?_
    repeat (first | with_reducible refine then_ret ?_ | with_reducible refine block_ret ?_)
    exact bodyPost_ret (v := .tuple #[.pointer none, .int .i64 11]) (ret_two rfl f6 _ _ x8 x9 _ _) df ⟨rfl, bl⟩
  -- R1
  refine wp_all_seq [.eq (.int .i64 (kind)), .eq (.int .i64 (height)), .eq (.bool false), .eq (.bool true), .eq (.bool true), .any, .any, .eq (.bool true), .eq (.bool true), .any, .any, .any, .any, .eq (.bool true)] (by kernel_rfl) (by kernel_rfl) (by rw [sz]; kernel_rfl) (by kernel_rfl) ⟨fun hw ac u K => ?_, fun hw ac u K => ?_, fun hw ac u K => ?_, fun hw ac u K => ?_, fun hw ac u K => ?_, fun hw ac u K => ?_, fun hw ac u K => ?_, fun hw ac u K => ?_, fun hw ac u K => ?_, fun hw ac u K => ?_, fun hw ac u K => ?_, fun hw ac u K => ?_, fun hw ac u K => ?_, fun hw ac u K => ?_, trivial⟩ ?_
  · exact st_move (.tmp 1) rfl ((K.old 1 rfl).trans x1)
  · exact st_move (.tmp 2) rfl ((K.old 2 rfl).trans x2)
  · exact st_call 34 (.func 34) _ _ #[.int .i64 (kind), .int .i64 (height)] rfl rfl (arg2 (K.dep 0 10 rfl) (K.dep 1 11 rfl)) Tryd.enter34 (fk_of (isKey_no kind height hc _))
  · exact st_not (.tmp 12) rfl false (K.dep 2 12 rfl)
  · exact st_move (.tmp 13) rfl (K.dep 3 13 rfl)
  · exact (Bool.false_ne_true hw).elim
  · exact (Bool.false_ne_true hw).elim
  · exact st_pick_t (.tmp 14) (.const (.bool true)) (.tmp 16) rfl (K.dep 4 14 rfl) rfl
  · exact st_move (.tmp 17) rfl (K.dep 7 17 rfl)
  · exact (Bool.false_ne_true hw).elim
  · exact (Bool.false_ne_true hw).elim
  · exact (Bool.false_ne_true hw).elim
  · exact (Bool.false_ne_true hw).elim
  · exact st_pick_t (.tmp 18) (.const (.bool true)) (.tmp 22) rfl (K.dep 8 18 rfl) rfl
  intro f5 w5 A hb
  replace bl0 := bl
  replace x1 := (A.old 1 rfl).trans x1
  replace x2 := (A.old 2 rfl).trans x2
  replace x3 := (A.old 3 rfl).trans x3
  replace x4 := (A.old 4 rfl).trans x4
  replace x8 := (A.old 8 rfl).trans x8
  replace x9 := (A.old 9 rfl).trans x9
  have x23 : f5.eval (.tmp 23) = .bool true := A.has 13 23 rfl
  have lt_m4 := Ob.lt m4
  replace m4 := Ob.below m4 hb
  replace bl := (bl.trans (Below.mono hb bl.size))
  replace sz := A.size.trans sz
  replace df := A.defs.trans df
  clear A hb
  show Code.wp _ _ _ _ _
  refine wp_cond_true x23 ?_
  refine wp_seq ?_
  -- R2
  refine wp_all_seq [.eq (.pointer none), .eq (.int .i64 11)] (by kernel_rfl) (by kernel_rfl) (by rw [sz]; kernel_rfl) (by kernel_rfl) ⟨fun hw ac u K => ?_, fun hw ac u K => ?_, trivial⟩ ?_
  · exact st_assign (.const (.pointer none)) rfl rfl
  · exact st_assign (.const (.int .i64 11)) rfl rfl
  intro f6 w6 A hb
  replace bl0 := bl
  replace x1 := (A.old 1 rfl).trans x1
  replace x2 := (A.old 2 rfl).trans x2
  replace x3 := (A.old 3 rfl).trans x3
  replace x4 := (A.old 4 rfl).trans x4
  clear x8
  clear x9
  replace x23 := (A.old 23 rfl).trans x23
  have x8 : f6.eval (.tmp 8) = .pointer none := A.has 0 8 rfl
  have x9 : f6.eval (.tmp 9) = .int .i64 11 := A.has 1 9 rfl
  have lt_m4 := Ob.lt m4
  replace m4 := Ob.below m4 hb
  replace bl := (bl.trans (Below.mono hb bl.size))
  replace sz := A.size.trans sz
  replace df := A.defs.trans df
  clear A hb
  show Code.wp _ _ _ _ _
  refine wp_ret ?_
  repeat (first | with_reducible refine then_ret ?_ | with_reducible refine block_ret ?_)
  exact bodyPost_ret (v := .tuple #[.pointer none, .int .i64 11]) (ret_two rfl f6 _ _ x8 x9 _ _) df ⟨rfl, bl⟩
theorem new_ok (seed : List (BitVec 8)) (kind height : Nat) (hx : seed.length = 32) (h1 : 1 ≤ kind) (h2 : kind ≤ 2) (h3 : height ≤ 8) (w : World) :
    Calls Tryd.prog 33 #[.agg ((seed).map V).toArray, .int .i64 ((kind : Nat) : Int), .int .i64 ((height : Nat) : Int)] w fun e w' => ∃ g, e = .returned (.tuple #[.pointer (some ⟨g, 0, none⟩), .int .i64 0]) ∧ Ob w' g 69 ((seed).map V ++ ([.int .i64 ((kind : Nat) : Int), .int .i64 ((height : Nat) : Int), .int .i64 0] : List Value)) ∧ w.heap.size ≤ g ∧ Below w.heap.size w w' := by
  go_enter Tryd.func33, Tryd.ntmps33
  refine code_both (fun f w1 => f.tmps.size = 14 ∧ f.defers = [] ∧ f.eval (.tmp 0) = .agg ((seed).map V).toArray ∧ f.eval (.tmp 1) = .int .i64 ((kind : Nat) : Int) ∧ f.eval (.tmp 2) = .int .i64 ((height : Nat) : Int) ∧ Below w.heap.size w (w1)) ⟨rfl, rfl, rfl, rfl, rfl, Below.refl _ _⟩ ?_
  rintro f0 w0 ⟨sz, df, x0, x1, x2, bl⟩
  have bl0 := bl
  refine wp_seq ?_
  -- R0
  refine wp_region_seq [] (by kernel_rfl) (by kernel_rfl) (by rw [sz]; kernel_rfl) (by kernel_rfl) trivial ?_
  intro f1 w1 A hb
  replace bl0 := bl
  replace x0 := (A.old 0 rfl).trans x0
  replace x1 := (A.old 1 rfl).trans x1
  replace x2 := (A.old 2 rfl).trans x2
  replace bl := (bl.trans (Below.mono hb bl.size))
  replace sz := A.size.trans sz
  replace df := A.defs.trans df
  clear A hb
  refine wl_one (.nw w1.heap.size 23 ((seed).map V)) rfl 3 rfl (by rw [sz]; decide) (st_box 23 (.tmp 0) rfl _ _ (by rw [show _ = _ from x0]; kernel_rfl) (Nat.le_refl _)) ?_
  intro f2 w2 df2 sz2 old2 new2 hb
  replace bl0 := bl
  replace x0 := (old2 0 rfl).trans x0
  replace x1 := (old2 1 rfl).trans x1
  replace x2 := (old2 2 rfl).trans x2
  have x3 : Fk.f (.nw w1.heap.size 23 ((seed).map V)) (f2.eval (.tmp 3)) w2 := new2
  replace bl := (bl.trans (Below.mono hb bl.size))
  replace sz := sz2.trans sz
  replace df := df2.trans df
  clear df2 sz2 old2 new2 hb
  obtain ⟨g3, hg3, e3, m3⟩ := x3
  have x3 := e3
  clear e3
  have hw3 : w.heap.size ≤ g3 := Nat.le_trans bl0.size hg3
  clear x0
  refine wl_one (.eq (.pointer none)) rfl 6 rfl (by rw [sz]; decide) (st_assign (.const (.pointer none)) rfl rfl) ?_
  intro f3 w3 df2 sz2 old2 new2 hb
  replace bl0 := bl
  replace x1 := (old2 1 rfl).trans x1
  replace x2 := (old2 2 rfl).trans x2
  replace x3 := (old2 3 rfl).trans x3
  have x6 : f3.eval (.tmp 6) = .pointer none := new2
  have lt_m3 := Ob.lt m3
  replace m3 := Ob.below m3 hb
  replace bl := (bl.trans (Below.mono hb bl.size))
  replace sz := sz2.trans sz
  replace df := df2.trans df
  clear df2 sz2 old2 new2 hb
  refine wl_one (.eq (.int .i64 0)) rfl 7 rfl (by rw [sz]; decide) (st_assign (.const (.int .i64 0)) rfl rfl) ?_
  intro f4 w4 df2 sz2 old2 new2 hb
  replace bl0 := bl
  replace x1 := (old2 1 rfl).trans x1
  replace x2 := (old2 2 rfl).trans x2
  replace x3 := (old2 3 rfl).trans x3
  replace x6 := (old2 6 rfl).trans x6
  have x7 : f4.eval (.tmp 7) = .int .i64 0 := new2
  have lt_m3 := Ob.lt m3
  replace m3 := Ob.below m3 hb
  replace bl := (bl.trans (Below.mono hb bl.size))
  replace sz := sz2.trans sz
  replace df := df2.trans df
  clear df2 sz2 old2 new2 hb
  refine wpList_nil ?_
  show Code.wp _ _ _ _ _
  refine wp_seq ?_
  -- R1
  refine wp_all_seq [.eq (.agg ((seed).map V).toArray), .eq (.int .i64 ((kind : Nat) : Int)), .eq (.int .i64 ((height : Nat) : Int)), .t2 (.nw w4.heap.size 69 ((seed).map V ++ ([.int .i64 ((kind : Nat) : Int), .int .i64 ((height : Nat) : Int), .int .i64 0] : List Value))) (.int .i64 0), .nw w4.heap.size 69 ((seed).map V ++ ([.int .i64 ((kind : Nat) : Int), .int .i64 ((height : Nat) : Int), .int .i64 0] : List Value)), .eq (.int .i64 0), .nw w4.heap.size 69 ((seed).map V ++ ([.int .i64 ((kind : Nat) : Int), .int .i64 ((height : Nat) : Int), .int .i64 0] : List Value)), .eq (.int .i64 0)] (by kernel_rfl) (by kernel_rfl) (by rw [sz]; kernel_rfl) (by kernel_rfl) ⟨fun hw ac u K => ?_, fun hw ac u K => ?_, fun hw ac u K => ?_, fun hw ac u K => ?_, fun hw ac u K => ?_, fun hw ac u K => ?_, fun hw ac u K => ?_, fun hw ac u K => ?_, trivial⟩ ?_
  · exact st_load23 (.tmp 3) rfl (g3) (seed) ((K.old 3 rfl).trans x3) hx (Ob.below m3 K.grow)
  · exact st_move (.tmp 1) rfl ((K.old 1 rfl).trans x1)
  · exact st_move (.tmp 2) rfl ((K.old 2 rfl).trans x2)
  · exact st_call 9 (.func 9) _ _ #[.agg ((seed).map V).toArray, .int .i64 ((kind : Nat) : Int), .int .i64 ((height : Nat) : Int), .int .i64 0] rfl rfl (arg4 (K.dep 0 8 rfl) (K.dep 1 9 rfl) (K.dep 2 10 rfl) rfl) Tryd.enter9 (fk_nw K.grow.size (by exact restore_ok seed kind height 0 hx h1 h2 h3 (Nat.zero_le _) _))
  · exact st_t2a (.tmp 11) rfl (K.dep 3 11 rfl)
  · exact st_t2b (.tmp 11) rfl (K.dep 3 11 rfl)
  · exact st_assign (.tmp 12) rfl (K.dep 4 12 rfl)
  · exact st_assign (.tmp 13) rfl (K.dep 5 13 rfl)
  intro f5 w5 A hb
  replace bl0 := bl
  replace x1 := (A.old 1 rfl).trans x1
  replace x2 := (A.old 2 rfl).trans x2
  replace x3 := (A.old 3 rfl).trans x3
  clear x6
  clear x7
  have x6 : Fk.f (.nw w4.heap.size 69 ((seed).map V ++ ([.int .i64 ((kind : Nat) : Int), .int .i64 ((height : Nat) : Int), .int .i64 0] : List Value))) (f5.eval (.tmp 6)) w5 := A.has 6 6 rfl
  have x7 : f5.eval (.tmp 7) = .int .i64 0 := A.has 7 7 rfl
  have lt_m3 := Ob.lt m3
  replace m3 := Ob.below m3 hb
  replace bl := (bl.trans (Below.mono hb bl.size))
  replace sz := A.size.trans sz
  replace df := A.defs.trans df
  clear A hb
  clear x1
  clear x2
  clear x3
  obtain ⟨g6, hg6, e6, m6⟩ := x6
  have x6 := e6
  clear e6
  have nm3_6 : g3 ≠ g6 := Nat.ne_of_lt (Nat.lt_of_lt_of_le lt_m3 hg6)
  have hw6 : w.heap.size ≤ g6 := Nat.le_trans bl0.size hg6
  show Code.wp _ _ _ _ _
  refine wp_ret ?_
  repeat (first | with_reducible refine then_ret ?_ | with_reducible refine block_ret ?_)
  exact bodyPost_ret (v := .tuple #[.pointer (some ⟨g6, 0, none⟩), .int .i64 0]) (ret_two rfl f5 _ _ x6 x7 _ _) df ⟨g6, rfl, m6, hw6, bl⟩
theorem next_any {kb kind height next : Nat} {seed : List (BitVec 8)} (hx : seed.length = 32) (w : World) (hk : Ob w kb 69 ((seed).map V ++ ([.int .i64 ((kind : Nat) : Int), .int .i64 ((height : Nat) : Int), .int .i64 ((next : Nat) : Int)] : List Value))) :
    Calls Tryd.prog 15 #[.pointer (some ⟨kb, 0, none⟩)] w fun e w' => e = .returned (.int .i64 ((next : Nat) : Int)) ∧ Below w.heap.size w w' := by
  go_enter Tryd.func15, Tryd.ntmps15
  refine code_both (fun f w1 => f.tmps.size = 7 ∧ f.defers = [] ∧ f.eval (.tmp 0) = .pointer (some ⟨kb, 0, none⟩) ∧ Below w.heap.size w (w1)) ⟨rfl, rfl, rfl, Below.refl _ _⟩ ?_
  rintro f0 w0 ⟨sz, df, x0, bl⟩
  have bl0 := bl
  refine wp_seq ?_
  -- R0
  refine wp_all_seq [.eq (.int .i64 0)] (by kernel_rfl) (by kernel_rfl) (by rw [sz]; kernel_rfl) (by kernel_rfl) ⟨fun hw ac u K => ?_, trivial⟩ ?_
  · exact st_assign (.const (.int .i64 0)) rfl rfl
  intro f1 w1 A hb
  replace bl0 := bl
  replace x0 := (A.old 0 rfl).trans x0
  have x2 : f1.eval (.tmp 2) = .int .i64 0 := A.has 0 2 rfl
  replace bl := (bl.trans (Below.mono hb bl.size))
  replace sz := A.size.trans sz
  replace df := A.defs.trans df
  clear A hb
  show Code.wp _ _ _ _ _
  refine wp_seq ?_
  -- R1
  refine wp_all_seq [.eq (.pointer (some ⟨kb, 0, none⟩)), .eq (.pointer (some ⟨kb, 0, none⟩)), .eq (.pointer (some ⟨kb, 34, none⟩)), .eq (.int .i64 ((next : Nat) : Int)), .eq (.int .i64 ((next : Nat) : Int))] (by kernel_rfl) (by kernel_rfl) (by rw [sz]; kernel_rfl) (by kernel_rfl) ⟨fun hw ac u K => ?_, fun hw ac u K => ?_, fun hw ac u K => ?_, fun hw ac u K => ?_, fun hw ac u K => ?_, trivial⟩ ?_
  · exact st_move (.tmp 0) rfl ((K.old 0 rfl).trans x0)
  · exact st_nil (.tmp 3) rfl (K.dep 0 3 rfl)
  · exact st_field 69 3 (.tmp 4) rfl (K.dep 1 4 rfl) (by kernel_rfl)
  · exact st_loadc 3 (.tmp 5) rfl (by kernel_rfl) (K.dep 2 5 rfl) (Ob.cell (Ob.below hk (bl.trans (Below.mono K.grow bl.size))) 34 ((at_head hx 2 _).trans rfl))
  · exact st_assign (.tmp 6) rfl (K.dep 3 6 rfl)
  intro f2 w2 A hb
  replace bl0 := bl
  replace x0 := (A.old 0 rfl).trans x0
  clear x2
  have x2 : f2.eval (.tmp 2) = .int .i64 ((next : Nat) : Int) := A.has 4 2 rfl
  replace bl := (bl.trans (Below.mono hb bl.size))
  replace sz := A.size.trans sz
  replace df := A.defs.trans df
  clear A hb
  clear x0
  show Code.wp _ _ _ _ _
  refine wp_ret ?_
  repeat (first | with_reducible refine then_ret ?_ | with_reducible refine block_ret ?_)
  exact bodyPost_ret (v := .int .i64 ((next : Nat) : Int)) (ret_slot rfl f2 _ x2 _ _) df ⟨rfl, bl⟩
theorem left_any {kb kind height next : Nat} {seed : List (BitVec 8)} (hx : seed.length = 32) (w : World) (h3 : height ≤ 8) (h4 : next ≤ 2 ^ height) (hk : Ob w kb 69 ((seed).map V ++ ([.int .i64 ((kind : Nat) : Int), .int .i64 ((height : Nat) : Int), .int .i64 ((next : Nat) : Int)] : List Value))) :
    Calls Tryd.prog 14 #[.pointer (some ⟨kb, 0, none⟩)] w fun e w' => e = .returned (.int .i64 ((2 ^ height - next : Nat) : Int)) ∧ Below w.heap.size w w' := by
  go_enter Tryd.func14, Tryd.ntmps14
  refine code_both (fun f w1 => f.tmps.size = 13 ∧ f.defers = [] ∧ f.eval (.tmp 0) = .pointer (some ⟨kb, 0, none⟩) ∧ Below w.heap.size w (w1)) ⟨rfl, rfl, rfl, Below.refl _ _⟩ ?_
  rintro f0 w0 ⟨sz, df, x0, bl⟩
  have bl0 := bl
  refine wp_seq ?_
  -- R0
  refine wp_all_seq [.eq (.int .i64 0)] (by kernel_rfl) (by kernel_rfl) (by rw [sz]; kernel_rfl) (by kernel_rfl) ⟨fun hw ac u K => ?_, trivial⟩ ?_
  · exact st_assign (.const (.int .i64 0)) rfl rfl
  intro f1 w1 A hb
  replace bl0 := bl
  replace x0 := (A.old 0 rfl).trans x0
  have x2 : f1.eval (.tmp 2) = .int .i64 0 := A.has 0 2 rfl
  replace bl := (bl.trans (Below.mono hb bl.size))
  replace sz := A.size.trans sz
  replace df := A.defs.trans df
  clear A hb
  show Code.wp _ _ _ _ _
  refine wp_seq ?_
  -- R1
  refine wp_all [.eq (.pointer (some ⟨kb, 0, none⟩)), .eq (.pointer (some ⟨kb, 0, none⟩)), .eq (.pointer (some ⟨kb, 33, none⟩)), .eq (.int .i64 ((height : Nat) : Int)), .eq (.int .i64 ((2 ^ height : Nat) : Int)), .eq (.pointer (some ⟨kb, 0, none⟩)), .eq (.pointer (some ⟨kb, 0, none⟩)), .eq (.pointer (some ⟨kb, 34, none⟩)), .eq (.int .i64 ((next : Nat) : Int)), .eq (.int .i64 ((2 ^ height - next : Nat) : Int)), .eq (.int .i64 ((2 ^ height - next : Nat) : Int))] Tryd.mixed (by kernel_rfl) (by kernel_rfl) (by rw [sz]; kernel_rfl) (by kernel_rfl) ⟨fun hw ac u K => ?_, fun hw ac u K => ?_, fun hw ac u K => ?_, fun hw ac u K => ?_, fun hw ac u K => ?_, fun hw ac u K => ?_, fun hw ac u K => ?_, fun hw ac u K => ?_, fun hw ac u K => ?_, fun hw ac u K => ?_, fun hw ac u K => ?_, trivial⟩ ?_
  · exact st_move (.tmp 0) rfl ((K.old 0 rfl).trans x0)
  · exact st_nil (.tmp 3) rfl (K.dep 0 3 rfl)
  · exact st_field 69 2 (.tmp 4) rfl (K.dep 1 4 rfl) (by kernel_rfl)
  · exact st_loadc 3 (.tmp 5) rfl (by kernel_rfl) (K.dep 2 5 rfl) (Ob.cell (Ob.below hk (bl.trans (Below.mono K.grow bl.size))) 33 ((at_head hx 1 _).trans rfl))
  · exact st_call 35 (.func 35) _ _ #[.int .i64 ((height : Nat) : Int)] rfl rfl (one_arg (K.dep 3 6 rfl)) Tryd.enter35 (fk_of (indexes_any height h3 _))
  · exact st_move (.tmp 0) rfl ((K.old 0 rfl).trans x0)
  · exact st_nil (.tmp 8) rfl (K.dep 5 8 rfl)
  · exact st_field 69 3 (.tmp 9) rfl (K.dep 6 9 rfl) (by kernel_rfl)
  · exact st_loadc 3 (.tmp 10) rfl (by kernel_rfl) (K.dep 7 10 rfl) (Ob.cell (Ob.below hk (bl.trans (Below.mono K.grow bl.size))) 34 ((at_head hx 2 _).trans rfl))
  · exact st_sub (.tmp 7) (.tmp 11) rfl (2 ^ height) (next) (2 ^ height - next) (K.dep 4 7 rfl) (K.dep 8 11 rfl) (by omega) (pow_le h3)
  · exact st_assign (.tmp 12) rfl (K.dep 9 12 rfl)
  intro f2 w2 A hb
  replace bl0 := bl
  replace x0 := (A.old 0 rfl).trans x0
  clear x2
  have x2 : f2.eval (.tmp 2) = .int .i64 ((2 ^ height - next : Nat) : Int) := A.has 10 2 rfl
  replace bl := (bl.trans (Below.mono hb bl.size))
  replace sz := A.size.trans sz
  replace df := A.defs.trans df
  clear A hb
  clear x0
  show Code.wp _ _ _ _ _
  refine wp_ret ?_
  repeat (first | with_reducible refine then_ret ?_ | with_reducible refine block_ret ?_)
  exact bodyPost_ret (v := .int .i64 ((2 ^ height - next : Nat) : Int)) (ret_slot rfl f2 _ x2 _ _) df ⟨rfl, bl⟩
theorem leaf_key {kb kind height next : Nat} {seed : List (BitVec 8)} (hx : seed.length = 32) (h1 : 1 ≤ kind) (h2 : kind ≤ 2) (i : Nat) (hi : i ≤ 2147483647) (w : World) (hk : Ob w kb 69 ((seed).map V ++ ([.int .i64 ((kind : Nat) : Int), .int .i64 ((height : Nat) : Int), .int .i64 ((next : Nat) : Int)] : List Value))) (hK : Tab w) {y : List (BitVec 8)} (ey0 : Box (lv seed kind i = y)) :
    Calls Tryd.prog 63 #[.pointer (some ⟨kb, 0, none⟩), .int .i64 ((i : Nat) : Int)] w fun e w' => e = .returned (.agg ((y).map V).toArray) ∧ Below w.heap.size w w' := by
  obtain ⟨p, ep⟩ : ∃ p, Box (pk seed kind i = p) := ⟨_, ⟨rfl⟩⟩
  have hp : p.length = 32 := by rw [← ep.out]; exact pk_len _ _ _
  have hy : y.length = 32 := by rw [← ey0.out]; exact lv_len _ _ _
  have ey : Box (lf p = y) := ⟨by rw [← ep.out]; exact ey0.out⟩
  go_enter Tryd.func63, Tryd.ntmps63
  refine code_both (fun f w1 => f.tmps.size = 34 ∧ f.defers = [] ∧ f.eval (.tmp 0) = .pointer (some ⟨kb, 0, none⟩) ∧ f.eval (.tmp 1) = .int .i64 ((i : Nat) : Int) ∧ Below w.heap.size w (w1)) ⟨rfl, rfl, rfl, rfl, Below.refl _ _⟩ ?_
  rintro f0 w0 ⟨sz, df, x0, x1, bl⟩
  have bl0 := bl
  refine wp_seq ?_
  -- R0
  refine wp_all_seq [.nw w0.heap.size 23 ((hz).map V)] (by kernel_rfl) (by kernel_rfl) (by rw [sz]; kernel_rfl) (by kernel_rfl) ⟨fun hw ac u K => ?_, trivial⟩ ?_
  · exact st_alloc23 rfl _ K.grow.size
  intro f1 w1 A hb
  replace bl0 := bl
  replace x0 := (A.old 0 rfl).trans x0
  replace x1 := (A.old 1 rfl).trans x1
  have x4 : Fk.f (.nw w0.heap.size 23 ((hz).map V)) (f1.eval (.tmp 4)) w1 := A.has 0 4 rfl
  replace bl := (bl.trans (Below.mono hb bl.size))
  replace sz := A.size.trans sz
  replace df := A.defs.trans df
  clear A hb
  obtain ⟨g4, hg4, e4, m4⟩ := x4
  have x4 := e4
  clear e4
  have nhk_4 : kb ≠ g4 := Nat.ne_of_lt (Nat.lt_of_lt_of_le (Ob.lt hk) (Nat.le_trans bl0.size hg4))
  have hw4 : w.heap.size ≤ g4 := Nat.le_trans bl0.size hg4
  show Code.wp _ _ _ _ _
  refine wp_seq ?_
  -- R1
  refine wp_all_seq [.nw w1.heap.size 23 ((hz).map V)] (by kernel_rfl) (by kernel_rfl) (by rw [sz]; kernel_rfl) (by kernel_rfl) ⟨fun hw ac u K => ?_, trivial⟩ ?_
  · exact st_alloc23 rfl _ K.grow.size
  intro f2 w2 A hb
  replace bl0 := bl
  replace x0 := (A.old 0 rfl).trans x0
  replace x1 := (A.old 1 rfl).trans x1
  replace x4 := (A.old 4 rfl).trans x4
  have x5 : Fk.f (.nw w1.heap.size 23 ((hz).map V)) (f2.eval (.tmp 5)) w2 := A.has 0 5 rfl
  have lt_m4 := Ob.lt m4
  replace m4 := Ob.below m4 hb
  replace bl := (bl.trans (Below.mono hb bl.size))
  replace sz := A.size.trans sz
  replace df := A.defs.trans df
  clear A hb
  obtain ⟨g5, hg5, e5, m5⟩ := x5
  have x5 := e5
  clear e5
  have nhk_5 : kb ≠ g5 := Nat.ne_of_lt (Nat.lt_of_lt_of_le (Ob.lt hk) (Nat.le_trans bl0.size hg5))
  have nm4_5 : g4 ≠ g5 := Nat.ne_of_lt (Nat.lt_of_lt_of_le lt_m4 hg5)
  have hw5 : w.heap.size ≤ g5 := Nat.le_trans bl0.size hg5
  show Code.wp _ _ _ _ _
  refine wp_seq ?_
  refine wp_seq ?_
  -- R2
  refine wp_all_seq [.eq (.pointer (some ⟨kb, 0, none⟩)), .eq (.pointer (some ⟨kb, 0, none⟩)), .eq (.pointer (some ⟨kb, 32, none⟩)), .eq (.int .i64 ((kind : Nat) : Int))] (by kernel_rfl) (by kernel_rfl) (by rw [sz]; kernel_rfl) (by kernel_rfl) ⟨fun hw ac u K => ?_, fun hw ac u K => ?_, fun hw ac u K => ?_, fun hw ac u K => ?_, trivial⟩ ?_
  · exact st_move (.tmp 0) rfl ((K.old 0 rfl).trans x0)
  · exact st_nil (.tmp 6) rfl (K.dep 0 6 rfl)
  · exact st_field 69 1 (.tmp 7) rfl (K.dep 1 7 rfl) (by kernel_rfl)
  · exact st_loadc 3 (.tmp 8) rfl (by kernel_rfl) (K.dep 2 8 rfl) (Ob.cell (Ob.below hk (bl.trans (Below.mono K.grow bl.size))) 32 ((at_head hx 0 _).trans rfl))
  intro f3 w3 A hb
  replace bl0 := bl
  replace x0 := (A.old 0 rfl).trans x0
  replace x1 := (A.old 1 rfl).trans x1
  replace x4 := (A.old 4 rfl).trans x4
  replace x5 := (A.old 5 rfl).trans x5
  have x9 : f3.eval (.tmp 9) = .int .i64 ((kind : Nat) : Int) := A.has 3 9 rfl
  have lt_m4 := Ob.lt m4
  replace m4 := Ob.below m4 hb
  have lt_m5 := Ob.lt m5
  replace m5 := Ob.below m5 hb
  replace bl := (bl.trans (Below.mono hb bl.size))
  replace sz := A.size.trans sz
  replace df := A.defs.trans df
  clear A hb
  show Code.wp _ _ _ _ _
  refine wp_block ?_
  refine wp_seq ?_
  rcases (show kind = 1 ∨ kind = 2 by omega) with hkd | hkd
  rotate_left
  · skip
    have ep1 := pk_two hkd ep
    -- R3
    refine wp_all_seq [.eq (.bool false), .eq (.bool false)] (by kernel_rfl) (by kernel_rfl) (by rw [sz]; kernel_rfl) (by kernel_rfl) ⟨fun hw ac u K => ?_, fun hw ac u K => ?_, trivial⟩ ?_
    · exact st_eqi 3 (.tmp 9) (.const (.int .i64 1)) rfl .i64 (((kind : Nat) : Int)) (1) ((K.old 9 rfl).trans x9) rfl _ (by simp [hkd])
    · exact st_assign (.tmp 11) rfl (K.dep 0 11 rfl)
    intro f4 w4 A hb
    replace bl0 := bl
    replace x0 := (A.old 0 rfl).trans x0
    replace x1 := (A.old 1 rfl).trans x1
    replace x4 := (A.old 4 rfl).trans x4
    replace x5 := (A.old 5 rfl).trans x5
    replace x9 := (A.old 9 rfl).trans x9
    have x10 : f4.eval (.tmp 10) = .bool false := A.has 1 10 rfl
    have lt_m4 := Ob.lt m4
    replace m4 := Ob.below m4 hb
    have lt_m5 := Ob.lt m5
    replace m5 := Ob.below m5 hb
    replace bl := (bl.trans (Below.mono hb bl.size))
    replace sz := A.size.trans sz
    replace df := A.defs.trans df
    clear A hb
    show Code.wp _ _ _ _ _
    refine wp_cond_false x10 ?_
    refine wp_seq ?_
    -- R5
    refine wp_all_seq [.eq (.bool true), .eq (.bool true)] (by kernel_rfl) (by kernel_rfl) (by rw [sz]; kernel_rfl) (by kernel_rfl) ⟨fun hw ac u K => ?_, fun hw ac u K => ?_, trivial⟩ ?_
    · exact st_eqi 3 (.tmp 9) (.const (.int .i64 2)) rfl .i64 (((kind : Nat) : Int)) (2) ((K.old 9 rfl).trans x9) rfl _ (by simp [hkd])
    · exact st_assign (.tmp 22) rfl (K.dep 0 22 rfl)
    intro f5 w5 A hb
    replace bl0 := bl
    replace x0 := (A.old 0 rfl).trans x0
    replace x1 := (A.old 1 rfl).trans x1
    replace x4 := (A.old 4 rfl).trans x4
    replace x5 := (A.old 5 rfl).trans x5
    replace x9 := (A.old 9 rfl).trans x9
    replace x10 := (A.old 10 rfl).trans x10
    have x21 : f5.eval (.tmp 21) = .bool true := A.has 1 21 rfl
    have lt_m4 := Ob.lt m4
    replace m4 := Ob.below m4 hb
    have lt_m5 := Ob.lt m5
    replace m5 := Ob.below m5 hb
    replace bl := (bl.trans (Below.mono hb bl.size))
    replace sz := A.size.trans sz
    replace df := A.defs.trans df
    clear A hb
    show Code.wp _ _ _ _ _
    refine wp_cond_true x21 ?_
    -- R6
    refine wp_region_seq [.eq (.pointer (some ⟨kb, 0, none⟩)), .eq (.pointer (some ⟨kb, 0, none⟩)), .eq (.pointer (some ⟨kb, 0, none⟩)), .eq (.agg ((seed).map V).toArray), .eq (.int .i64 ((i : Nat) : Int)), .eq (.tuple #[.agg ((p).map V).toArray, .int .i64 0]), .eq (.tuple #[.agg ((p).map V).toArray, .int .i64 0]), .eq (.agg ((p).map V).toArray), .eq (.int .i64 0)] (by kernel_rfl) (by kernel_rfl) (by rw [sz]; kernel_rfl) (by kernel_rfl) ⟨fun hw ac u K => ?_, fun hw ac u K => ?_, fun hw ac u K => ?_, fun hw ac u K => ?_, fun hw ac u K => ?_, fun hw ac u K => ?_, fun hw ac u K => ?_, fun hw ac u K => ?_, fun hw ac u K => ?_, trivial⟩ ?_
    · exact st_move (.tmp 0) rfl ((K.old 0 rfl).trans x0)
    · exact st_nil (.tmp 24) rfl (K.dep 0 24 rfl)
    · exact st_field 69 0 (.tmp 25) rfl (K.dep 1 25 rfl) (by kernel_rfl)
    · exact st_loadhd (.tmp 26) rfl (kb) (seed) (K.dep 2 26 rfl) hx (Ob.below hk (bl.trans (Below.mono K.grow bl.size)))
    · exact st_move (.tmp 1) rfl ((K.old 1 rfl).trans x1)
    · exact st_call 37 (.func 37) _ _ #[.agg ((seed).map V).toArray, .int .i64 ((i : Nat) : Int)] rfl rfl (arg2 (K.dep 3 27 rfl) (K.dep 4 28 rfl)) Tryd.enter37 (fk_public_okL hx hi (hK.below (bl.trans (Below.mono K.grow bl.size))) ep1)
    · exact st_move (.tmp 29) rfl (K.dep 5 29 rfl)
    · exact st_ext0 (.tmp 23) rfl (K.dep 6 23 rfl) rfl
    · exact st_ext1 (.tmp 23) rfl (K.dep 6 23 rfl) rfl
    intro f6 w6 A hb
    replace bl0 := bl
    replace x0 := (A.old 0 rfl).trans x0
    replace x1 := (A.old 1 rfl).trans x1
    replace x4 := (A.old 4 rfl).trans x4
    replace x5 := (A.old 5 rfl).trans x5
    replace x9 := (A.old 9 rfl).trans x9
    replace x10 := (A.old 10 rfl).trans x10
    replace x21 := (A.old 21 rfl).trans x21
    have x30 : f6.eval (.tmp 30) = .agg ((p).map V).toArray := A.has 7 30 rfl
    have lt_m4 := Ob.lt m4
    replace m4 := Ob.below m4 hb
    have lt_m5 := Ob.lt m5
    replace m5 := Ob.below m5 hb
    replace bl := (bl.trans (Below.mono hb bl.size))
    replace sz := A.size.trans sz
    replace df := A.defs.trans df
    clear A hb
    refine wl_store rfl (.tmp 5) (.tmp 30) rfl rfl (g5) (p) (hz) x5 x30 m5 hz_len hp ?_
    replace m4 : Ob (w6.setRow g5 ((p).map V : List Value).toArray) (g4) 23 ((hz).map V) := Ob.setRow_other m4 _ nm4_5
    replace m5 : Ob (w6.setRow g5 ((p).map V : List Value).toArray) (g5) 23 ((p).map V) := Ob.setRow m5 ((p).map V)
    replace bl : Below w.heap.size w (w6.setRow g5 ((p).map V : List Value).toArray) := bl.trans (below_setRow _ _ _ _ hw5)
    generalize w6.setRow g5 ((p).map V : List Value).toArray = w7b at bl m4 m5 ⊢
    refine wpList_nil ?_
    clear x30
    show Code.wp _ _ _ _ _
    refine wp_seq ?_
    -- R7
    refine wp_region_seq [.sl (p), .eq (.agg ((y).map V).toArray)] (by kernel_rfl) (by kernel_rfl) (by rw [sz]; kernel_rfl) (by kernel_rfl) ⟨fun hw ac u K => ?_, fun hw ac u K => ?_, trivial⟩ ?_
    · exact st_slice23 (.tmp 5) rfl (g5) 0 (p) ((K.old 5 rfl).trans x5) hp (Ob.lt (Ob.below m5 K.grow)) (HasV.bytes (Ob.below m5 K.grow))
    · exact st_call 24 (.func 24) _ _ #[ac.eval (.tmp 32)] rfl rfl (one_arg rfl) Tryd.enter24 (fk_leaf (by rw [hp]; omega) (hK.below (bl.trans (Below.mono K.grow bl.size))) (K.dep 0 32 rfl) ey)
    intro f8 w8 A hb
    replace bl0 := bl
    replace x0 := (A.old 0 rfl).trans x0
    replace x1 := (A.old 1 rfl).trans x1
    replace x4 := (A.old 4 rfl).trans x4
    replace x5 := (A.old 5 rfl).trans x5
    replace x9 := (A.old 9 rfl).trans x9
    replace x10 := (A.old 10 rfl).trans x10
    replace x21 := (A.old 21 rfl).trans x21
    have x33 : f8.eval (.tmp 33) = .agg ((y).map V).toArray := A.has 1 33 rfl
    have lt_m4 := Ob.lt m4
    replace m4 := Ob.below m4 hb
    have lt_m5 := Ob.lt m5
    replace m5 := Ob.below m5 hb
    replace bl := (bl.trans (Below.mono hb bl.size))
    replace sz := A.size.trans sz
    replace df := A.defs.trans df
    clear A hb
    refine wl_store rfl (.tmp 4) (.tmp 33) rfl rfl (g4) (y) (hz) x4 x33 m4 hz_len hy ?_
    replace m4 : Ob (w8.setRow g4 ((y).map V : List Value).toArray) (g4) 23 ((y).map V) := Ob.setRow m4 ((y).map V)
    replace m5 : Ob (w8.setRow g4 ((y).map V : List Value).toArray) (g5) 23 ((p).map V) := Ob.setRow_other m5 _ nm4_5.symm
    replace bl : Below w.heap.size w (w8.setRow g4 ((y).map V : List Value).toArray) := bl.trans (below_setRow _ _ _ _ hw4)
    generalize w8.setRow g4 ((y).map V : List Value).toArray = w9b at bl m4 m5 ⊢
    refine wpList_nil ?_
    clear x33
    show Code.wp _ _ _ _ _
    refine wp_ret ?_
    repeat (first | with_reducible refine then_ret ?_ | with_reducible refine block_ret ?_)
    exact bodyPost_ret (v := .agg ((y).map V).toArray) (ret_hash rfl f8 _ g4 (y) hy x4 m4) df ⟨rfl, bl⟩
  have ep1 := pk_one hkd ep
  -- R3
  refine wp_all_seq [.eq (.bool true), .eq (.bool true)] (by kernel_rfl) (by kernel_rfl) (by rw [sz]; kernel_rfl) (by kernel_rfl) ⟨fun hw ac u K => ?_, fun hw ac u K => ?_, trivial⟩ ?_
  · exact st_eqi 3 (.tmp 9) (.const (.int .i64 1)) rfl .i64 (((kind : Nat) : Int)) (1) ((K.old 9 rfl).trans x9) rfl _ (by simp [hkd])
  · exact st_assign (.tmp 11) rfl (K.dep 0 11 rfl)
  intro f4 w4 A hb
  replace bl0 := bl
  replace x0 := (A.old 0 rfl).trans x0
  replace x1 := (A.old 1 rfl).trans x1
  replace x4 := (A.old 4 rfl).trans x4
  replace x5 := (A.old 5 rfl).trans x5
  replace x9 := (A.old 9 rfl).trans x9
  have x10 : f4.eval (.tmp 10) = .bool true := A.has 1 10 rfl
  have lt_m4 := Ob.lt m4
  replace m4 := Ob.below m4 hb
  have lt_m5 := Ob.lt m5
  replace m5 := Ob.below m5 hb
  replace bl := (bl.trans (Below.mono hb bl.size))
  replace sz := A.size.trans sz
  replace df := A.defs.trans df
  clear A hb
  show Code.wp _ _ _ _ _
  refine wp_cond_true x10 ?_
  -- R4
  refine wp_region_seq [.eq (.pointer (some ⟨kb, 0, none⟩)), .eq (.pointer (some ⟨kb, 0, none⟩)), .eq (.pointer (some ⟨kb, 0, none⟩)), .eq (.agg ((seed).map V).toArray), .eq (.int .i64 ((i : Nat) : Int)), .eq (.tuple #[.agg ((p).map V).toArray, .int .i64 0]), .eq (.tuple #[.agg ((p).map V).toArray, .int .i64 0]), .eq (.agg ((p).map V).toArray), .eq (.int .i64 0)] (by kernel_rfl) (by kernel_rfl) (by rw [sz]; kernel_rfl) (by kernel_rfl) ⟨fun hw ac u K => ?_, fun hw ac u K => ?_, fun hw ac u K => ?_, fun hw ac u K => ?_, fun hw ac u K => ?_, fun hw ac u K => ?_, fun hw ac u K => ?_, fun hw ac u K => ?_, fun hw ac u K => ?_, trivial⟩ ?_
  · exact st_move (.tmp 0) rfl ((K.old 0 rfl).trans x0)
  · exact st_nil (.tmp 13) rfl (K.dep 0 13 rfl)
  · exact st_field 69 0 (.tmp 14) rfl (K.dep 1 14 rfl) (by kernel_rfl)
  · exact st_loadhd (.tmp 15) rfl (kb) (seed) (K.dep 2 15 rfl) hx (Ob.below hk (bl.trans (Below.mono K.grow bl.size)))
  · exact st_move (.tmp 1) rfl ((K.old 1 rfl).trans x1)
  · exact st_call 36 (.func 36) _ _ #[.agg ((seed).map V).toArray, .int .i64 ((i : Nat) : Int)] rfl rfl (arg2 (K.dep 3 16 rfl) (K.dep 4 17 rfl)) Tryd.enter36 (fk_public_ok hx hi (hK.below (bl.trans (Below.mono K.grow bl.size))) ep1)
  · exact st_move (.tmp 18) rfl (K.dep 5 18 rfl)
  · exact st_ext0 (.tmp 12) rfl (K.dep 6 12 rfl) rfl
  · exact st_ext1 (.tmp 12) rfl (K.dep 6 12 rfl) rfl
  intro f5 w5 A hb
  replace bl0 := bl
  replace x0 := (A.old 0 rfl).trans x0
  replace x1 := (A.old 1 rfl).trans x1
  replace x4 := (A.old 4 rfl).trans x4
  replace x5 := (A.old 5 rfl).trans x5
  replace x9 := (A.old 9 rfl).trans x9
  replace x10 := (A.old 10 rfl).trans x10
  have x19 : f5.eval (.tmp 19) = .agg ((p).map V).toArray := A.has 7 19 rfl
  have lt_m4 := Ob.lt m4
  replace m4 := Ob.below m4 hb
  have lt_m5 := Ob.lt m5
  replace m5 := Ob.below m5 hb
  replace bl := (bl.trans (Below.mono hb bl.size))
  replace sz := A.size.trans sz
  replace df := A.defs.trans df
  clear A hb
  refine wl_store rfl (.tmp 5) (.tmp 19) rfl rfl (g5) (p) (hz) x5 x19 m5 hz_len hp ?_
  replace m4 : Ob (w5.setRow g5 ((p).map V : List Value).toArray) (g4) 23 ((hz).map V) := Ob.setRow_other m4 _ nm4_5
  replace m5 : Ob (w5.setRow g5 ((p).map V : List Value).toArray) (g5) 23 ((p).map V) := Ob.setRow m5 ((p).map V)
  replace bl : Below w.heap.size w (w5.setRow g5 ((p).map V : List Value).toArray) := bl.trans (below_setRow _ _ _ _ hw5)
  generalize w5.setRow g5 ((p).map V : List Value).toArray = w6b at bl m4 m5 ⊢
  refine wpList_nil ?_
  clear x19
  show Code.wp _ _ _ _ _
  refine wp_seq ?_
  -- R7
  refine wp_region_seq [.sl (p), .eq (.agg ((y).map V).toArray)] (by kernel_rfl) (by kernel_rfl) (by rw [sz]; kernel_rfl) (by kernel_rfl) ⟨fun hw ac u K => ?_, fun hw ac u K => ?_, trivial⟩ ?_
  · exact st_slice23 (.tmp 5) rfl (g5) 0 (p) ((K.old 5 rfl).trans x5) hp (Ob.lt (Ob.below m5 K.grow)) (HasV.bytes (Ob.below m5 K.grow))
  · exact st_call 24 (.func 24) _ _ #[ac.eval (.tmp 32)] rfl rfl (one_arg rfl) Tryd.enter24 (fk_leaf (by rw [hp]; omega) (hK.below (bl.trans (Below.mono K.grow bl.size))) (K.dep 0 32 rfl) ey)
  intro f7 w7 A hb
  replace bl0 := bl
  replace x0 := (A.old 0 rfl).trans x0
  replace x1 := (A.old 1 rfl).trans x1
  replace x4 := (A.old 4 rfl).trans x4
  replace x5 := (A.old 5 rfl).trans x5
  replace x9 := (A.old 9 rfl).trans x9
  replace x10 := (A.old 10 rfl).trans x10
  have x33 : f7.eval (.tmp 33) = .agg ((y).map V).toArray := A.has 1 33 rfl
  have lt_m4 := Ob.lt m4
  replace m4 := Ob.below m4 hb
  have lt_m5 := Ob.lt m5
  replace m5 := Ob.below m5 hb
  replace bl := (bl.trans (Below.mono hb bl.size))
  replace sz := A.size.trans sz
  replace df := A.defs.trans df
  clear A hb
  refine wl_store rfl (.tmp 4) (.tmp 33) rfl rfl (g4) (y) (hz) x4 x33 m4 hz_len hy ?_
  replace m4 : Ob (w7.setRow g4 ((y).map V : List Value).toArray) (g4) 23 ((y).map V) := Ob.setRow m4 ((y).map V)
  replace m5 : Ob (w7.setRow g4 ((y).map V : List Value).toArray) (g5) 23 ((p).map V) := Ob.setRow_other m5 _ nm4_5.symm
  replace bl : Below w.heap.size w (w7.setRow g4 ((y).map V : List Value).toArray) := bl.trans (below_setRow _ _ _ _ hw4)
  generalize w7.setRow g4 ((y).map V : List Value).toArray = w8b at bl m4 m5 ⊢
  refine wpList_nil ?_
  clear x33
  show Code.wp _ _ _ _ _
  refine wp_ret ?_
  repeat (first | with_reducible refine then_ret ?_ | with_reducible refine block_ret ?_)
  exact bodyPost_ret (v := .agg ((y).map V).toArray) (ret_hash rfl f7 _ g4 (y) hy x4 m4) df ⟨rfl, bl⟩
end Go.Proofs.YtnanipeapjpkfaaDoor
namespace Go.Proofs.YtnanipeapjpkfaaDoor
set_option maxRecDepth 100000
open Go.RowKit
theorem root_any {kb kind height next : Nat} {seed : List (BitVec 8)} (hx : seed.length = 32) (h1 : 1 ≤ kind) (h2 : kind ≤ 2) : ∀ (h a : Nat) (w : World), Ob w kb 69 ((seed).map V ++ ([.int .i64 ((kind : Nat) : Int), .int .i64 ((height : Nat) : Int), .int .i64 ((next : Nat) : Int)] : List Value)) → Tab w → h ≤ 8 → a + 2 ^ h ≤ 100000 → ∀ {y : List (BitVec 8)}, Box (rt (lv seed kind) a h = y) →
    Calls Tryd.prog 38 #[.pointer (some ⟨kb, 0, none⟩), .int .i64 ((a : Nat) : Int), .int .i64 ((h : Nat) : Int)] w fun e w' => e = .returned (.agg ((y).map V).toArray) ∧ Below w.heap.size w w' := by
  intro h
  induction h with
  | zero =>
    intro a w hk hK h3 hp y ey
    have hy : y.length = 32 := by rw [← ey.out]; exact rt_len _ _ _ _
    go_enter Tryd.func38, Tryd.ntmps38
    refine code_both (fun f w1 => f.tmps.size = 29 ∧ f.defers = [] ∧ f.eval (.tmp 0) = .pointer (some ⟨kb, 0, none⟩) ∧ f.eval (.tmp 1) = .int .i64 ((a : Nat) : Int) ∧ f.eval (.tmp 2) = .int .i64 ((0 : Nat) : Int) ∧ Below w.heap.size w (w1)) ⟨rfl, rfl, rfl, rfl, rfl, Below.refl _ _⟩ ?_
    rintro f0 w0 ⟨sz, df, x0, x1, x2, bl⟩
    have bl0 := bl
    refine wp_seq ?_
    -- R0
    refine wp_all_seq [.nw w0.heap.size 23 ((hz).map V)] (by kernel_rfl) (by kernel_rfl) (by rw [sz]; kernel_rfl) (by kernel_rfl) ⟨fun hw ac u K => ?_, trivial⟩ ?_
    · exact st_alloc23 rfl _ K.grow.size
    intro f1 w1 A hb
    replace bl0 := bl
    replace x0 := (A.old 0 rfl).trans x0
    replace x1 := (A.old 1 rfl).trans x1
    replace x2 := (A.old 2 rfl).trans x2
    have x6 : Fk.f (.nw w0.heap.size 23 ((hz).map V)) (f1.eval (.tmp 6)) w1 := A.has 0 6 rfl
    replace bl := (bl.trans (Below.mono hb bl.size))
    replace sz := A.size.trans sz
    replace df := A.defs.trans df
    clear A hb
    obtain ⟨g6, hg6, e6, m6⟩ := x6
    have x6 := e6
    clear e6
    have nhk_6 : kb ≠ g6 := Nat.ne_of_lt (Nat.lt_of_lt_of_le (Ob.lt hk) (Nat.le_trans bl0.size hg6))
    have hw6 : w.heap.size ≤ g6 := Nat.le_trans bl0.size hg6
    show Code.wp _ _ _ _ _
    refine wp_seq ?_
    refine wp_seq ?_
    -- R1
    refine wp_all_seq [.eq (.int .i64 0), .eq (.bool true)] (by kernel_rfl) (by kernel_rfl) (by rw [sz]; kernel_rfl) (by kernel_rfl) ⟨fun hw ac u K => ?_, fun hw ac u K => ?_, trivial⟩ ?_
    · exact st_move (.tmp 2) rfl ((K.old 2 rfl).trans x2)
    · exact st_eqi 3 (.tmp 8) (.const (.int .i64 0)) rfl .i64 (0) (0) (K.dep 0 8 rfl) rfl _ (by rfl)
    intro f2 w2 A hb
    replace bl0 := bl
    replace x0 := (A.old 0 rfl).trans x0
    replace x1 := (A.old 1 rfl).trans x1
    replace x2 := (A.old 2 rfl).trans x2
    replace x6 := (A.old 6 rfl).trans x6
    have x9 : f2.eval (.tmp 9) = .bool true := A.has 1 9 rfl
    have lt_m6 := Ob.lt m6
    replace m6 := Ob.below m6 hb
    replace bl := (bl.trans (Below.mono hb bl.size))
    replace sz := A.size.trans sz
    replace df := A.defs.trans df
    clear A hb
    show Code.wp _ _ _ _ _
    refine wp_cond_true x9 ?_
    refine wp_seq ?_
    -- R2
    refine wp_region_seq [.eq (.pointer (some ⟨kb, 0, none⟩)), .eq (.int .i64 ((a : Nat) : Int)), .eq (.agg ((y).map V).toArray)] (by kernel_rfl) (by kernel_rfl) (by rw [sz]; kernel_rfl) (by kernel_rfl) ⟨fun hw ac u K => ?_, fun hw ac u K => ?_, fun hw ac u K => ?_, trivial⟩ ?_
    · exact st_move (.tmp 0) rfl ((K.old 0 rfl).trans x0)
    · exact st_move (.tmp 1) rfl ((K.old 1 rfl).trans x1)
    · exact st_call 63 (.func 63) _ _ #[.pointer (some ⟨kb, 0, none⟩), .int .i64 ((a : Nat) : Int)] rfl rfl (arg2 (K.dep 0 10 rfl) (K.dep 1 11 rfl)) Tryd.enter63 (fk_of (leaf_key hx h1 h2 a (by omega) _ (Ob.below hk (bl.trans (Below.mono K.grow bl.size))) (hK.below (bl.trans (Below.mono K.grow bl.size))) ey))
    intro f3 w3 A hb
    replace bl0 := bl
    replace x0 := (A.old 0 rfl).trans x0
    replace x1 := (A.old 1 rfl).trans x1
    replace x2 := (A.old 2 rfl).trans x2
    replace x6 := (A.old 6 rfl).trans x6
    replace x9 := (A.old 9 rfl).trans x9
    have x12 : f3.eval (.tmp 12) = .agg ((y).map V).toArray := A.has 2 12 rfl
    have lt_m6 := Ob.lt m6
    replace m6 := Ob.below m6 hb
    replace bl := (bl.trans (Below.mono hb bl.size))
    replace sz := A.size.trans sz
    replace df := A.defs.trans df
    clear A hb
    refine wl_store rfl (.tmp 6) (.tmp 12) rfl rfl (g6) (y) (hz) x6 x12 m6 hz_len hy ?_
    replace m6 : Ob (w3.setRow g6 ((y).map V : List Value).toArray) (g6) 23 ((y).map V) := Ob.setRow m6 ((y).map V)
    replace bl : Below w.heap.size w (w3.setRow g6 ((y).map V : List Value).toArray) := bl.trans (below_setRow _ _ _ _ hw6)
    generalize w3.setRow g6 ((y).map V : List Value).toArray = w4b at bl m6 ⊢
    refine wpList_nil ?_
    clear x12
    show Code.wp _ _ _ _ _
    refine wp_ret ?_
    repeat (first | with_reducible refine then_ret ?_ | with_reducible refine block_ret ?_)
    exact bodyPost_ret (v := .agg ((y).map V).toArray) (ret_hash rfl f3 _ g6 (y) hy x6 m6) df ⟨rfl, bl⟩
  | succ h ih =>
    intro a w hk hK h3 hp y ey
    have hy : y.length = 32 := by rw [← ey.out]; exact rt_len _ _ _ _
    obtain ⟨y1, ey1⟩ : ∃ p, Box (rt (lv seed kind) a h = p) := ⟨_, ⟨rfl⟩⟩
    obtain ⟨y2, ey2⟩ : ∃ p, Box (rt (lv seed kind) (a + 2 ^ h) h = p) := ⟨_, ⟨rfl⟩⟩
    have hy1 : y1.length = 32 := by rw [← ey1.out]; exact rt_len _ _ _ _
    have hy2 : y2.length = 32 := by rw [← ey2.out]; exact rt_len _ _ _ _
    have eyn : Box (nd y1 y2 = y) := ⟨by rw [← ey1.out, ← ey2.out]; exact ey.out⟩
    rw [Nat.pow_succ] at hp
    go_enter Tryd.func38, Tryd.ntmps38
    refine code_both (fun f w1 => f.tmps.size = 29 ∧ f.defers = [] ∧ f.eval (.tmp 0) = .pointer (some ⟨kb, 0, none⟩) ∧ f.eval (.tmp 1) = .int .i64 ((a : Nat) : Int) ∧ f.eval (.tmp 2) = .int .i64 ((h + 1 : Nat) : Int) ∧ Below w.heap.size w (w1)) ⟨rfl, rfl, rfl, rfl, rfl, Below.refl _ _⟩ ?_
    rintro f0 w0 ⟨sz, df, x0, x1, x2, bl⟩
    have bl0 := bl
    refine wp_seq ?_
    -- R0
    refine wp_all_seq [.nw w0.heap.size 23 ((hz).map V)] (by kernel_rfl) (by kernel_rfl) (by rw [sz]; kernel_rfl) (by kernel_rfl) ⟨fun hw ac u K => ?_, trivial⟩ ?_
    · exact st_alloc23 rfl _ K.grow.size
    intro f1 w1 A hb
    replace bl0 := bl
    replace x0 := (A.old 0 rfl).trans x0
    replace x1 := (A.old 1 rfl).trans x1
    replace x2 := (A.old 2 rfl).trans x2
    have x6 : Fk.f (.nw w0.heap.size 23 ((hz).map V)) (f1.eval (.tmp 6)) w1 := A.has 0 6 rfl
    replace bl := (bl.trans (Below.mono hb bl.size))
    replace sz := A.size.trans sz
    replace df := A.defs.trans df
    clear A hb
    obtain ⟨g6, hg6, e6, m6⟩ := x6
    have x6 := e6
    clear e6
    have nhk_6 : kb ≠ g6 := Nat.ne_of_lt (Nat.lt_of_lt_of_le (Ob.lt hk) (Nat.le_trans bl0.size hg6))
    have hw6 : w.heap.size ≤ g6 := Nat.le_trans bl0.size hg6
    show Code.wp _ _ _ _ _
    refine wp_seq ?_
    refine wp_seq ?_
    -- R1
    refine wp_all_seq [.eq (.int .i64 ((h + 1 : Nat) : Int)), .eq (.bool false)] (by kernel_rfl) (by kernel_rfl) (by rw [sz]; kernel_rfl) (by kernel_rfl) ⟨fun hw ac u K => ?_, fun hw ac u K => ?_, trivial⟩ ?_
    · exact st_move (.tmp 2) rfl ((K.old 2 rfl).trans x2)
    · exact st_eqi 3 (.tmp 8) (.const (.int .i64 0)) rfl .i64 (((h + 1 : Nat) : Int)) (0) (K.dep 0 8 rfl) rfl _ (by first | (simp; done) | (simp; omega))
    intro f2 w2 A hb
    replace bl0 := bl
    replace x0 := (A.old 0 rfl).trans x0
    replace x1 := (A.old 1 rfl).trans x1
    replace x2 := (A.old 2 rfl).trans x2
    replace x6 := (A.old 6 rfl).trans x6
    have x9 : f2.eval (.tmp 9) = .bool false := A.has 1 9 rfl
    have lt_m6 := Ob.lt m6
    replace m6 := Ob.below m6 hb
    replace bl := (bl.trans (Below.mono hb bl.size))
    replace sz := A.size.trans sz
    replace df := A.defs.trans df
    clear A hb
    show Code.wp _ _ _ _ _
    refine wp_cond_false x9 ?_
    refine wp_skip ?_
    show Code.wp _ _ _ _ _
    refine wp_seq ?_
    -- R3
    refine wp_all_seq [.eq (.int .i64 ((a : Nat) : Int)), .eq (.int .i64 ((h + 1 : Nat) : Int)), .eq (.int .i64 ((h : Nat) : Int)), .eq (.int .i64 ((2 ^ h : Nat) : Int)), .eq (.int .i64 ((a + (2 ^ h) : Nat) : Int)), .eq (.int .i64 ((a + (2 ^ h) : Nat) : Int))] (by kernel_rfl) (by kernel_rfl) (by rw [sz]; kernel_rfl) (by kernel_rfl) ⟨fun hw ac u K => ?_, fun hw ac u K => ?_, fun hw ac u K => ?_, fun hw ac u K => ?_, fun hw ac u K => ?_, fun hw ac u K => ?_, trivial⟩ ?_
    · exact st_move (.tmp 1) rfl ((K.old 1 rfl).trans x1)
    · exact st_move (.tmp 2) rfl ((K.old 2 rfl).trans x2)
    · exact st_sub (.tmp 14) (.const (.int .i64 1)) rfl (h + 1) (1) (h) (K.dep 1 14 rfl) rfl (by omega) (by omega)
    · exact st_call 35 (.func 35) _ _ #[.int .i64 ((h : Nat) : Int)] rfl rfl (one_arg (K.dep 2 15 rfl)) Tryd.enter35 (fk_of (indexes_any h (by omega) _))
    · exact st_add (.tmp 13) (.tmp 16) rfl (a) (2 ^ h) (a + (2 ^ h)) (K.dep 0 13 rfl) (K.dep 3 16 rfl) (by omega) (by omega)
    · exact st_assign (.tmp 17) rfl (K.dep 4 17 rfl)
    intro f3 w3 A hb
    replace bl0 := bl
    replace x0 := (A.old 0 rfl).trans x0
    replace x1 := (A.old 1 rfl).trans x1
    replace x2 := (A.old 2 rfl).trans x2
    replace x6 := (A.old 6 rfl).trans x6
    replace x9 := (A.old 9 rfl).trans x9
    have x7 : f3.eval (.tmp 7) = .int .i64 ((a + (2 ^ h) : Nat) : Int) := A.has 5 7 rfl
    have lt_m6 := Ob.lt m6
    replace m6 := Ob.below m6 hb
    replace bl := (bl.trans (Below.mono hb bl.size))
    replace sz := A.size.trans sz
    replace df := A.defs.trans df
    clear A hb
    show Code.wp _ _ _ _ _
    refine wp_seq ?_
    -- R4
    refine wp_region_seq [.eq (.pointer (some ⟨kb, 0, none⟩)), .eq (.int .i64 ((a : Nat) : Int)), .eq (.int .i64 ((h + 1 : Nat) : Int)), .eq (.int .i64 ((h : Nat) : Int)), .eq (.agg ((y1).map V).toArray), .eq (.pointer (some ⟨kb, 0, none⟩)), .eq (.int .i64 ((a + (2 ^ h) : Nat) : Int)), .eq (.int .i64 ((h + 1 : Nat) : Int)), .eq (.int .i64 ((h : Nat) : Int)), .eq (.agg ((y2).map V).toArray), .eq (.agg ((y).map V).toArray)] (by kernel_rfl) (by kernel_rfl) (by rw [sz]; kernel_rfl) (by kernel_rfl) ⟨fun hw ac u K => ?_, fun hw ac u K => ?_, fun hw ac u K => ?_, fun hw ac u K => ?_, fun hw ac u K => ?_, fun hw ac u K => ?_, fun hw ac u K => ?_, fun hw ac u K => ?_, fun hw ac u K => ?_, fun hw ac u K => ?_, fun hw ac u K => ?_, trivial⟩ ?_
    · exact st_move (.tmp 0) rfl ((K.old 0 rfl).trans x0)
    · exact st_move (.tmp 1) rfl ((K.old 1 rfl).trans x1)
    · exact st_move (.tmp 2) rfl ((K.old 2 rfl).trans x2)
    · exact st_sub (.tmp 20) (.const (.int .i64 1)) rfl (h + 1) (1) (h) (K.dep 2 20 rfl) rfl (by omega) (by omega)
    · exact st_call 38 (.func 38) _ _ #[.pointer (some ⟨kb, 0, none⟩), .int .i64 ((a : Nat) : Int), .int .i64 ((h : Nat) : Int)] rfl rfl (arg3 (K.dep 0 18 rfl) (K.dep 1 19 rfl) (K.dep 3 21 rfl)) Tryd.enter38 (fk_of (ih a _ (Ob.below hk (bl.trans (Below.mono K.grow bl.size))) (hK.below (bl.trans (Below.mono K.grow bl.size))) (by omega) (by omega) ey1))
    · exact st_move (.tmp 0) rfl ((K.old 0 rfl).trans x0)
    · exact st_move (.tmp 7) rfl ((K.old 7 rfl).trans x7)
    · exact st_move (.tmp 2) rfl ((K.old 2 rfl).trans x2)
    · exact st_sub (.tmp 25) (.const (.int .i64 1)) rfl (h + 1) (1) (h) (K.dep 7 25 rfl) rfl (by omega) (by omega)
    · exact st_call 38 (.func 38) _ _ #[.pointer (some ⟨kb, 0, none⟩), .int .i64 ((a + (2 ^ h) : Nat) : Int), .int .i64 ((h : Nat) : Int)] rfl rfl (arg3 (K.dep 5 23 rfl) (K.dep 6 24 rfl) (K.dep 8 26 rfl)) Tryd.enter38 (fk_of (ih (a + (2 ^ h)) _ (Ob.below hk (bl.trans (Below.mono K.grow bl.size))) (hK.below (bl.trans (Below.mono K.grow bl.size))) (by omega) (by omega) ey2))
    · exact st_call 26 (.func 26) _ _ #[.agg ((y1).map V).toArray, .agg ((y2).map V).toArray] rfl rfl (arg2 (K.dep 4 22 rfl) (K.dep 9 27 rfl)) Tryd.enter26 (fk_node hy1 hy2 (hK.below (bl.trans (Below.mono K.grow bl.size))) eyn)
    intro f4 w4 A hb
    replace bl0 := bl
    replace x0 := (A.old 0 rfl).trans x0
    replace x1 := (A.old 1 rfl).trans x1
    replace x2 := (A.old 2 rfl).trans x2
    replace x6 := (A.old 6 rfl).trans x6
    replace x9 := (A.old 9 rfl).trans x9
    replace x7 := (A.old 7 rfl).trans x7
    have x28 : f4.eval (.tmp 28) = .agg ((y).map V).toArray := A.has 10 28 rfl
    have lt_m6 := Ob.lt m6
    replace m6 := Ob.below m6 hb
    replace bl := (bl.trans (Below.mono hb bl.size))
    replace sz := A.size.trans sz
    replace df := A.defs.trans df
    clear A hb
    clear x7
    refine wl_store rfl (.tmp 6) (.tmp 28) rfl rfl (g6) (y) (hz) x6 x28 m6 hz_len hy ?_
    replace m6 : Ob (w4.setRow g6 ((y).map V : List Value).toArray) (g6) 23 ((y).map V) := Ob.setRow m6 ((y).map V)
    replace bl : Below w.heap.size w (w4.setRow g6 ((y).map V : List Value).toArray) := bl.trans (below_setRow _ _ _ _ hw6)
    generalize w4.setRow g6 ((y).map V : List Value).toArray = w5b at bl m6 ⊢
    refine wpList_nil ?_
    clear x28
    show Code.wp _ _ _ _ _
    refine wp_ret ?_
    repeat (first | with_reducible refine then_ret ?_ | with_reducible refine block_ret ?_)
    exact bodyPost_ret (v := .agg ((y).map V).toArray) (ret_hash rfl f4 _ g6 (y) hy x6 m6) df ⟨rfl, bl⟩
theorem pow_le8 {k : Nat} (hk : k ≤ 8) : 2 ^ k ≤ 256 := Nat.le_trans (Nat.pow_le_pow_right (by omega) hk) (by decide)
theorem public_key {kb kind height next : Nat} {seed : List (BitVec 8)} (hx : seed.length = 32) (h1 : 1 ≤ kind) (h2 : kind ≤ 2) (h3 : height ≤ 8) (w : World) (hk : Ob w kb 69 ((seed).map V ++ ([.int .i64 ((kind : Nat) : Int), .int .i64 ((height : Nat) : Int), .int .i64 ((next : Nat) : Int)] : List Value))) (hK : Tab w) {y : List (BitVec 8)} (ey : Box (rt (lv seed kind) 0 height = y)) :
    Calls Tryd.prog 11 #[.pointer (some ⟨kb, 0, none⟩)] w fun e w' => e = .returned (.agg ((y).map V).toArray) ∧ Below w.heap.size w w' := by
  have hy : y.length = 32 := by rw [← ey.out]; exact rt_len _ _ _ _
  go_enter Tryd.func11, Tryd.ntmps11
  refine code_both (fun f w1 => f.tmps.size = 9 ∧ f.defers = [] ∧ f.eval (.tmp 0) = .pointer (some ⟨kb, 0, none⟩) ∧ Below w.heap.size w (w1)) ⟨rfl, rfl, rfl, Below.refl _ _⟩ ?_
  rintro f0 w0 ⟨sz, df, x0, bl⟩
  have bl0 := bl
  refine wp_seq ?_
  -- R0
  refine wp_all_seq [.nw w0.heap.size 23 ((hz).map V)] (by kernel_rfl) (by kernel_rfl) (by rw [sz]; kernel_rfl) (by kernel_rfl) ⟨fun hw ac u K => ?_, trivial⟩ ?_
  · exact st_alloc23 rfl _ K.grow.size
  intro f1 w1 A hb
  replace bl0 := bl
  replace x0 := (A.old 0 rfl).trans x0
  have x2 : Fk.f (.nw w0.heap.size 23 ((hz).map V)) (f1.eval (.tmp 2)) w1 := A.has 0 2 rfl
  replace bl := (bl.trans (Below.mono hb bl.size))
  replace sz := A.size.trans sz
  replace df := A.defs.trans df
  clear A hb
  obtain ⟨g2, hg2, e2, m2⟩ := x2
  have x2 := e2
  clear e2
  have nhk_2 : kb ≠ g2 := Nat.ne_of_lt (Nat.lt_of_lt_of_le (Ob.lt hk) (Nat.le_trans bl0.size hg2))
  have hw2 : w.heap.size ≤ g2 := Nat.le_trans bl0.size hg2
  show Code.wp _ _ _ _ _
  refine wp_seq ?_
  -- R1
  refine wp_region_seq [.eq (.pointer (some ⟨kb, 0, none⟩)), .eq (.pointer (some ⟨kb, 0, none⟩)), .eq (.pointer (some ⟨kb, 0, none⟩)), .eq (.pointer (some ⟨kb, 33, none⟩)), .eq (.int .i64 ((height : Nat) : Int)), .eq (.agg ((y).map V).toArray)] (by kernel_rfl) (by kernel_rfl) (by rw [sz]; kernel_rfl) (by kernel_rfl) ⟨fun hw ac u K => ?_, fun hw ac u K => ?_, fun hw ac u K => ?_, fun hw ac u K => ?_, fun hw ac u K => ?_, fun hw ac u K => ?_, trivial⟩ ?_
  · exact st_move (.tmp 0) rfl ((K.old 0 rfl).trans x0)
  · exact st_move (.tmp 0) rfl ((K.old 0 rfl).trans x0)
  · exact st_nil (.tmp 4) rfl (K.dep 1 4 rfl)
  · exact st_field 69 2 (.tmp 5) rfl (K.dep 2 5 rfl) (by kernel_rfl)
  · exact st_loadc 3 (.tmp 6) rfl (by kernel_rfl) (K.dep 3 6 rfl) (Ob.cell (Ob.below hk (bl.trans (Below.mono K.grow bl.size))) 33 ((at_head hx 1 _).trans rfl))
  · exact st_call 38 (.func 38) _ _ #[.pointer (some ⟨kb, 0, none⟩), .int .i64 0, .int .i64 ((height : Nat) : Int)] rfl rfl (arg3 (K.dep 0 3 rfl) rfl (K.dep 4 7 rfl)) Tryd.enter38 (fk_of (root_any hx h1 h2 height 0 _ (Ob.below hk (bl.trans (Below.mono K.grow bl.size))) (hK.below (bl.trans (Below.mono K.grow bl.size))) h3 (by have := pow_le8 h3; omega) ey))
  intro f2 w2 A hb
  replace bl0 := bl
  replace x0 := (A.old 0 rfl).trans x0
  replace x2 := (A.old 2 rfl).trans x2
  have x8 : f2.eval (.tmp 8) = .agg ((y).map V).toArray := A.has 5 8 rfl
  have lt_m2 := Ob.lt m2
  replace m2 := Ob.below m2 hb
  replace bl := (bl.trans (Below.mono hb bl.size))
  replace sz := A.size.trans sz
  replace df := A.defs.trans df
  clear A hb
  clear x0
  refine wl_store rfl (.tmp 2) (.tmp 8) rfl rfl (g2) (y) (hz) x2 x8 m2 hz_len hy ?_
  replace m2 : Ob (w2.setRow g2 ((y).map V : List Value).toArray) (g2) 23 ((y).map V) := Ob.setRow m2 ((y).map V)
  replace bl : Below w.heap.size w (w2.setRow g2 ((y).map V : List Value).toArray) := bl.trans (below_setRow _ _ _ _ hw2)
  generalize w2.setRow g2 ((y).map V : List Value).toArray = w3b at bl m2 ⊢
  refine wpList_nil ?_
  clear x8
  show Code.wp _ _ _ _ _
  refine wp_ret ?_
  repeat (first | with_reducible refine then_ret ?_ | with_reducible refine block_ret ?_)
  exact bodyPost_ret (v := .agg ((y).map V).toArray) (ret_hash rfl f2 _ g2 (y) hy x2 m2) df ⟨rfl, bl⟩
theorem parts_any {kb kind height next : Nat} {seed : List (BitVec 8)} (hx : seed.length = 32) (h1 : 1 ≤ kind) (h2 : kind ≤ 2) (i : Nat) (hi : i ≤ 2147483647) (h : List (BitVec 8)) (hh : h.length = 32) (w : World) (hk : Ob w kb 69 ((seed).map V ++ ([.int .i64 ((kind : Nat) : Int), .int .i64 ((height : Nat) : Int), .int .i64 ((next : Nat) : Int)] : List Value))) (hK : Tab w) {S : List (List (BitVec 8))} (eS : Box (sgp seed kind i h = S)) :
    Calls Tryd.prog 39 #[.pointer (some ⟨kb, 0, none⟩), .int .i64 ((i : Nat) : Int), .agg ((h).map V).toArray] w fun e w' => ∃ u, e = .returned u ∧ (Fk.hn w.heap.size S).f u w' ∧ Below w.heap.size w w' := by
  go_enter Tryd.func39, Tryd.ntmps39
  refine code_both (fun f w1 => f.tmps.size = 37 ∧ f.defers = [] ∧ f.eval (.tmp 0) = .pointer (some ⟨kb, 0, none⟩) ∧ f.eval (.tmp 1) = .int .i64 ((i : Nat) : Int) ∧ f.eval (.tmp 2) = .agg ((h).map V).toArray ∧ Below w.heap.size w (w1)) ⟨rfl, rfl, rfl, rfl, rfl, Below.refl _ _⟩ ?_
  rintro f0 w0 ⟨sz, df, x0, x1, x2, bl⟩
  have bl0 := bl
  refine wp_seq ?_
  -- R0
  refine wp_region_seq [] (by kernel_rfl) (by kernel_rfl) (by rw [sz]; kernel_rfl) (by kernel_rfl) trivial ?_
  intro f1 w1 A hb
  replace bl0 := bl
  replace x0 := (A.old 0 rfl).trans x0
  replace x1 := (A.old 1 rfl).trans x1
  replace x2 := (A.old 2 rfl).trans x2
  replace bl := (bl.trans (Below.mono hb bl.size))
  replace sz := A.size.trans sz
  replace df := A.defs.trans df
  clear A hb
  refine wl_one (.nw w1.heap.size 23 ((h).map V)) rfl 5 rfl (by rw [sz]; decide) (st_box 23 (.tmp 2) rfl _ _ (by rw [show _ = _ from x2]; kernel_rfl) (Nat.le_refl _)) ?_
  intro f2 w2 df2 sz2 old2 new2 hb
  replace bl0 := bl
  replace x0 := (old2 0 rfl).trans x0
  replace x1 := (old2 1 rfl).trans x1
  replace x2 := (old2 2 rfl).trans x2
  have x5 : Fk.f (.nw w1.heap.size 23 ((h).map V)) (f2.eval (.tmp 5)) w2 := new2
  replace bl := (bl.trans (Below.mono hb bl.size))
  replace sz := sz2.trans sz
  replace df := df2.trans df
  clear df2 sz2 old2 new2 hb
  obtain ⟨g5, hg5, e5, m5⟩ := x5
  have x5 := e5
  clear e5
  have nhk_5 : kb ≠ g5 := Nat.ne_of_lt (Nat.lt_of_lt_of_le (Ob.lt hk) (Nat.le_trans bl0.size hg5))
  have hw5 : w.heap.size ≤ g5 := Nat.le_trans bl0.size hg5
  clear x2
  refine wl_one (.eq (.slice none 0 0)) rfl 6 rfl (by rw [sz]; decide) (st_assign (.const (.slice none 0 0)) rfl rfl) ?_
  intro f3 w3 df2 sz2 old2 new2 hb
  replace bl0 := bl
  replace x0 := (old2 0 rfl).trans x0
  replace x1 := (old2 1 rfl).trans x1
  replace x5 := (old2 5 rfl).trans x5
  have x6 : f3.eval (.tmp 6) = .slice none 0 0 := new2
  have lt_m5 := Ob.lt m5
  replace m5 := Ob.below m5 hb
  replace bl := (bl.trans (Below.mono hb bl.size))
  replace sz := sz2.trans sz
  replace df := df2.trans df
  clear df2 sz2 old2 new2 hb
  refine wpList_nil ?_
  show Code.wp _ _ _ _ _
  refine wp_seq ?_
  -- R1
  refine wp_all_seq [.eq (.slice none 0 0)] (by kernel_rfl) (by kernel_rfl) (by rw [sz]; kernel_rfl) (by kernel_rfl) ⟨fun hw ac u K => ?_, trivial⟩ ?_
  · exact st_assign (.const (.slice none 0 0)) rfl rfl
  intro f4 w4 A hb
  replace bl0 := bl
  replace x0 := (A.old 0 rfl).trans x0
  replace x1 := (A.old 1 rfl).trans x1
  replace x5 := (A.old 5 rfl).trans x5
  replace x6 := (A.old 6 rfl).trans x6
  have x7 : f4.eval (.tmp 7) = .slice none 0 0 := A.has 0 7 rfl
  have lt_m5 := Ob.lt m5
  replace m5 := Ob.below m5 hb
  replace bl := (bl.trans (Below.mono hb bl.size))
  replace sz := A.size.trans sz
  replace df := A.defs.trans df
  clear A hb
  show Code.wp _ _ _ _ _
  refine wp_seq ?_
  refine wp_seq ?_
  -- R2
  refine wp_all_seq [.eq (.pointer (some ⟨kb, 0, none⟩)), .eq (.pointer (some ⟨kb, 0, none⟩)), .eq (.pointer (some ⟨kb, 32, none⟩)), .eq (.int .i64 ((kind : Nat) : Int))] (by kernel_rfl) (by kernel_rfl) (by rw [sz]; kernel_rfl) (by kernel_rfl) ⟨fun hw ac u K => ?_, fun hw ac u K => ?_, fun hw ac u K => ?_, fun hw ac u K => ?_, trivial⟩ ?_
  · exact st_move (.tmp 0) rfl ((K.old 0 rfl).trans x0)
  · exact st_nil (.tmp 8) rfl (K.dep 0 8 rfl)
  · exact st_field 69 1 (.tmp 9) rfl (K.dep 1 9 rfl) (by kernel_rfl)
  · exact st_loadc 3 (.tmp 10) rfl (by kernel_rfl) (K.dep 2 10 rfl) (Ob.cell (Ob.below hk (bl.trans (Below.mono K.grow bl.size))) 32 ((at_head hx 0 _).trans rfl))
  intro f5 w5 A hb
  replace bl0 := bl
  replace x0 := (A.old 0 rfl).trans x0
  replace x1 := (A.old 1 rfl).trans x1
  replace x5 := (A.old 5 rfl).trans x5
  replace x6 := (A.old 6 rfl).trans x6
  replace x7 := (A.old 7 rfl).trans x7
  have x11 : f5.eval (.tmp 11) = .int .i64 ((kind : Nat) : Int) := A.has 3 11 rfl
  have lt_m5 := Ob.lt m5
  replace m5 := Ob.below m5 hb
  replace bl := (bl.trans (Below.mono hb bl.size))
  replace sz := A.size.trans sz
  replace df := A.defs.trans df
  clear A hb
  show Code.wp _ _ _ _ _
  refine wp_block ?_
  refine wp_seq ?_
  rcases (show kind = 1 ∨ kind = 2 by omega) with hkd | hkd
  rotate_left
  · skip
    have eS1 := sgp_two hkd eS
    -- R3
    refine wp_all_seq [.eq (.bool false), .eq (.bool false)] (by kernel_rfl) (by kernel_rfl) (by rw [sz]; kernel_rfl) (by kernel_rfl) ⟨fun hw ac u K => ?_, fun hw ac u K => ?_, trivial⟩ ?_
    · exact st_eqi 3 (.tmp 11) (.const (.int .i64 1)) rfl .i64 (((kind : Nat) : Int)) (1) ((K.old 11 rfl).trans x11) rfl _ (by simp [hkd])
    · exact st_assign (.tmp 13) rfl (K.dep 0 13 rfl)
    intro f6 w6 A hb
    replace bl0 := bl
    replace x0 := (A.old 0 rfl).trans x0
    replace x1 := (A.old 1 rfl).trans x1
    replace x5 := (A.old 5 rfl).trans x5
    replace x6 := (A.old 6 rfl).trans x6
    replace x7 := (A.old 7 rfl).trans x7
    replace x11 := (A.old 11 rfl).trans x11
    have x12 : f6.eval (.tmp 12) = .bool false := A.has 1 12 rfl
    have lt_m5 := Ob.lt m5
    replace m5 := Ob.below m5 hb
    replace bl := (bl.trans (Below.mono hb bl.size))
    replace sz := A.size.trans sz
    replace df := A.defs.trans df
    clear A hb
    show Code.wp _ _ _ _ _
    refine wp_cond_false x12 ?_
    refine wp_seq ?_
    -- R5
    refine wp_all_seq [.eq (.bool true), .eq (.bool true)] (by kernel_rfl) (by kernel_rfl) (by rw [sz]; kernel_rfl) (by kernel_rfl) ⟨fun hw ac u K => ?_, fun hw ac u K => ?_, trivial⟩ ?_
    · exact st_eqi 3 (.tmp 11) (.const (.int .i64 2)) rfl .i64 (((kind : Nat) : Int)) (2) ((K.old 11 rfl).trans x11) rfl _ (by simp [hkd])
    · exact st_assign (.tmp 25) rfl (K.dep 0 25 rfl)
    intro f7 w7 A hb
    replace bl0 := bl
    replace x0 := (A.old 0 rfl).trans x0
    replace x1 := (A.old 1 rfl).trans x1
    replace x5 := (A.old 5 rfl).trans x5
    replace x6 := (A.old 6 rfl).trans x6
    replace x7 := (A.old 7 rfl).trans x7
    replace x11 := (A.old 11 rfl).trans x11
    replace x12 := (A.old 12 rfl).trans x12
    have x24 : f7.eval (.tmp 24) = .bool true := A.has 1 24 rfl
    have lt_m5 := Ob.lt m5
    replace m5 := Ob.below m5 hb
    replace bl := (bl.trans (Below.mono hb bl.size))
    replace sz := A.size.trans sz
    replace df := A.defs.trans df
    clear A hb
    show Code.wp _ _ _ _ _
    refine wp_cond_true x24 ?_
    -- R6
    refine wp_all [.eq (.pointer (some ⟨kb, 0, none⟩)), .eq (.pointer (some ⟨kb, 0, none⟩)), .eq (.pointer (some ⟨kb, 0, none⟩)), .eq (.agg ((seed).map V).toArray), .eq (.int .i64 ((i : Nat) : Int)), .eq (.agg ((h).map V).toArray), .t2 (.hn w.heap.size (S)) (.int .i64 0), .t2 (.hn w.heap.size (S)) (.int .i64 0), .hn w.heap.size (S), .eq (.int .i64 0), .hn w.heap.size (S)] Tryd.mixed (by kernel_rfl) (by kernel_rfl) (by rw [sz]; kernel_rfl) (by kernel_rfl) ⟨fun hw ac u K => ?_, fun hw ac u K => ?_, fun hw ac u K => ?_, fun hw ac u K => ?_, fun hw ac u K => ?_, fun hw ac u K => ?_, fun hw ac u K => ?_, fun hw ac u K => ?_, fun hw ac u K => ?_, fun hw ac u K => ?_, fun hw ac u K => ?_, trivial⟩ ?_
    · exact st_move (.tmp 0) rfl ((K.old 0 rfl).trans x0)
    · exact st_nil (.tmp 27) rfl (K.dep 0 27 rfl)
    · exact st_field 69 0 (.tmp 28) rfl (K.dep 1 28 rfl) (by kernel_rfl)
    · exact st_loadhd (.tmp 29) rfl (kb) (seed) (K.dep 2 29 rfl) hx (Ob.below hk (bl.trans (Below.mono K.grow bl.size)))
    · exact st_move (.tmp 1) rfl ((K.old 1 rfl).trans x1)
    · exact st_load23 (.tmp 5) rfl (g5) (h) ((K.old 5 rfl).trans x5) hh (Ob.below m5 K.grow)
    · exact st_call 18 (.func 18) _ _ #[.agg ((seed).map V).toArray, .int .i64 ((i : Nat) : Int), .agg ((h).map V).toArray] rfl rfl (arg3 (K.dep 3 30 rfl) (K.dep 4 31 rfl) (K.dep 5 32 rfl)) Tryd.enter18 (fk_sign_two hx hh hi (hK.below (bl.trans (Below.mono K.grow bl.size))) (Nat.le_trans bl.size K.grow.size) eS1)
    · exact st_move (.tmp 33) rfl (K.dep 6 33 rfl)
    · exact st_t2a (.tmp 26) rfl (K.dep 7 26 rfl)
    · exact st_t2b (.tmp 26) rfl (K.dep 7 26 rfl)
    · exact st_assign (.tmp 34) rfl (K.dep 8 34 rfl)
    intro f8 w8 A hb
    replace bl0 := bl
    replace x0 := (A.old 0 rfl).trans x0
    replace x1 := (A.old 1 rfl).trans x1
    replace x5 := (A.old 5 rfl).trans x5
    replace x6 := (A.old 6 rfl).trans x6
    clear x7
    replace x11 := (A.old 11 rfl).trans x11
    replace x12 := (A.old 12 rfl).trans x12
    replace x24 := (A.old 24 rfl).trans x24
    have x7 : Fk.f (.hn w.heap.size (S)) (f8.eval (.tmp 7)) w8 := A.has 10 7 rfl
    have lt_m5 := Ob.lt m5
    replace m5 := Ob.below m5 hb
    replace bl := (bl.trans (Below.mono hb bl.size))
    replace sz := A.size.trans sz
    replace df := A.defs.trans df
    clear A hb
    show Code.wp _ _ _ _ _
    refine wp_seq ?_
    -- R7
    refine wp_all_seq [.hn w.heap.size (S), .hn w.heap.size (S)] (by kernel_rfl) (by kernel_rfl) (by rw [sz]; kernel_rfl) (by kernel_rfl) ⟨fun hw ac u K => ?_, fun hw ac u K => ?_, trivial⟩ ?_
    · exact st_move (.tmp 7) rfl (f_at (K.old 7 rfl) (Fk.mono _ _ _ _ x7 K.grow))
    · exact st_assign (.tmp 36) rfl (K.dep 0 36 rfl)
    intro f9 w9 A hb
    replace bl0 := bl
    replace x0 := (A.old 0 rfl).trans x0
    replace x1 := (A.old 1 rfl).trans x1
    replace x5 := (A.old 5 rfl).trans x5
    clear x6
    replace x11 := (A.old 11 rfl).trans x11
    replace x12 := (A.old 12 rfl).trans x12
    replace x24 := (A.old 24 rfl).trans x24
    replace x7 := f_at (A.old 7 rfl) (Fk.mono _ _ _ _ x7 hb)
    have x6 : Fk.f (.hn w.heap.size (S)) (f9.eval (.tmp 6)) w9 := A.has 1 6 rfl
    have lt_m5 := Ob.lt m5
    replace m5 := Ob.below m5 hb
    replace bl := (bl.trans (Below.mono hb bl.size))
    replace sz := A.size.trans sz
    replace df := A.defs.trans df
    clear A hb
    clear x7
    show Code.wp _ _ _ _ _
    refine wp_ret ?_
    repeat (first | with_reducible refine then_ret ?_ | with_reducible refine block_ret ?_)
    exact bodyPost_ret (v := f9.eval (.tmp 6)) (ret_slot rfl f9 _ rfl _ _) df ⟨_, rfl, x6, bl⟩
  have eS1 := sgp_one hkd eS
  -- R3
  refine wp_all_seq [.eq (.bool true), .eq (.bool true)] (by kernel_rfl) (by kernel_rfl) (by rw [sz]; kernel_rfl) (by kernel_rfl) ⟨fun hw ac u K => ?_, fun hw ac u K => ?_, trivial⟩ ?_
  · exact st_eqi 3 (.tmp 11) (.const (.int .i64 1)) rfl .i64 (((kind : Nat) : Int)) (1) ((K.old 11 rfl).trans x11) rfl _ (by simp [hkd])
  · exact st_assign (.tmp 13) rfl (K.dep 0 13 rfl)
  intro f6 w6 A hb
  replace bl0 := bl
  replace x0 := (A.old 0 rfl).trans x0
  replace x1 := (A.old 1 rfl).trans x1
  replace x5 := (A.old 5 rfl).trans x5
  replace x6 := (A.old 6 rfl).trans x6
  replace x7 := (A.old 7 rfl).trans x7
  replace x11 := (A.old 11 rfl).trans x11
  have x12 : f6.eval (.tmp 12) = .bool true := A.has 1 12 rfl
  have lt_m5 := Ob.lt m5
  replace m5 := Ob.below m5 hb
  replace bl := (bl.trans (Below.mono hb bl.size))
  replace sz := A.size.trans sz
  replace df := A.defs.trans df
  clear A hb
  show Code.wp _ _ _ _ _
  refine wp_cond_true x12 ?_
  -- R4
  refine wp_all [.eq (.pointer (some ⟨kb, 0, none⟩)), .eq (.pointer (some ⟨kb, 0, none⟩)), .eq (.pointer (some ⟨kb, 0, none⟩)), .eq (.agg ((seed).map V).toArray), .eq (.int .i64 ((i : Nat) : Int)), .eq (.agg ((h).map V).toArray), .t2 (.hn w.heap.size (S)) (.int .i64 0), .t2 (.hn w.heap.size (S)) (.int .i64 0), .hn w.heap.size (S), .eq (.int .i64 0), .hn w.heap.size (S)] Tryd.mixed (by kernel_rfl) (by kernel_rfl) (by rw [sz]; kernel_rfl) (by kernel_rfl) ⟨fun hw ac u K => ?_, fun hw ac u K => ?_, fun hw ac u K => ?_, fun hw ac u K => ?_, fun hw ac u K => ?_, fun hw ac u K => ?_, fun hw ac u K => ?_, fun hw ac u K => ?_, fun hw ac u K => ?_, fun hw ac u K => ?_, fun hw ac u K => ?_, trivial⟩ ?_
  · exact st_move (.tmp 0) rfl ((K.old 0 rfl).trans x0)
  · exact st_nil (.tmp 15) rfl (K.dep 0 15 rfl)
  · exact st_field 69 0 (.tmp 16) rfl (K.dep 1 16 rfl) (by kernel_rfl)
  · exact st_loadhd (.tmp 17) rfl (kb) (seed) (K.dep 2 17 rfl) hx (Ob.below hk (bl.trans (Below.mono K.grow bl.size)))
  · exact st_move (.tmp 1) rfl ((K.old 1 rfl).trans x1)
  · exact st_load23 (.tmp 5) rfl (g5) (h) ((K.old 5 rfl).trans x5) hh (Ob.below m5 K.grow)
  · exact st_call 16 (.func 16) _ _ #[.agg ((seed).map V).toArray, .int .i64 ((i : Nat) : Int), .agg ((h).map V).toArray] rfl rfl (arg3 (K.dep 3 18 rfl) (K.dep 4 19 rfl) (K.dep 5 20 rfl)) Tryd.enter16 (fk_sign_one hx hh hi (hK.below (bl.trans (Below.mono K.grow bl.size))) (Nat.le_trans bl.size K.grow.size) eS1)
  · exact st_move (.tmp 21) rfl (K.dep 6 21 rfl)
  · exact st_t2a (.tmp 14) rfl (K.dep 7 14 rfl)
  · exact st_t2b (.tmp 14) rfl (K.dep 7 14 rfl)
  · exact st_assign (.tmp 22) rfl (K.dep 8 22 rfl)
  intro f7 w7 A hb
  replace bl0 := bl
  replace x0 := (A.old 0 rfl).trans x0
  replace x1 := (A.old 1 rfl).trans x1
  replace x5 := (A.old 5 rfl).trans x5
  replace x6 := (A.old 6 rfl).trans x6
  clear x7
  replace x11 := (A.old 11 rfl).trans x11
  replace x12 := (A.old 12 rfl).trans x12
  have x7 : Fk.f (.hn w.heap.size (S)) (f7.eval (.tmp 7)) w7 := A.has 10 7 rfl
  have lt_m5 := Ob.lt m5
  replace m5 := Ob.below m5 hb
  replace bl := (bl.trans (Below.mono hb bl.size))
  replace sz := A.size.trans sz
  replace df := A.defs.trans df
  clear A hb
  show Code.wp _ _ _ _ _
  refine wp_seq ?_
  -- R7
  refine wp_all_seq [.hn w.heap.size (S), .hn w.heap.size (S)] (by kernel_rfl) (by kernel_rfl) (by rw [sz]; kernel_rfl) (by kernel_rfl) ⟨fun hw ac u K => ?_, fun hw ac u K => ?_, trivial⟩ ?_
  · exact st_move (.tmp 7) rfl (f_at (K.old 7 rfl) (Fk.mono _ _ _ _ x7 K.grow))
  · exact st_assign (.tmp 36) rfl (K.dep 0 36 rfl)
  intro f8 w8 A hb
  replace bl0 := bl
  replace x0 := (A.old 0 rfl).trans x0
  replace x1 := (A.old 1 rfl).trans x1
  replace x5 := (A.old 5 rfl).trans x5
  clear x6
  replace x11 := (A.old 11 rfl).trans x11
  replace x12 := (A.old 12 rfl).trans x12
  replace x7 := f_at (A.old 7 rfl) (Fk.mono _ _ _ _ x7 hb)
  have x6 : Fk.f (.hn w.heap.size (S)) (f8.eval (.tmp 6)) w8 := A.has 1 6 rfl
  have lt_m5 := Ob.lt m5
  replace m5 := Ob.below m5 hb
  replace bl := (bl.trans (Below.mono hb bl.size))
  replace sz := A.size.trans sz
  replace df := A.defs.trans df
  clear A hb
  clear x7
  show Code.wp _ _ _ _ _
  refine wp_ret ?_
  repeat (first | with_reducible refine then_ret ?_ | with_reducible refine block_ret ?_)
  exact bodyPost_ret (v := f8.eval (.tmp 6)) (ret_slot rfl f8 _ rfl _ _) df ⟨_, rfl, x6, bl⟩
end Go.Proofs.YtnanipeapjpkfaaDoor
