/- Copy and Bytes of package compact. Hashes of an In once more: what is told lies in a block of its own, all of it hashes. The place of the lowest bit, the count of ones, for numbers below 2^21; peaksOf. Parse of package compact. A drawn region in which a store does not wait for what is read beside it: looks at hashes and slices, and the store. One hash more, appended to a row that lies anywhere: in place, or in a new block; all other blocks are as they were. A drawn region with one operation that only looks and for which the last ones need not wait: it is taken first; the others in any order; the last ones in a chain. A range over a function that has memory of its own, which it writes between two rounds: the caller's law. Regions in which a yield is called; regions of steps alone, in a round. compact.fromEnd: what it gives. What is told in a round: variables that lie below, the loop's record turned, the frame of a round. -/
import Derived.Test.YtnppjlpnfijobaaDoorM6
import Derived.Test.YtnppjlpnfijobaaDoorM5
import Derived.Test.YtnppjlpnfijobaaDoorM3
import Derived.Test.YtnppjlpnfijobaaDoorM4
import Derived.Test.YtnppjlpnfijobaaDoorM2
import Derived.RangeFuncNested
namespace Go.Proofs.YtnppjlpnfijobaaDoor
set_option maxRecDepth 100000
open Go.RowKit
theorem fk_rbytes {w : World} {g k n : Nat} {P : List (List (BitVec 8))} (hr : HR w g k n P) :
    Calls Tryd.prog 16 #[.pointer (some ⟨g, 0, none⟩)] w fun e w' => ∃ u, e = .returned u ∧ (Fk.sl (be8 n ++ hsb P)).f u w' ∧ Below w.heap.size w w' := by
  obtain ⟨v, m0, hv⟩ := hr.row
  obtain ⟨A, C, lb, lo, rfl, _, hl⟩ := ow_hc hv
  have hvs : (Fk.hs P).f (.slice A P.length C) w := ⟨A, C, lb, lo, rfl, hl⟩
  have hl21 := hr.len
  obtain ⟨lP, oP, fP⟩ := hs_fl hvs
  go_enter Tryd.func16, Tryd.ntmps16
  refine code_both (fun f w1 => f.tmps.size = 15 ∧ f.defers = [] ∧ f.eval (.tmp 0) = .pointer (some ⟨g, 0, none⟩) ∧ Below w.heap.size w (w1)) ⟨rfl, rfl, rfl, Below.refl _ _⟩ ?_
  rintro f0 w0 ⟨sz, df, x0, bl⟩
  have bl0 := bl
  refine wp_seq ?_
  refine wp_all_seq [.eq (.slice none 0 0)] (by kernel_rfl) (by kernel_rfl) (by rw [sz]; kernel_rfl) (by kernel_rfl) ⟨fun hw ac u K => ?_, trivial⟩ ?_
  · exact st_assign (.const (.slice none 0 0)) rfl rfl
  intro f1 w1 A hb
  replace bl0 := bl
  replace x0 := (A.old 0 rfl).trans x0
  have x2 : f1.eval (.tmp 2) = .slice none 0 0 := A.has 0 2 rfl
  replace bl := (bl.trans (Below.mono hb bl.size))
  replace sz := A.size.trans sz
  replace df := A.defs.trans df
  clear A hb
  show Code.wp _ _ _ _ _
  refine wp_seq ?_
  refine wp_all_seq [.nw w1.heap.size 58 [.slice none 0 0]] (by kernel_rfl) (by kernel_rfl) (by rw [sz]; kernel_rfl) (by kernel_rfl) ⟨fun hw ac u K => ?_, trivial⟩ ?_
  · exact st_alloc 58 rfl _ _ (by kernel_rfl) K.grow.size
  intro f2 w2 A hb
  replace bl0 := bl
  replace x0 := (A.old 0 rfl).trans x0
  replace x2 := (A.old 2 rfl).trans x2
  have x3 : Fk.f (.nw w1.heap.size 58 [.slice none 0 0]) (f2.eval (.tmp 3)) w2 := A.has 0 3 rfl
  replace bl := (bl.trans (Below.mono hb bl.size))
  replace sz := A.size.trans sz
  replace df := A.defs.trans df
  clear A hb
  obtain ⟨g3, hg3, e3, m3⟩ := x3
  have x3 := e3
  clear e3
  have nm0_3 : g ≠ g3 := Nat.ne_of_lt (Nat.lt_of_lt_of_le (Ob.lt m0) (Nat.le_trans bl0.size hg3))
  have hw3 : w.heap.size ≤ g3 := Nat.le_trans bl0.size hg3
  show Code.wp _ _ _ _ _
  refine wp_seq ?_
  have hO : HasOut w2.drew g3 (.slice none 0 0) [] := out_nil m3
  have blW : Below w.heap.size w w2 := bl
  clear m3
  refine wp_region_held_drew (S := fun W => Below g3 w2 W) Tryd.mixed ((Below.refl _ _).drew) (fun hS => ?_)
  refine wh_take 0 4 (v := .pointer (some ⟨g, 0, none⟩)) rfl rfl (by rw [sz]; decide) rfl (by kernel_rfl) (by kernel_rfl) (by kernel_rfl) (fun _ _ _ h => h) (run_mv rfl x0) hS ?_
  intro f4 df2 sz2 old2 new2
  replace x0 : f4.eval (.tmp 0) = .pointer (some ⟨g, 0, none⟩) := (old2 0 rfl).trans x0
  replace x2 : f4.eval (.tmp 2) = .slice none 0 0 := (old2 2 rfl).trans x2
  replace x3 : f4.eval (.tmp 3) = .pointer (some ⟨g3, 0, none⟩) := (old2 3 rfl).trans x3
  have x4 : f4.eval (.tmp 4) = .pointer (some ⟨g, 0, none⟩) := new2
  replace sz := sz2.trans sz
  replace df := df2.trans df
  clear df2 sz2 old2 new2
  refine wh_take 1 5 (v := .pointer (some ⟨g, 0, none⟩)) rfl rfl (by rw [sz]; decide) rfl (by kernel_rfl) (by kernel_rfl) (by kernel_rfl) (fun _ _ _ h => h) (run_nilc rfl x4) hS ?_
  intro f5 df2 sz2 old2 new2
  replace x0 : f5.eval (.tmp 0) = .pointer (some ⟨g, 0, none⟩) := (old2 0 rfl).trans x0
  replace x2 : f5.eval (.tmp 2) = .slice none 0 0 := (old2 2 rfl).trans x2
  replace x3 : f5.eval (.tmp 3) = .pointer (some ⟨g3, 0, none⟩) := (old2 3 rfl).trans x3
  replace x4 : f5.eval (.tmp 4) = .pointer (some ⟨g, 0, none⟩) := (old2 4 rfl).trans x4
  have x5 : f5.eval (.tmp 5) = .pointer (some ⟨g, 0, none⟩) := new2
  replace sz := sz2.trans sz
  replace df := df2.trans df
  clear df2 sz2 old2 new2
  refine wh_take 2 6 (v := .pointer (some ⟨g, 0, none⟩)) rfl rfl (by rw [sz]; decide) rfl (by kernel_rfl) (by kernel_rfl) (by kernel_rfl) (fun _ _ _ h => h) (run_field rfl x5 (fun w => by kernel_rfl)) hS ?_
  intro f6 df2 sz2 old2 new2
  replace x0 : f6.eval (.tmp 0) = .pointer (some ⟨g, 0, none⟩) := (old2 0 rfl).trans x0
  replace x2 : f6.eval (.tmp 2) = .slice none 0 0 := (old2 2 rfl).trans x2
  replace x3 : f6.eval (.tmp 3) = .pointer (some ⟨g3, 0, none⟩) := (old2 3 rfl).trans x3
  replace x4 : f6.eval (.tmp 4) = .pointer (some ⟨g, 0, none⟩) := (old2 4 rfl).trans x4
  replace x5 : f6.eval (.tmp 5) = .pointer (some ⟨g, 0, none⟩) := (old2 5 rfl).trans x5
  have x6 : f6.eval (.tmp 6) = .pointer (some ⟨g, 0, none⟩) := new2
  replace sz := sz2.trans sz
  replace df := df2.trans df
  clear df2 sz2 old2 new2
  refine wh_take 3 7 (v := .int .i64 ((n : Nat) : Int)) rfl rfl (by rw [sz]; decide) rfl (by kernel_rfl) (by kernel_rfl) (by kernel_rfl) (fun _ _ _ h => h) (run_loadc rfl (fun w => by kernel_rfl) x6 (fun W hW => Ob.cell ((Ob.below m0 (blW.trans (Below.mono hW hw3)))) 0 rfl)) hS ?_
  intro f7 df2 sz2 old2 new2
  replace x0 : f7.eval (.tmp 0) = .pointer (some ⟨g, 0, none⟩) := (old2 0 rfl).trans x0
  replace x2 : f7.eval (.tmp 2) = .slice none 0 0 := (old2 2 rfl).trans x2
  replace x3 : f7.eval (.tmp 3) = .pointer (some ⟨g3, 0, none⟩) := (old2 3 rfl).trans x3
  replace x4 : f7.eval (.tmp 4) = .pointer (some ⟨g, 0, none⟩) := (old2 4 rfl).trans x4
  replace x5 : f7.eval (.tmp 5) = .pointer (some ⟨g, 0, none⟩) := (old2 5 rfl).trans x5
  replace x6 : f7.eval (.tmp 6) = .pointer (some ⟨g, 0, none⟩) := (old2 6 rfl).trans x6
  have x7 : f7.eval (.tmp 7) = .int .i64 ((n : Nat) : Int) := new2
  replace sz := sz2.trans sz
  replace df := df2.trans df
  clear df2 sz2 old2 new2
  refine wh_take 5 9 (v := .pointer (some ⟨g, 0, none⟩)) rfl rfl (by rw [sz]; decide) rfl (by kernel_rfl) (by kernel_rfl) (by kernel_rfl) (fun _ _ _ h => h) (run_mv rfl x0) hS ?_
  intro f8 df2 sz2 old2 new2
  replace x0 : f8.eval (.tmp 0) = .pointer (some ⟨g, 0, none⟩) := (old2 0 rfl).trans x0
  replace x2 : f8.eval (.tmp 2) = .slice none 0 0 := (old2 2 rfl).trans x2
  replace x3 : f8.eval (.tmp 3) = .pointer (some ⟨g3, 0, none⟩) := (old2 3 rfl).trans x3
  replace x4 : f8.eval (.tmp 4) = .pointer (some ⟨g, 0, none⟩) := (old2 4 rfl).trans x4
  replace x5 : f8.eval (.tmp 5) = .pointer (some ⟨g, 0, none⟩) := (old2 5 rfl).trans x5
  replace x6 : f8.eval (.tmp 6) = .pointer (some ⟨g, 0, none⟩) := (old2 6 rfl).trans x6
  replace x7 : f8.eval (.tmp 7) = .int .i64 ((n : Nat) : Int) := (old2 7 rfl).trans x7
  have x9 : f8.eval (.tmp 9) = .pointer (some ⟨g, 0, none⟩) := new2
  replace sz := sz2.trans sz
  replace df := df2.trans df
  clear df2 sz2 old2 new2
  refine wh_take 6 10 (v := .pointer (some ⟨g, 0, none⟩)) rfl rfl (by rw [sz]; decide) rfl (by kernel_rfl) (by kernel_rfl) (by kernel_rfl) (fun _ _ _ h => h) (run_nilc rfl x9) hS ?_
  intro f9 df2 sz2 old2 new2
  replace x0 : f9.eval (.tmp 0) = .pointer (some ⟨g, 0, none⟩) := (old2 0 rfl).trans x0
  replace x2 : f9.eval (.tmp 2) = .slice none 0 0 := (old2 2 rfl).trans x2
  replace x3 : f9.eval (.tmp 3) = .pointer (some ⟨g3, 0, none⟩) := (old2 3 rfl).trans x3
  replace x4 : f9.eval (.tmp 4) = .pointer (some ⟨g, 0, none⟩) := (old2 4 rfl).trans x4
  replace x5 : f9.eval (.tmp 5) = .pointer (some ⟨g, 0, none⟩) := (old2 5 rfl).trans x5
  replace x6 : f9.eval (.tmp 6) = .pointer (some ⟨g, 0, none⟩) := (old2 6 rfl).trans x6
  replace x7 : f9.eval (.tmp 7) = .int .i64 ((n : Nat) : Int) := (old2 7 rfl).trans x7
  replace x9 : f9.eval (.tmp 9) = .pointer (some ⟨g, 0, none⟩) := (old2 9 rfl).trans x9
  have x10 : f9.eval (.tmp 10) = .pointer (some ⟨g, 0, none⟩) := new2
  replace sz := sz2.trans sz
  replace df := df2.trans df
  clear df2 sz2 old2 new2
  refine wh_take 7 11 (v := .pointer (some ⟨g, 1, none⟩)) rfl rfl (by rw [sz]; decide) rfl (by kernel_rfl) (by kernel_rfl) (by kernel_rfl) (fun _ _ _ h => h) (run_field rfl x10 (fun w => by kernel_rfl)) hS ?_
  intro f10 df2 sz2 old2 new2
  replace x0 : f10.eval (.tmp 0) = .pointer (some ⟨g, 0, none⟩) := (old2 0 rfl).trans x0
  replace x2 : f10.eval (.tmp 2) = .slice none 0 0 := (old2 2 rfl).trans x2
  replace x3 : f10.eval (.tmp 3) = .pointer (some ⟨g3, 0, none⟩) := (old2 3 rfl).trans x3
  replace x4 : f10.eval (.tmp 4) = .pointer (some ⟨g, 0, none⟩) := (old2 4 rfl).trans x4
  replace x5 : f10.eval (.tmp 5) = .pointer (some ⟨g, 0, none⟩) := (old2 5 rfl).trans x5
  replace x6 : f10.eval (.tmp 6) = .pointer (some ⟨g, 0, none⟩) := (old2 6 rfl).trans x6
  replace x7 : f10.eval (.tmp 7) = .int .i64 ((n : Nat) : Int) := (old2 7 rfl).trans x7
  replace x9 : f10.eval (.tmp 9) = .pointer (some ⟨g, 0, none⟩) := (old2 9 rfl).trans x9
  replace x10 : f10.eval (.tmp 10) = .pointer (some ⟨g, 0, none⟩) := (old2 10 rfl).trans x10
  have x11 : f10.eval (.tmp 11) = .pointer (some ⟨g, 1, none⟩) := new2
  replace sz := sz2.trans sz
  replace df := df2.trans df
  clear df2 sz2 old2 new2
  refine wh_take 8 12 (v := .slice A (P).length C) rfl rfl (by rw [sz]; decide) rfl (by kernel_rfl) (by kernel_rfl) (by kernel_rfl) (fun _ _ _ h => h) (run_loadc rfl (fun w => by kernel_rfl) x11 (fun W hW => Ob.cell ((Ob.below m0 (blW.trans (Below.mono hW hw3)))) 1 rfl)) hS ?_
  intro f11 df2 sz2 old2 new2
  replace x0 : f11.eval (.tmp 0) = .pointer (some ⟨g, 0, none⟩) := (old2 0 rfl).trans x0
  replace x2 : f11.eval (.tmp 2) = .slice none 0 0 := (old2 2 rfl).trans x2
  replace x3 : f11.eval (.tmp 3) = .pointer (some ⟨g3, 0, none⟩) := (old2 3 rfl).trans x3
  replace x4 : f11.eval (.tmp 4) = .pointer (some ⟨g, 0, none⟩) := (old2 4 rfl).trans x4
  replace x5 : f11.eval (.tmp 5) = .pointer (some ⟨g, 0, none⟩) := (old2 5 rfl).trans x5
  replace x6 : f11.eval (.tmp 6) = .pointer (some ⟨g, 0, none⟩) := (old2 6 rfl).trans x6
  replace x7 : f11.eval (.tmp 7) = .int .i64 ((n : Nat) : Int) := (old2 7 rfl).trans x7
  replace x9 : f11.eval (.tmp 9) = .pointer (some ⟨g, 0, none⟩) := (old2 9 rfl).trans x9
  replace x10 : f11.eval (.tmp 10) = .pointer (some ⟨g, 0, none⟩) := (old2 10 rfl).trans x10
  replace x11 : f11.eval (.tmp 11) = .pointer (some ⟨g, 1, none⟩) := (old2 11 rfl).trans x11
  have x12 : f11.eval (.tmp 12) = .slice A (P).length C := new2
  replace sz := sz2.trans sz
  replace df := df2.trans df
  clear df2 sz2 old2 new2
  refine wh_call 4 8 rfl rfl (by rw [sz]; decide) rfl (by kernel_rfl) 28 (.func 28) _ _ #[.pointer (some ⟨g3, 0, none⟩), .int .i64 ((n : Nat) : Int)] rfl rfl (arg2 x3 x7) Tryd.enter28 (fun v W => v = .pointer (some ⟨g3, 0, none⟩) ∧ ∃ v', HasOut W g3 v' ([] ++ be8 n) ∧ Put g3 (.slice none 0 0) v' w2.drew W) (by refine (oint_any g3 n (.slice none 0 0) ([]) w2.drew hO (by simp)).mono ?_; rintro e w' ⟨rfl, h⟩; exact ⟨_, rfl, rfl, h⟩) ?_
  rintro f12 w12 df2 sz2 old2 ⟨new2, u8, hO8, hP8⟩
  replace hS : Below g3 w2 w12 := hS.trans (Put.below hP8 hO _ (Nat.le_refl _))
  refine ⟨hS, ?_⟩
  replace x0 : f12.eval (.tmp 0) = .pointer (some ⟨g, 0, none⟩) := (old2 0 rfl).trans x0
  replace x2 : f12.eval (.tmp 2) = .slice none 0 0 := (old2 2 rfl).trans x2
  replace x3 : f12.eval (.tmp 3) = .pointer (some ⟨g3, 0, none⟩) := (old2 3 rfl).trans x3
  replace x4 : f12.eval (.tmp 4) = .pointer (some ⟨g, 0, none⟩) := (old2 4 rfl).trans x4
  replace x5 : f12.eval (.tmp 5) = .pointer (some ⟨g, 0, none⟩) := (old2 5 rfl).trans x5
  replace x6 : f12.eval (.tmp 6) = .pointer (some ⟨g, 0, none⟩) := (old2 6 rfl).trans x6
  replace x7 : f12.eval (.tmp 7) = .int .i64 ((n : Nat) : Int) := (old2 7 rfl).trans x7
  replace x9 : f12.eval (.tmp 9) = .pointer (some ⟨g, 0, none⟩) := (old2 9 rfl).trans x9
  replace x10 : f12.eval (.tmp 10) = .pointer (some ⟨g, 0, none⟩) := (old2 10 rfl).trans x10
  replace x11 : f12.eval (.tmp 11) = .pointer (some ⟨g, 1, none⟩) := (old2 11 rfl).trans x11
  replace x12 : f12.eval (.tmp 12) = .slice A (P).length C := (old2 12 rfl).trans x12
  have x8 : f12.eval (.tmp 8) = .pointer (some ⟨g3, 0, none⟩) := new2
  replace sz := sz2.trans sz
  replace df := df2.trans df
  clear df2 sz2 old2
  clear new2
  refine wh_call 9 13 rfl rfl (by rw [sz]; decide) rfl (by kernel_rfl) 29 (.func 29) _ _ #[.pointer (some ⟨g3, 0, none⟩), .slice A (P).length C] rfl rfl (arg2 x8 x12) Tryd.enter29 (fun v W => v = .pointer (some ⟨g3, 0, none⟩) ∧ ∃ v', HasOut W g3 v' ([] ++ be8 n ++ beN P.length 4 ++ P.flatten) ∧ Put g3 u8 v' w12 W) (by refine (ohashes_any g3 _ _ P.length C A P.flatten u8 ([] ++ be8 n) w12 hO8 (Fl.below fP (blW.trans (Below.mono hS hw3)) (fun h => (fP.src h).2.1)) (fun h => Nat.lt_of_lt_of_le (fP.src h).2.1 hw3) (by omega) (by simp [be8_len])).mono ?_; rintro e w' ⟨rfl, h⟩; exact ⟨_, rfl, rfl, h⟩) ?_
  rintro f13 w13 df2 sz2 old2 ⟨new2, u13, hO13, hP13⟩
  replace hS : Below g3 w2 w13 := hS.trans (Put.below hP13 hO8 _ (Nat.le_refl _))
  refine ⟨hS, ?_⟩
  replace x0 : f13.eval (.tmp 0) = .pointer (some ⟨g, 0, none⟩) := (old2 0 rfl).trans x0
  replace x2 : f13.eval (.tmp 2) = .slice none 0 0 := (old2 2 rfl).trans x2
  replace x3 : f13.eval (.tmp 3) = .pointer (some ⟨g3, 0, none⟩) := (old2 3 rfl).trans x3
  replace x4 : f13.eval (.tmp 4) = .pointer (some ⟨g, 0, none⟩) := (old2 4 rfl).trans x4
  replace x5 : f13.eval (.tmp 5) = .pointer (some ⟨g, 0, none⟩) := (old2 5 rfl).trans x5
  replace x6 : f13.eval (.tmp 6) = .pointer (some ⟨g, 0, none⟩) := (old2 6 rfl).trans x6
  replace x7 : f13.eval (.tmp 7) = .int .i64 ((n : Nat) : Int) := (old2 7 rfl).trans x7
  replace x9 : f13.eval (.tmp 9) = .pointer (some ⟨g, 0, none⟩) := (old2 9 rfl).trans x9
  replace x10 : f13.eval (.tmp 10) = .pointer (some ⟨g, 0, none⟩) := (old2 10 rfl).trans x10
  replace x11 : f13.eval (.tmp 11) = .pointer (some ⟨g, 1, none⟩) := (old2 11 rfl).trans x11
  replace x12 : f13.eval (.tmp 12) = .slice A (P).length C := (old2 12 rfl).trans x12
  replace x8 : f13.eval (.tmp 8) = .pointer (some ⟨g3, 0, none⟩) := (old2 8 rfl).trans x8
  have x13 : f13.eval (.tmp 13) = .pointer (some ⟨g3, 0, none⟩) := new2
  replace sz := sz2.trans sz
  replace df := df2.trans df
  clear df2 sz2 old2
  clear new2
  refine wh_call 10 14 rfl rfl (by rw [sz]; decide) rfl (by kernel_rfl) 30 (.func 30) _ _ #[.pointer (some ⟨g3, 0, none⟩)] rfl rfl (one_arg x13) Tryd.enter30 (fun u W => (Fk.sl ([] ++ be8 n ++ beN P.length 4 ++ P.flatten)).f u W ∧ Below w13.heap.size w13 W) (by obtain ⟨gb, hrv⟩ := out_rv hO13; refine (all_any g3 u13 gb _ _ hO13.1 hrv (by simp only [List.length_append, be8_len, beN_len, fP.len, List.length_nil]; omega)).mono ?_; rintro e w' ⟨v, rfl, h1, h2⟩; exact ⟨_, rfl, own_sl h1, h2⟩) ?_
  rintro f14 w14 df2 sz2 old2 ⟨x14, hb14⟩
  replace hS : Below g3 w2 w14 := hS.trans (Below.mono hb14 (Nat.le_of_lt hO13.lt))
  refine ⟨hS, ?_⟩
  replace x0 : f14.eval (.tmp 0) = .pointer (some ⟨g, 0, none⟩) := (old2 0 rfl).trans x0
  replace x2 : f14.eval (.tmp 2) = .slice none 0 0 := (old2 2 rfl).trans x2
  replace x3 : f14.eval (.tmp 3) = .pointer (some ⟨g3, 0, none⟩) := (old2 3 rfl).trans x3
  replace x4 : f14.eval (.tmp 4) = .pointer (some ⟨g, 0, none⟩) := (old2 4 rfl).trans x4
  replace x5 : f14.eval (.tmp 5) = .pointer (some ⟨g, 0, none⟩) := (old2 5 rfl).trans x5
  replace x6 : f14.eval (.tmp 6) = .pointer (some ⟨g, 0, none⟩) := (old2 6 rfl).trans x6
  replace x7 : f14.eval (.tmp 7) = .int .i64 ((n : Nat) : Int) := (old2 7 rfl).trans x7
  replace x9 : f14.eval (.tmp 9) = .pointer (some ⟨g, 0, none⟩) := (old2 9 rfl).trans x9
  replace x10 : f14.eval (.tmp 10) = .pointer (some ⟨g, 0, none⟩) := (old2 10 rfl).trans x10
  replace x11 : f14.eval (.tmp 11) = .pointer (some ⟨g, 1, none⟩) := (old2 11 rfl).trans x11
  replace x12 : f14.eval (.tmp 12) = .slice A (P).length C := (old2 12 rfl).trans x12
  replace x8 : f14.eval (.tmp 8) = .pointer (some ⟨g3, 0, none⟩) := (old2 8 rfl).trans x8
  replace x13 : f14.eval (.tmp 13) = .pointer (some ⟨g3, 0, none⟩) := (old2 13 rfl).trans x13
  replace sz := sz2.trans sz
  replace df := df2.trans df
  clear df2 sz2 old2
  refine wh_assign 11 2 rfl rfl (by rw [sz]; decide) rfl (by kernel_rfl) (.tmp 14) rfl hS ?_
  intro f15 df2 sz2 old2 new2
  clear x2
  replace x0 : f15.eval (.tmp 0) = .pointer (some ⟨g, 0, none⟩) := (old2 0 rfl).trans x0
  replace x3 : f15.eval (.tmp 3) = .pointer (some ⟨g3, 0, none⟩) := (old2 3 rfl).trans x3
  replace x4 : f15.eval (.tmp 4) = .pointer (some ⟨g, 0, none⟩) := (old2 4 rfl).trans x4
  replace x5 : f15.eval (.tmp 5) = .pointer (some ⟨g, 0, none⟩) := (old2 5 rfl).trans x5
  replace x6 : f15.eval (.tmp 6) = .pointer (some ⟨g, 0, none⟩) := (old2 6 rfl).trans x6
  replace x7 : f15.eval (.tmp 7) = .int .i64 ((n : Nat) : Int) := (old2 7 rfl).trans x7
  replace x9 : f15.eval (.tmp 9) = .pointer (some ⟨g, 0, none⟩) := (old2 9 rfl).trans x9
  replace x10 : f15.eval (.tmp 10) = .pointer (some ⟨g, 0, none⟩) := (old2 10 rfl).trans x10
  replace x11 : f15.eval (.tmp 11) = .pointer (some ⟨g, 1, none⟩) := (old2 11 rfl).trans x11
  replace x12 : f15.eval (.tmp 12) = .slice A (P).length C := (old2 12 rfl).trans x12
  replace x8 : f15.eval (.tmp 8) = .pointer (some ⟨g3, 0, none⟩) := (old2 8 rfl).trans x8
  replace x13 : f15.eval (.tmp 13) = .pointer (some ⟨g3, 0, none⟩) := (old2 13 rfl).trans x13
  replace sz := sz2.trans sz
  replace df := df2.trans df
  clear df2 sz2 old2
  have x2 : (Fk.sl ([] ++ be8 n ++ beN P.length 4 ++ P.flatten)).f (f15.eval (.tmp 2)) w14 := by rw [new2]; exact x14
  clear x14 new2
  refine wpAnyH_done (by kernel_rfl) ?_ _
  replace bl : Below w.heap.size w w14 := blW.trans (Below.mono hS hw3)
  have bl0 := bl
  have hOO := hO13
  show Code.wp _ _ _ _ _
  refine wp_ret ?_
  repeat (first | with_reducible refine then_ret ?_ | with_reducible refine block_ret ?_)
  exact bodyPost_ret (v := f15.eval (.tmp 2)) (ret_slot rfl f15 _ rfl _ _) df ⟨_, rfl, by rw [show be8 n ++ hsb P = [] ++ be8 n ++ beN P.length 4 ++ P.flatten from by simp [hsb]]; exact x2, bl⟩
end Go.Proofs.YtnppjlpnfijobaaDoor
namespace Go.Proofs.YtnppjlpnfijobaaDoor
set_option maxRecDepth 100000
open Go.RowKit
/-- The block is a row of so many hashes. -/
def RowAt (w : World) (L n : Nat) : Prop := ∃ cs, Ob w L 33 cs ∧ cs.length = n * 32
theorem RowAt.only {w w' : World} {L n g : Nat} (h : RowAt w L n) (ho : Only g w w') (hL : L < w.heap.size) (hne : L ≠ g) : RowAt w' L n := by
  obtain ⟨cs, h1, h2⟩ := h
  refine ⟨cs, ?_, h2⟩
  unfold Ob at *
  rw [ho.block L hL hne]
  exact h1
theorem RowAt.below {w w' : World} {L n : Nat} (h : RowAt w L n) (hb : Below w.heap.size w w') : RowAt w' L n := by
  obtain ⟨cs, h1, h2⟩ := h
  exact ⟨cs, h1.below hb, h2⟩
theorem RowAt.cells {L n : Nat} : ∀ (vs : List Value) (o : Nat) {w : World}, RowAt w L n → RowAt (w.setCells L o vs) L n
  | [], _, _, h => h
  | v :: r, o, w, h => RowAt.cells r (o + 1) (by
    obtain ⟨cs, h1, h2⟩ := h
    exact ⟨_, Ob.set h1 o v, by rw [List.length_set]; exact h2⟩)
end Go.Proofs.YtnppjlpnfijobaaDoor
namespace Go.Proofs.YtnppjlpnfijobaaDoor
set_option maxRecDepth 100000
open Go.RowKit
theorem land2 (x y : Nat) : x &&& y = 2 * ((x / 2) &&& (y / 2)) + (x % 2) * (y % 2) := by
  have h1 : (x &&& y) / 2 = (x / 2) &&& (y / 2) := Nat.and_div_two
  have h2 : (x &&& y) % 2 = (x % 2) * (y % 2) := by
    rcases Nat.mod_two_eq_zero_or_one x with hx | hx <;> rcases Nat.mod_two_eq_zero_or_one y with hy | hy <;> rw [hx, hy]
    · have := (Nat.and_mod_two_eq_one (a := x) (b := y)); omega
    · have := (Nat.and_mod_two_eq_one (a := x) (b := y)); omega
    · have := (Nat.and_mod_two_eq_one (a := x) (b := y)); omega
    · have := (Nat.and_mod_two_eq_one (a := x) (b := y)); omega
  omega
/-- A number and what it lacks to all ones have no one in common. -/
theorem land_comp (k : Nat) : ∀ a, a < 2 ^ k → a &&& (2 ^ k - 1 - a) = 0 := by
  induction k with
  | zero => intro a h; have : a = 0 := by omega
            subst this; rfl
  | succ k ih =>
    intro a h
    have hp : 2 ^ (k + 1) = 2 * 2 ^ k := by rw [Nat.pow_succ]; omega
    rw [land2, hp, show (2 * 2 ^ k - 1 - a) / 2 = 2 ^ k - 1 - a / 2 by omega, ih (a / 2) (by omega)]
    rcases Nat.mod_two_eq_zero_or_one a with h2 | h2
    · rw [h2, Nat.zero_mul]
    · rw [show (2 * 2 ^ k - 1 - a) % 2 = 0 by omega]
      simp
theorem land_low (n : Nat) : ∀ k, n + 1 < 2 ^ k → (n + 1) &&& (2 ^ k - (n + 1)) = 2 ^ tro n := by
  induction n using Nat.strongRecOn with
  | ind n ih =>
    intro k h
    cases k with
    | zero => simp at h
    | succ k =>
      have hp : 2 ^ (k + 1) = 2 * 2 ^ k := by rw [Nat.pow_succ]; omega
      rw [land2, hp]
      by_cases ho : n % 2 = 1
      · rw [tro_odd ho, show (n + 1) % 2 = 0 by omega, Nat.zero_mul, Nat.add_zero, show (n + 1) / 2 = n / 2 + 1 by omega, show (2 * 2 ^ k - (n + 1)) / 2 = 2 ^ k - (n / 2 + 1) by omega, ih (n / 2) (by omega) k (by omega), Nat.pow_succ]
        omega
      · rw [tro_even ho, show (n + 1) % 2 = 1 by omega, show (n + 1) / 2 = n / 2 by omega, show (2 * 2 ^ k - (n + 1)) / 2 = 2 ^ k - 1 - n / 2 by omega, land_comp k (n / 2) (by omega), show (2 * 2 ^ k - (n + 1)) % 2 = 1 by omega]
theorem tz_tab : ∀ t : Fin 21, dbt.getD (2 ^ t.val * 285870213051353865 % 18446744073709551616 / 2 ^ 58) 0 = t.val ∧ 2 ^ t.val * 285870213051353865 % 18446744073709551616 / 2 ^ 58 < 64 := by decide +kernel
section
variable {Q : Exit → Act → World → Prop} {o : Oper} {a : Act} {w : World}
theorem st_negu (x : Operand) (ho : o.op = .unOp .neg 80 x) (n : Nat) (h0 : 1 ≤ n) (h1 : n < 2097152) (hx : a.eval x = .int .u64 (n : Int)) : o.wp Tryd.prog a w (Ends a o.dst w (Fk.eq (.int .u64 ((18446744073709551616 - n : Nat) : Int))).f) Q := by
  refine st_pure (v := .int .u64 ((18446744073709551616 - n : Nat) : Int)) ?_ rfl
  have hw : IntKind.u64.wrap (-(n : Int)) = ((18446744073709551616 - n : Nat) : Int) := by rw [IntKind.wrap_u64]; omega
  unfold execOp
  rw [ho]
  simp [hx, Op.unary, Op.intArith, hw]
theorem st_andu (x y : Operand) (ho : o.op = .binOp .and 80 x y 80) (m n : Nat) (hm : m < 18446744073709551616) (hn : n < 18446744073709551616) (hx : a.eval x = .int .u64 (m : Int)) (hy : a.eval y = .int .u64 (n : Int)) : o.wp Tryd.prog a w (Ends a o.dst w (Fk.eq (.int .u64 ((m &&& n : Nat) : Int))).f) Q := by
  refine st_bin .and 80 80 x y ho hx hy ?_
  have h1 : m &&& n < 2 ^ 64 := Nat.and_lt_two_pow _ (by omega)
  have h2 : m % 2 ^ IntKind.u64.bits = m := Nat.mod_eq_of_lt (by show m < 18446744073709551616; omega)
  have h3 : n % 2 ^ IntKind.u64.bits = n := Nat.mod_eq_of_lt (by show n < 18446744073709551616; omega)
  simp [eqGuard, binOp, Op.intBits, h2, h3]
  rw [IntKind.wrap_u64]
  omega
theorem st_mulu (x y : Operand) (ho : o.op = .binOp .mul 80 x y 80) (m n : Nat) (hx : a.eval x = .int .u64 (m : Int)) (hy : a.eval y = .int .u64 (n : Int)) : o.wp Tryd.prog a w (Ends a o.dst w (Fk.eq (.int .u64 ((m * n % 18446744073709551616 : Nat) : Int))).f) Q := by
  refine st_bin .mul 80 80 x y ho hx hy ?_
  have hw : IntKind.u64.wrap ((m : Int) * (n : Int)) = ((m * n % 18446744073709551616 : Nat) : Int) := by rw [IntKind.wrap_u64]; simp
  simp [eqGuard, binOp, Op.intArith, hw]
theorem Tryd.und92z : Tryd.prog.underlying 92 = some (.array (Tryd.prog.arrayLen 92) (Tryd.prog.elem 92)) := by kernel_rfl
theorem Tryd.len92z : Tryd.prog.arrayLen 92 = 64 := by kernel_rfl
theorem Tryd.el92z : Tryd.prog.elem 92 = 5 := by kernel_rfl
theorem Tryd.sz5z (w : World) : (sizeOf 5).run Tryd.prog w = .ok 1 w := by kernel_rfl
theorem st_idxg (x y : Operand) (ho : o.op = .indexAddr 92 x y) (i : Nat) (hi : i < 64) (hx : a.eval x = .pointer (some ⟨1, 0, none⟩)) (hy : a.eval y = .int .u64 (i : Int)) : o.wp Tryd.prog a w (Ends a o.dst w (Fk.eq (.pointer (some ⟨1, i, none⟩))).f) Q := by
  refine st_pure (v := .pointer (some ⟨1, i, none⟩)) ?_ rfl
  have h1 := run_indexAt_array (P := Tryd.prog) (w := w) 92 ⟨1, 0, none⟩ .u64 (i : Int) Tryd.und92z
  rw [Tryd.len92z, if_pos (by omega), Tryd.el92z, Tryd.sz5z] at h1
  simp only [Result.andThen_ok, Int.toNat_natCast, Addr.add_mid, Nat.mul_one, Nat.zero_add] at h1
  unfold execOp
  rw [ho]
  simp [hx, hy, h1]
end
theorem tz64_any (n : Nat) (h1 : n + 1 < 2097152) {t : Nat} (ht : tro n = t) (w : World) (hz : Tab w) :
    Calls Tryd.prog 58 #[.int .u64 ((n + 1 : Nat) : Int)] w fun e w' => e = .returned (.int .i64 ((t : Nat) : Int)) ∧ Below w.heap.size w w' := by
  have hlo : (n + 1) &&& (18446744073709551616 - (n + 1)) = 2 ^ t := by rw [← ht]; exact land_low n 64 (by omega)
  have htl : t < 21 := by
    rcases Nat.lt_or_ge t 21 with h | h
    · exact h
    · have h2 : (n + 1) &&& (18446744073709551616 - (n + 1)) ≤ n + 1 := Nat.and_le_left
      have h3 : 2 ^ 21 ≤ 2 ^ t := Nat.pow_le_pow_right (by omega) h
      omega
  obtain ⟨e1, e2⟩ := tz_tab ⟨t, htl⟩
  dsimp only at e1 e2
  go_enter Tryd.func58, Tryd.ntmps58
  refine code_both (fun f w1 => f.tmps.size = 14 ∧ f.defers = [] ∧ f.eval (.tmp 0) = .int .u64 ((n + 1 : Nat) : Int) ∧ Below w.heap.size w (w1)) ⟨rfl, rfl, rfl, Below.refl _ _⟩ ?_
  rintro f0 w0 ⟨sz, df, x0, bl⟩
  have bl0 := bl
  refine wp_seq ?_
  refine wp_all_seq [.eq (.int .i64 0)] (by kernel_rfl) (by kernel_rfl) (by rw [sz]; kernel_rfl) (by kernel_rfl) ⟨fun hw ac u K => ?_, trivial⟩ ?_
  · exact st_assign (.const (.int .i64 0)) rfl rfl
  intro f1 w1 A hb
  replace bl0 := bl
  replace x0 := (A.old 0 rfl).trans x0
  have x2 : f1.eval (.tmp 2) = .int .i64 0 := A.has 0 2 rfl
  replace bl := (bl.trans (Below.mono hb bl.size))
  replace sz := A.size.trans sz
  replace df := A.defs.trans df
  clear A hb
  show Code.wp _ _ _ _ _
  refine wp_seq ?_
  refine wp_seq ?_
  refine wp_all_seq [.eq (.int .u64 ((n + 1 : Nat) : Int)), .eq (.bool false)] (by kernel_rfl) (by kernel_rfl) (by rw [sz]; kernel_rfl) (by kernel_rfl) ⟨fun hw ac u K => ?_, fun hw ac u K => ?_, trivial⟩ ?_
  · exact st_move (.tmp 0) rfl ((K.old 0 rfl).trans x0)
  · exact st_eqi 80 (.tmp 3) (.const (.int .u64 0)) rfl .u64 _ _ (K.dep 0 3 rfl) rfl _ (by rw [eq_comm, decide_eq_false_iff_not]; omega)
  intro f2 w2 A hb
  replace bl0 := bl
  replace x0 := (A.old 0 rfl).trans x0
  replace x2 := (A.old 2 rfl).trans x2
  have x4 : f2.eval (.tmp 4) = .bool false := A.has 1 4 rfl
  replace bl := (bl.trans (Below.mono hb bl.size))
  replace sz := A.size.trans sz
  replace df := A.defs.trans df
  clear A hb
  show Code.wp _ _ _ _ _
  refine wp_cond_false x4 ?_
  refine wp_skip ?_
  show Code.wp _ _ _ _ _
  refine wp_seq ?_
  refine wp_all_seq [.eq (.int .u64 ((n + 1 : Nat) : Int)), .eq (.int .u64 ((n + 1 : Nat) : Int)), .eq (.int .u64 ((18446744073709551616 - (n + 1) : Nat) : Int)), .eq (.int .u64 ((2 ^ t : Nat) : Int)), .eq (.int .u64 ((2 ^ t * 285870213051353865 % 18446744073709551616 : Nat) : Int)), .eq (.int .u64 ((2 ^ t * 285870213051353865 % 18446744073709551616 / 2 ^ 58 : Nat) : Int)), .eq (.pointer (some ⟨1, 2 ^ t * 285870213051353865 % 18446744073709551616 / 2 ^ 58, none⟩)), .eq (.int .u8 ((t : Nat) : Int)), .eq (.int .i64 ((t : Nat) : Int)), .eq (.int .i64 ((t : Nat) : Int))] (by kernel_rfl) (by kernel_rfl) (by rw [sz]; kernel_rfl) (by kernel_rfl) ⟨fun hw ac u K => ?_, fun hw ac u K => ?_, fun hw ac u K => ?_, fun hw ac u K => ?_, fun hw ac u K => ?_, fun hw ac u K => ?_, fun hw ac u K => ?_, fun hw ac u K => ?_, fun hw ac u K => ?_, fun hw ac u K => ?_, trivial⟩ ?_
  · exact st_move (.tmp 0) rfl ((K.old 0 rfl).trans x0)
  · exact st_move (.tmp 0) rfl ((K.old 0 rfl).trans x0)
  · exact st_negu (.tmp 6) rfl (n + 1) (by omega) h1 (K.dep 1 6 rfl)
  · exact by rw [← hlo]; exact st_andu (.tmp 5) (.tmp 7) rfl (n + 1) _ (by omega) (by omega) (K.dep 0 5 rfl) (K.dep 2 7 rfl)
  · exact st_mulu (.tmp 8) (.const (.int .u64 285870213051353865)) rfl (2 ^ t) _ (K.dep 3 8 rfl) rfl
  · exact st_shru 80 72 (.tmp 9) (.const (.int .u64 58)) rfl (2 ^ t * 285870213051353865 % 18446744073709551616) 58 (K.dep 4 9 rfl) rfl _ rfl (by decide)
  · exact st_idxg (.global 1) (.tmp 10) rfl _ e2 rfl (K.dep 5 10 rfl)
  · exact by rw [← e1]; exact st_loadc 5 (.tmp 11) rfl (by kernel_rfl) (K.dep 6 11 rfl) ((hz.below (bl.trans (Below.mono K.grow bl.size))).Z _ e2)
  · exact st_conv 5 3 (.tmp 12) rfl .u8 .i64 _ _ (K.dep 7 12 rfl) Tryd.under5 Tryd.under3 (by rw [IntKind.wrap_i64]; omega)
  · exact st_assign (.tmp 13) rfl (K.dep 8 13 rfl)
  intro f3 w3 A hb
  replace bl0 := bl
  replace x0 := (A.old 0 rfl).trans x0
  clear x2
  replace x4 := (A.old 4 rfl).trans x4
  have x2 : f3.eval (.tmp 2) = .int .i64 ((t : Nat) : Int) := A.has 9 2 rfl
  replace bl := (bl.trans (Below.mono hb bl.size))
  replace sz := A.size.trans sz
  replace df := A.defs.trans df
  clear A hb
  show Code.wp _ _ _ _ _
  refine wp_ret ?_
  repeat (first | with_reducible refine then_ret ?_ | with_reducible refine block_ret ?_)
  exact bodyPost_ret (v := .int .i64 ((t : Nat) : Int)) (ret_slot rfl f3 _ x2 _ _) df ⟨rfl, bl⟩
theorem tz_any (n : Nat) (h1 : n + 1 < 2097152) {t : Nat} (ht : tro n = t) (w : World) (hK : Tab w) :
    Calls Tryd.prog 41 #[.int .u64 ((n + 1 : Nat) : Int)] w fun e w' => e = .returned (.int .i64 ((t : Nat) : Int)) ∧ Below w.heap.size w w' := by
  go_enter Tryd.func41, Tryd.ntmps41
  refine code_both (fun f w1 => f.tmps.size = 8 ∧ f.defers = [] ∧ f.eval (.tmp 0) = .int .u64 ((n + 1 : Nat) : Int) ∧ Below w.heap.size w (w1)) ⟨rfl, rfl, rfl, Below.refl _ _⟩ ?_
  rintro f0 w0 ⟨sz, df, x0, bl⟩
  have bl0 := bl
  refine wp_seq ?_
  refine wp_all_seq [.eq (.int .i64 0)] (by kernel_rfl) (by kernel_rfl) (by rw [sz]; kernel_rfl) (by kernel_rfl) ⟨fun hw ac u K => ?_, trivial⟩ ?_
  · exact st_assign (.const (.int .i64 0)) rfl rfl
  intro f1 w1 A hb
  replace bl0 := bl
  replace x0 := (A.old 0 rfl).trans x0
  have x2 : f1.eval (.tmp 2) = .int .i64 0 := A.has 0 2 rfl
  replace bl := (bl.trans (Below.mono hb bl.size))
  replace sz := A.size.trans sz
  replace df := A.defs.trans df
  clear A hb
  show Code.wp _ _ _ _ _
  refine wp_seq ?_
  refine wp_cond_false rfl ?_
  refine wp_skip ?_
  show Code.wp _ _ _ _ _
  refine wp_seq ?_
  refine wp_all_seq [.eq (.int .u64 ((n + 1 : Nat) : Int)), .eq (.int .i64 ((t : Nat) : Int)), .eq (.int .i64 ((t : Nat) : Int))] (by kernel_rfl) (by kernel_rfl) (by rw [sz]; kernel_rfl) (by kernel_rfl) ⟨fun hw ac u K => ?_, fun hw ac u K => ?_, fun hw ac u K => ?_, trivial⟩ ?_
  · exact st_move (.tmp 0) rfl ((K.old 0 rfl).trans x0)
  · exact st_call 58 (.func 58) _ _ #[.int .u64 ((n + 1 : Nat) : Int)] rfl rfl (one_arg (K.dep 0 6 rfl)) Tryd.enter58 (fk_of (tz64_any n h1 ht _ (hK.below (bl.trans (Below.mono K.grow bl.size)))))
  · exact st_assign (.tmp 7) rfl (K.dep 1 7 rfl)
  intro f2 w2 A hb
  replace bl0 := bl
  replace x0 := (A.old 0 rfl).trans x0
  clear x2
  have x2 : f2.eval (.tmp 2) = .int .i64 ((t : Nat) : Int) := A.has 2 2 rfl
  replace bl := (bl.trans (Below.mono hb bl.size))
  replace sz := A.size.trans sz
  replace df := A.defs.trans df
  clear A hb
  show Code.wp _ _ _ _ _
  refine wp_ret ?_
  repeat (first | with_reducible refine then_ret ?_ | with_reducible refine block_ret ?_)
  exact bodyPost_ret (v := .int .i64 ((t : Nat) : Int)) (ret_slot rfl f2 _ x2 _ _) df ⟨rfl, bl⟩
end Go.Proofs.YtnppjlpnfijobaaDoor
namespace Go.Proofs.YtnppjlpnfijobaaDoor
set_option maxRecDepth 100000
open Go.RowKit
end Go.Proofs.YtnppjlpnfijobaaDoor
namespace Go.Proofs.YtnppjlpnfijobaaDoor
set_option maxRecDepth 100000
open Go.RowKit
section
variable {S : World → Prop} {o : Oper} {a : Act} {Q : Exit → Act → World → Prop} {ops : Array Oper}
theorem run_ldh {x : Operand} (ho : o.op = .load 33 x) {lb lo : Nat} {st : List (BitVec 8)} (hl : st.length = 32) (hx : a.eval x = .pointer (some ⟨lb, lo, none⟩)) (hr : ∀ w, S w → w.rangeAt lb lo (st.map V)) : ∀ w, S w → (execOp a.eval o).run Tryd.prog w = .ok (.value (.agg (st.map V).toArray)) w := by
  intro w hS
  have := run_loadVar_mid (P := Tryd.prog) w lb lo 33 (st.map V) _ (hr w hS) Tryd.under33 rfl (by rw [List.length_map, hl]; exact Tryd.size33)
  unfold execOp
  rw [ho]
  simp [hx, Instr.loadAt, Instr.sureAddr, this]
end
end Go.Proofs.YtnppjlpnfijobaaDoor
namespace Go.Proofs.YtnppjlpnfijobaaDoor
set_option maxRecDepth 100000
open Go.RowKit
section
variable {Q : Exit → Act → World → Prop} {o : Oper} {a : Act} {w : World} {ops : Array Oper} {rest : List Oper}
theorem run_appK (ty : TypeId) {P : List (List (BitVec 8))} {y : List (BitVec 8)} {v u : Value} {w : World} (hs1 : (Fk.ow 0 P).f v w) (hx : (Fk.hs [y]).f u w) (hN : P.length ≤ 1000) :
    ∃ v' w', (Builtin.append_ #[22, 22] ty #[v, u]).run Tryd.prog w = .ok v' w' ∧ (Fk.ow 0 (P ++ [y])).f v' w' ∧ w.grownBy w' v.ownBlock ∧ (v'.ownBlock = v.ownBlock ∨ v'.ownBlock = some w.heap.size) := by
  obtain ⟨i0, hi, hz0, hz1, hz2⟩ := info_parts Tryd.info33
  obtain ⟨A, C, lb, lo, rfl, hl⟩ := hx
  obtain ⟨hown, h32⟩ := hs1
  obtain ⟨hhl, hB⟩ := hl.all 0 y rfl
  have hp := hl.ptr (by simp)
  subst hp
  have hnews : ∀ (j : Nat) (u : Value), (y.map V)[j]? = some u → w.cell? ((⟨lb, lo, none⟩ : Addr).add j) = some u := by
    intro j u hj
    have := hB.src y.length j u
    rw [List.take_of_length_le (Nat.le_refl _), Nat.zero_mul, Nat.add_zero] at this
    exact this hj
  obtain ⟨v', w', hr, h2, h3, _⟩ := run_append_own (P := Tryd.prog) w 0 22 ty 33 i0 _ 32 32 Tryd.under22' hi hz0 hz1 hz2 (by simp [Value.cells, hz_len]) (by decide) v P.length (P.flatten.map V) hown ⟨lb, lo, none⟩ 1 C (y.map V) (by simp [hhl]) hnews (V_one y) (by unfold maxLen; omega) (by omega) (by omega)
  have h4 := append_where (P := Tryd.prog) w 0 22 ty 33 i0 _ 32 32 Tryd.under22' hi hz0 hz1 hz2 v P.length (P.flatten.map V) hown ⟨lb, lo, none⟩ 1 C (y.map V) (by simp [hhl]) hnews (V_one y) (by unfold maxLen; omega) (by omega) v' w' hr
  refine ⟨v', w', hr, ⟨?_, fun i z hi => ?_⟩, h3, h4⟩
  · rw [List.length_append, List.flatten_append, List.map_append]
    simpa using h2
  · by_cases hil : i < P.length
    · exact h32 i z (by rw [List.getElem?_append_left hil] at hi; exact hi)
    · rw [List.getElem?_append_right (by omega)] at hi
      cases hq : i - P.length with
      | zero =>
        rw [hq] at hi
        obtain rfl : y = z := by simpa using hi
        exact hhl
      | succ n => rw [hq] at hi; simp at hi
theorem wl_appK (hgd : o.guard = none) (s x : Operand) (ho : o.op = .call { callee := .builtin .append, args := #[s, x], argTypes := #[22, 22] }) (d : Nat) (hd : o.dst = some d) (hsz : d < a.tmps.size)
    {P : List (List (BitVec 8))} {y : List (BitVec 8)} {v : Value} (e : a.eval s = v) (hs1 : (Fk.ow 0 P).f v w) (hx : (Fk.hs [y]).f (a.eval x) w) (hN : P.length ≤ 1000)
    (h : ∀ a2 w2 v2, a2.defers = a.defers → a2.tmps.size = a.tmps.size → (∀ t, (t == d) = false → a2.eval (.tmp t) = a.eval (.tmp t)) → a2.eval (.tmp d) = v2 → (Fk.ow 0 (P ++ [y])).f v2 w2 → w.grownBy w2 v.ownBlock → (v2.ownBlock = v.ownBlock ∨ v2.ownBlock = some w.heap.size) → wpList Tryd.prog ops Q rest a2 w2) : wpList Tryd.prog ops Q (o :: rest) a w := by
  obtain ⟨v', w', hr, h2, h3, h4⟩ := run_appK o.type hs1 hx hN
  unfold wpList
  rw [if_pos (by unfold Region.wanted; rw [hgd])]
  refine .inl ?_
  unfold Oper.wp execOp
  simp only [ho, resolve, invoke, builtin, Sem.run_bind, Sem.run_pure, Result.andThen_ok, List.map_toArray, List.map_cons, List.map_nil, e, hr]
  refine h _ _ v' (put_def _ _ _) (put_size _ _ _) (fun t ht => ?_) ?_ h2 h3 h4
  · rw [hd]
    exact put_eval_other _ _ _ _ (fun e => by subst e; simp at ht)
  · rw [hd, put_eval_same _ _ _ hsz]
end
section
variable {Q : Exit → Act → World → Prop} {S : World → Prop} {o : Oper} {a : Act} {ops : Array Oper}
end
end Go.Proofs.YtnppjlpnfijobaaDoor
namespace Go.Proofs.YtnppjlpnfijobaaDoor
set_option maxRecDepth 100000
open Go.RowKit
section
variable {P : Program} {ops : Array Oper} {Q : Exit → Act → World → Prop}
/-- Each from number k on waits, in the end, for all ahead of number k, but for number m. -/
def coverEarly (ops : List Oper) (k m : Nat) : Bool := (List.range ops.length).all fun j => decide (j < k) || (List.range k).all fun i => i == m || (clo ops 8 (tgts ops j)).contains i
theorem wp_mids_early {qs : List Fk} {a0 : Act} {w0 : World} (m0 : Nat) (js : List Nat) (hk : qs.length ≤ ops.size) (hE : backOk ops.toList = true) (hC : coverEarly ops.toList qs.length m0 = true) (hJ : chainOk ops (firstK qs.length ops.size) js = true)
    (hD : dstsOk a0.tmps.size (ops.toList.take qs.length) = true) (hG : guardsOk ops.toList qs.length qs ops.toList qs = true)
    (hS : Steps P Q ops.toList qs.length qs a0 w0 ops.toList qs)
    (hF : ∀ af w', Final ops.toList qs a0 af w' → Below w0.heap.size w0 w' → wpList P ops Q (js.filterMap (ops[·]?)) af w') :
    ∀ (fuel : Nat) (listed : Array Bool) (a : Act) (w : World), unl listed ≤ fuel → Closed ops listed → listed.getD m0 false = true → Mids ops qs.length (fkAt qs) a0 w0 listed a w → wpAny P .any ops Q fuel listed a w := by
  have hend : ∀ (fuel : Nat) (listed : Array Bool) (a : Act) (w : World), unl listed ≤ fuel → Mids ops qs.length (fkAt qs) a0 w0 listed a w → (∀ i, i < qs.length → listed.getD i false = true) → wpAny P .any ops Q fuel listed a w := by
    intro fuel listed a w hu hm hall
    have he : listed = firstK qs.length ops.size := by
      apply Array.ext (by simp [firstK, hm.lsize])
      intro i h1 h2
      simp only [firstK, Array.getElem_ofFn]
      by_cases hi : i < qs.length
      · have := hall i hi
        simp [h1] at this
        simp [this, hi]
      · have h3 : i < ops.size := by rw [hm.lsize] at h1; exact h1
        have := hm.last i (by omega) h3
        simp [h1] at this
        simp [this, hi]
    have hJ' : chainOk ops listed js = true := by rw [he]; exact hJ
    have hlen := chain_len js listed hJ'
    refine any_list js fuel listed a w hJ' (by omega) ?_
    refine hF a w ⟨hm.defs, hm.size, fun t ht => eval_of_get (hm.old t ht), fun i d h => ?_⟩ hm.grow
    simp only [Bool.and_eq_true, decide_eq_true_eq, beq_iff_eq] at h
    obtain ⟨hi, hd⟩ := h
    cases ho : ops.toList[i]? with
    | none => rw [ho] at hd; simp at hd
    | some o =>
      rw [ho] at hd
      exact hm.has i o d hi (by rw [← Array.getElem?_toList]; exact ho) (by simpa using hd) (hall i hi)
  intro fuel
  induction fuel with
  | zero =>
    intro listed a w hu hcl hl0 hm
    have hall := unl_zero (listed := listed) (by omega)
    refine hend 0 listed a w hu hm (fun i hi => ?_)
    have hil : i < listed.size := by rw [hm.lsize]; omega
    rw [← getD_tf hil]; exact hall i hil
  | succ fuel ih =>
    intro listed a w hu hcl hl0 hm
    by_cases hall : ∀ i, i < qs.length → listed.getD i false = true
    · exact hend (fuel + 1) listed a w hu hm hall
    · have hex : ∃ i0, i0 < qs.length ∧ listed.getD i0 false = false := by
        apply Classical.byContradiction
        intro hno
        apply hall
        intro i hi
        cases hq : listed.getD i false with
        | true => rfl
        | false => exact absurd ⟨i, hi, hq⟩ hno
      obtain ⟨i0, hi0, hi0u⟩ := hex
      refine ⟨fun hr => ?_, fun i hi => ?_⟩
      · exfalso
        have hu0 := ready_back hE hm.lsize hr
        have hil : i0 < listed.size := by rw [hm.lsize]; omega
        have := unl_zero hu0 i0 hil
        rw [getD_tf hil, hi0u] at this
        cases this
      · obtain ⟨hun, o, ho, hdep⟩ := mem_ready.1 hi
        have hio : i < ops.size := (Array.getElem?_eq_some_iff.1 ho).1
        have hu' := unl_set hun
        have hil : i < listed.size := by rw [hm.lsize]; exact hio
        have htg : ∀ j ∈ tgt o, listed.getD j false = true := fun j hj => by
          obtain ⟨e, he, hb, rfl⟩ := mem_tgt.1 hj
          exact hdep e he hb
        have hik : i < qs.length := by
          rcases Nat.lt_or_ge i qs.length with h | h
          · exact h
          · exfalso
            unfold coverEarly at hC
            have h1 := List.all_eq_true.1 hC i (by simpa using hio)
            simp only [Bool.or_eq_true, decide_eq_true_eq] at h1
            rcases h1 with h1 | h1
            · omega
            · have h2 := List.all_eq_true.1 h1 i0 (by simpa using hi0)
              have h3 : i0 ∈ clo ops.toList 8 (tgts ops.toList i) := by
                rcases Bool.or_eq_true _ _ ▸ h2 with h2 | h2
                · rw [beq_iff_eq] at h2
                  rw [← h2, hi0u] at hl0
                  cases hl0
                · simpa using h2
              have h4 := clo_listed hcl 8 (tgts ops.toList i) (fun j hj => by
                unfold tgts at hj
                rw [Array.getElem?_toList, ho] at hj
                exact htg j (by simpa using hj)) i0 h3
              rw [hi0u] at h4
              cases h4
        have hK : Known ops.toList qs.length (fkAt qs) a0 w0 o a w := by
          refine ⟨fun t ht => eval_of_get (hm.old t ht), fun j d hj => ?_, hm.grow⟩
          unfold depOk at hj
          simp only [Bool.and_eq_true, decide_eq_true_eq, beq_iff_eq, Array.getElem?_toList] at hj
          obtain ⟨⟨hjk, hany⟩, hd⟩ := hj
          obtain ⟨e, he, hb⟩ := List.any_eq_true.1 hany
          simp only [Bool.and_eq_true, beq_iff_eq] at hb
          have hl := hdep e (by simpa using he) hb.2
          rw [hb.1] at hl
          cases hoj : ops[j]? with
          | none => rw [hoj] at hd; simp at hd
          | some oj =>
            rw [hoj] at hd
            exact hm.has j oj d hjk hoj (by simpa using hd) hl
        have hto : (ops.toList.take qs.length)[i]? = some o := by rw [List.getElem?_take, if_pos hik, Array.getElem?_toList]; exact ho
        obtain ⟨d, hd, hlt, hallD⟩ := dstsOk_spec hD i o hto
        have hcl' : Closed ops (listed.setIfInBounds i true) := by
          intro m om hom hml j hj
          by_cases e : m = i
          · subst e
            obtain rfl : om = o := Option.some.inj (hom.symm.trans ho)
            have h1 := htg j hj
            by_cases e2 : j = m
            · subst e2; exact getD_set_same hil
            · have hne : m ≠ j := fun h => e2 h.symm
              simpa [Array.getElem?_setIfInBounds, hne] using h1
          · have hne : i ≠ m := fun h => e h.symm
            have hml' : listed.getD m false = true := by simpa [Array.getElem?_setIfInBounds, hne] using hml
            have h1 := hcl m om hom hml' j hj
            by_cases e2 : j = i
            · subst e2; exact getD_set_same hil
            · have hne2 : i ≠ j := fun h => e2 h.symm
              simpa [Array.getElem?_setIfInBounds, hne2] using h1
        have hl1 : (listed.setIfInBounds i true).getD m0 false = true := by
          by_cases e : m0 = i
          · subst e; exact getD_set_same hil
          · have hne : i ≠ m0 := fun h => e h.symm
            simpa [Array.getElem?_setIfInBounds, hne] using hl0
        have hnext : ∀ v w', Below w.heap.size w w' → fkAt qs i v w' → wpAny P .any ops Q fuel (listed.setIfInBounds i true) (a.put o.dst v) w' := by
          intro v w' hb hf
          refine ih _ _ _ (by omega) hcl' hl1 ⟨by rw [put_size]; exact hm.size, by rw [put_def]; exact hm.defs, by simp; exact hm.lsize, fun t ht => ?_, fun j oj dj hj hoj hdj hlj => ?_, fun j hj1 hj2 => ?_, hm.grow.trans (hb.mono hm.grow.size)⟩
          · rw [put_other _ _ _ _ (freeOf_spec ht hto)]; exact hm.old t ht
          · by_cases e : j = i
            · subst e
              obtain rfl : oj = o := Option.some.inj (hoj.symm.trans ho)
              obtain rfl : dj = d := Option.some.inj (hdj.symm.trans hd)
              have hev : (a.put oj.dst v).eval (.tmp dj) = v := by
                have := put_same a dj v (by rw [hm.size]; exact hlt)
                rw [← hd] at this
                simp [Act.eval, this]
              rw [hev]; exact hf
            · have htj : (ops.toList.take qs.length)[j]? = some oj := by rw [List.getElem?_take, if_pos hj, Array.getElem?_toList]; exact hoj
              have hne : o.dst ≠ some dj := fun h => by
                have : d = dj := Option.some.inj (hd.symm.trans h)
                exact hallD j oj htj e (by rw [this]; exact hdj)
              rw [eval_of_get (put_other a o.dst v dj hne)]
              refine Fk.mono _ _ w w' (hm.has j oj dj hj hoj hdj ?_) hb
              have hne2 : i ≠ j := fun h => e h.symm
              simpa [Array.getElem?_setIfInBounds, hne2] using hlj
          · have hne : i ≠ j := by omega
            have := hm.last j hj1 hj2
            simpa [Array.getElem?_setIfInBounds, hne] using this
        have hyield : ∀ (j : Nat) (b c : Bool), o.guard = some (j, b) → (∃ d, depOk ops.toList qs.length o j d = true) → (∀ v w, fkAt qs j v w → v = .bool c) → yielded ops a.tmps j = some c := by
          rintro j b c hg ⟨d, hd⟩ hbool
          have hv := hbool _ _ (hK.dep j d hd)
          have hd2 : (ops[j]?).bind (·.dst) = some d := by
            unfold depOk at hd
            simp only [Bool.and_eq_true, decide_eq_true_eq, beq_iff_eq, Array.getElem?_toList] at hd
            exact hd.2
          have hget : a.tmps[d]? = some (.bool c) := by
            simp only [Act.eval, Array.getD_eq_getD_getElem?] at hv
            cases hq : a.tmps[d]? with
            | none => rw [hq] at hv; simp [undef] at hv
            | some u => rw [hq] at hv; simp at hv; rw [hv]
          unfold yielded
          rw [hd2]
          simp only [Option.bind_some, hget]
        unfold wpOp
        rw [ho]
        show if Region.wanted o (yielded ops a.tmps) = true then _ else _
        have hyes : Region.wanted o (yielded ops a.tmps) = true → wantedBy qs o = true → (if Region.wanted o (yielded ops a.tmps) = true then o.wp P a w (wpAny P .any ops Q fuel (listed.setIfInBounds i true)) Q ∨ (o.asks P a w ∧ LetsOut Q) else wpAny P .any ops Q fuel (listed.setIfInBounds i true) (a.put o.dst undef) w) := by
          intro hwant hwb
          rw [if_pos hwant]
          refine .inl (Oper.wp_mono ?_ (hS.get i o hik (by rw [Array.getElem?_toList]; exact ho) hwb a w hK))
          rintro a' w' ⟨v, rfl, hb, hf⟩
          exact hnext v w' hb hf
        cases hg : o.guard with
        | none => exact hyes (by unfold Region.wanted; rw [hg]) (by unfold wantedBy; rw [hg])
        | some jb =>
          obtain ⟨j, b⟩ := jb
          obtain ⟨hdp, h2⟩ := guardsOk_spec hG i o j b hik (by rw [Array.getElem?_toList]; exact ho) hg
          rcases h2 with h2 | h2
          · refine hyes ?_ (by unfold wantedBy; rw [hg]; exact h2)
            unfold Region.wanted
            rw [hg]
            show (yielded ops a.tmps j == some b) = true
            rw [hyield j b b hg hdp (Fk.isBool_spec h2)]; simp
          · have hno : Region.wanted o (yielded ops a.tmps) = false := by
              unfold Region.wanted
              rw [hg]
              show (yielded ops a.tmps j == some b) = false
              rw [hyield j b (!b) hg hdp (Fk.isBool_spec h2.1)]; cases b <;> rfl
            rw [if_neg (by rw [hno]; simp)]
            exact hnext undef w (Below.refl _ _) (Fk.isAny_spec h2.2 _ _)
theorem anyH_true : ∀ (fuel : Nat) (listed : Array Bool) (a : Act) (w : World), wpAny P .any ops Q fuel listed a w → wpAnyH P .any ops Q (fun _ => True) fuel listed a w
  | 0, _, _, _, h => h
  | fuel + 1, _, _, _, h => ⟨h.1, fun i hi => wpOp_mono (fun a' w' h' => ⟨trivial, anyH_true fuel _ a' w' h'⟩) (h.2 i hi)⟩
/-- A drawn region: number m, which only looks, is taken first. -/
theorem wp_region_early {id : Nat} {a0 : Act} {w : World} (qs : List Fk) (m dm : Nat) (om : Oper) (js : List Nat) (hm : P.follows .mixedOrders = true) (hk : decide (qs.length ≤ ops.size) = true) (hE : backOk ops.toList = true) (hC : coverEarly ops.toList qs.length m = true) (hJ : chainOk ops (firstK qs.length ops.size) js = true)
    (hom : ops[m]? = some om) (hmd : om.dst = some dm) (hmk : decide (m < qs.length) = true) (hmg : om.guard = none) (hma : tgt om = []) (hns : Region.noSelect ops = true) (hfr : Region.free .any ops (Array.replicate ops.size false) m = true) (hrd : (Region.ready .any ops (Array.replicate ops.size false)).contains m = true)
    {v : Value} (hQ : ∀ c a w, Q (.panic c) (a.put om.dst v) w → Q (.panic c) a w) (hy : ∀ w, (execOp a0.eval om).run P w = .ok (.value v) w) (hv : ∀ w, fkAt qs m v w)
    (hD : dstsOk a0.tmps.size (ops.toList.take qs.length) = true) (hG : guardsOk ops.toList qs.length qs ops.toList qs = true)
    (hS : Steps P Q ops.toList qs.length qs a0 w ops.toList qs)
    (hF : ∀ af w', Final ops.toList qs a0 af w' → Below w.heap.size w w' → wpList P ops Q (js.filterMap (ops[·]?)) af w') :
    (Code.region id ops true).wp P Q a0 w := by
  have hmk' := of_decide_eq_true hmk
  have hk' := of_decide_eq_true hk
  have hms : m < ops.size := (Array.getElem?_eq_some_iff.1 hom).1
  refine wp_region_held (S := fun _ => True) hm ?_
  obtain ⟨fuel, hf⟩ : ∃ f, ops.size = f + 1 := ⟨ops.size - 1, by omega⟩
  have key : wpAnyH P .any ops Q (fun _ => True) (fuel + 1) (Array.replicate ops.size false) a0 { w with drawn := w.drawn + 1 } := by
    refine wpAnyH_take hom hns hfr hrd hQ (.inl ⟨by unfold Region.wanted; rw [hmg], fun w _ => hy w⟩) trivial (anyH_true _ _ _ _ ?_)
    have hto : (ops.toList.take qs.length)[m]? = some om := by rw [List.getElem?_take, if_pos hmk', Array.getElem?_toList]; exact hom
    obtain ⟨d, hd, hlt, hallD⟩ := dstsOk_spec hD m om hto
    obtain rfl : dm = d := Option.some.inj (hmd.symm.trans hd)
    refine wp_mids_early m js hk' hE hC hJ hD hG hS hF fuel _ _ _ ?_ ?_ ?_ ?_
    · have h1 := unl_set (listed := Array.replicate ops.size false) (i := m) (by simp [hms])
      have h2 : unl (Array.replicate ops.size false) ≤ ops.size := by
        unfold unl
        exact Nat.le_trans (Array.countP_le_size) (by simp)
      omega
    · intro i o ho hl j hj
      by_cases e : i = m
      · subst e
        obtain rfl : o = om := Option.some.inj (ho.symm.trans hom)
        rw [hma] at hj
        cases hj
      · have hne : m ≠ i := fun h => e h.symm
        have : i < ops.size := (Array.getElem?_eq_some_iff.1 ho).1
        simp [hne, this] at hl
    · exact getD_set_same (by simp [hms])
    · refine ⟨by rw [put_size], by rw [put_def], by simp, fun t ht => put_other _ _ _ _ (freeOf_spec ht hto), fun j oj dj hj hoj hdj hlj => ?_, fun i h1 h2 => ?_, (Below.refl _ _).drew⟩
      · by_cases e : j = m
        · subst e
          obtain rfl : oj = om := Option.some.inj (hoj.symm.trans hom)
          obtain rfl : dj = dm := Option.some.inj (hdj.symm.trans hmd)
          have hev : (a0.put oj.dst v).eval (.tmp dj) = v := by
            have := put_same a0 dj v hlt
            rw [← hmd] at this
            simp [Act.eval, this]
          rw [hev]
          exact hv _
        · have hne : m ≠ j := fun h => e h.symm
          have : j < ops.size := (Array.getElem?_eq_some_iff.1 hoj).1
          simp [hne, this] at hlj
      · have hne : m ≠ i := by omega
        simp [hne, h2]
  rw [hf] at key ⊢
  exact key
end
end Go.Proofs.YtnppjlpnfijobaaDoor
namespace Go.Proofs.YtnppjlpnfijobaaDoor
set_option maxRecDepth 100000
open Go.RowKit
/-- What lies at B or behind it lies as it lay. -/
def Kept (B : Nat) (W W' : World) : Prop := W.heap.size ≤ W'.heap.size ∧ ∀ k, B ≤ k → k < W.heap.size → W'.heap[k]? = W.heap[k]?
theorem Kept.refl (B : Nat) (W : World) : Kept B W W := ⟨Nat.le_refl _, fun _ _ _ => rfl⟩
theorem Kept.trans {B : Nat} {X Y Z : World} (h : Kept B X Y) (k : Kept B Y Z) : Kept B X Z := ⟨Nat.le_trans h.1 k.1, fun i hB hi => (k.2 i hB (Nat.lt_of_lt_of_le hi h.1)).trans (h.2 i hB hi)⟩
theorem Kept.mono {B C : Nat} {X Y : World} (h : Kept B X Y) (hc : B ≤ C) : Kept C X Y := ⟨h.1, fun i hB hi => h.2 i (Nat.le_trans hc hB) hi⟩
theorem Kept.at {B : Nat} {X Y : World} (h : Kept B X Y) {k : Nat} {o : Obj} (hB : B ≤ k) (hk : X.heap[k]? = some o) : Y.heap[k]? = some o := (h.2 k hB (Array.getElem?_eq_some_iff.1 hk).1).trans hk
theorem Kept.of_below {B : Nat} {X Y : World} (h : Below X.heap.size X Y) : Kept B X Y := ⟨h.size, fun i _ hi => h.block i hi⟩
theorem Kept.of_only {B g : Nat} {X Y : World} (h : Only g X Y) (hg : g < B) : Kept B X Y := ⟨h.size, fun i hB hi => h.block i hi (by omega)⟩
theorem kept_put {B l : Nat} {X : World} (o : Obj) (hl : l < B) : Kept B X (X.putObj l o) := ⟨by simp, fun i hB _ => World.putObj_heap_other (by omega)⟩
theorem below_put {B l : Nat} {X : World} (o : Obj) (hB : B ≤ l) (hl : l < X.heap.size) : Below B X (X.putObj l o) := by
  have hg := grownBy_putObj' X l o
  exact (Below.refl B X).grown hg (by omega) (fun k e => by cases e; exact hB)
/-- The iterator's word: round k, for k below N, gets enc k; between two rounds it turns what it has laid itself alone; what it reads besides (R) the rounds keep. -/
def Gives (m gf : Nat) (lb : Array Value) (enc : Nat → Array Value) (N : Nat) (R : World → Prop) (w : World) : Prop :=
  ∀ (l : Nat) (J Jx : Nat → World → Prop) (W : World), Below w.heap.size w W → (∀ k A B, J k A → Below W.heap.size A B → J k B) → (∀ k A, J k A → R A) →
    (∀ k W1, k < N → J k W1 → YieldAt Fence.wide (m - 1) Tryd.prog l (enc k) W1 fun e W' => (e = .returned (.bool true) ∧ J (k + 1) W' ∧ Kept W.heap.size W1 W') ∨ (e = .returned (.bool false) ∧ Jx k W')) →
    J 0 W → CallsIn Fence.wide m Tryd.prog gf (#[.func (.yield l) #[] #[]] ++ lb) W fun e W' => (∃ v, e = .returned v) ∧ (J N W' ∨ ∃ k, k < N ∧ Jx k W')
/-- How a round's body may be left. -/
def rpost (B : Nat) (I : Nat → World → Prop) (Ix : Code → Nat → World → Prop) (k : Nat) (V : World) : Exit → Act → World → Prop
  | .normal, _, W => Kept B V W ∧ I (k + 1) W
  | .ret, _, W => Kept B V W ∧ Ix .ret k W
  | .exit id, _, W => Kept B V W ∧ Ix (.exit id) k W
  | _, _, _ => False
theorem range_gives {n : Nat} {g : Operand} {ps : Array Tmp} {assign body : Code} {Q : Exit → Act → World → Prop} {a : Act} {w : World} (h1 : 1 ≤ n) {gf : Nat} {lb : Array Value} (hg : a.eval g = .func (.func gf) #[] lb) (eg : ∀ args w, (callFunc gf args).run Tryd.prog w = .ok (.enter gf args) w)
    {enc : Nat → Array Value} {N : Nat} {R : World → Prop} (hseq : Gives (n - 1) gf lb enc N R w) (hps : ∀ k, (enc k).size = ps.size)
    (I : Nat → World → Prop) (Ix : Code → Nat → World → Prop) (hI : ∀ k A B, I k A → Below w.heap.size A B → I k B) (hIx : ∀ c k A B, Ix c k A → Below w.heap.size A B → Ix c k B) (hIR : ∀ k A, I k A → R A) (h0 : I 0 w)
    (hround : ∀ (k : Nat) (W : World), k < N → I k W → (∃ r, W.heap[w.heap.size + 1]? = some (.loop r)) →
      assign.wpIn (Fence.wide.inRound (w.heap.size + 1)) (n - 1 - 1) Tryd.prog (Exit.then (fun a₁ w₁ => Kept w.heap.size W w₁ ∧ ∀ o, body.wpIn (Fence.wide.inRound (w.heap.size + 1)) (n - 1 - 1) Tryd.prog (rpost w.heap.size I Ix k (w₁.putObj (w.heap.size + 1) o)) a₁ (w₁.putObj (w.heap.size + 1) o)) (fun _ _ _ => False))
        { tmps := (ps.zip (enc k)).foldl (fun t (p, v) => t.setIfInBounds p v) a.tmps, defers := [] } W)
    (hdone : ∀ W, I N W → W.heap[w.heap.size]? = some (.deferred (some [])) → Q .normal { a with defers := { target := .collected w.heap.size, args := #[] } :: a.defers } W)
    (hstop : ∀ c k W, k < N → Ix c k W → W.heap[w.heap.size]? = some (.deferred (some [])) → c.wpIn Fence.wide n Tryd.prog Q { a with defers := { target := .collected w.heap.size, args := #[] } :: a.defers } W) :
    (Code.rangeFunc g ps assign body).wpIn Fence.wide n Tryd.prog Q a w := by
  apply wpIn_rangeFunc
  intro fn hfn
  obtain ⟨L, hL⟩ : ∃ L, w.heap.size + 1 = L := ⟨_, rfl⟩
  obtain ⟨r0, hr0⟩ : ∃ r : Loop, r = { state := .ready, pending := none, fn, tmps := a.tmps, params := ps, assign, body, defers := w.heap.size } := ⟨_, rfl⟩
  have hst : r0.state = .ready := by rw [hr0]
  have hpd : r0.pending = none := by rw [hr0]
  obtain ⟨W0, hW0⟩ : ∃ W0, (w.alloc (.deferred (some []))).alloc (.loop r0) = W0 := ⟨_, rfl⟩
  have z0 : W0.heap.size = w.heap.size + 2 := by rw [← hW0]; simp
  have b0 : Below w.heap.size w W0 := by rw [← hW0]; exact ((Below.refl _ w).alloc (Nat.le_refl _) _).alloc (by simp) _
  have l0 : W0.heap[L]? = some (.loop r0) := by
    have := World.alloc_heap_new (w.alloc (.deferred (some []))) (.loop r0)
    rw [World.size_alloc, hW0, hL] at this
    exact this
  have d0 : W0.heap[w.heap.size]? = some (.deferred (some [])) := by
    rw [← hW0]
    exact (Below.heap_alloc _ _ _ (by simp)).trans (World.alloc_heap_new w _)
  refine ⟨L, [{ target := .collected w.heap.size, args := #[] }], W0, { target := .fn (.func gf) lb, args := #[.func (.yield L) #[] #[]] }, W0, gf, #[.func (.yield L) #[] #[]] ++ lb, W0, ?_, ?_, fun _ _ => trivial, ?_, fun _ => h1, ?_⟩
  · have := run_enterLoop_outer (P := Tryd.prog) (w := w) fn a.tmps ps assign body
    rw [← hr0, hW0, hL] at this
    exact this
  · simp only [resolve, hg]
    simp [go_sem]
  · simp [invoke, go_sem, eg]
  have book : ∀ {A B : World}, Below W0.heap.size A B → ∀ {o o' : Obj}, A.heap[L]? = some o → A.heap[w.heap.size]? = some o' → B.heap[L]? = some o ∧ B.heap[w.heap.size]? = some o' := by
    intro A B hb o o' ho ho'
    exact ⟨(hb.block L (by omega)).trans ho, (hb.block _ (by omega)).trans ho'⟩
  refine CallsIn.mono (hseq L (fun k W => I k W ∧ W.heap[L]? = some (.loop r0) ∧ W.heap[w.heap.size]? = some (.deferred (some []))) (fun k W => ∃ c, Ix c k W ∧ W.heap[L]? = some (.loop { r0 with state := .done, pending := some c }) ∧ W.heap[w.heap.size]? = some (.deferred (some []))) W0 b0 ?_ (fun k A h => hIR k A h.1) ?_ ⟨hI _ _ _ h0 b0, l0, d0⟩) ?_
  · rintro k A B ⟨h1, h2, h3⟩ hb
    obtain ⟨h4, h5⟩ := book hb h2 h3
    exact ⟨hI _ _ _ h1 (Below.mono hb (by omega)), h4, h5⟩
  · rintro k W1 hk ⟨hi, hl, hd⟩
    have hlt : L < W1.heap.size := (Array.getElem?_eq_some_iff.1 hl).1
    have hy := run_yield (P := Tryd.prog) (args := enc k) hl (by rw [hr0]; exact hps k)
    rw [hr0] at hy
    refine ⟨fn, _, assign, body, hy, roundIn_of_wpIn hfn ?_⟩
    have hw := hround k W1 hk hi ⟨r0, by rw [hL]; exact hl⟩
    rw [hL] at hw
    refine wpIn_mono hw ?_
    intro e a1 w1 hp
    cases e with
    | normal =>
      obtain ⟨hkp, hbody⟩ := hp
      have hl1 := hkp.at (by omega) hl
      have hd1 := hkp.at (Nat.le_refl _) hd
      refine ⟨_, run_beginRound hl1 hst, wpIn_mono (hbody _) ?_⟩
      have hlt1 : L < w1.heap.size := (Array.getElem?_eq_some_iff.1 hl1).1
      generalize hV : w1.putObj L (.loop { r0 with state := .busy }) = V
      have hlV : V.heap[L]? = some (.loop { r0 with state := .busy }) := by rw [← hV]; exact World.putObj_heap_same hlt1
      have hdV : V.heap[w.heap.size]? = some (.deferred (some [])) := by rw [← hV]; exact (World.putObj_heap_other (by omega)).trans hd1
      have hKV : Kept W0.heap.size W1 V := by rw [← hV]; exact (hkp.mono (by omega)).trans (kept_put _ (by omega))
      have last : ∀ (j : Option Code) (W3 : World), Kept w.heap.size V W3 → (Instr.endRound L j).run Tryd.prog W3 = .ok (.bool j.isNone) (W3.putObj L (.loop { r0 with state := if j.isNone then .ready else .done, pending := j })) ∧ L < W3.heap.size ∧ (W3.putObj L (.loop { r0 with state := if j.isNone then .ready else .done, pending := j })).heap[L]? = some (.loop { r0 with state := if j.isNone then .ready else .done, pending := j }) ∧ (W3.putObj L (.loop { r0 with state := if j.isNone then .ready else .done, pending := j })).heap[w.heap.size]? = some (.deferred (some [])) := by
        intro j W3 hk3
        have hl3 := hk3.at (by omega) hlV
        have hlt3 := (Array.getElem?_eq_some_iff.1 hl3).1
        have hrun := run_endRound (P := Tryd.prog) j hl3
        exact ⟨hrun, hlt3, World.putObj_heap_same hlt3, (World.putObj_heap_other (by omega)).trans (hk3.at (Nat.le_refl _) hdV)⟩
      intro e a3 W3 hq
      cases e with
      | normal =>
        obtain ⟨hk3, hi3⟩ := hq
        obtain ⟨hr, hlt3, hl4, hd4⟩ := last none W3 hk3
        refine ⟨_, _, hr, .inl ⟨rfl, ⟨hI _ _ _ hi3 (below_put _ (by omega) hlt3), ?_, hd4⟩, hKV.trans ((hk3.mono (by omega)).trans (kept_put _ (by omega)))⟩⟩
        rw [hl4]
        simp only [Option.isNone_none, if_true]
        rw [show ({ r0 with state := .ready, pending := none } : Loop) = r0 by rw [hr0]]
      | ret =>
        obtain ⟨hk3, hi3⟩ := hq
        obtain ⟨hr, hlt3, hl4, hd4⟩ := last (some .ret) W3 hk3
        exact ⟨_, _, hr, .inr ⟨rfl, .ret, hIx _ _ _ _ hi3 (below_put _ (by omega) hlt3), hl4, hd4⟩⟩
      | exit id =>
        obtain ⟨hk3, hi3⟩ := hq
        obtain ⟨hr, hlt3, hl4, hd4⟩ := last (some (.exit id)) W3 hk3
        exact ⟨_, _, hr, .inr ⟨rfl, .exit id, hIx _ _ _ _ hi3 (below_put _ (by omega) hlt3), hl4, hd4⟩⟩
      | goto t => exact hq.elim
      | panic ch => exact hq.elim
      | outgrown => exact hq.elim
    | _ => exact hp.elim
  · rintro e W2 ⟨⟨v, rfl⟩, ⟨hi, hl, hd⟩ | ⟨k, hk, c, hi, hl, hd⟩⟩
    · have hlt : L < W2.heap.size := (Array.getElem?_eq_some_iff.1 hl).1
      refine ⟨none, _, (run_endLoop (P := Tryd.prog) hl (by rw [hst]; simp)).trans (by rw [hpd]), hdone _ (hI _ _ _ hi (below_put _ (by omega) hlt)) ((World.putObj_heap_other (by omega)).trans hd)⟩
    · have hlt : L < W2.heap.size := (Array.getElem?_eq_some_iff.1 hl).1
      exact ⟨some c, _, run_endLoop (P := Tryd.prog) hl (by simp), hstop c k _ hk (hIx _ _ _ _ hi (below_put _ (by omega) hlt)) ((World.putObj_heap_other (by omega)).trans hd)⟩
end Go.Proofs.YtnppjlpnfijobaaDoor
namespace Go.Proofs.YtnppjlpnfijobaaDoor
set_option maxRecDepth 100000
open Go.RowKit
section
variable {P : Program} {Q : Exit → Act → World → Prop} {m : Nat} {ops : Array Oper} {rest : List Oper} {o : Oper} {a : Act} {w : World}
theorem wide_oper {K : Act → World → Prop} (h : o.wp P a w K Q) : o.wpIn Fence.wide m P a w K Q := by
  refine ⟨fun _ _ => trivial, ?_⟩
  rw [show Fence.wide.round = none from rfl, Oper.semAt_none]
  unfold Oper.wp at h
  generalize (execOp a.eval o).run P w = r at *
  cases r with
  | ok x w' =>
    cases x <;> simp only [Oper.upon, Oper.uponIn] at h ⊢ <;>
      first
        | exact h
        | exact h.elim
        | exact ⟨fun h => (by cases h), callsIn_wide.2 (Calls.mono h (fun e w'' he => by cases e <;> exact he))⟩
        | exact ⟨fun h => (by cases h), fun c cs _ => by obtain ⟨v, w', hr, hs⟩ := h c cs; exact ⟨v, w', hr, stepsIn_wide.2 hs⟩⟩
  | halt x w' => cases x <;> simp only [Oper.upon, Oper.uponIn] at h ⊢ <;> exact h
theorem wp_region_li (m : Nat) {id : Nat} (h : wpListIn Fence.wide m P ops Q ops.toList a w) : (Code.region id ops false).wp P Q a w := wpIn_wide.1 (wpIn_region_list h)
theorem wli_nil (h : Q .normal a w) : wpListIn Fence.wide m P ops Q [] a w := h
theorem wli_one (q : Fk) (hgd : o.guard = none) (d : Nat) (hd : o.dst = some d) (hsz : d < a.tmps.size) (hs : o.wp P a w (Ends a o.dst w q.f) Q)
    (h : ∀ a2 w2, a2.defers = a.defers → a2.tmps.size = a.tmps.size → (∀ t, (t == d) = false → a2.eval (.tmp t) = a.eval (.tmp t)) → q.f (a2.eval (.tmp d)) w2 → Below w.heap.size w w2 → wpListIn Fence.wide m P ops Q rest a2 w2) : wpListIn Fence.wide m P ops Q (o :: rest) a w := by
  unfold wpListIn
  rw [if_pos (by unfold Region.wanted; rw [hgd])]
  refine wide_oper (Oper.wp_mono ?_ hs)
  rintro a' w' ⟨v, rfl, hb, hf⟩
  rw [hd]
  refine h _ _ (put_def _ _ _) (put_size _ _ _) (fun t ht => put_eval_other _ _ _ _ (fun e => by subst e; simp at ht)) ?_ hb
  rw [put_eval_same _ _ _ hsz]
  exact hf
theorem wli_not {o : Oper} {rest : List Oper} (hgd : o.guard = none) (x : Operand) (ho : o.op = .unOp .not 4 x) (d : Nat) (hd : o.dst = some d) (hsz : d < a.tmps.size) (s : Bool) (hx : a.eval x = .bool s)
    (h : ∀ a2, a2.defers = a.defers → a2.tmps.size = a.tmps.size → (∀ t, (t == d) = false → a2.eval (.tmp t) = a.eval (.tmp t)) → a2.eval (.tmp d) = .bool !s → wpListIn Fence.wide m P ops Q rest a2 w) : wpListIn Fence.wide m P ops Q (o :: rest) a w := by
  unfold wpListIn
  rw [if_pos (by unfold Region.wanted; rw [hgd])]
  refine wide_oper ?_
  have hr : (execOp a.eval o).run P w = .ok (.value (.bool !s)) w := by
    unfold execOp
    rw [ho]
    simp [hx, Op.unary]
  unfold Oper.wp
  rw [hr]
  show wpListIn _ _ _ _ _ _ _ _
  rw [hd]
  refine h _ (put_def _ _ _) (put_size _ _ _) (fun t ht => put_eval_other _ _ _ _ (fun e => by subst e; simp at ht)) ?_
  rw [put_eval_same _ _ _ hsz]
theorem then_exit {K : Act → World → Prop} {id : Nat} (h : Q (.exit id) a w) : Exit.then K Q (.exit id) a w := h
theorem block_exit {id : Nat} (h : Q .normal a w) : Exit.inBlock id Q (.exit id) a w := by
  show (if id = id then Q .normal a w else Q (.exit id) a w)
  rw [if_pos rfl]
  exact h
/-- A yield. -/
theorem wli_yield (x : Operand) (xs : Array Operand) (ts : Array TypeId) (vs : Array Value) (hgd : o.guard = none) (d : Nat) (hd : o.dst = some d) (hsz : d < a.tmps.size) (ho : o.op = .call { callee := .value x, args := xs, argTypes := ts }) (l : Nat) (hx : a.eval x = .func (.yield l) #[] #[]) (hv : (xs.toList.map a.eval).toArray = vs)
    {k : Nat} {X Y : World → Prop} (hy : YieldAt Fence.wide k P l vs w fun e W' => (e = .returned (.bool true) ∧ X W') ∨ (e = .returned (.bool false) ∧ Y W'))
    (ht : ∀ a2 w2, a2.defers = a.defers → a2.tmps.size = a.tmps.size → (∀ t, (t == d) = false → a2.eval (.tmp t) = a.eval (.tmp t)) → a2.eval (.tmp d) = .bool true → X w2 → wpListIn Fence.wide m P ops Q rest a2 w2)
    (hf : ∀ a2 w2, a2.defers = a.defers → a2.tmps.size = a.tmps.size → (∀ t, (t == d) = false → a2.eval (.tmp t) = a.eval (.tmp t)) → a2.eval (.tmp d) = .bool false → Y w2 → wpListIn Fence.wide m P ops Q rest a2 w2) : wpListIn Fence.wide m P ops Q (o :: rest) a w := by
  obtain ⟨fn, tmps, assign, body, hrun, hR⟩ := hy
  have hv' : xs.map a.eval = vs := by rw [← hv]; apply Array.toList_inj.1; simp
  have hr : (execOp a.eval o).run P w = .ok (.round l fn tmps assign body) w := by
    unfold execOp; rw [ho]
    simp [resolve, hx, Deferred.ofValue, invoke, hv', hrun]
  unfold wpListIn
  rw [if_pos (by unfold Region.wanted; rw [hgd])]
  refine ⟨fun _ _ => trivial, ?_⟩
  rw [show Fence.wide.round = none from rfl, Oper.semAt_none, hr]
  refine ⟨fun h => (by cases h), RoundIn.mono ⟨trivial, fun c cs _ => hR.2 c cs (room_wide _)⟩ ?_⟩
  rintro e w' (⟨rfl, hX⟩ | ⟨rfl, hY⟩)
  · rw [hd]
    refine ht _ _ (put_def _ _ _) (put_size _ _ _) (fun t ht => put_eval_other _ _ _ _ (fun e => by subst e; simp at ht)) ?_ hX
    rw [put_eval_same _ _ _ hsz]
  · rw [hd]
    refine hf _ _ (put_def _ _ _) (put_size _ _ _) (fun t ht => put_eval_other _ _ _ _ (fun e => by subst e; simp at ht)) ?_ hY
    rw [put_eval_same _ _ _ hsz]
end
section
variable {P : Program} {Q : Exit → Act → World → Prop} {l n : Nat} {ops : Array Oper}
end
end Go.Proofs.YtnppjlpnfijobaaDoor
namespace Go.Proofs.YtnppjlpnfijobaaDoor
set_option maxRecDepth 100000
open Go.RowKit
/-- A function that has caught one variable, which lies in new memory. -/
def Fk.cl (g0 gf T : Nat) (u : Value) : Fk := .inr (.inl ⟨fun v w => ∃ g, g0 ≤ g ∧ v = .func (.func gf) #[] #[.pointer (some ⟨g, 0, none⟩)] ∧ Ob w g T [u], by
  rintro v w w' ⟨g, h, e, ho⟩ hb
  exact ⟨g, h, e, ho.below hb⟩⟩)
theorem backward_any (A : Option Addr) (n C : Nat) (w : World) (g0 : Nat) (hg : g0 ≤ w.heap.size) : Calls Tryd.prog 46 #[.slice A n C] w fun e w' => ∃ u, e = .returned u ∧ (Fk.cl g0 63 22 (.slice A n C)).f u w' ∧ Below w.heap.size w w' := by
  have : Calls Tryd.prog 46 #[.slice A n C] w fun e w' => e = .returned (.func (.func 63) #[] #[.pointer (some ⟨w.heap.size, 0, none⟩)]) ∧ w' = w.alloc (.cells #[.slice A n C] 22) := by
    go_enter Tryd.func46, Tryd.ntmps46
    go_wp2
    go_ret
    exact ⟨rfl, rfl⟩
  refine this.mono ?_
  rintro e w' ⟨rfl, rfl⟩
  exact ⟨_, rfl, ⟨_, hg, rfl, heap_alloc_new _ _⟩, (Below.refl _ _).alloc (Nat.le_refl _) _⟩
/-- What round k gets, from the last one back. -/
def encB (P : List (List (BitVec 8))) (k : Nat) : Array Value := #[.agg ((P.getD (P.length - 1 - k) []).map V).toArray]
/-- What it reads. -/
def RB (gb : Nat) (v : Value) (P : List (List (BitVec 8))) (A : World) : Prop := Ob A gb 22 [v] ∧ (Fk.hs P).f v A
theorem back_gives {P : List (List (BitVec 8))} (hPl : P.length ≤ 1000) (gb : Nat) (v : Value) (w0 : World) : Gives 6 63 #[.pointer (some ⟨gb, 0, none⟩)] (encB P) P.length (RB gb v P) w0 := by
  intro l J Jx w hW hJ hR hY h0
  refine callsIn_wide.2 ?_
  show Calls Tryd.prog 63 #[.func (.yield l) #[] #[], .pointer (some ⟨gb, 0, none⟩)] w _
  have hJk := h0
  have hzz := Nat.le_refl w.heap.size
  obtain ⟨hob, hvP⟩ := hR _ _ h0
  go_enter Tryd.func63, Tryd.ntmps63
  refine code_both (fun f w1 => f.tmps.size = 18 ∧ f.defers = [] ∧ f.eval (.tmp 0) = .func (.yield l) #[] #[] ∧ f.eval (.tmp 1) = .pointer (some ⟨gb, 0, none⟩) ∧ Ob w1 (gb) 22 ([v]) ∧ Fk.f (.hs (P)) (v) w1 ∧ J 0 w1 ∧ w.heap.size ≤ w1.heap.size ∧ True) ⟨rfl, rfl, rfl, rfl, hob, hvP, hJk, hzz, trivial⟩ ?_
  clear hob hvP hJk hzz
  rintro f0 w0 ⟨sz, df, x0, x1, hob, hvP, hJk, hzz, bl⟩
  have bl0 := bl
  refine wp_seq ?_
  refine wp_all_seq [.eq (v), .eq (.int .i64 (((P).length : Nat) : Int)), .eq (.int .i64 ((P.length : Int) - 1)), .eq (.int .i64 ((P.length : Int) - 1))] (by kernel_rfl) (by kernel_rfl) (by rw [sz]; kernel_rfl) (by kernel_rfl) ⟨fun hw ac u K => ?_, fun hw ac u K => ?_, fun hw ac u K => ?_, fun hw ac u K => ?_, trivial⟩ ?_
  · exact st_loadc 22 (.tmp 1) rfl (by kernel_rfl) ((K.old 1 rfl).trans x1) (Ob.cell (Ob.below hob K.grow) 0 rfl)
  · exact st_lenh (.tmp 4) rfl (fk_val (K.dep 0 4 rfl) (Fk.mono _ _ _ _ hvP K.grow))
  · exact st_subz (.tmp 5) (.const (.int .i64 1)) rfl _ 1 _ (K.dep 1 5 rfl) rfl rfl (by omega) (by omega)
  · exact st_assign (.tmp 6) rfl (K.dep 2 6 rfl)
  intro f1 w1 A hb
  replace bl0 := bl
  replace x0 := (A.old 0 rfl).trans x0
  replace x1 := (A.old 1 rfl).trans x1
  have x3 : f1.eval (.tmp 3) = .int .i64 ((P.length : Int) - 1) := A.has 3 3 rfl
  have lt_hob := Ob.lt hob
  replace hob := Ob.below hob hb
  replace hvP := Fk.mono _ _ _ _ hvP hb
  replace hJk := hJ _ _ _ hJk (Below.mono hb hzz)
  replace hzz := Nat.le_trans hzz hb.size
  replace bl := trivial
  replace sz := A.size.trans sz
  replace df := A.defs.trans df
  clear A hb
  show Code.wp _ _ _ _ _
  refine wp_block ?_
  refine wp_loop (fun f v1 => ∃ k : Nat, k ≤ (P).length ∧ f.tmps.size = 18 ∧ f.defers = [] ∧ f.eval (.tmp 0) = .func (.yield l) #[] #[] ∧ f.eval (.tmp 1) = .pointer (some ⟨gb, 0, none⟩) ∧ f.eval (.tmp 3) = .int .i64 ((P.length : Int) - 1 - ((k : Nat) : Int)) ∧ Ob v1 (gb) 22 ([v]) ∧ Fk.f (.hs (P)) (v) v1 ∧ J k v1 ∧ w.heap.size ≤ v1.heap.size ∧ True) (fun f _ => ((intOf (f.eval (.tmp 3))) + 1).toNat) ⟨0, Nat.zero_le _, sz, df, x0, x1, (by rw [show _ = _ from x3]; simp), hob, hvP, hJk, hzz, bl⟩ ?_
  intro f2 w2 hI
  clear sz df bl bl0 x0 x1 x3 hob hvP hJk hzz
  obtain ⟨k, hk, sz, df, x0, x1, x3, hob, hvP, hJk, hzz, bl⟩ := hI
  have bl0 := bl
  refine wp_seq ?_
  refine wp_seq ?_
  have hcnt := x3
  by_cases hlt : k < (P).length
  rotate_left
  · skip
    refine wp_all_seq [.eq (.int .i64 ((P.length : Int) - 1 - ((k : Nat) : Int))), .eq (.bool false)] (by kernel_rfl) (by kernel_rfl) (by rw [sz]; kernel_rfl) (by kernel_rfl) ⟨fun hw ac u K => ?_, fun hw ac u K => ?_, trivial⟩ ?_
    · exact st_move (.tmp 3) rfl ((K.old 3 rfl).trans x3)
    · exact st_geq 3 (.tmp 7) (.const (.int .i64 0)) rfl .i64 (((P.length : Int) - 1 - ((k : Nat) : Int))) (0) (K.dep 0 7 rfl) rfl _ (by rw [eq_comm, decide_eq_false_iff_not]; omega)
    intro f3 w3 A hb
    replace bl0 := bl
    replace x0 := (A.old 0 rfl).trans x0
    replace x1 := (A.old 1 rfl).trans x1
    replace x3 := (A.old 3 rfl).trans x3
    have x8 : f3.eval (.tmp 8) = .bool false := A.has 1 8 rfl
    have lt_hob := Ob.lt hob
    replace hob := Ob.below hob hb
    replace hvP := Fk.mono _ _ _ _ hvP hb
    replace hJk := hJ _ _ _ hJk (Below.mono hb hzz)
    replace hzz := Nat.le_trans hzz hb.size
    replace bl := trivial
    replace sz := A.size.trans sz
    replace df := A.defs.trans df
    clear A hb
    show Code.wp _ _ _ _ _
    refine wp_cond_false x8 ?_
    refine wp_exit ?_
    repeat (first | with_reducible refine then_exit ?_ | with_reducible refine block_exit ?_)
    show bodyPost _ _ _ _ _ _
    obtain rfl : k = (P).length := by omega
    exact bodyPost_end (results_none rfl _ _ _) df ⟨⟨_, rfl⟩, .inl hJk⟩
  obtain ⟨q, hq⟩ : ∃ q, P.length - 1 - k = q := ⟨_, rfl⟩
  obtain ⟨y, hyk⟩ : ∃ y, P[q]? = some y := ⟨_, List.getElem?_eq_getElem (by omega)⟩
  have hy : y.length = 32 := hs_len hvP hyk
  have hyd : P.getD q [] = y := by rw [List.getD_eq_getElem?_getD, hyk]; rfl
  rw [show ((P.length : Int) - 1 - ((k : Nat) : Int)) = ((q : Nat) : Int) by omega] at x3 hcnt
  have hYk := hY k
  unfold encB at hYk
  rw [hq, hyd] at hYk
  refine wp_all_seq [.eq (.int .i64 ((q : Nat) : Int)), .eq (.bool true)] (by kernel_rfl) (by kernel_rfl) (by rw [sz]; kernel_rfl) (by kernel_rfl) ⟨fun hw ac u K => ?_, fun hw ac u K => ?_, trivial⟩ ?_
  · exact st_move (.tmp 3) rfl ((K.old 3 rfl).trans x3)
  · exact st_geq 3 (.tmp 7) (.const (.int .i64 0)) rfl .i64 (((q : Nat) : Int)) (0) (K.dep 0 7 rfl) rfl _ (by rw [eq_comm, decide_eq_true_iff]; omega)
  intro f3 w3 A hb
  replace bl0 := bl
  replace x0 := (A.old 0 rfl).trans x0
  replace x1 := (A.old 1 rfl).trans x1
  replace x3 := (A.old 3 rfl).trans x3
  have x8 : f3.eval (.tmp 8) = .bool true := A.has 1 8 rfl
  have lt_hob := Ob.lt hob
  replace hob := Ob.below hob hb
  replace hvP := Fk.mono _ _ _ _ hvP hb
  replace hJk := hJ _ _ _ hJk (Below.mono hb hzz)
  replace hzz := Nat.le_trans hzz hb.size
  replace bl := trivial
  replace sz := A.size.trans sz
  replace df := A.defs.trans df
  clear A hb
  show Code.wp _ _ _ _ _
  refine wp_cond_true x8 ?_
  refine wp_skip ?_
  show Code.wp _ _ _ _ _
  refine wp_seq ?_
  refine wp_block ?_
  refine wp_seq ?_
  refine wp_region_li 6 ?_
  refine wli_one (.eq (.func (.yield l) #[] #[])) rfl 11 rfl (by rw [sz]; decide) (st_move (.tmp 0) rfl x0) ?_
  intro f4 w4 df2 sz2 old2 new2 hb
  replace bl0 := bl
  replace x0 := (old2 0 rfl).trans x0
  replace x1 := (old2 1 rfl).trans x1
  replace x3 := (old2 3 rfl).trans x3
  replace x8 := (old2 8 rfl).trans x8
  have x11 : f4.eval (.tmp 11) = .func (.yield l) #[] #[] := new2
  have lt_hob := Ob.lt hob
  replace hob := Ob.below hob hb
  replace hvP := Fk.mono _ _ _ _ hvP hb
  replace hJk := hJ _ _ _ hJk (Below.mono hb hzz)
  replace hzz := Nat.le_trans hzz hb.size
  replace bl := trivial
  replace sz := sz2.trans sz
  replace df := df2.trans df
  clear df2 sz2 old2 new2 hb
  refine wli_one (.eq (v)) rfl 12 rfl (by rw [sz]; decide) (st_loadc 22 (.tmp 1) rfl (by kernel_rfl) x1 (Ob.cell hob 0 rfl)) ?_
  intro f5 w5 df2 sz2 old2 new2 hb
  replace bl0 := bl
  replace x0 := (old2 0 rfl).trans x0
  replace x1 := (old2 1 rfl).trans x1
  replace x3 := (old2 3 rfl).trans x3
  replace x8 := (old2 8 rfl).trans x8
  replace x11 := (old2 11 rfl).trans x11
  have x12 : f5.eval (.tmp 12) = v := new2
  have lt_hob := Ob.lt hob
  replace hob := Ob.below hob hb
  replace hvP := Fk.mono _ _ _ _ hvP hb
  replace hJk := hJ _ _ _ hJk (Below.mono hb hzz)
  replace hzz := Nat.le_trans hzz hb.size
  replace bl := trivial
  replace sz := sz2.trans sz
  replace df := df2.trans df
  clear df2 sz2 old2 new2 hb
  refine wli_one (.eq (.int .i64 ((q : Nat) : Int))) rfl 13 rfl (by rw [sz]; decide) (st_move (.tmp 3) rfl x3) ?_
  intro f6 w6 df2 sz2 old2 new2 hb
  replace bl0 := bl
  replace x0 := (old2 0 rfl).trans x0
  replace x1 := (old2 1 rfl).trans x1
  replace x3 := (old2 3 rfl).trans x3
  replace x8 := (old2 8 rfl).trans x8
  replace x11 := (old2 11 rfl).trans x11
  replace x12 := (old2 12 rfl).trans x12
  have x13 : f6.eval (.tmp 13) = .int .i64 ((q : Nat) : Int) := new2
  have lt_hob := Ob.lt hob
  replace hob := Ob.below hob hb
  replace hvP := Fk.mono _ _ _ _ hvP hb
  replace hJk := hJ _ _ _ hJk (Below.mono hb hzz)
  replace hzz := Nat.le_trans hzz hb.size
  replace bl := trivial
  replace sz := sz2.trans sz
  replace df := df2.trans df
  clear df2 sz2 old2 new2 hb
  refine wli_one (.ph (y)) rfl 14 rfl (by rw [sz]; decide) (st_idxh (.tmp 12) (.tmp 13) rfl (fk_val x12 hvP) (q) (y) x13 hyk) ?_
  intro f7 w7 df2 sz2 old2 new2 hb
  replace bl0 := bl
  replace x0 := (old2 0 rfl).trans x0
  replace x1 := (old2 1 rfl).trans x1
  replace x3 := (old2 3 rfl).trans x3
  replace x8 := (old2 8 rfl).trans x8
  replace x11 := (old2 11 rfl).trans x11
  replace x12 := (old2 12 rfl).trans x12
  replace x13 := (old2 13 rfl).trans x13
  have x14 : Fk.f (.ph (y)) (f7.eval (.tmp 14)) w7 := new2
  have lt_hob := Ob.lt hob
  replace hob := Ob.below hob hb
  replace hvP := Fk.mono _ _ _ _ hvP hb
  replace hJk := hJ _ _ _ hJk (Below.mono hb hzz)
  replace hzz := Nat.le_trans hzz hb.size
  replace bl := trivial
  replace sz := sz2.trans sz
  replace df := df2.trans df
  clear df2 sz2 old2 new2 hb
  refine wli_one (.eq (.agg ((y).map V).toArray)) rfl 15 rfl (by rw [sz]; decide) (st_loadh (.tmp 14) rfl x14) ?_
  intro f8 w8 df2 sz2 old2 new2 hb
  replace bl0 := bl
  replace x0 := (old2 0 rfl).trans x0
  replace x1 := (old2 1 rfl).trans x1
  replace x3 := (old2 3 rfl).trans x3
  replace x8 := (old2 8 rfl).trans x8
  replace x11 := (old2 11 rfl).trans x11
  replace x12 := (old2 12 rfl).trans x12
  replace x13 := (old2 13 rfl).trans x13
  replace x14 := f_at (old2 14 rfl) (Fk.mono _ _ _ _ x14 hb)
  have x15 : f8.eval (.tmp 15) = .agg ((y).map V).toArray := new2
  have lt_hob := Ob.lt hob
  replace hob := Ob.below hob hb
  replace hvP := Fk.mono _ _ _ _ hvP hb
  replace hJk := hJ _ _ _ hJk (Below.mono hb hzz)
  replace hzz := Nat.le_trans hzz hb.size
  replace bl := trivial
  replace sz := sz2.trans sz
  replace df := df2.trans df
  clear df2 sz2 old2 new2 hb
  refine wli_yield (.tmp 11) _ _ #[.agg ((y).map V).toArray] rfl 16 rfl (by rw [sz]; decide) rfl l x11 (one_arg x15) (hYk _ hlt hJk) ?_ ?_
  rotate_left
  · intro f9 w9 df2 sz2 old2 new2 hX
    clear hob
    clear hvP
    replace x0 := (old2 0 rfl).trans x0
    replace x1 := (old2 1 rfl).trans x1
    replace x3 := (old2 3 rfl).trans x3
    replace x8 := (old2 8 rfl).trans x8
    replace x11 := (old2 11 rfl).trans x11
    replace x12 := (old2 12 rfl).trans x12
    replace x13 := (old2 13 rfl).trans x13
    clear x14
    replace x15 := (old2 15 rfl).trans x15
    have x16 : f9.eval (.tmp 16) = .bool false := new2
    
    replace sz := sz2.trans sz
    replace df := df2.trans df
    clear df2 sz2 old2 new2
    refine wli_not rfl (.tmp 16) rfl 17 rfl (by rw [sz]; decide) false x16 ?_
    intro f10 df2 sz2 old2 new2
    replace x0 := (old2 0 rfl).trans x0
    replace x1 := (old2 1 rfl).trans x1
    replace x3 := (old2 3 rfl).trans x3
    replace x8 := (old2 8 rfl).trans x8
    replace x11 := (old2 11 rfl).trans x11
    replace x12 := (old2 12 rfl).trans x12
    replace x13 := (old2 13 rfl).trans x13
    replace x15 := (old2 15 rfl).trans x15
    replace x16 := (old2 16 rfl).trans x16
    have x17 : f10.eval (.tmp 17) = .bool true := new2
    replace sz := sz2.trans sz
    replace df := df2.trans df
    clear df2 sz2 old2 new2
    refine wli_nil ?_
    clear x11
    clear x12
    clear x13
    clear x15
    clear x16
    show Code.wp _ _ _ _ _
    refine wp_cond_true x17 ?_
    refine wp_ret ?_
    repeat (first | with_reducible refine then_ret ?_ | with_reducible refine block_ret ?_)
    exact bodyPost_ret (results_none rfl _ _ _) df ⟨⟨_, rfl⟩, .inr ⟨k, hlt, hX⟩⟩
  intro f9 w9 df2 sz2 old2 new2 hX
  clear hob
  clear hvP
  replace x0 := (old2 0 rfl).trans x0
  replace x1 := (old2 1 rfl).trans x1
  replace x3 := (old2 3 rfl).trans x3
  replace x8 := (old2 8 rfl).trans x8
  replace x11 := (old2 11 rfl).trans x11
  replace x12 := (old2 12 rfl).trans x12
  replace x13 := (old2 13 rfl).trans x13
  clear x14
  replace x15 := (old2 15 rfl).trans x15
  have x16 : f9.eval (.tmp 16) = .bool true := new2
  replace hJk := hX.1
  replace hzz := Nat.le_trans hzz hX.2.1
  have hob := (hR _ _ hJk).1
  have hvP := (hR _ _ hJk).2
  replace sz := sz2.trans sz
  replace df := df2.trans df
  clear df2 sz2 old2 new2 hX
  refine wli_not rfl (.tmp 16) rfl 17 rfl (by rw [sz]; decide) true x16 ?_
  intro f10 df2 sz2 old2 new2
  replace x0 := (old2 0 rfl).trans x0
  replace x1 := (old2 1 rfl).trans x1
  replace x3 := (old2 3 rfl).trans x3
  replace x8 := (old2 8 rfl).trans x8
  replace x11 := (old2 11 rfl).trans x11
  replace x12 := (old2 12 rfl).trans x12
  replace x13 := (old2 13 rfl).trans x13
  replace x15 := (old2 15 rfl).trans x15
  replace x16 := (old2 16 rfl).trans x16
  have x17 : f10.eval (.tmp 17) = .bool false := new2
  replace sz := sz2.trans sz
  replace df := df2.trans df
  clear df2 sz2 old2 new2
  refine wli_nil ?_
  clear x11
  clear x12
  clear x13
  clear x15
  clear x16
  show Code.wp _ _ _ _ _
  refine wp_cond_false x17 ?_
  refine wp_skip ?_
  show Code.wp _ _ _ _ _
  refine wp_region_seq [.eq (.int .i64 ((q : Nat) : Int)), .eq (.int .i64 ((P.length : Int) - 1 - ((k + 1 : Nat) : Int)))] (by kernel_rfl) (by kernel_rfl) (by rw [sz]; kernel_rfl) (by kernel_rfl) ⟨fun hw ac u K => ?_, fun hw ac u K => ?_, trivial⟩ ?_
  · exact st_move (.tmp 3) rfl ((K.old 3 rfl).trans x3)
  · exact st_subz (.tmp 9) (.const (.int .i64 1)) rfl _ 1 _ (K.dep 0 9 rfl) rfl (by omega) (by omega) (by omega)
  intro f11 w11 A hb
  replace bl0 := bl
  replace x0 := (A.old 0 rfl).trans x0
  replace x1 := (A.old 1 rfl).trans x1
  replace x3 := (A.old 3 rfl).trans x3
  replace x8 := (A.old 8 rfl).trans x8
  replace x17 := (A.old 17 rfl).trans x17
  have x10 : f11.eval (.tmp 10) = .int .i64 ((P.length : Int) - 1 - ((k + 1 : Nat) : Int)) := A.has 1 10 rfl
  have lt_hob := Ob.lt hob
  replace hob := Ob.below hob hb
  replace hvP := Fk.mono _ _ _ _ hvP hb
  replace hJk := hJ _ _ _ hJk (Below.mono hb hzz)
  replace hzz := Nat.le_trans hzz hb.size
  replace bl := trivial
  replace sz := A.size.trans sz
  replace df := A.defs.trans df
  clear A hb
  refine wl_one (.eq (.int .i64 ((P.length : Int) - 1 - ((k + 1 : Nat) : Int)))) rfl 3 rfl (by rw [sz]; decide) (st_assign (.tmp 10) rfl x10) ?_
  intro f12 w12 df2 sz2 old2 new2 hb
  replace bl0 := bl
  replace x0 := (old2 0 rfl).trans x0
  replace x1 := (old2 1 rfl).trans x1
  clear x3
  replace x8 := (old2 8 rfl).trans x8
  replace x17 := (old2 17 rfl).trans x17
  replace x10 := (old2 10 rfl).trans x10
  have x3 : f12.eval (.tmp 3) = .int .i64 ((P.length : Int) - 1 - ((k + 1 : Nat) : Int)) := new2
  have lt_hob := Ob.lt hob
  replace hob := Ob.below hob hb
  replace hvP := Fk.mono _ _ _ _ hvP hb
  replace hJk := hJ _ _ _ hJk (Below.mono hb hzz)
  replace hzz := Nat.le_trans hzz hb.size
  replace bl := trivial
  replace sz := sz2.trans sz
  replace df := df2.trans df
  clear df2 sz2 old2 new2 hb
  refine wpList_nil ?_
  clear x10
  show (∃ _, _) ∧ _
  refine ⟨⟨k + 1, by omega, sz, df, x0, x1, x3, hob, hvP, hJk, hzz, bl⟩, ?_⟩
  rw [show f12.eval (.tmp 3) = _ from x3, show _ = _ from hcnt]
  simp only [intOf]
  omega
end Go.Proofs.YtnppjlpnfijobaaDoor
namespace Go.Proofs.YtnppjlpnfijobaaDoor
set_option maxRecDepth 100000
open Go.RowKit
theorem ob_lo {A A' : World} {B g : Nat} {T : TypeId} {cs : List Value} (h : Ob A g T cs) (hb : Below B A A') (hg : g < B) : Ob A' g T cs := by
  have := hb.block g hg
  unfold Ob at *
  rw [this]; exact h
theorem ob_put {A : World} {l g : Nat} {T : TypeId} {cs : List Value} (o : Obj) (h : Ob A g T cs) (hne : g ≠ l) : Ob (A.putObj l o) g T cs := by
  unfold Ob at *
  rw [World.putObj_heap_other hne]; exact h
theorem code_in {F : Fence} {n : Nat} {P : Program} {c : Code} {Q : Exit → Act → World → Prop} {a : Act} {w : World} (I : Act → World → Prop) (h0 : I a w) (h : ∀ f w, I f w → Code.wpIn F n P c Q f w) : Code.wpIn F n P c Q a w := h a w h0
end Go.Proofs.YtnppjlpnfijobaaDoor
