/- Contracts: New. Contracts: Cached; layings of the shelf. Contracts: Copy. Contracts: Differ. The law's step at any two states: nothing, Flush, Arm, Crash, Tamper. The law's step: a Read. The law's step: a Write. What the program's disk tells (open); the law's same. The step of every kind; New (open). -/
import Derived.Test.YtjdpomilifnlaaaM6
import Derived.Shelf.SlGeneric
import Derived.Shelf.SlMaps.Clone
import Derived.Shelf.SlIterI.Nil
import Derived.Shelf.SortM.Plain
import Derived.Shelf.SortM.SortNone
import Derived.Ground.GgzProg
import Derived.Ground.SlgmProg
import Derived.Ground.SlmcProg
import Derived.Test.YtjdpomilifnlaaaM2
import Derived.Test.YtjdpomilifnlaaaM3
import Derived.Laws.AppendOwnNone
namespace Go.Proofs.Ytjdpomilifnlaaa
set_option maxRecDepth 100000
open Go.RowKit
theorem Try.bldRq (a : Option Addr) (n c : Nat) (w : World) : (Instr.buildSlice 56 1 #[(0, .slice a n c)]).run Try.prog w = .ok (.slice (some ⟨w.heap.size, 0, none⟩) 1 1) (w.alloc (.cells #[.slice a n c] 29)) := by kernel_rfl
theorem hd_new {w : World} {gd sb cb gB N Z : Nat} (m : Ob w gd 63 [.int .i64 (Z : Int), .slice (some ⟨sb, 0, none⟩) N N, .map (some cb), .int .i64 (-1), .bool false, .int .i64 0]) (mR : Ob w sb 29 (List.replicate N (.slice (some ⟨gB, 0, none⟩) Z Z))) (him : Im w cb []) (mB : Ob w gB 5 ((zs Z).map V)) (n1 : gd ≠ sb) (n2 : gd ≠ cb) (n3 : sb ≠ cb) (b1 : gB ≠ gd) (b2 : gB ≠ sb) (b3 : gB ≠ cb) (h1 : 1 ≤ N) (h2 : N ≤ 65536) (h3 : 16 ≤ Z) (h4 : Z ≤ 4096) :
    HD w gd (fun j => j = gd ∨ j = sb ∨ j = cb) (fun j => (j = gd ∨ j = sb ∨ j = cb) ∨ j = gB) (newd N Z) := by
  have hzl : (zs Z).length = Z := List.length_replicate
  refine ⟨sb, cb, N, -1, _, [], fun j => Iff.rfl, n1, n2, n3, fun j q => .inl q, fun j q => ?_, ?_, mR, him, ⟨rfl, fun h => absurd h (by decide), by decide⟩, ?_, h4, ?_, ?_, fun i bs q => ?_, fun k v q => (by cases q), fun i bs q h => ?_⟩
  · rcases q with (rfl | rfl | rfl) | rfl
    · exact m.lt
    · exact mR.lt
    · exact him.lt
    · exact mB.lt
  · show Ob w gd _ [_, .slice _ (List.replicate N (zs Z)).length _, _, _, _, _]
    rw [List.length_replicate]
    exact m
  · show 0 < Z
    omega
  · show 0 < (List.replicate N (zs Z)).length ∧ (List.replicate N (zs Z)).length ≤ 65536
    rw [List.length_replicate]
    omega
  · show (List.replicate N ([] : List (BitVec 8))).length = (List.replicate N (zs Z)).length
    rw [List.length_replicate, List.length_replicate]
  · replace q : (List.replicate N (zs Z))[i]? = some bs := q
    rw [List.getElem?_replicate] at q
    split at q
    · rename_i hi
      cases q
      refine ⟨hzl, .slice (some ⟨gB, 0, none⟩) Z Z, ?_, gB, Z, 0, by rw [hzl], by rw [hzl]; exact Nat.le_refl _, by rw [hzl]; omega, ⟨.inr rfl, by omega⟩, mB.lt, Ob.bytes (T := 5) (cs := []) (by rw [List.append_nil]; exact mB)⟩
      rw [List.getElem?_toArray, List.getElem?_replicate, if_pos hi]
    · cases q
  · replace q : (List.replicate N ([] : List (BitVec 8)))[i]? = some bs := q
    rw [List.getElem?_replicate] at q
    split at q
    · cases q
      exact absurd rfl h
    · cases q
theorem fk_dnew {N Z : Nat} (h1 : 1 ≤ N) (h2 : N ≤ 65536) (h3 : 16 ≤ Z) (h4 : Z ≤ 4096) (w : World) :
    Calls Try.prog 8 #[.int .i64 (N : Int), .int .i64 (Z : Int)] w fun e w' => ∃ (gd : Nat) (M D : Nat → Prop), e = .returned (.pointer (some ⟨gd, 0, none⟩)) ∧ HD w' gd M D (newd N Z) ∧ (∀ j, D j → w.heap.size ≤ j) ∧ Below w.heap.size w w' := by
  go_enter Try.func8, Try.ntmps8
  refine code_both (fun f w1 => f.tmps.size = 31 ∧ f.defers = [] ∧ f.eval (.tmp 0) = .int .i64 (N : Int) ∧ f.eval (.tmp 1) = .int .i64 (Z : Int) ∧ Below w.heap.size w (w1)) ⟨rfl, rfl, rfl, rfl, Below.refl _ _⟩ ?_
  rintro f0 w0 ⟨sz, df, x0, x1, bl⟩
  have sd := And.intro sz df
  clear sz df
  have bl0 := bl
  refine wp_seq ?_
  refine wr_a [.eq (.pointer none)] (by rw [sd.1]; kernel_rfl) ⟨fun hw ac u K => ?_, trivial⟩ ?_
  · exact st_assign (.const (.pointer none)) rfl rfl
  intro f1 w1 A hb
  replace x0 := A.t x0 rfl
  replace x1 := A.t x1 rfl
  replace bl := bgo bl hb
  replace sd := A.sd sd
  clear A hb
  show Code.wp _ _ _ _ _
  refine wp_seq ?_
  refine wp_seq ?_
  refine wr_a [.eq (.int .i64 (N : Int)), .eq (.bool false), .eq (.bool false), .eq (.int .i64 (N : Int)), .eq (.bool false), .eq (.bool false), .eq (.bool false), .eq (.int .i64 (Z : Int)), .eq (.bool false), .eq (.bool false), .eq (.bool false), .eq (.int .i64 (Z : Int)), .eq (.bool false), .eq (.bool false)] (by rw [sd.1]; kernel_rfl) ⟨fun hw ac u K => ?_, fun hw ac u K => ?_, fun hw ac u K => ?_, fun hw ac u K => ?_, fun hw ac u K => ?_, fun hw ac u K => ?_, fun hw ac u K => ?_, fun hw ac u K => ?_, fun hw ac u K => ?_, fun hw ac u K => ?_, fun hw ac u K => ?_, fun hw ac u K => ?_, fun hw ac u K => ?_, fun hw ac u K => ?_, trivial⟩ ?_
  · exact st_move (.tmp 0) rfl (K.t x0 rfl)
  · exact st_lss 3 (.tmp 6) (.const (.int .i64 1)) rfl .i64 ((N : Int)) (1) (K.dep 0 6 rfl) rfl _ (by rw [eq_comm, decide_eq_false_iff_not]; omega)
  · exact st_move (.tmp 7) rfl (K.dep 1 7 rfl)
  · exact st_move (.tmp 0) rfl (K.t x0 rfl)
  · exact st_gtr 3 (.tmp 9) (.const (.int .i64 65536)) rfl .i64 ((N : Int)) (65536) (K.dep 3 9 rfl) rfl _ (by rw [eq_comm, decide_eq_false_iff_not]; omega)
  · exact st_pick_f' (.tmp 8) (.const (.bool true)) (.tmp 10) rfl (K.dep 2 8 rfl) (K.dep 4 10 rfl)
  · exact st_move (.tmp 11) rfl (K.dep 5 11 rfl)
  · exact st_move (.tmp 1) rfl (K.t x1 rfl)
  · exact st_lss 3 (.tmp 13) (.const (.int .i64 16)) rfl .i64 ((Z : Int)) (16) (K.dep 7 13 rfl) rfl _ (by rw [eq_comm, decide_eq_false_iff_not]; omega)
  · exact st_pick_f' (.tmp 12) (.const (.bool true)) (.tmp 14) rfl (K.dep 6 12 rfl) (K.dep 8 14 rfl)
  · exact st_move (.tmp 15) rfl (K.dep 9 15 rfl)
  · exact st_move (.tmp 1) rfl (K.t x1 rfl)
  · exact st_gtr 3 (.tmp 17) (.const (.int .i64 4096)) rfl .i64 ((Z : Int)) (4096) (K.dep 11 17 rfl) rfl _ (by rw [eq_comm, decide_eq_false_iff_not]; omega)
  · exact st_pick_f' (.tmp 16) (.const (.bool true)) (.tmp 18) rfl (K.dep 10 16 rfl) (K.dep 12 18 rfl)
  intro f2 w2 A hb
  replace x0 := A.t x0 rfl
  replace x1 := A.t x1 rfl
  have x19 := A.e 13 19 rfl rfl
  replace bl := bgo bl hb
  replace sd := A.sd sd
  clear A hb
  show Code.wp _ _ _ _ _
  refine wp_cond_false x19 ?_
  refine wp_skip ?_
  show Code.wp _ _ _ _ _
  refine wp_seq ?_
  refine wr_s [.eq (.int .i64 (Z : Int))] (by rw [sd.1]; kernel_rfl) ⟨fun hw ac u K => ?_, trivial⟩ ?_
  · exact st_move (.tmp 1) rfl (K.t x1 rfl)
  intro f3 w3 A hb
  replace x0 := A.t x0 rfl
  replace x1 := A.t x1 rfl
  replace x19 := A.t x19 rfl
  have x20 := A.e 0 20 rfl rfl
  replace bl := bgo bl hb
  replace sd := A.sd sd
  clear A hb
  clear x19
  refine wl_makeB rfl _ _ rfl 21 rfl (by rw [sd.1]; decide) Z (by omega) x20 x20 ?_
  intro f4 w4 gB df2 sz2 old2 x21 hggB mgB hb
  replace x0 := tr old2 x0 rfl
  replace x1 := tr old2 x1 rfl
  replace x20 := tr old2 x20 rfl
  have hwgB : w.heap.size ≤ gB := Nat.le_trans bl.size hggB
  replace bl := bgo bl hb
  replace bl0 := bl
  replace sd := sd2 sz2 df2 sd
  clear df2 sz2 old2 hb
  clear x20
  refine wl_one (.eq (.slice (some ⟨gB, 0, none⟩) Z Z)) rfl 5 rfl (by rw [sd.1]; decide) (st_assign (.tmp 21) rfl x21) ?_
  intro f5 w5 df2 sz2 old2 new2 hb
  replace x0 := tr old2 x0 rfl
  replace x1 := tr old2 x1 rfl
  replace x21 := tr old2 x21 rfl
  have x5 := Fk.e new2
  replace mgB := Ob.below mgB hb
  replace bl := bgo bl hb
  replace sd := sd2 sz2 df2 sd
  clear df2 sz2 old2 new2 hb
  refine wpList_nil ?_
  clear x21
  show Code.wp _ _ _ _ _
  refine wp_seq ?_
  refine wr_s [.eq (.int .i64 (Z : Int)), .eq (.slice (some ⟨gB, 0, none⟩) Z Z)] (by rw [sd.1]; kernel_rfl) ⟨fun hw ac u K => ?_, fun hw ac u K => ?_, trivial⟩ ?_
  · exact st_move (.tmp 1) rfl (K.t x1 rfl)
  · exact st_move (.tmp 5) rfl (K.t x5 rfl)
  intro f6 w6 A hb
  replace x0 := A.t x0 rfl
  replace x1 := A.t x1 rfl
  replace x5 := A.t x5 rfl
  have x22 := A.e 0 22 rfl rfl
  have x23 := A.e 1 23 rfl rfl
  replace mgB := Ob.below mgB hb
  replace bl := bgo bl hb
  replace sd := A.sd sd
  clear A hb
  clear x1
  clear x5
  have hb := (Below.refl w6.heap.size w6).alloc (Nat.le_refl _) (.cells #[.slice (some ⟨gB, 0, none⟩) Z Z] 29)
  have m1 : Ob (w6.alloc (.cells #[.slice (some ⟨gB, 0, none⟩) Z Z] 29)) w6.heap.size 29 [.slice (some ⟨gB, 0, none⟩) Z Z] := heap_alloc_new _ _
  refine wl_execl rfl 24 rfl (by rw [sd.1]; decide) (v := .slice (some ⟨w6.heap.size, 0, none⟩) 1 1) (w2 := w6.alloc (.cells #[.slice (some ⟨gB, 0, none⟩) Z Z] 29)) (by unfold execOp; simp [x23, Try.bldRq]) ?_
  intro f7 df2 sz2 old2 x24
  generalize w6.alloc (.cells #[.slice (some ⟨gB, 0, none⟩) Z Z] 29) = w7 at hb m1 ⊢
  obtain ⟨g1, hg1⟩ : ∃ q, q = w6.heap.size := ⟨_, rfl⟩
  rw [← hg1] at x24 m1
  clear hg1
  replace x0 := tr old2 x0 rfl
  replace x22 := tr old2 x22 rfl
  replace x23 := tr old2 x23 rfl
  replace bl := bgo bl hb
  replace bl0 := bl
  replace sd := sd2 sz2 df2 sd
  replace mgB := Ob.below mgB hb
  clear df2 sz2 old2 hb
  clear x23
  refine wl_one (.eq (.int .i64 (N : Int))) rfl 25 rfl (by rw [sd.1]; decide) (st_move (.tmp 0) rfl x0) ?_
  intro f8 w8 df2 sz2 old2 new2 hb
  replace x0 := tr old2 x0 rfl
  replace x22 := tr old2 x22 rfl
  replace x24 := tr old2 x24 rfl
  have x25 := Fk.e new2
  replace mgB := Ob.below mgB hb
  replace m1 := Ob.below m1 hb
  replace bl := bgo bl hb
  replace sd := sd2 sz2 df2 sd
  clear df2 sz2 old2 new2 hb
  clear x0
  have hlB := mgB.lt
  refine wl_call 27 (.func 27) _ _ #[.slice (some ⟨g1, 0, none⟩) 1 1, .int .i64 (N : Int)] rfl 26 rfl (by rw [sd.1]; decide) rfl rfl (two_arg x24 x25) Try.enter27 (fun u W' => ∃ sb, u = .slice (some ⟨sb, 0, none⟩) N N ∧ w8.heap.size ≤ sb ∧ Ob W' sb 29 (List.replicate N (.slice (some ⟨gB, 0, none⟩) Z Z)) ∧ Below w8.heap.size w8 W') ((fk_repeat m1 rfl h1 h2).mono (by rintro e w' ⟨sb, rfl, q⟩; exact ⟨_, rfl, sb, rfl, q⟩)) ?_
  rintro f9 w9 df2 sz2 old2 ⟨sb, x26, hsb, mR, hb⟩
  have b2 : gB ≠ sb := by omega
  have hwsb : w.heap.size ≤ sb := Nat.le_trans bl.size hsb
  clear m1 hsb hlB
  replace x22 := tr old2 x22 rfl
  replace x24 := tr old2 x24 rfl
  replace x25 := tr old2 x25 rfl
  replace bl := bgo bl hb
  replace bl0 := bl
  replace sd := sd2 sz2 df2 sd
  replace mgB := Ob.below mgB hb
  clear df2 sz2 old2 hb
  clear x24
  clear x25
  have hlB := mgB.lt
  have hlR := mR.lt
  have hrun := (run_makeI (P := Try.prog) (t := 58) w9).1
  have him := (run_makeI (P := Try.prog) (t := 58) w9).2
  have hb := (Below.refl w9.heap.size w9).alloc (Nat.le_refl _) (.map #[] 0)
  refine wl_execl rfl 27 rfl (by rw [sd.1]; decide) (v := .map (some w9.heap.size)) (w2 := w9.alloc (.map #[] 0)) (by unfold execOp; simp [hrun]) ?_
  intro f10 df2 sz2 old2 x27
  generalize w9.alloc (.map #[] 0) = w10 at hb him ⊢
  obtain ⟨cb, hcb⟩ : ∃ q, q = w9.heap.size := ⟨_, rfl⟩
  rw [← hcb] at x27 him hlB hlR
  have b3 : gB ≠ cb := by omega
  have hwcb : w.heap.size ≤ cb := by have := bl.size; omega
  have n3 : sb ≠ cb := by omega
  clear hcb hrun hlB hlR
  replace x22 := tr old2 x22 rfl
  replace x26 := tr old2 x26 rfl
  replace bl := bgo bl hb
  replace bl0 := bl
  replace sd := sd2 sz2 df2 sd
  replace mgB := Ob.below mgB hb
  replace mR := Ob.below mR hb
  clear df2 sz2 old2 hb
  refine wl_one (.eq (.agg #[.int .i64 (-1), .bool false])) rfl 28 rfl (by rw [sd.1]; decide) (st_call 28 (.func 28) _ _ #[] rfl rfl rfl Try.enter28 ((fk_endless _).mono (by rintro e w' ⟨rfl, q⟩; exact ⟨_, rfl, rfl, q⟩))) ?_
  intro f11 w11 df2 sz2 old2 new2 hb
  replace x22 := tr old2 x22 rfl
  replace x26 := tr old2 x26 rfl
  replace x27 := tr old2 x27 rfl
  have x28 := Fk.e new2
  replace mgB := Ob.below mgB hb
  replace mR := Ob.below mR hb
  replace him := Im.below him hb
  replace bl := bgo bl hb
  replace sd := sd2 sz2 df2 sd
  clear df2 sz2 old2 new2 hb
  refine wl_one (.eq (.agg ([.int .i64 (Z : Int), .slice (some ⟨sb, 0, none⟩) N N, .map (some cb), .int .i64 (-1), .bool false, .int .i64 0] : List Value).toArray)) rfl 29 rfl (by rw [sd.1]; decide) (st_build 63 _ rfl (by simp only [List.map_toArray, List.map_cons, List.map_nil, x22, x26, x27, x28]; kernel_rfl)) ?_
  intro f12 w12 df2 sz2 old2 new2 hb
  replace x22 := tr old2 x22 rfl
  replace x26 := tr old2 x26 rfl
  replace x27 := tr old2 x27 rfl
  replace x28 := tr old2 x28 rfl
  have x29 := Fk.e new2
  replace mgB := Ob.below mgB hb
  replace mR := Ob.below mR hb
  replace him := Im.below him hb
  replace bl := bgo bl hb
  replace sd := sd2 sz2 df2 sd
  clear df2 sz2 old2 new2 hb
  clear x22
  clear x26
  clear x27
  clear x28
  have hlB := mgB.lt
  have hlR := mR.lt
  have hlC := him.lt
  have hw0 := bl.size
  refine wl_one (.nw w12.heap.size 63 ([.int .i64 (Z : Int), .slice (some ⟨sb, 0, none⟩) N N, .map (some cb), .int .i64 (-1), .bool false, .int .i64 0] : List Value)) rfl 30 rfl (by rw [sd.1]; decide) (st_box 63 (.tmp 29) rfl _ _ (by rw [show _ = _ from x29]; kernel_rfl) (Nat.le_refl _)) ?_
  intro f13 w13 df2 sz2 old2 new2 hb
  replace bl0 := bl
  replace x29 := tr old2 x29 rfl
  have x30 : Fk.f (.nw w12.heap.size 63 ([.int .i64 (Z : Int), .slice (some ⟨sb, 0, none⟩) N N, .map (some cb), .int .i64 (-1), .bool false, .int .i64 0] : List Value)) (f13.eval (.tmp 30)) w13 := new2
  replace mgB := Ob.below mgB hb
  replace mR := Ob.below mR hb
  replace him := Im.below him hb
  replace bl := bgo bl hb
  replace sd := sd2 sz2 df2 sd
  clear df2 sz2 old2 new2 hb
  obtain ⟨g30, hg30, e30, m30⟩ := x30
  have x30 := e30
  clear e30
  have hw30 : w.heap.size ≤ g30 := Nat.le_trans bl0.size hg30
  have nn1 : g30 ≠ sb := by omega
  have nn2 : g30 ≠ cb := by omega
  have nb1 : gB ≠ g30 := by omega
  clear hlB hlR hlC hw0
  have hnw : ∀ j, ((j = g30 ∨ j = sb ∨ j = cb) ∨ j = gB) → w.heap.size ≤ j := fun j q => by rcases q with (rfl | rfl | rfl) | rfl <;> omega
  clear x29
  refine wl_one (.eq (.pointer (some ⟨g30, 0, none⟩))) rfl 4 rfl (by rw [sd.1]; decide) (st_assign (.tmp 30) rfl x30) ?_
  intro f14 w14 df2 sz2 old2 new2 hb
  replace x30 := tr old2 x30 rfl
  have x4 := Fk.e new2
  replace m30 := Ob.below m30 hb
  replace mgB := Ob.below mgB hb
  replace mR := Ob.below mR hb
  replace him := Im.below him hb
  replace bl := bgo bl hb
  replace sd := sd2 sz2 df2 sd
  clear df2 sz2 old2 new2 hb
  refine wpList_nil ?_
  clear x30
  show Code.wp _ _ _ _ _
  refine wp_ret ?_
  repeat (first | with_reducible refine then_ret ?_ | with_reducible refine block_ret ?_)
  exact bodyPost_ret (v := .pointer (some ⟨g30, 0, none⟩)) (ret_slot rfl f14 _ x4 _ _) sd.2 ⟨g30, _, _, rfl, hd_new m30 mR him mgB nn1 nn2 n3 nb1 b2 b3 h1 h2 h3 h4, hnw, bl⟩
theorem fk_dnew_no {n z : Int} (h : n < 1 ∨ 65536 < n ∨ z < 16 ∨ 4096 < z) (w : World) :
    Calls Try.prog 8 #[.int .i64 n, .int .i64 z] w fun e w' => ∃ v, e = .returned v ∧ (Fk.eq (.pointer none)).f v w' ∧ Below w.heap.size w w' := by
  go_enter Try.func8, Try.ntmps8
  refine code_both (fun f w1 => f.tmps.size = 31 ∧ f.defers = [] ∧ f.eval (.tmp 0) = .int .i64 n ∧ f.eval (.tmp 1) = .int .i64 z ∧ Below w.heap.size w (w1)) ⟨rfl, rfl, rfl, rfl, Below.refl _ _⟩ ?_
  rintro f0 w0 ⟨sz, df, x0, x1, bl⟩
  have sd := And.intro sz df
  clear sz df
  have bl0 := bl
  refine wp_seq ?_
  refine wr_a [.eq (.pointer none)] (by rw [sd.1]; kernel_rfl) ⟨fun hw ac u K => ?_, trivial⟩ ?_
  · exact st_assign (.const (.pointer none)) rfl rfl
  intro f1 w1 A hb
  replace x0 := A.t x0 rfl
  replace x1 := A.t x1 rfl
  replace bl := bgo bl hb
  replace sd := A.sd sd
  clear A hb
  show Code.wp _ _ _ _ _
  refine wp_seq ?_
  refine wp_seq ?_
  have h4 : n < 1 ∨ (¬ n < 1 ∧ n > 65536) ∨ (¬ n < 1 ∧ ¬ n > 65536 ∧ z < 16) ∨ (¬ n < 1 ∧ ¬ n > 65536 ∧ ¬ z < 16 ∧ z > 4096) := by omega
  rcases h4 with h4 | h4 | h4 | h4
  · skip
    refine wr_a [.eq (.int .i64 n), .eq (.bool true), .eq (.bool true), .any, .any, .eq (.bool true), .eq (.bool true), .any, .any, .eq (.bool true), .eq (.bool true), .any, .any, .eq (.bool true)] (by rw [sd.1]; kernel_rfl) ⟨fun hw ac u K => ?_, fun hw ac u K => ?_, fun hw ac u K => ?_, fun hw ac u K => ?_, fun hw ac u K => ?_, fun hw ac u K => ?_, fun hw ac u K => ?_, fun hw ac u K => ?_, fun hw ac u K => ?_, fun hw ac u K => ?_, fun hw ac u K => ?_, fun hw ac u K => ?_, fun hw ac u K => ?_, fun hw ac u K => ?_, trivial⟩ ?_
    · exact st_move (.tmp 0) rfl (K.t x0 rfl)
    · exact st_lss 3 (.tmp 6) (.const (.int .i64 1)) rfl .i64 (n) (1) (K.dep 0 6 rfl) rfl _ (by rw [eq_comm, decide_eq_true_iff]; omega)
    · exact st_move (.tmp 7) rfl (K.dep 1 7 rfl)
    · exact (Bool.false_ne_true hw).elim
    · exact (Bool.false_ne_true hw).elim
    · exact st_pick_t (.tmp 8) (.const (.bool true)) (.tmp 10) rfl (K.dep 2 8 rfl) rfl
    · exact st_move (.tmp 11) rfl (K.dep 5 11 rfl)
    · exact (Bool.false_ne_true hw).elim
    · exact (Bool.false_ne_true hw).elim
    · exact st_pick_t (.tmp 12) (.const (.bool true)) (.tmp 14) rfl (K.dep 6 12 rfl) rfl
    · exact st_move (.tmp 15) rfl (K.dep 9 15 rfl)
    · exact (Bool.false_ne_true hw).elim
    · exact (Bool.false_ne_true hw).elim
    · exact st_pick_t (.tmp 16) (.const (.bool true)) (.tmp 18) rfl (K.dep 10 16 rfl) rfl
    intro f2 w2 A hb
    replace x0 := A.t x0 rfl
    replace x1 := A.t x1 rfl
    have x19 := A.e 13 19 rfl rfl
    replace bl := bgo bl hb
    replace sd := A.sd sd
    clear A hb
    show Code.wp _ _ _ _ _
    refine wp_cond_true x19 ?_
    refine wp_seq ?_
    refine wr_a [.eq (.pointer none)] (by rw [sd.1]; kernel_rfl) ⟨fun hw ac u K => ?_, trivial⟩ ?_
    · exact st_assign (.const (.pointer none)) rfl rfl
    intro f3 w3 A hb
    replace x0 := A.t x0 rfl
    replace x1 := A.t x1 rfl
    replace x19 := A.t x19 rfl
    have x4 := A.e 0 4 rfl rfl
    replace bl := bgo bl hb
    replace sd := A.sd sd
    clear A hb
    clear x0
    clear x1
    clear x19
    show Code.wp _ _ _ _ _
    refine wp_ret ?_
    repeat (first | with_reducible refine then_ret ?_ | with_reducible refine block_ret ?_)
    exact bodyPost_ret (v := .pointer none) (ret_slot rfl f3 _ x4 _ _) sd.2 ⟨_, rfl, rfl, bl⟩
  · skip
    refine wr_a [.eq (.int .i64 n), .eq (.bool false), .eq (.bool false), .eq (.int .i64 n), .eq (.bool true), .eq (.bool true), .eq (.bool true), .any, .any, .eq (.bool true), .eq (.bool true), .any, .any, .eq (.bool true)] (by rw [sd.1]; kernel_rfl) ⟨fun hw ac u K => ?_, fun hw ac u K => ?_, fun hw ac u K => ?_, fun hw ac u K => ?_, fun hw ac u K => ?_, fun hw ac u K => ?_, fun hw ac u K => ?_, fun hw ac u K => ?_, fun hw ac u K => ?_, fun hw ac u K => ?_, fun hw ac u K => ?_, fun hw ac u K => ?_, fun hw ac u K => ?_, fun hw ac u K => ?_, trivial⟩ ?_
    · exact st_move (.tmp 0) rfl (K.t x0 rfl)
    · exact st_lss 3 (.tmp 6) (.const (.int .i64 1)) rfl .i64 (n) (1) (K.dep 0 6 rfl) rfl _ (by rw [eq_comm, decide_eq_false_iff_not]; omega)
    · exact st_move (.tmp 7) rfl (K.dep 1 7 rfl)
    · exact st_move (.tmp 0) rfl (K.t x0 rfl)
    · exact st_gtr 3 (.tmp 9) (.const (.int .i64 65536)) rfl .i64 (n) (65536) (K.dep 3 9 rfl) rfl _ (by rw [eq_comm, decide_eq_true_iff]; omega)
    · exact st_pick_f' (.tmp 8) (.const (.bool true)) (.tmp 10) rfl (K.dep 2 8 rfl) (K.dep 4 10 rfl)
    · exact st_move (.tmp 11) rfl (K.dep 5 11 rfl)
    · exact (Bool.false_ne_true hw).elim
    · exact (Bool.false_ne_true hw).elim
    · exact st_pick_t (.tmp 12) (.const (.bool true)) (.tmp 14) rfl (K.dep 6 12 rfl) rfl
    · exact st_move (.tmp 15) rfl (K.dep 9 15 rfl)
    · exact (Bool.false_ne_true hw).elim
    · exact (Bool.false_ne_true hw).elim
    · exact st_pick_t (.tmp 16) (.const (.bool true)) (.tmp 18) rfl (K.dep 10 16 rfl) rfl
    intro f2 w2 A hb
    replace x0 := A.t x0 rfl
    replace x1 := A.t x1 rfl
    have x19 := A.e 13 19 rfl rfl
    replace bl := bgo bl hb
    replace sd := A.sd sd
    clear A hb
    show Code.wp _ _ _ _ _
    refine wp_cond_true x19 ?_
    refine wp_seq ?_
    refine wr_a [.eq (.pointer none)] (by rw [sd.1]; kernel_rfl) ⟨fun hw ac u K => ?_, trivial⟩ ?_
    · exact st_assign (.const (.pointer none)) rfl rfl
    intro f3 w3 A hb
    replace x0 := A.t x0 rfl
    replace x1 := A.t x1 rfl
    replace x19 := A.t x19 rfl
    have x4 := A.e 0 4 rfl rfl
    replace bl := bgo bl hb
    replace sd := A.sd sd
    clear A hb
    clear x0
    clear x1
    clear x19
    show Code.wp _ _ _ _ _
    refine wp_ret ?_
    repeat (first | with_reducible refine then_ret ?_ | with_reducible refine block_ret ?_)
    exact bodyPost_ret (v := .pointer none) (ret_slot rfl f3 _ x4 _ _) sd.2 ⟨_, rfl, rfl, bl⟩
  · skip
    refine wr_a [.eq (.int .i64 n), .eq (.bool false), .eq (.bool false), .eq (.int .i64 n), .eq (.bool false), .eq (.bool false), .eq (.bool false), .eq (.int .i64 z), .eq (.bool true), .eq (.bool true), .eq (.bool true), .any, .any, .eq (.bool true)] (by rw [sd.1]; kernel_rfl) ⟨fun hw ac u K => ?_, fun hw ac u K => ?_, fun hw ac u K => ?_, fun hw ac u K => ?_, fun hw ac u K => ?_, fun hw ac u K => ?_, fun hw ac u K => ?_, fun hw ac u K => ?_, fun hw ac u K => ?_, fun hw ac u K => ?_, fun hw ac u K => ?_, fun hw ac u K => ?_, fun hw ac u K => ?_, fun hw ac u K => ?_, trivial⟩ ?_
    · exact st_move (.tmp 0) rfl (K.t x0 rfl)
    · exact st_lss 3 (.tmp 6) (.const (.int .i64 1)) rfl .i64 (n) (1) (K.dep 0 6 rfl) rfl _ (by rw [eq_comm, decide_eq_false_iff_not]; omega)
    · exact st_move (.tmp 7) rfl (K.dep 1 7 rfl)
    · exact st_move (.tmp 0) rfl (K.t x0 rfl)
    · exact st_gtr 3 (.tmp 9) (.const (.int .i64 65536)) rfl .i64 (n) (65536) (K.dep 3 9 rfl) rfl _ (by rw [eq_comm, decide_eq_false_iff_not]; omega)
    · exact st_pick_f' (.tmp 8) (.const (.bool true)) (.tmp 10) rfl (K.dep 2 8 rfl) (K.dep 4 10 rfl)
    · exact st_move (.tmp 11) rfl (K.dep 5 11 rfl)
    · exact st_move (.tmp 1) rfl (K.t x1 rfl)
    · exact st_lss 3 (.tmp 13) (.const (.int .i64 16)) rfl .i64 (z) (16) (K.dep 7 13 rfl) rfl _ (by rw [eq_comm, decide_eq_true_iff]; omega)
    · exact st_pick_f' (.tmp 12) (.const (.bool true)) (.tmp 14) rfl (K.dep 6 12 rfl) (K.dep 8 14 rfl)
    · exact st_move (.tmp 15) rfl (K.dep 9 15 rfl)
    · exact (Bool.false_ne_true hw).elim
    · exact (Bool.false_ne_true hw).elim
    · exact st_pick_t (.tmp 16) (.const (.bool true)) (.tmp 18) rfl (K.dep 10 16 rfl) rfl
    intro f2 w2 A hb
    replace x0 := A.t x0 rfl
    replace x1 := A.t x1 rfl
    have x19 := A.e 13 19 rfl rfl
    replace bl := bgo bl hb
    replace sd := A.sd sd
    clear A hb
    show Code.wp _ _ _ _ _
    refine wp_cond_true x19 ?_
    refine wp_seq ?_
    refine wr_a [.eq (.pointer none)] (by rw [sd.1]; kernel_rfl) ⟨fun hw ac u K => ?_, trivial⟩ ?_
    · exact st_assign (.const (.pointer none)) rfl rfl
    intro f3 w3 A hb
    replace x0 := A.t x0 rfl
    replace x1 := A.t x1 rfl
    replace x19 := A.t x19 rfl
    have x4 := A.e 0 4 rfl rfl
    replace bl := bgo bl hb
    replace sd := A.sd sd
    clear A hb
    clear x0
    clear x1
    clear x19
    show Code.wp _ _ _ _ _
    refine wp_ret ?_
    repeat (first | with_reducible refine then_ret ?_ | with_reducible refine block_ret ?_)
    exact bodyPost_ret (v := .pointer none) (ret_slot rfl f3 _ x4 _ _) sd.2 ⟨_, rfl, rfl, bl⟩
  refine wr_a [.eq (.int .i64 n), .eq (.bool false), .eq (.bool false), .eq (.int .i64 n), .eq (.bool false), .eq (.bool false), .eq (.bool false), .eq (.int .i64 z), .eq (.bool false), .eq (.bool false), .eq (.bool false), .eq (.int .i64 z), .eq (.bool true), .eq (.bool true)] (by rw [sd.1]; kernel_rfl) ⟨fun hw ac u K => ?_, fun hw ac u K => ?_, fun hw ac u K => ?_, fun hw ac u K => ?_, fun hw ac u K => ?_, fun hw ac u K => ?_, fun hw ac u K => ?_, fun hw ac u K => ?_, fun hw ac u K => ?_, fun hw ac u K => ?_, fun hw ac u K => ?_, fun hw ac u K => ?_, fun hw ac u K => ?_, fun hw ac u K => ?_, trivial⟩ ?_
  · exact st_move (.tmp 0) rfl (K.t x0 rfl)
  · exact st_lss 3 (.tmp 6) (.const (.int .i64 1)) rfl .i64 (n) (1) (K.dep 0 6 rfl) rfl _ (by rw [eq_comm, decide_eq_false_iff_not]; omega)
  · exact st_move (.tmp 7) rfl (K.dep 1 7 rfl)
  · exact st_move (.tmp 0) rfl (K.t x0 rfl)
  · exact st_gtr 3 (.tmp 9) (.const (.int .i64 65536)) rfl .i64 (n) (65536) (K.dep 3 9 rfl) rfl _ (by rw [eq_comm, decide_eq_false_iff_not]; omega)
  · exact st_pick_f' (.tmp 8) (.const (.bool true)) (.tmp 10) rfl (K.dep 2 8 rfl) (K.dep 4 10 rfl)
  · exact st_move (.tmp 11) rfl (K.dep 5 11 rfl)
  · exact st_move (.tmp 1) rfl (K.t x1 rfl)
  · exact st_lss 3 (.tmp 13) (.const (.int .i64 16)) rfl .i64 (z) (16) (K.dep 7 13 rfl) rfl _ (by rw [eq_comm, decide_eq_false_iff_not]; omega)
  · exact st_pick_f' (.tmp 12) (.const (.bool true)) (.tmp 14) rfl (K.dep 6 12 rfl) (K.dep 8 14 rfl)
  · exact st_move (.tmp 15) rfl (K.dep 9 15 rfl)
  · exact st_move (.tmp 1) rfl (K.t x1 rfl)
  · exact st_gtr 3 (.tmp 17) (.const (.int .i64 4096)) rfl .i64 (z) (4096) (K.dep 11 17 rfl) rfl _ (by rw [eq_comm, decide_eq_true_iff]; omega)
  · exact st_pick_f' (.tmp 16) (.const (.bool true)) (.tmp 18) rfl (K.dep 10 16 rfl) (K.dep 12 18 rfl)
  intro f2 w2 A hb
  replace x0 := A.t x0 rfl
  replace x1 := A.t x1 rfl
  have x19 := A.e 13 19 rfl rfl
  replace bl := bgo bl hb
  replace sd := A.sd sd
  clear A hb
  show Code.wp _ _ _ _ _
  refine wp_cond_true x19 ?_
  refine wp_seq ?_
  refine wr_a [.eq (.pointer none)] (by rw [sd.1]; kernel_rfl) ⟨fun hw ac u K => ?_, trivial⟩ ?_
  · exact st_assign (.const (.pointer none)) rfl rfl
  intro f3 w3 A hb
  replace x0 := A.t x0 rfl
  replace x1 := A.t x1 rfl
  replace x19 := A.t x19 rfl
  have x4 := A.e 0 4 rfl rfl
  replace bl := bgo bl hb
  replace sd := A.sd sd
  clear A hb
  clear x0
  clear x1
  clear x19
  show Code.wp _ _ _ _ _
  refine wp_ret ?_
  repeat (first | with_reducible refine then_ret ?_ | with_reducible refine block_ret ?_)
  exact bodyPost_ret (v := .pointer none) (ret_slot rfl f3 _ x4 _ _) sd.2 ⟨_, rfl, rfl, bl⟩
end Go.Proofs.Ytjdpomilifnlaaa
namespace Go.Proofs.Ytjdpomilifnlaaa
set_option maxRecDepth 100000
open Go.RowKit
open Go.Shelf Go.Maps Go.Sort
def Try.cloneM_ren : Go.Shelf.Ren := ⟨fun | 5 => 45 | 7 => 53 | n => n, fun | 23 => 58 | 25 => 3 | 3 => 29 | 4 => 4 | 20 => 20 | n => n, fun | n => n⟩
theorem Try.cloneM : Go.Proofs.SlLaysW.n5 Try.prog Try.cloneM_ren := {
  mixed := by kernel_rfl
  f5 := ⟨Try.f45.name, by decide, Try.func45.trans (congrArg some (by kernel_rfl))⟩
  f7 := Try.func53.trans (congrArg some (by kernel_rfl))
  t4 := Try.underlying4
  a4 := Try.isAgg4
  z4 := Try.sizeOf4
  v4 := Try.zeroValue4
  t20 := Try.underlying20
  a20 := Try.isAgg20
  z20 := Try.sizeOf20
  v20 := Try.zeroValue20
  t23 := Try.underlying58
  a23 := Try.isAgg58
  z23 := Try.sizeOf58
  v23 := Try.zeroValue58 }
/-- A map of its own. -/
def Fk.im (B : Nat) (l : List (Int × Value)) : Fk := .inr (.inl ⟨fun v w => ∃ b, v = .map (some b) ∧ B ≤ b ∧ Im w b l, by
  rintro v w w' ⟨b, e, h1, h2⟩ hb
  exact ⟨b, e, h1, h2.below hb⟩⟩)
/-- A row of slices of its own: the first ones are those of another row. -/
def Fk.cr (B n : Nat) (vs : Array Value) : Fk := .inr (.inl ⟨fun v w => ∃ g C vk, v = .slice (some ⟨g, 0, none⟩) n C ∧ B ≤ g ∧ w.heap[g]? = some (.cells vk 29 (0, 0)) ∧ ∀ i, i < n → vk[i]? = vs[i]?, by
  rintro v w w' ⟨g, C, vk, e, h1, h2, h3⟩ hb
  exact ⟨g, C, vk, e, h1, row_below h2 hb, h3⟩⟩)
theorem fk_mclone {w : World} {b : Nat} {l : List (Int × Value)} (him : Im w b l) {B : Nat} (hB : B ≤ w.heap.size) : Calls Try.prog 45 #[.map (some b)] w fun e w' => ∃ v, e = .returned v ∧ (Fk.im B l).f v w' ∧ Below w.heap.size w w' := by
  obtain ⟨ho, es, clock, hb, hE⟩ := him
  have h := AnyW.maps_Clone Try.cloneM b es clock w hb
  change Calls Try.prog 45 _ _ _ at h
  refine h.mono ?_
  rintro e w' ⟨rfl, rfl⟩
  exact ⟨_, rfl, ⟨_, rfl, hB, ho, es, clock, (MapKept.heap_alloc w _).1, hE⟩, (Below.refl _ w).alloc (Nat.le_refl _) _⟩
theorem fk_rclone {w : World} {sb n C : Nat} {vs : Array Value} (hp : 0 < n) (hN : n ≤ 100000) (hnv : n ≤ vs.size) (hrow : w.heap[sb]? = some (.cells vs 29 (0, 0))) (h1 : ∀ i v, i < n → vs[i]? = some v → v.oneCell' = true) {B : Nat} (hB : B ≤ w.heap.size) : Calls Try.prog 44 #[.slice (some ⟨sb, 0, none⟩) n C] w fun e w' => ∃ v, e = .returned v ∧ (Fk.cr B n vs).f v w' ∧ Below w.heap.size w w' := by
  refine (clone_rows hp hN hnv hrow h1).mono ?_
  rintro e w' ⟨g, C9, vk, rfl, q1, q2, q3, q4⟩
  exact ⟨_, rfl, ⟨g, C9, vk, rfl, Nat.le_trans hB q1, q2, q3⟩, q4⟩
theorem clp_sorted (c : List (List (BitVec 8))) (k : Nat) : (clp c k).Pairwise (fun a b => a < b) := by
  unfold clp
  refine List.Pairwise.filterMap _ (fun i j hij a ha b hb => ?_) List.pairwise_lt_range
  split at ha
  · cases ha
  · split at hb
    · cases hb
    · cases ha
      cases hb
      exact Int.ofNat_lt.2 hij
theorem Dk.keys {w : World} {g sb cb C : Nat} {pl : Int} {vs : Array Value} {l : List (Int × Value)} {M D : Nat → Prop} {s : Dst} (r : Dk w g sb cb C pl vs l M D s) : (l.map (·.1)).Perm (clp s.cch s.has.length) := by
  refine (List.perm_ext_iff_of_nodup r.im.ok.keys ((clp_sorted _ _).imp fun h e => by omega)).2 fun z => ?_
  constructor
  · intro h
    obtain ⟨p, hp, rfl⟩ := List.mem_map.1 h
    obtain ⟨i, bs, e, hi, h3, h4, _⟩ := r.key p.1 p.2 (mget_of_mem r.im.ok.keys hp)
    unfold clp
    refine List.mem_filterMap.2 ⟨i, List.mem_range.2 hi, ?_⟩
    rw [List.getD_eq_getElem?_getD, h3, e]
    rw [if_neg]
    intro e2
    replace e2 : bs = [] := e2
    rw [e2] at h4
    have := r.pos
    simp at h4
    omega
  · intro h
    unfold clp at h
    obtain ⟨i, hi, e⟩ := List.mem_filterMap.1 h
    have hi2 := List.mem_range.1 hi
    split at e
    · cases e
    · rename_i hne
      cases e
      obtain ⟨yc, hyc⟩ : ∃ y, s.cch[i]? = some y := ⟨_, List.getElem?_eq_getElem (by rw [r.cl]; exact hi2)⟩
      rw [List.getD_eq_getElem?_getD, hyc] at hne
      obtain ⟨v, hv⟩ := r.cch i yc hyc hne
      exact List.mem_map.2 ⟨_, mget_mem hv, rfl⟩
end Go.Proofs.Ytjdpomilifnlaaa
namespace Go.Proofs.Ytjdpomilifnlaaa
set_option maxRecDepth 100000
open Go.RowKit
theorem str_dec (xs ys : List (BitVec 8)) : decide (xs = ys) = decide (str xs = str ys) := by
  by_cases h : xs = ys
  · rw [h]
    simp
  · rw [decide_eq_false h, eq_comm, decide_eq_false_iff_not]
    exact fun e => h (str_inj e)
theorem fk_beq {w : World} {xa xb : List (BitVec 8)} {va vb : Value} (ha : (Fk.sl xa).f va w) (hb : (Fk.sl xb).f vb w) :
    Calls Try.prog 46 #[va, vb] w fun e w' => ∃ v, e = .returned v ∧ (Fk.eq (.bool (decide (xa = xb)))).f v w' ∧ Below w.heap.size w w' := by
  go_enter Try.func46, Try.ntmps46
  refine code_both (fun f w1 => f.tmps.size = 10 ∧ f.defers = [] ∧ f.eval (.tmp 0) = va ∧ f.eval (.tmp 1) = vb ∧ Below w.heap.size w (w1)) ⟨rfl, rfl, rfl, rfl, Below.refl _ _⟩ ?_
  rintro f0 w0 ⟨sz, df, x0, x1, bl⟩
  have sd := And.intro sz df
  clear sz df
  have bl0 := bl
  refine wp_seq ?_
  refine wr_a [.eq (.bool false)] (by rw [sd.1]; kernel_rfl) ⟨fun hw ac u K => ?_, trivial⟩ ?_
  · exact st_assign (.const (.bool false)) rfl rfl
  intro f1 w1 A hb
  replace x0 := A.t x0 rfl
  replace x1 := A.t x1 rfl
  replace bl := bgo bl hb
  replace sd := A.sd sd
  clear A hb
  show Code.wp _ _ _ _ _
  refine wp_seq ?_
  refine wr_a [.eq (va), .eq (.string (str (xa))), .eq (vb), .eq (.string (str (xb))), .eq (.bool (decide (xa = xb))), .eq (.bool (decide (xa = xb)))] (by rw [sd.1]; kernel_rfl) ⟨fun hw ac u K => ?_, fun hw ac u K => ?_, fun hw ac u K => ?_, fun hw ac u K => ?_, fun hw ac u K => ?_, fun hw ac u K => ?_, trivial⟩ ?_
  · exact st_move (.tmp 0) rfl (K.t x0 rfl)
  · exact st_stra (.tmp 5) rfl (fk_val (K.dep 0 5 rfl) (Fk.mono _ _ _ _ ha (bgo bl K.grow)))
  · exact st_move (.tmp 1) rfl (K.t x1 rfl)
  · exact st_stra (.tmp 7) rfl (fk_val (K.dep 2 7 rfl) (Fk.mono _ _ _ _ hb (bgo bl K.grow)))
  · exact st_eqs (.tmp 6) (.tmp 8) rfl (str (xa)) (str (xb)) (K.dep 1 6 rfl) (K.dep 3 8 rfl) _ (str_dec _ _)
  · exact st_assign (.tmp 9) rfl (K.dep 4 9 rfl)
  intro f2 w2 A hb
  replace x0 := A.t x0 rfl
  replace x1 := A.t x1 rfl
  have x4 := A.e 5 4 rfl rfl
  replace bl := bgo bl hb
  replace sd := A.sd sd
  clear A hb
  clear x0
  clear x1
  show Code.wp _ _ _ _ _
  refine wp_ret ?_
  repeat (first | with_reducible refine then_ret ?_ | with_reducible refine block_ret ?_)
  exact bodyPost_ret (v := .bool (decide (xa = xb))) (ret_slot rfl f2 _ x4 _ _) sd.2 ⟨_, rfl, rfl, bl⟩
theorem Dk.copied {w : World} {gd sb cb C : Nat} {pl : Int} {vs : Array Value} {l : List (Int × Value)} {M D : Nat → Prop} {s : Dst} (r : Dk w gd sb cb C pl vs l M D s) {w' : World} (hb : Below w.heap.size w w') {gc sc cc C2 : Nat} {vk : Array Value} (m : Ob w' gc 63 [.int .i64 (s.size : Int), .slice (some ⟨sc, 0, none⟩) s.has.length C2, .map (some cc), .int .i64 pl, .bool s.down, .int .i64 (s.done : Int)]) (hrow : w'.heap[sc]? = some (.cells vk 29 (0, 0))) (hvk : ∀ i, i < s.has.length → vk[i]? = vs[i]?) (him : Im w' cc l) (h1 : w.heap.size ≤ gc) (h2 : w.heap.size ≤ sc) (h3 : w.heap.size ≤ cc) (n1 : gc ≠ sc) (n2 : gc ≠ cc) (n3 : sc ≠ cc) :
    ∃ MC E : Nat → Prop, HD w' gc MC E s ∧ (∀ j, MC j → w.heap.size ≤ j) ∧ (∀ j, E j → ¬ M j) ∧ (∀ j, E j → D j ∨ w.heap.size ≤ j) := by
  have hk : ∀ j, D j ∧ ¬ M j → j < w.heap.size → w'.heap[j]? = w.heap[j]? := fun j _ h => hb.block j h
  have hlt : ∀ j, M j → j < w.heap.size := fun j q => r.lt j (r.sub j q)
  have hN : ∀ j, (D j ∧ ¬ M j) → j < w.heap.size → ((j = gc ∨ j = sc ∨ j = cc) ∨ (D j ∧ ¬ M j)) ∧ ¬ (j = gc ∨ j = sc ∨ j = cc) := fun j q h => ⟨.inr q, by omega⟩
  refine ⟨fun j => j = gc ∨ j = sc ∨ j = cc, fun j => (j = gc ∨ j = sc ∨ j = cc) ∨ (D j ∧ ¬ M j), ⟨sc, cc, C2, pl, vk, l, fun j => Iff.rfl, n1, n2, n3, fun j q => .inl q, fun j q => ?_, m, hrow, him, r.pw, r.pos, r.zmax, r.nmax, r.cl, fun i bs q => ?_, fun k v q => ?_, r.cch⟩, fun j q => by rcases q with rfl | rfl | rfl <;> assumption, fun j q q2 => ?_, fun j q => ?_⟩
  · rcases q with (rfl | rfl | rfl) | q
    · exact m.lt
    · exact (Array.getElem?_eq_some_iff.1 hrow).1
    · exact him.lt
    · exact Nat.lt_of_lt_of_le (r.lt j q.1) hb.size
  · obtain ⟨q1, v, q2, q3⟩ := r.sec i bs q
    exact ⟨q1, v, (hvk i (List.getElem?_eq_some_iff.1 q).1).trans q2, q3.keep hk hb.size hN⟩
  · obtain ⟨i, bs, q1, q2, q3, q4, q5⟩ := r.key k v q
    exact ⟨i, bs, q1, q2, q3, q4, q5.keep hk hb.size hN⟩
  · have := hlt j q2
    rcases q with q | q
    · omega
    · exact q.2 q2
  · rcases q with (rfl | rfl | rfl) | q
    · exact .inr h1
    · exact .inr h2
    · exact .inr h3
    · exact .inl q.1
theorem Dk.one {w : World} {g sb cb C : Nat} {pl : Int} {vs : Array Value} {l : List (Int × Value)} {M D : Nat → Prop} {s : Dst} (r : Dk w g sb cb C pl vs l M D s) : ∀ i v, i < s.has.length → vs[i]? = some v → v.oneCell' = true := fun i v hi hv => by
  obtain ⟨_, u, h2, h3⟩ := r.sec i _ (List.getElem?_eq_getElem hi)
  rw [hv] at h2
  cases h2
  exact h3.one
theorem fk_dcopy {w : World} {gd : Nat} {M D : Nat → Prop} {s : Dst} (hd : HD w gd M D s) (h60 : s.has.length ≤ 100000) :
    Calls Try.prog 21 #[.pointer (some ⟨gd, 0, none⟩)] w fun e w' => ∃ (gc : Nat) (MC C : Nat → Prop), e = .returned (.pointer (some ⟨gc, 0, none⟩)) ∧ HD w' gc MC C s ∧ (∀ j, MC j → w.heap.size ≤ j) ∧ (∀ j, C j → ¬ M j) ∧ (∀ j, C j → D j ∨ w.heap.size ≤ j) ∧ Below w.heap.size w w' := by
  obtain ⟨sb, cb, C, pl, vs, l, r⟩ := hd
  have m0 := r.ob
  have hnm := r.nmax
  go_enter Try.func21, Try.ntmps21
  refine code_both (fun f w1 => f.tmps.size = 19 ∧ f.defers = [] ∧ f.eval (.tmp 0) = .pointer (some ⟨gd, 0, none⟩) ∧ Below w.heap.size w (w1)) ⟨rfl, rfl, rfl, Below.refl _ _⟩ ?_
  rintro f0 w0 ⟨sz, df, x0, bl⟩
  have sd := And.intro sz df
  clear sz df
  have bl0 := bl
  refine wp_seq ?_
  refine wr_a [.eq (.pointer none)] (by rw [sd.1]; kernel_rfl) ⟨fun hw ac u K => ?_, trivial⟩ ?_
  · exact st_assign (.const (.pointer none)) rfl rfl
  intro f1 w1 A hb
  replace x0 := A.t x0 rfl
  replace bl := bgo bl hb
  replace sd := A.sd sd
  clear A hb
  show Code.wp _ _ _ _ _
  refine wp_seq ?_
  refine wr_s [.eq (.pointer (some ⟨gd, 0, none⟩)), .eq (.pointer (some ⟨gd, 0, none⟩)), .eq (.agg ([.int .i64 (s.size : Int), .slice (some ⟨sb, 0, none⟩) s.has.length C, .map (some cb), .int .i64 pl, .bool s.down, .int .i64 (s.done : Int)] : List Value).toArray), .nw w1.heap.size 63 [.int .i64 0, .slice none 0 0, .map none, .int .i64 0, .bool false, .int .i64 0]] (by rw [sd.1]; kernel_rfl) ⟨fun hw ac u K => ?_, fun hw ac u K => ?_, fun hw ac u K => ?_, fun hw ac u K => ?_, trivial⟩ ?_
  · exact st_move (.tmp 0) rfl (K.t x0 rfl)
  · exact st_nil (.tmp 4) rfl (K.dep 0 4 rfl)
  · exact st_loadz 63 (.tmp 5) rfl (gd) 0 [.int .i64 (s.size : Int), .slice (some ⟨sb, 0, none⟩) s.has.length C, .map (some cb), .int .i64 pl, .bool s.down, .int .i64 (s.done : Int)] (by kernel_rfl) (by kernel_rfl) (K.dep 1 5 rfl) (Ob.range (Ob.below m0 (bgo bl K.grow)) 0 _ (fun j v hj => by simpa using hj))
  · exact st_alloc 63 rfl _ _ (by kernel_rfl) K.grow.size
  intro f2 w2 A hb
  replace bl0 := bl
  replace x0 := A.t x0 rfl
  have x3 : Fk.f (.nw w1.heap.size 63 [.int .i64 0, .slice none 0 0, .map none, .int .i64 0, .bool false, .int .i64 0]) (f2.eval (.tmp 3)) w2 := A.has 3 3 rfl
  have x6 := A.e 2 6 rfl rfl
  replace bl := bgo bl hb
  replace sd := A.sd sd
  clear A hb
  obtain ⟨g3, hg3, e3, m3⟩ := x3
  have x3 := e3
  clear e3
  have nm0_3 : gd ≠ g3 := Nat.ne_of_lt (Nat.lt_of_lt_of_le (Ob.lt m0) (Nat.le_trans bl0.size hg3))
  have hw3 : w.heap.size ≤ g3 := Nat.le_trans bl0.size hg3
  refine wl_str rfl 63 (.tmp 3) (.tmp 6) rfl rfl (g3) ([.int .i64 (s.size : Int), .slice (some ⟨sb, 0, none⟩) s.has.length C, .map (some cb), .int .i64 pl, .bool s.down, .int .i64 (s.done : Int)] : List Value).toArray x3 x6 63 _ m3 (by kernel_rfl) (by kernel_rfl) (by kernel_rfl) ?_
  replace m3 : Ob (w2.setRow g3 ([.int .i64 (s.size : Int), .slice (some ⟨sb, 0, none⟩) s.has.length C, .map (some cb), .int .i64 pl, .bool s.down, .int .i64 (s.done : Int)] : List Value).toArray) (g3) 63 ([.int .i64 (s.size : Int), .slice (some ⟨sb, 0, none⟩) s.has.length C, .map (some cb), .int .i64 pl, .bool s.down, .int .i64 (s.done : Int)]) := Ob.setRow m3 ([.int .i64 (s.size : Int), .slice (some ⟨sb, 0, none⟩) s.has.length C, .map (some cb), .int .i64 pl, .bool s.down, .int .i64 (s.done : Int)])
  replace bl : Below w.heap.size w (w2.setRow g3 ([.int .i64 (s.size : Int), .slice (some ⟨sb, 0, none⟩) s.has.length C, .map (some cb), .int .i64 pl, .bool s.down, .int .i64 (s.done : Int)] : List Value).toArray) := bl.trans (below_setRow _ _ _ _ hw3)
  generalize w2.setRow g3 ([.int .i64 (s.size : Int), .slice (some ⟨sb, 0, none⟩) s.has.length C, .map (some cb), .int .i64 pl, .bool s.down, .int .i64 (s.done : Int)] : List Value).toArray = w3b at bl m3 ⊢
  refine wpList_nil ?_
  clear x6
  show Code.wp _ _ _ _ _
  refine wp_seq ?_
  have hlm := Ob.lt m3
  refine wr_s [.eq (.pointer (some ⟨gd, 0, none⟩)), .eq (.pointer (some ⟨gd, 0, none⟩)), .eq (.pointer (some ⟨gd, 1, none⟩)), .eq (.slice (some ⟨sb, 0, none⟩) s.has.length C), .cr w3b.heap.size s.has.length vs, .eq (.pointer (some ⟨g3, 1, none⟩))] (by rw [sd.1]; kernel_rfl) ⟨fun hw ac u K => ?_, fun hw ac u K => ?_, fun hw ac u K => ?_, fun hw ac u K => ?_, fun hw ac u K => ?_, fun hw ac u K => ?_, trivial⟩ ?_
  · exact st_move (.tmp 0) rfl (K.t x0 rfl)
  · exact st_nil (.tmp 7) rfl (K.dep 0 7 rfl)
  · exact st_field 63 1 (.tmp 8) rfl (K.dep 1 8 rfl) (by kernel_rfl)
  · exact st_loadc 56 (.tmp 9) rfl (by kernel_rfl) (K.dep 2 9 rfl) (Ob.cell (Ob.below m0 (bgo bl K.grow)) 1 rfl)
  · exact st_call 44 (.func 44) _ _ _ rfl rfl (one_arg (K.dep 3 10 rfl)) Try.enter44 (fk_rclone hnm.1 (by omega) (by obtain ⟨q1, v, q2, q3⟩ := r.sec _ _ (List.getElem?_eq_getElem (show s.has.length - 1 < s.has.length by omega)); have := (Array.getElem?_eq_some_iff.1 q2).1; omega) (row_below r.row (bgo bl K.grow)) r.one K.grow.size)
  · exact st_field 63 1 (.tmp 3) rfl (K.t x3 rfl) (by kernel_rfl)
  intro f4 w4 A hb
  replace x0 := A.t x0 rfl
  replace x3 := A.t x3 rfl
  have x11 : Fk.f (.cr w3b.heap.size s.has.length vs) (f4.eval (.tmp 11)) w4 := A.has 4 11 rfl
  have x12 := A.e 5 12 rfl rfl
  replace m3 := Ob.below m3 hb
  replace bl := bgo bl hb
  replace sd := A.sd sd
  clear A hb
  obtain ⟨sc, C2, vk, e11, hsc, hrw, hvk⟩ := x11
  replace x11 := e11
  clear e11
  have nn1 : g3 ≠ sc := by omega
  have hwsc : w.heap.size ≤ sc := by have := hw3; omega
  refine wl_stc 56 rfl (.tmp 12) (.tmp 11) rfl rfl (by kernel_rfl) (g3) 1 (.slice (some ⟨sc, 0, none⟩) s.has.length C2) x12 x11 rfl rfl (Ob.there m3 1 (by simp)) ?_
  replace hrw := row_only hrw ((Only.refl g3 _).setCell 1 (.slice (some ⟨sc, 0, none⟩) s.has.length C2)) nn1.symm
  replace m3 : Ob (w4.setCell ⟨g3, 1, none⟩ (.slice (some ⟨sc, 0, none⟩) s.has.length C2)) (g3) 63 ([.int .i64 (s.size : Int), .slice (some ⟨sc, 0, none⟩) s.has.length C2, .map (some cb), .int .i64 pl, .bool s.down, .int .i64 (s.done : Int)]) := Ob.set m3 1 (.slice (some ⟨sc, 0, none⟩) s.has.length C2)
  replace bl : Below w.heap.size w (w4.setCell ⟨g3, 1, none⟩ (.slice (some ⟨sc, 0, none⟩) s.has.length C2)) := bl.trans (below_setCell _ _ _ _ _ hw3)
  generalize w4.setCell ⟨g3, 1, none⟩ (.slice (some ⟨sc, 0, none⟩) s.has.length C2) = w5b at bl m3 hrw ⊢
  clear hsc hlm
  refine wpList_nil ?_
  clear x11
  clear x12
  show Code.wp _ _ _ _ _
  refine wp_seq ?_
  have hlm := Ob.lt m3
  have hls := (Array.getElem?_eq_some_iff.1 hrw).1
  refine wr_s [.eq (.pointer (some ⟨gd, 0, none⟩)), .eq (.pointer (some ⟨gd, 0, none⟩)), .eq (.pointer (some ⟨gd, 2, none⟩)), .eq (.map (some cb)), .im w5b.heap.size l, .eq (.pointer (some ⟨g3, 2, none⟩))] (by rw [sd.1]; kernel_rfl) ⟨fun hw ac u K => ?_, fun hw ac u K => ?_, fun hw ac u K => ?_, fun hw ac u K => ?_, fun hw ac u K => ?_, fun hw ac u K => ?_, trivial⟩ ?_
  · exact st_move (.tmp 0) rfl (K.t x0 rfl)
  · exact st_nil (.tmp 13) rfl (K.dep 0 13 rfl)
  · exact st_field 63 2 (.tmp 14) rfl (K.dep 1 14 rfl) (by kernel_rfl)
  · exact st_loadc 58 (.tmp 15) rfl (by kernel_rfl) (K.dep 2 15 rfl) (Ob.cell (Ob.below m0 (bgo bl K.grow)) 2 rfl)
  · exact st_call 45 (.func 45) _ _ _ rfl rfl (one_arg (K.dep 3 16 rfl)) Try.enter45 (fk_mclone (Im.below r.im (bgo bl K.grow)) K.grow.size)
  · exact st_field 63 2 (.tmp 3) rfl (K.t x3 rfl) (by kernel_rfl)
  intro f6 w6 A hb
  replace x0 := A.t x0 rfl
  replace x3 := A.t x3 rfl
  have x17 : Fk.f (.im w5b.heap.size l) (f6.eval (.tmp 17)) w6 := A.has 4 17 rfl
  have x18 := A.e 5 18 rfl rfl
  replace m3 := Ob.below m3 hb
  replace hrw := row_below hrw hb
  replace bl := bgo bl hb
  replace sd := A.sd sd
  clear A hb
  clear x0
  obtain ⟨cc, e17, hcc, himc⟩ := x17
  replace x17 := e17
  clear e17
  have nn2 : g3 ≠ cc := by omega
  have nn3 : sc ≠ cc := by omega
  have hwcc : w.heap.size ≤ cc := by omega
  refine wl_stc 58 rfl (.tmp 18) (.tmp 17) rfl rfl (by kernel_rfl) (g3) 2 (.map (some cc)) x18 x17 rfl rfl (Ob.there m3 2 (by simp)) ?_
  replace hrw := row_only hrw ((Only.refl g3 _).setCell 2 (.map (some cc))) nn1.symm
  replace himc := himc.only ((Only.refl g3 _).setCell 2 (.map (some cc))) nn2.symm
  replace m3 : Ob (w6.setCell ⟨g3, 2, none⟩ (.map (some cc))) (g3) 63 ([.int .i64 (s.size : Int), .slice (some ⟨sc, 0, none⟩) s.has.length C2, .map (some cc), .int .i64 pl, .bool s.down, .int .i64 (s.done : Int)]) := Ob.set m3 2 (.map (some cc))
  replace bl : Below w.heap.size w (w6.setCell ⟨g3, 2, none⟩ (.map (some cc))) := bl.trans (below_setCell _ _ _ _ _ hw3)
  generalize w6.setCell ⟨g3, 2, none⟩ (.map (some cc)) = w7b at bl m3 hrw himc ⊢
  clear hcc hlm hls
  refine wpList_nil ?_
  clear x17
  clear x18
  show Code.wp _ _ _ _ _
  refine wp_seq ?_
  refine wr_a [.eq (.pointer (some ⟨g3, 0, none⟩))] (by rw [sd.1]; kernel_rfl) ⟨fun hw ac u K => ?_, trivial⟩ ?_
  · exact st_assign (.tmp 3) rfl (K.t x3 rfl)
  intro f8 w8 A hb
  replace x3 := A.t x3 rfl
  have x2 := A.e 0 2 rfl rfl
  replace m3 := Ob.below m3 hb
  replace hrw := row_below hrw hb
  replace himc := Im.below himc hb
  replace bl := bgo bl hb
  replace sd := A.sd sd
  clear A hb
  clear x3
  show Code.wp _ _ _ _ _
  refine wp_ret ?_
  repeat (first | with_reducible refine then_ret ?_ | with_reducible refine block_ret ?_)
  obtain ⟨MC, E, q1, q2, q3, q4⟩ := r.copied bl m3 hrw hvk himc hw3 hwsc hwcc nn1 nn2 nn3
  exact bodyPost_ret (v := .pointer (some ⟨g3, 0, none⟩)) (ret_slot rfl f8 _ x2 _ _) sd.2 ⟨g3, MC, E, rfl, q1, q2, q3, q4, bl⟩
end Go.Proofs.Ytjdpomilifnlaaa
namespace Go.Proofs.Ytjdpomilifnlaaa
set_option maxRecDepth 100000
open Go.RowKit
theorem oi_at {B : Nat} {l : List Int} {v : Value} {w : World} (h : (Fk.oi B l).f v w) : ∃ A C, v = .slice A l.length C ∧ ∀ a, A = some a → B ≤ a.block ∧ a.block < w.heap.size := by
  obtain ⟨_, h2⟩ := h
  rcases h2 with ⟨e, h0⟩ | ⟨g, cap, cur, e, hB, hg, _⟩
  · exact ⟨none, 0, by rw [e, h0], fun a e => (by cases e)⟩
  · exact ⟨_, cap, e, fun a e => by cases e; exact ⟨hB, (Array.getElem?_eq_some_iff.1 hg).1⟩⟩
theorem fk_ddiffer {w : World} {gd go : Nat} {M MO D E : Nat → Prop} {s t : Dst} (hd : HD w gd M D s) (ho : HD w go MO E t) (h60 : s.has.length ≤ 100000) (_t60 : t.has.length ≤ 100000) :
    Calls Try.prog 25 #[.pointer (some ⟨gd, 0, none⟩), .pointer (some ⟨go, 0, none⟩)] w fun e w' => ∃ (A : Option Addr) (C : Nat), e = .returned (.tuple #[.slice A (dif s t).1.length C, .bool (dif s t).2]) ∧ (Fk.is (dif s t).1).f (.slice A (dif s t).1.length C) w' ∧ (∀ a, A = some a → w.heap.size ≤ a.block ∧ a.block < w'.heap.size) ∧ Below w.heap.size w w' := by
  have hd0 := hd
  have ho0 := ho
  obtain ⟨sb, cb, C, pl, vs, l, r⟩ := hd
  have m0 := r.ob
  have hnm := r.nmax
  obtain ⟨sb2, cb2, C2, pl2, vs2, l2, r2⟩ := ho
  have m2 := r2.ob
  go_enter Try.func25, Try.ntmps25
  refine code_both (fun f w1 => f.tmps.size = 46 ∧ f.defers = [] ∧ f.eval (.tmp 0) = .pointer (some ⟨gd, 0, none⟩) ∧ f.eval (.tmp 1) = .pointer (some ⟨go, 0, none⟩) ∧ Below w.heap.size w (w1)) ⟨rfl, rfl, rfl, rfl, Below.refl _ _⟩ ?_
  rintro f0 w0 ⟨sz, df, x0, x1, bl⟩
  have sd := And.intro sz df
  clear sz df
  have bl0 := bl
  refine wp_seq ?_
  refine wr_a [.eq (.slice none 0 0), .eq (.bool false)] (by rw [sd.1]; kernel_rfl) ⟨fun hw ac u K => ?_, fun hw ac u K => ?_, trivial⟩ ?_
  · exact st_assign (.const (.slice none 0 0)) rfl rfl
  · exact st_assign (.const (.bool false)) rfl rfl
  intro f1 w1 A hb
  replace x0 := A.t x0 rfl
  replace x1 := A.t x1 rfl
  replace bl := bgo bl hb
  replace sd := A.sd sd
  clear A hb
  show Code.wp _ _ _ _ _
  refine wp_seq ?_
  refine wp_seq ?_
  by_cases hl : s.has.length = t.has.length
  rotate_left
  · skip
    refine wr_d [.eq (.pointer (some ⟨gd, 0, none⟩)), .eq (.int .i64 (s.has.length : Int)), .eq (.pointer (some ⟨go, 0, none⟩)), .eq (.int .i64 (t.has.length : Int)), .eq (.bool true), .eq (.bool true), .any, .any, .any, .any, .any, .any, .any, .any, .any, .eq (.bool true)] Try.mixed (by rw [sd.1]; kernel_rfl) ⟨fun hw ac u K => ?_, fun hw ac u K => ?_, fun hw ac u K => ?_, fun hw ac u K => ?_, fun hw ac u K => ?_, fun hw ac u K => ?_, fun hw ac u K => ?_, fun hw ac u K => ?_, fun hw ac u K => ?_, fun hw ac u K => ?_, fun hw ac u K => ?_, fun hw ac u K => ?_, fun hw ac u K => ?_, fun hw ac u K => ?_, fun hw ac u K => ?_, fun hw ac u K => ?_, trivial⟩ ?_
    · exact st_move (.tmp 0) rfl (K.t x0 rfl)
    · exact st_call 33 (.func 33) _ _ _ rfl rfl (one_arg (K.dep 0 8 rfl)) Try.enter33 (fk_dsectors (HD.below hd0 (bgo bl K.grow)))
    · exact st_move (.tmp 1) rfl (K.t x1 rfl)
    · exact st_call 33 (.func 33) _ _ _ rfl rfl (one_arg (K.dep 2 10 rfl)) Try.enter33 (fk_dsectors (HD.below ho0 (bgo bl K.grow)))
    · exact st_neqi 3 (.tmp 9) (.tmp 11) rfl .i64 ((s.has.length : Int)) ((t.has.length : Int)) (K.dep 1 9 rfl) (K.dep 3 11 rfl) _ (by rw [eq_comm, decide_eq_true_iff]; omega)
    · exact st_move (.tmp 12) rfl (K.dep 4 12 rfl)
    · exact (Bool.false_ne_true hw).elim
    · exact (Bool.false_ne_true hw).elim
    · exact (Bool.false_ne_true hw).elim
    · exact (Bool.false_ne_true hw).elim
    · exact (Bool.false_ne_true hw).elim
    · exact (Bool.false_ne_true hw).elim
    · exact (Bool.false_ne_true hw).elim
    · exact (Bool.false_ne_true hw).elim
    · exact (Bool.false_ne_true hw).elim
    · exact st_pick_t (.tmp 13) (.const (.bool true)) (.tmp 22) rfl (K.dep 5 13 rfl) rfl
    intro f2 w2 A hb
    replace x0 := A.t x0 rfl
    replace x1 := A.t x1 rfl
    have x23 := A.e 15 23 rfl rfl
    replace bl := bgo bl hb
    replace sd := A.sd sd
    clear A hb
    show Code.wp _ _ _ _ _
    refine wp_cond_true x23 ?_
    refine wp_seq ?_
    refine wr_a [.eq (.slice none 0 0), .eq (.bool false)] (by rw [sd.1]; kernel_rfl) ⟨fun hw ac u K => ?_, fun hw ac u K => ?_, trivial⟩ ?_
    · exact st_assign (.const (.slice none 0 0)) rfl rfl
    · exact st_assign (.const (.bool false)) rfl rfl
    intro f3 w3 A hb
    replace x0 := A.t x0 rfl
    replace x1 := A.t x1 rfl
    replace x23 := A.t x23 rfl
    have x4 := A.e 0 4 rfl rfl
    have x5 := A.e 1 5 rfl rfl
    replace bl := bgo bl hb
    replace sd := A.sd sd
    clear A hb
    clear x0
    clear x1
    clear x23
    show Code.wp _ _ _ _ _
    refine wp_ret ?_
    repeat (first | with_reducible refine then_ret ?_ | with_reducible refine block_ret ?_)
    exact bodyPost_ret (v := .tuple #[.slice none 0 0, .bool false]) (ret_two rfl f3 _ _ x4 x5 _ _) sd.2 (by unfold dif; rw [if_neg (fun h => hl h.1)]; exact ⟨none, 0, rfl, oi_is (oi_nil 0 _), fun a e => (by cases e), bl⟩)
  by_cases hz : s.size = t.size
  rotate_left
  · skip
    refine wr_d [.eq (.pointer (some ⟨gd, 0, none⟩)), .eq (.int .i64 (s.has.length : Int)), .eq (.pointer (some ⟨go, 0, none⟩)), .eq (.int .i64 (t.has.length : Int)), .eq (.bool false), .eq (.bool false), .eq (.pointer (some ⟨gd, 0, none⟩)), .eq (.pointer (some ⟨gd, 0, none⟩)), .eq (.pointer (some ⟨gd, 0, none⟩)), .eq (.int .i64 (s.size : Int)), .eq (.pointer (some ⟨go, 0, none⟩)), .eq (.pointer (some ⟨go, 0, none⟩)), .eq (.pointer (some ⟨go, 0, none⟩)), .eq (.int .i64 (t.size : Int)), .eq (.bool true), .eq (.bool true)] Try.mixed (by rw [sd.1]; kernel_rfl) ⟨fun hw ac u K => ?_, fun hw ac u K => ?_, fun hw ac u K => ?_, fun hw ac u K => ?_, fun hw ac u K => ?_, fun hw ac u K => ?_, fun hw ac u K => ?_, fun hw ac u K => ?_, fun hw ac u K => ?_, fun hw ac u K => ?_, fun hw ac u K => ?_, fun hw ac u K => ?_, fun hw ac u K => ?_, fun hw ac u K => ?_, fun hw ac u K => ?_, fun hw ac u K => ?_, trivial⟩ ?_
    · exact st_move (.tmp 0) rfl (K.t x0 rfl)
    · exact st_call 33 (.func 33) _ _ _ rfl rfl (one_arg (K.dep 0 8 rfl)) Try.enter33 (fk_dsectors (HD.below hd0 (bgo bl K.grow)))
    · exact st_move (.tmp 1) rfl (K.t x1 rfl)
    · exact st_call 33 (.func 33) _ _ _ rfl rfl (one_arg (K.dep 2 10 rfl)) Try.enter33 (fk_dsectors (HD.below ho0 (bgo bl K.grow)))
    · exact st_neqi 3 (.tmp 9) (.tmp 11) rfl .i64 ((s.has.length : Int)) ((t.has.length : Int)) (K.dep 1 9 rfl) (K.dep 3 11 rfl) _ (by rw [hl]; simp)
    · exact st_move (.tmp 12) rfl (K.dep 4 12 rfl)
    · exact st_move (.tmp 0) rfl (K.t x0 rfl)
    · exact st_nil (.tmp 14) rfl (K.dep 6 14 rfl)
    · exact st_field 63 0 (.tmp 15) rfl (K.dep 7 15 rfl) (by kernel_rfl)
    · exact st_loadc 3 (.tmp 16) rfl (by kernel_rfl) (K.dep 8 16 rfl) (Ob.cell (Ob.below m0 (bgo bl K.grow)) 0 rfl)
    · exact st_move (.tmp 1) rfl (K.t x1 rfl)
    · exact st_nil (.tmp 18) rfl (K.dep 10 18 rfl)
    · exact st_field 63 0 (.tmp 19) rfl (K.dep 11 19 rfl) (by kernel_rfl)
    · exact st_loadc 3 (.tmp 20) rfl (by kernel_rfl) (K.dep 12 20 rfl) (Ob.cell (Ob.below m2 (bgo bl K.grow)) 0 rfl)
    · exact st_neqi 3 (.tmp 17) (.tmp 21) rfl .i64 ((s.size : Int)) ((t.size : Int)) (K.dep 9 17 rfl) (K.dep 13 21 rfl) _ (by rw [eq_comm, decide_eq_true_iff]; omega)
    · exact st_pick_f' (.tmp 13) (.const (.bool true)) (.tmp 22) rfl (K.dep 5 13 rfl) (K.dep 14 22 rfl)
    intro f2 w2 A hb
    replace x0 := A.t x0 rfl
    replace x1 := A.t x1 rfl
    have x23 := A.e 15 23 rfl rfl
    replace bl := bgo bl hb
    replace sd := A.sd sd
    clear A hb
    show Code.wp _ _ _ _ _
    refine wp_cond_true x23 ?_
    refine wp_seq ?_
    refine wr_a [.eq (.slice none 0 0), .eq (.bool false)] (by rw [sd.1]; kernel_rfl) ⟨fun hw ac u K => ?_, fun hw ac u K => ?_, trivial⟩ ?_
    · exact st_assign (.const (.slice none 0 0)) rfl rfl
    · exact st_assign (.const (.bool false)) rfl rfl
    intro f3 w3 A hb
    replace x0 := A.t x0 rfl
    replace x1 := A.t x1 rfl
    replace x23 := A.t x23 rfl
    have x4 := A.e 0 4 rfl rfl
    have x5 := A.e 1 5 rfl rfl
    replace bl := bgo bl hb
    replace sd := A.sd sd
    clear A hb
    clear x0
    clear x1
    clear x23
    show Code.wp _ _ _ _ _
    refine wp_ret ?_
    repeat (first | with_reducible refine then_ret ?_ | with_reducible refine block_ret ?_)
    exact bodyPost_ret (v := .tuple #[.slice none 0 0, .bool false]) (ret_two rfl f3 _ _ x4 x5 _ _) sd.2 (by unfold dif; rw [if_neg (fun h => hz h.2)]; exact ⟨none, 0, rfl, oi_is (oi_nil 0 _), fun a e => (by cases e), bl⟩)
  refine wr_d [.eq (.pointer (some ⟨gd, 0, none⟩)), .eq (.int .i64 (s.has.length : Int)), .eq (.pointer (some ⟨go, 0, none⟩)), .eq (.int .i64 (t.has.length : Int)), .eq (.bool false), .eq (.bool false), .eq (.pointer (some ⟨gd, 0, none⟩)), .eq (.pointer (some ⟨gd, 0, none⟩)), .eq (.pointer (some ⟨gd, 0, none⟩)), .eq (.int .i64 (s.size : Int)), .eq (.pointer (some ⟨go, 0, none⟩)), .eq (.pointer (some ⟨go, 0, none⟩)), .eq (.pointer (some ⟨go, 0, none⟩)), .eq (.int .i64 (t.size : Int)), .eq (.bool false), .eq (.bool false)] Try.mixed (by rw [sd.1]; kernel_rfl) ⟨fun hw ac u K => ?_, fun hw ac u K => ?_, fun hw ac u K => ?_, fun hw ac u K => ?_, fun hw ac u K => ?_, fun hw ac u K => ?_, fun hw ac u K => ?_, fun hw ac u K => ?_, fun hw ac u K => ?_, fun hw ac u K => ?_, fun hw ac u K => ?_, fun hw ac u K => ?_, fun hw ac u K => ?_, fun hw ac u K => ?_, fun hw ac u K => ?_, fun hw ac u K => ?_, trivial⟩ ?_
  · exact st_move (.tmp 0) rfl (K.t x0 rfl)
  · exact st_call 33 (.func 33) _ _ _ rfl rfl (one_arg (K.dep 0 8 rfl)) Try.enter33 (fk_dsectors (HD.below hd0 (bgo bl K.grow)))
  · exact st_move (.tmp 1) rfl (K.t x1 rfl)
  · exact st_call 33 (.func 33) _ _ _ rfl rfl (one_arg (K.dep 2 10 rfl)) Try.enter33 (fk_dsectors (HD.below ho0 (bgo bl K.grow)))
  · exact st_neqi 3 (.tmp 9) (.tmp 11) rfl .i64 ((s.has.length : Int)) ((t.has.length : Int)) (K.dep 1 9 rfl) (K.dep 3 11 rfl) _ (by rw [hl]; simp)
  · exact st_move (.tmp 12) rfl (K.dep 4 12 rfl)
  · exact st_move (.tmp 0) rfl (K.t x0 rfl)
  · exact st_nil (.tmp 14) rfl (K.dep 6 14 rfl)
  · exact st_field 63 0 (.tmp 15) rfl (K.dep 7 15 rfl) (by kernel_rfl)
  · exact st_loadc 3 (.tmp 16) rfl (by kernel_rfl) (K.dep 8 16 rfl) (Ob.cell (Ob.below m0 (bgo bl K.grow)) 0 rfl)
  · exact st_move (.tmp 1) rfl (K.t x1 rfl)
  · exact st_nil (.tmp 18) rfl (K.dep 10 18 rfl)
  · exact st_field 63 0 (.tmp 19) rfl (K.dep 11 19 rfl) (by kernel_rfl)
  · exact st_loadc 3 (.tmp 20) rfl (by kernel_rfl) (K.dep 12 20 rfl) (Ob.cell (Ob.below m2 (bgo bl K.grow)) 0 rfl)
  · exact st_neqi 3 (.tmp 17) (.tmp 21) rfl .i64 ((s.size : Int)) ((t.size : Int)) (K.dep 9 17 rfl) (K.dep 13 21 rfl) _ (by rw [hz]; simp)
  · exact st_pick_f' (.tmp 13) (.const (.bool true)) (.tmp 22) rfl (K.dep 5 13 rfl) (K.dep 14 22 rfl)
  intro f2 w2 A hb
  replace x0 := A.t x0 rfl
  replace x1 := A.t x1 rfl
  have x23 := A.e 15 23 rfl rfl
  replace bl := bgo bl hb
  replace sd := A.sd sd
  clear A hb
  show Code.wp _ _ _ _ _
  refine wp_cond_false x23 ?_
  refine wp_skip ?_
  show Code.wp _ _ _ _ _
  refine wp_seq ?_
  refine wr_a [.oi w.heap.size []] (by rw [sd.1]; kernel_rfl) ⟨fun hw ac u K => ?_, trivial⟩ ?_
  · exact st_assign (.const (.slice none 0 0)) rfl (oi_nil _ _)
  intro f3 w3 A hb
  replace x0 := A.t x0 rfl
  replace x1 := A.t x1 rfl
  replace x23 := A.t x23 rfl
  have x6 : Fk.f (.oi w.heap.size []) (f3.eval (.tmp 6)) w3 := A.has 0 6 rfl
  replace bl := bgo bl hb
  replace sd := A.sd sd
  clear A hb
  clear x23
  show Code.wp _ _ _ _ _
  refine wp_seq ?_
  refine wp_seq ?_
  obtain ⟨pp, hpp⟩ : ∃ pp : Nat → Bool, pp = (fun i => decide (nowd s i ≠ nowd t i)) := ⟨_, rfl⟩
  have hpp0 : fil pp 0 = [] := rfl
  refine wr_a [.eq (.pointer (some ⟨gd, 0, none⟩)), .eq (.pointer (some ⟨gd, 0, none⟩)), .eq (.pointer (some ⟨gd, 1, none⟩)), .eq (.slice (some ⟨sb, 0, none⟩) s.has.length C), .eq (.int .i64 (s.has.length : Int)), .eq (.int .i64 0)] (by rw [sd.1]; kernel_rfl) ⟨fun hw ac u K => ?_, fun hw ac u K => ?_, fun hw ac u K => ?_, fun hw ac u K => ?_, fun hw ac u K => ?_, fun hw ac u K => ?_, trivial⟩ ?_
  · exact st_move (.tmp 0) rfl (K.t x0 rfl)
  · exact st_nil (.tmp 24) rfl (K.dep 0 24 rfl)
  · exact st_field 63 1 (.tmp 25) rfl (K.dep 1 25 rfl) (by kernel_rfl)
  · exact st_loadc 56 (.tmp 26) rfl (by kernel_rfl) (K.dep 2 26 rfl) (Ob.cell (Ob.below m0 (bgo bl K.grow)) 1 rfl)
  · exact st_lenrr (.tmp 27) rfl (K.dep 3 27 rfl)
  · exact st_move (.const (.int .i64 0)) rfl rfl
  intro f4 w4 A hb
  replace x0 := A.t x0 rfl
  replace x1 := A.t x1 rfl
  replace x6 := f_at (A.old 6 rfl) (Fk.mono _ _ _ _ x6 hb)
  have x28 := A.e 4 28 rfl rfl
  have x29 := A.e 5 29 rfl rfl
  replace bl := bgo bl hb
  replace sd := A.sd sd
  clear A hb
  show Code.wp _ _ _ _ _
  refine wp_block ?_
  refine wp_loop (fun f v1 => ∃ k : Nat, k ≤ s.has.length ∧ f.tmps.size = 46 ∧ f.defers = [] ∧ f.eval (.tmp 0) = .pointer (some ⟨gd, 0, none⟩) ∧ f.eval (.tmp 1) = .pointer (some ⟨go, 0, none⟩) ∧ f.eval (.tmp 28) = .int .i64 (s.has.length : Int) ∧ f.eval (.tmp 29) = .int .i64 (k : Int) ∧ Fk.f (.oi w.heap.size (fil pp k)) (f.eval (.tmp 6)) v1 ∧ Below w.heap.size w (v1)) (fun f _ => s.has.length - (intOf (f.eval (.tmp 29))).toNat) ⟨0, Nat.zero_le _, sd.1, sd.2, x0, x1, x28, x29, (by rw [hpp0]; exact x6), bl⟩ ?_
  intro f5 w5 hI
  clear sd bl bl0 x0 x1 x6 x28 x29
  obtain ⟨k, hk9, sz, df, x0, x1, x28, x29, x6, bl⟩ := hI
  have sd := And.intro sz df
  clear sz df
  have bl0 := bl
  have hcnt := x29
  refine wp_seq ?_
  by_cases hlt : k < s.has.length
  rotate_left
  · skip
    have hk8 : k = s.has.length := by omega
    refine wr_a [.eq (.bool false)] (by rw [sd.1]; kernel_rfl) ⟨fun hw ac u K => ?_, trivial⟩ ?_
    · exact st_lss 3 (.tmp 29) (.tmp 28) rfl .i64 ((k : Int)) ((s.has.length : Int)) (K.t x29 rfl) (K.t x28 rfl) _ (by rw [eq_comm, decide_eq_false_iff_not]; omega)
    intro f6 w6 A hb
    replace x0 := A.t x0 rfl
    replace x1 := A.t x1 rfl
    replace x6 := f_at (A.old 6 rfl) (Fk.mono _ _ _ _ x6 hb)
    replace x28 := A.t x28 rfl
    replace x29 := A.t x29 rfl
    have x30 := A.e 0 30 rfl rfl
    replace bl := bgo bl hb
    replace sd := A.sd sd
    clear A hb
    show Code.wp _ _ _ _ _
    refine wp_seq ?_
    refine wp_cond_false x30 ?_
    refine wp_exit ?_
    show Code.wp _ _ _ _ _
    refine wp_seq ?_
    refine wr_a [.oi w.heap.size (fil pp k), .oi w.heap.size (fil pp k), .eq (.bool true)] (by rw [sd.1]; kernel_rfl) ⟨fun hw ac u K => ?_, fun hw ac u K => ?_, fun hw ac u K => ?_, trivial⟩ ?_
    · exact st_move (.tmp 6) rfl (f_at (K.old 6 rfl) (Fk.mono _ _ _ _ x6 K.grow))
    · exact st_assign (.tmp 45) rfl (K.dep 0 45 rfl)
    · exact st_assign (.const (.bool true)) rfl rfl
    intro f7 w7 A hb
    replace x0 := A.t x0 rfl
    replace x1 := A.t x1 rfl
    replace x6 := f_at (A.old 6 rfl) (Fk.mono _ _ _ _ x6 hb)
    replace x28 := A.t x28 rfl
    replace x29 := A.t x29 rfl
    replace x30 := A.t x30 rfl
    have x4 : Fk.f (.oi w.heap.size (fil pp k)) (f7.eval (.tmp 4)) w7 := A.has 1 4 rfl
    have x5 := A.e 2 5 rfl rfl
    replace bl := bgo bl hb
    replace sd := A.sd sd
    clear A hb
    clear x30
    show Code.wp _ _ _ _ _
    refine wp_ret ?_
    repeat (first | with_reducible refine then_ret ?_ | with_reducible refine block_ret ?_)
    obtain ⟨A, C, e4, hA⟩ := oi_at x4
    exact bodyPost_ret (v := .tuple #[.slice A (fil pp k).length C, .bool true]) (ret_two rfl f7 _ _ e4 x5 _ _) sd.2 (by unfold dif; rw [if_pos ⟨hl, hz⟩, ← hpp, ← hk8]; exact ⟨A, C, rfl, by have := oi_is x4; rw [e4] at this; exact this, hA, bl⟩)
  refine wr_a [.eq (.bool true)] (by rw [sd.1]; kernel_rfl) ⟨fun hw ac u K => ?_, trivial⟩ ?_
  · exact st_lss 3 (.tmp 29) (.tmp 28) rfl .i64 ((k : Int)) ((s.has.length : Int)) (K.t x29 rfl) (K.t x28 rfl) _ (by rw [eq_comm, decide_eq_true_iff]; omega)
  intro f6 w6 A hb
  replace x0 := A.t x0 rfl
  replace x1 := A.t x1 rfl
  replace x6 := f_at (A.old 6 rfl) (Fk.mono _ _ _ _ x6 hb)
  replace x28 := A.t x28 rfl
  replace x29 := A.t x29 rfl
  have x30 := A.e 0 30 rfl rfl
  replace bl := bgo bl hb
  replace sd := A.sd sd
  clear A hb
  show Code.wp _ _ _ _ _
  refine wp_seq ?_
  refine wp_cond_true x30 ?_
  refine wp_skip ?_
  show Code.wp _ _ _ _ _
  refine wp_seq ?_
  refine wp_block ?_
  refine wp_seq ?_
  refine wr_a [.eq (.int .i64 (k : Int)), .eq (.int .i64 (k : Int))] (by rw [sd.1]; kernel_rfl) ⟨fun hw ac u K => ?_, fun hw ac u K => ?_, trivial⟩ ?_
  · exact st_move (.tmp 29) rfl (K.t x29 rfl)
  · exact st_assign (.tmp 31) rfl (K.dep 0 31 rfl)
  intro f7 w7 A hb
  replace x0 := A.t x0 rfl
  replace x1 := A.t x1 rfl
  replace x6 := f_at (A.old 6 rfl) (Fk.mono _ _ _ _ x6 hb)
  replace x28 := A.t x28 rfl
  replace x29 := A.t x29 rfl
  replace x30 := A.t x30 rfl
  have x7 := A.e 1 7 rfl rfl
  replace bl := bgo bl hb
  replace sd := A.sd sd
  clear A hb
  clear x30
  show Code.wp _ _ _ _ _
  refine wp_seq ?_
  have hkt : k < t.has.length := by omega
  by_cases hq : nowd s k = nowd t k
  rotate_left
  · skip
    have hfk : fil pp (k + 1) = fil pp k ++ [(k : Int)] := fil_yes (by rw [hpp]; simp [hq])
    have hfl := fil_le pp k
    refine wr_a [.eq (.pointer (some ⟨gd, 0, none⟩)), .eq (.int .i64 (k : Int)), .sl (nowd s k), .eq (.pointer (some ⟨go, 0, none⟩)), .eq (.int .i64 (k : Int)), .sl (nowd t k), .eq (.bool false), .eq (.bool true)] (by rw [sd.1]; kernel_rfl) ⟨fun hw ac u K => ?_, fun hw ac u K => ?_, fun hw ac u K => ?_, fun hw ac u K => ?_, fun hw ac u K => ?_, fun hw ac u K => ?_, fun hw ac u K => ?_, fun hw ac u K => ?_, trivial⟩ ?_
    · exact st_move (.tmp 0) rfl (K.t x0 rfl)
    · exact st_move (.tmp 7) rfl (K.t x7 rfl)
    · exact st_call 39 (.func 39) _ _ _ rfl rfl (arg2 (K.dep 0 32 rfl) (K.dep 1 33 rfl)) Try.enter39 (fk_dat (HD.below hd0 (bgo bl K.grow)) hlt)
    · exact st_move (.tmp 1) rfl (K.t x1 rfl)
    · exact st_move (.tmp 7) rfl (K.t x7 rfl)
    · exact st_call 39 (.func 39) _ _ _ rfl rfl (arg2 (K.dep 3 35 rfl) (K.dep 4 36 rfl)) Try.enter39 (fk_dat (HD.below ho0 (bgo bl K.grow)) hkt)
    · exact st_call 46 (.func 46) _ _ _ rfl rfl (arg2 rfl rfl) Try.enter46 ((show Calls Try.prog 46 #[ac.eval (.tmp 34), ac.eval (.tmp 37)] u (fun e w' => ∃ v, e = .returned v ∧ (Fk.eq (.bool false)).f v w' ∧ Below u.heap.size u w') from by have := fk_beq (K.dep 2 34 rfl) (K.dep 5 37 rfl); rw [decide_eq_false hq] at this; exact this))
    · exact st_not (.tmp 38) rfl false (K.dep 6 38 rfl)
    intro f8 w8 A hb
    replace x0 := A.t x0 rfl
    replace x1 := A.t x1 rfl
    replace x6 := f_at (A.old 6 rfl) (Fk.mono _ _ _ _ x6 hb)
    replace x28 := A.t x28 rfl
    replace x29 := A.t x29 rfl
    replace x7 := A.t x7 rfl
    have x39 := A.e 7 39 rfl rfl
    replace bl := bgo bl hb
    replace sd := A.sd sd
    clear A hb
    show Code.wp _ _ _ _ _
    refine wp_cond_true x39 ?_
    refine wr_s [.oi w.heap.size (fil pp k), .eq (.int .i64 (k : Int)), .oi 0 [(k : Int)]] (by rw [sd.1]; kernel_rfl) ⟨fun hw ac u K => ?_, fun hw ac u K => ?_, fun hw ac u K => ?_, trivial⟩ ?_
    · exact st_move (.tmp 6) rfl (f_at (K.old 6 rfl) (Fk.mono _ _ _ _ x6 K.grow))
    · exact st_move (.tmp 7) rfl (K.t x7 rfl)
    · exact st_bi1 (.tmp 41) rfl (k : Int) (K.dep 1 41 rfl) 0 (Nat.zero_le _)
    intro f9 w9 A hb
    replace x0 := A.t x0 rfl
    replace x1 := A.t x1 rfl
    replace x6 := f_at (A.old 6 rfl) (Fk.mono _ _ _ _ x6 hb)
    replace x28 := A.t x28 rfl
    replace x29 := A.t x29 rfl
    replace x7 := A.t x7 rfl
    replace x39 := A.t x39 rfl
    have x40 : Fk.f (.oi w.heap.size (fil pp k)) (f9.eval (.tmp 40)) w9 := A.has 0 40 rfl
    have x42 : Fk.f (.oi 0 [(k : Int)]) (f9.eval (.tmp 42)) w9 := A.has 2 42 rfl
    replace bl := bgo bl hb
    replace sd := A.sd sd
    clear A hb
    clear x7
    clear x39
    refine wl_appendi rfl (.tmp 40) (.tmp 42) rfl 43 rfl (by rw [sd.1]; decide) x40 x42 (by simp) bl (by simp only [List.length_cons, List.length_nil]; omega) ?_
    intro f10 w10 df2 sz2 old2 new2 bl2
    clear x6
    clear x40
    clear x42
    replace x0 := tr old2 x0 rfl
    replace x1 := tr old2 x1 rfl
    replace x28 := tr old2 x28 rfl
    replace x29 := tr old2 x29 rfl
    have x43 : Fk.f (.oi w.heap.size (fil pp k ++ [(k : Int)])) (f10.eval (.tmp 43)) w10 := new2
    replace bl := bl2
    replace bl0 := bl
    replace sd := sd2 sz2 df2 sd
    clear df2 sz2 old2 new2 bl2
    refine wl_one (.oi w.heap.size (fil pp k ++ [(k : Int)])) rfl 6 rfl (by rw [sd.1]; decide) (st_assign (.tmp 43) rfl x43) ?_
    intro f11 w11 df2 sz2 old2 new2 hb
    replace x0 := tr old2 x0 rfl
    replace x1 := tr old2 x1 rfl
    replace x28 := tr old2 x28 rfl
    replace x29 := tr old2 x29 rfl
    replace x43 := f_at (old2 43 rfl) (Fk.mono _ _ _ _ x43 hb)
    have x6 : Fk.f (.oi w.heap.size (fil pp k ++ [(k : Int)])) (f11.eval (.tmp 6)) w11 := new2
    replace bl := bgo bl hb
    replace sd := sd2 sz2 df2 sd
    clear df2 sz2 old2 new2 hb
    refine wpList_nil ?_
    clear x43
    show Code.wp _ _ _ _ _
    rw [← hfk] at x6
    refine wr_s [.eq (.int .i64 ((k + 1 : Nat) : Int))] (by rw [sd.1]; kernel_rfl) ⟨fun hw ac u K => ?_, trivial⟩ ?_
    · exact st_add (.tmp 29) (.const (.int .i64 1)) rfl (k) (1) (k + 1) (K.t x29 rfl) rfl (by omega) (by omega)
    intro f12 w12 A hb
    replace x0 := A.t x0 rfl
    replace x1 := A.t x1 rfl
    replace x28 := A.t x28 rfl
    replace x29 := A.t x29 rfl
    replace x6 := f_at (A.old 6 rfl) (Fk.mono _ _ _ _ x6 hb)
    have x44 := A.e 0 44 rfl rfl
    replace bl := bgo bl hb
    replace sd := A.sd sd
    clear A hb
    refine wl_one (.eq (.int .i64 ((k + 1 : Nat) : Int))) rfl 29 rfl (by rw [sd.1]; decide) (st_move (.tmp 44) rfl x44) ?_
    intro f13 w13 df2 sz2 old2 new2 hb
    replace x0 := tr old2 x0 rfl
    replace x1 := tr old2 x1 rfl
    replace x28 := tr old2 x28 rfl
    clear x29
    replace x6 := f_at (old2 6 rfl) (Fk.mono _ _ _ _ x6 hb)
    replace x44 := tr old2 x44 rfl
    have x29 := Fk.e new2
    replace bl := bgo bl hb
    replace sd := sd2 sz2 df2 sd
    clear df2 sz2 old2 new2 hb
    refine wpList_nil ?_
    clear x44
    show (∃ _, _) ∧ _
    refine ⟨⟨k + 1, by omega, sd.1, sd.2, x0, x1, x28, x29, x6, bl⟩, ?_⟩
    rw [show f13.eval (.tmp 29) = _ from x29, show _ = _ from hcnt]
    first | (simp [intOf]; done) | (simp [intOf]; omega)
  have hfk : fil pp (k + 1) = fil pp k := fil_no (by rw [hpp]; simp [hq])
  refine wr_a [.eq (.pointer (some ⟨gd, 0, none⟩)), .eq (.int .i64 (k : Int)), .sl (nowd s k), .eq (.pointer (some ⟨go, 0, none⟩)), .eq (.int .i64 (k : Int)), .sl (nowd t k), .eq (.bool true), .eq (.bool false)] (by rw [sd.1]; kernel_rfl) ⟨fun hw ac u K => ?_, fun hw ac u K => ?_, fun hw ac u K => ?_, fun hw ac u K => ?_, fun hw ac u K => ?_, fun hw ac u K => ?_, fun hw ac u K => ?_, fun hw ac u K => ?_, trivial⟩ ?_
  · exact st_move (.tmp 0) rfl (K.t x0 rfl)
  · exact st_move (.tmp 7) rfl (K.t x7 rfl)
  · exact st_call 39 (.func 39) _ _ _ rfl rfl (arg2 (K.dep 0 32 rfl) (K.dep 1 33 rfl)) Try.enter39 (fk_dat (HD.below hd0 (bgo bl K.grow)) hlt)
  · exact st_move (.tmp 1) rfl (K.t x1 rfl)
  · exact st_move (.tmp 7) rfl (K.t x7 rfl)
  · exact st_call 39 (.func 39) _ _ _ rfl rfl (arg2 (K.dep 3 35 rfl) (K.dep 4 36 rfl)) Try.enter39 (fk_dat (HD.below ho0 (bgo bl K.grow)) hkt)
  · exact st_call 46 (.func 46) _ _ _ rfl rfl (arg2 rfl rfl) Try.enter46 ((show Calls Try.prog 46 #[ac.eval (.tmp 34), ac.eval (.tmp 37)] u (fun e w' => ∃ v, e = .returned v ∧ (Fk.eq (.bool true)).f v w' ∧ Below u.heap.size u w') from by have := fk_beq (K.dep 2 34 rfl) (K.dep 5 37 rfl); rw [decide_eq_true hq] at this; exact this))
  · exact st_not (.tmp 38) rfl true (K.dep 6 38 rfl)
  intro f8 w8 A hb
  replace x0 := A.t x0 rfl
  replace x1 := A.t x1 rfl
  replace x6 := f_at (A.old 6 rfl) (Fk.mono _ _ _ _ x6 hb)
  replace x28 := A.t x28 rfl
  replace x29 := A.t x29 rfl
  replace x7 := A.t x7 rfl
  have x39 := A.e 7 39 rfl rfl
  replace bl := bgo bl hb
  replace sd := A.sd sd
  clear A hb
  show Code.wp _ _ _ _ _
  refine wp_cond_false x39 ?_
  refine wp_skip ?_
  show Code.wp _ _ _ _ _
  rw [← hfk] at x6
  refine wr_s [.eq (.int .i64 ((k + 1 : Nat) : Int))] (by rw [sd.1]; kernel_rfl) ⟨fun hw ac u K => ?_, trivial⟩ ?_
  · exact st_add (.tmp 29) (.const (.int .i64 1)) rfl (k) (1) (k + 1) (K.t x29 rfl) rfl (by omega) (by omega)
  intro f9 w9 A hb
  replace x0 := A.t x0 rfl
  replace x1 := A.t x1 rfl
  replace x6 := f_at (A.old 6 rfl) (Fk.mono _ _ _ _ x6 hb)
  replace x28 := A.t x28 rfl
  replace x29 := A.t x29 rfl
  replace x7 := A.t x7 rfl
  replace x39 := A.t x39 rfl
  have x44 := A.e 0 44 rfl rfl
  replace bl := bgo bl hb
  replace sd := A.sd sd
  clear A hb
  clear x7
  clear x39
  refine wl_one (.eq (.int .i64 ((k + 1 : Nat) : Int))) rfl 29 rfl (by rw [sd.1]; decide) (st_move (.tmp 44) rfl x44) ?_
  intro f10 w10 df2 sz2 old2 new2 hb
  replace x0 := tr old2 x0 rfl
  replace x1 := tr old2 x1 rfl
  replace x6 := f_at (old2 6 rfl) (Fk.mono _ _ _ _ x6 hb)
  replace x28 := tr old2 x28 rfl
  clear x29
  replace x44 := tr old2 x44 rfl
  have x29 := Fk.e new2
  replace bl := bgo bl hb
  replace sd := sd2 sz2 df2 sd
  clear df2 sz2 old2 new2 hb
  refine wpList_nil ?_
  clear x44
  show (∃ _, _) ∧ _
  refine ⟨⟨k + 1, by omega, sd.1, sd.2, x0, x1, x28, x29, x6, bl⟩, ?_⟩
  rw [show f10.eval (.tmp 29) = _ from x29, show _ = _ from hcnt]
  first | (simp [intOf]; done) | (simp [intOf]; omega)
end Go.Proofs.Ytjdpomilifnlaaa
namespace Go.Proofs.Ytjdpomilifnlaaa
set_option maxRecDepth 100000
open Go.RowKit
end Go.Proofs.Ytjdpomilifnlaaa
namespace Go.Proofs.Ytjdpomilifnlaaa
set_option maxRecDepth 100000
open Go.RowKit
end Go.Proofs.Ytjdpomilifnlaaa
namespace Go.Proofs.Ytjdpomilifnlaaa
set_option maxRecDepth 100000
open Go.RowKit
end Go.Proofs.Ytjdpomilifnlaaa
namespace Go.Proofs.Ytjdpomilifnlaaa
set_option maxRecDepth 100000
open Go.RowKit
end Go.Proofs.Ytjdpomilifnlaaa
namespace Go.Proofs.Ytjdpomilifnlaaa
set_option maxRecDepth 100000
open Go.RowKit
/-- A disk of n sectors of z bytes that did k commands at most. -/
structure Gd (s : Dst) (n z k : Nat) : Prop where
  has : s.has.length = n
  cch : s.cch.length = n
  size : s.size = z
  done : s.done ≤ k
  hl : ∀ y ∈ s.has, y.length ≤ z
  cl : ∀ y ∈ s.cch, y.length ≤ z
theorem gd_new (n z : Nat) : Gd (newd n z) n z 0 := ⟨List.length_replicate, List.length_replicate, rfl, Nat.le_refl _, fun y hy => by rw [List.eq_of_mem_replicate hy]; simp [zs], fun y hy => by rw [List.eq_of_mem_replicate hy]; simp⟩
theorem Gd.le {s : Dst} {n z k k' : Nat} (g : Gd s n z k) (h : k ≤ k') : Gd s n z k' := ⟨g.has, g.cch, g.size, Nat.le_trans g.done h, g.hl, g.cl⟩
theorem gd_cmd {s : Dst} {n z k : Nat} (g : Gd s n z k) : Gd (cmd s).2 n z (k + 1) := by
  unfold cmd
  split
  · exact ⟨g.has, g.cch, g.size, Nat.le_succ_of_le g.done, g.hl, g.cl⟩
  · exact ⟨g.has, g.cch, g.size, Nat.succ_le_succ g.done, g.hl, g.cl⟩
theorem set_le {l : List (List (BitVec 8))} {z : Nat} (h : ∀ y ∈ l, y.length ≤ z) (i : Nat) {b : List (BitVec 8)} (hb : b.length ≤ z) : ∀ y ∈ l.set i b, y.length ≤ z := fun y hy => by
  rcases List.mem_or_eq_of_mem_set hy with hy | rfl
  · exact h y hy
  · exact hb
theorem gd_stl {s : Dst} {n z k : Nat} (g : Gd s n z k) : Gd (stl s) n z k := by
  refine ⟨?_, ?_, g.size, g.done, fun y hy => ?_, fun y hy => ?_⟩
  · show (List.zipWith pickc s.has s.cch).length = n
    rw [List.length_zipWith, g.has, g.cch, Nat.min_self]
  · show (s.cch.map fun _ => ([] : List (BitVec 8))).length = n
    rw [List.length_map, g.cch]
  · replace hy : y ∈ List.zipWith pickc s.has s.cch := hy
    obtain ⟨i, hi, rfl⟩ := List.mem_iff_getElem.1 hy
    rw [List.getElem_zipWith]
    unfold pickc
    split
    · exact g.hl _ (List.getElem_mem _)
    · exact g.cl _ (List.getElem_mem _)
  · obtain ⟨_, _, rfl⟩ := List.mem_map.1 hy
    exact Nat.zero_le _
theorem gd_flu {s : Dst} {n z k : Nat} (g : Gd s n z k) : Gd (flu s).2 n z (k + 1) := by
  unfold flu
  split
  · exact g.le (Nat.le_succ _)
  · split
    · exact gd_stl (gd_cmd g)
    · exact gd_cmd g
theorem gd_wrt {s : Dst} {n z k : Nat} (g : Gd s n z k) (i : Int) (b : List (BitVec 8)) : Gd (wrt s i b).2 n z (k + 1) := by
  unfold wrt
  split
  · exact g.le (Nat.le_succ _)
  · split
    · exact g.le (Nat.le_succ _)
    · split
      · exact g.le (Nat.le_succ _)
      · rename_i h
        refine gd_cmd ⟨g.has, ?_, g.size, g.done, g.hl, set_le g.cl _ ?_⟩
        · show (s.cch.set i.toNat b).length = n
          rw [List.length_set, g.cch]
        · have := g.size
          omega
theorem gd_tmr {s : Dst} {n z k : Nat} (g : Gd s n z k) (i : Int) (b : List (BitVec 8)) : Gd (tmr s i b).2 n z (k + 1) := by
  unfold tmr
  split
  · exact g.le (Nat.le_succ _)
  · split
    · exact g.le (Nat.le_succ _)
    · rename_i h
      refine ⟨?_, ?_, g.size, Nat.le_succ_of_le g.done, set_le g.hl _ ?_, set_le g.cl _ (Nat.zero_le _)⟩
      · show (s.has.set i.toNat b).length = n
        rw [List.length_set, g.has]
      · show (s.cch.set i.toNat []).length = n
        rw [List.length_set, g.cch]
      · have := g.size
        omega
theorem lose_ok {z n : Nat} (l : List Int) : ∀ (c : List (List (BitVec 8))), c.length = n → (∀ y ∈ c, y.length ≤ z) → (lose c l).length = n ∧ ∀ y ∈ lose c l, y.length ≤ z := by
  unfold lose
  induction l with
  | nil => exact fun c h1 h2 => ⟨h1, h2⟩
  | cons k l ih =>
    intro c h1 h2
    rw [List.foldl_cons]
    split
    · exact ih _ (by rw [List.length_set]; exact h1) (set_le h2 _ (Nat.zero_le _))
    · exact ih _ h1 h2
theorem gd_crs {s : Dst} {n z k : Nat} (g : Gd s n z k) (l : List Int) : Gd (crs s l) n z k := by
  obtain ⟨h1, h2⟩ := lose_ok l s.cch g.cch g.cl
  have q := gd_stl (s := { s with cch := lose s.cch l }) ⟨g.has, h1, g.size, g.done, g.hl, h2⟩
  exact ⟨q.has, q.cch, q.size, q.done, q.hl, q.cl⟩
theorem full_sl (c : BitVec 8) (w : World) : Calls Try.prog 29 #[V c] w fun e w' => ∃ v, e = .returned v ∧ (Fk.sl (List.replicate 16 c)).f v w' ∧ Below w.heap.size w w' := by
  refine (fk_full c w).mono ?_
  rintro e w' ⟨g, rfl, hg, hm, hb⟩
  refine ⟨_, rfl, ⟨_, _, 16, g, 0, rfl, by rw [List.length_replicate], Nat.le_refl _, (fun e => by cases e), fun _ => ⟨rfl, Ob.lt hm, Ob.bytes (T := 5) (cs := []) (by rw [List.append_nil]; exact hm)⟩⟩, hb⟩
end Go.Proofs.Ytjdpomilifnlaaa
