/- Contracts: New. Contracts: Cached; layings of the shelf. Contracts: Copy. Contracts: Differ. -/
import Derived.Test.YtjdpomilifnlaaaM9
import Derived.Shelf.SlGeneric
import Derived.Shelf.SlMaps.Clone
import Derived.Shelf.SlIterI.Nil
import Derived.Shelf.SortM.Plain
import Derived.Shelf.SortM.SortNone
import Derived.Ground.GgzProg
import Derived.Ground.SlgmProg
import Derived.Ground.SlmcProg
namespace Go.Proofs.Ytjdpomilifnlaaa
set_option maxRecDepth 100000
open Go.RowKit
theorem Try.bldRq (a : Option Addr) (n c : Nat) (w : World) : (Instr.buildSlice 56 1 #[(0, .slice a n c)]).run Try.prog w = .ok (.slice (some ⟨w.heap.size, 0, none⟩) 1 1) (w.alloc (.cells #[.slice a n c] 29)) := by kernel_rfl
theorem hd_new {w : World} {gd sb cb gB N Z : Nat} (m : Ob w gd 63 [.int .i64 (Z : Int), .slice (some ⟨sb, 0, none⟩) N N, .map (some cb), .int .i64 (-1), .bool false, .int .i64 0]) (mR : Ob w sb 29 (List.replicate N (.slice (some ⟨gB, 0, none⟩) Z Z))) (him : Im w cb []) (mB : Ob w gB 5 ((zs Z).map V)) (n1 : gd ≠ sb) (n2 : gd ≠ cb) (n3 : sb ≠ cb) (b1 : gB ≠ gd) (b2 : gB ≠ sb) (b3 : gB ≠ cb) (h1 : 1 ≤ N) (h2 : N ≤ 65536) (h3 : 16 ≤ Z) (h4 : Z ≤ 4096) :
    HD w gd (fun j => j = gd ∨ j = sb ∨ j = cb) (fun j => (j = gd ∨ j = sb ∨ j = cb) ∨ j = gB) (newd N Z) := by
  have hzl : (zs Z).length = Z := List.length_replicate
  refine ⟨sb, cb, N, -1, _, [], fun j => Iff.rfl, n1, n2, n3, fun j q => .inl q, fun j q => ?_, ?_, mR, him, ⟨rfl, fun h => absurd h (by decide), by decide⟩, ?_, h4, ?_, ?_, fun i bs q => ?_, fun k v q => (by cases q), fun i bs q h => ?_⟩
  · rcases q with (rfl | rfl | rfl) | rfl
    · exact m.lt
    · exact mR.lt
    · exact him.lt
    · exact mB.lt
  · show Ob w gd _ [_, .slice _ (List.replicate N (zs Z)).length _, _, _, _, _]
    rw [List.length_replicate]
    exact m
  · show 0 < Z
    omega
  · show 0 < (List.replicate N (zs Z)).length ∧ (List.replicate N (zs Z)).length ≤ 65536
    rw [List.length_replicate]
    omega
  · show (List.replicate N ([] : List (BitVec 8))).length = (List.replicate N (zs Z)).length
    rw [List.length_replicate, List.length_replicate]
  · replace q : (List.replicate N (zs Z))[i]? = some bs := q
    rw [List.getElem?_replicate] at q
    split at q
    · rename_i hi
      cases q
      refine ⟨hzl, .slice (some ⟨gB, 0, none⟩) Z Z, ?_, gB, Z, 0, by rw [hzl], by rw [hzl]; exact Nat.le_refl _, by rw [hzl]; omega, ⟨.inr rfl, by omega⟩, mB.lt, Ob.bytes (T := 5) (cs := []) (by rw [List.append_nil]; exact mB)⟩
      rw [List.getElem?_toArray, List.getElem?_replicate, if_pos hi]
    · cases q
  · replace q : (List.replicate N ([] : List (BitVec 8)))[i]? = some bs := q
    rw [List.getElem?_replicate] at q
    split at q
    · cases q
      exact absurd rfl h
    · cases q
theorem fk_dnew {N Z : Nat} (h1 : 1 ≤ N) (h2 : N ≤ 65536) (h3 : 16 ≤ Z) (h4 : Z ≤ 4096) (w : World) :
    Calls Try.prog 8 #[.int .i64 (N : Int), .int .i64 (Z : Int)] w fun e w' => ∃ (gd : Nat) (M D : Nat → Prop), e = .returned (.pointer (some ⟨gd, 0, none⟩)) ∧ HD w' gd M D (newd N Z) ∧ (∀ j, D j → w.heap.size ≤ j) ∧ Below w.heap.size w w' := by
  go_enter Try.func8, Try.ntmps8
  refine code_both (fun f w1 => f.tmps.size = 31 ∧ f.defers = [] ∧ f.eval (.tmp 0) = .int .i64 (N : Int) ∧ f.eval (.tmp 1) = .int .i64 (Z : Int) ∧ Below w.heap.size w (w1)) ⟨rfl, rfl, rfl, rfl, Below.refl _ _⟩ ?_
  rintro f0 w0 ⟨sz, df, x0, x1, bl⟩
  have sd := And.intro sz df
  clear sz df
  have bl0 := bl
  refine wp_seq ?_
  refine wr_a [.eq (.pointer none)] (by rw [sd.1]; kernel_rfl) ⟨fun hw ac u K => ?_, trivial⟩ ?_
  · exact st_assign (.const (.pointer none)) rfl rfl
  intro f1 w1 A hb
  replace x0 := A.t x0 rfl
  replace x1 := A.t x1 rfl
  replace bl := bgo bl hb
  replace sd := A.sd sd
  clear A hb
  show Code.wp _ _ _ _ _
  refine wp_seq ?_
  refine wp_seq ?_
  refine wr_a [.eq (.int .i64 (N : Int)), .eq (.bool false), .eq (.bool false), .eq (.int .i64 (N : Int)), .eq (.bool false), .eq (.bool false), .eq (.bool false), .eq (.int .i64 (Z : Int)), .eq (.bool false), .eq (.bool false), .eq (.bool false), .eq (.int .i64 (Z : Int)), .eq (.bool false), .eq (.bool false)] (by rw [sd.1]; kernel_rfl) ⟨fun hw ac u K => ?_, fun hw ac u K => ?_, fun hw ac u K => ?_, fun hw ac u K => ?_, fun hw ac u K => ?_, fun hw ac u K => ?_, fun hw ac u K => ?_, fun hw ac u K => ?_, fun hw ac u K => ?_, fun hw ac u K => ?_, fun hw ac u K => ?_, fun hw ac u K => ?_, fun hw ac u K => ?_, fun hw ac u K => ?_, trivial⟩ ?_
  · exact st_move (.tmp 0) rfl (K.t x0 rfl)
  · exact st_lss 3 (.tmp 6) (.const (.int .i64 1)) rfl .i64 ((N : Int)) (1) (K.dep 0 6 rfl) rfl _ (by rw [eq_comm, decide_eq_false_iff_not]; omega)
  · exact st_move (.tmp 7) rfl (K.dep 1 7 rfl)
  · exact st_move (.tmp 0) rfl (K.t x0 rfl)
  · exact st_gtr 3 (.tmp 9) (.const (.int .i64 65536)) rfl .i64 ((N : Int)) (65536) (K.dep 3 9 rfl) rfl _ (by rw [eq_comm, decide_eq_false_iff_not]; omega)
  · exact st_pick_f' (.tmp 8) (.const (.bool true)) (.tmp 10) rfl (K.dep 2 8 rfl) (K.dep 4 10 rfl)
  · exact st_move (.tmp 11) rfl (K.dep 5 11 rfl)
  · exact st_move (.tmp 1) rfl (K.t x1 rfl)
  · exact st_lss 3 (.tmp 13) (.const (.int .i64 16)) rfl .i64 ((Z : Int)) (16) (K.dep 7 13 rfl) rfl _ (by rw [eq_comm, decide_eq_false_iff_not]; omega)
  · exact st_pick_f' (.tmp 12) (.const (.bool true)) (.tmp 14) rfl (K.dep 6 12 rfl) (K.dep 8 14 rfl)
  · exact st_move (.tmp 15) rfl (K.dep 9 15 rfl)
  · exact st_move (.tmp 1) rfl (K.t x1 rfl)
  · exact st_gtr 3 (.tmp 17) (.const (.int .i64 4096)) rfl .i64 ((Z : Int)) (4096) (K.dep 11 17 rfl) rfl _ (by rw [eq_comm, decide_eq_false_iff_not]; omega)
  · exact st_pick_f' (.tmp 16) (.const (.bool true)) (.tmp 18) rfl (K.dep 10 16 rfl) (K.dep 12 18 rfl)
  intro f2 w2 A hb
  replace x0 := A.t x0 rfl
  replace x1 := A.t x1 rfl
  have x19 := A.e 13 19 rfl rfl
  replace bl := bgo bl hb
  replace sd := A.sd sd
  clear A hb
  show Code.wp _ _ _ _ _
  refine wp_cond_false x19 ?_
  refine wp_skip ?_
  show Code.wp _ _ _ _ _
  refine wp_seq ?_
  refine wr_s [.eq (.int .i64 (Z : Int))] (by rw [sd.1]; kernel_rfl) ⟨fun hw ac u K => ?_, trivial⟩ ?_
  · exact st_move (.tmp 1) rfl (K.t x1 rfl)
  intro f3 w3 A hb
  replace x0 := A.t x0 rfl
  replace x1 := A.t x1 rfl
  replace x19 := A.t x19 rfl
  have x20 := A.e 0 20 rfl rfl
  replace bl := bgo bl hb
  replace sd := A.sd sd
  clear A hb
  clear x19
  refine wl_makeB rfl _ _ rfl 21 rfl (by rw [sd.1]; decide) Z (by omega) x20 x20 ?_
  intro f4 w4 gB df2 sz2 old2 x21 hggB mgB hb
  replace x0 := tr old2 x0 rfl
  replace x1 := tr old2 x1 rfl
  replace x20 := tr old2 x20 rfl
  have hwgB : w.heap.size ≤ gB := Nat.le_trans bl.size hggB
  replace bl := bgo bl hb
  replace bl0 := bl
  replace sd := sd2 sz2 df2 sd
  clear df2 sz2 old2 hb
  clear x20
  refine wl_one (.eq (.slice (some ⟨gB, 0, none⟩) Z Z)) rfl 5 rfl (by rw [sd.1]; decide) (st_assign (.tmp 21) rfl x21) ?_
  intro f5 w5 df2 sz2 old2 new2 hb
  replace x0 := tr old2 x0 rfl
  replace x1 := tr old2 x1 rfl
  replace x21 := tr old2 x21 rfl
  have x5 := Fk.e new2
  replace mgB := Ob.below mgB hb
  replace bl := bgo bl hb
  replace sd := sd2 sz2 df2 sd
  clear df2 sz2 old2 new2 hb
  refine wpList_nil ?_
  clear x21
  show Code.wp _ _ _ _ _
  refine wp_seq ?_
  refine wr_s [.eq (.int .i64 (Z : Int)), .eq (.slice (some ⟨gB, 0, none⟩) Z Z)] (by rw [sd.1]; kernel_rfl) ⟨fun hw ac u K => ?_, fun hw ac u K => ?_, trivial⟩ ?_
  · exact st_move (.tmp 1) rfl (K.t x1 rfl)
  · exact st_move (.tmp 5) rfl (K.t x5 rfl)
  intro f6 w6 A hb
  replace x0 := A.t x0 rfl
  replace x1 := A.t x1 rfl
  replace x5 := A.t x5 rfl
  have x22 := A.e 0 22 rfl rfl
  have x23 := A.e 1 23 rfl rfl
  replace mgB := Ob.below mgB hb
  replace bl := bgo bl hb
  replace sd := A.sd sd
  clear A hb
  clear x1
  clear x5
  have hb := (Below.refl w6.heap.size w6).alloc (Nat.le_refl _) (.cells #[.slice (some ⟨gB, 0, none⟩) Z Z] 29)
  have m1 : Ob (w6.alloc (.cells #[.slice (some ⟨gB, 0, none⟩) Z Z] 29)) w6.heap.size 29 [.slice (some ⟨gB, 0, none⟩) Z Z] := heap_alloc_new _ _
  refine wl_execl rfl 24 rfl (by rw [sd.1]; decide) (v := .slice (some ⟨w6.heap.size, 0, none⟩) 1 1) (w2 := w6.alloc (.cells #[.slice (some ⟨gB, 0, none⟩) Z Z] 29)) (by unfold execOp; simp [x23, Try.bldRq]) ?_
  intro f7 df2 sz2 old2 x24
  generalize w6.alloc (.cells #[.slice (some ⟨gB, 0, none⟩) Z Z] 29) = w7 at hb m1 ⊢
  obtain ⟨g1, hg1⟩ : ∃ q, q = w6.heap.size := ⟨_, rfl⟩
  rw [← hg1] at x24 m1
  clear hg1
  replace x0 := tr old2 x0 rfl
  replace x22 := tr old2 x22 rfl
  replace x23 := tr old2 x23 rfl
  replace bl := bgo bl hb
  replace bl0 := bl
  replace sd := sd2 sz2 df2 sd
  replace mgB := Ob.below mgB hb
  clear df2 sz2 old2 hb
  clear x23
  refine wl_one (.eq (.int .i64 (N : Int))) rfl 25 rfl (by rw [sd.1]; decide) (st_move (.tmp 0) rfl x0) ?_
  intro f8 w8 df2 sz2 old2 new2 hb
  replace x0 := tr old2 x0 rfl
  replace x22 := tr old2 x22 rfl
  replace x24 := tr old2 x24 rfl
  have x25 := Fk.e new2
  replace mgB := Ob.below mgB hb
  replace m1 := Ob.below m1 hb
  replace bl := bgo bl hb
  replace sd := sd2 sz2 df2 sd
  clear df2 sz2 old2 new2 hb
  clear x0
  have hlB := mgB.lt
  refine wl_call 27 (.func 27) _ _ #[.slice (some ⟨g1, 0, none⟩) 1 1, .int .i64 (N : Int)] rfl 26 rfl (by rw [sd.1]; decide) rfl rfl (two_arg x24 x25) Try.enter27 (fun u W' => ∃ sb, u = .slice (some ⟨sb, 0, none⟩) N N ∧ w8.heap.size ≤ sb ∧ Ob W' sb 29 (List.replicate N (.slice (some ⟨gB, 0, none⟩) Z Z)) ∧ Below w8.heap.size w8 W') ((fk_repeat m1 rfl h1 h2).mono (by rintro e w' ⟨sb, rfl, q⟩; exact ⟨_, rfl, sb, rfl, q⟩)) ?_
  rintro f9 w9 df2 sz2 old2 ⟨sb, x26, hsb, mR, hb⟩
  have b2 : gB ≠ sb := by omega
  have hwsb : w.heap.size ≤ sb := Nat.le_trans bl.size hsb
  clear m1 hsb hlB
  replace x22 := tr old2 x22 rfl
  replace x24 := tr old2 x24 rfl
  replace x25 := tr old2 x25 rfl
  replace bl := bgo bl hb
  replace bl0 := bl
  replace sd := sd2 sz2 df2 sd
  replace mgB := Ob.below mgB hb
  clear df2 sz2 old2 hb
  clear x24
  clear x25
  have hlB := mgB.lt
  have hlR := mR.lt
  have hrun := (run_makeI (P := Try.prog) (t := 58) w9).1
  have him := (run_makeI (P := Try.prog) (t := 58) w9).2
  have hb := (Below.refl w9.heap.size w9).alloc (Nat.le_refl _) (.map #[] 0)
  refine wl_execl rfl 27 rfl (by rw [sd.1]; decide) (v := .map (some w9.heap.size)) (w2 := w9.alloc (.map #[] 0)) (by unfold execOp; simp [hrun]) ?_
  intro f10 df2 sz2 old2 x27
  generalize w9.alloc (.map #[] 0) = w10 at hb him ⊢
  obtain ⟨cb, hcb⟩ : ∃ q, q = w9.heap.size := ⟨_, rfl⟩
  rw [← hcb] at x27 him hlB hlR
  have b3 : gB ≠ cb := by omega
  have hwcb : w.heap.size ≤ cb := by have := bl.size; omega
  have n3 : sb ≠ cb := by omega
  clear hcb hrun hlB hlR
  replace x22 := tr old2 x22 rfl
  replace x26 := tr old2 x26 rfl
  replace bl := bgo bl hb
  replace bl0 := bl
  replace sd := sd2 sz2 df2 sd
  replace mgB := Ob.below mgB hb
  replace mR := Ob.below mR hb
  clear df2 sz2 old2 hb
  refine wl_one (.eq (.agg #[.int .i64 (-1), .bool false])) rfl 28 rfl (by rw [sd.1]; decide) (st_call 28 (.func 28) _ _ #[] rfl rfl rfl Try.enter28 ((fk_endless _).mono (by rintro e w' ⟨rfl, q⟩; exact ⟨_, rfl, rfl, q⟩))) ?_
  intro f11 w11 df2 sz2 old2 new2 hb
  replace x22 := tr old2 x22 rfl
  replace x26 := tr old2 x26 rfl
  replace x27 := tr old2 x27 rfl
  have x28 := Fk.e new2
  replace mgB := Ob.below mgB hb
  replace mR := Ob.below mR hb
  replace him := Im.below him hb
  replace bl := bgo bl hb
  replace sd := sd2 sz2 df2 sd
  clear df2 sz2 old2 new2 hb
  refine wl_one (.eq (.agg ([.int .i64 (Z : Int), .slice (some ⟨sb, 0, none⟩) N N, .map (some cb), .int .i64 (-1), .bool false, .int .i64 0] : List Value).toArray)) rfl 29 rfl (by rw [sd.1]; decide) (st_build 63 _ rfl (by simp only [List.map_toArray, List.map_cons, List.map_nil, x22, x26, x27, x28]; kernel_rfl)) ?_
  intro f12 w12 df2 sz2 old2 new2 hb
  replace x22 := tr old2 x22 rfl
  replace x26 := tr old2 x26 rfl
  replace x27 := tr old2 x27 rfl
  replace x28 := tr old2 x28 rfl
  have x29 := Fk.e new2
  replace mgB := Ob.below mgB hb
  replace mR := Ob.below mR hb
  replace him := Im.below him hb
  replace bl := bgo bl hb
  replace sd := sd2 sz2 df2 sd
  clear df2 sz2 old2 new2 hb
  clear x22
  clear x26
  clear x27
  clear x28
  have hlB := mgB.lt
  have hlR := mR.lt
  have hlC := him.lt
  have hw0 := bl.size
  refine wl_one (.nw w12.heap.size 63 ([.int .i64 (Z : Int), .slice (some ⟨sb, 0, none⟩) N N, .map (some cb), .int .i64 (-1), .bool false, .int .i64 0] : List Value)) rfl 30 rfl (by rw [sd.1]; decide) (st_box 63 (.tmp 29) rfl _ _ (by rw [show _ = _ from x29]; kernel_rfl) (Nat.le_refl _)) ?_
  intro f13 w13 df2 sz2 old2 new2 hb
  replace bl0 := bl
  replace x29 := tr old2 x29 rfl
  have x30 : Fk.f (.nw w12.heap.size 63 ([.int .i64 (Z : Int), .slice (some ⟨sb, 0, none⟩) N N, .map (some cb), .int .i64 (-1), .bool false, .int .i64 0] : List Value)) (f13.eval (.tmp 30)) w13 := new2
  replace mgB := Ob.below mgB hb
  replace mR := Ob.below mR hb
  replace him := Im.below him hb
  replace bl := bgo bl hb
  replace sd := sd2 sz2 df2 sd
  clear df2 sz2 old2 new2 hb
  obtain ⟨g30, hg30, e30, m30⟩ := x30
  have x30 := e30
  clear e30
  have hw30 : w.heap.size ≤ g30 := Nat.le_trans bl0.size hg30
  have nn1 : g30 ≠ sb := by omega
  have nn2 : g30 ≠ cb := by omega
  have nb1 : gB ≠ g30 := by omega
  clear hlB hlR hlC hw0
  have hnw : ∀ j, ((j = g30 ∨ j = sb ∨ j = cb) ∨ j = gB) → w.heap.size ≤ j := fun j q => by rcases q with (rfl | rfl | rfl) | rfl <;> omega
  clear x29
  refine wl_one (.eq (.pointer (some ⟨g30, 0, none⟩))) rfl 4 rfl (by rw [sd.1]; decide) (st_assign (.tmp 30) rfl x30) ?_
  intro f14 w14 df2 sz2 old2 new2 hb
  replace x30 := tr old2 x30 rfl
  have x4 := Fk.e new2
  replace m30 := Ob.below m30 hb
  replace mgB := Ob.below mgB hb
  replace mR := Ob.below mR hb
  replace him := Im.below him hb
  replace bl := bgo bl hb
  replace sd := sd2 sz2 df2 sd
  clear df2 sz2 old2 new2 hb
  refine wpList_nil ?_
  clear x30
  show Code.wp _ _ _ _ _
  refine wp_ret ?_
  repeat (first | with_reducible refine then_ret ?_ | with_reducible refine block_ret ?_)
  exact bodyPost_ret (v := .pointer (some ⟨g30, 0, none⟩)) (ret_slot rfl f14 _ x4 _ _) sd.2 ⟨g30, _, _, rfl, hd_new m30 mR him mgB nn1 nn2 n3 nb1 b2 b3 h1 h2 h3 h4, hnw, bl⟩
end Go.Proofs.Ytjdpomilifnlaaa
namespace Go.Proofs.Ytjdpomilifnlaaa
set_option maxRecDepth 100000
open Go.RowKit
open Go.Shelf Go.Maps Go.Sort
def Try.cloneM_ren : Go.Shelf.Ren := ⟨fun | 5 => 45 | 7 => 53 | n => n, fun | 23 => 58 | 25 => 3 | 3 => 29 | 4 => 4 | 20 => 20 | n => n, fun | n => n⟩
theorem Try.cloneM : Go.Proofs.SlLaysW.n5 Try.prog Try.cloneM_ren := {
  mixed := by kernel_rfl
  f5 := ⟨Try.f45.name, by decide, Try.func45.trans (congrArg some (by kernel_rfl))⟩
  f7 := Try.func53.trans (congrArg some (by kernel_rfl))
  t4 := Try.underlying4
  a4 := Try.isAgg4
  z4 := Try.sizeOf4
  v4 := Try.zeroValue4
  t20 := Try.underlying20
  a20 := Try.isAgg20
  z20 := Try.sizeOf20
  v20 := Try.zeroValue20
  t23 := Try.underlying58
  a23 := Try.isAgg58
  z23 := Try.sizeOf58
  v23 := Try.zeroValue58 }
def Try.keysA_ren : Go.Shelf.Ren := ⟨fun | 7 => 43 | 10 => 52 | n => n, fun | 23 => 58 | 26 => 3 | 3 => 29 | 28 => 73 | 0 => 0 | 27 => 72 | 33 => 68 | 4 => 4 | n => n, fun | n => n⟩
theorem Try.keysA : Go.Proofs.SlLaysZI.n7 Try.prog Try.keysA_ren := {
  mixed := by kernel_rfl
  f7 := ⟨Try.f43.name, by decide, Try.func43.trans (congrArg some (by kernel_rfl))⟩
  f10 := ⟨Try.f52.name, by decide, Try.func52.trans (congrArg some (by kernel_rfl))⟩
  t0 := Try.underlying0
  a0 := Try.isAgg0
  z0 := Try.sizeOf0
  v0 := Try.zeroValue0
  t4 := Try.underlying4
  a4 := Try.isAgg4
  z4 := Try.sizeOf4
  v4 := Try.zeroValue4
  t23 := Try.underlying58
  a23 := Try.isAgg58
  z23 := Try.sizeOf58
  v23 := Try.zeroValue58
  t26 := Try.underlying3
  a26 := Try.isAgg3
  z26 := Try.sizeOf3
  v26 := Try.zeroValue3
  t27 := Try.underlying72
  a27 := Try.isAgg72
  z27 := Try.sizeOf72
  v27 := Try.zeroValue72
  t28 := Try.underlying73
  a28 := Try.isAgg73
  z28 := Try.sizeOf73
  v28 := Try.zeroValue73
  t33 := Try.underlying68
  a33 := Try.isAgg68
  z33 := Try.sizeOf68
  v33 := Try.zeroValue68 }
def Try.sortedA_ren : Go.Shelf.Ren := ⟨fun | 6 => 42 | 8 => 50 | 9 => 51 | 11 => 56 | 13 => 58 | 12 => 57 | 23 => 68 | 24 => 69 | 14 => 59 | 15 => 60 | 16 => 61 | 17 => 62 | 18 => 63 | 19 => 64 | 20 => 65 | 21 => 66 | 22 => 67 | 25 => 70 | 26 => 71 | 27 => 72 | 28 => 73 | 29 => 74 | 30 => 75 | 31 => 76 | n => n, fun | 26 => 3 | 28 => 73 | 24 => 30 | 0 => 0 | 3 => 3 | 37 => 78 | 48 => 83 | 50 => 86 | 4 => 4 | 40 => 95 | 39 => 94 | 45 => 100 | 5 => 5 | 9 => 9 | 51 => 104 | 55 => 108 | 57 => 110 | 58 => 111 | 33 => 68 | n => n, fun | n => n⟩
theorem Try.sortedA : Go.Proofs.SlLaysZI.n6 Try.prog Try.sortedA_ren := {
  mixed := by kernel_rfl
  f6 := ⟨Try.f42.name, by decide, Try.func42.trans (congrArg some (by kernel_rfl))⟩
  f8 := ⟨Try.f50.name, by decide, Try.func50.trans (congrArg some (by kernel_rfl))⟩
  f11 := ⟨Try.f56.name, by decide, Try.func56.trans (congrArg some (by kernel_rfl))⟩
  t0 := Try.underlying0
  a0 := Try.isAgg0
  z0 := Try.sizeOf0
  v0 := Try.zeroValue0
  t24 := Try.underlying30
  a24 := Try.isAgg30
  z24 := Try.sizeOf30
  v24 := Try.zeroValue30
  t26 := Try.underlying3
  a26 := Try.isAgg3
  z26 := Try.sizeOf3
  v26 := Try.zeroValue3
  t28 := Try.underlying73
  a28 := Try.isAgg73
  z28 := Try.sizeOf73
  v28 := Try.zeroValue73
  i26 := by kernel_rfl }
def Try.sortA_ren : Go.Shelf.Ren := ⟨fun | 5 => 51 | 8 => 58 | 7 => 57 | 19 => 68 | 20 => 69 | 10 => 59 | 11 => 60 | 12 => 61 | 13 => 62 | 14 => 63 | 15 => 64 | 16 => 65 | 17 => 66 | 18 => 67 | 30 => 70 | 31 => 71 | 32 => 72 | 33 => 73 | 34 => 74 | 35 => 75 | 40 => 76 | n => n, fun | 23 => 30 | 25 => 3 | 3 => 3 | 32 => 78 | 22 => 30 | 0 => 0 | 44 => 83 | 46 => 86 | 4 => 4 | 36 => 95 | 35 => 94 | 41 => 100 | 5 => 5 | 9 => 9 | 53 => 104 | 57 => 108 | 63 => 110 | 64 => 111 | n => n, fun | n => n⟩
theorem Try.sortA : Go.Proofs.SlLaysM.n5 Try.prog Try.sortA_ren := {
  mixed := by kernel_rfl
  f5 := ⟨Try.f51.name, by decide, Try.func51.trans (congrArg some (by kernel_rfl))⟩
  f7 := ⟨Try.f57.name, by decide, Try.func57.trans (congrArg some (by kernel_rfl))⟩
  f8 := Try.func58.trans (congrArg some (by kernel_rfl))
  f10 := ⟨Try.f59.name, by decide, Try.func59.trans (congrArg some (by kernel_rfl))⟩
  f11 := ⟨Try.f60.name, by decide, Try.func60.trans (congrArg some (by kernel_rfl))⟩
  f12 := ⟨Try.f61.name, by decide, Try.func61.trans (congrArg some (by kernel_rfl))⟩
  f13 := ⟨Try.f62.name, by decide, Try.func62.trans (congrArg some (by kernel_rfl))⟩
  f14 := ⟨Try.f63.name, by decide, Try.func63.trans (congrArg some (by kernel_rfl))⟩
  f15 := ⟨Try.f64.name, by decide, Try.func64.trans (congrArg some (by kernel_rfl))⟩
  f16 := ⟨Try.f65.name, by decide, Try.func65.trans (congrArg some (by kernel_rfl))⟩
  f17 := ⟨Try.f66.name, by decide, Try.func66.trans (congrArg some (by kernel_rfl))⟩
  f18 := ⟨Try.f67.name, by decide, Try.func67.trans (congrArg some (by kernel_rfl))⟩
  f19 := Try.func68.trans (congrArg some (by kernel_rfl))
  f20 := Try.func69.trans (congrArg some (by kernel_rfl))
  f30 := ⟨Try.f70.name, by decide, Try.func70.trans (congrArg some (by kernel_rfl))⟩
  f31 := Try.func71.trans (congrArg some (by kernel_rfl))
  f32 := Try.func72.trans (congrArg some (by kernel_rfl))
  f33 := ⟨Try.f73.name, by decide, Try.func73.trans (congrArg some (by kernel_rfl))⟩
  f34 := ⟨Try.f74.name, by decide, Try.func74.trans (congrArg some (by kernel_rfl))⟩
  f35 := ⟨Try.f75.name, by decide, Try.func75.trans (congrArg some (by kernel_rfl))⟩
  f40 := ⟨Try.f76.name, by decide, Try.func76.trans (congrArg some (by kernel_rfl))⟩
  t0 := Try.underlying0
  a0 := Try.isAgg0
  z0 := Try.sizeOf0
  v0 := Try.zeroValue0
  t3 := Try.underlying3
  a3 := Try.isAgg3
  z3 := Try.sizeOf3
  v3 := Try.zeroValue3
  t4 := Try.underlying4
  a4 := Try.isAgg4
  z4 := Try.sizeOf4
  v4 := Try.zeroValue4
  t5 := Try.underlying5
  a5 := Try.isAgg5
  z5 := Try.sizeOf5
  v5 := Try.zeroValue5
  t9 := Try.underlying9
  a9 := Try.isAgg9
  z9 := Try.sizeOf9
  v9 := Try.zeroValue9
  t22 := Try.underlying30
  a22 := Try.isAgg30
  z22 := Try.sizeOf30
  v22 := Try.zeroValue30
  t23 := Try.underlying30
  a23 := Try.isAgg30
  z23 := Try.sizeOf30
  v23 := Try.zeroValue30
  t25 := Try.underlying3
  a25 := Try.isAgg3
  z25 := Try.sizeOf3
  v25 := Try.zeroValue3
  t32 := Try.underlying78
  a32 := Try.isAgg78
  z32 := Try.sizeOf78
  v32 := Try.zeroValue78
  t35 := Try.underlying94
  a35 := Try.isAgg94
  z35 := Try.sizeOf94
  v35 := Try.zeroValue94
  t36 := Try.underlying95
  a36 := Try.isAgg95
  z36 := Try.sizeOf95
  v36 := Try.zeroValue95
  t41 := Try.underlying100
  a41 := Try.isAgg100
  z41 := Try.sizeOf100
  v41 := Try.zeroValue100
  t44 := Try.underlying83
  a44 := Try.isAgg83
  z44 := Try.sizeOf83
  v44 := Try.zeroValue83
  t46 := Try.underlying86
  a46 := Try.isAgg86
  z46 := Try.sizeOf86
  v46 := Try.zeroValue86
  t53 := Try.underlying104
  a53 := Try.isAgg104
  z53 := Try.sizeOf104
  v53 := Try.zeroValue104
  t57 := Try.underlying108
  a57 := Try.isAgg108
  z57 := Try.sizeOf108
  v57 := Try.zeroValue108
  t63 := Try.underlying110
  a63 := Try.isAgg110
  z63 := Try.sizeOf110
  v63 := Try.zeroValue110
  t64 := Try.underlying111
  a64 := Try.isAgg111
  z64 := Try.sizeOf111
  v64 := Try.zeroValue111 }
/-- A map of its own. -/
def Fk.im (B : Nat) (l : List (Int × Value)) : Fk := .inr (.inl ⟨fun v w => ∃ b, v = .map (some b) ∧ B ≤ b ∧ Im w b l, by
  rintro v w w' ⟨b, e, h1, h2⟩ hb
  exact ⟨b, e, h1, h2.below hb⟩⟩)
/-- A row of slices of its own: the first ones are those of another row. -/
def Fk.cr (B n : Nat) (vs : Array Value) : Fk := .inr (.inl ⟨fun v w => ∃ g C vk, v = .slice (some ⟨g, 0, none⟩) n C ∧ B ≤ g ∧ w.heap[g]? = some (.cells vk 29 (0, 0)) ∧ ∀ i, i < n → vk[i]? = vs[i]?, by
  rintro v w w' ⟨g, C, vk, e, h1, h2, h3⟩ hb
  exact ⟨g, C, vk, e, h1, row_below h2 hb, h3⟩⟩)
theorem fk_mclone {w : World} {b : Nat} {l : List (Int × Value)} (him : Im w b l) {B : Nat} (hB : B ≤ w.heap.size) : Calls Try.prog 45 #[.map (some b)] w fun e w' => ∃ v, e = .returned v ∧ (Fk.im B l).f v w' ∧ Below w.heap.size w w' := by
  obtain ⟨ho, es, clock, hb, hE⟩ := him
  have h := AnyW.maps_Clone Try.cloneM b es clock w hb
  change Calls Try.prog 45 _ _ _ at h
  refine h.mono ?_
  rintro e w' ⟨rfl, rfl⟩
  exact ⟨_, rfl, ⟨_, rfl, hB, ho, es, clock, (MapKept.heap_alloc w _).1, hE⟩, (Below.refl _ w).alloc (Nat.le_refl _) _⟩
theorem fk_rclone {w : World} {sb n C : Nat} {vs : Array Value} (hp : 0 < n) (hN : n ≤ 100000) (hnv : n ≤ vs.size) (hrow : w.heap[sb]? = some (.cells vs 29 (0, 0))) (h1 : ∀ i v, i < n → vs[i]? = some v → v.oneCell' = true) {B : Nat} (hB : B ≤ w.heap.size) : Calls Try.prog 44 #[.slice (some ⟨sb, 0, none⟩) n C] w fun e w' => ∃ v, e = .returned v ∧ (Fk.cr B n vs).f v w' ∧ Below w.heap.size w w' := by
  refine (clone_rows hp hN hnv hrow h1).mono ?_
  rintro e w' ⟨g, C9, vk, rfl, q1, q2, q3, q4⟩
  exact ⟨_, rfl, ⟨g, C9, vk, rfl, Nat.le_trans hB q1, q2, q3⟩, q4⟩
/-- A map's keys, read as a datum. -/
theorem im_owns {w : World} {b : Nat} {l : List (Int × Value)} (him : Im w b l) (hl : l.length ≤ 100000) : ∃ (D0 : DataW Unit) (nn : Nat), w.ownsMap Try.prog 3 (fun _ => some (.nil, [])) b nn D0 ∧ (intKeys D0).Perm (l.map (·.1)) ∧ Maps.size D0 = l.length := by
  obtain ⟨ho, es, clock, hb, h1, h2, h3⟩ := him
  have hsz : es.size = l.length := by have := congrArg List.length h1; simpa using this
  have hk : es.toList.map (·.key) = l.map fun p => Value.int .i64 p.1 := by
    have := congrArg (List.map Prod.fst) h1
    rw [List.map_map, List.map_map] at this
    exact this
  have hkey : ∀ x ∈ es.toList, ∃ k : Int, x.key = .int .i64 k ∧ keyOf Try.prog 3 x.key = some (.int .i64 k) := fun x hx => by
    have : x.key ∈ es.toList.map (·.key) := List.mem_map_of_mem hx
    rw [hk] at this
    obtain ⟨p, hp, e⟩ := List.mem_map.1 this
    exact ⟨p.1, e.symm, by rw [← e]; exact key3 Try.under3 (ho.fits p hp)⟩
  have hrd : ∀ x ∈ es.toList, ∃ k : Int, x.key = .int .i64 k ∧ WideElems.rd Try.prog 3 (fun _ => some ((.nil : DataW Unit), [])) x = some (.int .i64 k, .nil) := fun x hx => by
    obtain ⟨k, e1, e2⟩ := hkey x hx
    exact ⟨k, e1, by unfold WideElems.rd; rw [e2]; rfl⟩
  refine ⟨.map ((es.toList.map (WideElems.rg Try.prog 3 (fun _ => some ((.nil : DataW Unit), [])))).foldr DataW.insert []), es.size, ⟨es, clock, hb, ⟨by rw [hsz]; unfold maxLen; omega, ⟨h3, h2, ?_⟩, fun x hx => ?_⟩, Nat.le_refl _, rfl⟩, ?_, ?_⟩
  · rw [hk]
    exact List.pairwise_map.2 ((List.pairwise_map.1 ho.keys).imp fun h e => h (by injection e))
  · obtain ⟨k, _, e⟩ := hrd x hx
    exact ⟨_, e⟩
  · show (((es.toList.map (WideElems.rg Try.prog 3 (fun _ => some ((.nil : DataW Unit), [])))).foldr DataW.insert []).map fun p => _root_.Go.intOf p.1).Perm _
    refine ((WideShapes.sorted_perm _).map _).trans ?_
    rw [List.map_map]
    have : es.toList.map ((fun p => _root_.Go.intOf p.1) ∘ WideElems.rg Try.prog 3 (fun _ => some ((.nil : DataW Unit), []))) = l.map (·.1) := by
      have e3 : es.toList.map ((fun p => _root_.Go.intOf p.1) ∘ WideElems.rg Try.prog 3 (fun _ => some ((.nil : DataW Unit), []))) = (es.toList.map (·.key)).map fun v => match v with | .int _ a => a | _ => 0 := by
        rw [List.map_map]
        refine List.map_congr_left fun x hx => ?_
        obtain ⟨k, e1, e2⟩ := hrd x hx
        show _root_.Go.intOf (WideElems.rg Try.prog 3 (fun _ => some ((.nil : DataW Unit), [])) x).1 = _
        unfold WideElems.rg
        rw [e2]
        show k = match x.key with | .int _ a => a | _ => 0
        rw [e1]
      rw [e3, hk, List.map_map]
      rfl
    rw [this]
  · show ((es.toList.map (WideElems.rg Try.prog 3 (fun _ => some ((.nil : DataW Unit), [])))).foldr DataW.insert []).length = _
    rw [(WideShapes.sorted_perm _).length_eq, List.length_map, Array.length_toList, hsz]
theorem Try.sortsA (m : Nat) : AnyZI.SortsIn Try.prog Try.sortedA_ren Fence.wide m :=
  ⟨fun blk off cap ss W hH hblk hsz => callsIn_wide.2 (AnyM.slices_Sort_int Try.sortA blk off cap ss W hH hblk hsz),
   fun p cap W => callsIn_wide.2 (AnyM.slices_Sort_int_none Try.sortA p cap W)⟩
theorem fk_keys (b : Nat) (W : World) : Calls Try.prog 43 #[.map (some b)] W fun e w' => e = .returned (.func (.func 52) #[] #[.pointer (some ⟨W.heap.size, 0, none⟩)]) ∧ w' = W.alloc (.cells #[.map (some b)] 58) := by
  refine (callsIn_wide (n := 5)).1 ?_
  exact AnyZI.keys_in Try.keysA Fence.wide 5 trivial rfl (some b) W
set_option maxHeartbeats 1000000 in
theorem fk_sorted {w : World} {b : Nat} {l : List (Int × Value)} {L : List Int} (him : Im w b l) (hl : l.length ≤ 100000) (hL : (l.map (·.1)).Perm L) (hLs : L.Pairwise (fun a b => a ≤ b)) :
    Calls Try.prog 42 #[.func (.func 52) #[] #[.pointer (some ⟨w.heap.size, 0, none⟩)]] (w.alloc (.cells #[.map (some b)] 58)) fun e w' => ∃ v, e = .returned v ∧ (Fk.is L).f v w' ∧ Below w.heap.size w w' := by
  obtain ⟨D0, nn, hown, hperm, hsize⟩ := im_owns him hl
  have hbl := hown.lt
  have hseq : SeqGives Fence.wide 2 Try.prog 52 #[.pointer (some ⟨w.heap.size, 0, none⟩)] encZ (fun ss => ss.Perm (intKeys D0)) (Maps.size D0) (w.alloc (.cells #[.map (some b)] 58)) :=
    AnyZI.keys_gives (ρ := Try.keysA_ren) { Try.keysA with } Fence.wide _ trivial rfl (by omega) w.heap.size b nn D0 _ (by simp) (by simp) (by
      obtain ⟨es, clock, hb, Ft, hs, hD⟩ := hown
      exact ⟨es, clock, (Below.heap_alloc _ _ b hbl).trans hb, Ft, hs, hD⟩)
  have cS := AnyZI.sorted_in Try.sortedA Fence.wide 5 trivial trivial trivial trivial rfl (by omega) (Try.sortsA _) (enters_of Try.func51 (by kernel_rfl) rfl) 52 #[.pointer (some ⟨w.heap.size, 0, none⟩)] trivial (enters_of Try.func52 (by kernel_rfl) rfl) _ _ (by rw [hsize]; unfold maxLen; omega) (by rw [hsize]; omega) _ hseq
  change CallsIn _ _ Try.prog 42 _ _ _ at cS
  refine ((callsIn_wide (n := 5)).1 cS).mono ?_
  rintro e w' ⟨v, ss, rfl, hS, hrow, _, hb⟩
  have he : ss.mergeSort (fun x y => decide (x ≤ y)) = L := by
    have h1 := mergeSort_of_perm_i ((hS.trans hperm).trans hL)
    have h2 : L.mergeSort leI = L := List.mergeSort_of_pairwise (hLs.imp fun h => by simpa [leI] using h)
    exact h1.trans h2
  rw [he] at hrow
  have hlen : ss.length = L.length := ((hS.trans hperm).trans hL).length_eq
  rw [hlen] at hrow
  exact ⟨v, rfl, oi_is (base := (w.alloc (.cells #[.map (some b)] 58)).heap.size) hrow, ((Below.refl _ w).alloc (Nat.le_refl _) _).trans (hb.mono (by simp))⟩
theorem clp_sorted (c : List (List (BitVec 8))) (k : Nat) : (clp c k).Pairwise (fun a b => a < b) := by
  unfold clp
  refine List.Pairwise.filterMap _ (fun i j hij a ha b hb => ?_) List.pairwise_lt_range
  split at ha
  · cases ha
  · split at hb
    · cases hb
    · cases ha
      cases hb
      exact Int.ofNat_lt.2 hij
theorem Dk.keys {w : World} {g sb cb C : Nat} {pl : Int} {vs : Array Value} {l : List (Int × Value)} {M D : Nat → Prop} {s : Dst} (r : Dk w g sb cb C pl vs l M D s) : (l.map (·.1)).Perm (clp s.cch s.has.length) := by
  refine (List.perm_ext_iff_of_nodup r.im.ok.keys ((clp_sorted _ _).imp fun h e => by omega)).2 fun z => ?_
  constructor
  · intro h
    obtain ⟨p, hp, rfl⟩ := List.mem_map.1 h
    obtain ⟨i, bs, e, hi, h3, h4, _⟩ := r.key p.1 p.2 (mget_of_mem r.im.ok.keys hp)
    unfold clp
    refine List.mem_filterMap.2 ⟨i, List.mem_range.2 hi, ?_⟩
    rw [List.getD_eq_getElem?_getD, h3, e]
    rw [if_neg]
    intro e2
    replace e2 : bs = [] := e2
    rw [e2] at h4
    have := r.pos
    simp at h4
    omega
  · intro h
    unfold clp at h
    obtain ⟨i, hi, e⟩ := List.mem_filterMap.1 h
    have hi2 := List.mem_range.1 hi
    split at e
    · cases e
    · rename_i hne
      cases e
      obtain ⟨yc, hyc⟩ : ∃ y, s.cch[i]? = some y := ⟨_, List.getElem?_eq_getElem (by rw [r.cl]; exact hi2)⟩
      rw [List.getD_eq_getElem?_getD, hyc] at hne
      obtain ⟨v, hv⟩ := r.cch i yc hyc hne
      exact List.mem_map.2 ⟨_, mget_mem hv, rfl⟩
theorem fk_dcached {w : World} {gd : Nat} {M D : Nat → Prop} {s : Dst} (hd : HD w gd M D s) :
    Calls Try.prog 20 #[.pointer (some ⟨gd, 0, none⟩)] w fun e w' => ∃ v, e = .returned v ∧ (Fk.is (clp s.cch s.has.length)).f v w' ∧ Below w.heap.size w w' := by
  obtain ⟨sb, cb, C, pl, vs, l, r⟩ := hd
  have m0 := r.ob
  have hnm := r.nmax
  go_enter Try.func20, Try.ntmps20
  refine code_both (fun f w1 => f.tmps.size = 9 ∧ f.defers = [] ∧ f.eval (.tmp 0) = .pointer (some ⟨gd, 0, none⟩) ∧ Below w.heap.size w (w1)) ⟨rfl, rfl, rfl, Below.refl _ _⟩ ?_
  rintro f0 w0 ⟨sz, df, x0, bl⟩
  have sd := And.intro sz df
  clear sz df
  have bl0 := bl
  refine wp_seq ?_
  refine wr_a [.eq (.slice none 0 0)] (by rw [sd.1]; kernel_rfl) ⟨fun hw ac u K => ?_, trivial⟩ ?_
  · exact st_assign (.const (.slice none 0 0)) rfl rfl
  intro f1 w1 A hb
  replace x0 := A.t x0 rfl
  replace bl := bgo bl hb
  replace sd := A.sd sd
  clear A hb
  show Code.wp _ _ _ _ _
  refine wp_seq ?_
  refine wr_s [.eq (.pointer (some ⟨gd, 0, none⟩)), .eq (.pointer (some ⟨gd, 0, none⟩)), .eq (.pointer (some ⟨gd, 2, none⟩)), .eq (.map (some cb))] (by rw [sd.1]; kernel_rfl) ⟨fun hw ac u K => ?_, fun hw ac u K => ?_, fun hw ac u K => ?_, fun hw ac u K => ?_, trivial⟩ ?_
  · exact st_move (.tmp 0) rfl (K.t x0 rfl)
  · exact st_nil (.tmp 3) rfl (K.dep 0 3 rfl)
  · exact st_field 63 2 (.tmp 4) rfl (K.dep 1 4 rfl) (by kernel_rfl)
  · exact st_loadc 58 (.tmp 5) rfl (by kernel_rfl) (K.dep 2 5 rfl) (Ob.cell (Ob.below m0 (bgo bl K.grow)) 2 rfl)
  intro f2 w2 A hb
  replace x0 := A.t x0 rfl
  have x6 := A.e 3 6 rfl rfl
  replace bl := bgo bl hb
  replace sd := A.sd sd
  clear A hb
  clear x0
  refine wl_call 43 (.func 43) _ _ #[.map (some cb)] rfl 7 rfl (by rw [sd.1]; decide) rfl rfl (one_arg x6) Try.enter43 (fun u W' => u = .func (.func 52) #[] #[.pointer (some ⟨w2.heap.size, 0, none⟩)] ∧ W' = w2.alloc (.cells #[.map (some cb)] 58)) ((fk_keys cb w2).mono (by rintro e w' ⟨rfl, q⟩; exact ⟨_, rfl, rfl, q⟩)) ?_
  rintro f3 w3 df2 sz2 old2 ⟨x7, hw2⟩
  subst hw2
  replace x6 := tr old2 x6 rfl
  replace sd := sd2 sz2 df2 sd
  clear df2 sz2 old2
  clear x6
  refine wl_call 42 (.func 42) _ _ #[.func (.func 52) #[] #[.pointer (some ⟨w2.heap.size, 0, none⟩)]] rfl 8 rfl (by rw [sd.1]; decide) rfl rfl (one_arg x7) Try.enter42 (fun u W' => (Fk.is (clp s.cch s.has.length)).f u W' ∧ Below w2.heap.size w2 W') ((fk_sorted (Im.below r.im bl) (by have := r.keys.length_eq; rw [List.length_map] at this; have := clp_le s.cch s.has.length; omega) r.keys ((clp_sorted _ _).imp fun h => by omega)).mono (by rintro e w' ⟨v, rfl, q⟩; exact ⟨_, rfl, q⟩)) ?_
  rintro f4 w4 df2 sz2 old2 ⟨x8, hb⟩
  clear x7
  replace bl := bgo bl hb
  replace bl0 := bl
  replace sd := sd2 sz2 df2 sd
  clear df2 sz2 old2 hb
  refine wl_one (.is (clp s.cch s.has.length)) rfl 2 rfl (by rw [sd.1]; decide) (st_assign (.tmp 8) rfl x8) ?_
  intro f5 w5 df2 sz2 old2 new2 hb
  replace x8 := f_at (old2 8 rfl) (Fk.mono _ _ _ _ x8 hb)
  have x2 : Fk.f (.is (clp s.cch s.has.length)) (f5.eval (.tmp 2)) w5 := new2
  replace bl := bgo bl hb
  replace sd := sd2 sz2 df2 sd
  clear df2 sz2 old2 new2 hb
  refine wpList_nil ?_
  clear x8
  show Code.wp _ _ _ _ _
  refine wp_ret ?_
  repeat (first | with_reducible refine then_ret ?_ | with_reducible refine block_ret ?_)
  exact bodyPost_ret (v := f5.eval (.tmp 2)) (ret_slot rfl f5 _ rfl _ _) sd.2 ⟨_, rfl, x2, bl⟩
end Go.Proofs.Ytjdpomilifnlaaa
namespace Go.Proofs.Ytjdpomilifnlaaa
set_option maxRecDepth 100000
open Go.RowKit
theorem Dk.copied {w : World} {gd sb cb C : Nat} {pl : Int} {vs : Array Value} {l : List (Int × Value)} {M D : Nat → Prop} {s : Dst} (r : Dk w gd sb cb C pl vs l M D s) {w' : World} (hb : Below w.heap.size w w') {gc sc cc C2 : Nat} {vk : Array Value} (m : Ob w' gc 63 [.int .i64 (s.size : Int), .slice (some ⟨sc, 0, none⟩) s.has.length C2, .map (some cc), .int .i64 pl, .bool s.down, .int .i64 (s.done : Int)]) (hrow : w'.heap[sc]? = some (.cells vk 29 (0, 0))) (hvk : ∀ i, i < s.has.length → vk[i]? = vs[i]?) (him : Im w' cc l) (h1 : w.heap.size ≤ gc) (h2 : w.heap.size ≤ sc) (h3 : w.heap.size ≤ cc) (n1 : gc ≠ sc) (n2 : gc ≠ cc) (n3 : sc ≠ cc) :
    ∃ MC E : Nat → Prop, HD w' gc MC E s ∧ (∀ j, MC j → w.heap.size ≤ j) ∧ (∀ j, E j → ¬ M j) ∧ (∀ j, E j → D j ∨ w.heap.size ≤ j) := by
  have hk : ∀ j, D j ∧ ¬ M j → j < w.heap.size → w'.heap[j]? = w.heap[j]? := fun j _ h => hb.block j h
  have hlt : ∀ j, M j → j < w.heap.size := fun j q => r.lt j (r.sub j q)
  have hN : ∀ j, (D j ∧ ¬ M j) → j < w.heap.size → ((j = gc ∨ j = sc ∨ j = cc) ∨ (D j ∧ ¬ M j)) ∧ ¬ (j = gc ∨ j = sc ∨ j = cc) := fun j q h => ⟨.inr q, by omega⟩
  refine ⟨fun j => j = gc ∨ j = sc ∨ j = cc, fun j => (j = gc ∨ j = sc ∨ j = cc) ∨ (D j ∧ ¬ M j), ⟨sc, cc, C2, pl, vk, l, fun j => Iff.rfl, n1, n2, n3, fun j q => .inl q, fun j q => ?_, m, hrow, him, r.pw, r.pos, r.zmax, r.nmax, r.cl, fun i bs q => ?_, fun k v q => ?_, r.cch⟩, fun j q => by rcases q with rfl | rfl | rfl <;> assumption, fun j q q2 => ?_, fun j q => ?_⟩
  · rcases q with (rfl | rfl | rfl) | q
    · exact m.lt
    · exact (Array.getElem?_eq_some_iff.1 hrow).1
    · exact him.lt
    · exact Nat.lt_of_lt_of_le (r.lt j q.1) hb.size
  · obtain ⟨q1, v, q2, q3⟩ := r.sec i bs q
    exact ⟨q1, v, (hvk i (List.getElem?_eq_some_iff.1 q).1).trans q2, q3.keep hk hb.size hN⟩
  · obtain ⟨i, bs, q1, q2, q3, q4, q5⟩ := r.key k v q
    exact ⟨i, bs, q1, q2, q3, q4, q5.keep hk hb.size hN⟩
  · have := hlt j q2
    rcases q with q | q
    · omega
    · exact q.2 q2
  · rcases q with (rfl | rfl | rfl) | q
    · exact .inr h1
    · exact .inr h2
    · exact .inr h3
    · exact .inl q.1
theorem Dk.one {w : World} {g sb cb C : Nat} {pl : Int} {vs : Array Value} {l : List (Int × Value)} {M D : Nat → Prop} {s : Dst} (r : Dk w g sb cb C pl vs l M D s) : ∀ i v, i < s.has.length → vs[i]? = some v → v.oneCell' = true := fun i v hi hv => by
  obtain ⟨_, u, h2, h3⟩ := r.sec i _ (List.getElem?_eq_getElem hi)
  rw [hv] at h2
  cases h2
  exact h3.one
theorem fk_dcopy {w : World} {gd : Nat} {M D : Nat → Prop} {s : Dst} (hd : HD w gd M D s) (h60 : s.has.length ≤ 100000) :
    Calls Try.prog 21 #[.pointer (some ⟨gd, 0, none⟩)] w fun e w' => ∃ (gc : Nat) (MC C : Nat → Prop), e = .returned (.pointer (some ⟨gc, 0, none⟩)) ∧ HD w' gc MC C s ∧ (∀ j, MC j → w.heap.size ≤ j) ∧ (∀ j, C j → ¬ M j) ∧ (∀ j, C j → D j ∨ w.heap.size ≤ j) ∧ Below w.heap.size w w' := by
  obtain ⟨sb, cb, C, pl, vs, l, r⟩ := hd
  have m0 := r.ob
  have hnm := r.nmax
  go_enter Try.func21, Try.ntmps21
  refine code_both (fun f w1 => f.tmps.size = 19 ∧ f.defers = [] ∧ f.eval (.tmp 0) = .pointer (some ⟨gd, 0, none⟩) ∧ Below w.heap.size w (w1)) ⟨rfl, rfl, rfl, Below.refl _ _⟩ ?_
  rintro f0 w0 ⟨sz, df, x0, bl⟩
  have sd := And.intro sz df
  clear sz df
  have bl0 := bl
  refine wp_seq ?_
  refine wr_a [.eq (.pointer none)] (by rw [sd.1]; kernel_rfl) ⟨fun hw ac u K => ?_, trivial⟩ ?_
  · exact st_assign (.const (.pointer none)) rfl rfl
  intro f1 w1 A hb
  replace x0 := A.t x0 rfl
  replace bl := bgo bl hb
  replace sd := A.sd sd
  clear A hb
  show Code.wp _ _ _ _ _
  refine wp_seq ?_
  refine wr_s [.eq (.pointer (some ⟨gd, 0, none⟩)), .eq (.pointer (some ⟨gd, 0, none⟩)), .eq (.agg ([.int .i64 (s.size : Int), .slice (some ⟨sb, 0, none⟩) s.has.length C, .map (some cb), .int .i64 pl, .bool s.down, .int .i64 (s.done : Int)] : List Value).toArray), .nw w1.heap.size 63 [.int .i64 0, .slice none 0 0, .map none, .int .i64 0, .bool false, .int .i64 0]] (by rw [sd.1]; kernel_rfl) ⟨fun hw ac u K => ?_, fun hw ac u K => ?_, fun hw ac u K => ?_, fun hw ac u K => ?_, trivial⟩ ?_
  · exact st_move (.tmp 0) rfl (K.t x0 rfl)
  · exact st_nil (.tmp 4) rfl (K.dep 0 4 rfl)
  · exact st_loadz 63 (.tmp 5) rfl (gd) 0 [.int .i64 (s.size : Int), .slice (some ⟨sb, 0, none⟩) s.has.length C, .map (some cb), .int .i64 pl, .bool s.down, .int .i64 (s.done : Int)] (by kernel_rfl) (by kernel_rfl) (K.dep 1 5 rfl) (Ob.range (Ob.below m0 (bgo bl K.grow)) 0 _ (fun j v hj => by simpa using hj))
  · exact st_alloc 63 rfl _ _ (by kernel_rfl) K.grow.size
  intro f2 w2 A hb
  replace bl0 := bl
  replace x0 := A.t x0 rfl
  have x3 : Fk.f (.nw w1.heap.size 63 [.int .i64 0, .slice none 0 0, .map none, .int .i64 0, .bool false, .int .i64 0]) (f2.eval (.tmp 3)) w2 := A.has 3 3 rfl
  have x6 := A.e 2 6 rfl rfl
  replace bl := bgo bl hb
  replace sd := A.sd sd
  clear A hb
  obtain ⟨g3, hg3, e3, m3⟩ := x3
  have x3 := e3
  clear e3
  have nm0_3 : gd ≠ g3 := Nat.ne_of_lt (Nat.lt_of_lt_of_le (Ob.lt m0) (Nat.le_trans bl0.size hg3))
  have hw3 : w.heap.size ≤ g3 := Nat.le_trans bl0.size hg3
  refine wl_str rfl 63 (.tmp 3) (.tmp 6) rfl rfl (g3) ([.int .i64 (s.size : Int), .slice (some ⟨sb, 0, none⟩) s.has.length C, .map (some cb), .int .i64 pl, .bool s.down, .int .i64 (s.done : Int)] : List Value).toArray x3 x6 63 _ m3 (by kernel_rfl) (by kernel_rfl) (by kernel_rfl) ?_
  replace m3 : Ob (w2.setRow g3 ([.int .i64 (s.size : Int), .slice (some ⟨sb, 0, none⟩) s.has.length C, .map (some cb), .int .i64 pl, .bool s.down, .int .i64 (s.done : Int)] : List Value).toArray) (g3) 63 ([.int .i64 (s.size : Int), .slice (some ⟨sb, 0, none⟩) s.has.length C, .map (some cb), .int .i64 pl, .bool s.down, .int .i64 (s.done : Int)]) := Ob.setRow m3 ([.int .i64 (s.size : Int), .slice (some ⟨sb, 0, none⟩) s.has.length C, .map (some cb), .int .i64 pl, .bool s.down, .int .i64 (s.done : Int)])
  replace bl : Below w.heap.size w (w2.setRow g3 ([.int .i64 (s.size : Int), .slice (some ⟨sb, 0, none⟩) s.has.length C, .map (some cb), .int .i64 pl, .bool s.down, .int .i64 (s.done : Int)] : List Value).toArray) := bl.trans (below_setRow _ _ _ _ hw3)
  generalize w2.setRow g3 ([.int .i64 (s.size : Int), .slice (some ⟨sb, 0, none⟩) s.has.length C, .map (some cb), .int .i64 pl, .bool s.down, .int .i64 (s.done : Int)] : List Value).toArray = w3b at bl m3 ⊢
  refine wpList_nil ?_
  clear x6
  show Code.wp _ _ _ _ _
  refine wp_seq ?_
  have hlm := Ob.lt m3
  refine wr_s [.eq (.pointer (some ⟨gd, 0, none⟩)), .eq (.pointer (some ⟨gd, 0, none⟩)), .eq (.pointer (some ⟨gd, 1, none⟩)), .eq (.slice (some ⟨sb, 0, none⟩) s.has.length C), .cr w3b.heap.size s.has.length vs, .eq (.pointer (some ⟨g3, 1, none⟩))] (by rw [sd.1]; kernel_rfl) ⟨fun hw ac u K => ?_, fun hw ac u K => ?_, fun hw ac u K => ?_, fun hw ac u K => ?_, fun hw ac u K => ?_, fun hw ac u K => ?_, trivial⟩ ?_
  · exact st_move (.tmp 0) rfl (K.t x0 rfl)
  · exact st_nil (.tmp 7) rfl (K.dep 0 7 rfl)
  · exact st_field 63 1 (.tmp 8) rfl (K.dep 1 8 rfl) (by kernel_rfl)
  · exact st_loadc 56 (.tmp 9) rfl (by kernel_rfl) (K.dep 2 9 rfl) (Ob.cell (Ob.below m0 (bgo bl K.grow)) 1 rfl)
  · exact st_call 44 (.func 44) _ _ _ rfl rfl (one_arg (K.dep 3 10 rfl)) Try.enter44 (fk_rclone hnm.1 (by omega) (by obtain ⟨q1, v, q2, q3⟩ := r.sec _ _ (List.getElem?_eq_getElem (show s.has.length - 1 < s.has.length by omega)); have := (Array.getElem?_eq_some_iff.1 q2).1; omega) (row_below r.row (bgo bl K.grow)) r.one K.grow.size)
  · exact st_field 63 1 (.tmp 3) rfl (K.t x3 rfl) (by kernel_rfl)
  intro f4 w4 A hb
  replace x0 := A.t x0 rfl
  replace x3 := A.t x3 rfl
  have x11 : Fk.f (.cr w3b.heap.size s.has.length vs) (f4.eval (.tmp 11)) w4 := A.has 4 11 rfl
  have x12 := A.e 5 12 rfl rfl
  replace m3 := Ob.below m3 hb
  replace bl := bgo bl hb
  replace sd := A.sd sd
  clear A hb
  obtain ⟨sc, C2, vk, e11, hsc, hrw, hvk⟩ := x11
  replace x11 := e11
  clear e11
  have nn1 : g3 ≠ sc := by omega
  have hwsc : w.heap.size ≤ sc := by have := hw3; omega
  refine wl_stc 56 rfl (.tmp 12) (.tmp 11) rfl rfl (by kernel_rfl) (g3) 1 (.slice (some ⟨sc, 0, none⟩) s.has.length C2) x12 x11 rfl rfl (Ob.there m3 1 (by simp)) ?_
  replace hrw := row_only hrw ((Only.refl g3 _).setCell 1 (.slice (some ⟨sc, 0, none⟩) s.has.length C2)) nn1.symm
  replace m3 : Ob (w4.setCell ⟨g3, 1, none⟩ (.slice (some ⟨sc, 0, none⟩) s.has.length C2)) (g3) 63 ([.int .i64 (s.size : Int), .slice (some ⟨sc, 0, none⟩) s.has.length C2, .map (some cb), .int .i64 pl, .bool s.down, .int .i64 (s.done : Int)]) := Ob.set m3 1 (.slice (some ⟨sc, 0, none⟩) s.has.length C2)
  replace bl : Below w.heap.size w (w4.setCell ⟨g3, 1, none⟩ (.slice (some ⟨sc, 0, none⟩) s.has.length C2)) := bl.trans (below_setCell _ _ _ _ _ hw3)
  generalize w4.setCell ⟨g3, 1, none⟩ (.slice (some ⟨sc, 0, none⟩) s.has.length C2) = w5b at bl m3 hrw ⊢
  clear hsc hlm
  refine wpList_nil ?_
  clear x11
  clear x12
  show Code.wp _ _ _ _ _
  refine wp_seq ?_
  have hlm := Ob.lt m3
  have hls := (Array.getElem?_eq_some_iff.1 hrw).1
  refine wr_s [.eq (.pointer (some ⟨gd, 0, none⟩)), .eq (.pointer (some ⟨gd, 0, none⟩)), .eq (.pointer (some ⟨gd, 2, none⟩)), .eq (.map (some cb)), .im w5b.heap.size l, .eq (.pointer (some ⟨g3, 2, none⟩))] (by rw [sd.1]; kernel_rfl) ⟨fun hw ac u K => ?_, fun hw ac u K => ?_, fun hw ac u K => ?_, fun hw ac u K => ?_, fun hw ac u K => ?_, fun hw ac u K => ?_, trivial⟩ ?_
  · exact st_move (.tmp 0) rfl (K.t x0 rfl)
  · exact st_nil (.tmp 13) rfl (K.dep 0 13 rfl)
  · exact st_field 63 2 (.tmp 14) rfl (K.dep 1 14 rfl) (by kernel_rfl)
  · exact st_loadc 58 (.tmp 15) rfl (by kernel_rfl) (K.dep 2 15 rfl) (Ob.cell (Ob.below m0 (bgo bl K.grow)) 2 rfl)
  · exact st_call 45 (.func 45) _ _ _ rfl rfl (one_arg (K.dep 3 16 rfl)) Try.enter45 (fk_mclone (Im.below r.im (bgo bl K.grow)) K.grow.size)
  · exact st_field 63 2 (.tmp 3) rfl (K.t x3 rfl) (by kernel_rfl)
  intro f6 w6 A hb
  replace x0 := A.t x0 rfl
  replace x3 := A.t x3 rfl
  have x17 : Fk.f (.im w5b.heap.size l) (f6.eval (.tmp 17)) w6 := A.has 4 17 rfl
  have x18 := A.e 5 18 rfl rfl
  replace m3 := Ob.below m3 hb
  replace hrw := row_below hrw hb
  replace bl := bgo bl hb
  replace sd := A.sd sd
  clear A hb
  clear x0
  obtain ⟨cc, e17, hcc, himc⟩ := x17
  replace x17 := e17
  clear e17
  have nn2 : g3 ≠ cc := by omega
  have nn3 : sc ≠ cc := by omega
  have hwcc : w.heap.size ≤ cc := by omega
  refine wl_stc 58 rfl (.tmp 18) (.tmp 17) rfl rfl (by kernel_rfl) (g3) 2 (.map (some cc)) x18 x17 rfl rfl (Ob.there m3 2 (by simp)) ?_
  replace hrw := row_only hrw ((Only.refl g3 _).setCell 2 (.map (some cc))) nn1.symm
  replace himc := himc.only ((Only.refl g3 _).setCell 2 (.map (some cc))) nn2.symm
  replace m3 : Ob (w6.setCell ⟨g3, 2, none⟩ (.map (some cc))) (g3) 63 ([.int .i64 (s.size : Int), .slice (some ⟨sc, 0, none⟩) s.has.length C2, .map (some cc), .int .i64 pl, .bool s.down, .int .i64 (s.done : Int)]) := Ob.set m3 2 (.map (some cc))
  replace bl : Below w.heap.size w (w6.setCell ⟨g3, 2, none⟩ (.map (some cc))) := bl.trans (below_setCell _ _ _ _ _ hw3)
  generalize w6.setCell ⟨g3, 2, none⟩ (.map (some cc)) = w7b at bl m3 hrw himc ⊢
  clear hcc hlm hls
  refine wpList_nil ?_
  clear x17
  clear x18
  show Code.wp _ _ _ _ _
  refine wp_seq ?_
  refine wr_a [.eq (.pointer (some ⟨g3, 0, none⟩))] (by rw [sd.1]; kernel_rfl) ⟨fun hw ac u K => ?_, trivial⟩ ?_
  · exact st_assign (.tmp 3) rfl (K.t x3 rfl)
  intro f8 w8 A hb
  replace x3 := A.t x3 rfl
  have x2 := A.e 0 2 rfl rfl
  replace m3 := Ob.below m3 hb
  replace hrw := row_below hrw hb
  replace himc := Im.below himc hb
  replace bl := bgo bl hb
  replace sd := A.sd sd
  clear A hb
  clear x3
  show Code.wp _ _ _ _ _
  refine wp_ret ?_
  repeat (first | with_reducible refine then_ret ?_ | with_reducible refine block_ret ?_)
  obtain ⟨MC, E, q1, q2, q3, q4⟩ := r.copied bl m3 hrw hvk himc hw3 hwsc hwcc nn1 nn2 nn3
  exact bodyPost_ret (v := .pointer (some ⟨g3, 0, none⟩)) (ret_slot rfl f8 _ x2 _ _) sd.2 ⟨g3, MC, E, rfl, q1, q2, q3, q4, bl⟩
end Go.Proofs.Ytjdpomilifnlaaa
namespace Go.Proofs.Ytjdpomilifnlaaa
set_option maxRecDepth 100000
open Go.RowKit
end Go.Proofs.Ytjdpomilifnlaaa
