/- MerkleRoots. What the rows of this seat share: what the listed variable gives a walk, an array of bytes opened, the start that fits. A slice of bytes that came in, opened. A slice of hashes that came in, opened. Signatures and structs with them that came in, opened. Arguments opened: numbers with their bounds, slices of hashes with their room. What the rows with three listed variables share; a slice of hashes opened as it is written. -/
import Derived.Test.YtfbfngblocfdlaaDoorM11
import Derived.Test.YtfbfngblocfdlaaDoorRows
import Derived.Test.YtfbfngblocfdlaaDoorM2
import Derived.ProofKit
import Derived.LaidMore
import Derived.OpenShut
import Derived.ShutString
import Derived.ChangeOld
import Derived.Lib.LaidTab
import Derived.SevenTiedAt
import Derived.Test.YtfbfngblocfdlaaDoorM3
import Derived.Deep.Slices
import Derived.Deep.Strs
import Derived.Test.YtfbfngblocfdlaaDoorM6
import Derived.Test.YtfbfngblocfdlaaDoorM9
import Derived.Stop.LaidErr
namespace Go.Proofs.YtfbfngblocfdlaaDoor
set_option maxRecDepth 100000
open Go.RowKit
theorem ow_only {base g : Nat} {hs : List (List (BitVec 8))} {v : Value} {w w' : World} (h : (Fk.ow base hs).f v w) (ho : Only g w w') (hg : g < base) : (Fk.ow base hs).f v w' := by
  obtain ⟨⟨h1, h2⟩, h3⟩ := h
  refine ⟨⟨h1, ?_⟩, h3⟩
  rcases h2 with h2 | ⟨k, cap, cur, e, hbg, hk, r⟩
  · exact .inl h2
  · exact .inr ⟨k, cap, cur, e, hbg, by rw [ho.block k (Array.getElem?_eq_some_iff.1 hk).1 (by omega)]; exact hk, r⟩
theorem ret_one {fn : Func} {p : Tmp} (h : fn.results = #[.cell p 4]) (a : Act) (w : World) (g : Nat) (b : Bool) (hp : a.eval (.tmp p) = .pointer (some ⟨g, 0, none⟩)) (m : Ob w g 4 [.bool b]) : (results fn a.tmps).run Tryd.prog w = .ok (.bool b) w := by
  have h1 : a.tmps.getD p undef = .pointer (some ⟨g, 0, none⟩) := hp
  have hc := m.cell 0 (v := .bool b) rfl
  have h2 : (isAgg 4).run Tryd.prog w = .ok false w := by kernel_rfl
  have hl : (loadVar 4 ⟨g, 0, none⟩).run Tryd.prog w = .ok (.bool b) w := by simp [loadVar, h2, run_load, hc]
  rw [Array.getD_eq_getD_getElem?] at h1
  simp [results, h, h1, asAddr, hl]
theorem def_setCell {w : World} {D g i : Nat} {T : TypeId} {cs : List Value} {d : Option (List Deferred)} (hD : w.heap[D]? = some (.deferred d)) (m : Ob w g T cs) (v : Value) : (w.setCell ⟨g, i, none⟩ v).heap[D]? = some (.deferred d) := by
  rw [heap_setCell_other _ _ _ _ (def_ne hD m).symm]; exact hD
theorem only_trans {g : Nat} {A B C : World} (h : Only g A B) (k : Only g B C) : Only g A C := ⟨k.os.trans h.os, k.tape.trans h.tape, k.output.trans h.output, Nat.le_trans h.size k.size, fun i hi hne => (k.block i (Nat.lt_of_lt_of_le hi h.size) hne).trans (h.block i hi hne)⟩
theorem fk_ec {f : FuncId} {args : Array Value} {w : World} {g0 : Nat} {l : List (List (BitVec 8))} (hg : g0 ≤ w.heap.size) (h : Calls Tryd.prog f args w fun e w' => ∃ u, e = .returned u ∧ (Fk.ec w.heap.size l).f u w' ∧ Below w.heap.size w w') :
    Calls Tryd.prog f args w fun e w' => ∃ u, e = .returned u ∧ (Fk.ec g0 l).f u w' ∧ Below w.heap.size w w' := by
  refine h.mono ?_
  rintro e w' ⟨u, rfl, ⟨g, r, h1, h2, h3, h4⟩, h5⟩
  exact ⟨u, rfl, ⟨g, r, Nat.le_trans hg h1, h2, h3, ow_le hg h4⟩, h5⟩
set_option maxHeartbeats 2000000 in
theorem roots_law {l : List (List (BitVec 8))} {lA : Option Addr} {lC : Nat} (z : Int) (w : World) (hK : Tab w) (htz : Tz w) (hv : (Fk.hc l).f (.slice lA (l).length lC) w) (hn : Value.slice lA (l).length lC = .slice none 0 0 ∨ ∃ ad n C, Value.slice lA (l).length lC = .slice (some ad) n C) :
    Calls Tryd.prog 3 #[.slice lA (l).length lC, .int .i64 z] w fun e w' => e = .returned (.bool true) ∧ Below w.heap.size w w' := by
  have hvs := hc_hs hv
  obtain ⟨y, ey⟩ : ∃ y, Box (mroot l = y) := ⟨_, ⟨rfl⟩⟩
  have hy : y.length = 32 := by rw [← ey.out]; exact mroot_len (hc_len hv)
  refine (callsIn_wide (n := 7)).1 ?_
  refine callsIn_of_wp_marks Tryd.func3 rfl trivial ?_ rfl
  simp only [Tryd.ntmps3, List.size_toArray, List.length_cons, List.length_nil, Nat.reduceAdd, Nat.reduceSub, Array.replicate_succ, Array.replicate_zero, List.push_toArray, List.append_toArray, List.nil_append, List.cons_append]
  refine wpIn_wide.2 ?_
  refine code_both (fun f w1 => f.tmps.size = 76 ∧ f.defers = [] ∧ f.eval (.tmp 0) = .slice lA (l).length lC ∧ f.eval (.tmp 1) = .int .i64 (z) ∧ Below w.heap.size w (w1)) ⟨rfl, rfl, rfl, rfl, Below.refl _ _⟩ ?_
  rintro f0 w0 ⟨sz, df, x0, x1, bl⟩
  have bl0 := bl
  refine wp_seq ?_
  -- R0
  refine wp_region_seq [] (by kernel_rfl) (by kernel_rfl) (by rw [sz]; kernel_rfl) (by kernel_rfl) trivial ?_
  intro f1 w1 A hb
  replace bl0 := bl
  replace x0 := (A.old 0 rfl).trans x0
  replace x1 := (A.old 1 rfl).trans x1
  replace bl := (bl.trans (Below.mono hb bl.size))
  replace sz := A.size.trans sz
  replace df := A.defs.trans df
  clear A hb
  refine wl_one (.nw w1.heap.size 22 [.slice lA (l).length lC]) rfl 2 rfl (by rw [sz]; decide) (st_box 22 (.tmp 0) rfl _ _ (by rw [show _ = _ from x0]; kernel_rfl) (Nat.le_refl _)) ?_
  intro f2 w2 df2 sz2 old2 new2 hb
  replace bl0 := bl
  replace x0 := (old2 0 rfl).trans x0
  replace x1 := (old2 1 rfl).trans x1
  have x2 : Fk.f (.nw w1.heap.size 22 [.slice lA (l).length lC]) (f2.eval (.tmp 2)) w2 := new2
  replace bl := (bl.trans (Below.mono hb bl.size))
  replace sz := sz2.trans sz
  replace df := df2.trans df
  clear df2 sz2 old2 new2 hb
  obtain ⟨g2, hg2, e2, m2⟩ := x2
  have x2 := e2
  clear e2
  have hw2 : w.heap.size ≤ g2 := Nat.le_trans bl0.size hg2
  clear x0
  refine wl_one (.nw w2.heap.size 3 [.int .i64 (z)]) rfl 3 rfl (by rw [sz]; decide) (st_box 3 (.tmp 1) rfl _ _ (by rw [show _ = _ from x1]; kernel_rfl) (Nat.le_refl _)) ?_
  intro f3 w3 df2 sz2 old2 new2 hb
  replace bl0 := bl
  replace x1 := (old2 1 rfl).trans x1
  replace x2 := (old2 2 rfl).trans x2
  have x3 : Fk.f (.nw w2.heap.size 3 [.int .i64 (z)]) (f3.eval (.tmp 3)) w3 := new2
  have lt_m2 := Ob.lt m2
  replace m2 := Ob.below m2 hb
  replace bl := (bl.trans (Below.mono hb bl.size))
  replace sz := sz2.trans sz
  replace df := df2.trans df
  clear df2 sz2 old2 new2 hb
  obtain ⟨g3, hg3, e3, m3⟩ := x3
  have x3 := e3
  clear e3
  have nm2_3 : g2 ≠ g3 := Nat.ne_of_lt (Nat.lt_of_lt_of_le lt_m2 hg3)
  have hw3 : w.heap.size ≤ g3 := Nat.le_trans bl0.size hg3
  clear x1
  refine wl_one (.nw w3.heap.size 4 [.bool false]) rfl 4 rfl (by rw [sz]; decide) (st_alloc 4 rfl _ _ (by kernel_rfl) (Nat.le_refl _)) ?_
  intro f4 w4 df2 sz2 old2 new2 hb
  replace bl0 := bl
  replace x2 := (old2 2 rfl).trans x2
  replace x3 := (old2 3 rfl).trans x3
  have x4 : Fk.f (.nw w3.heap.size 4 [.bool false]) (f4.eval (.tmp 4)) w4 := new2
  have lt_m2 := Ob.lt m2
  replace m2 := Ob.below m2 hb
  have lt_m3 := Ob.lt m3
  replace m3 := Ob.below m3 hb
  replace bl := (bl.trans (Below.mono hb bl.size))
  replace sz := sz2.trans sz
  replace df := df2.trans df
  clear df2 sz2 old2 new2 hb
  obtain ⟨g4, hg4, e4, m4⟩ := x4
  have x4 := e4
  clear e4
  have nm2_4 : g2 ≠ g4 := Nat.ne_of_lt (Nat.lt_of_lt_of_le lt_m2 hg4)
  have nm3_4 : g3 ≠ g4 := Nat.ne_of_lt (Nat.lt_of_lt_of_le lt_m3 hg4)
  have hw4 : w.heap.size ≤ g4 := Nat.le_trans bl0.size hg4
  refine wpList_nil ?_
  show Code.wp _ _ _ _ _
  refine wp_seq ?_
  refine wp_seq ?_
  by_cases h70 : 70 < l.length
  rotate_left
  · skip
    -- R1
    refine wp_all [.eq (.slice lA (l).length lC), .eq (.int .i64 (((l).length : Nat) : Int)), .eq (.bool false), .eq (.bool false), .eq (.slice lA (l).length lC), .eq (.agg ((y).map V).toArray), .eq (.slice lA (l).length lC), .eq (.agg ((y).map V).toArray), .eq (.bool false), .eq (.bool false)] Tryd.mixed (by kernel_rfl) (by kernel_rfl) (by rw [sz]; kernel_rfl) (by kernel_rfl) ⟨fun hw ac u K => ?_, fun hw ac u K => ?_, fun hw ac u K => ?_, fun hw ac u K => ?_, fun hw ac u K => ?_, fun hw ac u K => ?_, fun hw ac u K => ?_, fun hw ac u K => ?_, fun hw ac u K => ?_, fun hw ac u K => ?_, trivial⟩ ?_
    · exact st_loadc 22 (.tmp 2) rfl (by kernel_rfl) ((K.old 2 rfl).trans x2) (Ob.cell (Ob.below m2 K.grow) 0 rfl)
    · exact st_lenh (.tmp 9) rfl (fk_val (K.dep 0 9 rfl) (Fk.mono _ _ _ _ hvs (bl.trans (Below.mono K.grow bl.size))))
    · exact st_gtr 3 (.tmp 10) (.const (.int .i64 70)) rfl .i64 ((((l).length : Nat) : Int)) (70) (K.dep 1 10 rfl) rfl _ (by rw [eq_comm, decide_eq_false_iff_not]; omega)
    · exact st_move (.tmp 11) rfl (K.dep 2 11 rfl)
    · exact st_loadc 22 (.tmp 2) rfl (by kernel_rfl) ((K.old 2 rfl).trans x2) (Ob.cell (Ob.below m2 K.grow) 0 rfl)
    · exact st_call 8 (.func 8) _ _ #[.slice lA (l).length lC] rfl rfl (one_arg (K.dep 4 13 rfl)) Tryd.enter8 (fk_of (root_any l _ _ (by omega) (Fk.mono _ _ _ _ hv (bl.trans (Below.mono K.grow bl.size))) (hK.below (bl.trans (Below.mono K.grow bl.size))) ey))
    · exact st_loadc 22 (.tmp 2) rfl (by kernel_rfl) ((K.old 2 rfl).trans x2) (Ob.cell (Ob.below m2 K.grow) 0 rfl)
    · exact st_call 9 (.func 9) _ _ #[.slice lA (l).length lC] rfl rfl (one_arg (K.dep 6 15 rfl)) Tryd.enter9 (fk_of (lroot_any (by omega) _ (Fk.mono _ _ _ _ hv (bl.trans (Below.mono K.grow bl.size))) (hK.below (bl.trans (Below.mono K.grow bl.size))) ey))
    · exact st_neqh (.tmp 14) (.tmp 16) rfl (y) (y) hy hy (K.dep 5 14 rfl) (K.dep 7 16 rfl) _ (by simp)
    · exact st_pick_f' (.tmp 12) (.const (.bool true)) (.tmp 17) rfl (K.dep 3 12 rfl) (K.dep 8 17 rfl)
    intro f5 w5 A hb
    replace bl0 := bl
    replace x2 := (A.old 2 rfl).trans x2
    replace x3 := (A.old 3 rfl).trans x3
    replace x4 := (A.old 4 rfl).trans x4
    have x18 : f5.eval (.tmp 18) = .bool false := A.has 9 18 rfl
    have lt_m2 := Ob.lt m2
    replace m2 := Ob.below m2 hb
    have lt_m3 := Ob.lt m3
    replace m3 := Ob.below m3 hb
    have lt_m4 := Ob.lt m4
    replace m4 := Ob.below m4 hb
    replace bl := (bl.trans (Below.mono hb bl.size))
    replace sz := A.size.trans sz
    replace df := A.defs.trans df
    clear A hb
    show Code.wp _ _ _ _ _
    refine wp_cond_false x18 ?_
    refine wp_skip ?_
    show Code.wp _ _ _ _ _
    refine wp_seq ?_
    -- R3
    refine wp_region_seq [] (by kernel_rfl) (by kernel_rfl) (by rw [sz]; kernel_rfl) (by kernel_rfl) trivial ?_
    intro f6 w6 A hb
    replace bl0 := bl
    replace x2 := (A.old 2 rfl).trans x2
    replace x3 := (A.old 3 rfl).trans x3
    replace x4 := (A.old 4 rfl).trans x4
    replace x18 := (A.old 18 rfl).trans x18
    have lt_m2 := Ob.lt m2
    replace m2 := Ob.below m2 hb
    have lt_m3 := Ob.lt m3
    replace m3 := Ob.below m3 hb
    have lt_m4 := Ob.lt m4
    replace m4 := Ob.below m4 hb
    replace bl := (bl.trans (Below.mono hb bl.size))
    replace sz := A.size.trans sz
    replace df := A.defs.trans df
    clear A hb
    refine wl_one (.nw w6.heap.size 3 [.int .i64 0]) rfl 5 rfl (by rw [sz]; decide) (st_alloc 3 rfl _ _ (by kernel_rfl) (Nat.le_refl _)) ?_
    intro f7 w7 df2 sz2 old2 new2 hb
    replace bl0 := bl
    replace x2 := (old2 2 rfl).trans x2
    replace x3 := (old2 3 rfl).trans x3
    replace x4 := (old2 4 rfl).trans x4
    replace x18 := (old2 18 rfl).trans x18
    have x5 : Fk.f (.nw w6.heap.size 3 [.int .i64 0]) (f7.eval (.tmp 5)) w7 := new2
    have lt_m2 := Ob.lt m2
    replace m2 := Ob.below m2 hb
    have lt_m3 := Ob.lt m3
    replace m3 := Ob.below m3 hb
    have lt_m4 := Ob.lt m4
    replace m4 := Ob.below m4 hb
    replace bl := (bl.trans (Below.mono hb bl.size))
    replace sz := sz2.trans sz
    replace df := df2.trans df
    clear df2 sz2 old2 new2 hb
    obtain ⟨g5, hg5, e5, m5⟩ := x5
    have x5 := e5
    clear e5
    have nm2_5 : g2 ≠ g5 := Nat.ne_of_lt (Nat.lt_of_lt_of_le lt_m2 hg5)
    have nm3_5 : g3 ≠ g5 := Nat.ne_of_lt (Nat.lt_of_lt_of_le lt_m3 hg5)
    have nm4_5 : g4 ≠ g5 := Nat.ne_of_lt (Nat.lt_of_lt_of_le lt_m4 hg5)
    have hw5 : w.heap.size ≤ g5 := Nat.le_trans bl0.size hg5
    refine wl_stc 3 rfl (.tmp 5) (.const (.int .i64 0)) rfl rfl (by kernel_rfl) (g5) 0 (.int .i64 0) x5 rfl rfl rfl (Ob.there m5 0 (by simp)) ?_
    replace m2 : Ob (w7.setCell ⟨g5, 0, none⟩ (.int .i64 0)) (g2) 22 ([.slice lA (l).length lC]) := Ob.setCell_other m2 _ _ nm2_5
    replace m3 : Ob (w7.setCell ⟨g5, 0, none⟩ (.int .i64 0)) (g3) 3 ([.int .i64 (z)]) := Ob.setCell_other m3 _ _ nm3_5
    replace m4 : Ob (w7.setCell ⟨g5, 0, none⟩ (.int .i64 0)) (g4) 4 ([.bool false]) := Ob.setCell_other m4 _ _ nm4_5
    replace m5 : Ob (w7.setCell ⟨g5, 0, none⟩ (.int .i64 0)) (g5) 3 ([.int .i64 0]) := Ob.set m5 0 (.int .i64 0)
    replace bl : Below w.heap.size w (w7.setCell ⟨g5, 0, none⟩ (.int .i64 0)) := bl.trans (below_setCell _ _ _ _ _ hw5)
    generalize w7.setCell ⟨g5, 0, none⟩ (.int .i64 0) = w8b at bl m2 m3 m4 m5 ⊢
    refine wpList_nil ?_
    show Code.wp _ _ _ _ _
    refine wp_seq ?_
    refine wp_seq ?_
    -- R4
    refine wp_all_seq [.eq (.slice lA (l).length lC), .ec w8b.heap.size l, .ec w8b.heap.size l] (by kernel_rfl) (by kernel_rfl) (by rw [sz]; kernel_rfl) (by kernel_rfl) ⟨fun hw ac u K => ?_, fun hw ac u K => ?_, fun hw ac u K => ?_, trivial⟩ ?_
    · exact st_loadc 22 (.tmp 2) rfl (by kernel_rfl) ((K.old 2 rfl).trans x2) (Ob.cell (Ob.below m2 K.grow) 0 rfl)
    · exact st_call 11 (.func 11) _ _ #[.slice lA (l).length lC] rfl rfl (one_arg (K.dep 0 25 rfl)) Tryd.enter11 (fk_ec K.grow.size (each_any (by omega) _ (Fk.mono _ _ _ _ hv (bl.trans (Below.mono K.grow bl.size))) hn))
    · exact st_assign (.tmp 26) rfl (K.dep 1 26 rfl)
    intro f9 w9 A hb
    replace bl0 := bl
    replace x2 := (A.old 2 rfl).trans x2
    replace x3 := (A.old 3 rfl).trans x3
    replace x4 := (A.old 4 rfl).trans x4
    replace x18 := (A.old 18 rfl).trans x18
    replace x5 := (A.old 5 rfl).trans x5
    have x6 : Fk.f (.ec w8b.heap.size l) (f9.eval (.tmp 6)) w9 := A.has 2 6 rfl
    have lt_m2 := Ob.lt m2
    replace m2 := Ob.below m2 hb
    have lt_m3 := Ob.lt m3
    replace m3 := Ob.below m3 hb
    have lt_m4 := Ob.lt m4
    replace m4 := Ob.below m4 hb
    have lt_m5 := Ob.lt m5
    replace m5 := Ob.below m5 hb
    replace bl := (bl.trans (Below.mono hb bl.size))
    replace sz := A.size.trans sz
    replace df := A.defs.trans df
    clear A hb
    obtain ⟨g6, r6, hg6, e6, m6, hv6⟩ := x6
    have x6 := e6
    clear e6
    have hw6 : w.heap.size ≤ g6 := Nat.le_trans bl0.size hg6
    have hE5 := lt_m5
    show Code.wp _ _ _ _ _
    refine wp_seq ?_
    -- R5
    refine wp_all_seq [.eq (.func (.func 25) #[] #[.pointer (some ⟨g6, 0, none⟩)]), .eq (.bool true)] (by kernel_rfl) (by kernel_rfl) (by rw [sz]; kernel_rfl) (by kernel_rfl) ⟨fun hw ac u K => ?_, fun hw ac u K => ?_, trivial⟩ ?_
    · exact st_move (.tmp 6) rfl ((K.old 6 rfl).trans x6)
    · exact st_bin .neq 28 28 (.tmp 27) _ rfl (K.dep 0 27 rfl) rfl (by kernel_rfl)
    intro f10 w10 A hb
    replace bl0 := bl
    replace x2 := (A.old 2 rfl).trans x2
    replace x3 := (A.old 3 rfl).trans x3
    replace x4 := (A.old 4 rfl).trans x4
    replace x18 := (A.old 18 rfl).trans x18
    replace x5 := (A.old 5 rfl).trans x5
    replace x6 := (A.old 6 rfl).trans x6
    have x28 : f10.eval (.tmp 28) = .bool true := A.has 1 28 rfl
    have lt_m2 := Ob.lt m2
    replace m2 := Ob.below m2 hb
    have lt_m3 := Ob.lt m3
    replace m3 := Ob.below m3 hb
    have lt_m4 := Ob.lt m4
    replace m4 := Ob.below m4 hb
    have lt_m5 := Ob.lt m5
    replace m5 := Ob.below m5 hb
    replace m6 := Ob.below m6 hb
    replace hv6 := Fk.mono _ _ _ _ hv6 hb
    replace bl := (bl.trans (Below.mono hb bl.size))
    replace sz := A.size.trans sz
    replace df := A.defs.trans df
    clear A hb
    show Code.wp _ _ _ _ _
    refine wp_cond_true x28 ?_
    refine wp_seq ?_
    -- R6
    refine wp_all_seq [.eq (.func (.func 25) #[] #[.pointer (some ⟨g6, 0, none⟩)])] (by kernel_rfl) (by kernel_rfl) (by rw [sz]; kernel_rfl) (by kernel_rfl) ⟨fun hw ac u K => ?_, trivial⟩ ?_
    · exact st_move (.tmp 6) rfl ((K.old 6 rfl).trans x6)
    intro f11 w11 A hb
    replace bl0 := bl
    replace x2 := (A.old 2 rfl).trans x2
    replace x3 := (A.old 3 rfl).trans x3
    replace x4 := (A.old 4 rfl).trans x4
    replace x18 := (A.old 18 rfl).trans x18
    replace x5 := (A.old 5 rfl).trans x5
    replace x6 := (A.old 6 rfl).trans x6
    replace x28 := (A.old 28 rfl).trans x28
    have x29 : f11.eval (.tmp 29) = .func (.func 25) #[] #[.pointer (some ⟨g6, 0, none⟩)] := A.has 0 29 rfl
    have lt_m2 := Ob.lt m2
    replace m2 := Ob.below m2 hb
    have lt_m3 := Ob.lt m3
    replace m3 := Ob.below m3 hb
    have lt_m4 := Ob.lt m4
    replace m4 := Ob.below m4 hb
    have lt_m5 := Ob.lt m5
    replace m5 := Ob.below m5 hb
    replace m6 := Ob.below m6 hb
    replace hv6 := Fk.mono _ _ _ _ hv6 hb
    replace bl := (bl.trans (Below.mono hb bl.size))
    replace sz := A.size.trans sz
    replace df := A.defs.trans df
    clear A hb
    show Code.wp _ _ _ _ _
    refine wp_block ?_
    have lt2 := Ob.lt m2
    have lt3 := Ob.lt m3
    have lt4 := Ob.lt m4
    have lt5 := Ob.lt m5
    have lt6 := Ob.lt m6
    have hsw := bl.size
    have n6_5 : g6 ≠ g5 := by omega
    have htzR := htz.below bl htz.lt
    have h05 : 2 < w.heap.size := htz.lt
    refine (wpIn_wide (n := 7)).1 ?_
    refine range_gives (by decide) x29 Tryd.enter25 (each_gives (l := l) (by omega) g6 r6 w11) (fun _ => rfl)
      (fun k X => Ob X g5 3 [.int .i64 ((k : Nat) : Int)] ∧ Only g5 w11 X ∧ ¬ (1 ≤ z ∧ z ≤ ((k : Nat) : Int))) (fun c k X => c = .exit 0 ∧ ((k + 1 : Nat) : Int) = z ∧ Ob X g5 3 [.int .i64 ((k + 1 : Nat) : Int)] ∧ Only g5 w11 X) ?_ ?_ ?_ ⟨m5, Only.refl _ _, by omega⟩ ?_ ?_ ?_
    · rintro k A B ⟨h1, h2, h3⟩ hb
      exact ⟨ob_lo h1 hb lt5, only_below h2 hb, h3⟩
    · rintro c k A B ⟨h0, h1, h2, h3⟩ hb
      exact ⟨h0, h1, ob_lo h2 hb lt5, only_below h3 hb⟩
    · rintro k A ⟨_, O, _⟩
      have hb := bl.trans (O.below w.heap.size hw5 hsw)
      exact ⟨Ob.only m6 O n6_5, ow_hc (ow_only hv6 O hE5), hK.below hb, htz.below hb htz.lt⟩
    · rintro k X hk ⟨m5, O, hzk⟩ ⟨r, hl⟩
      have blX := bl.trans (O.below w.heap.size hw5 hsw)
      replace m2 := Ob.only m2 O (by omega)
      replace m3 := Ob.only m3 O (by omega)
      clear bl bl0
      obtain ⟨yk, eyk⟩ : ∃ y, Box (mroot (l.take k) = y) := ⟨_, ⟨rfl⟩⟩
      have hyk : yk.length = 32 := by rw [← eyk.out]; exact mroot_len (fun x hx => hc_len hv x (List.mem_of_mem_take hx))
      have henc : encE l k = #[.int .i64 ((k : Nat) : Int), .agg ((yk).map V).toArray] := by
        unfold encE
        rw [eyk.out]
      have hlW := (Array.getElem?_eq_some_iff.1 hl).1
      rw [show ({ tmps := (#[30, 31].zip (encE l k)).foldl (fun t (p, v) => t.setIfInBounds p v) f11.tmps, defers := [] } : Act) = rfr f11.tmps 30 31 (.int .i64 ((k : Nat) : Int)) (.agg ((yk).map V).toArray) from by rw [henc]; exact rfr_eq _ _ _ _ _]
      refine code_in (fun f w1 => f.tmps.size = 76 ∧ f.defers = [] ∧ f.eval (.tmp 2) = .pointer (some ⟨g2, 0, none⟩) ∧ f.eval (.tmp 3) = .pointer (some ⟨g3, 0, none⟩) ∧ f.eval (.tmp 5) = .pointer (some ⟨g5, 0, none⟩) ∧ f.eval (.tmp 30) = .int .i64 ((k : Nat) : Int) ∧ f.eval (.tmp 31) = .agg ((yk).map V).toArray ∧ Below X.heap.size X w1) ⟨(rfr_size _ _ _ _ _).trans sz, rfl, (rfr_old _ _ _ _ _ rfl rfl).trans x2, (rfr_old _ _ _ _ _ rfl rfl).trans x3, (rfr_old _ _ _ _ _ rfl rfl).trans x5, rfr_p _ _ _ _ _ (by rw [sz]; decide) rfl, rfr_q _ _ _ _ _ (by rw [sz]; decide), Below.refl _ _⟩ ?_
      clear sz df x2 x3 x5
      rintro f0 w0 ⟨sz, df, x2, x3, x5, x30, x31, bl⟩
      have bl0 := bl
      refine wpIn_seq ?_
      -- R7
      refine in_all_seq [.eq (.int .i64 ((k : Nat) : Int))] (by rintro ⟨_, _, h⟩; exact h) (by kernel_rfl) (by kernel_rfl) (by kernel_rfl) (by rw [sz]; kernel_rfl) (by kernel_rfl) ⟨fun hw ac u K => ?_, trivial⟩ ?_
      · exact st_assign (.tmp 30) rfl ((K.old 30 rfl).trans x30)
      intro f101 w101 A hb
      replace bl0 := bl
      replace x2 := (A.old 2 rfl).trans x2
      replace x3 := (A.old 3 rfl).trans x3
      replace x5 := (A.old 5 rfl).trans x5
      replace x30 := (A.old 30 rfl).trans x30
      replace x31 := (A.old 31 rfl).trans x31
      have x7 : f101.eval (.tmp 7) = .int .i64 ((k : Nat) : Int) := A.has 0 7 rfl
      replace bl := (bl.trans (Below.mono hb bl.size))
      replace sz := A.size.trans sz
      replace df := A.defs.trans df
      clear A hb
      clear x30
      show Code.wpIn _ _ _ _ _ _ _
      -- R8
      refine in_region_seq [] (by rintro ⟨_, _, h⟩; exact h) (by kernel_rfl) (by kernel_rfl) (by kernel_rfl) (by rw [sz]; kernel_rfl) (by kernel_rfl) trivial ?_
      intro f102 w102 A hb
      replace bl0 := bl
      replace x2 := (A.old 2 rfl).trans x2
      replace x3 := (A.old 3 rfl).trans x3
      replace x5 := (A.old 5 rfl).trans x5
      replace x31 := (A.old 31 rfl).trans x31
      replace x7 := (A.old 7 rfl).trans x7
      replace bl := (bl.trans (Below.mono hb bl.size))
      replace sz := A.size.trans sz
      replace df := A.defs.trans df
      clear A hb
      refine wl_one (.nw w102.heap.size 24 ((hz).map V)) rfl 8 rfl (by rw [sz]; decide) (st_alloc24 rfl _ (Nat.le_refl _)) ?_
      intro f103 w103 df2 sz2 old2 new2 hb
      replace bl0 := bl
      replace x2 := (old2 2 rfl).trans x2
      replace x3 := (old2 3 rfl).trans x3
      replace x5 := (old2 5 rfl).trans x5
      replace x31 := (old2 31 rfl).trans x31
      replace x7 := (old2 7 rfl).trans x7
      have x8 : Fk.f (.nw w102.heap.size 24 ((hz).map V)) (f103.eval (.tmp 8)) w103 := new2
      replace bl := (bl.trans (Below.mono hb bl.size))
      replace sz := sz2.trans sz
      replace df := df2.trans df
      clear df2 sz2 old2 new2 hb
      obtain ⟨g8, hg8, e8, m8⟩ := x8
      have x8 := e8
      clear e8
      have nm2_8 : g2 ≠ g8 := Nat.ne_of_lt (Nat.lt_of_lt_of_le (Ob.lt m2) (Nat.le_trans bl0.size hg8))
      have nm3_8 : g3 ≠ g8 := Nat.ne_of_lt (Nat.lt_of_lt_of_le (Ob.lt m3) (Nat.le_trans bl0.size hg8))
      have nm5_8 : g5 ≠ g8 := Nat.ne_of_lt (Nat.lt_of_lt_of_le (Ob.lt m5) (Nat.le_trans bl0.size hg8))
      have hw8 : X.heap.size ≤ g8 := Nat.le_trans bl0.size hg8
      refine wl_store rfl (.tmp 8) (.tmp 31) rfl rfl (g8) (yk) (hz) x8 x31 m8 hz_len hyk ?_
      replace m8 : Ob (w103.setRow g8 ((yk).map V : List Value).toArray) (g8) 24 ((yk).map V) := Ob.setRow m8 ((yk).map V)
      replace bl : Below X.heap.size X (w103.setRow g8 ((yk).map V : List Value).toArray) := bl.trans (below_setRow _ _ _ _ hw8)
      generalize w103.setRow g8 ((yk).map V : List Value).toArray = w104b at bl m8 ⊢
      refine wpList_nil ?_
      clear x31
      refine ⟨Kept.of_below bl, fun o => ?_⟩
      have ltn := bl.size
      replace m2 := ob_put o (Ob.below m2 bl) (show g2 ≠ w11.heap.size + 1 by omega)
      replace m3 := ob_put o (Ob.below m3 bl) (show g3 ≠ w11.heap.size + 1 by omega)
      replace m5 := ob_put o (Ob.below m5 bl) (show g5 ≠ w11.heap.size + 1 by omega)
      replace m8 := ob_put o m8 (show g8 ≠ w11.heap.size + 1 by omega)
      have blV := (blX.trans (Below.mono bl blX.size)).trans (below_put (B := w.heap.size) (l := w11.heap.size + 1) o (by omega) (by omega))
      have OU : Only g5 w11 (w104b.putObj (w11.heap.size + 1) o) := only_below (only_below O (Below.mono bl O.size)) (below_put _ (by omega) (by omega))
      clear bl bl0
      generalize w104b.putObj (w11.heap.size + 1) o = U at m2 m3 m5 m8 blV OU ⊢
      have bl := Only.refl g5 U
      have bl0 := bl
      have nm2_5 : g2 ≠ g5 := by omega
      have nm3_5 : g3 ≠ g5 := by omega
      have hKo : ∀ {Y : World}, Only g5 U Y → Tab Y := fun O => hK.below (blV.trans (O.below w.heap.size hw5 blV.size))
      have hvo : ∀ {Y : World}, Only g5 U Y → (Fk.hc l).f (.slice lA (l).length lC) Y := fun O => Fk.mono _ _ _ _ hv (blV.trans (O.below w.heap.size hw5 blV.size))
      refine wpIn_block ?_
      refine wpIn_seq ?_
      refine wpIn_seq ?_
      -- R9
      refine in_all [.eq (.int .i64 ((k : Nat) : Int)), .eq (.int .i64 ((k : Nat) : Int)), .eq (.bool false), .eq (.bool false), .eq (.int .i64 ((k : Nat) : Int)), .eq (.slice lA (l).length lC), .eq (.int .i64 (((l).length : Nat) : Int)), .eq (.bool false), .eq (.bool false), .eq (.bool false), .eq (.agg ((yk).map V).toArray), .eq (.slice lA (l).length lC), .eq (.int .i64 ((k : Nat) : Int)), .hc ((l).take (k)), .eq (.agg ((yk).map V).toArray), .eq (.bool false), .eq (.bool false)] (by rintro ⟨_, _, h⟩; exact h) (by kernel_rfl) Tryd.mixed (by kernel_rfl) (by kernel_rfl) (by kernel_rfl) (by kernel_rfl) (by rw [sz]; kernel_rfl) (by kernel_rfl) ⟨fun hw ac u K => ?_, fun hw ac u K => ?_, fun hw ac u K => ?_, fun hw ac u K => ?_, fun hw ac u K => ?_, fun hw ac u K => ?_, fun hw ac u K => ?_, fun hw ac u K => ?_, fun hw ac u K => ?_, fun hw ac u K => ?_, fun hw ac u K => ?_, fun hw ac u K => ?_, fun hw ac u K => ?_, fun hw ac u K => ?_, fun hw ac u K => ?_, fun hw ac u K => ?_, fun hw ac u K => ?_, trivial⟩ ?_
      · exact st_move (.tmp 7) rfl ((K.old 7 rfl).trans x7)
      · exact st_loadc 3 (.tmp 5) rfl (by kernel_rfl) ((K.old 5 rfl).trans x5) (Ob.cell (Ob.below m5 K.grow) 0 rfl)
      · exact st_neqi 3 (.tmp 32) (.tmp 33) rfl .i64 (((k : Nat) : Int)) (((k : Nat) : Int)) (K.dep 0 32 rfl) (K.dep 1 33 rfl) _ (by simp)
      · exact st_move (.tmp 34) rfl (K.dep 2 34 rfl)
      · exact st_move (.tmp 7) rfl ((K.old 7 rfl).trans x7)
      · exact st_loadc 22 (.tmp 2) rfl (by kernel_rfl) ((K.old 2 rfl).trans x2) (Ob.cell (Ob.below m2 K.grow) 0 rfl)
      · exact st_lenc (.tmp 37) rfl _ rfl (fk_val (K.dep 5 37 rfl) (hvo (only_below bl (Below.mono K.grow bl.size))))
      · exact st_gtr 3 (.tmp 36) (.tmp 38) rfl .i64 (((k : Nat) : Int)) ((((l).length : Nat) : Int)) (K.dep 4 36 rfl) (K.dep 6 38 rfl) _ (by rw [eq_comm, decide_eq_false_iff_not]; omega)
      · exact st_pick_f' (.tmp 35) (.const (.bool true)) (.tmp 39) rfl (K.dep 3 35 rfl) (K.dep 7 39 rfl)
      · exact st_move (.tmp 40) rfl (K.dep 8 40 rfl)
      · exact st_load24 (.tmp 8) rfl (g8) (yk) ((K.old 8 rfl).trans x8) hyk (Ob.below m8 K.grow)
      · exact st_loadc 22 (.tmp 2) rfl (by kernel_rfl) ((K.old 2 rfl).trans x2) (Ob.cell (Ob.below m2 K.grow) 0 rfl)
      · exact st_move (.tmp 7) rfl ((K.old 7 rfl).trans x7)
      · exact st_cuth (.tmp 43) (.tmp 44) rfl (fk_val (K.dep 11 43 rfl) (hvo (only_below bl (Below.mono K.grow bl.size)))) (k) (K.dep 12 44 rfl) (by omega)
      · exact st_call 9 (.func 9) _ _ #[ac.eval (.tmp 45)] rfl rfl (one_arg rfl) Tryd.enter9 (fk_of (lroot_any (by rw [List.length_take]; omega) _ (K.dep 13 45 rfl) (hKo (only_below bl (Below.mono K.grow bl.size))) eyk))
      · exact st_neqh (.tmp 42) (.tmp 46) rfl (yk) (yk) hyk hyk (K.dep 10 42 rfl) (K.dep 14 46 rfl) _ (by simp)
      · exact st_pick_f' (.tmp 41) (.const (.bool true)) (.tmp 47) rfl (K.dep 9 41 rfl) (K.dep 15 47 rfl)
      intro f201 w201 A hb
      replace bl0 := bl
      replace x2 := (A.old 2 rfl).trans x2
      replace x3 := (A.old 3 rfl).trans x3
      replace x5 := (A.old 5 rfl).trans x5
      replace x7 := (A.old 7 rfl).trans x7
      replace x8 := (A.old 8 rfl).trans x8
      have x48 : f201.eval (.tmp 48) = .bool false := A.has 16 48 rfl
      have lt_m2 := Ob.lt m2
      replace m2 := Ob.below m2 hb
      have lt_m3 := Ob.lt m3
      replace m3 := Ob.below m3 hb
      have lt_m5 := Ob.lt m5
      replace m5 := Ob.below m5 hb
      have lt_m8 := Ob.lt m8
      replace m8 := Ob.below m8 hb
      replace bl := (only_below bl (Below.mono hb bl.size))
      replace sz := A.size.trans sz
      replace df := A.defs.trans df
      clear A hb
      clear x7
      show Code.wpIn _ _ _ _ _ _ _
      refine wpIn_cond_false x48 ?_
      refine wpIn_skip ?_
      show Code.wpIn _ _ _ _ _ _ _
      refine wpIn_seq ?_
      -- R11
      refine in_region_seq [.eq (.int .i64 ((k : Nat) : Int)), .eq (.int .i64 ((k + 1 : Nat) : Int))] (by rintro ⟨_, _, h⟩; exact h) (by kernel_rfl) (by kernel_rfl) (by kernel_rfl) (by rw [sz]; kernel_rfl) (by kernel_rfl) ⟨fun hw ac u K => ?_, fun hw ac u K => ?_, trivial⟩ ?_
      · exact st_loadc 3 (.tmp 5) rfl (by kernel_rfl) ((K.old 5 rfl).trans x5) (Ob.cell (Ob.below m5 K.grow) 0 rfl)
      · exact st_add (.tmp 49) (.const (.int .i64 1)) rfl (k) (1) (k + 1) (K.dep 0 49 rfl) rfl (by omega) (by omega)
      intro f202 w202 A hb
      replace bl0 := bl
      replace x2 := (A.old 2 rfl).trans x2
      replace x3 := (A.old 3 rfl).trans x3
      replace x5 := (A.old 5 rfl).trans x5
      replace x8 := (A.old 8 rfl).trans x8
      replace x48 := (A.old 48 rfl).trans x48
      have x50 : f202.eval (.tmp 50) = .int .i64 ((k + 1 : Nat) : Int) := A.has 1 50 rfl
      have lt_m2 := Ob.lt m2
      replace m2 := Ob.below m2 hb
      have lt_m3 := Ob.lt m3
      replace m3 := Ob.below m3 hb
      have lt_m5 := Ob.lt m5
      replace m5 := Ob.below m5 hb
      have lt_m8 := Ob.lt m8
      replace m8 := Ob.below m8 hb
      replace bl := (only_below bl (Below.mono hb bl.size))
      replace sz := A.size.trans sz
      replace df := A.defs.trans df
      clear A hb
      refine wl_stc 3 rfl (.tmp 5) (.tmp 50) rfl rfl (by kernel_rfl) (g5) 0 (.int .i64 ((k + 1 : Nat) : Int)) x5 x50 rfl rfl (Ob.there m5 0 (by simp)) ?_
      replace m2 : Ob (w202.setCell ⟨g5, 0, none⟩ (.int .i64 ((k + 1 : Nat) : Int))) (g2) 22 ([.slice lA (l).length lC]) := Ob.setCell_other m2 _ _ nm2_5
      replace m3 : Ob (w202.setCell ⟨g5, 0, none⟩ (.int .i64 ((k + 1 : Nat) : Int))) (g3) 3 ([.int .i64 (z)]) := Ob.setCell_other m3 _ _ nm3_5
      replace m5 : Ob (w202.setCell ⟨g5, 0, none⟩ (.int .i64 ((k + 1 : Nat) : Int))) (g5) 3 ([.int .i64 ((k + 1 : Nat) : Int)]) := Ob.set m5 0 (.int .i64 ((k + 1 : Nat) : Int))
      replace m8 : Ob (w202.setCell ⟨g5, 0, none⟩ (.int .i64 ((k + 1 : Nat) : Int))) (g8) 24 ((yk).map V) := Ob.setCell_other m8 _ _ nm5_8.symm
      replace bl : Only g5 U (w202.setCell ⟨g5, 0, none⟩ (.int .i64 ((k + 1 : Nat) : Int))) := bl.setCell _ _
      generalize w202.setCell ⟨g5, 0, none⟩ (.int .i64 ((k + 1 : Nat) : Int)) = w203b at bl m2 m3 m5 m8 ⊢
      refine wpList_nil ?_
      clear x50
      show Code.wpIn _ _ _ _ _ _ _
      refine wpIn_seq ?_
      by_cases hst : ((k + 1 : Nat) : Int) = z
      rotate_left
      · skip
        -- R12
        refine in_all_seq [.eq (.int .i64 ((k + 1 : Nat) : Int)), .eq (.int .i64 (z)), .eq (.bool false)] (by rintro ⟨_, _, h⟩; exact h) (by kernel_rfl) (by kernel_rfl) (by kernel_rfl) (by rw [sz]; kernel_rfl) (by kernel_rfl) ⟨fun hw ac u K => ?_, fun hw ac u K => ?_, fun hw ac u K => ?_, trivial⟩ ?_
        · exact st_loadc 3 (.tmp 5) rfl (by kernel_rfl) ((K.old 5 rfl).trans x5) (Ob.cell (Ob.below m5 K.grow) 0 rfl)
        · exact st_loadc 3 (.tmp 3) rfl (by kernel_rfl) ((K.old 3 rfl).trans x3) (Ob.cell (Ob.below m3 K.grow) 0 rfl)
        · exact st_eqi 3 (.tmp 51) (.tmp 52) rfl .i64 (((k + 1 : Nat) : Int)) ((z)) (K.dep 0 51 rfl) (K.dep 1 52 rfl) _ (by rw [eq_comm, decide_eq_false_iff_not]; exact hst)
        intro f204 w204 A hb
        replace bl0 := bl
        replace x2 := (A.old 2 rfl).trans x2
        replace x3 := (A.old 3 rfl).trans x3
        replace x5 := (A.old 5 rfl).trans x5
        replace x8 := (A.old 8 rfl).trans x8
        replace x48 := (A.old 48 rfl).trans x48
        have x53 : f204.eval (.tmp 53) = .bool false := A.has 2 53 rfl
        have lt_m2 := Ob.lt m2
        replace m2 := Ob.below m2 hb
        have lt_m3 := Ob.lt m3
        replace m3 := Ob.below m3 hb
        have lt_m5 := Ob.lt m5
        replace m5 := Ob.below m5 hb
        have lt_m8 := Ob.lt m8
        replace m8 := Ob.below m8 hb
        replace bl := (only_below bl (Below.mono hb bl.size))
        replace sz := A.size.trans sz
        replace df := A.defs.trans df
        clear A hb
        show Code.wpIn _ _ _ _ _ _ _
        refine wpIn_cond_false x53 ?_
        refine wpIn_skip ?_
        show Kept _ _ _ ∧ _
        exact ⟨Kept.of_only bl (by omega), m5, only_trans OU bl, by omega⟩
      -- R12
      refine in_all_seq [.eq (.int .i64 ((k + 1 : Nat) : Int)), .eq (.int .i64 (z)), .eq (.bool true)] (by rintro ⟨_, _, h⟩; exact h) (by kernel_rfl) (by kernel_rfl) (by kernel_rfl) (by rw [sz]; kernel_rfl) (by kernel_rfl) ⟨fun hw ac u K => ?_, fun hw ac u K => ?_, fun hw ac u K => ?_, trivial⟩ ?_
      · exact st_loadc 3 (.tmp 5) rfl (by kernel_rfl) ((K.old 5 rfl).trans x5) (Ob.cell (Ob.below m5 K.grow) 0 rfl)
      · exact st_loadc 3 (.tmp 3) rfl (by kernel_rfl) ((K.old 3 rfl).trans x3) (Ob.cell (Ob.below m3 K.grow) 0 rfl)
      · exact st_eqi 3 (.tmp 51) (.tmp 52) rfl .i64 (((k + 1 : Nat) : Int)) ((z)) (K.dep 0 51 rfl) (K.dep 1 52 rfl) _ (by rw [eq_comm, decide_eq_true_iff]; exact hst)
      intro f204 w204 A hb
      replace bl0 := bl
      replace x2 := (A.old 2 rfl).trans x2
      replace x3 := (A.old 3 rfl).trans x3
      replace x5 := (A.old 5 rfl).trans x5
      replace x8 := (A.old 8 rfl).trans x8
      replace x48 := (A.old 48 rfl).trans x48
      have x53 : f204.eval (.tmp 53) = .bool true := A.has 2 53 rfl
      have lt_m2 := Ob.lt m2
      replace m2 := Ob.below m2 hb
      have lt_m3 := Ob.lt m3
      replace m3 := Ob.below m3 hb
      have lt_m5 := Ob.lt m5
      replace m5 := Ob.below m5 hb
      have lt_m8 := Ob.lt m8
      replace m8 := Ob.below m8 hb
      replace bl := (only_below bl (Below.mono hb bl.size))
      replace sz := A.size.trans sz
      replace df := A.defs.trans df
      clear A hb
      show Code.wpIn _ _ _ _ _ _ _
      refine wpIn_cond_true x53 ?_
      refine wpIn_exit ?_
      refine block_other rfl ?_
      show Kept _ _ _ ∧ _
      exact ⟨Kept.of_only bl (by omega), rfl, hst, m5, only_trans OU bl⟩
    · rintro X ⟨m5, O, hzk⟩ hD
      show Code.wp _ _ _ _ _
      have blX := bl.trans (O.below w.heap.size hw5 hsw)
      replace m2 := Ob.only m2 O (by omega)
      replace m3 := Ob.only m3 O (by omega)
      replace m4 := Ob.only m4 O (by omega)
      refine code_both (fun f w1 => f.tmps.size = 76 ∧ f.defers = [{ target := .collected w11.heap.size, args := #[] }] ∧ f.eval (.tmp 2) = .pointer (some ⟨g2, 0, none⟩) ∧ f.eval (.tmp 3) = .pointer (some ⟨g3, 0, none⟩) ∧ f.eval (.tmp 4) = .pointer (some ⟨g4, 0, none⟩) ∧ f.eval (.tmp 5) = .pointer (some ⟨g5, 0, none⟩) ∧ Ob w1 g2 22 [.slice lA (l).length lC] ∧ Ob w1 g3 3 [.int .i64 (z)] ∧ Ob w1 g4 4 [.bool false] ∧ Ob w1 g5 3 [.int .i64 (((l).length + 1 : Nat) : Int)] ∧ w1.heap[w11.heap.size]? = some (.deferred (some [])) ∧ Below w.heap.size w w1) ⟨sz, by rw [← df], x2, x3, x4, x5, m2, m3, m4, m5, hD, blX⟩ ?_
      clear sz df x2 x3 x4 x5 m2 m3 m4 m5 bl bl0 hD blX
      rintro fB wB ⟨sz, df, x2, x3, x4, x5, m2, m3, m4, m5, hD, bl⟩
      have bl0 := bl
      have hz3 : z < 1 ∨ ((l).length : Int) + 1 < z := by omega
      rcases hz3 with hz3 | hz3
      rotate_left
      · skip
        show Code.wp _ _ _ _ _
        refine wp_seq ?_
        refine wp_seq ?_
        -- R13
        refine wp_all_seq [.eq (.int .i64 (z)), .eq (.bool true), .eq (.bool true), .eq (.int .i64 (z)), .eq (.slice lA (l).length lC), .eq (.int .i64 (((l).length : Nat) : Int)), .eq (.bool false), .eq (.bool false)] (by kernel_rfl) (by kernel_rfl) (by rw [sz]; kernel_rfl) (by kernel_rfl) ⟨fun hw ac u K => ?_, fun hw ac u K => ?_, fun hw ac u K => ?_, fun hw ac u K => ?_, fun hw ac u K => ?_, fun hw ac u K => ?_, fun hw ac u K => ?_, fun hw ac u K => ?_, trivial⟩ ?_
        · exact st_loadc 3 (.tmp 3) rfl (by kernel_rfl) ((K.old 3 rfl).trans x3) (Ob.cell (Ob.below m3 K.grow) 0 rfl)
        · exact st_geq 3 (.tmp 54) (.const (.int .i64 1)) rfl .i64 ((z)) (1) (K.dep 0 54 rfl) rfl _ (by rw [eq_comm, decide_eq_true_iff]; omega)
        · exact st_move (.tmp 55) rfl (K.dep 1 55 rfl)
        · exact st_loadc 3 (.tmp 3) rfl (by kernel_rfl) ((K.old 3 rfl).trans x3) (Ob.cell (Ob.below m3 K.grow) 0 rfl)
        · exact st_loadc 22 (.tmp 2) rfl (by kernel_rfl) ((K.old 2 rfl).trans x2) (Ob.cell (Ob.below m2 K.grow) 0 rfl)
        · exact st_lenh (.tmp 58) rfl (fk_val (K.dep 4 58 rfl) (Fk.mono _ _ _ _ hvs (bl.trans (Below.mono K.grow bl.size))))
        · exact st_leq 3 (.tmp 57) (.tmp 59) rfl .i64 ((z)) ((((l).length : Nat) : Int)) (K.dep 3 57 rfl) (K.dep 5 59 rfl) _ (by rw [eq_comm, decide_eq_false_iff_not]; omega)
        · exact st_pick_t (.tmp 56) (.tmp 60) (.const (.bool false)) rfl (K.dep 2 56 rfl) (K.dep 6 60 rfl)
        intro f12 w12 A hb
        replace bl0 := bl
        replace x2 := (A.old 2 rfl).trans x2
        replace x3 := (A.old 3 rfl).trans x3
        replace x4 := (A.old 4 rfl).trans x4
        replace x5 := (A.old 5 rfl).trans x5
        have x61 : f12.eval (.tmp 61) = .bool false := A.has 7 61 rfl
        have lt_m2 := Ob.lt m2
        replace m2 := Ob.below m2 hb
        have lt_m3 := Ob.lt m3
        replace m3 := Ob.below m3 hb
        have lt_m4 := Ob.lt m4
        replace m4 := Ob.below m4 hb
        have lt_m5 := Ob.lt m5
        replace m5 := Ob.below m5 hb
        replace hD := (hb.block _ (Array.getElem?_eq_some_iff.1 hD).1).trans hD
        replace bl := (bl.trans (Below.mono hb bl.size))
        replace sz := A.size.trans sz
        replace df := A.defs.trans df
        clear A hb
        show Code.wp _ _ _ _ _
        refine wp_cond_false x61 ?_
        refine wp_skip ?_
        show Code.wp _ _ _ _ _
        refine wp_seq ?_
        -- R15
        refine wp_region_seq [.eq (.int .i64 (((l).length + 1 : Nat) : Int)), .eq (.slice lA (l).length lC), .eq (.int .i64 (((l).length : Nat) : Int)), .eq (.int .i64 (((l).length + 1 : Nat) : Int)), .eq (.bool true), .eq (.bool true), .eq (.bool true), .eq (.bool true)] (by kernel_rfl) (by kernel_rfl) (by rw [sz]; kernel_rfl) (by kernel_rfl) ⟨fun hw ac u K => ?_, fun hw ac u K => ?_, fun hw ac u K => ?_, fun hw ac u K => ?_, fun hw ac u K => ?_, fun hw ac u K => ?_, fun hw ac u K => ?_, fun hw ac u K => ?_, trivial⟩ ?_
        · exact st_loadc 3 (.tmp 5) rfl (by kernel_rfl) ((K.old 5 rfl).trans x5) (Ob.cell (Ob.below m5 K.grow) 0 rfl)
        · exact st_loadc 22 (.tmp 2) rfl (by kernel_rfl) ((K.old 2 rfl).trans x2) (Ob.cell (Ob.below m2 K.grow) 0 rfl)
        · exact st_lenh (.tmp 69) rfl (fk_val (K.dep 1 69 rfl) (Fk.mono _ _ _ _ hvs (bl.trans (Below.mono K.grow bl.size))))
        · exact st_add (.tmp 70) (.const (.int .i64 1)) rfl ((l).length) (1) ((l).length + 1) (K.dep 2 70 rfl) rfl (by omega) (by omega)
        · exact st_eqi 3 (.tmp 68) (.tmp 71) rfl .i64 ((((l).length + 1 : Nat) : Int)) ((((l).length + 1 : Nat) : Int)) (K.dep 0 68 rfl) (K.dep 3 71 rfl) _ (by simp)
        · exact st_move (.tmp 72) rfl (K.dep 4 72 rfl)
        · exact st_call 10 (.func 10) _ _ #[] rfl rfl rfl Tryd.enter10 (fk_of (awake_any _ (hK.below (bl.trans (Below.mono K.grow bl.size)))))
        · exact st_pick_t (.tmp 73) (.tmp 74) (.const (.bool false)) rfl (K.dep 5 73 rfl) (K.dep 6 74 rfl)
        intro f13 w13 A hb
        replace bl0 := bl
        replace x2 := (A.old 2 rfl).trans x2
        replace x3 := (A.old 3 rfl).trans x3
        replace x4 := (A.old 4 rfl).trans x4
        replace x5 := (A.old 5 rfl).trans x5
        replace x61 := (A.old 61 rfl).trans x61
        have x75 : f13.eval (.tmp 75) = .bool true := A.has 7 75 rfl
        have lt_m2 := Ob.lt m2
        replace m2 := Ob.below m2 hb
        have lt_m3 := Ob.lt m3
        replace m3 := Ob.below m3 hb
        have lt_m4 := Ob.lt m4
        replace m4 := Ob.below m4 hb
        have lt_m5 := Ob.lt m5
        replace m5 := Ob.below m5 hb
        replace hD := (hb.block _ (Array.getElem?_eq_some_iff.1 hD).1).trans hD
        replace bl := (bl.trans (Below.mono hb bl.size))
        replace sz := A.size.trans sz
        replace df := A.defs.trans df
        clear A hb
        refine wl_stc 4 rfl (.tmp 4) (.tmp 75) rfl rfl (by kernel_rfl) (g4) 0 (.bool true) x4 x75 rfl rfl (Ob.there m4 0 (by simp)) ?_
        replace hD := def_setCell (i := 0) hD m4 (.bool true)
        replace m2 : Ob (w13.setCell ⟨g4, 0, none⟩ (.bool true)) (g2) 22 ([.slice lA (l).length lC]) := Ob.setCell_other m2 _ _ nm2_4
        replace m3 : Ob (w13.setCell ⟨g4, 0, none⟩ (.bool true)) (g3) 3 ([.int .i64 (z)]) := Ob.setCell_other m3 _ _ nm3_4
        replace m4 : Ob (w13.setCell ⟨g4, 0, none⟩ (.bool true)) (g4) 4 ([.bool true]) := Ob.set m4 0 (.bool true)
        replace m5 : Ob (w13.setCell ⟨g4, 0, none⟩ (.bool true)) (g5) 3 ([.int .i64 (((l).length + 1 : Nat) : Int)]) := Ob.setCell_other m5 _ _ nm4_5.symm
        replace bl : Below w.heap.size w (w13.setCell ⟨g4, 0, none⟩ (.bool true)) := bl.trans (below_setCell _ _ _ _ _ hw4)
        generalize w13.setCell ⟨g4, 0, none⟩ (.bool true) = w14b at bl m2 m3 m4 m5 hD ⊢
        refine wpList_nil ?_
        clear x75
        show Code.wp _ _ _ _ _
        refine wp_ret ?_
        repeat (first | with_reducible refine then_ret ?_ | with_reducible refine block_ret ?_)
        show LeavesInM _ _ _ _ _ _ _ _ _
        rw [df]
        have hDn := def_ne hD m4
        refine ⟨by simp, .inl ⟨_, _, rfl, run_takeDeferred hD, ?_⟩⟩
        exact ⟨_, ret_one rfl f13 _ g4 true x4 (ob_put _ m4 hDn), rfl, bl.trans (below_put _ (by omega) (Array.getElem?_eq_some_iff.1 hD).1)⟩
      show Code.wp _ _ _ _ _
      refine wp_seq ?_
      refine wp_seq ?_
      -- R13
      refine wp_all_seq [.eq (.int .i64 (z)), .eq (.bool false), .eq (.bool false), .any, .any, .any, .any, .eq (.bool false)] (by kernel_rfl) (by kernel_rfl) (by rw [sz]; kernel_rfl) (by kernel_rfl) ⟨fun hw ac u K => ?_, fun hw ac u K => ?_, fun hw ac u K => ?_, fun hw ac u K => ?_, fun hw ac u K => ?_, fun hw ac u K => ?_, fun hw ac u K => ?_, fun hw ac u K => ?_, trivial⟩ ?_
      · exact st_loadc 3 (.tmp 3) rfl (by kernel_rfl) ((K.old 3 rfl).trans x3) (Ob.cell (Ob.below m3 K.grow) 0 rfl)
      · exact st_geq 3 (.tmp 54) (.const (.int .i64 1)) rfl .i64 ((z)) (1) (K.dep 0 54 rfl) rfl _ (by rw [eq_comm, decide_eq_false_iff_not]; omega)
      · exact st_move (.tmp 55) rfl (K.dep 1 55 rfl)
      · exact (Bool.false_ne_true hw).elim
      · exact (Bool.false_ne_true hw).elim
      · exact (Bool.false_ne_true hw).elim
      · exact (Bool.false_ne_true hw).elim
      · exact st_pick_f' (.tmp 56) (.tmp 60) (.const (.bool false)) rfl (K.dep 2 56 rfl) rfl
      intro f12 w12 A hb
      replace bl0 := bl
      replace x2 := (A.old 2 rfl).trans x2
      replace x3 := (A.old 3 rfl).trans x3
      replace x4 := (A.old 4 rfl).trans x4
      replace x5 := (A.old 5 rfl).trans x5
      have x61 : f12.eval (.tmp 61) = .bool false := A.has 7 61 rfl
      have lt_m2 := Ob.lt m2
      replace m2 := Ob.below m2 hb
      have lt_m3 := Ob.lt m3
      replace m3 := Ob.below m3 hb
      have lt_m4 := Ob.lt m4
      replace m4 := Ob.below m4 hb
      have lt_m5 := Ob.lt m5
      replace m5 := Ob.below m5 hb
      replace hD := (hb.block _ (Array.getElem?_eq_some_iff.1 hD).1).trans hD
      replace bl := (bl.trans (Below.mono hb bl.size))
      replace sz := A.size.trans sz
      replace df := A.defs.trans df
      clear A hb
      show Code.wp _ _ _ _ _
      refine wp_cond_false x61 ?_
      refine wp_skip ?_
      show Code.wp _ _ _ _ _
      refine wp_seq ?_
      -- R15
      refine wp_region_seq [.eq (.int .i64 (((l).length + 1 : Nat) : Int)), .eq (.slice lA (l).length lC), .eq (.int .i64 (((l).length : Nat) : Int)), .eq (.int .i64 (((l).length + 1 : Nat) : Int)), .eq (.bool true), .eq (.bool true), .eq (.bool true), .eq (.bool true)] (by kernel_rfl) (by kernel_rfl) (by rw [sz]; kernel_rfl) (by kernel_rfl) ⟨fun hw ac u K => ?_, fun hw ac u K => ?_, fun hw ac u K => ?_, fun hw ac u K => ?_, fun hw ac u K => ?_, fun hw ac u K => ?_, fun hw ac u K => ?_, fun hw ac u K => ?_, trivial⟩ ?_
      · exact st_loadc 3 (.tmp 5) rfl (by kernel_rfl) ((K.old 5 rfl).trans x5) (Ob.cell (Ob.below m5 K.grow) 0 rfl)
      · exact st_loadc 22 (.tmp 2) rfl (by kernel_rfl) ((K.old 2 rfl).trans x2) (Ob.cell (Ob.below m2 K.grow) 0 rfl)
      · exact st_lenh (.tmp 69) rfl (fk_val (K.dep 1 69 rfl) (Fk.mono _ _ _ _ hvs (bl.trans (Below.mono K.grow bl.size))))
      · exact st_add (.tmp 70) (.const (.int .i64 1)) rfl ((l).length) (1) ((l).length + 1) (K.dep 2 70 rfl) rfl (by omega) (by omega)
      · exact st_eqi 3 (.tmp 68) (.tmp 71) rfl .i64 ((((l).length + 1 : Nat) : Int)) ((((l).length + 1 : Nat) : Int)) (K.dep 0 68 rfl) (K.dep 3 71 rfl) _ (by simp)
      · exact st_move (.tmp 72) rfl (K.dep 4 72 rfl)
      · exact st_call 10 (.func 10) _ _ #[] rfl rfl rfl Tryd.enter10 (fk_of (awake_any _ (hK.below (bl.trans (Below.mono K.grow bl.size)))))
      · exact st_pick_t (.tmp 73) (.tmp 74) (.const (.bool false)) rfl (K.dep 5 73 rfl) (K.dep 6 74 rfl)
      intro f13 w13 A hb
      replace bl0 := bl
      replace x2 := (A.old 2 rfl).trans x2
      replace x3 := (A.old 3 rfl).trans x3
      replace x4 := (A.old 4 rfl).trans x4
      replace x5 := (A.old 5 rfl).trans x5
      replace x61 := (A.old 61 rfl).trans x61
      have x75 : f13.eval (.tmp 75) = .bool true := A.has 7 75 rfl
      have lt_m2 := Ob.lt m2
      replace m2 := Ob.below m2 hb
      have lt_m3 := Ob.lt m3
      replace m3 := Ob.below m3 hb
      have lt_m4 := Ob.lt m4
      replace m4 := Ob.below m4 hb
      have lt_m5 := Ob.lt m5
      replace m5 := Ob.below m5 hb
      replace hD := (hb.block _ (Array.getElem?_eq_some_iff.1 hD).1).trans hD
      replace bl := (bl.trans (Below.mono hb bl.size))
      replace sz := A.size.trans sz
      replace df := A.defs.trans df
      clear A hb
      refine wl_stc 4 rfl (.tmp 4) (.tmp 75) rfl rfl (by kernel_rfl) (g4) 0 (.bool true) x4 x75 rfl rfl (Ob.there m4 0 (by simp)) ?_
      replace hD := def_setCell (i := 0) hD m4 (.bool true)
      replace m2 : Ob (w13.setCell ⟨g4, 0, none⟩ (.bool true)) (g2) 22 ([.slice lA (l).length lC]) := Ob.setCell_other m2 _ _ nm2_4
      replace m3 : Ob (w13.setCell ⟨g4, 0, none⟩ (.bool true)) (g3) 3 ([.int .i64 (z)]) := Ob.setCell_other m3 _ _ nm3_4
      replace m4 : Ob (w13.setCell ⟨g4, 0, none⟩ (.bool true)) (g4) 4 ([.bool true]) := Ob.set m4 0 (.bool true)
      replace m5 : Ob (w13.setCell ⟨g4, 0, none⟩ (.bool true)) (g5) 3 ([.int .i64 (((l).length + 1 : Nat) : Int)]) := Ob.setCell_other m5 _ _ nm4_5.symm
      replace bl : Below w.heap.size w (w13.setCell ⟨g4, 0, none⟩ (.bool true)) := bl.trans (below_setCell _ _ _ _ _ hw4)
      generalize w13.setCell ⟨g4, 0, none⟩ (.bool true) = w14b at bl m2 m3 m4 m5 hD ⊢
      refine wpList_nil ?_
      clear x75
      show Code.wp _ _ _ _ _
      refine wp_ret ?_
      repeat (first | with_reducible refine then_ret ?_ | with_reducible refine block_ret ?_)
      show LeavesInM _ _ _ _ _ _ _ _ _
      rw [df]
      have hDn := def_ne hD m4
      refine ⟨by simp, .inl ⟨_, _, rfl, run_takeDeferred hD, ?_⟩⟩
      exact ⟨_, ret_one rfl f13 _ g4 true x4 (ob_put _ m4 hDn), rfl, bl.trans (below_put _ (by omega) (Array.getElem?_eq_some_iff.1 hD).1)⟩
    rintro c k X hk ⟨rfl, hst, m5, O⟩ hD
    refine wpIn_exit ?_
    refine block_exit ?_
    show Code.wp _ _ _ _ _
    have blX := bl.trans (O.below w.heap.size hw5 hsw)
    replace m2 := Ob.only m2 O (by omega)
    replace m3 := Ob.only m3 O (by omega)
    replace m4 := Ob.only m4 O (by omega)
    refine code_both (fun f w1 => f.tmps.size = 76 ∧ f.defers = [{ target := .collected w11.heap.size, args := #[] }] ∧ f.eval (.tmp 2) = .pointer (some ⟨g2, 0, none⟩) ∧ f.eval (.tmp 3) = .pointer (some ⟨g3, 0, none⟩) ∧ f.eval (.tmp 4) = .pointer (some ⟨g4, 0, none⟩) ∧ f.eval (.tmp 5) = .pointer (some ⟨g5, 0, none⟩) ∧ Ob w1 g2 22 [.slice lA (l).length lC] ∧ Ob w1 g3 3 [.int .i64 (z)] ∧ Ob w1 g4 4 [.bool false] ∧ Ob w1 g5 3 [.int .i64 ((k + 1 : Nat) : Int)] ∧ w1.heap[w11.heap.size]? = some (.deferred (some [])) ∧ Below w.heap.size w w1) ⟨sz, by rw [← df], x2, x3, x4, x5, m2, m3, m4, m5, hD, blX⟩ ?_
    clear sz df x2 x3 x4 x5 m2 m3 m4 m5 bl bl0 hD blX
    rintro fB wB ⟨sz, df, x2, x3, x4, x5, m2, m3, m4, m5, hD, bl⟩
    have bl0 := bl
    by_cases hkl : k < (l).length
    rotate_left
    · skip
      show Code.wp _ _ _ _ _
      refine wp_seq ?_
      refine wp_seq ?_
      -- R13
      refine wp_all_seq [.eq (.int .i64 (z)), .eq (.bool true), .eq (.bool true), .eq (.int .i64 (z)), .eq (.slice lA (l).length lC), .eq (.int .i64 (((l).length : Nat) : Int)), .eq (.bool false), .eq (.bool false)] (by kernel_rfl) (by kernel_rfl) (by rw [sz]; kernel_rfl) (by kernel_rfl) ⟨fun hw ac u K => ?_, fun hw ac u K => ?_, fun hw ac u K => ?_, fun hw ac u K => ?_, fun hw ac u K => ?_, fun hw ac u K => ?_, fun hw ac u K => ?_, fun hw ac u K => ?_, trivial⟩ ?_
      · exact st_loadc 3 (.tmp 3) rfl (by kernel_rfl) ((K.old 3 rfl).trans x3) (Ob.cell (Ob.below m3 K.grow) 0 rfl)
      · exact st_geq 3 (.tmp 54) (.const (.int .i64 1)) rfl .i64 ((z)) (1) (K.dep 0 54 rfl) rfl _ (by rw [eq_comm, decide_eq_true_iff]; omega)
      · exact st_move (.tmp 55) rfl (K.dep 1 55 rfl)
      · exact st_loadc 3 (.tmp 3) rfl (by kernel_rfl) ((K.old 3 rfl).trans x3) (Ob.cell (Ob.below m3 K.grow) 0 rfl)
      · exact st_loadc 22 (.tmp 2) rfl (by kernel_rfl) ((K.old 2 rfl).trans x2) (Ob.cell (Ob.below m2 K.grow) 0 rfl)
      · exact st_lenh (.tmp 58) rfl (fk_val (K.dep 4 58 rfl) (Fk.mono _ _ _ _ hvs (bl.trans (Below.mono K.grow bl.size))))
      · exact st_leq 3 (.tmp 57) (.tmp 59) rfl .i64 ((z)) ((((l).length : Nat) : Int)) (K.dep 3 57 rfl) (K.dep 5 59 rfl) _ (by rw [eq_comm, decide_eq_false_iff_not]; omega)
      · exact st_pick_t (.tmp 56) (.tmp 60) (.const (.bool false)) rfl (K.dep 2 56 rfl) (K.dep 6 60 rfl)
      intro f12 w12 A hb
      replace bl0 := bl
      replace x2 := (A.old 2 rfl).trans x2
      replace x3 := (A.old 3 rfl).trans x3
      replace x4 := (A.old 4 rfl).trans x4
      replace x5 := (A.old 5 rfl).trans x5
      have x61 : f12.eval (.tmp 61) = .bool false := A.has 7 61 rfl
      have lt_m2 := Ob.lt m2
      replace m2 := Ob.below m2 hb
      have lt_m3 := Ob.lt m3
      replace m3 := Ob.below m3 hb
      have lt_m4 := Ob.lt m4
      replace m4 := Ob.below m4 hb
      have lt_m5 := Ob.lt m5
      replace m5 := Ob.below m5 hb
      replace hD := (hb.block _ (Array.getElem?_eq_some_iff.1 hD).1).trans hD
      replace bl := (bl.trans (Below.mono hb bl.size))
      replace sz := A.size.trans sz
      replace df := A.defs.trans df
      clear A hb
      show Code.wp _ _ _ _ _
      refine wp_cond_false x61 ?_
      refine wp_skip ?_
      show Code.wp _ _ _ _ _
      refine wp_seq ?_
      -- R15
      refine wp_region_seq [.eq (.int .i64 ((k + 1 : Nat) : Int)), .eq (.slice lA (l).length lC), .eq (.int .i64 (((l).length : Nat) : Int)), .eq (.int .i64 (((l).length + 1 : Nat) : Int)), .eq (.bool true), .eq (.bool true), .eq (.bool true), .eq (.bool true)] (by kernel_rfl) (by kernel_rfl) (by rw [sz]; kernel_rfl) (by kernel_rfl) ⟨fun hw ac u K => ?_, fun hw ac u K => ?_, fun hw ac u K => ?_, fun hw ac u K => ?_, fun hw ac u K => ?_, fun hw ac u K => ?_, fun hw ac u K => ?_, fun hw ac u K => ?_, trivial⟩ ?_
      · exact st_loadc 3 (.tmp 5) rfl (by kernel_rfl) ((K.old 5 rfl).trans x5) (Ob.cell (Ob.below m5 K.grow) 0 rfl)
      · exact st_loadc 22 (.tmp 2) rfl (by kernel_rfl) ((K.old 2 rfl).trans x2) (Ob.cell (Ob.below m2 K.grow) 0 rfl)
      · exact st_lenh (.tmp 69) rfl (fk_val (K.dep 1 69 rfl) (Fk.mono _ _ _ _ hvs (bl.trans (Below.mono K.grow bl.size))))
      · exact st_add (.tmp 70) (.const (.int .i64 1)) rfl ((l).length) (1) ((l).length + 1) (K.dep 2 70 rfl) rfl (by omega) (by omega)
      · exact st_eqi 3 (.tmp 68) (.tmp 71) rfl .i64 (((k + 1 : Nat) : Int)) ((((l).length + 1 : Nat) : Int)) (K.dep 0 68 rfl) (K.dep 3 71 rfl) _ (by rw [eq_comm, decide_eq_true_iff]; omega)
      · exact st_move (.tmp 72) rfl (K.dep 4 72 rfl)
      · exact st_call 10 (.func 10) _ _ #[] rfl rfl rfl Tryd.enter10 (fk_of (awake_any _ (hK.below (bl.trans (Below.mono K.grow bl.size)))))
      · exact st_pick_t (.tmp 73) (.tmp 74) (.const (.bool false)) rfl (K.dep 5 73 rfl) (K.dep 6 74 rfl)
      intro f13 w13 A hb
      replace bl0 := bl
      replace x2 := (A.old 2 rfl).trans x2
      replace x3 := (A.old 3 rfl).trans x3
      replace x4 := (A.old 4 rfl).trans x4
      replace x5 := (A.old 5 rfl).trans x5
      replace x61 := (A.old 61 rfl).trans x61
      have x75 : f13.eval (.tmp 75) = .bool true := A.has 7 75 rfl
      have lt_m2 := Ob.lt m2
      replace m2 := Ob.below m2 hb
      have lt_m3 := Ob.lt m3
      replace m3 := Ob.below m3 hb
      have lt_m4 := Ob.lt m4
      replace m4 := Ob.below m4 hb
      have lt_m5 := Ob.lt m5
      replace m5 := Ob.below m5 hb
      replace hD := (hb.block _ (Array.getElem?_eq_some_iff.1 hD).1).trans hD
      replace bl := (bl.trans (Below.mono hb bl.size))
      replace sz := A.size.trans sz
      replace df := A.defs.trans df
      clear A hb
      refine wl_stc 4 rfl (.tmp 4) (.tmp 75) rfl rfl (by kernel_rfl) (g4) 0 (.bool true) x4 x75 rfl rfl (Ob.there m4 0 (by simp)) ?_
      replace hD := def_setCell (i := 0) hD m4 (.bool true)
      replace m2 : Ob (w13.setCell ⟨g4, 0, none⟩ (.bool true)) (g2) 22 ([.slice lA (l).length lC]) := Ob.setCell_other m2 _ _ nm2_4
      replace m3 : Ob (w13.setCell ⟨g4, 0, none⟩ (.bool true)) (g3) 3 ([.int .i64 (z)]) := Ob.setCell_other m3 _ _ nm3_4
      replace m4 : Ob (w13.setCell ⟨g4, 0, none⟩ (.bool true)) (g4) 4 ([.bool true]) := Ob.set m4 0 (.bool true)
      replace m5 : Ob (w13.setCell ⟨g4, 0, none⟩ (.bool true)) (g5) 3 ([.int .i64 ((k + 1 : Nat) : Int)]) := Ob.setCell_other m5 _ _ nm4_5.symm
      replace bl : Below w.heap.size w (w13.setCell ⟨g4, 0, none⟩ (.bool true)) := bl.trans (below_setCell _ _ _ _ _ hw4)
      generalize w13.setCell ⟨g4, 0, none⟩ (.bool true) = w14b at bl m2 m3 m4 m5 hD ⊢
      refine wpList_nil ?_
      clear x75
      show Code.wp _ _ _ _ _
      refine wp_ret ?_
      repeat (first | with_reducible refine then_ret ?_ | with_reducible refine block_ret ?_)
      show LeavesInM _ _ _ _ _ _ _ _ _
      rw [df]
      have hDn := def_ne hD m4
      refine ⟨by simp, .inl ⟨_, _, rfl, run_takeDeferred hD, ?_⟩⟩
      exact ⟨_, ret_one rfl f13 _ g4 true x4 (ob_put _ m4 hDn), rfl, bl.trans (below_put _ (by omega) (Array.getElem?_eq_some_iff.1 hD).1)⟩
    show Code.wp _ _ _ _ _
    refine wp_seq ?_
    refine wp_seq ?_
    -- R13
    refine wp_all_seq [.eq (.int .i64 (z)), .eq (.bool true), .eq (.bool true), .eq (.int .i64 (z)), .eq (.slice lA (l).length lC), .eq (.int .i64 (((l).length : Nat) : Int)), .eq (.bool true), .eq (.bool true)] (by kernel_rfl) (by kernel_rfl) (by rw [sz]; kernel_rfl) (by kernel_rfl) ⟨fun hw ac u K => ?_, fun hw ac u K => ?_, fun hw ac u K => ?_, fun hw ac u K => ?_, fun hw ac u K => ?_, fun hw ac u K => ?_, fun hw ac u K => ?_, fun hw ac u K => ?_, trivial⟩ ?_
    · exact st_loadc 3 (.tmp 3) rfl (by kernel_rfl) ((K.old 3 rfl).trans x3) (Ob.cell (Ob.below m3 K.grow) 0 rfl)
    · exact st_geq 3 (.tmp 54) (.const (.int .i64 1)) rfl .i64 ((z)) (1) (K.dep 0 54 rfl) rfl _ (by rw [eq_comm, decide_eq_true_iff]; omega)
    · exact st_move (.tmp 55) rfl (K.dep 1 55 rfl)
    · exact st_loadc 3 (.tmp 3) rfl (by kernel_rfl) ((K.old 3 rfl).trans x3) (Ob.cell (Ob.below m3 K.grow) 0 rfl)
    · exact st_loadc 22 (.tmp 2) rfl (by kernel_rfl) ((K.old 2 rfl).trans x2) (Ob.cell (Ob.below m2 K.grow) 0 rfl)
    · exact st_lenh (.tmp 58) rfl (fk_val (K.dep 4 58 rfl) (Fk.mono _ _ _ _ hvs (bl.trans (Below.mono K.grow bl.size))))
    · exact st_leq 3 (.tmp 57) (.tmp 59) rfl .i64 ((z)) ((((l).length : Nat) : Int)) (K.dep 3 57 rfl) (K.dep 5 59 rfl) _ (by rw [eq_comm, decide_eq_true_iff]; omega)
    · exact st_pick_t (.tmp 56) (.tmp 60) (.const (.bool false)) rfl (K.dep 2 56 rfl) (K.dep 6 60 rfl)
    intro f12 w12 A hb
    replace bl0 := bl
    replace x2 := (A.old 2 rfl).trans x2
    replace x3 := (A.old 3 rfl).trans x3
    replace x4 := (A.old 4 rfl).trans x4
    replace x5 := (A.old 5 rfl).trans x5
    have x61 : f12.eval (.tmp 61) = .bool true := A.has 7 61 rfl
    have lt_m2 := Ob.lt m2
    replace m2 := Ob.below m2 hb
    have lt_m3 := Ob.lt m3
    replace m3 := Ob.below m3 hb
    have lt_m4 := Ob.lt m4
    replace m4 := Ob.below m4 hb
    have lt_m5 := Ob.lt m5
    replace m5 := Ob.below m5 hb
    replace hD := (hb.block _ (Array.getElem?_eq_some_iff.1 hD).1).trans hD
    replace bl := (bl.trans (Below.mono hb bl.size))
    replace sz := A.size.trans sz
    replace df := A.defs.trans df
    clear A hb
    show Code.wp _ _ _ _ _
    refine wp_cond_true x61 ?_
    refine wp_seq ?_
    -- R14
    refine wp_region_seq [.eq (.int .i64 ((k + 1 : Nat) : Int)), .eq (.int .i64 (z)), .eq (.bool true), .eq (.bool true), .eq (.bool true), .eq (.bool true)] (by kernel_rfl) (by kernel_rfl) (by rw [sz]; kernel_rfl) (by kernel_rfl) ⟨fun hw ac u K => ?_, fun hw ac u K => ?_, fun hw ac u K => ?_, fun hw ac u K => ?_, fun hw ac u K => ?_, fun hw ac u K => ?_, trivial⟩ ?_
    · exact st_loadc 3 (.tmp 5) rfl (by kernel_rfl) ((K.old 5 rfl).trans x5) (Ob.cell (Ob.below m5 K.grow) 0 rfl)
    · exact st_loadc 3 (.tmp 3) rfl (by kernel_rfl) ((K.old 3 rfl).trans x3) (Ob.cell (Ob.below m3 K.grow) 0 rfl)
    · exact st_eqi 3 (.tmp 62) (.tmp 63) rfl .i64 (((k + 1 : Nat) : Int)) ((z)) (K.dep 0 62 rfl) (K.dep 1 63 rfl) _ (by rw [eq_comm, decide_eq_true_iff]; exact hst)
    · exact st_move (.tmp 64) rfl (K.dep 2 64 rfl)
    · exact st_call 10 (.func 10) _ _ #[] rfl rfl rfl Tryd.enter10 (fk_of (awake_any _ (hK.below (bl.trans (Below.mono K.grow bl.size)))))
    · exact st_pick_t (.tmp 65) (.tmp 66) (.const (.bool false)) rfl (K.dep 3 65 rfl) (K.dep 4 66 rfl)
    intro f13 w13 A hb
    replace bl0 := bl
    replace x2 := (A.old 2 rfl).trans x2
    replace x3 := (A.old 3 rfl).trans x3
    replace x4 := (A.old 4 rfl).trans x4
    replace x5 := (A.old 5 rfl).trans x5
    replace x61 := (A.old 61 rfl).trans x61
    have x67 : f13.eval (.tmp 67) = .bool true := A.has 5 67 rfl
    have lt_m2 := Ob.lt m2
    replace m2 := Ob.below m2 hb
    have lt_m3 := Ob.lt m3
    replace m3 := Ob.below m3 hb
    have lt_m4 := Ob.lt m4
    replace m4 := Ob.below m4 hb
    have lt_m5 := Ob.lt m5
    replace m5 := Ob.below m5 hb
    replace hD := (hb.block _ (Array.getElem?_eq_some_iff.1 hD).1).trans hD
    replace bl := (bl.trans (Below.mono hb bl.size))
    replace sz := A.size.trans sz
    replace df := A.defs.trans df
    clear A hb
    refine wl_stc 4 rfl (.tmp 4) (.tmp 67) rfl rfl (by kernel_rfl) (g4) 0 (.bool true) x4 x67 rfl rfl (Ob.there m4 0 (by simp)) ?_
    replace hD := def_setCell (i := 0) hD m4 (.bool true)
    replace m2 : Ob (w13.setCell ⟨g4, 0, none⟩ (.bool true)) (g2) 22 ([.slice lA (l).length lC]) := Ob.setCell_other m2 _ _ nm2_4
    replace m3 : Ob (w13.setCell ⟨g4, 0, none⟩ (.bool true)) (g3) 3 ([.int .i64 (z)]) := Ob.setCell_other m3 _ _ nm3_4
    replace m4 : Ob (w13.setCell ⟨g4, 0, none⟩ (.bool true)) (g4) 4 ([.bool true]) := Ob.set m4 0 (.bool true)
    replace m5 : Ob (w13.setCell ⟨g4, 0, none⟩ (.bool true)) (g5) 3 ([.int .i64 ((k + 1 : Nat) : Int)]) := Ob.setCell_other m5 _ _ nm4_5.symm
    replace bl : Below w.heap.size w (w13.setCell ⟨g4, 0, none⟩ (.bool true)) := bl.trans (below_setCell _ _ _ _ _ hw4)
    generalize w13.setCell ⟨g4, 0, none⟩ (.bool true) = w14b at bl m2 m3 m4 m5 hD ⊢
    refine wpList_nil ?_
    clear x67
    show Code.wp _ _ _ _ _
    refine wp_ret ?_
    repeat (first | with_reducible refine then_ret ?_ | with_reducible refine block_ret ?_)
    show LeavesInM _ _ _ _ _ _ _ _ _
    rw [df]
    have hDn := def_ne hD m4
    refine ⟨by simp, .inl ⟨_, _, rfl, run_takeDeferred hD, ?_⟩⟩
    exact ⟨_, ret_one rfl f13 _ g4 true x4 (ob_put _ m4 hDn), rfl, bl.trans (below_put _ (by omega) (Array.getElem?_eq_some_iff.1 hD).1)⟩
  -- R1
  refine wp_all [.eq (.slice lA (l).length lC), .eq (.int .i64 (((l).length : Nat) : Int)), .eq (.bool true), .eq (.bool true), .any, .any, .any, .any, .any, .eq (.bool true)] Tryd.mixed (by kernel_rfl) (by kernel_rfl) (by rw [sz]; kernel_rfl) (by kernel_rfl) ⟨fun hw ac u K => ?_, fun hw ac u K => ?_, fun hw ac u K => ?_, fun hw ac u K => ?_, fun hw ac u K => ?_, fun hw ac u K => ?_, fun hw ac u K => ?_, fun hw ac u K => ?_, fun hw ac u K => ?_, fun hw ac u K => ?_, trivial⟩ ?_
  · exact st_loadc 22 (.tmp 2) rfl (by kernel_rfl) ((K.old 2 rfl).trans x2) (Ob.cell (Ob.below m2 K.grow) 0 rfl)
  · exact st_lenh (.tmp 9) rfl (fk_val (K.dep 0 9 rfl) (Fk.mono _ _ _ _ hvs (bl.trans (Below.mono K.grow bl.size))))
  · exact st_gtr 3 (.tmp 10) (.const (.int .i64 70)) rfl .i64 ((((l).length : Nat) : Int)) (70) (K.dep 1 10 rfl) rfl _ (by rw [eq_comm, decide_eq_true_iff]; omega)
  · exact st_move (.tmp 11) rfl (K.dep 2 11 rfl)
  · exact (Bool.false_ne_true hw).elim
  · exact (Bool.false_ne_true hw).elim
  · exact (Bool.false_ne_true hw).elim
  · exact (Bool.false_ne_true hw).elim
  · exact (Bool.false_ne_true hw).elim
  · exact st_pick_t (.tmp 12) (.const (.bool true)) (.tmp 17) rfl (K.dep 3 12 rfl) rfl
  intro f5 w5 A hb
  replace bl0 := bl
  replace x2 := (A.old 2 rfl).trans x2
  replace x3 := (A.old 3 rfl).trans x3
  replace x4 := (A.old 4 rfl).trans x4
  have x18 : f5.eval (.tmp 18) = .bool true := A.has 9 18 rfl
  have lt_m2 := Ob.lt m2
  replace m2 := Ob.below m2 hb
  have lt_m3 := Ob.lt m3
  replace m3 := Ob.below m3 hb
  have lt_m4 := Ob.lt m4
  replace m4 := Ob.below m4 hb
  replace bl := (bl.trans (Below.mono hb bl.size))
  replace sz := A.size.trans sz
  replace df := A.defs.trans df
  clear A hb
  show Code.wp _ _ _ _ _
  refine wp_cond_true x18 ?_
  refine wp_seq ?_
  -- R2
  refine wp_region_seq [.eq (.slice lA (l).length lC), .eq (.int .i64 (((l).length : Nat) : Int)), .eq (.bool true), .eq (.bool true), .eq (.bool true), .eq (.bool true)] (by kernel_rfl) (by kernel_rfl) (by rw [sz]; kernel_rfl) (by kernel_rfl) ⟨fun hw ac u K => ?_, fun hw ac u K => ?_, fun hw ac u K => ?_, fun hw ac u K => ?_, fun hw ac u K => ?_, fun hw ac u K => ?_, trivial⟩ ?_
  · exact st_loadc 22 (.tmp 2) rfl (by kernel_rfl) ((K.old 2 rfl).trans x2) (Ob.cell (Ob.below m2 K.grow) 0 rfl)
  · exact st_lenh (.tmp 19) rfl (fk_val (K.dep 0 19 rfl) (Fk.mono _ _ _ _ hvs (bl.trans (Below.mono K.grow bl.size))))
  · exact st_gtr 3 (.tmp 20) (.const (.int .i64 70)) rfl .i64 ((((l).length : Nat) : Int)) (70) (K.dep 1 20 rfl) rfl _ (by rw [eq_comm, decide_eq_true_iff]; omega)
  · exact st_move (.tmp 21) rfl (K.dep 2 21 rfl)
  · exact st_call 10 (.func 10) _ _ #[] rfl rfl rfl Tryd.enter10 (fk_of (awake_any _ (hK.below (bl.trans (Below.mono K.grow bl.size)))))
  · exact st_pick_t (.tmp 22) (.tmp 23) (.const (.bool false)) rfl (K.dep 3 22 rfl) (K.dep 4 23 rfl)
  intro f6 w6 A hb
  replace bl0 := bl
  replace x2 := (A.old 2 rfl).trans x2
  replace x3 := (A.old 3 rfl).trans x3
  replace x4 := (A.old 4 rfl).trans x4
  replace x18 := (A.old 18 rfl).trans x18
  have x24 : f6.eval (.tmp 24) = .bool true := A.has 5 24 rfl
  have lt_m2 := Ob.lt m2
  replace m2 := Ob.below m2 hb
  have lt_m3 := Ob.lt m3
  replace m3 := Ob.below m3 hb
  have lt_m4 := Ob.lt m4
  replace m4 := Ob.below m4 hb
  replace bl := (bl.trans (Below.mono hb bl.size))
  replace sz := A.size.trans sz
  replace df := A.defs.trans df
  clear A hb
  refine wl_stc 4 rfl (.tmp 4) (.tmp 24) rfl rfl (by kernel_rfl) (g4) 0 (.bool true) x4 x24 rfl rfl (Ob.there m4 0 (by simp)) ?_
  replace m2 : Ob (w6.setCell ⟨g4, 0, none⟩ (.bool true)) (g2) 22 ([.slice lA (l).length lC]) := Ob.setCell_other m2 _ _ nm2_4
  replace m3 : Ob (w6.setCell ⟨g4, 0, none⟩ (.bool true)) (g3) 3 ([.int .i64 (z)]) := Ob.setCell_other m3 _ _ nm3_4
  replace m4 : Ob (w6.setCell ⟨g4, 0, none⟩ (.bool true)) (g4) 4 ([.bool true]) := Ob.set m4 0 (.bool true)
  replace bl : Below w.heap.size w (w6.setCell ⟨g4, 0, none⟩ (.bool true)) := bl.trans (below_setCell _ _ _ _ _ hw4)
  generalize w6.setCell ⟨g4, 0, none⟩ (.bool true) = w7b at bl m2 m3 m4 ⊢
  refine wpList_nil ?_
  clear x24
  show Code.wp _ _ _ _ _
  refine wp_ret ?_
  repeat (first | with_reducible refine then_ret ?_ | with_reducible refine block_ret ?_)
  show LeavesInM _ _ _ _ _ _ _ _ _
  rw [df]
  exact ⟨_, ret_one rfl f6 _ g4 true x4 m4, rfl, bl⟩
end Go.Proofs.YtfbfngblocfdlaaDoor
namespace Go.Proofs.YtfbfngblocfdlaaDoor
set_option maxRecDepth 100000
open Go.ChangeShapes Go.WideShapes Go.ChangeAt Go.RowKit

theorem own : ownKnob Tryd.prog.godebug = none := by kernel_rfl
theorem laidOut : laidOutB Tryd.prog = true := by kernel_rfl
theorem gK : Tryd.prog.globalNamed "syngraph/sha.roundNumbers" = some 0 := by kernel_rfl
theorem tK : (Tryd.prog.globals[0]?).map (·.type) = some 74 := by kernel_rfl
theorem cells63 : Tryd.prog.cellsOf 63 = 1 := by kernel_rfl
theorem cells74 : Tryd.prog.cellsOf 74 = 64 := by kernel_rfl
theorem cells5 : Tryd.prog.cellsOf 5 = 1 := by kernel_rfl
theorem cells24 : Tryd.prog.cellsOf 24 = 32 := by kernel_rfl
theorem under63 : Tryd.prog.underlying 63 = some (.int .u32) := by kernel_rfl
/-- What the rows list. -/
def laidK : List (String × DataW Unit) := [("syngraph/sha.roundNumbers", Rows.laid_syngraph_sha_roundNumbers)]
theorem laidK_tab : laidK = [("syngraph/sha.roundNumbers", Lib.tabData .u32 (KN.map vl))] := by kernel_rfl
theorem hasK_of {W : World} (h : laidMetH Tryd.prog laidK W) : HasK W 0 ∧ 0 < W.heap.size := by
  rw [MakeChecks.laidMetH_plain _ _ _ (by kernel_rfl), laidK_tab] at h
  have hT := Lib.tabIs_of_head gK tK Tryd.under74 under63 cells63 cells74 h
  have hc : ∀ i, i < 64 → W.cell? ⟨0, i, none⟩ = some (.int .u32 (vl (KN.getD i 0))) := fun i hi => by
    rw [hT.cell gK i (by simpa [KN] using hi)]
    have hi' : i < KN.length := by simpa [KN] using hi
    simp [hi']
  exact ⟨hc, block_lt_of_cell (hc 0 (by omega))⟩
/-- An array of bytes, by value, opened. -/
theorem open_arr8 {H : Type} {enc : TypeId × Value → H} {P : Program} {w : World} {r : Reach} {b0 base : Nat} {spare : Nat → Bool} {held : Bool} {t e : TypeId} {n : Nat} {v : Value} {d : DataW H} {p : List MemPlace}
    (ht : P.underlying t = some (.array n e)) (he : P.underlying e = some (.int .u8)) (hce : P.cellsOf e = 1) (hct : P.cellsOf t = n)
    (hv : Value.okWide P w r b0 t v) (h : DataW.Trod enc P w base spare held t v d p) : ∃ xs : List (BitVec 8), xs.length = n ∧ v = .agg (xs.map V).toArray := by
  unfold Value.okWide at hv
  rw [ht] at hv
  obtain ⟨cs, rfl, hsz, _⟩ := hv
  obtain ⟨fuel, hf⟩ := h
  obtain ⟨ys, m, _, _, hl, hn, hel⟩ := DataW.trod_array ht hf
  have hcell : ∀ i, i < n → ∃ z : Int, cs.toList[i]? = some (.int .u8 z) ∧ 0 ≤ z ∧ z < 256 := fun i hi => by
    have h1 := hel i hi
    rw [hce, List.getElem?_eq_getElem (by omega)] at h1
    obtain ⟨z, hc, _, hw⟩ := DataW.trod_int he h1
    refine ⟨z, ?_, ?_⟩
    · have := congrArg (·[0]?) hc
      simpa [List.getElem?_take, List.getElem?_drop, Value.cells] using this
    · have := bounds_u8 hw
      omega
  refine ⟨cs.toList.map fun v => match v with | .int _ z => BitVec.ofInt 8 z | _ => 0, ?_, ?_⟩
  · rw [List.length_map, Array.length_toList]; omega
  · congr 1
    apply Array.toList_inj.1
    apply List.ext_getElem?
    intro i
    by_cases hi : i < n
    · obtain ⟨z, hz, h0, h1⟩ := hcell i hi
      rw [hz]
      simp only [List.getElem?_map, hz, Option.map_some, List.map_map, Function.comp]
      simp only [V, bv]
      rw [BitVec.toNat_ofInt]
      congr 2
      omega
    · rw [List.getElem?_eq_none (by simp; omega), List.getElem?_eq_none (by simp; omega)]
theorem door_met (os : Os) (args : Array Value) : laidMetH Tryd.prog laidK ((World.doorLaid Tryd.prog 400 os).forCall (fun _ _ => 0) ⟨#[], args, []⟩).memory :=
  laidMetH_of_parts3 (fuel := 8) (laidMet_of_run' 8 (by kernel_rfl) (by kernel_rfl)) (by kernel_rfl) (by kernel_rfl)
end Go.Proofs.YtfbfngblocfdlaaDoor
namespace Go.Proofs.YtfbfngblocfdlaaDoor
set_option maxRecDepth 100000
open Go.ChangeShapes Go.WideShapes Go.ChangeAt Go.RowKit
theorem bv_ofInt (z : Int) (h0 : 0 ≤ z) (h1 : z < 256) : bv (BitVec.ofInt 8 z) = z := by
  unfold bv
  rw [BitVec.toNat_ofInt]
  omega
theorem sl_of {H : Type} {enc : TypeId × Value → H} {W : World} {a : Option Addr} {len cap : Nat} {d : DataW H} {p : List MemPlace}
    (h : DataW.Trod enc Tryd.prog W 0 (fun _ => true) true 35 (.slice a len cap) d p) : ∃ bs b o, Sl W a len cap bs b o ∧ len ≤ maxLen := by
  obtain ⟨fuel, hf⟩ := h
  rcases open_ints Tryd.under35 Tryd.under5 (by kernel_rfl) hf with ⟨hcs, _⟩ | ⟨x, l, c, zs, hcs, _, hl, hm, hz, _, hcell, hwz⟩
  · simp [Value.cells] at hcs
    obtain ⟨rfl, rfl, rfl⟩ := hcs
    exact ⟨[], 0, 0, ⟨rfl, Nat.le_refl _, fun _ => ⟨rfl, rfl⟩, fun h => absurd h (by omega)⟩, by unfold maxLen; omega⟩
  · simp [Value.cells] at hcs
    obtain ⟨rfl, rfl, rfl⟩ := hcs
    have hlen : zs.length = cap := by simpa using hz
    refine ⟨(zs.take len).map (BitVec.ofInt 8), x.block, x.off, ⟨?_, hl, fun h => by (cases h), fun hp => ?_⟩, by unfold maxLen at *; omega⟩
    · rw [List.length_map, List.length_take]; omega
    · have hspot : x.spot = none := by
        have := hcell 0 (by omega)
        simp only [Addr.add, if_true] at this
        unfold World.cell? at this
        split at this
        · split at this
          · cases this
          · rename_i h; simpa using h
        · cases this
      have hx : x = ⟨x.block, x.off, none⟩ := by rw [← hspot]
      have hadd : ∀ i, x.add i = ⟨x.block, x.off + i, none⟩ := fun i => by
        unfold Addr.add
        split
        · rename_i h; subst h; rw [Nat.add_zero]; exact hx
        · rfl
      refine ⟨by rw [← hx], ?_, ?_⟩
      · have := block_lt_of_cell (hcell 0 (by omega))
        simpa [Addr.add] using this
      · intro i hi
        have hil : i < zs.length := by rw [List.length_map, List.length_take] at hi; omega
        have hin : i < len := by rw [List.length_map, List.length_take] at hi; omega
        rw [← hadd, hcell i hil]
        have hb := bounds_u8 (hwz (zs[i]) (List.getElem_mem hil))
        have e1 : zs.getD i 0 = zs[i] := by simp [hil]
        have e2 : ((zs.take len).map (BitVec.ofInt 8)).getD i 0 = BitVec.ofInt 8 zs[i] := by simp [hil, hin]
        rw [e1, e2, bv_ofInt _ (by omega) (by omega)]
end Go.Proofs.YtfbfngblocfdlaaDoor
namespace Go.Proofs.YtfbfngblocfdlaaDoor
set_option maxRecDepth 100000
open Go.ChangeShapes Go.WideShapes Go.ChangeAt Go.RowKit
theorem add_plain {w : World} {x : Addr} {v : Value} (h : w.cell? x = some v) : ∀ i, x.add i = ⟨x.block, x.off + i, none⟩ := by
  have hspot : x.spot = none := by
    unfold World.cell? at h
    split at h
    · split at h
      · cases h
      · rename_i h2; simpa using h2
    · cases h
  intro i
  unfold Addr.add
  split
  · rename_i h2; subst h2; rw [Nat.add_zero, ← hspot]
  · rfl
theorem Tryd.under22 : Tryd.prog.underlying 22 = some (.slice 24) := by kernel_rfl
theorem hl_of {H : Type} {enc : TypeId × Value → H} {W : World} {A : Option Addr} {N C : Nat} {d : DataW H} {p : List MemPlace}
    (h : DataW.Trod enc Tryd.prog W 0 (fun _ => true) true 22 (.slice A N C) d p) : ∃ lb lo hs, Hl W A lb lo hs ∧ N = hs.length ∧ N ≤ maxLen := by
  obtain ⟨fuel, hf⟩ := h
  rcases Deep.open_slice Tryd.under22 hf with ⟨hcs, _⟩ | ⟨a, len, cap, m, n, D, Pl, hcs, _, hl, hm, hmm, _, hel⟩
  · simp [Value.cells] at hcs
    obtain ⟨rfl, rfl, rfl⟩ := hcs
    exact ⟨0, 0, [], ⟨fun h => absurd h (by simp), fun h => absurd h (by simp), fun i x hi => by simp at hi⟩, rfl, by unfold maxLen; omega⟩
  · simp [Value.cells] at hcs
    obtain ⟨rfl, rfl, rfl⟩ := hcs
    have hmc : m = C := by simpa using hmm
    subst hmc
    rw [cells24] at hel
    obtain ⟨F, hF⟩ := Deep.choose_lt (α := List (BitVec 8)) (n := N) (p := fun i x => x.length = 32 ∧ ∀ j, j < 32 → W.cell? (a.add (i * 32 + j)) = some (.int .u8 (bv (x.getD j 0)))) (fun i hi => by
      obtain ⟨cs', h1, h2⟩ := hel i (by omega)
      obtain ⟨_, hlen, hcell⟩ := World.cells?_some h1
      obtain ⟨ys, m', _, _, hl', hn, hel'⟩ := DataW.trod_array Tryd.under24 h2
      have hz : ∀ j, j < 32 → ∃ z : Int, cs'[j]? = some (.int .u8 z) ∧ 0 ≤ z ∧ z < 256 := fun j hj => by
        have h3 := hel' j hj
        rw [cells5, List.getElem?_eq_getElem (by omega)] at h3
        obtain ⟨z, hc, _, hw⟩ := DataW.trod_int Tryd.under5 h3
        refine ⟨z, ?_, ?_⟩
        · have := congrArg (·[0]?) hc
          simpa [List.getElem?_take, List.getElem?_drop, Value.cells] using this
        · have := bounds_u8 hw
          omega
      refine ⟨cs'.map fun v => match v with | .int _ z => BitVec.ofInt 8 z | _ => 0, by rw [List.length_map]; exact hlen, fun j hj => ?_⟩
      obtain ⟨z, hz1, h0, h256⟩ := hz j hj
      rw [← Deep.add_add, hcell j hj, hz1]
      have : bv (BitVec.ofInt 8 z) = z := bv_ofInt z h0 h256
      simp [hz1, this])
    have hbase : 0 < N → ∀ i, a.add i = ⟨a.block, a.off + i, none⟩ := fun hp => by
      have h0 := (hF 0 hp).2 0 (by omega)
      have e0 : a.add (0 * 32 + 0) = a := by simp [Addr.add]
      rw [e0] at h0
      exact add_plain h0
    refine ⟨a.block, a.off, (List.range N).map F, ⟨fun hp => ?_, fun hp => ?_, fun i x hi => ?_⟩, by simp, by unfold maxLen at *; omega⟩
    · rw [List.length_map, List.length_range] at hp
      have := hbase hp 0
      have e0 : a.add 0 = a := by simp [Addr.add]
      rw [e0, Nat.add_zero] at this
      rw [← this]
    · rw [List.length_map, List.length_range] at hp
      have h0 := (hF 0 hp).2 0 (by omega)
      have e0 : a.add (0 * 32 + 0) = a := by simp [Addr.add]
      rw [e0] at h0
      exact block_lt_of_cell h0
    · obtain ⟨h1, h2⟩ := List.getElem?_eq_some_iff.1 hi
      have hiN : i < N := by simpa using h1
      have e : x = F i := by rw [← h2]; simp
      subst e
      refine ⟨(hF i hiN).1, fun j hj => ?_⟩
      have hj' : j < 32 := by rw [(hF i hiN).1] at hj; exact hj
      have := (hF i hiN).2 j hj'
      rw [hbase (by omega), ← Nat.add_assoc] at this
      exact this
end Go.Proofs.YtfbfngblocfdlaaDoor
namespace Go.Proofs.YtfbfngblocfdlaaDoor
set_option maxRecDepth 100000
open Go.ChangeShapes Go.WideShapes Go.ChangeAt Go.RowKit
/-- The types and places of a struct's fields. -/
def fldS (P : Program) (t : TypeId) : Option (List (TypeId × Nat)) := match P.underlying t with | some (.struct fs) => some (fs.toList.map fun f => (f.type, f.offset)) | _ => none
section
variable {H : Type} {enc : TypeId × Value → H} {W : World}
theorem parts_of {t : TypeId} {l : List (TypeId × Nat)} (hF : fldS Tryd.prog t = some l) {fuel : Nat} {cs : List Value} {x : DataW H × List MemPlace} (h : DataW.trod enc Tryd.prog W 0 (fun _ => true) true fuel t cs = some x) :
    cs.length = Tryd.prog.cellsOf t ∧ ∀ (i : Nat) (ty : TypeId) (off : Nat), l[i]? = some (ty, off) → ∃ n y, DataW.trod enc Tryd.prog W 0 (fun _ => true) true n ty ((cs.drop off).take (Tryd.prog.cellsOf ty)) = some y := by
  unfold fldS at hF
  cases hu : Tryd.prog.underlying t with
  | none => rw [hu] at hF; simp at hF
  | some td =>
    rw [hu] at hF
    cases td <;> simp only [] at hF <;> try (cases hF)
    rename_i fs
    obtain ⟨xs, n, _, rfl, hl, hlen, hf⟩ := DataW.trod_struct hu h
    refine ⟨hl, fun i ty off hi => ?_⟩
    rw [List.getElem?_map] at hi
    cases hfi : fs.toList[i]? with
    | none => rw [hfi] at hi; cases hi
    | some f =>
      rw [hfi] at hi
      obtain ⟨rfl, rfl⟩ : f.type = ty ∧ f.offset = off := by simpa using hi
      have hi2 : i < fs.toList.length := (List.getElem?_eq_some_iff.1 hfi).1
      have hi3 : i < xs.length := by simp only [Array.length_toList] at hi2; omega
      exact ⟨n, xs[i], (hf i f (by simpa using hfi)).trans (List.getElem?_eq_getElem hi3)⟩
theorem int_part {n : Nat} {cs : List Value} {y : DataW H × List MemPlace} (h : DataW.trod enc Tryd.prog W 0 (fun _ => true) true n 3 cs = some y) : ∃ z : Int, cs = [.int .i64 z] ∧ -9223372036854775808 ≤ z ∧ z ≤ 9223372036854775807 := by
  obtain ⟨z, hc, _, hw⟩ := DataW.trod_int Tryd.under3 h
  refine ⟨z, by simpa [Value.cells] using hc, ?_⟩
  have := bounds_i64 hw
  omega
theorem hs_part {n : Nat} {cs : List Value} {y : DataW H × List MemPlace} (h : DataW.trod enc Tryd.prog W 0 (fun _ => true) true n 22 cs = some y) : ∃ A C hs, cs = [.slice A hs.length C] ∧ (Fk.hs hs).f (.slice A hs.length C) W := by
  have key : ∀ A N C, cs = [.slice A N C] → ∃ A C hs, cs = [.slice A hs.length C] ∧ (Fk.hs hs).f (.slice A hs.length C) W := by
    intro A N C e
    obtain ⟨lb, lo, hs, hl, hn, _⟩ := hl_of (A := A) (N := N) (C := C) (d := y.1) (p := y.2) ⟨n, by rw [show (Value.slice A N C).cells.toList = cs from by rw [e]; rfl]; exact h⟩
    subst hn
    exact ⟨A, C, hs, e, A, C, lb, lo, rfl, hl⟩
  rcases Deep.open_slice Tryd.under22 h with ⟨hcs, _⟩ | ⟨a, len, cap, m, n', D, Pl, hcs, _⟩
  · exact key _ _ _ hcs
  · exact key _ _ _ hcs
theorem sl_part {n : Nat} {cs : List Value} {y : DataW H × List MemPlace} (h : DataW.trod enc Tryd.prog W 0 (fun _ => true) true n 35 cs = some y) : ∃ v bs, cs = [v] ∧ (Fk.sl bs).f v W := by
  have key : ∀ A N C, cs = [.slice A N C] → ∃ v bs, cs = [v] ∧ (Fk.sl bs).f v W := by
    intro A N C e
    obtain ⟨bs, b, o, hs, _⟩ := sl_of (a := A) (len := N) (cap := C) (d := y.1) (p := y.2) ⟨n, by rw [show (Value.slice A N C).cells.toList = cs from by rw [e]; rfl]; exact h⟩
    exact ⟨_, bs, e, A, N, C, b, o, rfl, hs⟩
  rcases Deep.open_slice Tryd.under35 h with ⟨hcs, _⟩ | ⟨a, len, cap, m, n', D, Pl, hcs, _⟩
  · exact key _ _ _ hcs
  · exact key _ _ _ hcs
theorem arr_part {n : Nat} {cs : List Value} {y : DataW H × List MemPlace} (h : DataW.trod enc Tryd.prog W 0 (fun _ => true) true n 24 cs = some y) : ∃ xs : List (BitVec 8), xs.length = 32 ∧ cs = xs.map V := by
  obtain ⟨ys, m, _, _, hl, hn, hel⟩ := DataW.trod_array Tryd.under24 h
  rw [cells24] at hl
  have hcell : ∀ i, i < 32 → ∃ z : Int, cs[i]? = some (.int .u8 z) ∧ 0 ≤ z ∧ z < 256 := fun i hi => by
    have h1 := hel i hi
    rw [cells5, List.getElem?_eq_getElem (by omega)] at h1
    obtain ⟨z, hc, _, hw⟩ := DataW.trod_int Tryd.under5 h1
    refine ⟨z, ?_, ?_⟩
    · have := congrArg (·[0]?) hc
      simpa [List.getElem?_take, List.getElem?_drop, Value.cells] using this
    · have := bounds_u8 hw
      omega
  refine ⟨cs.map fun v => match v with | .int _ z => BitVec.ofInt 8 z | _ => 0, by rw [List.length_map]; exact hl, ?_⟩
  apply List.ext_getElem?
  intro i
  by_cases hi : i < 32
  · obtain ⟨z, hz, h0, h1⟩ := hcell i hi
    rw [hz]
    simp only [List.getElem?_map, hz, Option.map_some, List.map_map, Function.comp]
    simp only [V, bv]
    rw [BitVec.toNat_ofInt]
    congr 2
    omega
  · rw [List.getElem?_eq_none (by omega), List.getElem?_eq_none (by simp; omega)]
theorem cells3 : Tryd.prog.cellsOf 3 = 1 := by kernel_rfl
theorem cells22 : Tryd.prog.cellsOf 22 = 1 := by kernel_rfl
theorem cells35 : Tryd.prog.cellsOf 35 = 1 := by kernel_rfl
end
end Go.Proofs.YtfbfngblocfdlaaDoor
namespace Go.Proofs.YtfbfngblocfdlaaDoor
set_option maxRecDepth 100000
set_option maxRecDepth 100000
open Go.ChangeShapes Go.WideShapes Go.ChangeAt Go.RowKit
variable {H : Type} {enc : TypeId × Value → H} {W : World}
theorem open_int {r : Reach} {b0 : Nat} {v : Value} {d : DataW H} {p : List MemPlace} (hv : Value.okWide Tryd.prog W r b0 3 v) (h : DataW.Trod enc Tryd.prog W 0 (fun _ => true) true 3 v d p) : ∃ z : Int, v = .int .i64 z ∧ -9223372036854775808 ≤ z ∧ z ≤ 9223372036854775807 := by
  obtain ⟨z, rfl⟩ := okWide_int Tryd.under3 hv
  obtain ⟨m, hm⟩ := h
  obtain ⟨z', e, h1, h2⟩ := int_part hm
  have : z = z' := by simpa [Value.cells] using e
  subst this
  exact ⟨z, rfl, h1, h2⟩
theorem open_hc {r : Reach} {b0 : Nat} {v : Value} {d : DataW H} {p : List MemPlace} (hv : Value.okWide Tryd.prog W r b0 22 v) (h : DataW.Trod enc Tryd.prog W 0 (fun _ => true) true 22 v d p) : ∃ l, (Fk.hc l).f v W ∧ l.length ≤ maxLen := by
  obtain ⟨A, N, C, rfl⟩ := okWide_slice Tryd.under22 hv
  have hcap : N ≤ C := by
    obtain ⟨m, hm⟩ := h
    rcases Deep.open_slice Tryd.under22 hm with ⟨hcs, _⟩ | ⟨a, len, cap, m, n, D, Pl, hcs, _, hl, _⟩
    · simp [Value.cells] at hcs
      omega
    · simp [Value.cells] at hcs
      obtain ⟨_, rfl, rfl⟩ := hcs
      exact hl
  obtain ⟨lb, lo, hs, hl, hn, hm⟩ := hl_of h
  subst hn
  exact ⟨hs, ⟨A, C, lb, lo, rfl, hcap, hl⟩, hm⟩
end Go.Proofs.YtfbfngblocfdlaaDoor
namespace Go.Proofs.YtfbfngblocfdlaaDoor
set_option maxRecDepth 100000
set_option maxRecDepth 100000
open Go.ChangeShapes Go.WideShapes Go.ChangeAt Go.RowKit
theorem gZ : Tryd.prog.globalNamed "math/bits.deBruijn64tab" = some 2 := by kernel_rfl
theorem tZ : (Tryd.prog.globals[2]?).map (·.type) = some 69 := by kernel_rfl
theorem cellsZ : Tryd.prog.cellsOf 69 = 64 := by kernel_rfl
theorem underZ : Tryd.prog.underlying 69 = some (.array 64 5) := by kernel_rfl
/-- What the row lists. -/
def laidK3 : List (String × DataW Unit) := [("math/bits.deBruijn32tab", Rows.laid_math_bits_deBruijn32tab), ("math/bits.deBruijn64tab", Rows.laid_math_bits_deBruijn64tab), ("syngraph/sha.roundNumbers", Rows.laid_syngraph_sha_roundNumbers)]
theorem laidK3_tab : laidK3 = [("math/bits.deBruijn32tab", Rows.laid_math_bits_deBruijn32tab), ("math/bits.deBruijn64tab", Lib.tabData .u8 (dbt.map fun n => ((n : Nat) : Int))), ("syngraph/sha.roundNumbers", Lib.tabData .u32 (KN.map vl))] := by kernel_rfl
theorem hasK3_of {W : World} (h : laidMetH Tryd.prog laidK3 W) : HasK W 0 ∧ 0 < W.heap.size ∧ Tz W := by
  rw [MakeChecks.laidMetH_plain _ _ _ (by kernel_rfl), laidK3_tab] at h
  have h2 := laidMet.tail h
  have h3 := laidMet.tail h2
  have hT := Lib.tabIs_of_head gK tK Tryd.under74 under63 cells63 cells74 h3
  have hZ := Lib.tabIs_of_head gZ tZ underZ Tryd.under5 cells5 cellsZ h2
  have hc : ∀ i, i < 64 → W.cell? ⟨0, i, none⟩ = some (.int .u32 (vl (KN.getD i 0))) := fun i hi => by
    rw [hT.cell gK i (by simpa [KN] using hi)]
    have hi' : i < KN.length := by simpa [KN] using hi
    simp [hi']
  have hd : ∀ i, i < 64 → W.cell? ⟨2, i, none⟩ = some (.int .u8 ((dbt.getD i 0 : Nat) : Int)) := fun i hi => by
    have hi' : i < dbt.length := by rw [dbt_len]; exact hi
    rw [hZ.cell gZ i (by rw [List.length_map]; exact hi')]
    simp [hi']
  exact ⟨hc, block_lt_of_cell (hc 0 (by omega)), hd, block_lt_of_cell (hd 0 (by omega))⟩
theorem door_met3 (os : Os) (args : Array Value) : laidMetH Tryd.prog laidK3 ((World.doorLaid Tryd.prog 400 os).forCall (fun _ _ => 0) ⟨#[], args, []⟩).memory :=
  laidMetH_of_parts3 (fuel := 8) (laidMet_of_run' 8 (by kernel_rfl) (by kernel_rfl)) (by kernel_rfl) (by kernel_rfl)
theorem open_hcn {H : Type} {enc : TypeId × Value → H} {W : World} {r : Reach} {b0 : Nat} {v : Value} {d : DataW H} {p : List MemPlace} (hv : Value.okWide Tryd.prog W r b0 22 v) (h : DataW.Trod enc Tryd.prog W 0 (fun _ => true) true 22 v d p) : ∃ (l : List (List (BitVec 8))) (A : Option Addr) (C : Nat), v = .slice A l.length C ∧ (Fk.hc l).f (.slice A l.length C) W ∧ (Value.slice A l.length C = .slice none 0 0 ∨ ∃ ad n C', Value.slice A l.length C = .slice (some ad) n C') := by
  obtain ⟨l, hl, _⟩ := open_hc hv h
  have hl0 := hl
  obtain ⟨A, C, lb, lo, rfl, hc, hq⟩ := hl
  refine ⟨l, A, C, rfl, hl0, ?_⟩
  obtain ⟨m, hm⟩ := h
  rcases Deep.open_slice Tryd.under22 hm with ⟨hcs, _⟩ | ⟨a, len, cap, m, n, D, Pl, hcs, _⟩
  · exact .inl (by simpa [Value.cells] using hcs)
  · exact .inr ⟨a, len, cap, by simpa [Value.cells] using hcs⟩
end Go.Proofs.YtfbfngblocfdlaaDoor
