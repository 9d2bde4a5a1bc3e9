/- Words on collisions; small, hashes, right; the reference's Same and Begins. Slices of bools of the call's own; structs with hashes among their fields. Plain words of layer 8: sides and steps, where a path leads, where a proof leads. Sides, Steps: plainly. both: plainly. What is said of package collide. Arrays of two hashes. -/
import Derived.Test.YtfmeeimhfdnjpaaDoorM4
import Derived.Test.YtfmeeimhfdnjpaaDoorM5
import Derived.Test.YtfmeeimhfdnjpaaDoorM2
import Derived.Test.YtfmeeimhfdnjpaaDoorM3
namespace Go.Proofs.YtfmeeimhfdnjpaaDoor
set_option maxRecDepth 100000
open Go.RowKit
/-- The bytes of a list. -/
def bys (ps : List Pt) : List (List (BitVec 8)) := ps.map Pt.bs
/-- The hashes of a list's leaves. -/
def lhs (ps : List Pt) : List (List (BitVec 8)) := ps.map fun p => lf p.bs
/-- Two inputs that differ, and have one sum. -/
def rcol (A B : List (BitVec 8)) : Prop := A ≠ B ∧ shaOf A = shaOf B
instance (A B : List (BitVec 8)) : Decidable (rcol A B) := by unfold rcol; infer_instance
/-- A list that the laws go through. -/
def smallP (ps : List Pt) : Prop := (∀ p ∈ ps, p.bs.length ≤ 200) ∧ ps.length ≤ 40
instance (ps : List Pt) : Decidable (smallP ps) := by unfold smallP; infer_instance
theorem bys_len (ps : List Pt) : (bys ps).length = ps.length := List.length_map _
theorem lhs_len (ps : List Pt) : (lhs ps).length = ps.length := List.length_map _
theorem bys_at {ps : List Pt} {i : Nat} {p : Pt} (h : ps[i]? = some p) : (bys ps)[i]? = some p.bs := by unfold bys; rw [List.getElem?_map, h]; rfl
theorem lhs_at {ps : List Pt} {i : Nat} {p : Pt} (h : ps[i]? = some p) : (lhs ps)[i]? = some (lf p.bs) := by unfold lhs; rw [List.getElem?_map, h]; rfl
theorem lhs_32 (ps : List Pt) : ∀ x ∈ lhs ps, x.length = 32 := by
  intro x hx
  obtain ⟨p, _, rfl⟩ := List.mem_map.1 hx
  exact lf_len _
theorem lhs_take (ps : List Pt) (n : Nat) : lhs (ps.take n) = (lhs ps).take n := List.map_take ..
theorem bys_take (ps : List Pt) (n : Nat) : bys (ps.take n) = (bys ps).take n := List.map_take ..
theorem take_one {α : Type} {l : List α} {k : Nat} {x : α} (h : l[k]? = some x) : l.take (k + 1) = l.take k ++ [x] := by rw [List.take_add_one, h]; rfl
theorem take_more {α : Type} {A B : List α} {k : Nat} {x : α} (h : A.take k = B.take k) (ha : A[k]? = some x) (hb : B[k]? = some x) : A.take (k + 1) = B.take (k + 1) := by rw [take_one ha, take_one hb, h]
theorem pt_small {ps : List Pt} (hs : smallP ps) {i : Nat} {p : Pt} (h : ps[i]? = some p) : p.bs.length ≤ 200 := hs.1 p (List.mem_of_getElem? h)
theorem Ls.take {w : World} {lb lo : Nat} {ps : List Pt} (h : Ls w lb lo ps) (n : Nat) : Ls w lb lo (ps.take n) := by
  have e : ∀ i p, (ps.take n)[i]? = some p → ps[i]? = some p := fun i p hi => by
    rw [List.getElem?_take] at hi
    split at hi
    · exact hi
    · cases hi
  exact ⟨fun i p hi => h.cell i p (e i p hi), fun i p hi => h.ok i p (e i p hi)⟩
theorem mg_take {ps : List Pt} {A : Option Addr} {C : Nat} {w : World} (h : (Fk.mg ps).f (.slice A ps.length C) w) {n : Nat} (hn : n ≤ ps.length) : (Fk.mg (ps.take n)).f (.slice A n C) w := by
  obtain ⟨A', C', lb, lo, e, hp, hl⟩ := h
  cases e
  have hln : (ps.take n).length = n := by rw [List.length_take]; omega
  refine ⟨A, C, lb, lo, by rw [hln], fun h0 => hp (by omega), ?_⟩
  exact Ls.take hl n
theorem fk_small {ps : List Pt} (hln : ps.length ≤ 140737488351232) {w : World} {v : Value} (hv : (Fk.mg ps).f v w) {b : Bool} (hb : b = decide (smallP ps)) :
    Calls Tryd.prog 11 #[v] w fun e w' => ∃ u, e = .returned u ∧ (Fk.eq (.bool b)).f u w' ∧ Below w.heap.size w w' := by
  go_enter Tryd.func11, Tryd.ntmps11
  refine code_both (fun f w1 => f.tmps.size = 18 ∧ f.defers = [] ∧ f.eval (.tmp 0) = v ∧ Below w.heap.size w (w1)) ⟨rfl, rfl, rfl, Below.refl _ _⟩ ?_
  rintro f0 w0 ⟨sz, df, x0, bl⟩
  have sd := And.intro sz df
  clear sz df
  have bl0 := bl
  refine wp_seq ?_
  refine wr_a [.eq (.bool false)] (by rw [sd.1]; kernel_rfl) ⟨fun hw ac u K => ?_, trivial⟩ ?_
  · exact st_assign (.const (.bool false)) rfl rfl
  intro f1 w1 A hb
  replace x0 := A.t x0 rfl
  replace bl := bgo bl hb
  replace sd := A.sd sd
  clear A hb
  show Code.wp _ _ _ _ _
  refine wp_seq ?_
  refine wp_seq ?_
  refine wr_a [.eq (v), .eq (.int .i64 (((ps).length : Nat) : Int)), .eq (.int .i64 0)] (by rw [sd.1]; kernel_rfl) ⟨fun hw ac u K => ?_, fun hw ac u K => ?_, fun hw ac u K => ?_, trivial⟩ ?_
  · exact st_move (.tmp 0) rfl (K.t x0 rfl)
  · exact st_lenm (.tmp 5) rfl (fk_val (K.dep 0 5 rfl) (Fk.mono _ _ _ _ hv (bgo bl K.grow)))
  · exact st_move (.const (.int .i64 0)) rfl rfl
  intro f2 w2 A hb
  replace x0 := A.t x0 rfl
  have x5 := A.e 0 5 rfl rfl
  have x6 := A.e 1 6 rfl rfl
  have x7 := A.e 2 7 rfl rfl
  replace bl := bgo bl hb
  replace sd := A.sd sd
  clear A hb
  show Code.wp _ _ _ _ _
  refine wp_block ?_
  refine wp_loop (fun f v1 => ∃ k : Nat, k ≤ (ps).length ∧ (∀ p ∈ ps.take k, p.bs.length ≤ 200) ∧ f.tmps.size = 18 ∧ f.defers = [] ∧ f.eval (.tmp 0) = v ∧ f.eval (.tmp 5) = v ∧ f.eval (.tmp 6) = .int .i64 (((ps).length : Nat) : Int) ∧ f.eval (.tmp 7) = .int .i64 (k : Int) ∧ Below w.heap.size w (v1)) (fun f _ => (ps).length - (intOf (f.eval (.tmp 7))).toNat) ⟨0, Nat.zero_le _, (by simp), sd.1, sd.2, x0, x5, x6, x7, bl⟩ ?_
  intro f3 w3 hI
  clear sd bl bl0 x0 x5 x6 x7
  obtain ⟨k, hk8, hall, sz, df, x0, x5, x6, x7, bl⟩ := hI
  have sd := And.intro sz df
  clear sz df
  have bl0 := bl
  have hcnt := x7
  refine wp_seq ?_
  by_cases hlt : k < (ps).length
  rotate_left
  · skip
    refine wr_a [.eq (.bool false)] (by rw [sd.1]; kernel_rfl) ⟨fun hw ac u K => ?_, trivial⟩ ?_
    · exact st_lss 3 (.tmp 7) (.tmp 6) rfl .i64 ((k : Int)) ((((ps).length : Nat) : Int)) (K.t x7 rfl) (K.t x6 rfl) _ (by rw [eq_comm, decide_eq_false_iff_not]; exact fun h => hlt (Int.ofNat_lt.1 h))
    intro f4 w4 A hb
    replace x0 := A.t x0 rfl
    replace x5 := A.t x5 rfl
    replace x6 := A.t x6 rfl
    replace x7 := A.t x7 rfl
    have x8 := A.e 0 8 rfl rfl
    replace bl := bgo bl hb
    replace sd := A.sd sd
    clear A hb
    show Code.wp _ _ _ _ _
    refine wp_seq ?_
    refine wp_cond_false x8 ?_
    refine wp_exit ?_
    show Code.wp _ _ _ _ _
    refine wp_seq ?_
    rw [List.take_of_length_le (by omega)] at hall
    by_cases h40 : (ps).length ≤ 40
    rotate_left
    · skip
      have hbf : false = b := by rw [hb]; symm; rw [decide_eq_false_iff_not]; exact fun h => h40 h.2
      refine wr_a [.eq (v), .eq (.int .i64 (((ps).length : Nat) : Int)), .eq (.bool false), .eq (.bool false)] (by rw [sd.1]; kernel_rfl) ⟨fun hw ac u K => ?_, fun hw ac u K => ?_, fun hw ac u K => ?_, fun hw ac u K => ?_, trivial⟩ ?_
      · exact st_move (.tmp 0) rfl (K.t x0 rfl)
      · exact st_lenm (.tmp 15) rfl (fk_val (K.dep 0 15 rfl) (Fk.mono _ _ _ _ hv (bgo bl K.grow)))
      · exact st_leq 3 (.tmp 16) (.const (.int .i64 40)) rfl .i64 ((((ps).length : Nat) : Int)) (40) (K.dep 1 16 rfl) rfl _ (by rw [eq_comm, decide_eq_false_iff_not]; omega)
      · exact st_assign (.tmp 17) rfl (K.dep 2 17 rfl)
      intro f5 w5 A hb
      replace x0 := A.t x0 rfl
      replace x5 := A.t x5 rfl
      replace x6 := A.t x6 rfl
      replace x7 := A.t x7 rfl
      replace x8 := A.t x8 rfl
      have x2 := A.e 3 2 rfl rfl
      replace bl := bgo bl hb
      replace sd := A.sd sd
      clear A hb
      clear x8
      show Code.wp _ _ _ _ _
      refine wp_ret ?_
      repeat (first | with_reducible refine then_ret ?_ | with_reducible refine block_ret ?_)
      exact bodyPost_ret (v := .bool false) (ret_slot rfl f5 _ x2 _ _) sd.2 ⟨_, rfl, by rw [← hbf]; rfl, bl⟩
    have hbf : true = b := by rw [hb]; symm; rw [decide_eq_true_iff]; exact ⟨hall, h40⟩
    refine wr_a [.eq (v), .eq (.int .i64 (((ps).length : Nat) : Int)), .eq (.bool true), .eq (.bool true)] (by rw [sd.1]; kernel_rfl) ⟨fun hw ac u K => ?_, fun hw ac u K => ?_, fun hw ac u K => ?_, fun hw ac u K => ?_, trivial⟩ ?_
    · exact st_move (.tmp 0) rfl (K.t x0 rfl)
    · exact st_lenm (.tmp 15) rfl (fk_val (K.dep 0 15 rfl) (Fk.mono _ _ _ _ hv (bgo bl K.grow)))
    · exact st_leq 3 (.tmp 16) (.const (.int .i64 40)) rfl .i64 ((((ps).length : Nat) : Int)) (40) (K.dep 1 16 rfl) rfl _ (by rw [eq_comm, decide_eq_true_iff]; omega)
    · exact st_assign (.tmp 17) rfl (K.dep 2 17 rfl)
    intro f5 w5 A hb
    replace x0 := A.t x0 rfl
    replace x5 := A.t x5 rfl
    replace x6 := A.t x6 rfl
    replace x7 := A.t x7 rfl
    replace x8 := A.t x8 rfl
    have x2 := A.e 3 2 rfl rfl
    replace bl := bgo bl hb
    replace sd := A.sd sd
    clear A hb
    clear x8
    show Code.wp _ _ _ _ _
    refine wp_ret ?_
    repeat (first | with_reducible refine then_ret ?_ | with_reducible refine block_ret ?_)
    exact bodyPost_ret (v := .bool true) (ret_slot rfl f5 _ x2 _ _) sd.2 ⟨_, rfl, by rw [← hbf]; rfl, bl⟩
  obtain ⟨p, hpk⟩ : ∃ p, ps[k]? = some p := ⟨_, List.getElem?_eq_getElem hlt⟩
  have hslp : (Fk.sl p.bs).f (.slice p.sp p.m p.c) w := ⟨_, _, _, _, _, rfl, mg_ok hv hpk⟩
  refine wr_a [.eq (.bool true)] (by rw [sd.1]; kernel_rfl) ⟨fun hw ac u K => ?_, trivial⟩ ?_
  · exact st_lss 3 (.tmp 7) (.tmp 6) rfl .i64 ((k : Int)) ((((ps).length : Nat) : Int)) (K.t x7 rfl) (K.t x6 rfl) _ (by rw [eq_comm, decide_eq_true_iff]; exact Int.ofNat_lt.2 hlt)
  intro f4 w4 A hb
  replace x0 := A.t x0 rfl
  replace x5 := A.t x5 rfl
  replace x6 := A.t x6 rfl
  replace x7 := A.t x7 rfl
  have x8 := A.e 0 8 rfl rfl
  replace bl := bgo bl hb
  replace sd := A.sd sd
  clear A hb
  show Code.wp _ _ _ _ _
  refine wp_seq ?_
  refine wp_cond_true x8 ?_
  refine wp_skip ?_
  show Code.wp _ _ _ _ _
  refine wp_seq ?_
  refine wp_block ?_
  refine wp_seq ?_
  refine wr_a [.pv (.slice p.sp p.m p.c), .eq (.slice p.sp p.m p.c), .eq (.slice p.sp p.m p.c)] (by rw [sd.1]; kernel_rfl) ⟨fun hw ac u K => ?_, fun hw ac u K => ?_, fun hw ac u K => ?_, trivial⟩ ?_
  · exact st_idxm (.tmp 5) (.tmp 7) rfl (fk_val (K.t x5 rfl) (Fk.mono _ _ _ _ hv (bgo bl K.grow))) k p (K.t x7 rfl) hpk
  · exact st_loadsl (.tmp 9) rfl (K.dep 0 9 rfl)
  · exact st_assign (.tmp 10) rfl (K.dep 1 10 rfl)
  intro f5 w5 A hb
  replace x0 := A.t x0 rfl
  replace x5 := A.t x5 rfl
  replace x6 := A.t x6 rfl
  replace x7 := A.t x7 rfl
  replace x8 := A.t x8 rfl
  have x4 := A.e 2 4 rfl rfl
  replace bl := bgo bl hb
  replace sd := A.sd sd
  clear A hb
  clear x8
  show Code.wp _ _ _ _ _
  refine wp_seq ?_
  by_cases h200 : 200 < p.bs.length
  rotate_left
  · skip
    refine wr_a [.eq (.slice p.sp p.m p.c), .eq (.int .i64 (((p.bs).length : Nat) : Int)), .eq (.bool false)] (by rw [sd.1]; kernel_rfl) ⟨fun hw ac u K => ?_, fun hw ac u K => ?_, fun hw ac u K => ?_, trivial⟩ ?_
    · exact st_move (.tmp 4) rfl (K.t x4 rfl)
    · exact st_lenb (.tmp 11) rfl (fk_val (K.dep 0 11 rfl) (Fk.mono _ _ _ _ hslp (bgo bl K.grow)))
    · exact st_gtr 3 (.tmp 12) (.const (.int .i64 200)) rfl .i64 ((((p.bs).length : Nat) : Int)) (200) (K.dep 1 12 rfl) rfl _ (by rw [eq_comm, decide_eq_false_iff_not]; omega)
    intro f6 w6 A hb
    replace x0 := A.t x0 rfl
    replace x5 := A.t x5 rfl
    replace x6 := A.t x6 rfl
    replace x7 := A.t x7 rfl
    replace x4 := A.t x4 rfl
    have x13 := A.e 2 13 rfl rfl
    replace bl := bgo bl hb
    replace sd := A.sd sd
    clear A hb
    clear x4
    show Code.wp _ _ _ _ _
    refine wp_cond_false x13 ?_
    refine wp_skip ?_
    show Code.wp _ _ _ _ _
    refine wr_s [.eq (.int .i64 ((k + 1 : Nat) : Int))] (by rw [sd.1]; kernel_rfl) ⟨fun hw ac u K => ?_, trivial⟩ ?_
    · exact st_addz (.tmp 7) (.const (.int .i64 1)) rfl _ _ _ (K.t x7 rfl) rfl (by omega) (by omega) (by omega)
    intro f7 w7 A hb
    replace x0 := A.t x0 rfl
    replace x5 := A.t x5 rfl
    replace x6 := A.t x6 rfl
    replace x7 := A.t x7 rfl
    replace x13 := A.t x13 rfl
    have x14 := A.e 0 14 rfl rfl
    replace bl := bgo bl hb
    replace sd := A.sd sd
    clear A hb
    clear x13
    refine wl_one (.eq (.int .i64 ((k + 1 : Nat) : Int))) rfl 7 rfl (by rw [sd.1]; decide) (st_move (.tmp 14) rfl x14) ?_
    intro f8 w8 df2 sz2 old2 new2 hb
    replace x0 := tr old2 x0 rfl
    replace x5 := tr old2 x5 rfl
    replace x6 := tr old2 x6 rfl
    clear x7
    replace x14 := tr old2 x14 rfl
    have x7 := Fk.e new2
    replace bl := bgo bl hb
    replace sd := sd2 sz2 df2 sd
    clear df2 sz2 old2 new2 hb
    refine wpList_nil ?_
    clear x14
    show (∃ _, _) ∧ _
    refine ⟨⟨k + 1, by omega, (by rw [take_one hpk]; intro q hq; rcases List.mem_append.1 hq with hq | hq; exact hall q hq; obtain rfl := List.mem_singleton.1 hq; omega), sd.1, sd.2, x0, x5, x6, x7, bl⟩, ?_⟩
    rw [show f8.eval (.tmp 7) = _ from x7, show _ = _ from hcnt]
    first | (simp [intOf]; done) | (simp [intOf]; omega)
  have hbf : false = b := by rw [hb]; symm; rw [decide_eq_false_iff_not]; exact fun h => by have := pt_small h hpk; omega
  refine wr_a [.eq (.slice p.sp p.m p.c), .eq (.int .i64 (((p.bs).length : Nat) : Int)), .eq (.bool true)] (by rw [sd.1]; kernel_rfl) ⟨fun hw ac u K => ?_, fun hw ac u K => ?_, fun hw ac u K => ?_, trivial⟩ ?_
  · exact st_move (.tmp 4) rfl (K.t x4 rfl)
  · exact st_lenb (.tmp 11) rfl (fk_val (K.dep 0 11 rfl) (Fk.mono _ _ _ _ hslp (bgo bl K.grow)))
  · exact st_gtr 3 (.tmp 12) (.const (.int .i64 200)) rfl .i64 ((((p.bs).length : Nat) : Int)) (200) (K.dep 1 12 rfl) rfl _ (by rw [eq_comm, decide_eq_true_iff]; omega)
  intro f6 w6 A hb
  replace x0 := A.t x0 rfl
  replace x5 := A.t x5 rfl
  replace x6 := A.t x6 rfl
  replace x7 := A.t x7 rfl
  replace x4 := A.t x4 rfl
  have x13 := A.e 2 13 rfl rfl
  replace bl := bgo bl hb
  replace sd := A.sd sd
  clear A hb
  clear x4
  show Code.wp _ _ _ _ _
  refine wp_cond_true x13 ?_
  refine wp_seq ?_
  refine wr_a [.eq (.bool false)] (by rw [sd.1]; kernel_rfl) ⟨fun hw ac u K => ?_, trivial⟩ ?_
  · exact st_assign (.const (.bool false)) rfl rfl
  intro f7 w7 A hb
  replace x0 := A.t x0 rfl
  replace x5 := A.t x5 rfl
  replace x6 := A.t x6 rfl
  replace x7 := A.t x7 rfl
  replace x13 := A.t x13 rfl
  have x2 := A.e 0 2 rfl rfl
  replace bl := bgo bl hb
  replace sd := A.sd sd
  clear A hb
  clear x13
  show Code.wp _ _ _ _ _
  refine wp_ret ?_
  repeat (first | with_reducible refine then_ret ?_ | with_reducible refine block_ret ?_)
  exact bodyPost_ret (v := .bool false) (ret_slot rfl f7 _ x2 _ _) sd.2 ⟨_, rfl, by rw [← hbf]; rfl, bl⟩
theorem fk_hashes {ps : List Pt} (h40 : ps.length ≤ 1000) (hmx : ∀ p ∈ ps, p.bs.length ≤ 140737488351232) {w : World} {v : Value} (hv : (Fk.mg ps).f v w) (hK : Tab w) :
    Calls Tryd.prog 14 #[v] w fun e w' => ∃ u, e = .returned u ∧ (Fk.ow w.heap.size (lhs ps)).f u w' ∧ Below w.heap.size w w' := by
  go_enter Tryd.func14, Tryd.ntmps14
  refine code_both (fun f w1 => f.tmps.size = 19 ∧ f.defers = [] ∧ f.eval (.tmp 0) = v ∧ Below w.heap.size w (w1)) ⟨rfl, rfl, rfl, Below.refl _ _⟩ ?_
  rintro f0 w0 ⟨sz, df, x0, bl⟩
  have sd := And.intro sz df
  clear sz df
  have bl0 := bl
  refine wp_seq ?_
  refine wr_a [.eq (.slice none 0 0)] (by rw [sd.1]; kernel_rfl) ⟨fun hw ac u K => ?_, trivial⟩ ?_
  · exact st_assign (.const (.slice none 0 0)) rfl rfl
  intro f1 w1 A hb
  replace x0 := A.t x0 rfl
  replace bl := bgo bl hb
  replace sd := A.sd sd
  clear A hb
  show Code.wp _ _ _ _ _
  refine wp_seq ?_
  refine wr_a [.ow w.heap.size ([])] (by rw [sd.1]; kernel_rfl) ⟨fun hw ac u K => ?_, trivial⟩ ?_
  · exact st_assign (.const (.slice none 0 0)) rfl (ow_nil _ _)
  intro f2 w2 A hb
  replace x0 := A.t x0 rfl
  have x3 : Fk.f (.ow w.heap.size ([])) (f2.eval (.tmp 3)) w2 := A.has 0 3 rfl
  replace bl := bgo bl hb
  replace sd := A.sd sd
  clear A hb
  show Code.wp _ _ _ _ _
  refine wp_seq ?_
  refine wp_seq ?_
  refine wr_a [.eq (v), .eq (.int .i64 (((ps).length : Nat) : Int)), .eq (.int .i64 0)] (by rw [sd.1]; kernel_rfl) ⟨fun hw ac u K => ?_, fun hw ac u K => ?_, fun hw ac u K => ?_, trivial⟩ ?_
  · exact st_move (.tmp 0) rfl (K.t x0 rfl)
  · exact st_lenm (.tmp 6) rfl (fk_val (K.dep 0 6 rfl) (Fk.mono _ _ _ _ hv (bgo bl K.grow)))
  · exact st_move (.const (.int .i64 0)) rfl rfl
  intro f3 w3 A hb
  replace x0 := A.t x0 rfl
  replace x3 := f_at (A.old 3 rfl) (Fk.mono _ _ _ _ x3 hb)
  have x6 := A.e 0 6 rfl rfl
  have x7 := A.e 1 7 rfl rfl
  have x8 := A.e 2 8 rfl rfl
  replace bl := bgo bl hb
  replace sd := A.sd sd
  clear A hb
  clear x0
  show Code.wp _ _ _ _ _
  refine wp_block ?_
  refine wp_loop (fun f v1 => ∃ k : Nat, k ≤ (ps).length ∧ f.tmps.size = 19 ∧ f.defers = [] ∧ f.eval (.tmp 6) = v ∧ f.eval (.tmp 7) = .int .i64 (((ps).length : Nat) : Int) ∧ f.eval (.tmp 8) = .int .i64 (k : Int) ∧ Fk.f (.ow w.heap.size ((lhs ps).take k)) (f.eval (.tmp 3)) v1 ∧ Below w.heap.size w (v1)) (fun f _ => (ps).length - (intOf (f.eval (.tmp 8))).toNat) ⟨0, Nat.zero_le _, sd.1, sd.2, x6, x7, x8, (by rw [List.take_zero]; exact x3), bl⟩ ?_
  intro f4 w4 hI
  clear sd bl bl0 x3 x6 x7 x8
  obtain ⟨k, hk8, sz, df, x6, x7, x8, x3, bl⟩ := hI
  have sd := And.intro sz df
  clear sz df
  have bl0 := bl
  have hcnt := x8
  refine wp_seq ?_
  by_cases hlt : k < (ps).length
  rotate_left
  · skip
    rw [List.take_of_length_le (by rw [lhs_len]; omega)] at x3
    refine wr_a [.eq (.bool false)] (by rw [sd.1]; kernel_rfl) ⟨fun hw ac u K => ?_, trivial⟩ ?_
    · exact st_lss 3 (.tmp 8) (.tmp 7) rfl .i64 ((k : Int)) ((((ps).length : Nat) : Int)) (K.t x8 rfl) (K.t x7 rfl) _ (by rw [eq_comm, decide_eq_false_iff_not]; exact fun h => hlt (Int.ofNat_lt.1 h))
    intro f5 w5 A hb
    replace x3 := f_at (A.old 3 rfl) (Fk.mono _ _ _ _ x3 hb)
    replace x6 := A.t x6 rfl
    replace x7 := A.t x7 rfl
    replace x8 := A.t x8 rfl
    have x9 := A.e 0 9 rfl rfl
    replace bl := bgo bl hb
    replace sd := A.sd sd
    clear A hb
    show Code.wp _ _ _ _ _
    refine wp_seq ?_
    refine wp_cond_false x9 ?_
    refine wp_exit ?_
    show Code.wp _ _ _ _ _
    refine wp_seq ?_
    refine wr_a [.ow w.heap.size (lhs ps), .ow w.heap.size (lhs ps)] (by rw [sd.1]; kernel_rfl) ⟨fun hw ac u K => ?_, fun hw ac u K => ?_, trivial⟩ ?_
    · exact st_move (.tmp 3) rfl (f_at (K.old 3 rfl) (Fk.mono _ _ _ _ x3 K.grow))
    · exact st_assign (.tmp 18) rfl (K.dep 0 18 rfl)
    intro f6 w6 A hb
    replace x3 := f_at (A.old 3 rfl) (Fk.mono _ _ _ _ x3 hb)
    replace x6 := A.t x6 rfl
    replace x7 := A.t x7 rfl
    replace x8 := A.t x8 rfl
    replace x9 := A.t x9 rfl
    have x2 : Fk.f (.ow w.heap.size (lhs ps)) (f6.eval (.tmp 2)) w6 := A.has 1 2 rfl
    replace bl := bgo bl hb
    replace sd := A.sd sd
    clear A hb
    clear x9
    show Code.wp _ _ _ _ _
    refine wp_ret ?_
    repeat (first | with_reducible refine then_ret ?_ | with_reducible refine block_ret ?_)
    exact bodyPost_ret (v := f6.eval (.tmp 2)) (ret_slot rfl f6 _ rfl _ _) sd.2 ⟨_, rfl, x2, bl⟩
  obtain ⟨p, hpk⟩ : ∃ p, ps[k]? = some p := ⟨_, List.getElem?_eq_getElem hlt⟩
  have hslp : (Fk.sl p.bs).f (.slice p.sp p.m p.c) w := ⟨_, _, _, _, _, rfl, mg_ok hv hpk⟩
  have hpl := hmx p (List.mem_of_getElem? hpk)
  obtain ⟨y, ey⟩ : ∃ y, Box (lf p.bs = y) := ⟨_, ⟨rfl⟩⟩
  have hy : y.length = 32 := by rw [← ey.out]; exact lf_len _
  refine wr_a [.eq (.bool true)] (by rw [sd.1]; kernel_rfl) ⟨fun hw ac u K => ?_, trivial⟩ ?_
  · exact st_lss 3 (.tmp 8) (.tmp 7) rfl .i64 ((k : Int)) ((((ps).length : Nat) : Int)) (K.t x8 rfl) (K.t x7 rfl) _ (by rw [eq_comm, decide_eq_true_iff]; exact Int.ofNat_lt.2 hlt)
  intro f5 w5 A hb
  replace x3 := f_at (A.old 3 rfl) (Fk.mono _ _ _ _ x3 hb)
  replace x6 := A.t x6 rfl
  replace x7 := A.t x7 rfl
  replace x8 := A.t x8 rfl
  have x9 := A.e 0 9 rfl rfl
  replace bl := bgo bl hb
  replace sd := A.sd sd
  clear A hb
  show Code.wp _ _ _ _ _
  refine wp_seq ?_
  refine wp_cond_true x9 ?_
  refine wp_skip ?_
  show Code.wp _ _ _ _ _
  refine wp_seq ?_
  refine wp_block ?_
  refine wp_seq ?_
  refine wr_a [.pv (.slice p.sp p.m p.c), .eq (.slice p.sp p.m p.c), .eq (.slice p.sp p.m p.c)] (by rw [sd.1]; kernel_rfl) ⟨fun hw ac u K => ?_, fun hw ac u K => ?_, fun hw ac u K => ?_, trivial⟩ ?_
  · exact st_idxm (.tmp 6) (.tmp 8) rfl (fk_val (K.t x6 rfl) (Fk.mono _ _ _ _ hv (bgo bl K.grow))) k p (K.t x8 rfl) hpk
  · exact st_loadsl (.tmp 10) rfl (K.dep 0 10 rfl)
  · exact st_assign (.tmp 11) rfl (K.dep 1 11 rfl)
  intro f6 w6 A hb
  replace x3 := f_at (A.old 3 rfl) (Fk.mono _ _ _ _ x3 hb)
  replace x6 := A.t x6 rfl
  replace x7 := A.t x7 rfl
  replace x8 := A.t x8 rfl
  replace x9 := A.t x9 rfl
  have x5 := A.e 2 5 rfl rfl
  replace bl := bgo bl hb
  replace sd := A.sd sd
  clear A hb
  clear x9
  show Code.wp _ _ _ _ _
  refine wr_s [.ow w.heap.size ((lhs ps).take k), .eq (.slice p.sp p.m p.c), .eq (.agg ((y).map V).toArray), .hs ([y])] (by rw [sd.1]; kernel_rfl) ⟨fun hw ac u K => ?_, fun hw ac u K => ?_, fun hw ac u K => ?_, fun hw ac u K => ?_, trivial⟩ ?_
  · exact st_move (.tmp 3) rfl (f_at (K.old 3 rfl) (Fk.mono _ _ _ _ x3 K.grow))
  · exact st_move (.tmp 5) rfl (K.t x5 rfl)
  · exact st_call 18 (.func 18) _ _ _ rfl rfl (one_arg (K.dep 1 13 rfl)) Tryd.enter18 (fk_leaf hpl (hK.below (bgo bl K.grow)) (Fk.mono _ _ _ _ hslp (bgo bl K.grow)) ey)
  · exact st_bh1 (.tmp 14) rfl hy (K.dep 2 14 rfl)
  intro f7 w7 A hb
  replace bl0 := bl
  replace x3 := f_at (A.old 3 rfl) (Fk.mono _ _ _ _ x3 hb)
  replace x6 := A.t x6 rfl
  replace x7 := A.t x7 rfl
  replace x8 := A.t x8 rfl
  replace x5 := A.t x5 rfl
  have x12 : Fk.f (.ow w.heap.size ((lhs ps).take k)) (f7.eval (.tmp 12)) w7 := A.has 0 12 rfl
  have x15 : Fk.f (.hs ([y])) (f7.eval (.tmp 15)) w7 := A.has 3 15 rfl
  replace bl := bgo bl hb
  replace sd := A.sd sd
  clear A hb
  clear x5
  refine wl_append rfl (.tmp 12) (.tmp 15) rfl 16 rfl (by rw [sd.1]; decide) x12 x15 bl (by rw [List.length_take, lhs_len]; omega) ?_
  intro f8 w8 df2 sz2 old2 new2 bl2
  clear x3
  clear x12
  clear x15
  replace x6 := tr old2 x6 rfl
  replace x7 := tr old2 x7 rfl
  replace x8 := tr old2 x8 rfl
  have x16 : Fk.f (.ow w.heap.size ((lhs ps).take k ++ [y])) (f8.eval (.tmp 16)) w8 := new2
  replace bl := bl2
  replace bl0 := bl
  replace sd := sd2 sz2 df2 sd
  clear df2 sz2 old2 new2 bl2
  refine wl_one (.ow w.heap.size ((lhs ps).take k ++ [y])) rfl 3 rfl (by rw [sd.1]; decide) (st_assign (.tmp 16) rfl x16) ?_
  intro f9 w9 df2 sz2 old2 new2 hb
  replace x6 := tr old2 x6 rfl
  replace x7 := tr old2 x7 rfl
  replace x8 := tr old2 x8 rfl
  replace x16 := f_at (old2 16 rfl) (Fk.mono _ _ _ _ x16 hb)
  have x3 : Fk.f (.ow w.heap.size ((lhs ps).take k ++ [y])) (f9.eval (.tmp 3)) w9 := new2
  replace bl := bgo bl hb
  replace sd := sd2 sz2 df2 sd
  clear df2 sz2 old2 new2 hb
  refine wpList_nil ?_
  clear x16
  show Code.wp _ _ _ _ _
  refine wr_s [.eq (.int .i64 ((k + 1 : Nat) : Int))] (by rw [sd.1]; kernel_rfl) ⟨fun hw ac u K => ?_, trivial⟩ ?_
  · exact st_add (.tmp 8) (.const (.int .i64 1)) rfl (k) (1) (k + 1) (K.t x8 rfl) rfl (by omega) (by omega)
  intro f10 w10 A hb
  replace x6 := A.t x6 rfl
  replace x7 := A.t x7 rfl
  replace x8 := A.t x8 rfl
  replace x3 := f_at (A.old 3 rfl) (Fk.mono _ _ _ _ x3 hb)
  have x17 := A.e 0 17 rfl rfl
  replace bl := bgo bl hb
  replace sd := A.sd sd
  clear A hb
  refine wl_one (.eq (.int .i64 ((k + 1 : Nat) : Int))) rfl 8 rfl (by rw [sd.1]; decide) (st_move (.tmp 17) rfl x17) ?_
  intro f11 w11 df2 sz2 old2 new2 hb
  replace x6 := tr old2 x6 rfl
  replace x7 := tr old2 x7 rfl
  clear x8
  replace x3 := f_at (old2 3 rfl) (Fk.mono _ _ _ _ x3 hb)
  replace x17 := tr old2 x17 rfl
  have x8 := Fk.e new2
  replace bl := bgo bl hb
  replace sd := sd2 sz2 df2 sd
  clear df2 sz2 old2 new2 hb
  refine wpList_nil ?_
  clear x17
  show (∃ _, _) ∧ _
  replace x3 : Fk.f (.ow w.heap.size ((lhs ps).take (k + 1))) (f11.eval (.tmp 3)) w11 := (by rw [take_one (lhs_at hpk), ey.out]; exact x3)
  refine ⟨⟨k + 1, by omega, sd.1, sd.2, x6, x7, x8, x3, bl⟩, ?_⟩
  rw [show f11.eval (.tmp 8) = _ from x8, show _ = _ from hcnt]
  first | (simp [intOf]; done) | (simp [intOf]; omega)
theorem st_nes {Q : Exit → Act → World → Prop} {o : Oper} {a : Act} {w : World} (x y : Operand) (ho : o.op = .binOp .neq 9 x y 9) (s t : ByteArray) (hx : a.eval x = .string s) (hy : a.eval y = .string t) (b : Bool) (hb : b = decide (s ≠ t)) : o.wp Tryd.prog a w (Ends a o.dst w (Fk.eq (.bool b)).f) Q := by
  subst hb
  refine st_bin .neq 9 9 x y ho hx hy ?_
  have := str_beq s t
  simp [eqGuard, binOp, Op.stringOp, this]
theorem st_stra {Q : Exit → Act → World → Prop} {o : Oper} {a : Act} {w : World} (x : Operand) (ho : o.op = .convert 22 9 x) {bs : List (BitVec 8)} (h : (Fk.sl bs).f (a.eval x) w) : o.wp Tryd.prog a w (Ends a o.dst w (Fk.eq (.string (str bs))).f) Q := by
  by_cases hne : 0 < bs.length
  · exact st_str x ho hne h
  · have hb0 : bs = [] := List.eq_nil_of_length_eq_zero (by omega)
    subst hb0
    obtain ⟨sp, m, c, b, so, e, hs⟩ := h
    refine st_pure (v := .string (str [])) ?_ rfl
    have hm : m = 0 := hs.len
    subst hm
    have hr : (convert 22 9 (.slice sp 0 c)).run Tryd.prog w = .ok (.string (str [])) w := by
      cases sp with
      | none => exact run_convert_bytes_nil (P := Tryd.prog) w 22 5 Tryd.under22 Tryd.under5 0 c 9 Tryd.under9
      | some A =>
        rw [run_convert_bytes_string w 22 9 5 (some A) 0 c Tryd.under22 Tryd.under5 Tryd.under9, run_bytesToString w A 0 c [] (by rfl)]
        rfl
    unfold execOp
    rw [ho]
    simp [e, hr]
theorem st_cutm {Q : Exit → Act → World → Prop} {o : Oper} {a : Act} {w : World} (x y : Operand) (ho : o.op = .slice 28 x none (some y) none) {ps : List Pt} (h : (Fk.mg ps).f (a.eval x) w) (n : Nat) (hy : a.eval y = .int .i64 (n : Int)) (hn : n ≤ ps.length) (hc : ∀ A C, a.eval x = .slice A ps.length C → ps.length ≤ C) : o.wp Tryd.prog a w (Ends a o.dst w (Fk.mg (ps.take n)).f) Q := by
  have h0 := h
  obtain ⟨A, C, lb, lo, e, hp, hl⟩ := h
  rw [e] at h0
  have hC := hc A C e
  refine st_pure (v := .slice A n C) ?_ (mg_take h0 hn)
  have h1 := run_slice_h (P := Tryd.prog) (w := w) 28 A ps.length C (by rw [Tryd.elem28]; exact Tryd.under28) .i64 (n : Int) (by omega) (by omega)
  rw [Tryd.elem28, Tryd.sizeOf22m] at h1
  simp only [Result.andThen_ok, Int.toNat_natCast] at h1
  have h2 := run_sliceAt_slice (P := Tryd.prog) (w := w) 28 (.slice A ps.length C) none (some (.int .i64 (n : Int))) none (by rw [Tryd.elem28]; exact Tryd.under28)
  have h3 : sliced A 0 n C 1 = .slice A n C := by
    unfold sliced
    by_cases h0 : C = 0
    · simp [h0]
    · cases A with
      | none => simp
      | some p => simp [Addr.add]
  rw [h3] at h1
  unfold execOp
  rw [ho]
  simp [e, hy, h2, h1]
theorem fk_lright {A B : List (BitVec 8)} (hlA : A.length ≤ 100000) (hlB : B.length ≤ 100000) {u1 u2 : Value} {w : World} (hA : (Fk.sl A).f u1 w) (hB : (Fk.sl B).f u2 w) (hK : Tab w) {b : Bool} (hb : b = decide (rcol A B)) :
    Calls Tryd.prog 10 #[.agg ([u1, u2] : List Value).toArray] w fun e w' => ∃ u, e = .returned u ∧ (Fk.eq (.bool b)).f u w' ∧ Below w.heap.size w w' := by
  obtain ⟨x, ex⟩ : ∃ x, Box (shaOf A = x) := ⟨_, ⟨rfl⟩⟩
  obtain ⟨y, ey⟩ : ∃ x, Box (shaOf B = x) := ⟨_, ⟨rfl⟩⟩
  have hx : x.length = 32 := by rw [← ex.out]; exact shaOf_len _
  have hy : y.length = 32 := by rw [← ey.out]; exact shaOf_len _
  go_enter Tryd.func10, Tryd.ntmps10
  refine code_both (fun f w1 => f.tmps.size = 19 ∧ f.defers = [] ∧ f.eval (.tmp 0) = .agg ([u1, u2] : List Value).toArray ∧ Below w.heap.size w (w1)) ⟨rfl, rfl, rfl, Below.refl _ _⟩ ?_
  rintro f0 w0 ⟨sz, df, x0, bl⟩
  have sd := And.intro sz df
  clear sz df
  have bl0 := bl
  refine wp_seq ?_
  refine wr_a [.nw w0.heap.size 25 ([u1, u2] : List Value), .eq (.bool false)] (by rw [sd.1]; kernel_rfl) ⟨fun hw ac u K => ?_, fun hw ac u K => ?_, trivial⟩ ?_
  · exact st_box 25 (.tmp 0) rfl _ _ (by rw [show _ = _ from (K.t x0 rfl)]; kernel_rfl) K.grow.size
  · exact st_assign (.const (.bool false)) rfl rfl
  intro f1 w1 A hb
  replace bl0 := bl
  replace x0 := A.t x0 rfl
  have x1 : Fk.f (.nw w0.heap.size 25 ([u1, u2] : List Value)) (f1.eval (.tmp 1)) w1 := A.has 0 1 rfl
  replace bl := bgo bl hb
  replace sd := A.sd sd
  clear A hb
  clear x0
  obtain ⟨g1, hg1, e1, m1⟩ := x1
  have x1 := e1
  clear e1
  have hw1 : w.heap.size ≤ g1 := Nat.le_trans bl0.size hg1
  show Code.wp _ _ _ _ _
  refine wp_seq ?_
  by_cases hAB : A = B
  rotate_left
  · skip
    by_cases hxy : x = y
    rotate_left
    · skip
      have hbf : false = b := by rw [hb]; symm; rw [decide_eq_false_iff_not]; exact fun h => hxy (by rw [← ex.out, ← ey.out]; exact h.2)
      refine wr_d [.eq (.pointer (some ⟨g1, 0, none⟩)), .eq (u1), .eq (.string (str (A))), .eq (.pointer (some ⟨g1, 1, none⟩)), .eq (u2), .eq (.string (str (B))), .eq (.bool true), .eq (.bool true), .eq (.pointer (some ⟨g1, 0, none⟩)), .eq (u1), .eq (.agg ((x).map V).toArray), .eq (.pointer (some ⟨g1, 1, none⟩)), .eq (u2), .eq (.agg ((y).map V).toArray), .eq (.bool false), .eq (.bool false), .eq (.bool false)] Tryd.mixed (by rw [sd.1]; kernel_rfl) ⟨fun hw ac u K => ?_, fun hw ac u K => ?_, fun hw ac u K => ?_, fun hw ac u K => ?_, fun hw ac u K => ?_, fun hw ac u K => ?_, fun hw ac u K => ?_, fun hw ac u K => ?_, fun hw ac u K => ?_, fun hw ac u K => ?_, fun hw ac u K => ?_, fun hw ac u K => ?_, fun hw ac u K => ?_, fun hw ac u K => ?_, fun hw ac u K => ?_, fun hw ac u K => ?_, fun hw ac u K => ?_, trivial⟩ ?_
      · exact st_field 25 0 (.tmp 1) rfl (K.t x1 rfl) (by kernel_rfl)
      · exact st_loadc 22 (.tmp 3) rfl (by kernel_rfl) (K.dep 0 3 rfl) (Ob.cell (Ob.below m1 K.grow) 0 rfl)
      · exact st_stra (.tmp 4) rfl (fk_val (K.dep 1 4 rfl) (Fk.mono _ _ _ _ hA (bgo bl K.grow)))
      · exact st_field 25 1 (.tmp 1) rfl (K.t x1 rfl) (by kernel_rfl)
      · exact st_loadc 22 (.tmp 6) rfl (by kernel_rfl) (K.dep 3 6 rfl) (Ob.cell (Ob.below m1 K.grow) 1 rfl)
      · exact st_stra (.tmp 7) rfl (fk_val (K.dep 4 7 rfl) (Fk.mono _ _ _ _ hB (bgo bl K.grow)))
      · exact st_nes (.tmp 5) (.tmp 8) rfl (str (A)) (str (B)) (K.dep 2 5 rfl) (K.dep 5 8 rfl) _ (by symm; rw [decide_eq_true_iff]; exact fun h => hAB (str_inj h))
      · exact st_move (.tmp 9) rfl (K.dep 6 9 rfl)
      · exact st_field 25 0 (.tmp 1) rfl (K.t x1 rfl) (by kernel_rfl)
      · exact st_loadc 22 (.tmp 11) rfl (by kernel_rfl) (K.dep 8 11 rfl) (Ob.cell (Ob.below m1 K.grow) 0 rfl)
      · exact st_call 26 (.func 26) _ _ _ rfl rfl (one_arg (K.dep 9 12 rfl)) Tryd.enter26 (by rw [← ex.out]; exact fk_sum (by omega) (hK.below (bgo bl K.grow)) (Fk.mono _ _ _ _ hA (bgo bl K.grow)))
      · exact st_field 25 1 (.tmp 1) rfl (K.t x1 rfl) (by kernel_rfl)
      · exact st_loadc 22 (.tmp 14) rfl (by kernel_rfl) (K.dep 11 14 rfl) (Ob.cell (Ob.below m1 K.grow) 1 rfl)
      · exact st_call 26 (.func 26) _ _ _ rfl rfl (one_arg (K.dep 12 15 rfl)) Tryd.enter26 (by rw [← ey.out]; exact fk_sum (by omega) (hK.below (bgo bl K.grow)) (Fk.mono _ _ _ _ hB (bgo bl K.grow)))
      · exact st_eqh (.tmp 13) (.tmp 16) rfl (x) (y) hx hy (K.dep 10 13 rfl) (K.dep 13 16 rfl) _ (by simp [hxy])
      · exact st_pick_t (.tmp 10) (.tmp 17) (.const (.bool false)) rfl (K.dep 7 10 rfl) (K.dep 14 17 rfl)
      · exact st_assign (.tmp 18) rfl (K.dep 15 18 rfl)
      intro f2 w2 A hb
      replace x1 := A.t x1 rfl
      have x2 := A.e 16 2 rfl rfl
      replace m1 := Ob.below m1 hb
      replace bl := bgo bl hb
      replace sd := A.sd sd
      clear A hb
      clear x1
      clear m1
      show Code.wp _ _ _ _ _
      refine wp_ret ?_
      repeat (first | with_reducible refine then_ret ?_ | with_reducible refine block_ret ?_)
      exact bodyPost_ret (v := .bool false) (ret_slot rfl f2 _ x2 _ _) sd.2 ⟨_, rfl, by rw [← hbf]; rfl, bl⟩
    have hbf : true = b := by rw [hb]; symm; rw [decide_eq_true_iff]; exact ⟨hAB, by rw [ex.out, ey.out]; exact hxy⟩
    refine wr_d [.eq (.pointer (some ⟨g1, 0, none⟩)), .eq (u1), .eq (.string (str (A))), .eq (.pointer (some ⟨g1, 1, none⟩)), .eq (u2), .eq (.string (str (B))), .eq (.bool true), .eq (.bool true), .eq (.pointer (some ⟨g1, 0, none⟩)), .eq (u1), .eq (.agg ((x).map V).toArray), .eq (.pointer (some ⟨g1, 1, none⟩)), .eq (u2), .eq (.agg ((y).map V).toArray), .eq (.bool true), .eq (.bool true), .eq (.bool true)] Tryd.mixed (by rw [sd.1]; kernel_rfl) ⟨fun hw ac u K => ?_, fun hw ac u K => ?_, fun hw ac u K => ?_, fun hw ac u K => ?_, fun hw ac u K => ?_, fun hw ac u K => ?_, fun hw ac u K => ?_, fun hw ac u K => ?_, fun hw ac u K => ?_, fun hw ac u K => ?_, fun hw ac u K => ?_, fun hw ac u K => ?_, fun hw ac u K => ?_, fun hw ac u K => ?_, fun hw ac u K => ?_, fun hw ac u K => ?_, fun hw ac u K => ?_, trivial⟩ ?_
    · exact st_field 25 0 (.tmp 1) rfl (K.t x1 rfl) (by kernel_rfl)
    · exact st_loadc 22 (.tmp 3) rfl (by kernel_rfl) (K.dep 0 3 rfl) (Ob.cell (Ob.below m1 K.grow) 0 rfl)
    · exact st_stra (.tmp 4) rfl (fk_val (K.dep 1 4 rfl) (Fk.mono _ _ _ _ hA (bgo bl K.grow)))
    · exact st_field 25 1 (.tmp 1) rfl (K.t x1 rfl) (by kernel_rfl)
    · exact st_loadc 22 (.tmp 6) rfl (by kernel_rfl) (K.dep 3 6 rfl) (Ob.cell (Ob.below m1 K.grow) 1 rfl)
    · exact st_stra (.tmp 7) rfl (fk_val (K.dep 4 7 rfl) (Fk.mono _ _ _ _ hB (bgo bl K.grow)))
    · exact st_nes (.tmp 5) (.tmp 8) rfl (str (A)) (str (B)) (K.dep 2 5 rfl) (K.dep 5 8 rfl) _ (by symm; rw [decide_eq_true_iff]; exact fun h => hAB (str_inj h))
    · exact st_move (.tmp 9) rfl (K.dep 6 9 rfl)
    · exact st_field 25 0 (.tmp 1) rfl (K.t x1 rfl) (by kernel_rfl)
    · exact st_loadc 22 (.tmp 11) rfl (by kernel_rfl) (K.dep 8 11 rfl) (Ob.cell (Ob.below m1 K.grow) 0 rfl)
    · exact st_call 26 (.func 26) _ _ _ rfl rfl (one_arg (K.dep 9 12 rfl)) Tryd.enter26 (by rw [← ex.out]; exact fk_sum (by omega) (hK.below (bgo bl K.grow)) (Fk.mono _ _ _ _ hA (bgo bl K.grow)))
    · exact st_field 25 1 (.tmp 1) rfl (K.t x1 rfl) (by kernel_rfl)
    · exact st_loadc 22 (.tmp 14) rfl (by kernel_rfl) (K.dep 11 14 rfl) (Ob.cell (Ob.below m1 K.grow) 1 rfl)
    · exact st_call 26 (.func 26) _ _ _ rfl rfl (one_arg (K.dep 12 15 rfl)) Tryd.enter26 (by rw [← ey.out]; exact fk_sum (by omega) (hK.below (bgo bl K.grow)) (Fk.mono _ _ _ _ hB (bgo bl K.grow)))
    · exact st_eqh (.tmp 13) (.tmp 16) rfl (x) (y) hx hy (K.dep 10 13 rfl) (K.dep 13 16 rfl) _ (by simp [hxy])
    · exact st_pick_t (.tmp 10) (.tmp 17) (.const (.bool false)) rfl (K.dep 7 10 rfl) (K.dep 14 17 rfl)
    · exact st_assign (.tmp 18) rfl (K.dep 15 18 rfl)
    intro f2 w2 A hb
    replace x1 := A.t x1 rfl
    have x2 := A.e 16 2 rfl rfl
    replace m1 := Ob.below m1 hb
    replace bl := bgo bl hb
    replace sd := A.sd sd
    clear A hb
    clear x1
    clear m1
    show Code.wp _ _ _ _ _
    refine wp_ret ?_
    repeat (first | with_reducible refine then_ret ?_ | with_reducible refine block_ret ?_)
    exact bodyPost_ret (v := .bool true) (ret_slot rfl f2 _ x2 _ _) sd.2 ⟨_, rfl, by rw [← hbf]; rfl, bl⟩
  have hbf : false = b := by rw [hb]; symm; rw [decide_eq_false_iff_not]; exact fun h => h.1 hAB
  refine wr_d [.eq (.pointer (some ⟨g1, 0, none⟩)), .eq (u1), .eq (.string (str (A))), .eq (.pointer (some ⟨g1, 1, none⟩)), .eq (u2), .eq (.string (str (B))), .eq (.bool false), .eq (.bool false), .any, .any, .any, .any, .any, .any, .any, .eq (.bool false), .eq (.bool false)] Tryd.mixed (by rw [sd.1]; kernel_rfl) ⟨fun hw ac u K => ?_, fun hw ac u K => ?_, fun hw ac u K => ?_, fun hw ac u K => ?_, fun hw ac u K => ?_, fun hw ac u K => ?_, fun hw ac u K => ?_, fun hw ac u K => ?_, fun hw ac u K => ?_, fun hw ac u K => ?_, fun hw ac u K => ?_, fun hw ac u K => ?_, fun hw ac u K => ?_, fun hw ac u K => ?_, fun hw ac u K => ?_, fun hw ac u K => ?_, fun hw ac u K => ?_, trivial⟩ ?_
  · exact st_field 25 0 (.tmp 1) rfl (K.t x1 rfl) (by kernel_rfl)
  · exact st_loadc 22 (.tmp 3) rfl (by kernel_rfl) (K.dep 0 3 rfl) (Ob.cell (Ob.below m1 K.grow) 0 rfl)
  · exact st_stra (.tmp 4) rfl (fk_val (K.dep 1 4 rfl) (Fk.mono _ _ _ _ hA (bgo bl K.grow)))
  · exact st_field 25 1 (.tmp 1) rfl (K.t x1 rfl) (by kernel_rfl)
  · exact st_loadc 22 (.tmp 6) rfl (by kernel_rfl) (K.dep 3 6 rfl) (Ob.cell (Ob.below m1 K.grow) 1 rfl)
  · exact st_stra (.tmp 7) rfl (fk_val (K.dep 4 7 rfl) (Fk.mono _ _ _ _ hB (bgo bl K.grow)))
  · exact st_nes (.tmp 5) (.tmp 8) rfl (str (A)) (str (B)) (K.dep 2 5 rfl) (K.dep 5 8 rfl) _ (by rw [hAB]; simp)
  · exact st_move (.tmp 9) rfl (K.dep 6 9 rfl)
  · exact (Bool.false_ne_true hw).elim
  · exact (Bool.false_ne_true hw).elim
  · exact (Bool.false_ne_true hw).elim
  · exact (Bool.false_ne_true hw).elim
  · exact (Bool.false_ne_true hw).elim
  · exact (Bool.false_ne_true hw).elim
  · exact (Bool.false_ne_true hw).elim
  · exact st_pick_f' (.tmp 10) (.tmp 17) (.const (.bool false)) rfl (K.dep 7 10 rfl) rfl
  · exact st_assign (.tmp 18) rfl (K.dep 15 18 rfl)
  intro f2 w2 A hb
  replace x1 := A.t x1 rfl
  have x2 := A.e 16 2 rfl rfl
  replace m1 := Ob.below m1 hb
  replace bl := bgo bl hb
  replace sd := A.sd sd
  clear A hb
  clear x1
  clear m1
  show Code.wp _ _ _ _ _
  refine wp_ret ?_
  repeat (first | with_reducible refine then_ret ?_ | with_reducible refine block_ret ?_)
  exact bodyPost_ret (v := .bool false) (ret_slot rfl f2 _ x2 _ _) sd.2 ⟨_, rfl, by rw [← hbf]; rfl, bl⟩
theorem fk_same {pa pb : List Pt} (hma : pa.length ≤ 1000) (_hmb : pb.length ≤ 1000) {w : World} {va vb : Value} (ha : (Fk.mg pa).f va w) (hb : (Fk.mg pb).f vb w) {b : Bool} (hbb : b = decide (bys pa = bys pb)) :
    Calls Tryd.prog 15 #[va, vb] w fun e w' => ∃ u, e = .returned u ∧ (Fk.eq (.bool b)).f u w' ∧ Below w.heap.size w w' := by
  go_enter Tryd.func15, Tryd.ntmps15
  refine code_both (fun f w1 => f.tmps.size = 28 ∧ f.defers = [] ∧ f.eval (.tmp 0) = va ∧ f.eval (.tmp 1) = vb ∧ Below w.heap.size w (w1)) ⟨rfl, rfl, rfl, rfl, Below.refl _ _⟩ ?_
  rintro f0 w0 ⟨sz, df, x0, x1, bl⟩
  have sd := And.intro sz df
  clear sz df
  have bl0 := bl
  refine wp_seq ?_
  refine wr_a [.eq (.bool false)] (by rw [sd.1]; kernel_rfl) ⟨fun hw ac u K => ?_, trivial⟩ ?_
  · exact st_assign (.const (.bool false)) rfl rfl
  intro f1 w1 A hb
  replace x0 := A.t x0 rfl
  replace x1 := A.t x1 rfl
  replace bl := bgo bl hb
  replace sd := A.sd sd
  clear A hb
  show Code.wp _ _ _ _ _
  refine wp_seq ?_
  refine wp_seq ?_
  by_cases hl : (pa).length = (pb).length
  rotate_left
  · skip
    have hbf : false = b := by rw [hbb]; symm; rw [decide_eq_false_iff_not]; exact fun h => hl (by have := congrArg List.length h; rwa [bys_len, bys_len] at this)
    refine wr_a [.eq (va), .eq (.int .i64 (((pa).length : Nat) : Int)), .eq (vb), .eq (.int .i64 (((pb).length : Nat) : Int)), .eq (.bool true)] (by rw [sd.1]; kernel_rfl) ⟨fun hw ac u K => ?_, fun hw ac u K => ?_, fun hw ac u K => ?_, fun hw ac u K => ?_, fun hw ac u K => ?_, trivial⟩ ?_
    · exact st_move (.tmp 0) rfl (K.t x0 rfl)
    · exact st_lenm (.tmp 6) rfl (fk_val (K.dep 0 6 rfl) (Fk.mono _ _ _ _ ha (bgo bl K.grow)))
    · exact st_move (.tmp 1) rfl (K.t x1 rfl)
    · exact st_lenm (.tmp 8) rfl (fk_val (K.dep 2 8 rfl) (Fk.mono _ _ _ _ hb (bgo bl K.grow)))
    · exact st_neqi 3 (.tmp 7) (.tmp 9) rfl .i64 ((((pa).length : Nat) : Int)) ((((pb).length : Nat) : Int)) (K.dep 1 7 rfl) (K.dep 3 9 rfl) _ (by symm; rw [decide_eq_true_iff]; omega)
    intro f2 w2 A hb
    replace x0 := A.t x0 rfl
    replace x1 := A.t x1 rfl
    have x10 := A.e 4 10 rfl rfl
    replace bl := bgo bl hb
    replace sd := A.sd sd
    clear A hb
    show Code.wp _ _ _ _ _
    refine wp_cond_true x10 ?_
    refine wp_seq ?_
    refine wr_a [.eq (.bool false)] (by rw [sd.1]; kernel_rfl) ⟨fun hw ac u K => ?_, trivial⟩ ?_
    · exact st_assign (.const (.bool false)) rfl rfl
    intro f3 w3 A hb
    replace x0 := A.t x0 rfl
    replace x1 := A.t x1 rfl
    replace x10 := A.t x10 rfl
    have x4 := A.e 0 4 rfl rfl
    replace bl := bgo bl hb
    replace sd := A.sd sd
    clear A hb
    clear x0
    clear x1
    clear x10
    show Code.wp _ _ _ _ _
    refine wp_ret ?_
    repeat (first | with_reducible refine then_ret ?_ | with_reducible refine block_ret ?_)
    exact bodyPost_ret (v := .bool false) (ret_slot rfl f3 _ x4 _ _) sd.2 ⟨_, rfl, by rw [← hbf]; rfl, bl⟩
  refine wr_a [.eq (va), .eq (.int .i64 (((pa).length : Nat) : Int)), .eq (vb), .eq (.int .i64 (((pb).length : Nat) : Int)), .eq (.bool false)] (by rw [sd.1]; kernel_rfl) ⟨fun hw ac u K => ?_, fun hw ac u K => ?_, fun hw ac u K => ?_, fun hw ac u K => ?_, fun hw ac u K => ?_, trivial⟩ ?_
  · exact st_move (.tmp 0) rfl (K.t x0 rfl)
  · exact st_lenm (.tmp 6) rfl (fk_val (K.dep 0 6 rfl) (Fk.mono _ _ _ _ ha (bgo bl K.grow)))
  · exact st_move (.tmp 1) rfl (K.t x1 rfl)
  · exact st_lenm (.tmp 8) rfl (fk_val (K.dep 2 8 rfl) (Fk.mono _ _ _ _ hb (bgo bl K.grow)))
  · exact st_neqi 3 (.tmp 7) (.tmp 9) rfl .i64 ((((pa).length : Nat) : Int)) ((((pb).length : Nat) : Int)) (K.dep 1 7 rfl) (K.dep 3 9 rfl) _ (by simp [hl])
  intro f2 w2 A hb
  replace x0 := A.t x0 rfl
  replace x1 := A.t x1 rfl
  have x10 := A.e 4 10 rfl rfl
  replace bl := bgo bl hb
  replace sd := A.sd sd
  clear A hb
  show Code.wp _ _ _ _ _
  refine wp_cond_false x10 ?_
  refine wp_skip ?_
  show Code.wp _ _ _ _ _
  refine wp_seq ?_
  refine wp_seq ?_
  refine wr_a [.eq (.int .i64 0)] (by rw [sd.1]; kernel_rfl) ⟨fun hw ac u K => ?_, trivial⟩ ?_
  · exact st_assign (.const (.int .i64 0)) rfl rfl
  intro f3 w3 A hb
  replace x0 := A.t x0 rfl
  replace x1 := A.t x1 rfl
  replace x10 := A.t x10 rfl
  have x5 := A.e 0 5 rfl rfl
  replace bl := bgo bl hb
  replace sd := A.sd sd
  clear A hb
  clear x10
  show Code.wp _ _ _ _ _
  refine wp_block ?_
  refine wp_loop (fun f v1 => ∃ k : Nat, k ≤ (pa).length ∧ (bys pa).take k = (bys pb).take k ∧ f.tmps.size = 28 ∧ f.defers = [] ∧ f.eval (.tmp 0) = va ∧ f.eval (.tmp 1) = vb ∧ f.eval (.tmp 5) = .int .i64 (k : Int) ∧ Below w.heap.size w (v1)) (fun f _ => (pa).length - (intOf (f.eval (.tmp 5))).toNat) ⟨0, Nat.zero_le _, (by simp), sd.1, sd.2, x0, x1, x5, bl⟩ ?_
  intro f4 w4 hI
  clear sd bl bl0 x0 x1 x5
  obtain ⟨k, hk8, hall, sz, df, x0, x1, x5, bl⟩ := hI
  have sd := And.intro sz df
  clear sz df
  have bl0 := bl
  have hcnt := x5
  refine wp_seq ?_
  refine wp_seq ?_
  by_cases hlt : k < (pa).length
  rotate_left
  · skip
    have hbf : true = b := by rw [hbb]; symm; rw [decide_eq_true_iff]; rw [List.take_of_length_le (by rw [bys_len]; omega), List.take_of_length_le (by rw [bys_len]; omega)] at hall; exact hall
    refine wr_a [.eq (.int .i64 (k : Int)), .eq (va), .eq (.int .i64 (((pa).length : Nat) : Int)), .eq (.bool false)] (by rw [sd.1]; kernel_rfl) ⟨fun hw ac u K => ?_, fun hw ac u K => ?_, fun hw ac u K => ?_, fun hw ac u K => ?_, trivial⟩ ?_
    · exact st_move (.tmp 5) rfl (K.t x5 rfl)
    · exact st_move (.tmp 0) rfl (K.t x0 rfl)
    · exact st_lenm (.tmp 12) rfl (fk_val (K.dep 1 12 rfl) (Fk.mono _ _ _ _ ha (bgo bl K.grow)))
    · exact st_lss 3 (.tmp 11) (.tmp 13) rfl .i64 ((k : Int)) ((((pa).length : Nat) : Int)) (K.dep 0 11 rfl) (K.dep 2 13 rfl) _ (by rw [eq_comm, decide_eq_false_iff_not]; exact fun h => hlt (Int.ofNat_lt.1 h))
    intro f5 w5 A hb
    replace x0 := A.t x0 rfl
    replace x1 := A.t x1 rfl
    replace x5 := A.t x5 rfl
    have x14 := A.e 3 14 rfl rfl
    replace bl := bgo bl hb
    replace sd := A.sd sd
    clear A hb
    show Code.wp _ _ _ _ _
    refine wp_cond_false x14 ?_
    refine wp_exit ?_
    show Code.wp _ _ _ _ _
    refine wp_seq ?_
    refine wr_a [.eq (.bool true)] (by rw [sd.1]; kernel_rfl) ⟨fun hw ac u K => ?_, trivial⟩ ?_
    · exact st_assign (.const (.bool true)) rfl rfl
    intro f6 w6 A hb
    replace x0 := A.t x0 rfl
    replace x1 := A.t x1 rfl
    replace x5 := A.t x5 rfl
    replace x14 := A.t x14 rfl
    have x4 := A.e 0 4 rfl rfl
    replace bl := bgo bl hb
    replace sd := A.sd sd
    clear A hb
    clear x14
    show Code.wp _ _ _ _ _
    refine wp_ret ?_
    repeat (first | with_reducible refine then_ret ?_ | with_reducible refine block_ret ?_)
    exact bodyPost_ret (v := .bool true) (ret_slot rfl f6 _ x4 _ _) sd.2 ⟨_, rfl, by rw [← hbf]; rfl, bl⟩
  have hlt2 : k < (pb).length := by omega
  obtain ⟨p, hpk⟩ : ∃ p, pa[k]? = some p := ⟨_, List.getElem?_eq_getElem hlt⟩
  have hslp : (Fk.sl p.bs).f (.slice p.sp p.m p.c) w := ⟨_, _, _, _, _, rfl, mg_ok ha hpk⟩
  obtain ⟨q, hqk⟩ : ∃ p, pb[k]? = some p := ⟨_, List.getElem?_eq_getElem hlt2⟩
  have hslq : (Fk.sl q.bs).f (.slice q.sp q.m q.c) w := ⟨_, _, _, _, _, rfl, mg_ok hb hqk⟩
  refine wr_a [.eq (.int .i64 (k : Int)), .eq (va), .eq (.int .i64 (((pa).length : Nat) : Int)), .eq (.bool true)] (by rw [sd.1]; kernel_rfl) ⟨fun hw ac u K => ?_, fun hw ac u K => ?_, fun hw ac u K => ?_, fun hw ac u K => ?_, trivial⟩ ?_
  · exact st_move (.tmp 5) rfl (K.t x5 rfl)
  · exact st_move (.tmp 0) rfl (K.t x0 rfl)
  · exact st_lenm (.tmp 12) rfl (fk_val (K.dep 1 12 rfl) (Fk.mono _ _ _ _ ha (bgo bl K.grow)))
  · exact st_lss 3 (.tmp 11) (.tmp 13) rfl .i64 ((k : Int)) ((((pa).length : Nat) : Int)) (K.dep 0 11 rfl) (K.dep 2 13 rfl) _ (by rw [eq_comm, decide_eq_true_iff]; exact Int.ofNat_lt.2 hlt)
  intro f5 w5 A hb
  replace x0 := A.t x0 rfl
  replace x1 := A.t x1 rfl
  replace x5 := A.t x5 rfl
  have x14 := A.e 3 14 rfl rfl
  replace bl := bgo bl hb
  replace sd := A.sd sd
  clear A hb
  show Code.wp _ _ _ _ _
  refine wp_cond_true x14 ?_
  refine wp_skip ?_
  show Code.wp _ _ _ _ _
  refine wp_seq ?_
  refine wp_block ?_
  refine wp_seq ?_
  by_cases hpq : p.bs = q.bs
  rotate_left
  · skip
    have hbf : false = b := by rw [hbb]; symm; rw [decide_eq_false_iff_not]; exact fun h => hpq (by have e1 := bys_at hpk; rw [h, bys_at hqk] at e1; exact (Option.some.inj e1).symm)
    refine wr_d [.eq (va), .eq (.int .i64 (k : Int)), .pv (.slice p.sp p.m p.c), .eq (.slice p.sp p.m p.c), .eq (.string (str (p.bs))), .eq (vb), .eq (.int .i64 (k : Int)), .pv (.slice q.sp q.m q.c), .eq (.slice q.sp q.m q.c), .eq (.string (str (q.bs))), .eq (.bool true)] Tryd.mixed (by rw [sd.1]; kernel_rfl) ⟨fun hw ac u K => ?_, fun hw ac u K => ?_, fun hw ac u K => ?_, fun hw ac u K => ?_, fun hw ac u K => ?_, fun hw ac u K => ?_, fun hw ac u K => ?_, fun hw ac u K => ?_, fun hw ac u K => ?_, fun hw ac u K => ?_, fun hw ac u K => ?_, trivial⟩ ?_
    · exact st_move (.tmp 0) rfl (K.t x0 rfl)
    · exact st_move (.tmp 5) rfl (K.t x5 rfl)
    · exact st_idxm (.tmp 17) (.tmp 18) rfl (fk_val (K.dep 0 17 rfl) (Fk.mono _ _ _ _ ha (bgo bl K.grow))) k p (K.dep 1 18 rfl) hpk
    · exact st_loadsl (.tmp 19) rfl (K.dep 2 19 rfl)
    · exact st_stra (.tmp 20) rfl (fk_val (K.dep 3 20 rfl) (Fk.mono _ _ _ _ hslp (bgo bl K.grow)))
    · exact st_move (.tmp 1) rfl (K.t x1 rfl)
    · exact st_move (.tmp 5) rfl (K.t x5 rfl)
    · exact st_idxm (.tmp 22) (.tmp 23) rfl (fk_val (K.dep 5 22 rfl) (Fk.mono _ _ _ _ hb (bgo bl K.grow))) k q (K.dep 6 23 rfl) hqk
    · exact st_loadsl (.tmp 24) rfl (K.dep 7 24 rfl)
    · exact st_stra (.tmp 25) rfl (fk_val (K.dep 8 25 rfl) (Fk.mono _ _ _ _ hslq (bgo bl K.grow)))
    · exact st_nes (.tmp 21) (.tmp 26) rfl (str (p.bs)) (str (q.bs)) (K.dep 4 21 rfl) (K.dep 9 26 rfl) _ (by symm; rw [decide_eq_true_iff]; exact fun h => hpq (str_inj h))
    intro f6 w6 A hb
    replace x0 := A.t x0 rfl
    replace x1 := A.t x1 rfl
    replace x5 := A.t x5 rfl
    replace x14 := A.t x14 rfl
    have x27 := A.e 10 27 rfl rfl
    replace bl := bgo bl hb
    replace sd := A.sd sd
    clear A hb
    clear x14
    show Code.wp _ _ _ _ _
    refine wp_cond_true x27 ?_
    refine wp_seq ?_
    refine wr_a [.eq (.bool false)] (by rw [sd.1]; kernel_rfl) ⟨fun hw ac u K => ?_, trivial⟩ ?_
    · exact st_assign (.const (.bool false)) rfl rfl
    intro f7 w7 A hb
    replace x0 := A.t x0 rfl
    replace x1 := A.t x1 rfl
    replace x5 := A.t x5 rfl
    replace x27 := A.t x27 rfl
    have x4 := A.e 0 4 rfl rfl
    replace bl := bgo bl hb
    replace sd := A.sd sd
    clear A hb
    clear x27
    show Code.wp _ _ _ _ _
    refine wp_ret ?_
    repeat (first | with_reducible refine then_ret ?_ | with_reducible refine block_ret ?_)
    exact bodyPost_ret (v := .bool false) (ret_slot rfl f7 _ x4 _ _) sd.2 ⟨_, rfl, by rw [← hbf]; rfl, bl⟩
  refine wr_d [.eq (va), .eq (.int .i64 (k : Int)), .pv (.slice p.sp p.m p.c), .eq (.slice p.sp p.m p.c), .eq (.string (str (p.bs))), .eq (vb), .eq (.int .i64 (k : Int)), .pv (.slice q.sp q.m q.c), .eq (.slice q.sp q.m q.c), .eq (.string (str (q.bs))), .eq (.bool false)] Tryd.mixed (by rw [sd.1]; kernel_rfl) ⟨fun hw ac u K => ?_, fun hw ac u K => ?_, fun hw ac u K => ?_, fun hw ac u K => ?_, fun hw ac u K => ?_, fun hw ac u K => ?_, fun hw ac u K => ?_, fun hw ac u K => ?_, fun hw ac u K => ?_, fun hw ac u K => ?_, fun hw ac u K => ?_, trivial⟩ ?_
  · exact st_move (.tmp 0) rfl (K.t x0 rfl)
  · exact st_move (.tmp 5) rfl (K.t x5 rfl)
  · exact st_idxm (.tmp 17) (.tmp 18) rfl (fk_val (K.dep 0 17 rfl) (Fk.mono _ _ _ _ ha (bgo bl K.grow))) k p (K.dep 1 18 rfl) hpk
  · exact st_loadsl (.tmp 19) rfl (K.dep 2 19 rfl)
  · exact st_stra (.tmp 20) rfl (fk_val (K.dep 3 20 rfl) (Fk.mono _ _ _ _ hslp (bgo bl K.grow)))
  · exact st_move (.tmp 1) rfl (K.t x1 rfl)
  · exact st_move (.tmp 5) rfl (K.t x5 rfl)
  · exact st_idxm (.tmp 22) (.tmp 23) rfl (fk_val (K.dep 5 22 rfl) (Fk.mono _ _ _ _ hb (bgo bl K.grow))) k q (K.dep 6 23 rfl) hqk
  · exact st_loadsl (.tmp 24) rfl (K.dep 7 24 rfl)
  · exact st_stra (.tmp 25) rfl (fk_val (K.dep 8 25 rfl) (Fk.mono _ _ _ _ hslq (bgo bl K.grow)))
  · exact st_nes (.tmp 21) (.tmp 26) rfl (str (p.bs)) (str (q.bs)) (K.dep 4 21 rfl) (K.dep 9 26 rfl) _ (by rw [hpq]; simp)
  intro f6 w6 A hb
  replace x0 := A.t x0 rfl
  replace x1 := A.t x1 rfl
  replace x5 := A.t x5 rfl
  replace x14 := A.t x14 rfl
  have x27 := A.e 10 27 rfl rfl
  replace bl := bgo bl hb
  replace sd := A.sd sd
  clear A hb
  clear x14
  show Code.wp _ _ _ _ _
  refine wp_cond_false x27 ?_
  refine wp_skip ?_
  show Code.wp _ _ _ _ _
  refine wr_s [.eq (.int .i64 (k : Int)), .eq (.int .i64 ((k + 1 : Nat) : Int))] (by rw [sd.1]; kernel_rfl) ⟨fun hw ac u K => ?_, fun hw ac u K => ?_, trivial⟩ ?_
  · exact st_move (.tmp 5) rfl (K.t x5 rfl)
  · exact st_add (.tmp 15) (.const (.int .i64 1)) rfl (k) (1) (k + 1) (K.dep 0 15 rfl) rfl (by omega) (by omega)
  intro f7 w7 A hb
  replace x0 := A.t x0 rfl
  replace x1 := A.t x1 rfl
  replace x5 := A.t x5 rfl
  replace x27 := A.t x27 rfl
  have x16 := A.e 1 16 rfl rfl
  replace bl := bgo bl hb
  replace sd := A.sd sd
  clear A hb
  clear x27
  refine wl_one (.eq (.int .i64 ((k + 1 : Nat) : Int))) rfl 5 rfl (by rw [sd.1]; decide) (st_assign (.tmp 16) rfl x16) ?_
  intro f8 w8 df2 sz2 old2 new2 hb
  replace x0 := tr old2 x0 rfl
  replace x1 := tr old2 x1 rfl
  clear x5
  replace x16 := tr old2 x16 rfl
  have x5 := Fk.e new2
  replace bl := bgo bl hb
  replace sd := sd2 sz2 df2 sd
  clear df2 sz2 old2 new2 hb
  refine wpList_nil ?_
  clear x16
  show (∃ _, _) ∧ _
  refine ⟨⟨k + 1, by omega, (take_more hall (bys_at hpk) (by rw [hpq]; exact bys_at hqk)), sd.1, sd.2, x0, x1, x5, bl⟩, ?_⟩
  rw [show f8.eval (.tmp 5) = _ from x5, show _ = _ from hcnt]
  first | (simp [intOf]; done) | (simp [intOf]; omega)
theorem fk_begins {pa pb : List Pt} (hma : pa.length ≤ 1000) (_hmb : pb.length ≤ 1000) {w : World} {va vb : Value} (ha : (Fk.mg pa).f va w) (hb : (Fk.mg pb).f vb w) (hcb : ∀ A C, vb = .slice A pb.length C → pb.length ≤ C) {b : Bool} (hbb : b = decide (pa.length ≤ pb.length ∧ bys pa = (bys pb).take pa.length)) :
    Calls Tryd.prog 22 #[va, vb] w fun e w' => ∃ u, e = .returned u ∧ (Fk.eq (.bool b)).f u w' ∧ Below w.heap.size w w' := by
  go_enter Tryd.func22, Tryd.ntmps22
  refine code_both (fun f w1 => f.tmps.size = 18 ∧ f.defers = [] ∧ f.eval (.tmp 0) = va ∧ f.eval (.tmp 1) = vb ∧ Below w.heap.size w (w1)) ⟨rfl, rfl, rfl, rfl, Below.refl _ _⟩ ?_
  rintro f0 w0 ⟨sz, df, x0, x1, bl⟩
  have sd := And.intro sz df
  clear sz df
  have bl0 := bl
  refine wp_seq ?_
  refine wr_a [.eq (.bool false)] (by rw [sd.1]; kernel_rfl) ⟨fun hw ac u K => ?_, trivial⟩ ?_
  · exact st_assign (.const (.bool false)) rfl rfl
  intro f1 w1 A hb
  replace x0 := A.t x0 rfl
  replace x1 := A.t x1 rfl
  replace bl := bgo bl hb
  replace sd := A.sd sd
  clear A hb
  show Code.wp _ _ _ _ _
  refine wp_seq ?_
  by_cases hl : (pa).length ≤ (pb).length
  rotate_left
  · skip
    have hbf : false = b := by rw [hbb]; symm; rw [decide_eq_false_iff_not]; exact fun h => hl h.1
    refine wr_a [.eq (va), .eq (.int .i64 (((pa).length : Nat) : Int)), .eq (vb), .eq (.int .i64 (((pb).length : Nat) : Int)), .eq (.bool false), .eq (.bool false), .any, .any, .any, .any, .any, .any, .eq (.bool false), .eq (.bool false)] (by rw [sd.1]; kernel_rfl) ⟨fun hw ac u K => ?_, fun hw ac u K => ?_, fun hw ac u K => ?_, fun hw ac u K => ?_, fun hw ac u K => ?_, fun hw ac u K => ?_, fun hw ac u K => ?_, fun hw ac u K => ?_, fun hw ac u K => ?_, fun hw ac u K => ?_, fun hw ac u K => ?_, fun hw ac u K => ?_, fun hw ac u K => ?_, fun hw ac u K => ?_, trivial⟩ ?_
    · exact st_move (.tmp 0) rfl (K.t x0 rfl)
    · exact st_lenm (.tmp 5) rfl (fk_val (K.dep 0 5 rfl) (Fk.mono _ _ _ _ ha (bgo bl K.grow)))
    · exact st_move (.tmp 1) rfl (K.t x1 rfl)
    · exact st_lenm (.tmp 7) rfl (fk_val (K.dep 2 7 rfl) (Fk.mono _ _ _ _ hb (bgo bl K.grow)))
    · exact st_leq 3 (.tmp 6) (.tmp 8) rfl .i64 ((((pa).length : Nat) : Int)) ((((pb).length : Nat) : Int)) (K.dep 1 6 rfl) (K.dep 3 8 rfl) _ (by symm; rw [decide_eq_false_iff_not]; omega)
    · exact st_move (.tmp 9) rfl (K.dep 4 9 rfl)
    · exact (Bool.false_ne_true hw).elim
    · exact (Bool.false_ne_true hw).elim
    · exact (Bool.false_ne_true hw).elim
    · exact (Bool.false_ne_true hw).elim
    · exact (Bool.false_ne_true hw).elim
    · exact (Bool.false_ne_true hw).elim
    · exact st_pick_f' (.tmp 10) (.tmp 16) (.const (.bool false)) rfl (K.dep 5 10 rfl) rfl
    · exact st_assign (.tmp 17) rfl (K.dep 12 17 rfl)
    intro f2 w2 A hb
    replace x0 := A.t x0 rfl
    replace x1 := A.t x1 rfl
    have x4 := A.e 13 4 rfl rfl
    replace bl := bgo bl hb
    replace sd := A.sd sd
    clear A hb
    clear x0
    clear x1
    show Code.wp _ _ _ _ _
    refine wp_ret ?_
    repeat (first | with_reducible refine then_ret ?_ | with_reducible refine block_ret ?_)
    exact bodyPost_ret (v := .bool false) (ret_slot rfl f2 _ x4 _ _) sd.2 ⟨_, rfl, by rw [← hbf]; rfl, bl⟩
  have hbf : b = b := rfl
  refine wr_a [.eq (va), .eq (.int .i64 (((pa).length : Nat) : Int)), .eq (vb), .eq (.int .i64 (((pb).length : Nat) : Int)), .eq (.bool true), .eq (.bool true), .eq (va), .eq (vb), .eq (va), .eq (.int .i64 (((pa).length : Nat) : Int)), .mg (pb.take pa.length), .eq (.bool b), .eq (.bool b), .eq (.bool b)] (by rw [sd.1]; kernel_rfl) ⟨fun hw ac u K => ?_, fun hw ac u K => ?_, fun hw ac u K => ?_, fun hw ac u K => ?_, fun hw ac u K => ?_, fun hw ac u K => ?_, fun hw ac u K => ?_, fun hw ac u K => ?_, fun hw ac u K => ?_, fun hw ac u K => ?_, fun hw ac u K => ?_, fun hw ac u K => ?_, fun hw ac u K => ?_, fun hw ac u K => ?_, trivial⟩ ?_
  · exact st_move (.tmp 0) rfl (K.t x0 rfl)
  · exact st_lenm (.tmp 5) rfl (fk_val (K.dep 0 5 rfl) (Fk.mono _ _ _ _ ha (bgo bl K.grow)))
  · exact st_move (.tmp 1) rfl (K.t x1 rfl)
  · exact st_lenm (.tmp 7) rfl (fk_val (K.dep 2 7 rfl) (Fk.mono _ _ _ _ hb (bgo bl K.grow)))
  · exact st_leq 3 (.tmp 6) (.tmp 8) rfl .i64 ((((pa).length : Nat) : Int)) ((((pb).length : Nat) : Int)) (K.dep 1 6 rfl) (K.dep 3 8 rfl) _ (by symm; rw [decide_eq_true_iff]; omega)
  · exact st_move (.tmp 9) rfl (K.dep 4 9 rfl)
  · exact st_move (.tmp 0) rfl (K.t x0 rfl)
  · exact st_move (.tmp 1) rfl (K.t x1 rfl)
  · exact st_move (.tmp 0) rfl (K.t x0 rfl)
  · exact st_lenm (.tmp 13) rfl (fk_val (K.dep 8 13 rfl) (Fk.mono _ _ _ _ ha (bgo bl K.grow)))
  · exact st_cutm (.tmp 12) (.tmp 14) rfl (fk_val (K.dep 7 12 rfl) (Fk.mono _ _ _ _ hb (bgo bl K.grow))) _ (K.dep 9 14 rfl) hl (by intro A C e; rw [(K.dep 7 12 rfl)] at e; exact hcb A C e)
  · exact st_call 15 (.func 15) _ _ _ rfl rfl (arg2 (K.dep 6 11 rfl) rfl) Tryd.enter15 (fk_same hma (by rw [List.length_take]; omega) (Fk.mono _ _ _ _ ha (bgo bl K.grow)) (K.dep 10 15 rfl) (by rw [hbb, bys_take]; simp [hl]))
  · exact st_pick_t (.tmp 10) (.tmp 16) (.const (.bool false)) rfl (K.dep 5 10 rfl) (K.dep 11 16 rfl)
  · exact st_assign (.tmp 17) rfl (K.dep 12 17 rfl)
  intro f2 w2 A hb
  replace x0 := A.t x0 rfl
  replace x1 := A.t x1 rfl
  have x4 := A.e 13 4 rfl rfl
  replace bl := bgo bl hb
  replace sd := A.sd sd
  clear A hb
  clear x0
  clear x1
  show Code.wp _ _ _ _ _
  refine wp_ret ?_
  repeat (first | with_reducible refine then_ret ?_ | with_reducible refine block_ret ?_)
  exact bodyPost_ret (v := .bool b) (ret_slot rfl f2 _ x4 _ _) sd.2 ⟨_, rfl, by rw [← hbf]; rfl, bl⟩
end Go.Proofs.YtfmeeimhfdnjpaaDoor
namespace Go.Proofs.YtfmeeimhfdnjpaaDoor
set_option maxRecDepth 100000
open Go.RowKit
theorem arg5 {a : Act} {x y z p q : Operand} {u v t s r : Value} (h : a.eval x = u) (h2 : a.eval y = v) (h3 : a.eval z = t) (h4 : a.eval p = s) (h5 : a.eval q = r) : ((#[x, y, z, p, q].toList.map a.eval).toArray : Array Value) = #[u, v, t, s, r] := by rw [← h, ← h2, ← h3, ← h4, ← h5]; rfl
/-- Bools in cells. -/
def bvs (ds : List Bool) : List Value := ds.map fun b => .bool b
theorem bvs_append (a b : List Bool) : bvs (a ++ b) = bvs a ++ bvs b := List.map_append
theorem bvs_one (ds : List Bool) : ∀ u ∈ bvs ds, u.oneCell' = true := by
  intro u hu
  obtain ⟨z, _, rfl⟩ := List.mem_map.1 hu
  rfl
theorem bvs_at {ds : List Bool} {i : Nat} {z : Bool} (h : ds[i]? = some z) : ∀ (j : Nat) (v : Value), ([.bool z] : List Value)[j]? = some v → (bvs ds)[i * 1 + j]? = some v := by
  intro j v hj
  cases j with
  | zero =>
    obtain rfl : Value.bool z = v := by simpa using hj
    simp [bvs, h]
  | succ j => simp at hj
/-- Bools of the call's own; to be read. -/
def Fk.ob (base : Nat) (ds : List Bool) : Fk := Fk.orw base 4 1 ds.length (bvs ds)
def Fk.bs (ds : List Bool) : Fk := Fk.rdw 1 ds.length (bvs ds)
theorem Tryd.under81z : Tryd.prog.underlying 81 = some (.slice 4) := by kernel_rfl
theorem Tryd.elem81z : Tryd.prog.elem 81 = 4 := by kernel_rfl
theorem Tryd.info4z : (Tryd.prog.info? 4).map (fun i => (i.zero, i.size, i.bytes)) = some (some (.bool false), 1, 1) := by kernel_rfl
theorem Tryd.size4z (w : World) : (sizeOf 4).run Tryd.prog w = .ok 1 w := by kernel_rfl
theorem Tryd.bld4z (z : Bool) (w : World) : (Instr.buildSlice 81 1 #[(0, .bool z)]).run Tryd.prog w = .ok (.slice (some ⟨w.heap.size, 0, none⟩) 1 1) (w.alloc (.cells (bvs [z]).toArray 4)) := by kernel_rfl
theorem ob_bs {base : Nat} {ds : List Bool} {v : Value} {w : World} (h : (Fk.ob base ds).f v w) : (Fk.bs ds).f v w := orw_rdw h
theorem ob_nil (base : Nat) (w : World) : (Fk.ob base []).f (.slice none 0 0) w := orw_nil _ _ _ _
section
variable {Q : Exit → Act → World → Prop} {o : Oper} {a : Act} {w : World} {ops : Array Oper} {rest : List Oper}
theorem wl_appendo (hgd : o.guard = none) (s x : Operand) (ho : o.op = .call { callee := .builtin .append, args := #[s, x], argTypes := #[81, 81] }) (d : Nat) (hd : o.dst = some d) (hsz : d < a.tmps.size)
    {wL : World} {b : Nat} {cs ds : List Bool} (hs1 : (Fk.ob wL.heap.size cs).f (a.eval s) w) (hx : (Fk.ob b ds).f (a.eval x) w) (hm : 1 ≤ ds.length) (hL : Below wL.heap.size wL w) (hN : cs.length + ds.length ≤ 100000)
    (h : ∀ a2 w2, a2.defers = a.defers → a2.tmps.size = a.tmps.size → (∀ t, (t == d) = false → a2.eval (.tmp t) = a.eval (.tmp t)) → (Fk.ob wL.heap.size (cs ++ ds)).f (a2.eval (.tmp d)) w2 → Below wL.heap.size wL w2 → wpList Tryd.prog ops Q rest a2 w2) : wpList Tryd.prog ops Q (o :: rest) a w :=
  wl_appr 81 4 1 1 Tryd.under81z Tryd.info4z rfl (by decide) hgd s x ho d hd hsz hs1 hx hm (bvs_one ds) hL hN (by decide) (fun a2 w2 h1 h2 h3 h4 h5 => h a2 w2 h1 h2 h3 (by unfold Fk.ob; rw [List.length_append, bvs_append]; exact h4) h5)
theorem st_lenbs (x : Operand) (ho : o.op = .call { callee := .builtin .len, args := #[x], argTypes := #[81] }) {ds : List Bool} (h : (Fk.bs ds).f (a.eval x) w) : o.wp Tryd.prog a w (Ends a o.dst w (Fk.eq (.int .i64 ((ds.length : Nat) : Int))).f) Q := st_lenr 81 4 Tryd.under81z Tryd.elem81z x ho h
theorem st_idxbs (x y : Operand) (ho : o.op = .indexAddr 81 x y) {ds : List Bool} (h : (Fk.bs ds).f (a.eval x) w) (i : Nat) (hy : a.eval y = .int .i64 (i : Int)) (z : Bool) (hi : ds[i]? = some z) : o.wp Tryd.prog a w (Ends a o.dst w (Fk.prg [.bool z]).f) Q :=
  st_idxr2 81 4 Tryd.under81z Tryd.elem81z Tryd.size4z x y ho h i hy (List.getElem?_eq_some_iff.1 hi).1 _ (bvs_at hi)
theorem st_bo1b (x : Operand) (ho : o.op = .buildSlice 81 1 #[(0, x)]) (z : Bool) (hx : a.eval x = .bool z) (g0 : Nat) (hg : g0 ≤ w.heap.size) : o.wp Tryd.prog a w (Ends a o.dst w (Fk.ob g0 [z]).f) Q := st_bldr 81 4 1 x ho _ hx (Tryd.bld4z z) rfl g0 hg
end
end Go.Proofs.YtfmeeimhfdnjpaaDoor
namespace Go.Proofs.YtfmeeimhfdnjpaaDoor
set_option maxRecDepth 100000
/-- Of the leaf i of n, from it up: does the hash beside stand on the left? -/
def sds (i n : Nat) : List Bool :=
  if _h : n ≤ 1 then []
  else if i < spl n then sds i (spl n) ++ [false] else sds (i - spl n) (n - spl n) ++ [true]
  termination_by n
  decreasing_by
    · exact spl_lt (by omega)
    · have := spl_pos n
      omega
theorem sds_one {n : Nat} (h : n ≤ 1) (i : Nat) : sds i n = [] := by rw [sds, dif_pos h]
theorem sds_left {i n : Nat} (h : 2 ≤ n) (hi : i < spl n) : sds i n = sds i (spl n) ++ [false] := by rw [sds, dif_neg (by omega), if_pos hi]
theorem sds_right {i n : Nat} (h : 2 ≤ n) (hi : ¬ i < spl n) : sds i n = sds (i - spl n) (n - spl n) ++ [true] := by rw [sds, dif_neg (by omega), if_neg hi]
/-- A hash, and the next one, on its left or right. -/
def jon (h : List (BitVec 8)) (p : List (BitVec 8) × Bool) : List (BitVec 8) := if p.2 then nd p.1 h else nd h p.1
/-- Where a path leads. -/
def ldt (leaf : List (BitVec 8)) (P : List (List (BitVec 8))) (S : List Bool) : List (BitVec 8) := (P.zip S).foldl jon leaf
theorem ldt_nil (leaf : List (BitVec 8)) : ldt leaf [] [] = leaf := rfl
theorem ldt_snoc (leaf : List (BitVec 8)) {P : List (List (BitVec 8))} {S : List Bool} (h : P.length = S.length) (x : List (BitVec 8)) (b : Bool) : ldt leaf (P ++ [x]) (S ++ [b]) = jon (ldt leaf P S) (x, b) := by
  unfold ldt
  rw [List.zip_append h, List.foldl_append]
  rfl
/-- No more than 61 of them up to 2^60. -/
theorem sds_log (n : Nat) : ∀ i j, n ≤ 2 ^ j → (sds i n).length ≤ j := by
  induction n using Nat.strongRecOn with
  | ind n ih =>
    intro i j hj
    by_cases h1 : n ≤ 1
    · rw [sds_one h1]; exact Nat.zero_le _
    · have hs := spl_lt (n := n) (by omega)
      have hp := spl_pos n
      have hg := spl_ge (n := n) (by omega)
      cases j with
      | zero => simp at hj; omega
      | succ j =>
        have hk : spl n ≤ 2 ^ j := by
          unfold spl
          apply Nat.pow_le_pow_right (by decide)
          have : Nat.log2 (n - 1) < j + 1 := (Nat.log2_lt (by omega)).2 (by omega)
          omega
        by_cases hi : i < spl n
        · have := ih (spl n) hs i j hk
          rw [sds_left (by omega) hi, List.length_append, List.length_singleton]; omega
        · have := ih (n - spl n) (by omega) (i - spl n) j (by rw [Nat.pow_succ] at hj; omega)
          rw [sds_right (by omega) hi, List.length_append, List.length_singleton]; omega
theorem path_sides (n : Nat) : ∀ (l : List (List (BitVec 8))) (i : Nat), l.length = n → i < n → (mpath l i).length = (sds i n).length ∧ ∀ x, l[i]? = some x → ldt x (mpath l i) (sds i n) = mroot l := by
  induction n using Nat.strongRecOn with
  | ind n ih =>
    intro l i hl hi
    by_cases h1 : n ≤ 1
    · rw [mpath_one (by omega), sds_one h1]
      refine ⟨rfl, fun x hx => ?_⟩
      match l, hl with
      | [y], _ =>
        obtain rfl : i = 0 := by omega
        obtain rfl : y = x := by simpa using hx
        rw [ldt_nil, mroot_one]
      | [], hl => exact absurd hl (by simp; omega)
      | a :: b :: r, hl => exact absurd hl (by simp; omega)
    · have h2 : 2 ≤ l.length := by omega
      have hs := spl_lt (n := n) (by omega)
      have hp := spl_pos n
      by_cases hk : i < spl n
      · obtain ⟨e1, e2⟩ := ih (spl n) hs (l.take (spl n)) i (by rw [List.length_take]; omega) hk
        rw [mpath_left h2 (by rw [hl]; exact hk), sds_left (by omega) hk, hl]
        refine ⟨by rw [List.length_append, List.length_append, e1, List.length_singleton, List.length_singleton], fun x hx => ?_⟩
        rw [ldt_snoc _ e1, e2 x (by rw [List.getElem?_take, if_pos hk]; exact hx), mroot_two h2, hl]
        rfl
      · obtain ⟨e1, e2⟩ := ih (n - spl n) (by omega) (l.drop (spl n)) (i - spl n) (by rw [List.length_drop]; omega) (by omega)
        rw [mpath_right h2 (by rw [hl]; exact hk), sds_right (by omega) hk, hl]
        refine ⟨by rw [List.length_append, List.length_append, e1, List.length_singleton, List.length_singleton], fun x hx => ?_⟩
        rw [ldt_snoc _ e1, e2 x (by rw [List.getElem?_drop, show spl n + (i - spl n) = i by omega]; exact hx), mroot_two h2, hl]
        rfl
/-- Of a proof from m to n: does it begin with a hash of its own; then, step by step, does the next hash stand on the left of both roots? -/
def stp (m n : Nat) (whole : Bool) : Bool × List Bool :=
  if m = n then (!whole, [])
  else if _h : n ≤ 1 then (!whole, [])
  else if m ≤ spl n then ((stp m (spl n) whole).1, (stp m (spl n) whole).2 ++ [false])
  else ((stp (m - spl n) (n - spl n) false).1, (stp (m - spl n) (n - spl n) false).2 ++ [true])
  termination_by n
  decreasing_by
    all_goals first | exact spl_lt (by omega) | (have := spl_pos n; omega)
theorem stp_same (n : Nat) (w : Bool) : stp n n w = (!w, []) := by rw [stp, if_pos rfl]
theorem stp_left {m n : Nat} {w : Bool} (h : 2 ≤ n) (hm : m ≠ n) (hk : m ≤ spl n) : stp m n w = ((stp m (spl n) w).1, (stp m (spl n) w).2 ++ [false]) := by rw [stp, if_neg hm, dif_neg (by omega), if_pos hk]
theorem stp_right {m n : Nat} {w : Bool} (h : 2 ≤ n) (hm : m ≠ n) (hk : ¬ m ≤ spl n) : stp m n w = ((stp (m - spl n) (n - spl n) false).1, (stp (m - spl n) (n - spl n) false).2 ++ [true]) := by rw [stp, if_neg hm, dif_neg (by omega), if_neg hk]
/-- One step of both roots. -/
def bst (ab : List (BitVec 8) × List (BitVec 8)) (p : List (BitVec 8) × Bool) : List (BitVec 8) × List (BitVec 8) := (if p.2 then nd p.1 ab.1 else ab.1, jon ab.2 p)
/-- Where the hashes of a proof lead, from two roots that are one. -/
def bth (a : List (BitVec 8)) (P : List (List (BitVec 8))) (S : List Bool) : List (BitVec 8) × List (BitVec 8) := (P.zip S).foldl bst (a, a)
theorem bth_nil (a : List (BitVec 8)) : bth a [] [] = (a, a) := rfl
theorem bth_snoc (a : List (BitVec 8)) {P : List (List (BitVec 8))} {S : List Bool} (h : P.length = S.length) (x : List (BitVec 8)) (b : Bool) : bth a (P ++ [x]) (S ++ [b]) = bst (bth a P S) (x, b) := by
  unfold bth
  rw [List.zip_append h, List.foldl_append]
  rfl
theorem stp_false (n : Nat) : ∀ m, (stp m n false).1 = true := by
  induction n using Nat.strongRecOn with
  | ind n ih =>
    intro m
    by_cases hm : m = n
    · subst hm; rw [stp_same]; rfl
    · by_cases h1 : n ≤ 1
      · rw [stp, if_neg hm, dif_pos h1]; rfl
      · have hs := spl_lt (n := n) (by omega)
        have hp := spl_pos n
        by_cases hk : m ≤ spl n
        · rw [stp_left (by omega) hm hk]; exact ih _ hs _
        · rw [stp_right (by omega) hm hk]; exact ih _ (by omega) _
theorem spl_between {n m : Nat} (h : 2 ≤ n) (h1 : spl n < m) (h2 : m ≤ n) : spl m = spl n := by
  have hg := spl_ge h
  unfold spl at h1 hg ⊢
  have := spl_one (n := m) (j := Nat.log2 (n - 1)) h1 (by omega)
  unfold spl at this
  exact this
end Go.Proofs.YtfmeeimhfdnjpaaDoor
namespace Go.Proofs.YtfmeeimhfdnjpaaDoor
set_option maxRecDepth 100000
open Go.RowKit
theorem jon_len (h : List (BitVec 8)) (p : List (BitVec 8) × Bool) : (jon h p).length = 32 := by unfold jon; split <;> exact nd_len _ _
/-- No more than j steps up to 2^j. -/
theorem stp_log (n : Nat) : ∀ m b j, n ≤ 2 ^ j → (stp m n b).2.length ≤ j := by
  induction n using Nat.strongRecOn with
  | ind n ih =>
    intro m b j hj
    by_cases hm : m = n
    · subst hm; rw [stp_same]; exact Nat.zero_le _
    · by_cases h1 : n ≤ 1
      · rw [stp, if_neg hm, dif_pos h1]; exact Nat.zero_le _
      · have hs := spl_lt (n := n) (by omega)
        have hp := spl_pos n
        have hg := spl_ge (n := n) (by omega)
        cases j with
        | zero => simp at hj; omega
        | succ j =>
          have hk : spl n ≤ 2 ^ j := by
            unfold spl
            apply Nat.pow_le_pow_right (by decide)
            have : Nat.log2 (n - 1) < j + 1 := (Nat.log2_lt (by omega)).2 (by omega)
            omega
          by_cases hi : m ≤ spl n
          · have := ih (spl n) hs m b j hk
            rw [stp_left (by omega) hm hi]
            simp only [List.length_append, List.length_singleton]
            omega
          · have := ih (n - spl n) (by omega) (m - spl n) false j (by rw [Nat.pow_succ] at hj; omega)
            rw [stp_right (by omega) hm hi]
            simp only [List.length_append, List.length_singleton]
            omega
end Go.Proofs.YtfmeeimhfdnjpaaDoor
namespace Go.Proofs.YtfmeeimhfdnjpaaDoor
set_option maxRecDepth 100000
open Go.RowKit
/-- Both roots behind k steps. -/
def bk (a : List (BitVec 8)) (R : List (List (BitVec 8))) (S : List Bool) (k : Nat) : List (BitVec 8) × List (BitVec 8) := ((R.zip S).take k).foldl bst (a, a)
theorem bk_zero (a : List (BitVec 8)) (R : List (List (BitVec 8))) (S : List Bool) : bk a R S 0 = (a, a) := rfl
theorem bk_succ (a : List (BitVec 8)) {R : List (List (BitVec 8))} {S : List Bool} {k : Nat} {p : List (BitVec 8)} {b : Bool} (hp : R[k]? = some p) (hb : S[k]? = some b) : bk a R S (k + 1) = bst (bk a R S k) (p, b) := by
  unfold bk
  have : (R.zip S)[k]? = some (p, b) := by rw [List.getElem?_zip_eq_some]; exact ⟨hp, hb⟩
  rw [List.take_add_one, this, List.foldl_append]
  rfl
theorem bst_t (ab : List (BitVec 8) × List (BitVec 8)) (p : List (BitVec 8)) : (bst ab (p, true)).1 = nd p ab.1 := by simp [bst]
theorem bst_f (ab : List (BitVec 8) × List (BitVec 8)) (p : List (BitVec 8)) : (bst ab (p, false)).1 = ab.1 := by simp [bst]
theorem bst_2 (ab : List (BitVec 8) × List (BitVec 8)) (p : List (BitVec 8)) (b : Bool) : (bst ab (p, b)).2 = jon ab.2 (p, b) := by simp [bst]
theorem bk_all (a : List (BitVec 8)) {R : List (List (BitVec 8))} {S : List Bool} (h : R.length = S.length) : bk a R S S.length = bth a R S := by
  unfold bk bth
  rw [List.take_of_length_le (by rw [List.length_zip]; omega)]
theorem bk_len {a : List (BitVec 8)} (ha : a.length = 32) (R : List (List (BitVec 8))) (S : List Bool) (k : Nat) : (bk a R S k).1.length = 32 ∧ (bk a R S k).2.length = 32 := by
  unfold bk
  generalize (R.zip S).take k = l
  suffices H : ∀ (l : List (List (BitVec 8) × Bool)) (x : List (BitVec 8) × List (BitVec 8)), x.1.length = 32 → x.2.length = 32 → (l.foldl bst x).1.length = 32 ∧ (l.foldl bst x).2.length = 32 from H l (a, a) ha ha
  intro l
  induction l with
  | nil => intro x h1 h2; exact ⟨h1, h2⟩
  | cons q r ih =>
    intro x h1 h2
    refine ih _ ?_ (jon_len _ _)
    show (if q.2 then nd q.1 x.1 else x.1).length = 32
    split
    · exact nd_len _ _
    · exact h1
/-- What two roots a step leads to, if it has as many hashes as it must have. -/
def bres (old : List (BitVec 8)) (P : List (List (BitVec 8))) (c : Bool) (S : List Bool) : Option (List (BitVec 8) × List (BitVec 8)) :=
  if c then (match P with | [] => none | p :: r => if r.length = S.length then some (bth p r S) else none) else if P.length = S.length then some (bth old P S) else none
end Go.Proofs.YtfmeeimhfdnjpaaDoor
namespace Go.Proofs.YtfmeeimhfdnjpaaDoor
set_option maxRecDepth 100000
open Go.RowKit
/-- A list of slices of bytes, as much as its room. -/
def Fk.mc (ps : List Pt) : Fk := .inr (.inl ⟨fun v w => (Fk.mg ps).f v w ∧ ∀ A C, v = .slice A ps.length C → ps.length ≤ C, by
  rintro v w w' ⟨h, hc⟩ hb
  exact ⟨Fk.mono _ _ _ _ h hb, hc⟩⟩)
theorem mc_mg {ps : List Pt} {v : Value} {w : World} (h : (Fk.mc ps).f v w) : (Fk.mg ps).f v w := h.1
theorem mc_nil (w : World) : (Fk.mc []).f (.slice none 0 0) w := ⟨⟨none, 0, 0, 0, rfl, fun h => by simp at h, fun i p hi => by simp at hi, fun i p hi => by simp at hi⟩, fun A C e => by cases e; exact Nat.le_refl _⟩
/-- What is told of a collision: two inputs, and whether it is one. -/
def Fk.c2 (f : Bool) : Fk := .inr (.inl ⟨fun v w => ∃ A B u1 u2, v = .tuple #[.agg ([u1, u2] : List Value).toArray, .bool f] ∧ (Fk.sl A).f u1 w ∧ (Fk.sl B).f u2 w ∧ A.length ≤ 100000 ∧ B.length ≤ 100000 ∧ (f = true → rcol A B), by
  rintro v w w' ⟨A, B, u1, u2, e, h1, h2, h⟩ hb
  exact ⟨A, B, u1, u2, e, Fk.mono _ _ _ _ h1 hb, Fk.mono _ _ _ _ h2 hb, h⟩⟩)
/-- The same beside an error. -/
def Fk.c3 (f : Bool) (n : Int) : Fk := .inr (.inl ⟨fun v w => ∃ A B u1 u2, v = .tuple #[.agg ([u1, u2] : List Value).toArray, .bool f, .int .i64 n] ∧ (Fk.sl A).f u1 w ∧ (Fk.sl B).f u2 w ∧ A.length ≤ 100000 ∧ B.length ≤ 100000 ∧ (f = true → rcol A B), by
  rintro v w w' ⟨A, B, u1, u2, e, h1, h2, h⟩ hb
  exact ⟨A, B, u1, u2, e, Fk.mono _ _ _ _ h1 hb, Fk.mono _ _ _ _ h2 hb, h⟩⟩)
/-- A proof from m to n is right for both roots. -/
def prOn (m n : Nat) (old rt : List (BitVec 8)) (P : List (List (BitVec 8))) : Prop := if m = 0 then P.length = 0 else bres old P (stp m n true).1 (stp m n true).2 = some (old, rt)
instance (m n : Nat) (old rt : List (BitVec 8)) (P : List (List (BitVec 8))) : Decidable (prOn m n old rt P) := by unfold prOn; infer_instance
theorem st_tup {P : Program} {Q : Exit → Act → World → Prop} {o : Oper} {a : Act} {w : World} (x : Operand) {k : Nat} (ho : o.op = .extract x k) {vs : Array Value} (hx : a.eval x = .tuple vs) {u : Value} (hk : vs[k]? = some u) : o.wp P a w (Ends a o.dst w (Fk.eq u).f) Q := by
  refine st_pure (v := u) ?_ rfl
  unfold execOp
  rw [ho]
  simp [hx, Instr.extract, hk]
/-- A list of one slice of bytes, new. -/
def Fk.m1 (bs : List (BitVec 8)) : Fk := .inr (.inl ⟨fun v w => ∃ p : Pt, p.bs = bs ∧ (Fk.mc [p]).f v w, by
  rintro v w w' ⟨p, e, h⟩ hb
  exact ⟨p, e, Fk.mono _ _ _ _ h hb⟩⟩)
theorem Tryd.bytes1 (n : Int) (w : World) : (Instr.buildSlice 22 1 #[(0, .int .u8 n)]).run Tryd.prog w = .ok (.slice (some ⟨w.heap.size, 0, none⟩) 1 1) (w.alloc (.cells #[.int .u8 n] 5)) := by kernel_rfl
theorem Tryd.bldm (sp : Option Addr) (m c : Nat) (w : World) : (Instr.buildSlice 28 1 #[(0, .slice sp m c)]).run Tryd.prog w = .ok (.slice (some ⟨w.heap.size, 0, none⟩) 1 1) (w.alloc (.cells #[.slice sp m c] 22)) := by kernel_rfl
section
variable {Q : Exit → Act → World → Prop} {o : Oper} {a : Act} {w : World}
theorem st_b1 (n : Int) (x : BitVec 8) (ho : o.op = .buildSlice 22 1 #[(0, .const (.int .u8 n))]) (hn : n = bv x) : o.wp Tryd.prog a w (Ends a o.dst w (Fk.sl [x]).f) Q := by
  subst hn
  refine st_run (v := .slice (some ⟨w.heap.size, 0, none⟩) 1 1) (w' := w.alloc (.cells #[.int .u8 (bv x)] 5)) ?_ ((Below.refl _ _).alloc (Nat.le_refl _) _) ⟨_, _, _, w.heap.size, 0, rfl, rfl, Nat.le_refl _, (fun e => by cases e), fun _ => ⟨rfl, Ob.lt (T := 5) (cs := [.int .u8 (bv x)]) (heap_alloc_new _ _), fun i hi => ?_⟩⟩
  · unfold execOp
    rw [ho]
    have := Tryd.bytes1 (bv x) w
    simp [Act.eval, this]
  · have hi0 : i = 0 := by simpa using hi
    subst hi0
    exact Ob.cell (T := 5) (cs := [.int .u8 (bv x)]) (heap_alloc_new _ _) 0 rfl
theorem st_bm1 (x : Operand) (ho : o.op = .buildSlice 28 1 #[(0, x)]) {bs : List (BitVec 8)} (h : (Fk.sl bs).f (a.eval x) w) : o.wp Tryd.prog a w (Ends a o.dst w (Fk.m1 bs).f) Q := by
  obtain ⟨sp, m, c, b, so, e, hs⟩ := h
  have hbl : Below w.heap.size w (w.alloc (.cells #[.slice sp m c] 22)) := (Below.refl _ _).alloc (Nat.le_refl _) _
  refine st_run (v := .slice (some ⟨w.heap.size, 0, none⟩) 1 1) (w' := w.alloc (.cells #[.slice sp m c] 22)) ?_ hbl ⟨⟨sp, m, c, bs, b, so⟩, rfl, ⟨some ⟨w.heap.size, 0, none⟩, 1, w.heap.size, 0, rfl, fun _ => rfl, fun i p hi => ?_, fun i p hi => ?_⟩, fun A C e => by cases e; exact Nat.le_refl _⟩
  · unfold execOp
    rw [ho]
    have := Tryd.bldm sp m c w
    simp [e, this]
  · have hi0 : i = 0 := by have := (List.getElem?_eq_some_iff.1 hi).1; simp at this; exact this
    subst hi0
    obtain rfl : (⟨sp, m, c, bs, b, so⟩ : Pt) = p := by simpa using hi
    exact Ob.cell (T := 22) (cs := [.slice sp m c]) (heap_alloc_new _ _) 0 rfl
  · have hi0 : i = 0 := by have := (List.getElem?_eq_some_iff.1 hi).1; simp at this; exact this
    subst hi0
    obtain rfl : (⟨sp, m, c, bs, b, so⟩ : Pt) = p := by simpa using hi
    exact Pt.ok_below hs hbl
theorem st_bh1c (x : Operand) (ho : o.op = .buildSlice 35 1 #[(0, x)]) {hh : List (BitVec 8)} (hl : hh.length = 32) (hx : a.eval x = .agg (hh.map V).toArray) : o.wp Tryd.prog a w (Ends a o.dst w (Fk.hc [hh]).f) Q := by
  refine st_run (v := .slice (some ⟨w.heap.size, 0, none⟩) 1 1) (w' := w.alloc (.cells (hh.map V).toArray 33)) ?_ ((Below.refl _ _).alloc (Nat.le_refl _) _) ⟨_, 1, w.heap.size, 0, rfl, Nat.le_refl _, hl_one (heap_alloc_new _ _) hl⟩
  have := Tryd.build35 hh hl w
  unfold execOp
  rw [ho]
  simp [hx, this]
end
end Go.Proofs.YtfmeeimhfdnjpaaDoor
namespace Go.Proofs.YtfmeeimhfdnjpaaDoor
set_option maxRecDepth 100000
open Go.RowKit
theorem Tryd.under76h : Tryd.prog.underlying 76 = some (.array 2 33) := by kernel_rfl
theorem Tryd.isAgg33h (w : World) : (isAgg 33).run Tryd.prog w = .ok true w := by kernel_rfl
theorem Tryd.size33h (w : World) : (sizeOf 33).run Tryd.prog w = .ok 32 w := by kernel_rfl
theorem part_left {p q : List (BitVec 8)} (hp : p.length = 32) (w : World) : (part 33 ((p ++ q).map V).toArray 0).run Tryd.prog w = .ok (.agg (p.map V).toArray) w := by
  unfold part
  simp only [Sem.run_bind, Tryd.isAgg33h, Tryd.size33h, Result.andThen_ok, if_true, Sem.run_pure, List.extract_toArray]
  show Result.ok (Value.agg (((List.map V (p ++ q)).drop 0).take 32).toArray) w = _
  rw [List.map_append, List.drop_zero, List.take_left' (by rw [List.length_map, hp])]
theorem part_right {p q : List (BitVec 8)} (hp : p.length = 32) (hq : q.length = 32) (w : World) : (part 33 ((p ++ q).map V).toArray 32).run Tryd.prog w = .ok (.agg (q.map V).toArray) w := by
  unfold part
  simp only [Sem.run_bind, Tryd.isAgg33h, Tryd.size33h, Result.andThen_ok, if_true, Sem.run_pure, List.extract_toArray]
  show Result.ok (Value.agg (((List.map V (p ++ q)).drop 32).take 32).toArray) w = _
  rw [List.map_append, List.drop_left' (by rw [List.length_map, hp]), List.take_of_length_le (by rw [List.length_map, hq]; decide)]
theorem run_equal33m (m : Nat) (w : World) (xs ys : List (BitVec 8)) (h1 : xs.length = 32) (h2 : ys.length = 32) : (Op.equalIn (m + 1 + 1) 33 (.agg (xs.map V).toArray) (.agg (ys.map V).toArray)).run Tryd.prog w = .ok (decide (xs = ys)) w := by
  have h := run_equal33' (m + 1) (fun a b w => run_equalIn_int w m 5 .u8 .u8 a b Tryd.under5) w xs ys h1 h2
  have e : sameFrom xs ys 0 32 = decide (xs = ys) := by
    rw [Bool.eq_iff_iff, sameFrom_iff xs ys 32 0 (by omega) (by omega)]
    simp
  rw [← e]
  exact h
theorem run_equal76m (m : Nat) (hm : ∀ (w : World) (xs ys : List (BitVec 8)), xs.length = 32 → ys.length = 32 → (Op.equalIn m 33 (.agg (xs.map V).toArray) (.agg (ys.map V).toArray)).run Tryd.prog w = .ok (decide (xs = ys)) w) (w : World) {p q r s : List (BitVec 8)} (hp : p.length = 32) (hq : q.length = 32) (hr : r.length = 32) (hs : s.length = 32) : (Op.equalIn (m + 1) 76 (.agg ((p ++ q).map V).toArray) (.agg ((r ++ s).map V).toArray)).run Tryd.prog w = .ok (decide (p = r ∧ q = s)) w := by
  have a1 := part_left (q := q) hp w
  have a2 := part_right hp hq w
  have b1 := part_left (q := s) hr w
  have b2 := part_right hr hs w
  have c1 := hm w p r hp hr
  have c2 := hm w q s hq hs
  generalize hX : ((p ++ q).map V).toArray = X at a1 a2 ⊢
  generalize hY : ((r ++ s).map V).toArray = Y at b1 b2 ⊢
  clear hX hY
  simp only [Op.equalIn, Sem.run_bind, run_underlying Tryd.under76h, Result.andThen_ok, Tryd.size33h, Std.Legacy.Range.forIn_eq_forIn_range', Std.Legacy.Range.size]
  rw [show (2 - 0 + 1 - 1) / 1 = 2 from rfl]
  have e : decide (p = r ∧ q = s) = (decide (p = r) && decide (q = s)) := Bool.decide_and _ _
  rw [e]
  generalize decide (p = r) = u at c1 ⊢
  generalize decide (q = s) = v at c2 ⊢
  cases u
  · simp only [List.range'_succ, List.range'_zero, List.forIn_cons, List.forIn_nil, Sem.run_bind, Nat.zero_mul, Nat.zero_add, Nat.one_mul, a1, b1, c1, Result.andThen_ok, Bool.not_false, if_true, Sem.run_pure, Bool.false_and]
  · cases v
    · simp only [List.range'_succ, List.range'_zero, List.forIn_cons, List.forIn_nil, Sem.run_bind, Nat.zero_mul, Nat.zero_add, Nat.one_mul, a1, b1, c1, a2, b2, c2, Result.andThen_ok, Bool.not_false, Bool.not_true, Bool.false_eq_true, if_true, if_false, Sem.run_pure, Bool.true_and]
    · simp only [List.range'_succ, List.range'_zero, List.forIn_cons, List.forIn_nil, Sem.run_bind, Nat.zero_mul, Nat.zero_add, Nat.one_mul, a1, b1, c1, a2, b2, c2, Result.andThen_ok, Bool.not_true, Bool.false_eq_true, if_false, Sem.run_pure, Bool.true_and]
theorem run_equal76 (w : World) {p q r s : List (BitVec 8)} (hp : p.length = 32) (hq : q.length = 32) (hr : r.length = 32) (hs : s.length = 32) : (Op.equalIn 10000 76 (.agg ((p ++ q).map V).toArray) (.agg ((r ++ s).map V).toArray)).run Tryd.prog w = .ok (decide (p = r ∧ q = s)) w := run_equal76m 9999 (run_equal33m 9997) w hp hq hr hs
theorem Tryd.noGuard76 (x y : Operand) (a b : Array Value) (w : World) : (eqGuard .eql 76 x y (.agg a) (.agg b)).run Tryd.prog w = .ok () w := by kernel_rfl
theorem Tryd.build2hx (x0 x1 x2 x3 x4 x5 x6 x7 x8 x9 x10 x11 x12 x13 x14 x15 x16 x17 x18 x19 x20 x21 x22 x23 x24 x25 x26 x27 x28 x29 x30 x31 y0 y1 y2 y3 y4 y5 y6 y7 y8 y9 y10 y11 y12 y13 y14 y15 y16 y17 y18 y19 y20 y21 y22 y23 y24 y25 y26 y27 y28 y29 y30 y31 : BitVec 8) (w : World) : (Instr.build 76 #[(0, .agg ([x0, x1, x2, x3, x4, x5, x6, x7, x8, x9, x10, x11, x12, x13, x14, x15, x16, x17, x18, x19, x20, x21, x22, x23, x24, x25, x26, x27, x28, x29, x30, x31].map V).toArray), (1, .agg ([y0, y1, y2, y3, y4, y5, y6, y7, y8, y9, y10, y11, y12, y13, y14, y15, y16, y17, y18, y19, y20, y21, y22, y23, y24, y25, y26, y27, y28, y29, y30, y31].map V).toArray)]).run Tryd.prog w = .ok (.agg (([x0, x1, x2, x3, x4, x5, x6, x7, x8, x9, x10, x11, x12, x13, x14, x15, x16, x17, x18, x19, x20, x21, x22, x23, x24, x25, x26, x27, x28, x29, x30, x31] ++ [y0, y1, y2, y3, y4, y5, y6, y7, y8, y9, y10, y11, y12, y13, y14, y15, y16, y17, y18, y19, y20, y21, y22, y23, y24, y25, y26, y27, y28, y29, y30, y31]).map V).toArray) w := by kernel_rfl
theorem Tryd.build2h {p q : List (BitVec 8)} (hp : p.length = 32) (hq : q.length = 32) (w : World) : (Instr.build 76 #[(0, .agg (p.map V).toArray), (1, .agg (q.map V).toArray)]).run Tryd.prog w = .ok (.agg ((p ++ q).map V).toArray) w := by
  match p, hp with
  | [x0, x1, x2, x3, x4, x5, x6, x7, x8, x9, x10, x11, x12, x13, x14, x15, x16, x17, x18, x19, x20, x21, x22, x23, x24, x25, x26, x27, x28, x29, x30, x31], _ =>
    match q, hq with
    | [y0, y1, y2, y3, y4, y5, y6, y7, y8, y9, y10, y11, y12, y13, y14, y15, y16, y17, y18, y19, y20, y21, y22, y23, y24, y25, y26, y27, y28, y29, y30, y31], _ => exact Tryd.build2hx x0 x1 x2 x3 x4 x5 x6 x7 x8 x9 x10 x11 x12 x13 x14 x15 x16 x17 x18 x19 x20 x21 x22 x23 x24 x25 x26 x27 x28 x29 x30 x31 y0 y1 y2 y3 y4 y5 y6 y7 y8 y9 y10 y11 y12 y13 y14 y15 y16 y17 y18 y19 y20 y21 y22 y23 y24 y25 y26 y27 y28 y29 y30 y31 w
section
variable {Q : Exit → Act → World → Prop} {o : Oper} {a : Act} {w : World}
theorem st_eq2h (x y : Operand) (ho : o.op = .binOp .eql 76 x y 76) {p q r s : List (BitVec 8)} (hp : p.length = 32) (hq : q.length = 32) (hr : r.length = 32) (hs : s.length = 32) (hx : a.eval x = .agg ((p ++ q).map V).toArray) (hy : a.eval y = .agg ((r ++ s).map V).toArray) (b : Bool) (hb : b = decide (p = r ∧ q = s)) : o.wp Tryd.prog a w (Ends a o.dst w (Fk.eq (.bool b)).f) Q := by
  refine st_pure (v := .bool b) ?_ rfl
  subst hb
  have h1 := Tryd.noGuard76 x y ((p ++ q).map V).toArray ((r ++ s).map V).toArray w
  have h2 := run_equal76 w hp hq hr hs
  unfold execOp
  rw [ho]
  simp only [hx, hy, h1, binOp, Op.equal, Op.maxDepth, h2, Sem.run_bind, Result.andThen_ok, Sem.run_pure]
theorem st_build2h (x y : Operand) (ho : o.op = .build 76 #[(0, x), (1, y)]) {p q : List (BitVec 8)} (hp : p.length = 32) (hq : q.length = 32) (hx : a.eval x = .agg (p.map V).toArray) (hy : a.eval y = .agg (q.map V).toArray) : o.wp Tryd.prog a w (Ends a o.dst w (Fk.eq (.agg ((p ++ q).map V).toArray)).f) Q := by
  refine st_pure (v := .agg ((p ++ q).map V).toArray) ?_ rfl
  have h := Tryd.build2h hp hq w
  unfold execOp
  rw [ho]
  simp only [List.map_toArray, List.map_cons, List.map_nil, hx, hy, h, Sem.run_bind, Result.andThen_ok, Sem.run_pure]
theorem st_idx2h (x y : Operand) {T : TypeId} (ho : o.op = .indexAddr T x y) {p r : Addr} (hx : a.eval x = .pointer (some p)) (hr : (Instr.indexAt T (.pointer (some p)) (a.eval y)).run Tryd.prog w = .ok (.pointer (some r)) w) : o.wp Tryd.prog a w (Ends a o.dst w (Fk.eq (.pointer (some r))).f) Q := by
  refine st_pure (v := .pointer (some r)) ?_ rfl
  unfold execOp
  rw [ho]
  simp [hx, hr]
end
theorem len2h {p q : List (BitVec 8)} (hp : p.length = 32) (hq : q.length = 32) : (p ++ q).length = 64 := by rw [List.length_append, hp, hq]
theorem bytes_right {w : World} {b : Nat} {T : TypeId} {p q : List (BitVec 8)} (hp : p.length = 32) (h : Ob w b T ((p ++ q).map V)) : HasB w b 32 q := fun i hi => by
  have h1 : ((p ++ q).map V)[32 + i]? = some (V (q.getD i 0)) := by
    rw [List.map_append, List.getElem?_append_right (by rw [List.length_map, hp]; omega), List.length_map, hp, Nat.add_sub_cancel_left, List.getElem?_map, List.getElem?_eq_getElem hi]
    simp [List.getD_eq_getElem?_getD, hi]
  exact h.cell (32 + i) h1
theorem bytes_left {w : World} {b : Nat} {T : TypeId} {p q : List (BitVec 8)} (h : Ob w b T ((p ++ q).map V)) : HasB w b 0 p := by
  rw [List.map_append] at h
  exact Ob.bytes h
theorem V_all2h (xs : List (BitVec 8)) : ((xs.map V : List Value).toArray.all fun u => u.oneCell') = true := by
  rw [List.all_toArray]
  rw [List.all_eq_true]
  intro u hu
  obtain ⟨x, _, rfl⟩ := List.mem_map.1 hu
  rfl
end Go.Proofs.YtfmeeimhfdnjpaaDoor
