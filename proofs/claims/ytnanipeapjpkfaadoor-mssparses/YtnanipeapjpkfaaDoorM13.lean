/- Lists of hashes held against each other; Equal. -/
import Derived.Test.YtnanipeapjpkfaaDoorM12
namespace Go.Proofs.YtnanipeapjpkfaaDoor
set_option maxRecDepth 100000
open Go.RowKit
theorem take_succ_eq {A B : List (List (BitVec 8))} {k : Nat} {x : List (BitVec 8)} (h : A.take k = B.take k) (ha : A[k]? = some x) (hb : B[k]? = some x) : A.take (k + 1) = B.take (k + 1) := by
  rw [List.take_add_one, List.take_add_one, ha, hb, h]
theorem neq_at {A B : List (List (BitVec 8))} {k : Nat} {x y : List (BitVec 8)} (ha : A[k]? = some x) (hb : B[k]? = some y) (h : x ≠ y) : A ≠ B := by
  intro e
  rw [e, hb] at ha
  exact h (Option.some.inj ha).symm
theorem eqs_any {A0 B0 : List (List (BitVec 8))} {va vb : Value} (hA0 : A0.length ≤ 100000) (w : World) (hA : (Fk.hs A0).f va w) (hB : (Fk.hs B0).f vb w) (r : Bool) (hr : r = decide (A0 = B0)) :
    Calls Tryd.prog 58 #[va, vb] w fun e w' => e = .returned (.bool r) ∧ Below w.heap.size w w' := by
  go_enter Tryd.func58, Tryd.ntmps58
  refine code_both (fun f w1 => f.tmps.size = 26 ∧ f.defers = [] ∧ f.eval (.tmp 0) = va ∧ f.eval (.tmp 1) = vb ∧ Below w.heap.size w (w1)) ⟨rfl, rfl, rfl, rfl, Below.refl _ _⟩ ?_
  rintro f0 w0 ⟨sz, df, x0, x1, bl⟩
  have bl0 := bl
  refine wp_seq ?_
  -- R0
  refine wp_all_seq [.eq (.bool false)] (by kernel_rfl) (by kernel_rfl) (by rw [sz]; kernel_rfl) (by kernel_rfl) ⟨fun hw ac u K => ?_, trivial⟩ ?_
  · exact st_assign (.const (.bool false)) rfl rfl
  intro f1 w1 A hb
  replace bl0 := bl
  replace x0 := (A.old 0 rfl).trans x0
  replace x1 := (A.old 1 rfl).trans x1
  have x4 : f1.eval (.tmp 4) = .bool false := A.has 0 4 rfl
  replace bl := (bl.trans (Below.mono hb bl.size))
  replace sz := A.size.trans sz
  replace df := A.defs.trans df
  clear A hb
  show Code.wp _ _ _ _ _
  refine wp_seq ?_
  refine wp_seq ?_
  by_cases hl : A0.length = B0.length
  rotate_left
  · skip
    obtain rfl : r = false := by rw [hr]; exact decide_eq_false (fun e => hl (by rw [e]))
    -- R1
    refine wp_all_seq [.eq (va), .eq (.int .i64 (((A0).length : Nat) : Int)), .eq (vb), .eq (.int .i64 (((B0).length : Nat) : Int)), .eq (.bool true)] (by kernel_rfl) (by kernel_rfl) (by rw [sz]; kernel_rfl) (by kernel_rfl) ⟨fun hw ac u K => ?_, fun hw ac u K => ?_, fun hw ac u K => ?_, fun hw ac u K => ?_, fun hw ac u K => ?_, trivial⟩ ?_
    · exact st_move (.tmp 0) rfl ((K.old 0 rfl).trans x0)
    · exact st_lenh (.tmp 6) rfl (fk_val (K.dep 0 6 rfl) (Fk.mono _ _ _ _ hA (bl.trans (Below.mono K.grow bl.size))))
    · exact st_move (.tmp 1) rfl ((K.old 1 rfl).trans x1)
    · exact st_lenh (.tmp 8) rfl (fk_val (K.dep 2 8 rfl) (Fk.mono _ _ _ _ hB (bl.trans (Below.mono K.grow bl.size))))
    · exact st_neqi 3 (.tmp 7) (.tmp 9) rfl .i64 ((((A0).length : Nat) : Int)) ((((B0).length : Nat) : Int)) (K.dep 1 7 rfl) (K.dep 3 9 rfl) _ (by rw [eq_comm, decide_eq_true_iff]; omega)
    intro f2 w2 A hb
    replace bl0 := bl
    replace x0 := (A.old 0 rfl).trans x0
    replace x1 := (A.old 1 rfl).trans x1
    replace x4 := (A.old 4 rfl).trans x4
    have x10 : f2.eval (.tmp 10) = .bool true := A.has 4 10 rfl
    replace bl := (bl.trans (Below.mono hb bl.size))
    replace sz := A.size.trans sz
    replace df := A.defs.trans df
    clear A hb
    show Code.wp _ _ _ _ _
    refine wp_cond_true x10 ?_
    refine wp_seq ?_
    -- R2
    refine wp_all_seq [.eq (.bool false)] (by kernel_rfl) (by kernel_rfl) (by rw [sz]; kernel_rfl) (by kernel_rfl) ⟨fun hw ac u K => ?_, trivial⟩ ?_
    · exact st_assign (.const (.bool false)) rfl rfl
    intro f3 w3 A hb
    replace bl0 := bl
    replace x0 := (A.old 0 rfl).trans x0
    replace x1 := (A.old 1 rfl).trans x1
    clear x4
    replace x10 := (A.old 10 rfl).trans x10
    have x4 : f3.eval (.tmp 4) = .bool false := A.has 0 4 rfl
    replace bl := (bl.trans (Below.mono hb bl.size))
    replace sz := A.size.trans sz
    replace df := A.defs.trans df
    clear A hb
    show Code.wp _ _ _ _ _
    refine wp_ret ?_
    repeat (first | with_reducible refine then_ret ?_ | with_reducible refine block_ret ?_)
    exact bodyPost_ret (v := .bool false) (ret_slot rfl f3 _ x4 _ _) df ⟨rfl, bl⟩
  -- R1
  refine wp_all_seq [.eq (va), .eq (.int .i64 (((A0).length : Nat) : Int)), .eq (vb), .eq (.int .i64 (((B0).length : Nat) : Int)), .eq (.bool false)] (by kernel_rfl) (by kernel_rfl) (by rw [sz]; kernel_rfl) (by kernel_rfl) ⟨fun hw ac u K => ?_, fun hw ac u K => ?_, fun hw ac u K => ?_, fun hw ac u K => ?_, fun hw ac u K => ?_, trivial⟩ ?_
  · exact st_move (.tmp 0) rfl ((K.old 0 rfl).trans x0)
  · exact st_lenh (.tmp 6) rfl (fk_val (K.dep 0 6 rfl) (Fk.mono _ _ _ _ hA (bl.trans (Below.mono K.grow bl.size))))
  · exact st_move (.tmp 1) rfl ((K.old 1 rfl).trans x1)
  · exact st_lenh (.tmp 8) rfl (fk_val (K.dep 2 8 rfl) (Fk.mono _ _ _ _ hB (bl.trans (Below.mono K.grow bl.size))))
  · exact st_neqi 3 (.tmp 7) (.tmp 9) rfl .i64 ((((A0).length : Nat) : Int)) ((((B0).length : Nat) : Int)) (K.dep 1 7 rfl) (K.dep 3 9 rfl) _ (by simp [hl])
  intro f2 w2 A hb
  replace bl0 := bl
  replace x0 := (A.old 0 rfl).trans x0
  replace x1 := (A.old 1 rfl).trans x1
  replace x4 := (A.old 4 rfl).trans x4
  have x10 : f2.eval (.tmp 10) = .bool false := A.has 4 10 rfl
  replace bl := (bl.trans (Below.mono hb bl.size))
  replace sz := A.size.trans sz
  replace df := A.defs.trans df
  clear A hb
  show Code.wp _ _ _ _ _
  refine wp_cond_false x10 ?_
  refine wp_skip ?_
  show Code.wp _ _ _ _ _
  refine wp_seq ?_
  refine wp_seq ?_
  -- R3
  refine wp_all_seq [.eq (va), .eq (.int .i64 (((A0).length : Nat) : Int)), .eq (.int .i64 0)] (by kernel_rfl) (by kernel_rfl) (by rw [sz]; kernel_rfl) (by kernel_rfl) ⟨fun hw ac u K => ?_, fun hw ac u K => ?_, fun hw ac u K => ?_, trivial⟩ ?_
  · exact st_move (.tmp 0) rfl ((K.old 0 rfl).trans x0)
  · exact st_lenh (.tmp 11) rfl (fk_val (K.dep 0 11 rfl) (Fk.mono _ _ _ _ hA (bl.trans (Below.mono K.grow bl.size))))
  · exact st_move (.const (.int .i64 0)) rfl rfl
  intro f3 w3 A hb
  replace bl0 := bl
  replace x0 := (A.old 0 rfl).trans x0
  replace x1 := (A.old 1 rfl).trans x1
  replace x4 := (A.old 4 rfl).trans x4
  replace x10 := (A.old 10 rfl).trans x10
  have x12 : f3.eval (.tmp 12) = .int .i64 (((A0).length : Nat) : Int) := A.has 1 12 rfl
  have x13 : f3.eval (.tmp 13) = .int .i64 0 := A.has 2 13 rfl
  replace bl := (bl.trans (Below.mono hb bl.size))
  replace sz := A.size.trans sz
  replace df := A.defs.trans df
  clear A hb
  show Code.wp _ _ _ _ _
  refine wp_block ?_
  refine wp_loop (fun f v1 => ∃ k : Nat, k ≤ A0.length ∧ A0.take k = B0.take k ∧ f.tmps.size = 26 ∧ f.defers = [] ∧ f.eval (.tmp 0) = va ∧ f.eval (.tmp 1) = vb ∧ f.eval (.tmp 4) = .bool false ∧ f.eval (.tmp 10) = .bool false ∧ f.eval (.tmp 12) = .int .i64 (((A0).length : Nat) : Int) ∧ f.eval (.tmp 13) = .int .i64 ((k : Nat) : Int) ∧ Below w.heap.size w (v1)) (fun f _ => A0.length - (intOf (f.eval (.tmp 13))).toNat) ⟨0, Nat.zero_le _, rfl, sz, df, x0, x1, x4, x10, x12, x13, bl⟩ ?_
  intro f4 w4 hI
  clear sz df bl bl0 x0 x1 x4 x10 x12 x13
  obtain ⟨k, hk, heq, sz, df, x0, x1, x4, x10, x12, x13, bl⟩ := hI
  have bl0 := bl
  have hcnt := x13
  refine wp_seq ?_
  by_cases hlt : k < A0.length
  rotate_left
  · skip
    obtain rfl : r = true := by
      rw [hr]
      apply decide_eq_true
      rw [List.take_of_length_le (by omega), List.take_of_length_le (by omega)] at heq
      exact heq
    -- R4
    refine wp_all_seq [.eq (.bool false)] (by kernel_rfl) (by kernel_rfl) (by rw [sz]; kernel_rfl) (by kernel_rfl) ⟨fun hw ac u K => ?_, trivial⟩ ?_
    · exact st_lss 3 (.tmp 13) (.tmp 12) rfl .i64 (((k : Nat) : Int)) ((((A0).length : Nat) : Int)) ((K.old 13 rfl).trans x13) ((K.old 12 rfl).trans x12) _ (by first | (simp; done) | (simp; omega))
    intro f5 w5 A hb
    replace bl0 := bl
    replace x0 := (A.old 0 rfl).trans x0
    replace x1 := (A.old 1 rfl).trans x1
    replace x4 := (A.old 4 rfl).trans x4
    replace x10 := (A.old 10 rfl).trans x10
    replace x12 := (A.old 12 rfl).trans x12
    replace x13 := (A.old 13 rfl).trans x13
    have x14 : f5.eval (.tmp 14) = .bool false := A.has 0 14 rfl
    replace bl := (bl.trans (Below.mono hb bl.size))
    replace sz := A.size.trans sz
    replace df := A.defs.trans df
    clear A hb
    show Code.wp _ _ _ _ _
    refine wp_seq ?_
    refine wp_cond_false x14 ?_
    refine wp_exit ?_
    show Code.wp _ _ _ _ _
    refine wp_seq ?_
    -- R9
    refine wp_all_seq [.eq (.bool true)] (by kernel_rfl) (by kernel_rfl) (by rw [sz]; kernel_rfl) (by kernel_rfl) ⟨fun hw ac u K => ?_, trivial⟩ ?_
    · exact st_assign (.const (.bool true)) rfl rfl
    intro f6 w6 A hb
    replace bl0 := bl
    replace x0 := (A.old 0 rfl).trans x0
    replace x1 := (A.old 1 rfl).trans x1
    clear x4
    replace x10 := (A.old 10 rfl).trans x10
    replace x12 := (A.old 12 rfl).trans x12
    replace x13 := (A.old 13 rfl).trans x13
    replace x14 := (A.old 14 rfl).trans x14
    have x4 : f6.eval (.tmp 4) = .bool true := A.has 0 4 rfl
    replace bl := (bl.trans (Below.mono hb bl.size))
    replace sz := A.size.trans sz
    replace df := A.defs.trans df
    clear A hb
    show Code.wp _ _ _ _ _
    refine wp_ret ?_
    repeat (first | with_reducible refine then_ret ?_ | with_reducible refine block_ret ?_)
    exact bodyPost_ret (v := .bool true) (ret_slot rfl f6 _ x4 _ _) df ⟨rfl, bl⟩
  obtain ⟨x, hxk⟩ : ∃ p, A0[k]? = some p := ⟨_, List.getElem?_eq_getElem hlt⟩
  obtain ⟨y, hyk⟩ : ∃ p, B0[k]? = some p := ⟨_, List.getElem?_eq_getElem (by omega)⟩
  have hx : x.length = 32 := hs_len hA hxk
  have hy : y.length = 32 := hs_len hB hyk
  -- R4
  refine wp_all_seq [.eq (.bool true)] (by kernel_rfl) (by kernel_rfl) (by rw [sz]; kernel_rfl) (by kernel_rfl) ⟨fun hw ac u K => ?_, trivial⟩ ?_
  · exact st_lss 3 (.tmp 13) (.tmp 12) rfl .i64 (((k : Nat) : Int)) ((((A0).length : Nat) : Int)) ((K.old 13 rfl).trans x13) ((K.old 12 rfl).trans x12) _ (by first | (simp; done) | (simp; omega))
  intro f5 w5 A hb
  replace bl0 := bl
  replace x0 := (A.old 0 rfl).trans x0
  replace x1 := (A.old 1 rfl).trans x1
  replace x4 := (A.old 4 rfl).trans x4
  replace x10 := (A.old 10 rfl).trans x10
  replace x12 := (A.old 12 rfl).trans x12
  replace x13 := (A.old 13 rfl).trans x13
  have x14 : f5.eval (.tmp 14) = .bool true := A.has 0 14 rfl
  replace bl := (bl.trans (Below.mono hb bl.size))
  replace sz := A.size.trans sz
  replace df := A.defs.trans df
  clear A hb
  show Code.wp _ _ _ _ _
  refine wp_seq ?_
  refine wp_cond_true x14 ?_
  refine wp_skip ?_
  show Code.wp _ _ _ _ _
  refine wp_seq ?_
  refine wp_block ?_
  refine wp_seq ?_
  -- R5
  refine wp_all_seq [.eq (.int .i64 ((k : Nat) : Int)), .eq (.int .i64 ((k : Nat) : Int))] (by kernel_rfl) (by kernel_rfl) (by rw [sz]; kernel_rfl) (by kernel_rfl) ⟨fun hw ac u K => ?_, fun hw ac u K => ?_, trivial⟩ ?_
  · exact st_move (.tmp 13) rfl ((K.old 13 rfl).trans x13)
  · exact st_assign (.tmp 15) rfl (K.dep 0 15 rfl)
  intro f6 w6 A hb
  replace bl0 := bl
  replace x0 := (A.old 0 rfl).trans x0
  replace x1 := (A.old 1 rfl).trans x1
  replace x4 := (A.old 4 rfl).trans x4
  replace x10 := (A.old 10 rfl).trans x10
  replace x12 := (A.old 12 rfl).trans x12
  replace x13 := (A.old 13 rfl).trans x13
  replace x14 := (A.old 14 rfl).trans x14
  have x5 : f6.eval (.tmp 5) = .int .i64 ((k : Nat) : Int) := A.has 1 5 rfl
  replace bl := (bl.trans (Below.mono hb bl.size))
  replace sz := A.size.trans sz
  replace df := A.defs.trans df
  clear A hb
  show Code.wp _ _ _ _ _
  refine wp_seq ?_
  by_cases hxy : x = y
  rotate_left
  · skip
    obtain rfl : r = false := by rw [hr]; exact decide_eq_false (neq_at hxk hyk hxy)
    -- R6
    refine wp_all [.eq (va), .eq (.int .i64 ((k : Nat) : Int)), .ph (x), .eq (.agg ((x).map V).toArray), .eq (vb), .eq (.int .i64 ((k : Nat) : Int)), .ph (y), .eq (.agg ((y).map V).toArray), .eq (.bool true)] Tryd.mixed (by kernel_rfl) (by kernel_rfl) (by rw [sz]; kernel_rfl) (by kernel_rfl) ⟨fun hw ac u K => ?_, fun hw ac u K => ?_, fun hw ac u K => ?_, fun hw ac u K => ?_, fun hw ac u K => ?_, fun hw ac u K => ?_, fun hw ac u K => ?_, fun hw ac u K => ?_, fun hw ac u K => ?_, trivial⟩ ?_
    · exact st_move (.tmp 0) rfl ((K.old 0 rfl).trans x0)
    · exact st_move (.tmp 5) rfl ((K.old 5 rfl).trans x5)
    · exact st_idxh (.tmp 16) (.tmp 17) rfl (fk_val (K.dep 0 16 rfl) (Fk.mono _ _ _ _ hA (bl.trans (Below.mono K.grow bl.size)))) (k) (x) (K.dep 1 17 rfl) hxk
    · exact st_loadh (.tmp 18) rfl (K.dep 2 18 rfl)
    · exact st_move (.tmp 1) rfl ((K.old 1 rfl).trans x1)
    · exact st_move (.tmp 5) rfl ((K.old 5 rfl).trans x5)
    · exact st_idxh (.tmp 20) (.tmp 21) rfl (fk_val (K.dep 4 20 rfl) (Fk.mono _ _ _ _ hB (bl.trans (Below.mono K.grow bl.size)))) (k) (y) (K.dep 5 21 rfl) hyk
    · exact st_loadh (.tmp 22) rfl (K.dep 6 22 rfl)
    · exact st_neqh (.tmp 19) (.tmp 23) rfl (x) (y) hx hy (K.dep 3 19 rfl) (K.dep 7 23 rfl) _ (by simp [hxy])
    intro f7 w7 A hb
    replace bl0 := bl
    replace x0 := (A.old 0 rfl).trans x0
    replace x1 := (A.old 1 rfl).trans x1
    replace x4 := (A.old 4 rfl).trans x4
    replace x10 := (A.old 10 rfl).trans x10
    replace x12 := (A.old 12 rfl).trans x12
    replace x13 := (A.old 13 rfl).trans x13
    replace x14 := (A.old 14 rfl).trans x14
    replace x5 := (A.old 5 rfl).trans x5
    have x24 : f7.eval (.tmp 24) = .bool true := A.has 8 24 rfl
    replace bl := (bl.trans (Below.mono hb bl.size))
    replace sz := A.size.trans sz
    replace df := A.defs.trans df
    clear A hb
    clear x5
    show Code.wp _ _ _ _ _
    refine wp_cond_true x24 ?_
    refine wp_seq ?_
    -- R7
    refine wp_all_seq [.eq (.bool false)] (by kernel_rfl) (by kernel_rfl) (by rw [sz]; kernel_rfl) (by kernel_rfl) ⟨fun hw ac u K => ?_, trivial⟩ ?_
    · exact st_assign (.const (.bool false)) rfl rfl
    intro f8 w8 A hb
    replace bl0 := bl
    replace x0 := (A.old 0 rfl).trans x0
    replace x1 := (A.old 1 rfl).trans x1
    clear x4
    replace x10 := (A.old 10 rfl).trans x10
    replace x12 := (A.old 12 rfl).trans x12
    replace x13 := (A.old 13 rfl).trans x13
    replace x14 := (A.old 14 rfl).trans x14
    replace x24 := (A.old 24 rfl).trans x24
    have x4 : f8.eval (.tmp 4) = .bool false := A.has 0 4 rfl
    replace bl := (bl.trans (Below.mono hb bl.size))
    replace sz := A.size.trans sz
    replace df := A.defs.trans df
    clear A hb
    show Code.wp _ _ _ _ _
    refine wp_ret ?_
    repeat (first | with_reducible refine then_ret ?_ | with_reducible refine block_ret ?_)
    exact bodyPost_ret (v := .bool false) (ret_slot rfl f8 _ x4 _ _) df ⟨rfl, bl⟩
  -- R6
  refine wp_all [.eq (va), .eq (.int .i64 ((k : Nat) : Int)), .ph (x), .eq (.agg ((x).map V).toArray), .eq (vb), .eq (.int .i64 ((k : Nat) : Int)), .ph (y), .eq (.agg ((y).map V).toArray), .eq (.bool false)] Tryd.mixed (by kernel_rfl) (by kernel_rfl) (by rw [sz]; kernel_rfl) (by kernel_rfl) ⟨fun hw ac u K => ?_, fun hw ac u K => ?_, fun hw ac u K => ?_, fun hw ac u K => ?_, fun hw ac u K => ?_, fun hw ac u K => ?_, fun hw ac u K => ?_, fun hw ac u K => ?_, fun hw ac u K => ?_, trivial⟩ ?_
  · exact st_move (.tmp 0) rfl ((K.old 0 rfl).trans x0)
  · exact st_move (.tmp 5) rfl ((K.old 5 rfl).trans x5)
  · exact st_idxh (.tmp 16) (.tmp 17) rfl (fk_val (K.dep 0 16 rfl) (Fk.mono _ _ _ _ hA (bl.trans (Below.mono K.grow bl.size)))) (k) (x) (K.dep 1 17 rfl) hxk
  · exact st_loadh (.tmp 18) rfl (K.dep 2 18 rfl)
  · exact st_move (.tmp 1) rfl ((K.old 1 rfl).trans x1)
  · exact st_move (.tmp 5) rfl ((K.old 5 rfl).trans x5)
  · exact st_idxh (.tmp 20) (.tmp 21) rfl (fk_val (K.dep 4 20 rfl) (Fk.mono _ _ _ _ hB (bl.trans (Below.mono K.grow bl.size)))) (k) (y) (K.dep 5 21 rfl) hyk
  · exact st_loadh (.tmp 22) rfl (K.dep 6 22 rfl)
  · exact st_neqh (.tmp 19) (.tmp 23) rfl (x) (y) hx hy (K.dep 3 19 rfl) (K.dep 7 23 rfl) _ (by simp [hxy])
  intro f7 w7 A hb
  replace bl0 := bl
  replace x0 := (A.old 0 rfl).trans x0
  replace x1 := (A.old 1 rfl).trans x1
  replace x4 := (A.old 4 rfl).trans x4
  replace x10 := (A.old 10 rfl).trans x10
  replace x12 := (A.old 12 rfl).trans x12
  replace x13 := (A.old 13 rfl).trans x13
  replace x14 := (A.old 14 rfl).trans x14
  replace x5 := (A.old 5 rfl).trans x5
  have x24 : f7.eval (.tmp 24) = .bool false := A.has 8 24 rfl
  replace bl := (bl.trans (Below.mono hb bl.size))
  replace sz := A.size.trans sz
  replace df := A.defs.trans df
  clear A hb
  clear x5
  show Code.wp _ _ _ _ _
  refine wp_cond_false x24 ?_
  refine wp_skip ?_
  show Code.wp _ _ _ _ _
  -- R8
  refine wp_region_seq [.eq (.int .i64 ((k + 1 : Nat) : Int))] (by kernel_rfl) (by kernel_rfl) (by rw [sz]; kernel_rfl) (by kernel_rfl) ⟨fun hw ac u K => ?_, trivial⟩ ?_
  · exact st_add (.tmp 13) (.const (.int .i64 1)) rfl (k) (1) (k + 1) ((K.old 13 rfl).trans x13) rfl (by omega) (by omega)
  intro f8 w8 A hb
  replace bl0 := bl
  replace x0 := (A.old 0 rfl).trans x0
  replace x1 := (A.old 1 rfl).trans x1
  replace x4 := (A.old 4 rfl).trans x4
  replace x10 := (A.old 10 rfl).trans x10
  replace x12 := (A.old 12 rfl).trans x12
  replace x13 := (A.old 13 rfl).trans x13
  replace x14 := (A.old 14 rfl).trans x14
  replace x24 := (A.old 24 rfl).trans x24
  have x25 : f8.eval (.tmp 25) = .int .i64 ((k + 1 : Nat) : Int) := A.has 0 25 rfl
  replace bl := (bl.trans (Below.mono hb bl.size))
  replace sz := A.size.trans sz
  replace df := A.defs.trans df
  clear A hb
  refine wl_one (.eq (.int .i64 ((k + 1 : Nat) : Int))) rfl 13 rfl (by rw [sz]; decide) (st_move (.tmp 25) rfl x25) ?_
  intro f9 w9 df2 sz2 old2 new2 hb
  replace bl0 := bl
  replace x0 := (old2 0 rfl).trans x0
  replace x1 := (old2 1 rfl).trans x1
  replace x4 := (old2 4 rfl).trans x4
  replace x10 := (old2 10 rfl).trans x10
  replace x12 := (old2 12 rfl).trans x12
  clear x13
  replace x14 := (old2 14 rfl).trans x14
  replace x24 := (old2 24 rfl).trans x24
  replace x25 := (old2 25 rfl).trans x25
  have x13 : f9.eval (.tmp 13) = .int .i64 ((k + 1 : Nat) : Int) := new2
  replace bl := (bl.trans (Below.mono hb bl.size))
  replace sz := sz2.trans sz
  replace df := df2.trans df
  clear df2 sz2 old2 new2 hb
  refine wpList_nil ?_
  clear x25
  show (∃ _, _) ∧ _
  refine ⟨⟨k + 1, by omega, take_succ_eq heq hxk (by rw [hxy]; exact hyk), sz, df, x0, x1, x4, x10, x12, x13, bl⟩, ?_⟩
  rw [show f9.eval (.tmp 13) = _ from x13, show _ = _ from hcnt]
  simp [intOf]
  omega
theorem same_any {A0 B0 : List (List (BitVec 8))} {va vb : Value} (hA0 : A0.length ≤ 100000) (w : World) (hA : (Fk.hs A0).f va w) (hB : (Fk.hs B0).f vb w) (r : Bool) (hr : r = decide (A0 = B0)) :
    Calls Tryd.prog 19 #[va, vb] w fun e w' => e = .returned (.bool r) ∧ Below w.heap.size w w' := by
  go_enter Tryd.func19, Tryd.ntmps19
  refine code_both (fun f w1 => f.tmps.size = 26 ∧ f.defers = [] ∧ f.eval (.tmp 0) = va ∧ f.eval (.tmp 1) = vb ∧ Below w.heap.size w (w1)) ⟨rfl, rfl, rfl, rfl, Below.refl _ _⟩ ?_
  rintro f0 w0 ⟨sz, df, x0, x1, bl⟩
  have bl0 := bl
  refine wp_seq ?_
  -- R0
  refine wp_all_seq [.eq (.bool false)] (by kernel_rfl) (by kernel_rfl) (by rw [sz]; kernel_rfl) (by kernel_rfl) ⟨fun hw ac u K => ?_, trivial⟩ ?_
  · exact st_assign (.const (.bool false)) rfl rfl
  intro f1 w1 A hb
  replace bl0 := bl
  replace x0 := (A.old 0 rfl).trans x0
  replace x1 := (A.old 1 rfl).trans x1
  have x4 : f1.eval (.tmp 4) = .bool false := A.has 0 4 rfl
  replace bl := (bl.trans (Below.mono hb bl.size))
  replace sz := A.size.trans sz
  replace df := A.defs.trans df
  clear A hb
  show Code.wp _ _ _ _ _
  refine wp_seq ?_
  refine wp_seq ?_
  by_cases hl : A0.length = B0.length
  rotate_left
  · skip
    obtain rfl : r = false := by rw [hr]; exact decide_eq_false (fun e => hl (by rw [e]))
    -- R1
    refine wp_all_seq [.eq (va), .eq (.int .i64 (((A0).length : Nat) : Int)), .eq (vb), .eq (.int .i64 (((B0).length : Nat) : Int)), .eq (.bool true)] (by kernel_rfl) (by kernel_rfl) (by rw [sz]; kernel_rfl) (by kernel_rfl) ⟨fun hw ac u K => ?_, fun hw ac u K => ?_, fun hw ac u K => ?_, fun hw ac u K => ?_, fun hw ac u K => ?_, trivial⟩ ?_
    · exact st_move (.tmp 0) rfl ((K.old 0 rfl).trans x0)
    · exact st_lenh (.tmp 6) rfl (fk_val (K.dep 0 6 rfl) (Fk.mono _ _ _ _ hA (bl.trans (Below.mono K.grow bl.size))))
    · exact st_move (.tmp 1) rfl ((K.old 1 rfl).trans x1)
    · exact st_lenh (.tmp 8) rfl (fk_val (K.dep 2 8 rfl) (Fk.mono _ _ _ _ hB (bl.trans (Below.mono K.grow bl.size))))
    · exact st_neqi 3 (.tmp 7) (.tmp 9) rfl .i64 ((((A0).length : Nat) : Int)) ((((B0).length : Nat) : Int)) (K.dep 1 7 rfl) (K.dep 3 9 rfl) _ (by rw [eq_comm, decide_eq_true_iff]; omega)
    intro f2 w2 A hb
    replace bl0 := bl
    replace x0 := (A.old 0 rfl).trans x0
    replace x1 := (A.old 1 rfl).trans x1
    replace x4 := (A.old 4 rfl).trans x4
    have x10 : f2.eval (.tmp 10) = .bool true := A.has 4 10 rfl
    replace bl := (bl.trans (Below.mono hb bl.size))
    replace sz := A.size.trans sz
    replace df := A.defs.trans df
    clear A hb
    show Code.wp _ _ _ _ _
    refine wp_cond_true x10 ?_
    refine wp_seq ?_
    -- R2
    refine wp_all_seq [.eq (.bool false)] (by kernel_rfl) (by kernel_rfl) (by rw [sz]; kernel_rfl) (by kernel_rfl) ⟨fun hw ac u K => ?_, trivial⟩ ?_
    · exact st_assign (.const (.bool false)) rfl rfl
    intro f3 w3 A hb
    replace bl0 := bl
    replace x0 := (A.old 0 rfl).trans x0
    replace x1 := (A.old 1 rfl).trans x1
    clear x4
    replace x10 := (A.old 10 rfl).trans x10
    have x4 : f3.eval (.tmp 4) = .bool false := A.has 0 4 rfl
    replace bl := (bl.trans (Below.mono hb bl.size))
    replace sz := A.size.trans sz
    replace df := A.defs.trans df
    clear A hb
    show Code.wp _ _ _ _ _
    refine wp_ret ?_
    repeat (first | with_reducible refine then_ret ?_ | with_reducible refine block_ret ?_)
    exact bodyPost_ret (v := .bool false) (ret_slot rfl f3 _ x4 _ _) df ⟨rfl, bl⟩
  -- R1
  refine wp_all_seq [.eq (va), .eq (.int .i64 (((A0).length : Nat) : Int)), .eq (vb), .eq (.int .i64 (((B0).length : Nat) : Int)), .eq (.bool false)] (by kernel_rfl) (by kernel_rfl) (by rw [sz]; kernel_rfl) (by kernel_rfl) ⟨fun hw ac u K => ?_, fun hw ac u K => ?_, fun hw ac u K => ?_, fun hw ac u K => ?_, fun hw ac u K => ?_, trivial⟩ ?_
  · exact st_move (.tmp 0) rfl ((K.old 0 rfl).trans x0)
  · exact st_lenh (.tmp 6) rfl (fk_val (K.dep 0 6 rfl) (Fk.mono _ _ _ _ hA (bl.trans (Below.mono K.grow bl.size))))
  · exact st_move (.tmp 1) rfl ((K.old 1 rfl).trans x1)
  · exact st_lenh (.tmp 8) rfl (fk_val (K.dep 2 8 rfl) (Fk.mono _ _ _ _ hB (bl.trans (Below.mono K.grow bl.size))))
  · exact st_neqi 3 (.tmp 7) (.tmp 9) rfl .i64 ((((A0).length : Nat) : Int)) ((((B0).length : Nat) : Int)) (K.dep 1 7 rfl) (K.dep 3 9 rfl) _ (by simp [hl])
  intro f2 w2 A hb
  replace bl0 := bl
  replace x0 := (A.old 0 rfl).trans x0
  replace x1 := (A.old 1 rfl).trans x1
  replace x4 := (A.old 4 rfl).trans x4
  have x10 : f2.eval (.tmp 10) = .bool false := A.has 4 10 rfl
  replace bl := (bl.trans (Below.mono hb bl.size))
  replace sz := A.size.trans sz
  replace df := A.defs.trans df
  clear A hb
  show Code.wp _ _ _ _ _
  refine wp_cond_false x10 ?_
  refine wp_skip ?_
  show Code.wp _ _ _ _ _
  refine wp_seq ?_
  refine wp_seq ?_
  -- R3
  refine wp_all_seq [.eq (va), .eq (.int .i64 (((A0).length : Nat) : Int)), .eq (.int .i64 0)] (by kernel_rfl) (by kernel_rfl) (by rw [sz]; kernel_rfl) (by kernel_rfl) ⟨fun hw ac u K => ?_, fun hw ac u K => ?_, fun hw ac u K => ?_, trivial⟩ ?_
  · exact st_move (.tmp 0) rfl ((K.old 0 rfl).trans x0)
  · exact st_lenh (.tmp 11) rfl (fk_val (K.dep 0 11 rfl) (Fk.mono _ _ _ _ hA (bl.trans (Below.mono K.grow bl.size))))
  · exact st_move (.const (.int .i64 0)) rfl rfl
  intro f3 w3 A hb
  replace bl0 := bl
  replace x0 := (A.old 0 rfl).trans x0
  replace x1 := (A.old 1 rfl).trans x1
  replace x4 := (A.old 4 rfl).trans x4
  replace x10 := (A.old 10 rfl).trans x10
  have x12 : f3.eval (.tmp 12) = .int .i64 (((A0).length : Nat) : Int) := A.has 1 12 rfl
  have x13 : f3.eval (.tmp 13) = .int .i64 0 := A.has 2 13 rfl
  replace bl := (bl.trans (Below.mono hb bl.size))
  replace sz := A.size.trans sz
  replace df := A.defs.trans df
  clear A hb
  show Code.wp _ _ _ _ _
  refine wp_block ?_
  refine wp_loop (fun f v1 => ∃ k : Nat, k ≤ A0.length ∧ A0.take k = B0.take k ∧ f.tmps.size = 26 ∧ f.defers = [] ∧ f.eval (.tmp 0) = va ∧ f.eval (.tmp 1) = vb ∧ f.eval (.tmp 4) = .bool false ∧ f.eval (.tmp 10) = .bool false ∧ f.eval (.tmp 12) = .int .i64 (((A0).length : Nat) : Int) ∧ f.eval (.tmp 13) = .int .i64 ((k : Nat) : Int) ∧ Below w.heap.size w (v1)) (fun f _ => A0.length - (intOf (f.eval (.tmp 13))).toNat) ⟨0, Nat.zero_le _, rfl, sz, df, x0, x1, x4, x10, x12, x13, bl⟩ ?_
  intro f4 w4 hI
  clear sz df bl bl0 x0 x1 x4 x10 x12 x13
  obtain ⟨k, hk, heq, sz, df, x0, x1, x4, x10, x12, x13, bl⟩ := hI
  have bl0 := bl
  have hcnt := x13
  refine wp_seq ?_
  by_cases hlt : k < A0.length
  rotate_left
  · skip
    obtain rfl : r = true := by
      rw [hr]
      apply decide_eq_true
      rw [List.take_of_length_le (by omega), List.take_of_length_le (by omega)] at heq
      exact heq
    -- R4
    refine wp_all_seq [.eq (.bool false)] (by kernel_rfl) (by kernel_rfl) (by rw [sz]; kernel_rfl) (by kernel_rfl) ⟨fun hw ac u K => ?_, trivial⟩ ?_
    · exact st_lss 3 (.tmp 13) (.tmp 12) rfl .i64 (((k : Nat) : Int)) ((((A0).length : Nat) : Int)) ((K.old 13 rfl).trans x13) ((K.old 12 rfl).trans x12) _ (by first | (simp; done) | (simp; omega))
    intro f5 w5 A hb
    replace bl0 := bl
    replace x0 := (A.old 0 rfl).trans x0
    replace x1 := (A.old 1 rfl).trans x1
    replace x4 := (A.old 4 rfl).trans x4
    replace x10 := (A.old 10 rfl).trans x10
    replace x12 := (A.old 12 rfl).trans x12
    replace x13 := (A.old 13 rfl).trans x13
    have x14 : f5.eval (.tmp 14) = .bool false := A.has 0 14 rfl
    replace bl := (bl.trans (Below.mono hb bl.size))
    replace sz := A.size.trans sz
    replace df := A.defs.trans df
    clear A hb
    show Code.wp _ _ _ _ _
    refine wp_seq ?_
    refine wp_cond_false x14 ?_
    refine wp_exit ?_
    show Code.wp _ _ _ _ _
    refine wp_seq ?_
    -- R9
    refine wp_all_seq [.eq (.bool true)] (by kernel_rfl) (by kernel_rfl) (by rw [sz]; kernel_rfl) (by kernel_rfl) ⟨fun hw ac u K => ?_, trivial⟩ ?_
    · exact st_assign (.const (.bool true)) rfl rfl
    intro f6 w6 A hb
    replace bl0 := bl
    replace x0 := (A.old 0 rfl).trans x0
    replace x1 := (A.old 1 rfl).trans x1
    clear x4
    replace x10 := (A.old 10 rfl).trans x10
    replace x12 := (A.old 12 rfl).trans x12
    replace x13 := (A.old 13 rfl).trans x13
    replace x14 := (A.old 14 rfl).trans x14
    have x4 : f6.eval (.tmp 4) = .bool true := A.has 0 4 rfl
    replace bl := (bl.trans (Below.mono hb bl.size))
    replace sz := A.size.trans sz
    replace df := A.defs.trans df
    clear A hb
    show Code.wp _ _ _ _ _
    refine wp_ret ?_
    repeat (first | with_reducible refine then_ret ?_ | with_reducible refine block_ret ?_)
    exact bodyPost_ret (v := .bool true) (ret_slot rfl f6 _ x4 _ _) df ⟨rfl, bl⟩
  obtain ⟨x, hxk⟩ : ∃ p, A0[k]? = some p := ⟨_, List.getElem?_eq_getElem hlt⟩
  obtain ⟨y, hyk⟩ : ∃ p, B0[k]? = some p := ⟨_, List.getElem?_eq_getElem (by omega)⟩
  have hx : x.length = 32 := hs_len hA hxk
  have hy : y.length = 32 := hs_len hB hyk
  -- R4
  refine wp_all_seq [.eq (.bool true)] (by kernel_rfl) (by kernel_rfl) (by rw [sz]; kernel_rfl) (by kernel_rfl) ⟨fun hw ac u K => ?_, trivial⟩ ?_
  · exact st_lss 3 (.tmp 13) (.tmp 12) rfl .i64 (((k : Nat) : Int)) ((((A0).length : Nat) : Int)) ((K.old 13 rfl).trans x13) ((K.old 12 rfl).trans x12) _ (by first | (simp; done) | (simp; omega))
  intro f5 w5 A hb
  replace bl0 := bl
  replace x0 := (A.old 0 rfl).trans x0
  replace x1 := (A.old 1 rfl).trans x1
  replace x4 := (A.old 4 rfl).trans x4
  replace x10 := (A.old 10 rfl).trans x10
  replace x12 := (A.old 12 rfl).trans x12
  replace x13 := (A.old 13 rfl).trans x13
  have x14 : f5.eval (.tmp 14) = .bool true := A.has 0 14 rfl
  replace bl := (bl.trans (Below.mono hb bl.size))
  replace sz := A.size.trans sz
  replace df := A.defs.trans df
  clear A hb
  show Code.wp _ _ _ _ _
  refine wp_seq ?_
  refine wp_cond_true x14 ?_
  refine wp_skip ?_
  show Code.wp _ _ _ _ _
  refine wp_seq ?_
  refine wp_block ?_
  refine wp_seq ?_
  -- R5
  refine wp_all_seq [.eq (.int .i64 ((k : Nat) : Int)), .eq (.int .i64 ((k : Nat) : Int))] (by kernel_rfl) (by kernel_rfl) (by rw [sz]; kernel_rfl) (by kernel_rfl) ⟨fun hw ac u K => ?_, fun hw ac u K => ?_, trivial⟩ ?_
  · exact st_move (.tmp 13) rfl ((K.old 13 rfl).trans x13)
  · exact st_assign (.tmp 15) rfl (K.dep 0 15 rfl)
  intro f6 w6 A hb
  replace bl0 := bl
  replace x0 := (A.old 0 rfl).trans x0
  replace x1 := (A.old 1 rfl).trans x1
  replace x4 := (A.old 4 rfl).trans x4
  replace x10 := (A.old 10 rfl).trans x10
  replace x12 := (A.old 12 rfl).trans x12
  replace x13 := (A.old 13 rfl).trans x13
  replace x14 := (A.old 14 rfl).trans x14
  have x5 : f6.eval (.tmp 5) = .int .i64 ((k : Nat) : Int) := A.has 1 5 rfl
  replace bl := (bl.trans (Below.mono hb bl.size))
  replace sz := A.size.trans sz
  replace df := A.defs.trans df
  clear A hb
  show Code.wp _ _ _ _ _
  refine wp_seq ?_
  by_cases hxy : x = y
  rotate_left
  · skip
    obtain rfl : r = false := by rw [hr]; exact decide_eq_false (neq_at hxk hyk hxy)
    -- R6
    refine wp_all [.eq (va), .eq (.int .i64 ((k : Nat) : Int)), .ph (x), .eq (.agg ((x).map V).toArray), .eq (vb), .eq (.int .i64 ((k : Nat) : Int)), .ph (y), .eq (.agg ((y).map V).toArray), .eq (.bool true)] Tryd.mixed (by kernel_rfl) (by kernel_rfl) (by rw [sz]; kernel_rfl) (by kernel_rfl) ⟨fun hw ac u K => ?_, fun hw ac u K => ?_, fun hw ac u K => ?_, fun hw ac u K => ?_, fun hw ac u K => ?_, fun hw ac u K => ?_, fun hw ac u K => ?_, fun hw ac u K => ?_, fun hw ac u K => ?_, trivial⟩ ?_
    · exact st_move (.tmp 0) rfl ((K.old 0 rfl).trans x0)
    · exact st_move (.tmp 5) rfl ((K.old 5 rfl).trans x5)
    · exact st_idxh (.tmp 16) (.tmp 17) rfl (fk_val (K.dep 0 16 rfl) (Fk.mono _ _ _ _ hA (bl.trans (Below.mono K.grow bl.size)))) (k) (x) (K.dep 1 17 rfl) hxk
    · exact st_loadh (.tmp 18) rfl (K.dep 2 18 rfl)
    · exact st_move (.tmp 1) rfl ((K.old 1 rfl).trans x1)
    · exact st_move (.tmp 5) rfl ((K.old 5 rfl).trans x5)
    · exact st_idxh (.tmp 20) (.tmp 21) rfl (fk_val (K.dep 4 20 rfl) (Fk.mono _ _ _ _ hB (bl.trans (Below.mono K.grow bl.size)))) (k) (y) (K.dep 5 21 rfl) hyk
    · exact st_loadh (.tmp 22) rfl (K.dep 6 22 rfl)
    · exact st_neqh (.tmp 19) (.tmp 23) rfl (x) (y) hx hy (K.dep 3 19 rfl) (K.dep 7 23 rfl) _ (by simp [hxy])
    intro f7 w7 A hb
    replace bl0 := bl
    replace x0 := (A.old 0 rfl).trans x0
    replace x1 := (A.old 1 rfl).trans x1
    replace x4 := (A.old 4 rfl).trans x4
    replace x10 := (A.old 10 rfl).trans x10
    replace x12 := (A.old 12 rfl).trans x12
    replace x13 := (A.old 13 rfl).trans x13
    replace x14 := (A.old 14 rfl).trans x14
    replace x5 := (A.old 5 rfl).trans x5
    have x24 : f7.eval (.tmp 24) = .bool true := A.has 8 24 rfl
    replace bl := (bl.trans (Below.mono hb bl.size))
    replace sz := A.size.trans sz
    replace df := A.defs.trans df
    clear A hb
    clear x5
    show Code.wp _ _ _ _ _
    refine wp_cond_true x24 ?_
    refine wp_seq ?_
    -- R7
    refine wp_all_seq [.eq (.bool false)] (by kernel_rfl) (by kernel_rfl) (by rw [sz]; kernel_rfl) (by kernel_rfl) ⟨fun hw ac u K => ?_, trivial⟩ ?_
    · exact st_assign (.const (.bool false)) rfl rfl
    intro f8 w8 A hb
    replace bl0 := bl
    replace x0 := (A.old 0 rfl).trans x0
    replace x1 := (A.old 1 rfl).trans x1
    clear x4
    replace x10 := (A.old 10 rfl).trans x10
    replace x12 := (A.old 12 rfl).trans x12
    replace x13 := (A.old 13 rfl).trans x13
    replace x14 := (A.old 14 rfl).trans x14
    replace x24 := (A.old 24 rfl).trans x24
    have x4 : f8.eval (.tmp 4) = .bool false := A.has 0 4 rfl
    replace bl := (bl.trans (Below.mono hb bl.size))
    replace sz := A.size.trans sz
    replace df := A.defs.trans df
    clear A hb
    show Code.wp _ _ _ _ _
    refine wp_ret ?_
    repeat (first | with_reducible refine then_ret ?_ | with_reducible refine block_ret ?_)
    exact bodyPost_ret (v := .bool false) (ret_slot rfl f8 _ x4 _ _) df ⟨rfl, bl⟩
  -- R6
  refine wp_all [.eq (va), .eq (.int .i64 ((k : Nat) : Int)), .ph (x), .eq (.agg ((x).map V).toArray), .eq (vb), .eq (.int .i64 ((k : Nat) : Int)), .ph (y), .eq (.agg ((y).map V).toArray), .eq (.bool false)] Tryd.mixed (by kernel_rfl) (by kernel_rfl) (by rw [sz]; kernel_rfl) (by kernel_rfl) ⟨fun hw ac u K => ?_, fun hw ac u K => ?_, fun hw ac u K => ?_, fun hw ac u K => ?_, fun hw ac u K => ?_, fun hw ac u K => ?_, fun hw ac u K => ?_, fun hw ac u K => ?_, fun hw ac u K => ?_, trivial⟩ ?_
  · exact st_move (.tmp 0) rfl ((K.old 0 rfl).trans x0)
  · exact st_move (.tmp 5) rfl ((K.old 5 rfl).trans x5)
  · exact st_idxh (.tmp 16) (.tmp 17) rfl (fk_val (K.dep 0 16 rfl) (Fk.mono _ _ _ _ hA (bl.trans (Below.mono K.grow bl.size)))) (k) (x) (K.dep 1 17 rfl) hxk
  · exact st_loadh (.tmp 18) rfl (K.dep 2 18 rfl)
  · exact st_move (.tmp 1) rfl ((K.old 1 rfl).trans x1)
  · exact st_move (.tmp 5) rfl ((K.old 5 rfl).trans x5)
  · exact st_idxh (.tmp 20) (.tmp 21) rfl (fk_val (K.dep 4 20 rfl) (Fk.mono _ _ _ _ hB (bl.trans (Below.mono K.grow bl.size)))) (k) (y) (K.dep 5 21 rfl) hyk
  · exact st_loadh (.tmp 22) rfl (K.dep 6 22 rfl)
  · exact st_neqh (.tmp 19) (.tmp 23) rfl (x) (y) hx hy (K.dep 3 19 rfl) (K.dep 7 23 rfl) _ (by simp [hxy])
  intro f7 w7 A hb
  replace bl0 := bl
  replace x0 := (A.old 0 rfl).trans x0
  replace x1 := (A.old 1 rfl).trans x1
  replace x4 := (A.old 4 rfl).trans x4
  replace x10 := (A.old 10 rfl).trans x10
  replace x12 := (A.old 12 rfl).trans x12
  replace x13 := (A.old 13 rfl).trans x13
  replace x14 := (A.old 14 rfl).trans x14
  replace x5 := (A.old 5 rfl).trans x5
  have x24 : f7.eval (.tmp 24) = .bool false := A.has 8 24 rfl
  replace bl := (bl.trans (Below.mono hb bl.size))
  replace sz := A.size.trans sz
  replace df := A.defs.trans df
  clear A hb
  clear x5
  show Code.wp _ _ _ _ _
  refine wp_cond_false x24 ?_
  refine wp_skip ?_
  show Code.wp _ _ _ _ _
  -- R8
  refine wp_region_seq [.eq (.int .i64 ((k + 1 : Nat) : Int))] (by kernel_rfl) (by kernel_rfl) (by rw [sz]; kernel_rfl) (by kernel_rfl) ⟨fun hw ac u K => ?_, trivial⟩ ?_
  · exact st_add (.tmp 13) (.const (.int .i64 1)) rfl (k) (1) (k + 1) ((K.old 13 rfl).trans x13) rfl (by omega) (by omega)
  intro f8 w8 A hb
  replace bl0 := bl
  replace x0 := (A.old 0 rfl).trans x0
  replace x1 := (A.old 1 rfl).trans x1
  replace x4 := (A.old 4 rfl).trans x4
  replace x10 := (A.old 10 rfl).trans x10
  replace x12 := (A.old 12 rfl).trans x12
  replace x13 := (A.old 13 rfl).trans x13
  replace x14 := (A.old 14 rfl).trans x14
  replace x24 := (A.old 24 rfl).trans x24
  have x25 : f8.eval (.tmp 25) = .int .i64 ((k + 1 : Nat) : Int) := A.has 0 25 rfl
  replace bl := (bl.trans (Below.mono hb bl.size))
  replace sz := A.size.trans sz
  replace df := A.defs.trans df
  clear A hb
  refine wl_one (.eq (.int .i64 ((k + 1 : Nat) : Int))) rfl 13 rfl (by rw [sz]; decide) (st_move (.tmp 25) rfl x25) ?_
  intro f9 w9 df2 sz2 old2 new2 hb
  replace bl0 := bl
  replace x0 := (old2 0 rfl).trans x0
  replace x1 := (old2 1 rfl).trans x1
  replace x4 := (old2 4 rfl).trans x4
  replace x10 := (old2 10 rfl).trans x10
  replace x12 := (old2 12 rfl).trans x12
  clear x13
  replace x14 := (old2 14 rfl).trans x14
  replace x24 := (old2 24 rfl).trans x24
  replace x25 := (old2 25 rfl).trans x25
  have x13 : f9.eval (.tmp 13) = .int .i64 ((k + 1 : Nat) : Int) := new2
  replace bl := (bl.trans (Below.mono hb bl.size))
  replace sz := sz2.trans sz
  replace df := df2.trans df
  clear df2 sz2 old2 new2 hb
  refine wpList_nil ?_
  clear x25
  show (∃ _, _) ∧ _
  refine ⟨⟨k + 1, by omega, take_succ_eq heq hxk (by rw [hxy]; exact hyk), sz, df, x0, x1, x4, x10, x12, x13, bl⟩, ?_⟩
  rw [show f9.eval (.tmp 13) = _ from x13, show _ = _ from hcnt]
  simp [intOf]
  omega
theorem sigEqual_any {S P S2 P2 : List (List (BitVec 8))} {sA pA tA qA : Option Addr} {sC pC tC qC : Nat} (k i k2 i2 : Int) (hSl : S.length ≤ 100000) (hPl : P.length ≤ 100000) (w : World) (vS : (Fk.hs S).f (.slice sA (S).length sC) w) (vP : (Fk.hs P).f (.slice pA (P).length pC) w) (vS2 : (Fk.hs S2).f (.slice tA (S2).length tC) w) (vP2 : (Fk.hs P2).f (.slice qA (P2).length qC) w) (r : Bool) (hr : r = decide (k = k2 ∧ i = i2 ∧ S = S2 ∧ P = P2)) :
    Calls Tryd.prog 31 #[.agg ([.int .i64 (k), .int .i64 (i), .slice sA (S).length sC, .slice pA (P).length pC] : List Value).toArray, .agg ([.int .i64 (k2), .int .i64 (i2), .slice tA (S2).length tC, .slice qA (P2).length qC] : List Value).toArray] w fun e w' => e = .returned (.bool r) ∧ Below w.heap.size w w' := by
  go_enter Tryd.func31, Tryd.ntmps31
  refine code_both (fun f w1 => f.tmps.size = 31 ∧ f.defers = [] ∧ f.eval (.tmp 0) = .agg ([.int .i64 (k), .int .i64 (i), .slice sA (S).length sC, .slice pA (P).length pC] : List Value).toArray ∧ f.eval (.tmp 1) = .agg ([.int .i64 (k2), .int .i64 (i2), .slice tA (S2).length tC, .slice qA (P2).length qC] : List Value).toArray ∧ Below w.heap.size w (w1)) ⟨rfl, rfl, rfl, rfl, Below.refl _ _⟩ ?_
  rintro f0 w0 ⟨sz, df, x0, x1, bl⟩
  have bl0 := bl
  refine wp_seq ?_
  -- R0
  refine wp_region_seq [] (by kernel_rfl) (by kernel_rfl) (by rw [sz]; kernel_rfl) (by kernel_rfl) trivial ?_
  intro f1 w1 A hb
  replace bl0 := bl
  replace x0 := (A.old 0 rfl).trans x0
  replace x1 := (A.old 1 rfl).trans x1
  replace bl := (bl.trans (Below.mono hb bl.size))
  replace sz := A.size.trans sz
  replace df := A.defs.trans df
  clear A hb
  refine wl_one (.nw w1.heap.size 38 ([.int .i64 (k), .int .i64 (i), .slice sA (S).length sC, .slice pA (P).length pC] : List Value)) rfl 2 rfl (by rw [sz]; decide) (st_box 38 (.tmp 0) rfl _ _ (by rw [show _ = _ from x0]; kernel_rfl) (Nat.le_refl _)) ?_
  intro f2 w2 df2 sz2 old2 new2 hb
  replace bl0 := bl
  replace x0 := (old2 0 rfl).trans x0
  replace x1 := (old2 1 rfl).trans x1
  have x2 : Fk.f (.nw w1.heap.size 38 ([.int .i64 (k), .int .i64 (i), .slice sA (S).length sC, .slice pA (P).length pC] : List Value)) (f2.eval (.tmp 2)) w2 := new2
  replace bl := (bl.trans (Below.mono hb bl.size))
  replace sz := sz2.trans sz
  replace df := df2.trans df
  clear df2 sz2 old2 new2 hb
  obtain ⟨g2, hg2, e2, m2⟩ := x2
  have x2 := e2
  clear e2
  have hw2 : w.heap.size ≤ g2 := Nat.le_trans bl0.size hg2
  clear x0
  refine wl_one (.nw w2.heap.size 38 ([.int .i64 (k2), .int .i64 (i2), .slice tA (S2).length tC, .slice qA (P2).length qC] : List Value)) rfl 3 rfl (by rw [sz]; decide) (st_box 38 (.tmp 1) rfl _ _ (by rw [show _ = _ from x1]; kernel_rfl) (Nat.le_refl _)) ?_
  intro f3 w3 df2 sz2 old2 new2 hb
  replace bl0 := bl
  replace x1 := (old2 1 rfl).trans x1
  replace x2 := (old2 2 rfl).trans x2
  have x3 : Fk.f (.nw w2.heap.size 38 ([.int .i64 (k2), .int .i64 (i2), .slice tA (S2).length tC, .slice qA (P2).length qC] : List Value)) (f3.eval (.tmp 3)) w3 := new2
  have lt_m2 := Ob.lt m2
  replace m2 := Ob.below m2 hb
  replace bl := (bl.trans (Below.mono hb bl.size))
  replace sz := sz2.trans sz
  replace df := df2.trans df
  clear df2 sz2 old2 new2 hb
  obtain ⟨g3, hg3, e3, m3⟩ := x3
  have x3 := e3
  clear e3
  have nm2_3 : g2 ≠ g3 := Nat.ne_of_lt (Nat.lt_of_lt_of_le lt_m2 hg3)
  have hw3 : w.heap.size ≤ g3 := Nat.le_trans bl0.size hg3
  clear x1
  refine wl_one (.eq (.bool false)) rfl 4 rfl (by rw [sz]; decide) (st_assign (.const (.bool false)) rfl rfl) ?_
  intro f4 w4 df2 sz2 old2 new2 hb
  replace bl0 := bl
  replace x2 := (old2 2 rfl).trans x2
  replace x3 := (old2 3 rfl).trans x3
  have x4 : f4.eval (.tmp 4) = .bool false := new2
  have lt_m2 := Ob.lt m2
  replace m2 := Ob.below m2 hb
  have lt_m3 := Ob.lt m3
  replace m3 := Ob.below m3 hb
  replace bl := (bl.trans (Below.mono hb bl.size))
  replace sz := sz2.trans sz
  replace df := df2.trans df
  clear df2 sz2 old2 new2 hb
  refine wpList_nil ?_
  show Code.wp _ _ _ _ _
  refine wp_seq ?_
  by_cases c1 : k = k2
  rotate_left
  · skip
    obtain rfl : r = false := by rw [hr]; exact decide_eq_false (fun h => c1 h.1)
    -- R1
    refine wp_all_seq [.eq (.pointer (some ⟨g2, 0, none⟩)), .eq (.int .i64 (k)), .eq (.pointer (some ⟨g3, 0, none⟩)), .eq (.int .i64 (k2)), .eq (.bool false), .eq (.bool false), .any, .any, .any, .any, .any, .eq (.bool false), .eq (.bool false), .any, .any, .any, .any, .any, .eq (.bool false), .eq (.bool false), .any, .any, .any, .any, .any, .eq (.bool false), .eq (.bool false)] (by kernel_rfl) (by kernel_rfl) (by rw [sz]; kernel_rfl) (by kernel_rfl) ⟨fun hw ac u K => ?_, fun hw ac u K => ?_, fun hw ac u K => ?_, fun hw ac u K => ?_, fun hw ac u K => ?_, fun hw ac u K => ?_, fun hw ac u K => ?_, fun hw ac u K => ?_, fun hw ac u K => ?_, fun hw ac u K => ?_, fun hw ac u K => ?_, fun hw ac u K => ?_, fun hw ac u K => ?_, fun hw ac u K => ?_, fun hw ac u K => ?_, fun hw ac u K => ?_, fun hw ac u K => ?_, fun hw ac u K => ?_, fun hw ac u K => ?_, fun hw ac u K => ?_, fun hw ac u K => ?_, fun hw ac u K => ?_, fun hw ac u K => ?_, fun hw ac u K => ?_, fun hw ac u K => ?_, fun hw ac u K => ?_, fun hw ac u K => ?_, trivial⟩ ?_
    · exact st_field 38 0 (.tmp 2) rfl ((K.old 2 rfl).trans x2) (by kernel_rfl)
    · exact st_loadc 3 (.tmp 5) rfl (by kernel_rfl) (K.dep 0 5 rfl) (Ob.cell (Ob.below m2 K.grow) 0 rfl)
    · exact st_field 38 0 (.tmp 3) rfl ((K.old 3 rfl).trans x3) (by kernel_rfl)
    · exact st_loadc 3 (.tmp 7) rfl (by kernel_rfl) (K.dep 2 7 rfl) (Ob.cell (Ob.below m3 K.grow) 0 rfl)
    · exact st_eqi 3 (.tmp 6) (.tmp 8) rfl .i64 ((k)) ((k2)) (K.dep 1 6 rfl) (K.dep 3 8 rfl) _ (by simp [c1])
    · exact st_move (.tmp 9) rfl (K.dep 4 9 rfl)
    · exact (Bool.false_ne_true hw).elim
    · exact (Bool.false_ne_true hw).elim
    · exact (Bool.false_ne_true hw).elim
    · exact (Bool.false_ne_true hw).elim
    · exact (Bool.false_ne_true hw).elim
    · exact st_pick_f' (.tmp 10) (.tmp 15) (.const (.bool false)) rfl (K.dep 5 10 rfl) rfl
    · exact st_move (.tmp 16) rfl (K.dep 11 16 rfl)
    · exact (Bool.false_ne_true hw).elim
    · exact (Bool.false_ne_true hw).elim
    · exact (Bool.false_ne_true hw).elim
    · exact (Bool.false_ne_true hw).elim
    · exact (Bool.false_ne_true hw).elim
    · exact st_pick_f' (.tmp 17) (.tmp 22) (.const (.bool false)) rfl (K.dep 12 17 rfl) rfl
    · exact st_move (.tmp 23) rfl (K.dep 18 23 rfl)
    · exact (Bool.false_ne_true hw).elim
    · exact (Bool.false_ne_true hw).elim
    · exact (Bool.false_ne_true hw).elim
    · exact (Bool.false_ne_true hw).elim
    · exact (Bool.false_ne_true hw).elim
    · exact st_pick_f' (.tmp 24) (.tmp 29) (.const (.bool false)) rfl (K.dep 19 24 rfl) rfl
    · exact st_assign (.tmp 30) rfl (K.dep 25 30 rfl)
    intro f5 w5 A hb
    replace bl0 := bl
    replace x2 := (A.old 2 rfl).trans x2
    replace x3 := (A.old 3 rfl).trans x3
    clear x4
    have x4 : f5.eval (.tmp 4) = .bool false := A.has 26 4 rfl
    have lt_m2 := Ob.lt m2
    replace m2 := Ob.below m2 hb
    have lt_m3 := Ob.lt m3
    replace m3 := Ob.below m3 hb
    replace bl := (bl.trans (Below.mono hb bl.size))
    replace sz := A.size.trans sz
    replace df := A.defs.trans df
    clear A hb
    clear x2
    clear x3
    show Code.wp _ _ _ _ _
    refine wp_ret ?_
    repeat (first | with_reducible refine then_ret ?_ | with_reducible refine block_ret ?_)
    exact bodyPost_ret (v := .bool false) (ret_slot rfl f5 _ x4 _ _) df ⟨rfl, bl⟩
  by_cases c2 : i = i2
  rotate_left
  · skip
    obtain rfl : r = false := by rw [hr]; exact decide_eq_false (fun h => c2 h.2.1)
    -- R1
    refine wp_all_seq [.eq (.pointer (some ⟨g2, 0, none⟩)), .eq (.int .i64 (k)), .eq (.pointer (some ⟨g3, 0, none⟩)), .eq (.int .i64 (k2)), .eq (.bool true), .eq (.bool true), .eq (.pointer (some ⟨g2, 1, none⟩)), .eq (.int .i64 (i)), .eq (.pointer (some ⟨g3, 1, none⟩)), .eq (.int .i64 (i2)), .eq (.bool false), .eq (.bool false), .eq (.bool false), .any, .any, .any, .any, .any, .eq (.bool false), .eq (.bool false), .any, .any, .any, .any, .any, .eq (.bool false), .eq (.bool false)] (by kernel_rfl) (by kernel_rfl) (by rw [sz]; kernel_rfl) (by kernel_rfl) ⟨fun hw ac u K => ?_, fun hw ac u K => ?_, fun hw ac u K => ?_, fun hw ac u K => ?_, fun hw ac u K => ?_, fun hw ac u K => ?_, fun hw ac u K => ?_, fun hw ac u K => ?_, fun hw ac u K => ?_, fun hw ac u K => ?_, fun hw ac u K => ?_, fun hw ac u K => ?_, fun hw ac u K => ?_, fun hw ac u K => ?_, fun hw ac u K => ?_, fun hw ac u K => ?_, fun hw ac u K => ?_, fun hw ac u K => ?_, fun hw ac u K => ?_, fun hw ac u K => ?_, fun hw ac u K => ?_, fun hw ac u K => ?_, fun hw ac u K => ?_, fun hw ac u K => ?_, fun hw ac u K => ?_, fun hw ac u K => ?_, fun hw ac u K => ?_, trivial⟩ ?_
    · exact st_field 38 0 (.tmp 2) rfl ((K.old 2 rfl).trans x2) (by kernel_rfl)
    · exact st_loadc 3 (.tmp 5) rfl (by kernel_rfl) (K.dep 0 5 rfl) (Ob.cell (Ob.below m2 K.grow) 0 rfl)
    · exact st_field 38 0 (.tmp 3) rfl ((K.old 3 rfl).trans x3) (by kernel_rfl)
    · exact st_loadc 3 (.tmp 7) rfl (by kernel_rfl) (K.dep 2 7 rfl) (Ob.cell (Ob.below m3 K.grow) 0 rfl)
    · exact st_eqi 3 (.tmp 6) (.tmp 8) rfl .i64 ((k)) ((k2)) (K.dep 1 6 rfl) (K.dep 3 8 rfl) _ (by simp [c1])
    · exact st_move (.tmp 9) rfl (K.dep 4 9 rfl)
    · exact st_field 38 1 (.tmp 2) rfl ((K.old 2 rfl).trans x2) (by kernel_rfl)
    · exact st_loadc 3 (.tmp 11) rfl (by kernel_rfl) (K.dep 6 11 rfl) (Ob.cell (Ob.below m2 K.grow) 1 rfl)
    · exact st_field 38 1 (.tmp 3) rfl ((K.old 3 rfl).trans x3) (by kernel_rfl)
    · exact st_loadc 3 (.tmp 13) rfl (by kernel_rfl) (K.dep 8 13 rfl) (Ob.cell (Ob.below m3 K.grow) 1 rfl)
    · exact st_eqi 3 (.tmp 12) (.tmp 14) rfl .i64 ((i)) ((i2)) (K.dep 7 12 rfl) (K.dep 9 14 rfl) _ (by simp [c2])
    · exact st_pick_t (.tmp 10) (.tmp 15) (.const (.bool false)) rfl (K.dep 5 10 rfl) (K.dep 10 15 rfl)
    · exact st_move (.tmp 16) rfl (K.dep 11 16 rfl)
    · exact (Bool.false_ne_true hw).elim
    · exact (Bool.false_ne_true hw).elim
    · exact (Bool.false_ne_true hw).elim
    · exact (Bool.false_ne_true hw).elim
    · exact (Bool.false_ne_true hw).elim
    · exact st_pick_f' (.tmp 17) (.tmp 22) (.const (.bool false)) rfl (K.dep 12 17 rfl) rfl
    · exact st_move (.tmp 23) rfl (K.dep 18 23 rfl)
    · exact (Bool.false_ne_true hw).elim
    · exact (Bool.false_ne_true hw).elim
    · exact (Bool.false_ne_true hw).elim
    · exact (Bool.false_ne_true hw).elim
    · exact (Bool.false_ne_true hw).elim
    · exact st_pick_f' (.tmp 24) (.tmp 29) (.const (.bool false)) rfl (K.dep 19 24 rfl) rfl
    · exact st_assign (.tmp 30) rfl (K.dep 25 30 rfl)
    intro f5 w5 A hb
    replace bl0 := bl
    replace x2 := (A.old 2 rfl).trans x2
    replace x3 := (A.old 3 rfl).trans x3
    clear x4
    have x4 : f5.eval (.tmp 4) = .bool false := A.has 26 4 rfl
    have lt_m2 := Ob.lt m2
    replace m2 := Ob.below m2 hb
    have lt_m3 := Ob.lt m3
    replace m3 := Ob.below m3 hb
    replace bl := (bl.trans (Below.mono hb bl.size))
    replace sz := A.size.trans sz
    replace df := A.defs.trans df
    clear A hb
    clear x2
    clear x3
    show Code.wp _ _ _ _ _
    refine wp_ret ?_
    repeat (first | with_reducible refine then_ret ?_ | with_reducible refine block_ret ?_)
    exact bodyPost_ret (v := .bool false) (ret_slot rfl f5 _ x4 _ _) df ⟨rfl, bl⟩
  by_cases c3 : S = S2
  rotate_left
  · skip
    obtain rfl : r = false := by rw [hr]; exact decide_eq_false (fun h => c3 h.2.2.1)
    -- R1
    refine wp_all_seq [.eq (.pointer (some ⟨g2, 0, none⟩)), .eq (.int .i64 (k)), .eq (.pointer (some ⟨g3, 0, none⟩)), .eq (.int .i64 (k2)), .eq (.bool true), .eq (.bool true), .eq (.pointer (some ⟨g2, 1, none⟩)), .eq (.int .i64 (i)), .eq (.pointer (some ⟨g3, 1, none⟩)), .eq (.int .i64 (i2)), .eq (.bool true), .eq (.bool true), .eq (.bool true), .eq (.pointer (some ⟨g2, 2, none⟩)), .eq (.slice sA (S).length sC), .eq (.pointer (some ⟨g3, 2, none⟩)), .eq (.slice tA (S2).length tC), .eq (.bool false), .eq (.bool false), .eq (.bool false), .any, .any, .any, .any, .any, .eq (.bool false), .eq (.bool false)] (by kernel_rfl) (by kernel_rfl) (by rw [sz]; kernel_rfl) (by kernel_rfl) ⟨fun hw ac u K => ?_, fun hw ac u K => ?_, fun hw ac u K => ?_, fun hw ac u K => ?_, fun hw ac u K => ?_, fun hw ac u K => ?_, fun hw ac u K => ?_, fun hw ac u K => ?_, fun hw ac u K => ?_, fun hw ac u K => ?_, fun hw ac u K => ?_, fun hw ac u K => ?_, fun hw ac u K => ?_, fun hw ac u K => ?_, fun hw ac u K => ?_, fun hw ac u K => ?_, fun hw ac u K => ?_, fun hw ac u K => ?_, fun hw ac u K => ?_, fun hw ac u K => ?_, fun hw ac u K => ?_, fun hw ac u K => ?_, fun hw ac u K => ?_, fun hw ac u K => ?_, fun hw ac u K => ?_, fun hw ac u K => ?_, fun hw ac u K => ?_, trivial⟩ ?_
    · exact st_field 38 0 (.tmp 2) rfl ((K.old 2 rfl).trans x2) (by kernel_rfl)
    · exact st_loadc 3 (.tmp 5) rfl (by kernel_rfl) (K.dep 0 5 rfl) (Ob.cell (Ob.below m2 K.grow) 0 rfl)
    · exact st_field 38 0 (.tmp 3) rfl ((K.old 3 rfl).trans x3) (by kernel_rfl)
    · exact st_loadc 3 (.tmp 7) rfl (by kernel_rfl) (K.dep 2 7 rfl) (Ob.cell (Ob.below m3 K.grow) 0 rfl)
    · exact st_eqi 3 (.tmp 6) (.tmp 8) rfl .i64 ((k)) ((k2)) (K.dep 1 6 rfl) (K.dep 3 8 rfl) _ (by simp [c1])
    · exact st_move (.tmp 9) rfl (K.dep 4 9 rfl)
    · exact st_field 38 1 (.tmp 2) rfl ((K.old 2 rfl).trans x2) (by kernel_rfl)
    · exact st_loadc 3 (.tmp 11) rfl (by kernel_rfl) (K.dep 6 11 rfl) (Ob.cell (Ob.below m2 K.grow) 1 rfl)
    · exact st_field 38 1 (.tmp 3) rfl ((K.old 3 rfl).trans x3) (by kernel_rfl)
    · exact st_loadc 3 (.tmp 13) rfl (by kernel_rfl) (K.dep 8 13 rfl) (Ob.cell (Ob.below m3 K.grow) 1 rfl)
    · exact st_eqi 3 (.tmp 12) (.tmp 14) rfl .i64 ((i)) ((i2)) (K.dep 7 12 rfl) (K.dep 9 14 rfl) _ (by simp [c2])
    · exact st_pick_t (.tmp 10) (.tmp 15) (.const (.bool false)) rfl (K.dep 5 10 rfl) (K.dep 10 15 rfl)
    · exact st_move (.tmp 16) rfl (K.dep 11 16 rfl)
    · exact st_field 38 2 (.tmp 2) rfl ((K.old 2 rfl).trans x2) (by kernel_rfl)
    · exact st_loadc 32 (.tmp 18) rfl (by kernel_rfl) (K.dep 13 18 rfl) (Ob.cell (Ob.below m2 K.grow) 2 rfl)
    · exact st_field 38 2 (.tmp 3) rfl ((K.old 3 rfl).trans x3) (by kernel_rfl)
    · exact st_loadc 32 (.tmp 20) rfl (by kernel_rfl) (K.dep 15 20 rfl) (Ob.cell (Ob.below m3 K.grow) 2 rfl)
    · exact st_call 58 (.func 58) _ _ #[.slice sA (S).length sC, .slice tA (S2).length tC] rfl rfl (arg2 (K.dep 14 19 rfl) (K.dep 16 21 rfl)) Tryd.enter58 (fk_of (eqs_any hSl _ (Fk.mono _ _ _ _ vS (bl.trans (Below.mono K.grow bl.size))) (Fk.mono _ _ _ _ vS2 (bl.trans (Below.mono K.grow bl.size))) false (by simp [c3])))
    · exact st_pick_t (.tmp 17) (.tmp 22) (.const (.bool false)) rfl (K.dep 12 17 rfl) (K.dep 17 22 rfl)
    · exact st_move (.tmp 23) rfl (K.dep 18 23 rfl)
    · exact (Bool.false_ne_true hw).elim
    · exact (Bool.false_ne_true hw).elim
    · exact (Bool.false_ne_true hw).elim
    · exact (Bool.false_ne_true hw).elim
    · exact (Bool.false_ne_true hw).elim
    · exact st_pick_f' (.tmp 24) (.tmp 29) (.const (.bool false)) rfl (K.dep 19 24 rfl) rfl
    · exact st_assign (.tmp 30) rfl (K.dep 25 30 rfl)
    intro f5 w5 A hb
    replace bl0 := bl
    replace x2 := (A.old 2 rfl).trans x2
    replace x3 := (A.old 3 rfl).trans x3
    clear x4
    have x4 : f5.eval (.tmp 4) = .bool false := A.has 26 4 rfl
    have lt_m2 := Ob.lt m2
    replace m2 := Ob.below m2 hb
    have lt_m3 := Ob.lt m3
    replace m3 := Ob.below m3 hb
    replace bl := (bl.trans (Below.mono hb bl.size))
    replace sz := A.size.trans sz
    replace df := A.defs.trans df
    clear A hb
    clear x2
    clear x3
    show Code.wp _ _ _ _ _
    refine wp_ret ?_
    repeat (first | with_reducible refine then_ret ?_ | with_reducible refine block_ret ?_)
    exact bodyPost_ret (v := .bool false) (ret_slot rfl f5 _ x4 _ _) df ⟨rfl, bl⟩
  by_cases c4 : P = P2
  rotate_left
  · skip
    obtain rfl : r = false := by rw [hr]; exact decide_eq_false (fun h => c4 h.2.2.2)
    -- R1
    refine wp_all_seq [.eq (.pointer (some ⟨g2, 0, none⟩)), .eq (.int .i64 (k)), .eq (.pointer (some ⟨g3, 0, none⟩)), .eq (.int .i64 (k2)), .eq (.bool true), .eq (.bool true), .eq (.pointer (some ⟨g2, 1, none⟩)), .eq (.int .i64 (i)), .eq (.pointer (some ⟨g3, 1, none⟩)), .eq (.int .i64 (i2)), .eq (.bool true), .eq (.bool true), .eq (.bool true), .eq (.pointer (some ⟨g2, 2, none⟩)), .eq (.slice sA (S).length sC), .eq (.pointer (some ⟨g3, 2, none⟩)), .eq (.slice tA (S2).length tC), .eq (.bool true), .eq (.bool true), .eq (.bool true), .eq (.pointer (some ⟨g2, 3, none⟩)), .eq (.slice pA (P).length pC), .eq (.pointer (some ⟨g3, 3, none⟩)), .eq (.slice qA (P2).length qC), .eq (.bool false), .eq (.bool false), .eq (.bool false)] (by kernel_rfl) (by kernel_rfl) (by rw [sz]; kernel_rfl) (by kernel_rfl) ⟨fun hw ac u K => ?_, fun hw ac u K => ?_, fun hw ac u K => ?_, fun hw ac u K => ?_, fun hw ac u K => ?_, fun hw ac u K => ?_, fun hw ac u K => ?_, fun hw ac u K => ?_, fun hw ac u K => ?_, fun hw ac u K => ?_, fun hw ac u K => ?_, fun hw ac u K => ?_, fun hw ac u K => ?_, fun hw ac u K => ?_, fun hw ac u K => ?_, fun hw ac u K => ?_, fun hw ac u K => ?_, fun hw ac u K => ?_, fun hw ac u K => ?_, fun hw ac u K => ?_, fun hw ac u K => ?_, fun hw ac u K => ?_, fun hw ac u K => ?_, fun hw ac u K => ?_, fun hw ac u K => ?_, fun hw ac u K => ?_, fun hw ac u K => ?_, trivial⟩ ?_
    · exact st_field 38 0 (.tmp 2) rfl ((K.old 2 rfl).trans x2) (by kernel_rfl)
    · exact st_loadc 3 (.tmp 5) rfl (by kernel_rfl) (K.dep 0 5 rfl) (Ob.cell (Ob.below m2 K.grow) 0 rfl)
    · exact st_field 38 0 (.tmp 3) rfl ((K.old 3 rfl).trans x3) (by kernel_rfl)
    · exact st_loadc 3 (.tmp 7) rfl (by kernel_rfl) (K.dep 2 7 rfl) (Ob.cell (Ob.below m3 K.grow) 0 rfl)
    · exact st_eqi 3 (.tmp 6) (.tmp 8) rfl .i64 ((k)) ((k2)) (K.dep 1 6 rfl) (K.dep 3 8 rfl) _ (by simp [c1])
    · exact st_move (.tmp 9) rfl (K.dep 4 9 rfl)
    · exact st_field 38 1 (.tmp 2) rfl ((K.old 2 rfl).trans x2) (by kernel_rfl)
    · exact st_loadc 3 (.tmp 11) rfl (by kernel_rfl) (K.dep 6 11 rfl) (Ob.cell (Ob.below m2 K.grow) 1 rfl)
    · exact st_field 38 1 (.tmp 3) rfl ((K.old 3 rfl).trans x3) (by kernel_rfl)
    · exact st_loadc 3 (.tmp 13) rfl (by kernel_rfl) (K.dep 8 13 rfl) (Ob.cell (Ob.below m3 K.grow) 1 rfl)
    · exact st_eqi 3 (.tmp 12) (.tmp 14) rfl .i64 ((i)) ((i2)) (K.dep 7 12 rfl) (K.dep 9 14 rfl) _ (by simp [c2])
    · exact st_pick_t (.tmp 10) (.tmp 15) (.const (.bool false)) rfl (K.dep 5 10 rfl) (K.dep 10 15 rfl)
    · exact st_move (.tmp 16) rfl (K.dep 11 16 rfl)
    · exact st_field 38 2 (.tmp 2) rfl ((K.old 2 rfl).trans x2) (by kernel_rfl)
    · exact st_loadc 32 (.tmp 18) rfl (by kernel_rfl) (K.dep 13 18 rfl) (Ob.cell (Ob.below m2 K.grow) 2 rfl)
    · exact st_field 38 2 (.tmp 3) rfl ((K.old 3 rfl).trans x3) (by kernel_rfl)
    · exact st_loadc 32 (.tmp 20) rfl (by kernel_rfl) (K.dep 15 20 rfl) (Ob.cell (Ob.below m3 K.grow) 2 rfl)
    · exact st_call 58 (.func 58) _ _ #[.slice sA (S).length sC, .slice tA (S2).length tC] rfl rfl (arg2 (K.dep 14 19 rfl) (K.dep 16 21 rfl)) Tryd.enter58 (fk_of (eqs_any hSl _ (Fk.mono _ _ _ _ vS (bl.trans (Below.mono K.grow bl.size))) (Fk.mono _ _ _ _ vS2 (bl.trans (Below.mono K.grow bl.size))) true (by simp [c3])))
    · exact st_pick_t (.tmp 17) (.tmp 22) (.const (.bool false)) rfl (K.dep 12 17 rfl) (K.dep 17 22 rfl)
    · exact st_move (.tmp 23) rfl (K.dep 18 23 rfl)
    · exact st_field 38 3 (.tmp 2) rfl ((K.old 2 rfl).trans x2) (by kernel_rfl)
    · exact st_loadc 32 (.tmp 25) rfl (by kernel_rfl) (K.dep 20 25 rfl) (Ob.cell (Ob.below m2 K.grow) 3 rfl)
    · exact st_field 38 3 (.tmp 3) rfl ((K.old 3 rfl).trans x3) (by kernel_rfl)
    · exact st_loadc 32 (.tmp 27) rfl (by kernel_rfl) (K.dep 22 27 rfl) (Ob.cell (Ob.below m3 K.grow) 3 rfl)
    · exact st_call 58 (.func 58) _ _ #[.slice pA (P).length pC, .slice qA (P2).length qC] rfl rfl (arg2 (K.dep 21 26 rfl) (K.dep 23 28 rfl)) Tryd.enter58 (fk_of (eqs_any hPl _ (Fk.mono _ _ _ _ vP (bl.trans (Below.mono K.grow bl.size))) (Fk.mono _ _ _ _ vP2 (bl.trans (Below.mono K.grow bl.size))) false (by simp [c4])))
    · exact st_pick_t (.tmp 24) (.tmp 29) (.const (.bool false)) rfl (K.dep 19 24 rfl) (K.dep 24 29 rfl)
    · exact st_assign (.tmp 30) rfl (K.dep 25 30 rfl)
    intro f5 w5 A hb
    replace bl0 := bl
    replace x2 := (A.old 2 rfl).trans x2
    replace x3 := (A.old 3 rfl).trans x3
    clear x4
    have x4 : f5.eval (.tmp 4) = .bool false := A.has 26 4 rfl
    have lt_m2 := Ob.lt m2
    replace m2 := Ob.below m2 hb
    have lt_m3 := Ob.lt m3
    replace m3 := Ob.below m3 hb
    replace bl := (bl.trans (Below.mono hb bl.size))
    replace sz := A.size.trans sz
    replace df := A.defs.trans df
    clear A hb
    clear x2
    clear x3
    show Code.wp _ _ _ _ _
    refine wp_ret ?_
    repeat (first | with_reducible refine then_ret ?_ | with_reducible refine block_ret ?_)
    exact bodyPost_ret (v := .bool false) (ret_slot rfl f5 _ x4 _ _) df ⟨rfl, bl⟩
  obtain rfl : r = true := by rw [hr]; exact decide_eq_true ⟨c1, c2, c3, c4⟩
  -- R1
  refine wp_all_seq [.eq (.pointer (some ⟨g2, 0, none⟩)), .eq (.int .i64 (k)), .eq (.pointer (some ⟨g3, 0, none⟩)), .eq (.int .i64 (k2)), .eq (.bool true), .eq (.bool true), .eq (.pointer (some ⟨g2, 1, none⟩)), .eq (.int .i64 (i)), .eq (.pointer (some ⟨g3, 1, none⟩)), .eq (.int .i64 (i2)), .eq (.bool true), .eq (.bool true), .eq (.bool true), .eq (.pointer (some ⟨g2, 2, none⟩)), .eq (.slice sA (S).length sC), .eq (.pointer (some ⟨g3, 2, none⟩)), .eq (.slice tA (S2).length tC), .eq (.bool true), .eq (.bool true), .eq (.bool true), .eq (.pointer (some ⟨g2, 3, none⟩)), .eq (.slice pA (P).length pC), .eq (.pointer (some ⟨g3, 3, none⟩)), .eq (.slice qA (P2).length qC), .eq (.bool true), .eq (.bool true), .eq (.bool true)] (by kernel_rfl) (by kernel_rfl) (by rw [sz]; kernel_rfl) (by kernel_rfl) ⟨fun hw ac u K => ?_, fun hw ac u K => ?_, fun hw ac u K => ?_, fun hw ac u K => ?_, fun hw ac u K => ?_, fun hw ac u K => ?_, fun hw ac u K => ?_, fun hw ac u K => ?_, fun hw ac u K => ?_, fun hw ac u K => ?_, fun hw ac u K => ?_, fun hw ac u K => ?_, fun hw ac u K => ?_, fun hw ac u K => ?_, fun hw ac u K => ?_, fun hw ac u K => ?_, fun hw ac u K => ?_, fun hw ac u K => ?_, fun hw ac u K => ?_, fun hw ac u K => ?_, fun hw ac u K => ?_, fun hw ac u K => ?_, fun hw ac u K => ?_, fun hw ac u K => ?_, fun hw ac u K => ?_, fun hw ac u K => ?_, fun hw ac u K => ?_, trivial⟩ ?_
  · exact st_field 38 0 (.tmp 2) rfl ((K.old 2 rfl).trans x2) (by kernel_rfl)
  · exact st_loadc 3 (.tmp 5) rfl (by kernel_rfl) (K.dep 0 5 rfl) (Ob.cell (Ob.below m2 K.grow) 0 rfl)
  · exact st_field 38 0 (.tmp 3) rfl ((K.old 3 rfl).trans x3) (by kernel_rfl)
  · exact st_loadc 3 (.tmp 7) rfl (by kernel_rfl) (K.dep 2 7 rfl) (Ob.cell (Ob.below m3 K.grow) 0 rfl)
  · exact st_eqi 3 (.tmp 6) (.tmp 8) rfl .i64 ((k)) ((k2)) (K.dep 1 6 rfl) (K.dep 3 8 rfl) _ (by simp [c1])
  · exact st_move (.tmp 9) rfl (K.dep 4 9 rfl)
  · exact st_field 38 1 (.tmp 2) rfl ((K.old 2 rfl).trans x2) (by kernel_rfl)
  · exact st_loadc 3 (.tmp 11) rfl (by kernel_rfl) (K.dep 6 11 rfl) (Ob.cell (Ob.below m2 K.grow) 1 rfl)
  · exact st_field 38 1 (.tmp 3) rfl ((K.old 3 rfl).trans x3) (by kernel_rfl)
  · exact st_loadc 3 (.tmp 13) rfl (by kernel_rfl) (K.dep 8 13 rfl) (Ob.cell (Ob.below m3 K.grow) 1 rfl)
  · exact st_eqi 3 (.tmp 12) (.tmp 14) rfl .i64 ((i)) ((i2)) (K.dep 7 12 rfl) (K.dep 9 14 rfl) _ (by simp [c2])
  · exact st_pick_t (.tmp 10) (.tmp 15) (.const (.bool false)) rfl (K.dep 5 10 rfl) (K.dep 10 15 rfl)
  · exact st_move (.tmp 16) rfl (K.dep 11 16 rfl)
  · exact st_field 38 2 (.tmp 2) rfl ((K.old 2 rfl).trans x2) (by kernel_rfl)
  · exact st_loadc 32 (.tmp 18) rfl (by kernel_rfl) (K.dep 13 18 rfl) (Ob.cell (Ob.below m2 K.grow) 2 rfl)
  · exact st_field 38 2 (.tmp 3) rfl ((K.old 3 rfl).trans x3) (by kernel_rfl)
  · exact st_loadc 32 (.tmp 20) rfl (by kernel_rfl) (K.dep 15 20 rfl) (Ob.cell (Ob.below m3 K.grow) 2 rfl)
  · exact st_call 58 (.func 58) _ _ #[.slice sA (S).length sC, .slice tA (S2).length tC] rfl rfl (arg2 (K.dep 14 19 rfl) (K.dep 16 21 rfl)) Tryd.enter58 (fk_of (eqs_any hSl _ (Fk.mono _ _ _ _ vS (bl.trans (Below.mono K.grow bl.size))) (Fk.mono _ _ _ _ vS2 (bl.trans (Below.mono K.grow bl.size))) true (by simp [c3])))
  · exact st_pick_t (.tmp 17) (.tmp 22) (.const (.bool false)) rfl (K.dep 12 17 rfl) (K.dep 17 22 rfl)
  · exact st_move (.tmp 23) rfl (K.dep 18 23 rfl)
  · exact st_field 38 3 (.tmp 2) rfl ((K.old 2 rfl).trans x2) (by kernel_rfl)
  · exact st_loadc 32 (.tmp 25) rfl (by kernel_rfl) (K.dep 20 25 rfl) (Ob.cell (Ob.below m2 K.grow) 3 rfl)
  · exact st_field 38 3 (.tmp 3) rfl ((K.old 3 rfl).trans x3) (by kernel_rfl)
  · exact st_loadc 32 (.tmp 27) rfl (by kernel_rfl) (K.dep 22 27 rfl) (Ob.cell (Ob.below m3 K.grow) 3 rfl)
  · exact st_call 58 (.func 58) _ _ #[.slice pA (P).length pC, .slice qA (P2).length qC] rfl rfl (arg2 (K.dep 21 26 rfl) (K.dep 23 28 rfl)) Tryd.enter58 (fk_of (eqs_any hPl _ (Fk.mono _ _ _ _ vP (bl.trans (Below.mono K.grow bl.size))) (Fk.mono _ _ _ _ vP2 (bl.trans (Below.mono K.grow bl.size))) true (by simp [c4])))
  · exact st_pick_t (.tmp 24) (.tmp 29) (.const (.bool false)) rfl (K.dep 19 24 rfl) (K.dep 24 29 rfl)
  · exact st_assign (.tmp 30) rfl (K.dep 25 30 rfl)
  intro f5 w5 A hb
  replace bl0 := bl
  replace x2 := (A.old 2 rfl).trans x2
  replace x3 := (A.old 3 rfl).trans x3
  clear x4
  have x4 : f5.eval (.tmp 4) = .bool true := A.has 26 4 rfl
  have lt_m2 := Ob.lt m2
  replace m2 := Ob.below m2 hb
  have lt_m3 := Ob.lt m3
  replace m3 := Ob.below m3 hb
  replace bl := (bl.trans (Below.mono hb bl.size))
  replace sz := A.size.trans sz
  replace df := A.defs.trans df
  clear A hb
  clear x2
  clear x3
  show Code.wp _ _ _ _ _
  refine wp_ret ?_
  repeat (first | with_reducible refine then_ret ?_ | with_reducible refine block_ret ?_)
  exact bodyPost_ret (v := .bool true) (ret_slot rfl f5 _ x4 _ _) df ⟨rfl, bl⟩
end Go.Proofs.YtnanipeapjpkfaaDoor
