/- Lists of hashes held against each other; Equal. Slices of hashes that are cut; leaves, roots and paths by halves. -/
import Derived.Test.YtnanipeapjpkfaaDoorM9
namespace Go.Proofs.YtnanipeapjpkfaaDoor
set_option maxRecDepth 100000
open Go.RowKit
theorem take_succ_eq {A B : List (List (BitVec 8))} {k : Nat} {x : List (BitVec 8)} (h : A.take k = B.take k) (ha : A[k]? = some x) (hb : B[k]? = some x) : A.take (k + 1) = B.take (k + 1) := by
  rw [List.take_add_one, List.take_add_one, ha, hb, h]
theorem neq_at {A B : List (List (BitVec 8))} {k : Nat} {x y : List (BitVec 8)} (ha : A[k]? = some x) (hb : B[k]? = some y) (h : x ≠ y) : A ≠ B := by
  intro e
  rw [e, hb] at ha
  exact h (Option.some.inj ha).symm
theorem eqs_any {A0 B0 : List (List (BitVec 8))} {va vb : Value} (hA0 : A0.length ≤ 100000) (w : World) (hA : (Fk.hs A0).f va w) (hB : (Fk.hs B0).f vb w) (r : Bool) (hr : r = decide (A0 = B0)) :
    Calls Tryd.prog 58 #[va, vb] w fun e w' => e = .returned (.bool r) ∧ Below w.heap.size w w' := by
  go_enter Tryd.func58, Tryd.ntmps58
  refine code_both (fun f w1 => f.tmps.size = 26 ∧ f.defers = [] ∧ f.eval (.tmp 0) = va ∧ f.eval (.tmp 1) = vb ∧ Below w.heap.size w (w1)) ⟨rfl, rfl, rfl, rfl, Below.refl _ _⟩ ?_
  rintro f0 w0 ⟨sz, df, x0, x1, bl⟩
  have bl0 := bl
  refine wp_seq ?_
  -- R0
  refine wp_all_seq [.eq (.bool false)] (by kernel_rfl) (by kernel_rfl) (by rw [sz]; kernel_rfl) (by kernel_rfl) ⟨fun hw ac u K => ?_, trivial⟩ ?_
  · exact st_assign (.const (.bool false)) rfl rfl
  intro f1 w1 A hb
  replace bl0 := bl
  replace x0 := (A.old 0 rfl).trans x0
  replace x1 := (A.old 1 rfl).trans x1
  have x4 : f1.eval (.tmp 4) = .bool false := A.has 0 4 rfl
  replace bl := (bl.trans (Below.mono hb bl.size))
  replace sz := A.size.trans sz
  replace df := A.defs.trans df
  clear A hb
  show Code.wp _ _ _ _ _
  refine wp_seq ?_
  refine wp_seq ?_
  by_cases hl : A0.length = B0.length
  rotate_left
  · skip
    obtain rfl : r = false := by rw [hr]; exact decide_eq_false (fun e => hl (by rw [e]))
    -- R1
    refine wp_all_seq [.eq (va), .eq (.int .i64 (((A0).length : Nat) : Int)), .eq (vb), .eq (.int .i64 (((B0).length : Nat) : Int)), .eq (.bool true)] (by kernel_rfl) (by kernel_rfl) (by rw [sz]; kernel_rfl) (by kernel_rfl) ⟨fun hw ac u K => ?_, fun hw ac u K => ?_, fun hw ac u K => ?_, fun hw ac u K => ?_, fun hw ac u K => ?_, trivial⟩ ?_
    · exact st_move (.tmp 0) rfl ((K.old 0 rfl).trans x0)
    · exact st_lenh (.tmp 6) rfl (fk_val (K.dep 0 6 rfl) (Fk.mono _ _ _ _ hA (bl.trans (Below.mono K.grow bl.size))))
    · exact st_move (.tmp 1) rfl ((K.old 1 rfl).trans x1)
    · exact st_lenh (.tmp 8) rfl (fk_val (K.dep 2 8 rfl) (Fk.mono _ _ _ _ hB (bl.trans (Below.mono K.grow bl.size))))
    · exact st_neqi 3 (.tmp 7) (.tmp 9) rfl .i64 ((((A0).length : Nat) : Int)) ((((B0).length : Nat) : Int)) (K.dep 1 7 rfl) (K.dep 3 9 rfl) _ (by rw [eq_comm, decide_eq_true_iff]; omega)
    intro f2 w2 A hb
    replace bl0 := bl
    replace x0 := (A.old 0 rfl).trans x0
    replace x1 := (A.old 1 rfl).trans x1
    replace x4 := (A.old 4 rfl).trans x4
    have x10 : f2.eval (.tmp 10) = .bool true := A.has 4 10 rfl
    replace bl := (bl.trans (Below.mono hb bl.size))
    replace sz := A.size.trans sz
    replace df := A.defs.trans df
    clear A hb
    show Code.wp _ _ _ _ _
    refine wp_cond_true x10 ?_
    refine wp_seq ?_
    -- R2
    refine wp_all_seq [.eq (.bool false)] (by kernel_rfl) (by kernel_rfl) (by rw [sz]; kernel_rfl) (by kernel_rfl) ⟨fun hw ac u K => ?_, trivial⟩ ?_
    · exact st_assign (.const (.bool false)) rfl rfl
    intro f3 w3 A hb
    replace bl0 := bl
    replace x0 := (A.old 0 rfl).trans x0
    replace x1 := (A.old 1 rfl).trans x1
    clear x4
    replace x10 := (A.old 10 rfl).trans x10
    have x4 : f3.eval (.tmp 4) = .bool false := A.has 0 4 rfl
    replace bl := (bl.trans (Below.mono hb bl.size))
    replace sz := A.size.trans sz
    replace df := A.defs.trans df
    clear A hb
    show Code.wp _ _ _ _ _
    refine wp_ret ?_
    repeat (first | with_reducible refine then_ret ?_ | with_reducible refine block_ret ?_)
    exact bodyPost_ret (v := .bool false) (ret_slot rfl f3 _ x4 _ _) df ⟨rfl, bl⟩
  -- R1
  refine wp_all_seq [.eq (va), .eq (.int .i64 (((A0).length : Nat) : Int)), .eq (vb), .eq (.int .i64 (((B0).length : Nat) : Int)), .eq (.bool false)] (by kernel_rfl) (by kernel_rfl) (by rw [sz]; kernel_rfl) (by kernel_rfl) ⟨fun hw ac u K => ?_, fun hw ac u K => ?_, fun hw ac u K => ?_, fun hw ac u K => ?_, fun hw ac u K => ?_, trivial⟩ ?_
  · exact st_move (.tmp 0) rfl ((K.old 0 rfl).trans x0)
  · exact st_lenh (.tmp 6) rfl (fk_val (K.dep 0 6 rfl) (Fk.mono _ _ _ _ hA (bl.trans (Below.mono K.grow bl.size))))
  · exact st_move (.tmp 1) rfl ((K.old 1 rfl).trans x1)
  · exact st_lenh (.tmp 8) rfl (fk_val (K.dep 2 8 rfl) (Fk.mono _ _ _ _ hB (bl.trans (Below.mono K.grow bl.size))))
  · exact st_neqi 3 (.tmp 7) (.tmp 9) rfl .i64 ((((A0).length : Nat) : Int)) ((((B0).length : Nat) : Int)) (K.dep 1 7 rfl) (K.dep 3 9 rfl) _ (by simp [hl])
  intro f2 w2 A hb
  replace bl0 := bl
  replace x0 := (A.old 0 rfl).trans x0
  replace x1 := (A.old 1 rfl).trans x1
  replace x4 := (A.old 4 rfl).trans x4
  have x10 : f2.eval (.tmp 10) = .bool false := A.has 4 10 rfl
  replace bl := (bl.trans (Below.mono hb bl.size))
  replace sz := A.size.trans sz
  replace df := A.defs.trans df
  clear A hb
  show Code.wp _ _ _ _ _
  refine wp_cond_false x10 ?_
  refine wp_skip ?_
  show Code.wp _ _ _ _ _
  refine wp_seq ?_
  refine wp_seq ?_
  -- R3
  refine wp_all_seq [.eq (va), .eq (.int .i64 (((A0).length : Nat) : Int)), .eq (.int .i64 0)] (by kernel_rfl) (by kernel_rfl) (by rw [sz]; kernel_rfl) (by kernel_rfl) ⟨fun hw ac u K => ?_, fun hw ac u K => ?_, fun hw ac u K => ?_, trivial⟩ ?_
  · exact st_move (.tmp 0) rfl ((K.old 0 rfl).trans x0)
  · exact st_lenh (.tmp 11) rfl (fk_val (K.dep 0 11 rfl) (Fk.mono _ _ _ _ hA (bl.trans (Below.mono K.grow bl.size))))
  · exact st_move (.const (.int .i64 0)) rfl rfl
  intro f3 w3 A hb
  replace bl0 := bl
  replace x0 := (A.old 0 rfl).trans x0
  replace x1 := (A.old 1 rfl).trans x1
  replace x4 := (A.old 4 rfl).trans x4
  replace x10 := (A.old 10 rfl).trans x10
  have x12 : f3.eval (.tmp 12) = .int .i64 (((A0).length : Nat) : Int) := A.has 1 12 rfl
  have x13 : f3.eval (.tmp 13) = .int .i64 0 := A.has 2 13 rfl
  replace bl := (bl.trans (Below.mono hb bl.size))
  replace sz := A.size.trans sz
  replace df := A.defs.trans df
  clear A hb
  show Code.wp _ _ _ _ _
  refine wp_block ?_
  refine wp_loop (fun f v1 => ∃ k : Nat, k ≤ A0.length ∧ A0.take k = B0.take k ∧ f.tmps.size = 26 ∧ f.defers = [] ∧ f.eval (.tmp 0) = va ∧ f.eval (.tmp 1) = vb ∧ f.eval (.tmp 4) = .bool false ∧ f.eval (.tmp 10) = .bool false ∧ f.eval (.tmp 12) = .int .i64 (((A0).length : Nat) : Int) ∧ f.eval (.tmp 13) = .int .i64 ((k : Nat) : Int) ∧ Below w.heap.size w (v1)) (fun f _ => A0.length - (intOf (f.eval (.tmp 13))).toNat) ⟨0, Nat.zero_le _, rfl, sz, df, x0, x1, x4, x10, x12, x13, bl⟩ ?_
  intro f4 w4 hI
  clear sz df bl bl0 x0 x1 x4 x10 x12 x13
  obtain ⟨k, hk, heq, sz, df, x0, x1, x4, x10, x12, x13, bl⟩ := hI
  have bl0 := bl
  have hcnt := x13
  refine wp_seq ?_
  by_cases hlt : k < A0.length
  rotate_left
  · skip
    obtain rfl : r = true := by
      rw [hr]
      apply decide_eq_true
      rw [List.take_of_length_le (by omega), List.take_of_length_le (by omega)] at heq
      exact heq
    -- R4
    refine wp_all_seq [.eq (.bool false)] (by kernel_rfl) (by kernel_rfl) (by rw [sz]; kernel_rfl) (by kernel_rfl) ⟨fun hw ac u K => ?_, trivial⟩ ?_
    · exact st_lss 3 (.tmp 13) (.tmp 12) rfl .i64 (((k : Nat) : Int)) ((((A0).length : Nat) : Int)) ((K.old 13 rfl).trans x13) ((K.old 12 rfl).trans x12) _ (by first | (simp; done) | (simp; omega))
    intro f5 w5 A hb
    replace bl0 := bl
    replace x0 := (A.old 0 rfl).trans x0
    replace x1 := (A.old 1 rfl).trans x1
    replace x4 := (A.old 4 rfl).trans x4
    replace x10 := (A.old 10 rfl).trans x10
    replace x12 := (A.old 12 rfl).trans x12
    replace x13 := (A.old 13 rfl).trans x13
    have x14 : f5.eval (.tmp 14) = .bool false := A.has 0 14 rfl
    replace bl := (bl.trans (Below.mono hb bl.size))
    replace sz := A.size.trans sz
    replace df := A.defs.trans df
    clear A hb
    show Code.wp _ _ _ _ _
    refine wp_seq ?_
    refine wp_cond_false x14 ?_
    refine wp_exit ?_
    show Code.wp _ _ _ _ _
    refine wp_seq ?_
    -- R9
    refine wp_all_seq [.eq (.bool true)] (by kernel_rfl) (by kernel_rfl) (by rw [sz]; kernel_rfl) (by kernel_rfl) ⟨fun hw ac u K => ?_, trivial⟩ ?_
    · exact st_assign (.const (.bool true)) rfl rfl
    intro f6 w6 A hb
    replace bl0 := bl
    replace x0 := (A.old 0 rfl).trans x0
    replace x1 := (A.old 1 rfl).trans x1
    clear x4
    replace x10 := (A.old 10 rfl).trans x10
    replace x12 := (A.old 12 rfl).trans x12
    replace x13 := (A.old 13 rfl).trans x13
    replace x14 := (A.old 14 rfl).trans x14
    have x4 : f6.eval (.tmp 4) = .bool true := A.has 0 4 rfl
    replace bl := (bl.trans (Below.mono hb bl.size))
    replace sz := A.size.trans sz
    replace df := A.defs.trans df
    clear A hb
    show Code.wp _ _ _ _ _
    refine wp_ret ?_
    repeat (first | with_reducible refine then_ret ?_ | with_reducible refine block_ret ?_)
    exact bodyPost_ret (v := .bool true) (ret_slot rfl f6 _ x4 _ _) df ⟨rfl, bl⟩
  obtain ⟨x, hxk⟩ : ∃ p, A0[k]? = some p := ⟨_, List.getElem?_eq_getElem hlt⟩
  obtain ⟨y, hyk⟩ : ∃ p, B0[k]? = some p := ⟨_, List.getElem?_eq_getElem (by omega)⟩
  have hx : x.length = 32 := hs_len hA hxk
  have hy : y.length = 32 := hs_len hB hyk
  -- R4
  refine wp_all_seq [.eq (.bool true)] (by kernel_rfl) (by kernel_rfl) (by rw [sz]; kernel_rfl) (by kernel_rfl) ⟨fun hw ac u K => ?_, trivial⟩ ?_
  · exact st_lss 3 (.tmp 13) (.tmp 12) rfl .i64 (((k : Nat) : Int)) ((((A0).length : Nat) : Int)) ((K.old 13 rfl).trans x13) ((K.old 12 rfl).trans x12) _ (by first | (simp; done) | (simp; omega))
  intro f5 w5 A hb
  replace bl0 := bl
  replace x0 := (A.old 0 rfl).trans x0
  replace x1 := (A.old 1 rfl).trans x1
  replace x4 := (A.old 4 rfl).trans x4
  replace x10 := (A.old 10 rfl).trans x10
  replace x12 := (A.old 12 rfl).trans x12
  replace x13 := (A.old 13 rfl).trans x13
  have x14 : f5.eval (.tmp 14) = .bool true := A.has 0 14 rfl
  replace bl := (bl.trans (Below.mono hb bl.size))
  replace sz := A.size.trans sz
  replace df := A.defs.trans df
  clear A hb
  show Code.wp _ _ _ _ _
  refine wp_seq ?_
  refine wp_cond_true x14 ?_
  refine wp_skip ?_
  show Code.wp _ _ _ _ _
  refine wp_seq ?_
  refine wp_block ?_
  refine wp_seq ?_
  -- R5
  refine wp_all_seq [.eq (.int .i64 ((k : Nat) : Int)), .eq (.int .i64 ((k : Nat) : Int))] (by kernel_rfl) (by kernel_rfl) (by rw [sz]; kernel_rfl) (by kernel_rfl) ⟨fun hw ac u K => ?_, fun hw ac u K => ?_, trivial⟩ ?_
  · exact st_move (.tmp 13) rfl ((K.old 13 rfl).trans x13)
  · exact st_assign (.tmp 15) rfl (K.dep 0 15 rfl)
  intro f6 w6 A hb
  replace bl0 := bl
  replace x0 := (A.old 0 rfl).trans x0
  replace x1 := (A.old 1 rfl).trans x1
  replace x4 := (A.old 4 rfl).trans x4
  replace x10 := (A.old 10 rfl).trans x10
  replace x12 := (A.old 12 rfl).trans x12
  replace x13 := (A.old 13 rfl).trans x13
  replace x14 := (A.old 14 rfl).trans x14
  have x5 : f6.eval (.tmp 5) = .int .i64 ((k : Nat) : Int) := A.has 1 5 rfl
  replace bl := (bl.trans (Below.mono hb bl.size))
  replace sz := A.size.trans sz
  replace df := A.defs.trans df
  clear A hb
  show Code.wp _ _ _ _ _
  refine wp_seq ?_
  by_cases hxy : x = y
  rotate_left
  · skip
    obtain rfl : r = false := by rw [hr]; exact decide_eq_false (neq_at hxk hyk hxy)
    -- R6
    refine wp_all [.eq (va), .eq (.int .i64 ((k : Nat) : Int)), .ph (x), .eq (.agg ((x).map V).toArray), .eq (vb), .eq (.int .i64 ((k : Nat) : Int)), .ph (y), .eq (.agg ((y).map V).toArray), .eq (.bool true)] Tryd.mixed (by kernel_rfl) (by kernel_rfl) (by rw [sz]; kernel_rfl) (by kernel_rfl) ⟨fun hw ac u K => ?_, fun hw ac u K => ?_, fun hw ac u K => ?_, fun hw ac u K => ?_, fun hw ac u K => ?_, fun hw ac u K => ?_, fun hw ac u K => ?_, fun hw ac u K => ?_, fun hw ac u K => ?_, trivial⟩ ?_
    · exact st_move (.tmp 0) rfl ((K.old 0 rfl).trans x0)
    · exact st_move (.tmp 5) rfl ((K.old 5 rfl).trans x5)
    · exact st_idxh (.tmp 16) (.tmp 17) rfl (fk_val (K.dep 0 16 rfl) (Fk.mono _ _ _ _ hA (bl.trans (Below.mono K.grow bl.size)))) (k) (x) (K.dep 1 17 rfl) hxk
    · exact st_loadh (.tmp 18) rfl (K.dep 2 18 rfl)
    · exact st_move (.tmp 1) rfl ((K.old 1 rfl).trans x1)
    · exact st_move (.tmp 5) rfl ((K.old 5 rfl).trans x5)
    · exact st_idxh (.tmp 20) (.tmp 21) rfl (fk_val (K.dep 4 20 rfl) (Fk.mono _ _ _ _ hB (bl.trans (Below.mono K.grow bl.size)))) (k) (y) (K.dep 5 21 rfl) hyk
    · exact st_loadh (.tmp 22) rfl (K.dep 6 22 rfl)
    · exact st_neqh (.tmp 19) (.tmp 23) rfl (x) (y) hx hy (K.dep 3 19 rfl) (K.dep 7 23 rfl) _ (by simp [hxy])
    intro f7 w7 A hb
    replace bl0 := bl
    replace x0 := (A.old 0 rfl).trans x0
    replace x1 := (A.old 1 rfl).trans x1
    replace x4 := (A.old 4 rfl).trans x4
    replace x10 := (A.old 10 rfl).trans x10
    replace x12 := (A.old 12 rfl).trans x12
    replace x13 := (A.old 13 rfl).trans x13
    replace x14 := (A.old 14 rfl).trans x14
    replace x5 := (A.old 5 rfl).trans x5
    have x24 : f7.eval (.tmp 24) = .bool true := A.has 8 24 rfl
    replace bl := (bl.trans (Below.mono hb bl.size))
    replace sz := A.size.trans sz
    replace df := A.defs.trans df
    clear A hb
    clear x5
    show Code.wp _ _ _ _ _
    refine wp_cond_true x24 ?_
    refine wp_seq ?_
    -- R7
    refine wp_all_seq [.eq (.bool false)] (by kernel_rfl) (by kernel_rfl) (by rw [sz]; kernel_rfl) (by kernel_rfl) ⟨fun hw ac u K => ?_, trivial⟩ ?_
    · exact st_assign (.const (.bool false)) rfl rfl
    intro f8 w8 A hb
    replace bl0 := bl
    replace x0 := (A.old 0 rfl).trans x0
    replace x1 := (A.old 1 rfl).trans x1
    clear x4
    replace x10 := (A.old 10 rfl).trans x10
    replace x12 := (A.old 12 rfl).trans x12
    replace x13 := (A.old 13 rfl).trans x13
    replace x14 := (A.old 14 rfl).trans x14
    replace x24 := (A.old 24 rfl).trans x24
    have x4 : f8.eval (.tmp 4) = .bool false := A.has 0 4 rfl
    replace bl := (bl.trans (Below.mono hb bl.size))
    replace sz := A.size.trans sz
    replace df := A.defs.trans df
    clear A hb
    show Code.wp _ _ _ _ _
    refine wp_ret ?_
    repeat (first | with_reducible refine then_ret ?_ | with_reducible refine block_ret ?_)
    exact bodyPost_ret (v := .bool false) (ret_slot rfl f8 _ x4 _ _) df ⟨rfl, bl⟩
  -- R6
  refine wp_all [.eq (va), .eq (.int .i64 ((k : Nat) : Int)), .ph (x), .eq (.agg ((x).map V).toArray), .eq (vb), .eq (.int .i64 ((k : Nat) : Int)), .ph (y), .eq (.agg ((y).map V).toArray), .eq (.bool false)] Tryd.mixed (by kernel_rfl) (by kernel_rfl) (by rw [sz]; kernel_rfl) (by kernel_rfl) ⟨fun hw ac u K => ?_, fun hw ac u K => ?_, fun hw ac u K => ?_, fun hw ac u K => ?_, fun hw ac u K => ?_, fun hw ac u K => ?_, fun hw ac u K => ?_, fun hw ac u K => ?_, fun hw ac u K => ?_, trivial⟩ ?_
  · exact st_move (.tmp 0) rfl ((K.old 0 rfl).trans x0)
  · exact st_move (.tmp 5) rfl ((K.old 5 rfl).trans x5)
  · exact st_idxh (.tmp 16) (.tmp 17) rfl (fk_val (K.dep 0 16 rfl) (Fk.mono _ _ _ _ hA (bl.trans (Below.mono K.grow bl.size)))) (k) (x) (K.dep 1 17 rfl) hxk
  · exact st_loadh (.tmp 18) rfl (K.dep 2 18 rfl)
  · exact st_move (.tmp 1) rfl ((K.old 1 rfl).trans x1)
  · exact st_move (.tmp 5) rfl ((K.old 5 rfl).trans x5)
  · exact st_idxh (.tmp 20) (.tmp 21) rfl (fk_val (K.dep 4 20 rfl) (Fk.mono _ _ _ _ hB (bl.trans (Below.mono K.grow bl.size)))) (k) (y) (K.dep 5 21 rfl) hyk
  · exact st_loadh (.tmp 22) rfl (K.dep 6 22 rfl)
  · exact st_neqh (.tmp 19) (.tmp 23) rfl (x) (y) hx hy (K.dep 3 19 rfl) (K.dep 7 23 rfl) _ (by simp [hxy])
  intro f7 w7 A hb
  replace bl0 := bl
  replace x0 := (A.old 0 rfl).trans x0
  replace x1 := (A.old 1 rfl).trans x1
  replace x4 := (A.old 4 rfl).trans x4
  replace x10 := (A.old 10 rfl).trans x10
  replace x12 := (A.old 12 rfl).trans x12
  replace x13 := (A.old 13 rfl).trans x13
  replace x14 := (A.old 14 rfl).trans x14
  replace x5 := (A.old 5 rfl).trans x5
  have x24 : f7.eval (.tmp 24) = .bool false := A.has 8 24 rfl
  replace bl := (bl.trans (Below.mono hb bl.size))
  replace sz := A.size.trans sz
  replace df := A.defs.trans df
  clear A hb
  clear x5
  show Code.wp _ _ _ _ _
  refine wp_cond_false x24 ?_
  refine wp_skip ?_
  show Code.wp _ _ _ _ _
  -- R8
  refine wp_region_seq [.eq (.int .i64 ((k + 1 : Nat) : Int))] (by kernel_rfl) (by kernel_rfl) (by rw [sz]; kernel_rfl) (by kernel_rfl) ⟨fun hw ac u K => ?_, trivial⟩ ?_
  · exact st_add (.tmp 13) (.const (.int .i64 1)) rfl (k) (1) (k + 1) ((K.old 13 rfl).trans x13) rfl (by omega) (by omega)
  intro f8 w8 A hb
  replace bl0 := bl
  replace x0 := (A.old 0 rfl).trans x0
  replace x1 := (A.old 1 rfl).trans x1
  replace x4 := (A.old 4 rfl).trans x4
  replace x10 := (A.old 10 rfl).trans x10
  replace x12 := (A.old 12 rfl).trans x12
  replace x13 := (A.old 13 rfl).trans x13
  replace x14 := (A.old 14 rfl).trans x14
  replace x24 := (A.old 24 rfl).trans x24
  have x25 : f8.eval (.tmp 25) = .int .i64 ((k + 1 : Nat) : Int) := A.has 0 25 rfl
  replace bl := (bl.trans (Below.mono hb bl.size))
  replace sz := A.size.trans sz
  replace df := A.defs.trans df
  clear A hb
  refine wl_one (.eq (.int .i64 ((k + 1 : Nat) : Int))) rfl 13 rfl (by rw [sz]; decide) (st_move (.tmp 25) rfl x25) ?_
  intro f9 w9 df2 sz2 old2 new2 hb
  replace bl0 := bl
  replace x0 := (old2 0 rfl).trans x0
  replace x1 := (old2 1 rfl).trans x1
  replace x4 := (old2 4 rfl).trans x4
  replace x10 := (old2 10 rfl).trans x10
  replace x12 := (old2 12 rfl).trans x12
  clear x13
  replace x14 := (old2 14 rfl).trans x14
  replace x24 := (old2 24 rfl).trans x24
  replace x25 := (old2 25 rfl).trans x25
  have x13 : f9.eval (.tmp 13) = .int .i64 ((k + 1 : Nat) : Int) := new2
  replace bl := (bl.trans (Below.mono hb bl.size))
  replace sz := sz2.trans sz
  replace df := df2.trans df
  clear df2 sz2 old2 new2 hb
  refine wpList_nil ?_
  clear x25
  show (∃ _, _) ∧ _
  refine ⟨⟨k + 1, by omega, take_succ_eq heq hxk (by rw [hxy]; exact hyk), sz, df, x0, x1, x4, x10, x12, x13, bl⟩, ?_⟩
  rw [show f9.eval (.tmp 13) = _ from x13, show _ = _ from hcnt]
  simp [intOf]
  omega
theorem same_any {A0 B0 : List (List (BitVec 8))} {va vb : Value} (hA0 : A0.length ≤ 100000) (w : World) (hA : (Fk.hs A0).f va w) (hB : (Fk.hs B0).f vb w) (r : Bool) (hr : r = decide (A0 = B0)) :
    Calls Tryd.prog 19 #[va, vb] w fun e w' => e = .returned (.bool r) ∧ Below w.heap.size w w' := by
  go_enter Tryd.func19, Tryd.ntmps19
  refine code_both (fun f w1 => f.tmps.size = 26 ∧ f.defers = [] ∧ f.eval (.tmp 0) = va ∧ f.eval (.tmp 1) = vb ∧ Below w.heap.size w (w1)) ⟨rfl, rfl, rfl, rfl, Below.refl _ _⟩ ?_
  rintro f0 w0 ⟨sz, df, x0, x1, bl⟩
  have bl0 := bl
  refine wp_seq ?_
  -- R0
  refine wp_all_seq [.eq (.bool false)] (by kernel_rfl) (by kernel_rfl) (by rw [sz]; kernel_rfl) (by kernel_rfl) ⟨fun hw ac u K => ?_, trivial⟩ ?_
  · exact st_assign (.const (.bool false)) rfl rfl
  intro f1 w1 A hb
  replace bl0 := bl
  replace x0 := (A.old 0 rfl).trans x0
  replace x1 := (A.old 1 rfl).trans x1
  have x4 : f1.eval (.tmp 4) = .bool false := A.has 0 4 rfl
  replace bl := (bl.trans (Below.mono hb bl.size))
  replace sz := A.size.trans sz
  replace df := A.defs.trans df
  clear A hb
  show Code.wp _ _ _ _ _
  refine wp_seq ?_
  refine wp_seq ?_
  by_cases hl : A0.length = B0.length
  rotate_left
  · skip
    obtain rfl : r = false := by rw [hr]; exact decide_eq_false (fun e => hl (by rw [e]))
    -- R1
    refine wp_all_seq [.eq (va), .eq (.int .i64 (((A0).length : Nat) : Int)), .eq (vb), .eq (.int .i64 (((B0).length : Nat) : Int)), .eq (.bool true)] (by kernel_rfl) (by kernel_rfl) (by rw [sz]; kernel_rfl) (by kernel_rfl) ⟨fun hw ac u K => ?_, fun hw ac u K => ?_, fun hw ac u K => ?_, fun hw ac u K => ?_, fun hw ac u K => ?_, trivial⟩ ?_
    · exact st_move (.tmp 0) rfl ((K.old 0 rfl).trans x0)
    · exact st_lenh (.tmp 6) rfl (fk_val (K.dep 0 6 rfl) (Fk.mono _ _ _ _ hA (bl.trans (Below.mono K.grow bl.size))))
    · exact st_move (.tmp 1) rfl ((K.old 1 rfl).trans x1)
    · exact st_lenh (.tmp 8) rfl (fk_val (K.dep 2 8 rfl) (Fk.mono _ _ _ _ hB (bl.trans (Below.mono K.grow bl.size))))
    · exact st_neqi 3 (.tmp 7) (.tmp 9) rfl .i64 ((((A0).length : Nat) : Int)) ((((B0).length : Nat) : Int)) (K.dep 1 7 rfl) (K.dep 3 9 rfl) _ (by rw [eq_comm, decide_eq_true_iff]; omega)
    intro f2 w2 A hb
    replace bl0 := bl
    replace x0 := (A.old 0 rfl).trans x0
    replace x1 := (A.old 1 rfl).trans x1
    replace x4 := (A.old 4 rfl).trans x4
    have x10 : f2.eval (.tmp 10) = .bool true := A.has 4 10 rfl
    replace bl := (bl.trans (Below.mono hb bl.size))
    replace sz := A.size.trans sz
    replace df := A.defs.trans df
    clear A hb
    show Code.wp _ _ _ _ _
    refine wp_cond_true x10 ?_
    refine wp_seq ?_
    -- R2
    refine wp_all_seq [.eq (.bool false)] (by kernel_rfl) (by kernel_rfl) (by rw [sz]; kernel_rfl) (by kernel_rfl) ⟨fun hw ac u K => ?_, trivial⟩ ?_
    · exact st_assign (.const (.bool false)) rfl rfl
    intro f3 w3 A hb
    replace bl0 := bl
    replace x0 := (A.old 0 rfl).trans x0
    replace x1 := (A.old 1 rfl).trans x1
    clear x4
    replace x10 := (A.old 10 rfl).trans x10
    have x4 : f3.eval (.tmp 4) = .bool false := A.has 0 4 rfl
    replace bl := (bl.trans (Below.mono hb bl.size))
    replace sz := A.size.trans sz
    replace df := A.defs.trans df
    clear A hb
    show Code.wp _ _ _ _ _
    refine wp_ret ?_
    repeat (first | with_reducible refine then_ret ?_ | with_reducible refine block_ret ?_)
    exact bodyPost_ret (v := .bool false) (ret_slot rfl f3 _ x4 _ _) df ⟨rfl, bl⟩
  -- R1
  refine wp_all_seq [.eq (va), .eq (.int .i64 (((A0).length : Nat) : Int)), .eq (vb), .eq (.int .i64 (((B0).length : Nat) : Int)), .eq (.bool false)] (by kernel_rfl) (by kernel_rfl) (by rw [sz]; kernel_rfl) (by kernel_rfl) ⟨fun hw ac u K => ?_, fun hw ac u K => ?_, fun hw ac u K => ?_, fun hw ac u K => ?_, fun hw ac u K => ?_, trivial⟩ ?_
  · exact st_move (.tmp 0) rfl ((K.old 0 rfl).trans x0)
  · exact st_lenh (.tmp 6) rfl (fk_val (K.dep 0 6 rfl) (Fk.mono _ _ _ _ hA (bl.trans (Below.mono K.grow bl.size))))
  · exact st_move (.tmp 1) rfl ((K.old 1 rfl).trans x1)
  · exact st_lenh (.tmp 8) rfl (fk_val (K.dep 2 8 rfl) (Fk.mono _ _ _ _ hB (bl.trans (Below.mono K.grow bl.size))))
  · exact st_neqi 3 (.tmp 7) (.tmp 9) rfl .i64 ((((A0).length : Nat) : Int)) ((((B0).length : Nat) : Int)) (K.dep 1 7 rfl) (K.dep 3 9 rfl) _ (by simp [hl])
  intro f2 w2 A hb
  replace bl0 := bl
  replace x0 := (A.old 0 rfl).trans x0
  replace x1 := (A.old 1 rfl).trans x1
  replace x4 := (A.old 4 rfl).trans x4
  have x10 : f2.eval (.tmp 10) = .bool false := A.has 4 10 rfl
  replace bl := (bl.trans (Below.mono hb bl.size))
  replace sz := A.size.trans sz
  replace df := A.defs.trans df
  clear A hb
  show Code.wp _ _ _ _ _
  refine wp_cond_false x10 ?_
  refine wp_skip ?_
  show Code.wp _ _ _ _ _
  refine wp_seq ?_
  refine wp_seq ?_
  -- R3
  refine wp_all_seq [.eq (va), .eq (.int .i64 (((A0).length : Nat) : Int)), .eq (.int .i64 0)] (by kernel_rfl) (by kernel_rfl) (by rw [sz]; kernel_rfl) (by kernel_rfl) ⟨fun hw ac u K => ?_, fun hw ac u K => ?_, fun hw ac u K => ?_, trivial⟩ ?_
  · exact st_move (.tmp 0) rfl ((K.old 0 rfl).trans x0)
  · exact st_lenh (.tmp 11) rfl (fk_val (K.dep 0 11 rfl) (Fk.mono _ _ _ _ hA (bl.trans (Below.mono K.grow bl.size))))
  · exact st_move (.const (.int .i64 0)) rfl rfl
  intro f3 w3 A hb
  replace bl0 := bl
  replace x0 := (A.old 0 rfl).trans x0
  replace x1 := (A.old 1 rfl).trans x1
  replace x4 := (A.old 4 rfl).trans x4
  replace x10 := (A.old 10 rfl).trans x10
  have x12 : f3.eval (.tmp 12) = .int .i64 (((A0).length : Nat) : Int) := A.has 1 12 rfl
  have x13 : f3.eval (.tmp 13) = .int .i64 0 := A.has 2 13 rfl
  replace bl := (bl.trans (Below.mono hb bl.size))
  replace sz := A.size.trans sz
  replace df := A.defs.trans df
  clear A hb
  show Code.wp _ _ _ _ _
  refine wp_block ?_
  refine wp_loop (fun f v1 => ∃ k : Nat, k ≤ A0.length ∧ A0.take k = B0.take k ∧ f.tmps.size = 26 ∧ f.defers = [] ∧ f.eval (.tmp 0) = va ∧ f.eval (.tmp 1) = vb ∧ f.eval (.tmp 4) = .bool false ∧ f.eval (.tmp 10) = .bool false ∧ f.eval (.tmp 12) = .int .i64 (((A0).length : Nat) : Int) ∧ f.eval (.tmp 13) = .int .i64 ((k : Nat) : Int) ∧ Below w.heap.size w (v1)) (fun f _ => A0.length - (intOf (f.eval (.tmp 13))).toNat) ⟨0, Nat.zero_le _, rfl, sz, df, x0, x1, x4, x10, x12, x13, bl⟩ ?_
  intro f4 w4 hI
  clear sz df bl bl0 x0 x1 x4 x10 x12 x13
  obtain ⟨k, hk, heq, sz, df, x0, x1, x4, x10, x12, x13, bl⟩ := hI
  have bl0 := bl
  have hcnt := x13
  refine wp_seq ?_
  by_cases hlt : k < A0.length
  rotate_left
  · skip
    obtain rfl : r = true := by
      rw [hr]
      apply decide_eq_true
      rw [List.take_of_length_le (by omega), List.take_of_length_le (by omega)] at heq
      exact heq
    -- R4
    refine wp_all_seq [.eq (.bool false)] (by kernel_rfl) (by kernel_rfl) (by rw [sz]; kernel_rfl) (by kernel_rfl) ⟨fun hw ac u K => ?_, trivial⟩ ?_
    · exact st_lss 3 (.tmp 13) (.tmp 12) rfl .i64 (((k : Nat) : Int)) ((((A0).length : Nat) : Int)) ((K.old 13 rfl).trans x13) ((K.old 12 rfl).trans x12) _ (by first | (simp; done) | (simp; omega))
    intro f5 w5 A hb
    replace bl0 := bl
    replace x0 := (A.old 0 rfl).trans x0
    replace x1 := (A.old 1 rfl).trans x1
    replace x4 := (A.old 4 rfl).trans x4
    replace x10 := (A.old 10 rfl).trans x10
    replace x12 := (A.old 12 rfl).trans x12
    replace x13 := (A.old 13 rfl).trans x13
    have x14 : f5.eval (.tmp 14) = .bool false := A.has 0 14 rfl
    replace bl := (bl.trans (Below.mono hb bl.size))
    replace sz := A.size.trans sz
    replace df := A.defs.trans df
    clear A hb
    show Code.wp _ _ _ _ _
    refine wp_seq ?_
    refine wp_cond_false x14 ?_
    refine wp_exit ?_
    show Code.wp _ _ _ _ _
    refine wp_seq ?_
    -- R9
    refine wp_all_seq [.eq (.bool true)] (by kernel_rfl) (by kernel_rfl) (by rw [sz]; kernel_rfl) (by kernel_rfl) ⟨fun hw ac u K => ?_, trivial⟩ ?_
    · exact st_assign (.const (.bool true)) rfl rfl
    intro f6 w6 A hb
    replace bl0 := bl
    replace x0 := (A.old 0 rfl).trans x0
    replace x1 := (A.old 1 rfl).trans x1
    clear x4
    replace x10 := (A.old 10 rfl).trans x10
    replace x12 := (A.old 12 rfl).trans x12
    replace x13 := (A.old 13 rfl).trans x13
    replace x14 := (A.old 14 rfl).trans x14
    have x4 : f6.eval (.tmp 4) = .bool true := A.has 0 4 rfl
    replace bl := (bl.trans (Below.mono hb bl.size))
    replace sz := A.size.trans sz
    replace df := A.defs.trans df
    clear A hb
    show Code.wp _ _ _ _ _
    refine wp_ret ?_
    repeat (first | with_reducible refine then_ret ?_ | with_reducible refine block_ret ?_)
    exact bodyPost_ret (v := .bool true) (ret_slot rfl f6 _ x4 _ _) df ⟨rfl, bl⟩
  obtain ⟨x, hxk⟩ : ∃ p, A0[k]? = some p := ⟨_, List.getElem?_eq_getElem hlt⟩
  obtain ⟨y, hyk⟩ : ∃ p, B0[k]? = some p := ⟨_, List.getElem?_eq_getElem (by omega)⟩
  have hx : x.length = 32 := hs_len hA hxk
  have hy : y.length = 32 := hs_len hB hyk
  -- R4
  refine wp_all_seq [.eq (.bool true)] (by kernel_rfl) (by kernel_rfl) (by rw [sz]; kernel_rfl) (by kernel_rfl) ⟨fun hw ac u K => ?_, trivial⟩ ?_
  · exact st_lss 3 (.tmp 13) (.tmp 12) rfl .i64 (((k : Nat) : Int)) ((((A0).length : Nat) : Int)) ((K.old 13 rfl).trans x13) ((K.old 12 rfl).trans x12) _ (by first | (simp; done) | (simp; omega))
  intro f5 w5 A hb
  replace bl0 := bl
  replace x0 := (A.old 0 rfl).trans x0
  replace x1 := (A.old 1 rfl).trans x1
  replace x4 := (A.old 4 rfl).trans x4
  replace x10 := (A.old 10 rfl).trans x10
  replace x12 := (A.old 12 rfl).trans x12
  replace x13 := (A.old 13 rfl).trans x13
  have x14 : f5.eval (.tmp 14) = .bool true := A.has 0 14 rfl
  replace bl := (bl.trans (Below.mono hb bl.size))
  replace sz := A.size.trans sz
  replace df := A.defs.trans df
  clear A hb
  show Code.wp _ _ _ _ _
  refine wp_seq ?_
  refine wp_cond_true x14 ?_
  refine wp_skip ?_
  show Code.wp _ _ _ _ _
  refine wp_seq ?_
  refine wp_block ?_
  refine wp_seq ?_
  -- R5
  refine wp_all_seq [.eq (.int .i64 ((k : Nat) : Int)), .eq (.int .i64 ((k : Nat) : Int))] (by kernel_rfl) (by kernel_rfl) (by rw [sz]; kernel_rfl) (by kernel_rfl) ⟨fun hw ac u K => ?_, fun hw ac u K => ?_, trivial⟩ ?_
  · exact st_move (.tmp 13) rfl ((K.old 13 rfl).trans x13)
  · exact st_assign (.tmp 15) rfl (K.dep 0 15 rfl)
  intro f6 w6 A hb
  replace bl0 := bl
  replace x0 := (A.old 0 rfl).trans x0
  replace x1 := (A.old 1 rfl).trans x1
  replace x4 := (A.old 4 rfl).trans x4
  replace x10 := (A.old 10 rfl).trans x10
  replace x12 := (A.old 12 rfl).trans x12
  replace x13 := (A.old 13 rfl).trans x13
  replace x14 := (A.old 14 rfl).trans x14
  have x5 : f6.eval (.tmp 5) = .int .i64 ((k : Nat) : Int) := A.has 1 5 rfl
  replace bl := (bl.trans (Below.mono hb bl.size))
  replace sz := A.size.trans sz
  replace df := A.defs.trans df
  clear A hb
  show Code.wp _ _ _ _ _
  refine wp_seq ?_
  by_cases hxy : x = y
  rotate_left
  · skip
    obtain rfl : r = false := by rw [hr]; exact decide_eq_false (neq_at hxk hyk hxy)
    -- R6
    refine wp_all [.eq (va), .eq (.int .i64 ((k : Nat) : Int)), .ph (x), .eq (.agg ((x).map V).toArray), .eq (vb), .eq (.int .i64 ((k : Nat) : Int)), .ph (y), .eq (.agg ((y).map V).toArray), .eq (.bool true)] Tryd.mixed (by kernel_rfl) (by kernel_rfl) (by rw [sz]; kernel_rfl) (by kernel_rfl) ⟨fun hw ac u K => ?_, fun hw ac u K => ?_, fun hw ac u K => ?_, fun hw ac u K => ?_, fun hw ac u K => ?_, fun hw ac u K => ?_, fun hw ac u K => ?_, fun hw ac u K => ?_, fun hw ac u K => ?_, trivial⟩ ?_
    · exact st_move (.tmp 0) rfl ((K.old 0 rfl).trans x0)
    · exact st_move (.tmp 5) rfl ((K.old 5 rfl).trans x5)
    · exact st_idxh (.tmp 16) (.tmp 17) rfl (fk_val (K.dep 0 16 rfl) (Fk.mono _ _ _ _ hA (bl.trans (Below.mono K.grow bl.size)))) (k) (x) (K.dep 1 17 rfl) hxk
    · exact st_loadh (.tmp 18) rfl (K.dep 2 18 rfl)
    · exact st_move (.tmp 1) rfl ((K.old 1 rfl).trans x1)
    · exact st_move (.tmp 5) rfl ((K.old 5 rfl).trans x5)
    · exact st_idxh (.tmp 20) (.tmp 21) rfl (fk_val (K.dep 4 20 rfl) (Fk.mono _ _ _ _ hB (bl.trans (Below.mono K.grow bl.size)))) (k) (y) (K.dep 5 21 rfl) hyk
    · exact st_loadh (.tmp 22) rfl (K.dep 6 22 rfl)
    · exact st_neqh (.tmp 19) (.tmp 23) rfl (x) (y) hx hy (K.dep 3 19 rfl) (K.dep 7 23 rfl) _ (by simp [hxy])
    intro f7 w7 A hb
    replace bl0 := bl
    replace x0 := (A.old 0 rfl).trans x0
    replace x1 := (A.old 1 rfl).trans x1
    replace x4 := (A.old 4 rfl).trans x4
    replace x10 := (A.old 10 rfl).trans x10
    replace x12 := (A.old 12 rfl).trans x12
    replace x13 := (A.old 13 rfl).trans x13
    replace x14 := (A.old 14 rfl).trans x14
    replace x5 := (A.old 5 rfl).trans x5
    have x24 : f7.eval (.tmp 24) = .bool true := A.has 8 24 rfl
    replace bl := (bl.trans (Below.mono hb bl.size))
    replace sz := A.size.trans sz
    replace df := A.defs.trans df
    clear A hb
    clear x5
    show Code.wp _ _ _ _ _
    refine wp_cond_true x24 ?_
    refine wp_seq ?_
    -- R7
    refine wp_all_seq [.eq (.bool false)] (by kernel_rfl) (by kernel_rfl) (by rw [sz]; kernel_rfl) (by kernel_rfl) ⟨fun hw ac u K => ?_, trivial⟩ ?_
    · exact st_assign (.const (.bool false)) rfl rfl
    intro f8 w8 A hb
    replace bl0 := bl
    replace x0 := (A.old 0 rfl).trans x0
    replace x1 := (A.old 1 rfl).trans x1
    clear x4
    replace x10 := (A.old 10 rfl).trans x10
    replace x12 := (A.old 12 rfl).trans x12
    replace x13 := (A.old 13 rfl).trans x13
    replace x14 := (A.old 14 rfl).trans x14
    replace x24 := (A.old 24 rfl).trans x24
    have x4 : f8.eval (.tmp 4) = .bool false := A.has 0 4 rfl
    replace bl := (bl.trans (Below.mono hb bl.size))
    replace sz := A.size.trans sz
    replace df := A.defs.trans df
    clear A hb
    show Code.wp _ _ _ _ _
    refine wp_ret ?_
    repeat (first | with_reducible refine then_ret ?_ | with_reducible refine block_ret ?_)
    exact bodyPost_ret (v := .bool false) (ret_slot rfl f8 _ x4 _ _) df ⟨rfl, bl⟩
  -- R6
  refine wp_all [.eq (va), .eq (.int .i64 ((k : Nat) : Int)), .ph (x), .eq (.agg ((x).map V).toArray), .eq (vb), .eq (.int .i64 ((k : Nat) : Int)), .ph (y), .eq (.agg ((y).map V).toArray), .eq (.bool false)] Tryd.mixed (by kernel_rfl) (by kernel_rfl) (by rw [sz]; kernel_rfl) (by kernel_rfl) ⟨fun hw ac u K => ?_, fun hw ac u K => ?_, fun hw ac u K => ?_, fun hw ac u K => ?_, fun hw ac u K => ?_, fun hw ac u K => ?_, fun hw ac u K => ?_, fun hw ac u K => ?_, fun hw ac u K => ?_, trivial⟩ ?_
  · exact st_move (.tmp 0) rfl ((K.old 0 rfl).trans x0)
  · exact st_move (.tmp 5) rfl ((K.old 5 rfl).trans x5)
  · exact st_idxh (.tmp 16) (.tmp 17) rfl (fk_val (K.dep 0 16 rfl) (Fk.mono _ _ _ _ hA (bl.trans (Below.mono K.grow bl.size)))) (k) (x) (K.dep 1 17 rfl) hxk
  · exact st_loadh (.tmp 18) rfl (K.dep 2 18 rfl)
  · exact st_move (.tmp 1) rfl ((K.old 1 rfl).trans x1)
  · exact st_move (.tmp 5) rfl ((K.old 5 rfl).trans x5)
  · exact st_idxh (.tmp 20) (.tmp 21) rfl (fk_val (K.dep 4 20 rfl) (Fk.mono _ _ _ _ hB (bl.trans (Below.mono K.grow bl.size)))) (k) (y) (K.dep 5 21 rfl) hyk
  · exact st_loadh (.tmp 22) rfl (K.dep 6 22 rfl)
  · exact st_neqh (.tmp 19) (.tmp 23) rfl (x) (y) hx hy (K.dep 3 19 rfl) (K.dep 7 23 rfl) _ (by simp [hxy])
  intro f7 w7 A hb
  replace bl0 := bl
  replace x0 := (A.old 0 rfl).trans x0
  replace x1 := (A.old 1 rfl).trans x1
  replace x4 := (A.old 4 rfl).trans x4
  replace x10 := (A.old 10 rfl).trans x10
  replace x12 := (A.old 12 rfl).trans x12
  replace x13 := (A.old 13 rfl).trans x13
  replace x14 := (A.old 14 rfl).trans x14
  replace x5 := (A.old 5 rfl).trans x5
  have x24 : f7.eval (.tmp 24) = .bool false := A.has 8 24 rfl
  replace bl := (bl.trans (Below.mono hb bl.size))
  replace sz := A.size.trans sz
  replace df := A.defs.trans df
  clear A hb
  clear x5
  show Code.wp _ _ _ _ _
  refine wp_cond_false x24 ?_
  refine wp_skip ?_
  show Code.wp _ _ _ _ _
  -- R8
  refine wp_region_seq [.eq (.int .i64 ((k + 1 : Nat) : Int))] (by kernel_rfl) (by kernel_rfl) (by rw [sz]; kernel_rfl) (by kernel_rfl) ⟨fun hw ac u K => ?_, trivial⟩ ?_
  · exact st_add (.tmp 13) (.const (.int .i64 1)) rfl (k) (1) (k + 1) ((K.old 13 rfl).trans x13) rfl (by omega) (by omega)
  intro f8 w8 A hb
  replace bl0 := bl
  replace x0 := (A.old 0 rfl).trans x0
  replace x1 := (A.old 1 rfl).trans x1
  replace x4 := (A.old 4 rfl).trans x4
  replace x10 := (A.old 10 rfl).trans x10
  replace x12 := (A.old 12 rfl).trans x12
  replace x13 := (A.old 13 rfl).trans x13
  replace x14 := (A.old 14 rfl).trans x14
  replace x24 := (A.old 24 rfl).trans x24
  have x25 : f8.eval (.tmp 25) = .int .i64 ((k + 1 : Nat) : Int) := A.has 0 25 rfl
  replace bl := (bl.trans (Below.mono hb bl.size))
  replace sz := A.size.trans sz
  replace df := A.defs.trans df
  clear A hb
  refine wl_one (.eq (.int .i64 ((k + 1 : Nat) : Int))) rfl 13 rfl (by rw [sz]; decide) (st_move (.tmp 25) rfl x25) ?_
  intro f9 w9 df2 sz2 old2 new2 hb
  replace bl0 := bl
  replace x0 := (old2 0 rfl).trans x0
  replace x1 := (old2 1 rfl).trans x1
  replace x4 := (old2 4 rfl).trans x4
  replace x10 := (old2 10 rfl).trans x10
  replace x12 := (old2 12 rfl).trans x12
  clear x13
  replace x14 := (old2 14 rfl).trans x14
  replace x24 := (old2 24 rfl).trans x24
  replace x25 := (old2 25 rfl).trans x25
  have x13 : f9.eval (.tmp 13) = .int .i64 ((k + 1 : Nat) : Int) := new2
  replace bl := (bl.trans (Below.mono hb bl.size))
  replace sz := sz2.trans sz
  replace df := df2.trans df
  clear df2 sz2 old2 new2 hb
  refine wpList_nil ?_
  clear x25
  show (∃ _, _) ∧ _
  refine ⟨⟨k + 1, by omega, take_succ_eq heq hxk (by rw [hxy]; exact hyk), sz, df, x0, x1, x4, x10, x12, x13, bl⟩, ?_⟩
  rw [show f9.eval (.tmp 13) = _ from x13, show _ = _ from hcnt]
  simp [intOf]
  omega
theorem sigEqual_any {S P S2 P2 : List (List (BitVec 8))} {sA pA tA qA : Option Addr} {sC pC tC qC : Nat} (k i k2 i2 : Int) (hSl : S.length ≤ 100000) (hPl : P.length ≤ 100000) (w : World) (vS : (Fk.hs S).f (.slice sA (S).length sC) w) (vP : (Fk.hs P).f (.slice pA (P).length pC) w) (vS2 : (Fk.hs S2).f (.slice tA (S2).length tC) w) (vP2 : (Fk.hs P2).f (.slice qA (P2).length qC) w) (r : Bool) (hr : r = decide (k = k2 ∧ i = i2 ∧ S = S2 ∧ P = P2)) :
    Calls Tryd.prog 31 #[.agg ([.int .i64 (k), .int .i64 (i), .slice sA (S).length sC, .slice pA (P).length pC] : List Value).toArray, .agg ([.int .i64 (k2), .int .i64 (i2), .slice tA (S2).length tC, .slice qA (P2).length qC] : List Value).toArray] w fun e w' => e = .returned (.bool r) ∧ Below w.heap.size w w' := by
  go_enter Tryd.func31, Tryd.ntmps31
  refine code_both (fun f w1 => f.tmps.size = 31 ∧ f.defers = [] ∧ f.eval (.tmp 0) = .agg ([.int .i64 (k), .int .i64 (i), .slice sA (S).length sC, .slice pA (P).length pC] : List Value).toArray ∧ f.eval (.tmp 1) = .agg ([.int .i64 (k2), .int .i64 (i2), .slice tA (S2).length tC, .slice qA (P2).length qC] : List Value).toArray ∧ Below w.heap.size w (w1)) ⟨rfl, rfl, rfl, rfl, Below.refl _ _⟩ ?_
  rintro f0 w0 ⟨sz, df, x0, x1, bl⟩
  have bl0 := bl
  refine wp_seq ?_
  -- R0
  refine wp_region_seq [] (by kernel_rfl) (by kernel_rfl) (by rw [sz]; kernel_rfl) (by kernel_rfl) trivial ?_
  intro f1 w1 A hb
  replace bl0 := bl
  replace x0 := (A.old 0 rfl).trans x0
  replace x1 := (A.old 1 rfl).trans x1
  replace bl := (bl.trans (Below.mono hb bl.size))
  replace sz := A.size.trans sz
  replace df := A.defs.trans df
  clear A hb
  refine wl_one (.nw w1.heap.size 38 ([.int .i64 (k), .int .i64 (i), .slice sA (S).length sC, .slice pA (P).length pC] : List Value)) rfl 2 rfl (by rw [sz]; decide) (st_box 38 (.tmp 0) rfl _ _ (by rw [show _ = _ from x0]; kernel_rfl) (Nat.le_refl _)) ?_
  intro f2 w2 df2 sz2 old2 new2 hb
  replace bl0 := bl
  replace x0 := (old2 0 rfl).trans x0
  replace x1 := (old2 1 rfl).trans x1
  have x2 : Fk.f (.nw w1.heap.size 38 ([.int .i64 (k), .int .i64 (i), .slice sA (S).length sC, .slice pA (P).length pC] : List Value)) (f2.eval (.tmp 2)) w2 := new2
  replace bl := (bl.trans (Below.mono hb bl.size))
  replace sz := sz2.trans sz
  replace df := df2.trans df
  clear df2 sz2 old2 new2 hb
  obtain ⟨g2, hg2, e2, m2⟩ := x2
  have x2 := e2
  clear e2
  have hw2 : w.heap.size ≤ g2 := Nat.le_trans bl0.size hg2
  clear x0
  refine wl_one (.nw w2.heap.size 38 ([.int .i64 (k2), .int .i64 (i2), .slice tA (S2).length tC, .slice qA (P2).length qC] : List Value)) rfl 3 rfl (by rw [sz]; decide) (st_box 38 (.tmp 1) rfl _ _ (by rw [show _ = _ from x1]; kernel_rfl) (Nat.le_refl _)) ?_
  intro f3 w3 df2 sz2 old2 new2 hb
  replace bl0 := bl
  replace x1 := (old2 1 rfl).trans x1
  replace x2 := (old2 2 rfl).trans x2
  have x3 : Fk.f (.nw w2.heap.size 38 ([.int .i64 (k2), .int .i64 (i2), .slice tA (S2).length tC, .slice qA (P2).length qC] : List Value)) (f3.eval (.tmp 3)) w3 := new2
  have lt_m2 := Ob.lt m2
  replace m2 := Ob.below m2 hb
  replace bl := (bl.trans (Below.mono hb bl.size))
  replace sz := sz2.trans sz
  replace df := df2.trans df
  clear df2 sz2 old2 new2 hb
  obtain ⟨g3, hg3, e3, m3⟩ := x3
  have x3 := e3
  clear e3
  have nm2_3 : g2 ≠ g3 := Nat.ne_of_lt (Nat.lt_of_lt_of_le lt_m2 hg3)
  have hw3 : w.heap.size ≤ g3 := Nat.le_trans bl0.size hg3
  clear x1
  refine wl_one (.eq (.bool false)) rfl 4 rfl (by rw [sz]; decide) (st_assign (.const (.bool false)) rfl rfl) ?_
  intro f4 w4 df2 sz2 old2 new2 hb
  replace bl0 := bl
  replace x2 := (old2 2 rfl).trans x2
  replace x3 := (old2 3 rfl).trans x3
  have x4 : f4.eval (.tmp 4) = .bool false := new2
  have lt_m2 := Ob.lt m2
  replace m2 := Ob.below m2 hb
  have lt_m3 := Ob.lt m3
  replace m3 := Ob.below m3 hb
  replace bl := (bl.trans (Below.mono hb bl.size))
  replace sz := sz2.trans sz
  replace df := df2.trans df
  clear df2 sz2 old2 new2 hb
  refine wpList_nil ?_
  show Code.wp _ _ _ _ _
  refine wp_seq ?_
  by_cases c1 : k = k2
  rotate_left
  · skip
    obtain rfl : r = false := by rw [hr]; exact decide_eq_false (fun h => c1 h.1)
    -- R1
    refine wp_all_seq [.eq (.pointer (some ⟨g2, 0, none⟩)), .eq (.int .i64 (k)), .eq (.pointer (some ⟨g3, 0, none⟩)), .eq (.int .i64 (k2)), .eq (.bool false), .eq (.bool false), .any, .any, .any, .any, .any, .eq (.bool false), .eq (.bool false), .any, .any, .any, .any, .any, .eq (.bool false), .eq (.bool false), .any, .any, .any, .any, .any, .eq (.bool false), .eq (.bool false)] (by kernel_rfl) (by kernel_rfl) (by rw [sz]; kernel_rfl) (by kernel_rfl) ⟨fun hw ac u K => ?_, fun hw ac u K => ?_, fun hw ac u K => ?_, fun hw ac u K => ?_, fun hw ac u K => ?_, fun hw ac u K => ?_, fun hw ac u K => ?_, fun hw ac u K => ?_, fun hw ac u K => ?_, fun hw ac u K => ?_, fun hw ac u K => ?_, fun hw ac u K => ?_, fun hw ac u K => ?_, fun hw ac u K => ?_, fun hw ac u K => ?_, fun hw ac u K => ?_, fun hw ac u K => ?_, fun hw ac u K => ?_, fun hw ac u K => ?_, fun hw ac u K => ?_, fun hw ac u K => ?_, fun hw ac u K => ?_, fun hw ac u K => ?_, fun hw ac u K => ?_, fun hw ac u K => ?_, fun hw ac u K => ?_, fun hw ac u K => ?_, trivial⟩ ?_
    · exact st_field 38 0 (.tmp 2) rfl ((K.old 2 rfl).trans x2) (by kernel_rfl)
    · exact st_loadc 3 (.tmp 5) rfl (by kernel_rfl) (K.dep 0 5 rfl) (Ob.cell (Ob.below m2 K.grow) 0 rfl)
    · exact st_field 38 0 (.tmp 3) rfl ((K.old 3 rfl).trans x3) (by kernel_rfl)
    · exact st_loadc 3 (.tmp 7) rfl (by kernel_rfl) (K.dep 2 7 rfl) (Ob.cell (Ob.below m3 K.grow) 0 rfl)
    · exact st_eqi 3 (.tmp 6) (.tmp 8) rfl .i64 ((k)) ((k2)) (K.dep 1 6 rfl) (K.dep 3 8 rfl) _ (by simp [c1])
    · exact st_move (.tmp 9) rfl (K.dep 4 9 rfl)
    · exact (Bool.false_ne_true hw).elim
    · exact (Bool.false_ne_true hw).elim
    · exact (Bool.false_ne_true hw).elim
    · exact (Bool.false_ne_true hw).elim
    · exact (Bool.false_ne_true hw).elim
    · exact st_pick_f' (.tmp 10) (.tmp 15) (.const (.bool false)) rfl (K.dep 5 10 rfl) rfl
    · exact st_move (.tmp 16) rfl (K.dep 11 16 rfl)
    · exact (Bool.false_ne_true hw).elim
    · exact (Bool.false_ne_true hw).elim
    · exact (Bool.false_ne_true hw).elim
    · exact (Bool.false_ne_true hw).elim
    · exact (Bool.false_ne_true hw).elim
    · exact st_pick_f' (.tmp 17) (.tmp 22) (.const (.bool false)) rfl (K.dep 12 17 rfl) rfl
    · exact st_move (.tmp 23) rfl (K.dep 18 23 rfl)
    · exact (Bool.false_ne_true hw).elim
    · exact (Bool.false_ne_true hw).elim
    · exact (Bool.false_ne_true hw).elim
    · exact (Bool.false_ne_true hw).elim
    · exact (Bool.false_ne_true hw).elim
    · exact st_pick_f' (.tmp 24) (.tmp 29) (.const (.bool false)) rfl (K.dep 19 24 rfl) rfl
    · exact st_assign (.tmp 30) rfl (K.dep 25 30 rfl)
    intro f5 w5 A hb
    replace bl0 := bl
    replace x2 := (A.old 2 rfl).trans x2
    replace x3 := (A.old 3 rfl).trans x3
    clear x4
    have x4 : f5.eval (.tmp 4) = .bool false := A.has 26 4 rfl
    have lt_m2 := Ob.lt m2
    replace m2 := Ob.below m2 hb
    have lt_m3 := Ob.lt m3
    replace m3 := Ob.below m3 hb
    replace bl := (bl.trans (Below.mono hb bl.size))
    replace sz := A.size.trans sz
    replace df := A.defs.trans df
    clear A hb
    clear x2
    clear x3
    show Code.wp _ _ _ _ _
    refine wp_ret ?_
    repeat (first | with_reducible refine then_ret ?_ | with_reducible refine block_ret ?_)
    exact bodyPost_ret (v := .bool false) (ret_slot rfl f5 _ x4 _ _) df ⟨rfl, bl⟩
  by_cases c2 : i = i2
  rotate_left
  · skip
    obtain rfl : r = false := by rw [hr]; exact decide_eq_false (fun h => c2 h.2.1)
    -- R1
    refine wp_all_seq [.eq (.pointer (some ⟨g2, 0, none⟩)), .eq (.int .i64 (k)), .eq (.pointer (some ⟨g3, 0, none⟩)), .eq (.int .i64 (k2)), .eq (.bool true), .eq (.bool true), .eq (.pointer (some ⟨g2, 1, none⟩)), .eq (.int .i64 (i)), .eq (.pointer (some ⟨g3, 1, none⟩)), .eq (.int .i64 (i2)), .eq (.bool false), .eq (.bool false), .eq (.bool false), .any, .any, .any, .any, .any, .eq (.bool false), .eq (.bool false), .any, .any, .any, .any, .any, .eq (.bool false), .eq (.bool false)] (by kernel_rfl) (by kernel_rfl) (by rw [sz]; kernel_rfl) (by kernel_rfl) ⟨fun hw ac u K => ?_, fun hw ac u K => ?_, fun hw ac u K => ?_, fun hw ac u K => ?_, fun hw ac u K => ?_, fun hw ac u K => ?_, fun hw ac u K => ?_, fun hw ac u K => ?_, fun hw ac u K => ?_, fun hw ac u K => ?_, fun hw ac u K => ?_, fun hw ac u K => ?_, fun hw ac u K => ?_, fun hw ac u K => ?_, fun hw ac u K => ?_, fun hw ac u K => ?_, fun hw ac u K => ?_, fun hw ac u K => ?_, fun hw ac u K => ?_, fun hw ac u K => ?_, fun hw ac u K => ?_, fun hw ac u K => ?_, fun hw ac u K => ?_, fun hw ac u K => ?_, fun hw ac u K => ?_, fun hw ac u K => ?_, fun hw ac u K => ?_, trivial⟩ ?_
    · exact st_field 38 0 (.tmp 2) rfl ((K.old 2 rfl).trans x2) (by kernel_rfl)
    · exact st_loadc 3 (.tmp 5) rfl (by kernel_rfl) (K.dep 0 5 rfl) (Ob.cell (Ob.below m2 K.grow) 0 rfl)
    · exact st_field 38 0 (.tmp 3) rfl ((K.old 3 rfl).trans x3) (by kernel_rfl)
    · exact st_loadc 3 (.tmp 7) rfl (by kernel_rfl) (K.dep 2 7 rfl) (Ob.cell (Ob.below m3 K.grow) 0 rfl)
    · exact st_eqi 3 (.tmp 6) (.tmp 8) rfl .i64 ((k)) ((k2)) (K.dep 1 6 rfl) (K.dep 3 8 rfl) _ (by simp [c1])
    · exact st_move (.tmp 9) rfl (K.dep 4 9 rfl)
    · exact st_field 38 1 (.tmp 2) rfl ((K.old 2 rfl).trans x2) (by kernel_rfl)
    · exact st_loadc 3 (.tmp 11) rfl (by kernel_rfl) (K.dep 6 11 rfl) (Ob.cell (Ob.below m2 K.grow) 1 rfl)
    · exact st_field 38 1 (.tmp 3) rfl ((K.old 3 rfl).trans x3) (by kernel_rfl)
    · exact st_loadc 3 (.tmp 13) rfl (by kernel_rfl) (K.dep 8 13 rfl) (Ob.cell (Ob.below m3 K.grow) 1 rfl)
    · exact st_eqi 3 (.tmp 12) (.tmp 14) rfl .i64 ((i)) ((i2)) (K.dep 7 12 rfl) (K.dep 9 14 rfl) _ (by simp [c2])
    · exact st_pick_t (.tmp 10) (.tmp 15) (.const (.bool false)) rfl (K.dep 5 10 rfl) (K.dep 10 15 rfl)
    · exact st_move (.tmp 16) rfl (K.dep 11 16 rfl)
    · exact (Bool.false_ne_true hw).elim
    · exact (Bool.false_ne_true hw).elim
    · exact (Bool.false_ne_true hw).elim
    · exact (Bool.false_ne_true hw).elim
    · exact (Bool.false_ne_true hw).elim
    · exact st_pick_f' (.tmp 17) (.tmp 22) (.const (.bool false)) rfl (K.dep 12 17 rfl) rfl
    · exact st_move (.tmp 23) rfl (K.dep 18 23 rfl)
    · exact (Bool.false_ne_true hw).elim
    · exact (Bool.false_ne_true hw).elim
    · exact (Bool.false_ne_true hw).elim
    · exact (Bool.false_ne_true hw).elim
    · exact (Bool.false_ne_true hw).elim
    · exact st_pick_f' (.tmp 24) (.tmp 29) (.const (.bool false)) rfl (K.dep 19 24 rfl) rfl
    · exact st_assign (.tmp 30) rfl (K.dep 25 30 rfl)
    intro f5 w5 A hb
    replace bl0 := bl
    replace x2 := (A.old 2 rfl).trans x2
    replace x3 := (A.old 3 rfl).trans x3
    clear x4
    have x4 : f5.eval (.tmp 4) = .bool false := A.has 26 4 rfl
    have lt_m2 := Ob.lt m2
    replace m2 := Ob.below m2 hb
    have lt_m3 := Ob.lt m3
    replace m3 := Ob.below m3 hb
    replace bl := (bl.trans (Below.mono hb bl.size))
    replace sz := A.size.trans sz
    replace df := A.defs.trans df
    clear A hb
    clear x2
    clear x3
    show Code.wp _ _ _ _ _
    refine wp_ret ?_
    repeat (first | with_reducible refine then_ret ?_ | with_reducible refine block_ret ?_)
    exact bodyPost_ret (v := .bool false) (ret_slot rfl f5 _ x4 _ _) df ⟨rfl, bl⟩
  by_cases c3 : S = S2
  rotate_left
  · skip
    obtain rfl : r = false := by rw [hr]; exact decide_eq_false (fun h => c3 h.2.2.1)
    -- R1
    refine wp_all_seq [.eq (.pointer (some ⟨g2, 0, none⟩)), .eq (.int .i64 (k)), .eq (.pointer (some ⟨g3, 0, none⟩)), .eq (.int .i64 (k2)), .eq (.bool true), .eq (.bool true), .eq (.pointer (some ⟨g2, 1, none⟩)), .eq (.int .i64 (i)), .eq (.pointer (some ⟨g3, 1, none⟩)), .eq (.int .i64 (i2)), .eq (.bool true), .eq (.bool true), .eq (.bool true), .eq (.pointer (some ⟨g2, 2, none⟩)), .eq (.slice sA (S).length sC), .eq (.pointer (some ⟨g3, 2, none⟩)), .eq (.slice tA (S2).length tC), .eq (.bool false), .eq (.bool false), .eq (.bool false), .any, .any, .any, .any, .any, .eq (.bool false), .eq (.bool false)] (by kernel_rfl) (by kernel_rfl) (by rw [sz]; kernel_rfl) (by kernel_rfl) ⟨fun hw ac u K => ?_, fun hw ac u K => ?_, fun hw ac u K => ?_, fun hw ac u K => ?_, fun hw ac u K => ?_, fun hw ac u K => ?_, fun hw ac u K => ?_, fun hw ac u K => ?_, fun hw ac u K => ?_, fun hw ac u K => ?_, fun hw ac u K => ?_, fun hw ac u K => ?_, fun hw ac u K => ?_, fun hw ac u K => ?_, fun hw ac u K => ?_, fun hw ac u K => ?_, fun hw ac u K => ?_, fun hw ac u K => ?_, fun hw ac u K => ?_, fun hw ac u K => ?_, fun hw ac u K => ?_, fun hw ac u K => ?_, fun hw ac u K => ?_, fun hw ac u K => ?_, fun hw ac u K => ?_, fun hw ac u K => ?_, fun hw ac u K => ?_, trivial⟩ ?_
    · exact st_field 38 0 (.tmp 2) rfl ((K.old 2 rfl).trans x2) (by kernel_rfl)
    · exact st_loadc 3 (.tmp 5) rfl (by kernel_rfl) (K.dep 0 5 rfl) (Ob.cell (Ob.below m2 K.grow) 0 rfl)
    · exact st_field 38 0 (.tmp 3) rfl ((K.old 3 rfl).trans x3) (by kernel_rfl)
    · exact st_loadc 3 (.tmp 7) rfl (by kernel_rfl) (K.dep 2 7 rfl) (Ob.cell (Ob.below m3 K.grow) 0 rfl)
    · exact st_eqi 3 (.tmp 6) (.tmp 8) rfl .i64 ((k)) ((k2)) (K.dep 1 6 rfl) (K.dep 3 8 rfl) _ (by simp [c1])
    · exact st_move (.tmp 9) rfl (K.dep 4 9 rfl)
    · exact st_field 38 1 (.tmp 2) rfl ((K.old 2 rfl).trans x2) (by kernel_rfl)
    · exact st_loadc 3 (.tmp 11) rfl (by kernel_rfl) (K.dep 6 11 rfl) (Ob.cell (Ob.below m2 K.grow) 1 rfl)
    · exact st_field 38 1 (.tmp 3) rfl ((K.old 3 rfl).trans x3) (by kernel_rfl)
    · exact st_loadc 3 (.tmp 13) rfl (by kernel_rfl) (K.dep 8 13 rfl) (Ob.cell (Ob.below m3 K.grow) 1 rfl)
    · exact st_eqi 3 (.tmp 12) (.tmp 14) rfl .i64 ((i)) ((i2)) (K.dep 7 12 rfl) (K.dep 9 14 rfl) _ (by simp [c2])
    · exact st_pick_t (.tmp 10) (.tmp 15) (.const (.bool false)) rfl (K.dep 5 10 rfl) (K.dep 10 15 rfl)
    · exact st_move (.tmp 16) rfl (K.dep 11 16 rfl)
    · exact st_field 38 2 (.tmp 2) rfl ((K.old 2 rfl).trans x2) (by kernel_rfl)
    · exact st_loadc 32 (.tmp 18) rfl (by kernel_rfl) (K.dep 13 18 rfl) (Ob.cell (Ob.below m2 K.grow) 2 rfl)
    · exact st_field 38 2 (.tmp 3) rfl ((K.old 3 rfl).trans x3) (by kernel_rfl)
    · exact st_loadc 32 (.tmp 20) rfl (by kernel_rfl) (K.dep 15 20 rfl) (Ob.cell (Ob.below m3 K.grow) 2 rfl)
    · exact st_call 58 (.func 58) _ _ #[.slice sA (S).length sC, .slice tA (S2).length tC] rfl rfl (arg2 (K.dep 14 19 rfl) (K.dep 16 21 rfl)) Tryd.enter58 (fk_of (eqs_any hSl _ (Fk.mono _ _ _ _ vS (bl.trans (Below.mono K.grow bl.size))) (Fk.mono _ _ _ _ vS2 (bl.trans (Below.mono K.grow bl.size))) false (by simp [c3])))
    · exact st_pick_t (.tmp 17) (.tmp 22) (.const (.bool false)) rfl (K.dep 12 17 rfl) (K.dep 17 22 rfl)
    · exact st_move (.tmp 23) rfl (K.dep 18 23 rfl)
    · exact (Bool.false_ne_true hw).elim
    · exact (Bool.false_ne_true hw).elim
    · exact (Bool.false_ne_true hw).elim
    · exact (Bool.false_ne_true hw).elim
    · exact (Bool.false_ne_true hw).elim
    · exact st_pick_f' (.tmp 24) (.tmp 29) (.const (.bool false)) rfl (K.dep 19 24 rfl) rfl
    · exact st_assign (.tmp 30) rfl (K.dep 25 30 rfl)
    intro f5 w5 A hb
    replace bl0 := bl
    replace x2 := (A.old 2 rfl).trans x2
    replace x3 := (A.old 3 rfl).trans x3
    clear x4
    have x4 : f5.eval (.tmp 4) = .bool false := A.has 26 4 rfl
    have lt_m2 := Ob.lt m2
    replace m2 := Ob.below m2 hb
    have lt_m3 := Ob.lt m3
    replace m3 := Ob.below m3 hb
    replace bl := (bl.trans (Below.mono hb bl.size))
    replace sz := A.size.trans sz
    replace df := A.defs.trans df
    clear A hb
    clear x2
    clear x3
    show Code.wp _ _ _ _ _
    refine wp_ret ?_
    repeat (first | with_reducible refine then_ret ?_ | with_reducible refine block_ret ?_)
    exact bodyPost_ret (v := .bool false) (ret_slot rfl f5 _ x4 _ _) df ⟨rfl, bl⟩
  by_cases c4 : P = P2
  rotate_left
  · skip
    obtain rfl : r = false := by rw [hr]; exact decide_eq_false (fun h => c4 h.2.2.2)
    -- R1
    refine wp_all_seq [.eq (.pointer (some ⟨g2, 0, none⟩)), .eq (.int .i64 (k)), .eq (.pointer (some ⟨g3, 0, none⟩)), .eq (.int .i64 (k2)), .eq (.bool true), .eq (.bool true), .eq (.pointer (some ⟨g2, 1, none⟩)), .eq (.int .i64 (i)), .eq (.pointer (some ⟨g3, 1, none⟩)), .eq (.int .i64 (i2)), .eq (.bool true), .eq (.bool true), .eq (.bool true), .eq (.pointer (some ⟨g2, 2, none⟩)), .eq (.slice sA (S).length sC), .eq (.pointer (some ⟨g3, 2, none⟩)), .eq (.slice tA (S2).length tC), .eq (.bool true), .eq (.bool true), .eq (.bool true), .eq (.pointer (some ⟨g2, 3, none⟩)), .eq (.slice pA (P).length pC), .eq (.pointer (some ⟨g3, 3, none⟩)), .eq (.slice qA (P2).length qC), .eq (.bool false), .eq (.bool false), .eq (.bool false)] (by kernel_rfl) (by kernel_rfl) (by rw [sz]; kernel_rfl) (by kernel_rfl) ⟨fun hw ac u K => ?_, fun hw ac u K => ?_, fun hw ac u K => ?_, fun hw ac u K => ?_, fun hw ac u K => ?_, fun hw ac u K => ?_, fun hw ac u K => ?_, fun hw ac u K => ?_, fun hw ac u K => ?_, fun hw ac u K => ?_, fun hw ac u K => ?_, fun hw ac u K => ?_, fun hw ac u K => ?_, fun hw ac u K => ?_, fun hw ac u K => ?_, fun hw ac u K => ?_, fun hw ac u K => ?_, fun hw ac u K => ?_, fun hw ac u K => ?_, fun hw ac u K => ?_, fun hw ac u K => ?_, fun hw ac u K => ?_, fun hw ac u K => ?_, fun hw ac u K => ?_, fun hw ac u K => ?_, fun hw ac u K => ?_, fun hw ac u K => ?_, trivial⟩ ?_
    · exact st_field 38 0 (.tmp 2) rfl ((K.old 2 rfl).trans x2) (by kernel_rfl)
    · exact st_loadc 3 (.tmp 5) rfl (by kernel_rfl) (K.dep 0 5 rfl) (Ob.cell (Ob.below m2 K.grow) 0 rfl)
    · exact st_field 38 0 (.tmp 3) rfl ((K.old 3 rfl).trans x3) (by kernel_rfl)
    · exact st_loadc 3 (.tmp 7) rfl (by kernel_rfl) (K.dep 2 7 rfl) (Ob.cell (Ob.below m3 K.grow) 0 rfl)
    · exact st_eqi 3 (.tmp 6) (.tmp 8) rfl .i64 ((k)) ((k2)) (K.dep 1 6 rfl) (K.dep 3 8 rfl) _ (by simp [c1])
    · exact st_move (.tmp 9) rfl (K.dep 4 9 rfl)
    · exact st_field 38 1 (.tmp 2) rfl ((K.old 2 rfl).trans x2) (by kernel_rfl)
    · exact st_loadc 3 (.tmp 11) rfl (by kernel_rfl) (K.dep 6 11 rfl) (Ob.cell (Ob.below m2 K.grow) 1 rfl)
    · exact st_field 38 1 (.tmp 3) rfl ((K.old 3 rfl).trans x3) (by kernel_rfl)
    · exact st_loadc 3 (.tmp 13) rfl (by kernel_rfl) (K.dep 8 13 rfl) (Ob.cell (Ob.below m3 K.grow) 1 rfl)
    · exact st_eqi 3 (.tmp 12) (.tmp 14) rfl .i64 ((i)) ((i2)) (K.dep 7 12 rfl) (K.dep 9 14 rfl) _ (by simp [c2])
    · exact st_pick_t (.tmp 10) (.tmp 15) (.const (.bool false)) rfl (K.dep 5 10 rfl) (K.dep 10 15 rfl)
    · exact st_move (.tmp 16) rfl (K.dep 11 16 rfl)
    · exact st_field 38 2 (.tmp 2) rfl ((K.old 2 rfl).trans x2) (by kernel_rfl)
    · exact st_loadc 32 (.tmp 18) rfl (by kernel_rfl) (K.dep 13 18 rfl) (Ob.cell (Ob.below m2 K.grow) 2 rfl)
    · exact st_field 38 2 (.tmp 3) rfl ((K.old 3 rfl).trans x3) (by kernel_rfl)
    · exact st_loadc 32 (.tmp 20) rfl (by kernel_rfl) (K.dep 15 20 rfl) (Ob.cell (Ob.below m3 K.grow) 2 rfl)
    · exact st_call 58 (.func 58) _ _ #[.slice sA (S).length sC, .slice tA (S2).length tC] rfl rfl (arg2 (K.dep 14 19 rfl) (K.dep 16 21 rfl)) Tryd.enter58 (fk_of (eqs_any hSl _ (Fk.mono _ _ _ _ vS (bl.trans (Below.mono K.grow bl.size))) (Fk.mono _ _ _ _ vS2 (bl.trans (Below.mono K.grow bl.size))) true (by simp [c3])))
    · exact st_pick_t (.tmp 17) (.tmp 22) (.const (.bool false)) rfl (K.dep 12 17 rfl) (K.dep 17 22 rfl)
    · exact st_move (.tmp 23) rfl (K.dep 18 23 rfl)
    · exact st_field 38 3 (.tmp 2) rfl ((K.old 2 rfl).trans x2) (by kernel_rfl)
    · exact st_loadc 32 (.tmp 25) rfl (by kernel_rfl) (K.dep 20 25 rfl) (Ob.cell (Ob.below m2 K.grow) 3 rfl)
    · exact st_field 38 3 (.tmp 3) rfl ((K.old 3 rfl).trans x3) (by kernel_rfl)
    · exact st_loadc 32 (.tmp 27) rfl (by kernel_rfl) (K.dep 22 27 rfl) (Ob.cell (Ob.below m3 K.grow) 3 rfl)
    · exact st_call 58 (.func 58) _ _ #[.slice pA (P).length pC, .slice qA (P2).length qC] rfl rfl (arg2 (K.dep 21 26 rfl) (K.dep 23 28 rfl)) Tryd.enter58 (fk_of (eqs_any hPl _ (Fk.mono _ _ _ _ vP (bl.trans (Below.mono K.grow bl.size))) (Fk.mono _ _ _ _ vP2 (bl.trans (Below.mono K.grow bl.size))) false (by simp [c4])))
    · exact st_pick_t (.tmp 24) (.tmp 29) (.const (.bool false)) rfl (K.dep 19 24 rfl) (K.dep 24 29 rfl)
    · exact st_assign (.tmp 30) rfl (K.dep 25 30 rfl)
    intro f5 w5 A hb
    replace bl0 := bl
    replace x2 := (A.old 2 rfl).trans x2
    replace x3 := (A.old 3 rfl).trans x3
    clear x4
    have x4 : f5.eval (.tmp 4) = .bool false := A.has 26 4 rfl
    have lt_m2 := Ob.lt m2
    replace m2 := Ob.below m2 hb
    have lt_m3 := Ob.lt m3
    replace m3 := Ob.below m3 hb
    replace bl := (bl.trans (Below.mono hb bl.size))
    replace sz := A.size.trans sz
    replace df := A.defs.trans df
    clear A hb
    clear x2
    clear x3
    show Code.wp _ _ _ _ _
    refine wp_ret ?_
    repeat (first | with_reducible refine then_ret ?_ | with_reducible refine block_ret ?_)
    exact bodyPost_ret (v := .bool false) (ret_slot rfl f5 _ x4 _ _) df ⟨rfl, bl⟩
  obtain rfl : r = true := by rw [hr]; exact decide_eq_true ⟨c1, c2, c3, c4⟩
  -- R1
  refine wp_all_seq [.eq (.pointer (some ⟨g2, 0, none⟩)), .eq (.int .i64 (k)), .eq (.pointer (some ⟨g3, 0, none⟩)), .eq (.int .i64 (k2)), .eq (.bool true), .eq (.bool true), .eq (.pointer (some ⟨g2, 1, none⟩)), .eq (.int .i64 (i)), .eq (.pointer (some ⟨g3, 1, none⟩)), .eq (.int .i64 (i2)), .eq (.bool true), .eq (.bool true), .eq (.bool true), .eq (.pointer (some ⟨g2, 2, none⟩)), .eq (.slice sA (S).length sC), .eq (.pointer (some ⟨g3, 2, none⟩)), .eq (.slice tA (S2).length tC), .eq (.bool true), .eq (.bool true), .eq (.bool true), .eq (.pointer (some ⟨g2, 3, none⟩)), .eq (.slice pA (P).length pC), .eq (.pointer (some ⟨g3, 3, none⟩)), .eq (.slice qA (P2).length qC), .eq (.bool true), .eq (.bool true), .eq (.bool true)] (by kernel_rfl) (by kernel_rfl) (by rw [sz]; kernel_rfl) (by kernel_rfl) ⟨fun hw ac u K => ?_, fun hw ac u K => ?_, fun hw ac u K => ?_, fun hw ac u K => ?_, fun hw ac u K => ?_, fun hw ac u K => ?_, fun hw ac u K => ?_, fun hw ac u K => ?_, fun hw ac u K => ?_, fun hw ac u K => ?_, fun hw ac u K => ?_, fun hw ac u K => ?_, fun hw ac u K => ?_, fun hw ac u K => ?_, fun hw ac u K => ?_, fun hw ac u K => ?_, fun hw ac u K => ?_, fun hw ac u K => ?_, fun hw ac u K => ?_, fun hw ac u K => ?_, fun hw ac u K => ?_, fun hw ac u K => ?_, fun hw ac u K => ?_, fun hw ac u K => ?_, fun hw ac u K => ?_, fun hw ac u K => ?_, fun hw ac u K => ?_, trivial⟩ ?_
  · exact st_field 38 0 (.tmp 2) rfl ((K.old 2 rfl).trans x2) (by kernel_rfl)
  · exact st_loadc 3 (.tmp 5) rfl (by kernel_rfl) (K.dep 0 5 rfl) (Ob.cell (Ob.below m2 K.grow) 0 rfl)
  · exact st_field 38 0 (.tmp 3) rfl ((K.old 3 rfl).trans x3) (by kernel_rfl)
  · exact st_loadc 3 (.tmp 7) rfl (by kernel_rfl) (K.dep 2 7 rfl) (Ob.cell (Ob.below m3 K.grow) 0 rfl)
  · exact st_eqi 3 (.tmp 6) (.tmp 8) rfl .i64 ((k)) ((k2)) (K.dep 1 6 rfl) (K.dep 3 8 rfl) _ (by simp [c1])
  · exact st_move (.tmp 9) rfl (K.dep 4 9 rfl)
  · exact st_field 38 1 (.tmp 2) rfl ((K.old 2 rfl).trans x2) (by kernel_rfl)
  · exact st_loadc 3 (.tmp 11) rfl (by kernel_rfl) (K.dep 6 11 rfl) (Ob.cell (Ob.below m2 K.grow) 1 rfl)
  · exact st_field 38 1 (.tmp 3) rfl ((K.old 3 rfl).trans x3) (by kernel_rfl)
  · exact st_loadc 3 (.tmp 13) rfl (by kernel_rfl) (K.dep 8 13 rfl) (Ob.cell (Ob.below m3 K.grow) 1 rfl)
  · exact st_eqi 3 (.tmp 12) (.tmp 14) rfl .i64 ((i)) ((i2)) (K.dep 7 12 rfl) (K.dep 9 14 rfl) _ (by simp [c2])
  · exact st_pick_t (.tmp 10) (.tmp 15) (.const (.bool false)) rfl (K.dep 5 10 rfl) (K.dep 10 15 rfl)
  · exact st_move (.tmp 16) rfl (K.dep 11 16 rfl)
  · exact st_field 38 2 (.tmp 2) rfl ((K.old 2 rfl).trans x2) (by kernel_rfl)
  · exact st_loadc 32 (.tmp 18) rfl (by kernel_rfl) (K.dep 13 18 rfl) (Ob.cell (Ob.below m2 K.grow) 2 rfl)
  · exact st_field 38 2 (.tmp 3) rfl ((K.old 3 rfl).trans x3) (by kernel_rfl)
  · exact st_loadc 32 (.tmp 20) rfl (by kernel_rfl) (K.dep 15 20 rfl) (Ob.cell (Ob.below m3 K.grow) 2 rfl)
  · exact st_call 58 (.func 58) _ _ #[.slice sA (S).length sC, .slice tA (S2).length tC] rfl rfl (arg2 (K.dep 14 19 rfl) (K.dep 16 21 rfl)) Tryd.enter58 (fk_of (eqs_any hSl _ (Fk.mono _ _ _ _ vS (bl.trans (Below.mono K.grow bl.size))) (Fk.mono _ _ _ _ vS2 (bl.trans (Below.mono K.grow bl.size))) true (by simp [c3])))
  · exact st_pick_t (.tmp 17) (.tmp 22) (.const (.bool false)) rfl (K.dep 12 17 rfl) (K.dep 17 22 rfl)
  · exact st_move (.tmp 23) rfl (K.dep 18 23 rfl)
  · exact st_field 38 3 (.tmp 2) rfl ((K.old 2 rfl).trans x2) (by kernel_rfl)
  · exact st_loadc 32 (.tmp 25) rfl (by kernel_rfl) (K.dep 20 25 rfl) (Ob.cell (Ob.below m2 K.grow) 3 rfl)
  · exact st_field 38 3 (.tmp 3) rfl ((K.old 3 rfl).trans x3) (by kernel_rfl)
  · exact st_loadc 32 (.tmp 27) rfl (by kernel_rfl) (K.dep 22 27 rfl) (Ob.cell (Ob.below m3 K.grow) 3 rfl)
  · exact st_call 58 (.func 58) _ _ #[.slice pA (P).length pC, .slice qA (P2).length qC] rfl rfl (arg2 (K.dep 21 26 rfl) (K.dep 23 28 rfl)) Tryd.enter58 (fk_of (eqs_any hPl _ (Fk.mono _ _ _ _ vP (bl.trans (Below.mono K.grow bl.size))) (Fk.mono _ _ _ _ vP2 (bl.trans (Below.mono K.grow bl.size))) true (by simp [c4])))
  · exact st_pick_t (.tmp 24) (.tmp 29) (.const (.bool false)) rfl (K.dep 19 24 rfl) (K.dep 24 29 rfl)
  · exact st_assign (.tmp 30) rfl (K.dep 25 30 rfl)
  intro f5 w5 A hb
  replace bl0 := bl
  replace x2 := (A.old 2 rfl).trans x2
  replace x3 := (A.old 3 rfl).trans x3
  clear x4
  have x4 : f5.eval (.tmp 4) = .bool true := A.has 26 4 rfl
  have lt_m2 := Ob.lt m2
  replace m2 := Ob.below m2 hb
  have lt_m3 := Ob.lt m3
  replace m3 := Ob.below m3 hb
  replace bl := (bl.trans (Below.mono hb bl.size))
  replace sz := A.size.trans sz
  replace df := A.defs.trans df
  clear A hb
  clear x2
  clear x3
  show Code.wp _ _ _ _ _
  refine wp_ret ?_
  repeat (first | with_reducible refine then_ret ?_ | with_reducible refine block_ret ?_)
  exact bodyPost_ret (v := .bool true) (ret_slot rfl f5 _ x4 _ _) df ⟨rfl, bl⟩
end Go.Proofs.YtnanipeapjpkfaaDoor
namespace Go.Proofs.YtnanipeapjpkfaaDoor
set_option maxRecDepth 100000
open Go.RowKit
/-- A slice that has these hashes, and room for them. -/
def Fk.hc (hs : List (List (BitVec 8))) : Fk := .inr (.inl ⟨fun v w => ∃ A C lb lo, v = .slice A hs.length C ∧ hs.length ≤ C ∧ Hl w A lb lo hs, by
  rintro v w w' ⟨A, C, lb, lo, e, hg, h⟩ hb
  exact ⟨A, C, lb, lo, e, hg, h.below hb⟩⟩)
theorem hc_hs {hs : List (List (BitVec 8))} {v : Value} {w : World} (h : (Fk.hc hs).f v w) : (Fk.hs hs).f v w := by
  obtain ⟨A, C, lb, lo, e, _, hl⟩ := h
  exact ⟨A, C, lb, lo, e, hl⟩
theorem ow_hc {base : Nat} {hs : List (List (BitVec 8))} {v : Value} {w : World} (h : (Fk.ow base hs).f v w) : (Fk.hc hs).f v w := by
  obtain ⟨A, C, lb, lo, e, hl⟩ := ow_hs h
  refine ⟨A, C, lb, lo, e, ?_, hl⟩
  obtain ⟨⟨h1, h2⟩, h3⟩ := h
  rcases h2 with ⟨h4, hn⟩ | ⟨g, cap, cur, h4, hbg, hg, hnc, _⟩
  · rw [hn]; exact Nat.zero_le _
  · rw [e] at h4
    cases h4
    exact hnc
theorem ow_le {g0 g1 : Nat} (hg : g1 ≤ g0) {hs : List (List (BitVec 8))} {v : Value} {w : World} (h : (Fk.ow g0 hs).f v w) : (Fk.ow g1 hs).f v w := by
  obtain ⟨⟨h1, h2⟩, h3⟩ := h
  refine ⟨⟨h1, ?_⟩, h3⟩
  rcases h2 with h2 | ⟨g, cap, cur, e, hbg, r⟩
  · exact .inl h2
  · exact .inr ⟨g, cap, cur, e, Nat.le_trans hg hbg, r⟩
theorem fk_ow {f : FuncId} {args : Array Value} {w : World} {g0 : Nat} {S : List (List (BitVec 8))} (hg : g0 ≤ w.heap.size) (h : Calls Tryd.prog f args w fun e w' => ∃ u, e = .returned u ∧ (Fk.ow w.heap.size S).f u w' ∧ Below w.heap.size w w') :
    Calls Tryd.prog f args w fun e w' => ∃ u, e = .returned u ∧ (Fk.ow g0 S).f u w' ∧ Below w.heap.size w w' := by
  refine h.mono ?_
  rintro e w' ⟨u, rfl, h1, h3⟩
  exact ⟨u, rfl, ow_le hg h1, h3⟩
section
variable {Q : Exit → Act → World → Prop} {o : Oper} {a : Act} {w : World}
theorem st_cuth (x y : Operand) (ho : o.op = .slice 32 x none (some y) none) {hs : List (List (BitVec 8))} (h : (Fk.hc hs).f (a.eval x) w) (n : Nat) (hy : a.eval y = .int .i64 (n : Int)) (hn : n ≤ hs.length) : o.wp Tryd.prog a w (Ends a o.dst w (Fk.hc (hs.take n)).f) Q := by
  obtain ⟨A, C, lb, lo, e, hc, hl⟩ := h
  refine st_pure (v := sliced A 0 n C 32) ?_ ⟨if C = 0 then A else A.map (·.add (0 * 32)), C, lb, lo, ?_, ?_, fun hp => ?_, fun hp => ?_, fun i x hi => ?_⟩
  · have h1 := run_slice_h (P := Tryd.prog) (w := w) 32 A hs.length C (by rw [Tryd.elem32]; exact Tryd.under32') .i64 (n : Int) (by omega) (by omega)
    rw [Tryd.elem32, Tryd.sizeOf23] at h1
    simp only [Result.andThen_ok, Int.toNat_natCast] at h1
    have h2 := run_sliceAt_slice (P := Tryd.prog) (w := w) 32 (.slice A hs.length C) none (some (.int .i64 (n : Int))) none (by rw [Tryd.elem32]; exact Tryd.under32')
    unfold execOp
    rw [ho]
    simp [e, hy, h2, h1]
  · simp only [sliced, List.length_take, Nat.sub_zero, Nat.min_eq_left hn]
  · rw [List.length_take]; omega
  · rw [List.length_take] at hp
    rw [if_neg (by omega), hl.ptr (by omega)]
    simp [Addr.add_mid]
  · rw [List.length_take] at hp
    exact hl.lt (by omega)
  · rw [List.getElem?_take] at hi
    split at hi
    · exact hl.all i x hi
    · cases hi
theorem st_restc (x y : Operand) (ho : o.op = .slice 32 x (some y) none none) {hs : List (List (BitVec 8))} (h : (Fk.hc hs).f (a.eval x) w) (n : Nat) (hy : a.eval y = .int .i64 (n : Int)) (hn : n ≤ hs.length) : o.wp Tryd.prog a w (Ends a o.dst w (Fk.hc (hs.drop n)).f) Q := by
  obtain ⟨A, C, lb, lo, e, hc, hl⟩ := h
  refine st_pure (v := sliced A n hs.length C 32) ?_ ⟨if C = n then A else A.map (·.add (n * 32)), C - n, lb, lo + n * 32, ?_, ?_, fun hp => ?_, fun hp => ?_, fun i x hi => ?_⟩
  · have h1 := run_slice_l (P := Tryd.prog) (w := w) 32 A hs.length C (by rw [Tryd.elem32]; exact Tryd.under32') .i64 (n : Int) (by omega) (by omega)
    rw [Tryd.elem32, Tryd.sizeOf23] at h1
    simp only [Result.andThen_ok, Int.toNat_natCast] at h1
    have h2 := run_sliceAt_slice (P := Tryd.prog) (w := w) 32 (.slice A hs.length C) (some (.int .i64 (n : Int))) none none (by rw [Tryd.elem32]; exact Tryd.under32')
    unfold execOp
    rw [ho]
    simp [e, hy, h2, h1]
  · simp only [sliced, List.length_drop]
  · rw [List.length_drop]; omega
  · rw [List.length_drop] at hp
    rw [if_neg (by omega), hl.ptr (by omega)]
    simp [Addr.add_mid]
  · rw [List.length_drop] at hp
    exact hl.lt (by omega)
  · rw [List.getElem?_drop] at hi
    have := hl.all (n + i) x hi
    rw [Nat.add_mul, ← Nat.add_assoc] at this
    exact this
theorem st_lenc (x : Operand) (ho : o.op = .call { callee := .builtin .len, args := #[x], argTypes := #[32] }) {hs : List (List (BitVec 8))} (n : Nat) (hn : hs.length = n) (h : (Fk.hc hs).f (a.eval x) w) : o.wp Tryd.prog a w (Ends a o.dst w (Fk.eq (.int .i64 ((n : Nat) : Int))).f) Q := by
  subst hn
  exact st_lenh x ho (hc_hs h)
theorem st_half (x y : Operand) (ho : o.op = .binOp .quo 3 x y 3) (m e : Nat) (he : e = m / 2) (hm : m ≤ 1000000) (hx : a.eval x = .int .i64 (m : Int)) (hy : a.eval y = .int .i64 2) : o.wp Tryd.prog a w (Ends a o.dst w (Fk.eq (.int .i64 ((e : Nat) : Int))).f) Q := by
  subst he
  refine st_bin .quo 3 3 x y ho hx hy ?_
  have h1 : Int.tdiv (m : Int) 2 = ((m / 2 : Nat) : Int) := by
    rw [Int.tdiv_eq_ediv_of_nonneg (by omega)]
    omega
  simp only [eqGuard, binOp, Op.intDiv]
  simp [h1]
  rw [IntKind.wrap_i64]
  omega
end
/-- The leaves from a on, 2^h of them. -/
def seg (L : Nat → List (BitVec 8)) (a h : Nat) : List (List (BitVec 8)) := (List.range (2 ^ h)).map fun i => L (a + i)
theorem seg_len (L : Nat → List (BitVec 8)) (a h : Nat) : (seg L a h).length = 2 ^ h := by simp [seg]
theorem seg_at (L : Nat → List (BitVec 8)) (a h : Nat) {i : Nat} (hi : i < 2 ^ h) : (seg L a h)[i]? = some (L (a + i)) := by simp [seg, hi]
theorem seg_firsts (L : Nat → List (BitVec 8)) (h : Nat) : firsts L (2 ^ h) = seg L 0 h := by simp [seg, firsts]
theorem seg_take (L : Nat → List (BitVec 8)) (a h : Nat) : (seg L a (h + 1)).take (2 ^ h) = seg L a h := by
  apply List.ext_getElem?
  intro i
  rw [List.getElem?_take]
  split
  · rename_i hi
    rw [seg_at L a h hi, seg_at L a (h + 1) (by rw [Nat.pow_succ]; omega)]
  · rename_i hi
    exact (List.getElem?_eq_none (by rw [seg_len]; omega)).symm
theorem seg_drop (L : Nat → List (BitVec 8)) (a h : Nat) : (seg L a (h + 1)).drop (2 ^ h) = seg L (a + 2 ^ h) h := by
  apply List.ext_getElem?
  intro i
  rw [List.getElem?_drop]
  by_cases hi : i < 2 ^ h
  · rw [seg_at L _ h hi, seg_at L a (h + 1) (by rw [Nat.pow_succ]; omega), Nat.add_assoc]
  · rw [List.getElem?_eq_none (by rw [seg_len, Nat.pow_succ]; omega), List.getElem?_eq_none (by rw [seg_len]; omega)]
section
variable {Q : Exit → Act → World → Prop} {o : Oper} {a : Act} {w : World}
theorem st_cutl (x y : Operand) (ho : o.op = .slice 32 x none (some y) none) {L : Nat → List (BitVec 8)} {a0 h : Nat} (h0 : (Fk.hc (seg L a0 (h + 1))).f (a.eval x) w) (n : Nat) (hn : 2 ^ h = n) (hy : a.eval y = .int .i64 (n : Int)) : o.wp Tryd.prog a w (Ends a o.dst w (Fk.hc (seg L a0 h)).f) Q := by
  subst hn
  rw [← seg_take L a0 h]
  exact st_cuth x y ho h0 _ hy (by rw [seg_len, Nat.pow_succ]; omega)
theorem st_cutr (x y : Operand) (ho : o.op = .slice 32 x (some y) none none) {L : Nat → List (BitVec 8)} {a0 h : Nat} (h0 : (Fk.hc (seg L a0 (h + 1))).f (a.eval x) w) (n : Nat) (hn : 2 ^ h = n) (hy : a.eval y = .int .i64 (n : Int)) : o.wp Tryd.prog a w (Ends a o.dst w (Fk.hc (seg L (a0 + 2 ^ h) h)).f) Q := by
  subst hn
  rw [← seg_drop L a0 h]
  exact st_restc x y ho h0 _ hy (by rw [seg_len, Nat.pow_succ]; omega)
end
/-- The path from a leaf up, by halves. -/
def pz (L : Nat → List (BitVec 8)) (a i : Nat) : Nat → List (List (BitVec 8))
  | 0 => []
  | h + 1 => if i < 2 ^ h then pz L a i h ++ [rt L (a + 2 ^ h) h] else pz L (a + 2 ^ h) (i - 2 ^ h) h ++ [rt L a h]
theorem pz_left (L : Nat → List (BitVec 8)) {a i h : Nat} (hi : i < 2 ^ h) : pz L a i (h + 1) = pz L a i h ++ [rt L (a + 2 ^ h) h] := if_pos hi
theorem pz_right (L : Nat → List (BitVec 8)) {a i h : Nat} (hi : ¬ i < 2 ^ h) : pz L a i (h + 1) = pz L (a + 2 ^ h) (i - 2 ^ h) h ++ [rt L a h] := if_neg hi
theorem pz_len (L : Nat → List (BitVec 8)) (h : Nat) : ∀ a i, (pz L a i h).length = h := by
  induction h with
  | zero => intro a i; rfl
  | succ h ih => intro a i; unfold pz; split <;> simp [ih]
theorem bes_lo : ∀ (h : Fin 3) (i : Fin 8), i.val < 2 ^ h.val → bes i.val h.val = 2 ^ h.val := by decide
theorem bes_hi : ∀ (h : Fin 3) (i : Fin 8), ¬ i.val < 2 ^ h.val → i.val < 2 ^ (h.val + 1) → bes i.val h.val = 0 := by decide
theorem bes_mid : ∀ (h : Fin 3) (l : Fin 3) (i : Fin 8), l.val < h.val → ¬ i.val < 2 ^ h.val → i.val < 2 ^ (h.val + 1) → bes i.val l.val = 2 ^ h.val + bes (i.val - 2 ^ h.val) l.val := by decide
theorem pow3 {h : Nat} (hh : h ≤ 3) : 2 ^ h ≤ 8 := by
  have := Nat.pow_le_pow_right (n := 2) (by decide) hh
  exact this
theorem pz_eq (L : Nat → List (BitVec 8)) (h : Nat) : h ≤ 3 → ∀ a i, i < 2 ^ h → pz L a i h = (List.range h).map fun l => rt L (a + bes i l) l := by
  induction h with
  | zero => intro _ a i _; rfl
  | succ h ih =>
    intro hh a i hi
    have h8 := pow3 hh
    rw [List.range_succ, List.map_append]
    by_cases hl : i < 2 ^ h
    · rw [pz_left L hl, ih (by omega) a i hl, List.map_cons, List.map_nil, bes_lo ⟨h, by omega⟩ ⟨i, by omega⟩ hl]
    · rw [pz_right L hl, ih (by omega) _ _ (by rw [Nat.pow_succ] at hi; omega), List.map_cons, List.map_nil, bes_hi ⟨h, by omega⟩ ⟨i, by omega⟩ hl hi]
      congr 1
      apply List.map_congr_left
      intro l hm
      have hlh := List.mem_range.1 hm
      rw [bes_mid ⟨h, by omega⟩ ⟨l, by omega⟩ ⟨i, by omega⟩ hlh hl hi, Nat.add_assoc]
theorem pz_firsts (L : Nat → List (BitVec 8)) {h i : Nat} (hh : h ≤ 3) (hi : i < 2 ^ h) : pz L 0 i h = firsts (pth L i) h := by
  rw [pz_eq L h hh 0 i hi]
  unfold firsts pth
  apply List.map_congr_left
  intro l _
  rw [Nat.zero_add]
theorem up_e : ∀ (i : Fin 8) (k : Fin 3), i.val / 2 ^ k.val % 2 = 0 → i.val / 2 ^ k.val * 2 ^ k.val = i.val / 2 ^ (k.val + 1) * 2 ^ (k.val + 1) ∧ bes i.val k.val = i.val / 2 ^ (k.val + 1) * 2 ^ (k.val + 1) + 2 ^ k.val := by decide
theorem up_o : ∀ (i : Fin 8) (k : Fin 3), ¬ i.val / 2 ^ k.val % 2 = 0 → i.val / 2 ^ k.val * 2 ^ k.val = i.val / 2 ^ (k.val + 1) * 2 ^ (k.val + 1) + 2 ^ k.val ∧ bes i.val k.val = i.val / 2 ^ (k.val + 1) * 2 ^ (k.val + 1) := by decide
theorem up_rt (L : Nat → List (BitVec 8)) {h i : Nat} (hh : h ≤ 3) (hi : i < 2 ^ h) (k : Nat) : k ≤ h → up i (firsts (pth L i) h) (L i) k = rt L (i / 2 ^ k * 2 ^ k) k := by
  have h8 := pow3 hh
  induction k with
  | zero => intro _; simp [up, rt]
  | succ k ih =>
    intro hk
    have hP : (firsts (pth L i) h).getD k [] = rt L (bes i k) k := by
      have : k < h := by omega
      simp [firsts, this, pth]
    by_cases hev : i / 2 ^ k % 2 = 0
    · obtain ⟨e1, e2⟩ := up_e ⟨i, by omega⟩ ⟨k, by omega⟩ hev
      simp only at e1 e2
      rw [up_even hev, ih (by omega), hP, e1, e2]
      rfl
    · obtain ⟨e1, e2⟩ := up_o ⟨i, by omega⟩ ⟨k, by omega⟩ hev
      simp only at e1 e2
      rw [up_odd hev, ih (by omega), hP, e1, e2]
      rfl
theorem up_root (L : Nat → List (BitVec 8)) {h i : Nat} (hh : h ≤ 3) (hi : i < 2 ^ h) : up i (firsts (pth L i) h) (L i) h = rt L 0 h := by
  rw [up_rt L hh hi h (Nat.le_refl _), Nat.div_eq_of_lt hi, Nat.zero_mul]
end Go.Proofs.YtnanipeapjpkfaaDoor
