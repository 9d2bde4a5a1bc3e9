/- The law's root. The law's roots and same. -/
import Derived.Test.YtfbfngblocfdlaaDoorM7
namespace Go.Proofs.YtfbfngblocfdlaaDoor
set_option maxRecDepth 100000
open Go.RowKit
theorem rops_mem (n : Nat) : ∀ a z, 1 ≤ n → z ∈ rops a n → (∃ i : Nat, z = (i : Int) ∧ i < a + n) ∨ z = -1 := by
  induction n using Nat.strongRecOn with
  | ind n ih =>
    intro a z h1 hz
    by_cases h2 : n = 1
    · subst h2
      rw [rops_one] at hz
      exact .inl ⟨a, List.mem_singleton.1 hz, by omega⟩
    · have hs := spl_lt (n := n) (by omega)
      have hp := spl_pos n
      rw [rops_two a (by omega), List.mem_append, List.mem_append] at hz
      rcases hz with hz | hz | hz
      · rcases ih (spl n) hs a z hp hz with ⟨i, e, hi⟩ | e
        · exact .inl ⟨i, e, by omega⟩
        · exact .inr e
      · rcases ih (n - spl n) (by omega) (a + spl n) z (by omega) hz with ⟨i, e, hi⟩ | e
        · exact .inl ⟨i, e, by omega⟩
        · exact .inr e
      · exact .inr (List.mem_singleton.1 hz)
/-- The stack behind k operations. -/
def stc (l : List (List (BitVec 8))) (k : Nat) : List (List (BitVec 8)) := ((rops 0 l.length).take k).foldl (stk l) []
theorem stc_zero (l : List (List (BitVec 8))) : stc l 0 = [] := rfl
theorem stc_succ (l : List (List (BitVec 8))) {k : Nat} {z : Int} (h : (rops 0 l.length)[k]? = some z) : stc l (k + 1) = stk l (stc l k) z := by
  unfold stc
  rw [List.take_add_one, h, List.foldl_append]
  rfl
theorem stk_len (l st : List (List (BitVec 8))) (z : Int) : (stk l st z).length ≤ st.length + 1 := by
  unfold stk
  split
  · simp
  · rw [List.length_append, List.length_take, List.length_singleton]; omega
theorem stc_len (l : List (List (BitVec 8))) (k : Nat) : (stc l k).length ≤ k := by
  induction k with
  | zero => exact Nat.le_refl _
  | succ k ih =>
    cases h : (rops 0 l.length)[k]? with
    | some z =>
      rw [stc_succ l h]
      have := stk_len l (stc l k) z
      omega
    | none =>
      have : stc l (k + 1) = stc l k := by
        unfold stc
        rw [List.take_add_one, h]
        simp
      rw [this]; omega
theorem stc_put (l : List (List (BitVec 8))) {k i : Nat} {x : List (BitVec 8)} (h : (rops 0 l.length)[k]? = some (i : Int)) (hx : l[i]? = some x) : stc l (k + 1) = stc l k ++ [x] := by
  rw [stc_succ l h, stk_put l _ hx]
theorem stc_two (l : List (List (BitVec 8))) (hn : 1 ≤ l.length) {k : Nat} (h : (rops 0 l.length)[k]? = some (-1)) : 2 ≤ (stc l k).length := by
  have := rops_deep l l.length 0 hn (by omega) [] k h
  unfold stc
  simpa using this
theorem stc_node (l : List (List (BitVec 8))) {k : Nat} (h : (rops 0 l.length)[k]? = some (-1)) {N : Nat} (hN : N + 2 = (stc l k).length) {x y : List (BitVec 8)} (hx : (stc l k)[N]? = some x) (hy : (stc l k)[N + 1]? = some y) : stc l (k + 1) = (stc l k).take N ++ [nd x y] := by
  rw [stc_succ l h]
  unfold stk
  rw [if_neg (by decide), show (stc l k).length - 2 = N by omega, show (stc l k).length - 1 = N + 1 by omega, List.getD_eq_getElem?_getD, hx, List.getD_eq_getElem?_getD, hy]
  rfl
theorem stc_all (l : List (List (BitVec 8))) (hn : 1 ≤ l.length) : stc l (rops 0 l.length).length = [mroot l] := by
  unfold stc
  rw [List.take_of_length_le (Nat.le_refl _), stk_rops l l.length 0 hn (by omega), List.nil_append]
  unfold sgm
  rw [List.drop_zero, List.take_of_length_le (Nat.le_refl _)]
theorem hs_len {hs : List (List (BitVec 8))} {v : Value} {w : World} (h : (Fk.hs hs).f v w) {i : Nat} {x : List (BitVec 8)} (hi : hs[i]? = some x) : x.length = 32 := by
  obtain ⟨A, C, lb, lo, e, hl⟩ := h
  exact (hl.all i x hi).1
theorem rroot0 (n : Nat) (w : World) (h1 : 1 ≤ n) (h2 : n ≤ 1000) : Calls Tryd.prog 23 #[.int .i64 0, .int .i64 ((n : Nat) : Int)] w fun e w' => ∃ u, e = .returned u ∧ (Fk.oi w.heap.size (rops 0 n)).f u w' ∧ Below w.heap.size w w' := by
  have := rroot_any n 0 w h1 (by omega)
  rw [Nat.zero_add] at this
  exact this
theorem st_cutow {Q : Exit → Act → World → Prop} {o : Oper} {a : Act} {w : World} (x y : Operand) (ho : o.op = .slice 22 x none (some y) none) {base : Nat} {hs : List (List (BitVec 8))} (h : (Fk.ow base hs).f (a.eval x) w) (n : Nat) (hy : a.eval y = .int .i64 (n : Int)) (hn : n ≤ hs.length) : o.wp Tryd.prog a w (Ends a o.dst w (Fk.ow base (hs.take n)).f) Q := by
  have h0 := h
  obtain ⟨A, C, lb, lo, e, hc, hl⟩ := ow_hc h
  rw [e] at h0
  have h3 := ow_take h0 n hn
  refine st_pure (v := sliced A 0 n C 32) ?_ ?_
  · have h1 := run_slice_h (P := Tryd.prog) (w := w) 22 A hs.length C (by rw [Tryd.elem22]; exact Tryd.under22') .i64 (n : Int) (by omega) (by omega)
    rw [Tryd.elem22, Tryd.sizeOf24] at h1
    simp only [Result.andThen_ok, Int.toNat_natCast] at h1
    have h2 := run_sliceAt_slice (P := Tryd.prog) (w := w) 22 (.slice A hs.length C) none (some (.int .i64 (n : Int))) none (by rw [Tryd.elem22]; exact Tryd.under22')
    unfold execOp
    rw [ho]
    simp [e, hy, h2, h1]
  · have : sliced A 0 n C 32 = .slice A n C := by
      unfold sliced
      by_cases h0 : C = 0
      · simp [h0]
      · cases A with
        | none => simp
        | some p => simp [Addr.add]
    rw [this]
    exact h3
theorem lroot_nil (w : World) {v : Value} (hv : (Fk.hc []).f v w) (hK : Tab w) {y : List (BitVec 8)} (ey : Box (mroot [] = y)) :
    Calls Tryd.prog 9 #[v] w fun e w' => e = .returned (.agg ((y).map V).toArray) ∧ Below w.heap.size w w' := by
  have eys : shaOf [] = y := by rw [← ey.out, mroot_nil]
  have hy : y.length = 32 := by rw [← eys]; exact shaOf_len _
  have hnil := sl_nil w
  go_enter Tryd.func9, Tryd.ntmps9
  refine code_both (fun f w1 => f.tmps.size = 53 ∧ f.defers = [] ∧ f.eval (.tmp 0) = v ∧ Below w.heap.size w (w1)) ⟨rfl, rfl, rfl, Below.refl _ _⟩ ?_
  rintro f0 w0 ⟨sz, df, x0, bl⟩
  have bl0 := bl
  refine wp_seq ?_
  -- R0
  refine wp_all_seq [.nw w0.heap.size 24 ((hz).map V)] (by kernel_rfl) (by kernel_rfl) (by rw [sz]; kernel_rfl) (by kernel_rfl) ⟨fun hw ac u K => ?_, trivial⟩ ?_
  · exact st_alloc24 rfl _ K.grow.size
  intro f1 w1 A hb
  replace bl0 := bl
  replace x0 := (A.old 0 rfl).trans x0
  have x2 : Fk.f (.nw w0.heap.size 24 ((hz).map V)) (f1.eval (.tmp 2)) w1 := A.has 0 2 rfl
  replace bl := (bl.trans (Below.mono hb bl.size))
  replace sz := A.size.trans sz
  replace df := A.defs.trans df
  clear A hb
  obtain ⟨g2, hg2, e2, m2⟩ := x2
  have x2 := e2
  clear e2
  have hw2 : w.heap.size ≤ g2 := Nat.le_trans bl0.size hg2
  show Code.wp _ _ _ _ _
  refine wp_seq ?_
  refine wp_seq ?_
  -- R1
  refine wp_all_seq [.eq (v), .eq (.int .i64 ((0 : Nat) : Int)), .eq (.bool true)] (by kernel_rfl) (by kernel_rfl) (by rw [sz]; kernel_rfl) (by kernel_rfl) ⟨fun hw ac u K => ?_, fun hw ac u K => ?_, fun hw ac u K => ?_, trivial⟩ ?_
  · exact st_move (.tmp 0) rfl ((K.old 0 rfl).trans x0)
  · exact st_lenc (.tmp 7) rfl (0) rfl (fk_val (K.dep 0 7 rfl) (Fk.mono _ _ _ _ hv (bl.trans (Below.mono K.grow bl.size))))
  · exact st_eqi 3 (.tmp 8) (.const (.int .i64 0)) rfl .i64 (((0 : Nat) : Int)) (0) (K.dep 1 8 rfl) rfl _ (by simp)
  intro f2 w2 A hb
  replace bl0 := bl
  replace x0 := (A.old 0 rfl).trans x0
  replace x2 := (A.old 2 rfl).trans x2
  have x9 : f2.eval (.tmp 9) = .bool true := A.has 2 9 rfl
  have lt_m2 := Ob.lt m2
  replace m2 := Ob.below m2 hb
  replace bl := (bl.trans (Below.mono hb bl.size))
  replace sz := A.size.trans sz
  replace df := A.defs.trans df
  clear A hb
  show Code.wp _ _ _ _ _
  refine wp_cond_true x9 ?_
  refine wp_seq ?_
  -- R2
  refine wp_region_seq [.eq (.agg ((y).map V).toArray)] (by kernel_rfl) (by kernel_rfl) (by rw [sz]; kernel_rfl) (by kernel_rfl) ⟨fun hw ac u K => ?_, trivial⟩ ?_
  · exact st_call 21 (.func 21) _ _ #[.slice none 0 0] rfl rfl (one_arg rfl) Tryd.enter21 (by rw [← eys]; exact fk_sum (by simp) (hK.below (bl.trans (Below.mono K.grow bl.size))) (Fk.mono _ _ _ _ hnil (bl.trans (Below.mono K.grow bl.size))))
  intro f3 w3 A hb
  replace bl0 := bl
  replace x0 := (A.old 0 rfl).trans x0
  replace x2 := (A.old 2 rfl).trans x2
  replace x9 := (A.old 9 rfl).trans x9
  have x10 : f3.eval (.tmp 10) = .agg ((y).map V).toArray := A.has 0 10 rfl
  have lt_m2 := Ob.lt m2
  replace m2 := Ob.below m2 hb
  replace bl := (bl.trans (Below.mono hb bl.size))
  replace sz := A.size.trans sz
  replace df := A.defs.trans df
  clear A hb
  refine wl_store rfl (.tmp 2) (.tmp 10) rfl rfl (g2) (y) (hz) x2 x10 m2 hz_len hy ?_
  replace m2 : Ob (w3.setRow g2 ((y).map V : List Value).toArray) (g2) 24 ((y).map V) := Ob.setRow m2 ((y).map V)
  replace bl : Below w.heap.size w (w3.setRow g2 ((y).map V : List Value).toArray) := bl.trans (below_setRow _ _ _ _ hw2)
  generalize w3.setRow g2 ((y).map V : List Value).toArray = w4b at bl m2 ⊢
  refine wpList_nil ?_
  clear x10
  show Code.wp _ _ _ _ _
  refine wp_ret ?_
  repeat (first | with_reducible refine then_ret ?_ | with_reducible refine block_ret ?_)
  exact bodyPost_ret (v := .agg ((y).map V).toArray) (ret_hash rfl f3 _ g2 (y) hy x2 m2) df ⟨rfl, bl⟩
theorem lroot_pos {l : List (List (BitVec 8))} (hn : 1 ≤ l.length) (h1000 : l.length ≤ 400) (w : World) {v : Value} (hv : (Fk.hc l).f v w) (hK : Tab w) {y : List (BitVec 8)} (ey : Box (mroot l = y)) :
    Calls Tryd.prog 9 #[v] w fun e w' => e = .returned (.agg ((y).map V).toArray) ∧ Below w.heap.size w w' := by
  have hvs := hc_hs hv
  have hy : y.length = 32 := by rw [← ey.out]; exact mroot_len (hc_len hv)
  obtain ⟨O, hO⟩ : ∃ O, rops 0 l.length = O := ⟨_, rfl⟩
  have hOl : O.length = 2 * l.length - 1 := by rw [← hO]; exact rops_len _ _ hn
  go_enter Tryd.func9, Tryd.ntmps9
  refine code_both (fun f w1 => f.tmps.size = 53 ∧ f.defers = [] ∧ f.eval (.tmp 0) = v ∧ Below w.heap.size w (w1)) ⟨rfl, rfl, rfl, Below.refl _ _⟩ ?_
  rintro f0 w0 ⟨sz, df, x0, bl⟩
  have bl0 := bl
  refine wp_seq ?_
  -- R0
  refine wp_all_seq [.nw w0.heap.size 24 ((hz).map V)] (by kernel_rfl) (by kernel_rfl) (by rw [sz]; kernel_rfl) (by kernel_rfl) ⟨fun hw ac u K => ?_, trivial⟩ ?_
  · exact st_alloc24 rfl _ K.grow.size
  intro f1 w1 A hb
  replace bl0 := bl
  replace x0 := (A.old 0 rfl).trans x0
  have x2 : Fk.f (.nw w0.heap.size 24 ((hz).map V)) (f1.eval (.tmp 2)) w1 := A.has 0 2 rfl
  replace bl := (bl.trans (Below.mono hb bl.size))
  replace sz := A.size.trans sz
  replace df := A.defs.trans df
  clear A hb
  obtain ⟨g2, hg2, e2, m2⟩ := x2
  have x2 := e2
  clear e2
  have hw2 : w.heap.size ≤ g2 := Nat.le_trans bl0.size hg2
  show Code.wp _ _ _ _ _
  refine wp_seq ?_
  refine wp_seq ?_
  -- R1
  refine wp_all_seq [.eq (v), .eq (.int .i64 (((l).length : Nat) : Int)), .eq (.bool false)] (by kernel_rfl) (by kernel_rfl) (by rw [sz]; kernel_rfl) (by kernel_rfl) ⟨fun hw ac u K => ?_, fun hw ac u K => ?_, fun hw ac u K => ?_, trivial⟩ ?_
  · exact st_move (.tmp 0) rfl ((K.old 0 rfl).trans x0)
  · exact st_lenc (.tmp 7) rfl ((l).length) rfl (fk_val (K.dep 0 7 rfl) (Fk.mono _ _ _ _ hv (bl.trans (Below.mono K.grow bl.size))))
  · exact st_eqi 3 (.tmp 8) (.const (.int .i64 0)) rfl .i64 ((((l).length : Nat) : Int)) (0) (K.dep 1 8 rfl) rfl _ (by rw [eq_comm, decide_eq_false_iff_not]; omega)
  intro f2 w2 A hb
  replace bl0 := bl
  replace x0 := (A.old 0 rfl).trans x0
  replace x2 := (A.old 2 rfl).trans x2
  have x9 : f2.eval (.tmp 9) = .bool false := A.has 2 9 rfl
  have lt_m2 := Ob.lt m2
  replace m2 := Ob.below m2 hb
  replace bl := (bl.trans (Below.mono hb bl.size))
  replace sz := A.size.trans sz
  replace df := A.defs.trans df
  clear A hb
  show Code.wp _ _ _ _ _
  refine wp_cond_false x9 ?_
  refine wp_skip ?_
  show Code.wp _ _ _ _ _
  refine wp_seq ?_
  -- R3
  refine wp_all_seq [.eq (.slice none 0 0)] (by kernel_rfl) (by kernel_rfl) (by rw [sz]; kernel_rfl) (by kernel_rfl) ⟨fun hw ac u K => ?_, trivial⟩ ?_
  · exact st_assign (.const (.slice none 0 0)) rfl rfl
  intro f3 w3 A hb
  replace bl0 := bl
  replace x0 := (A.old 0 rfl).trans x0
  replace x2 := (A.old 2 rfl).trans x2
  replace x9 := (A.old 9 rfl).trans x9
  have x3 : f3.eval (.tmp 3) = .slice none 0 0 := A.has 0 3 rfl
  have lt_m2 := Ob.lt m2
  replace m2 := Ob.below m2 hb
  replace bl := (bl.trans (Below.mono hb bl.size))
  replace sz := A.size.trans sz
  replace df := A.defs.trans df
  clear A hb
  show Code.wp _ _ _ _ _
  refine wp_seq ?_
  refine wp_seq ?_
  -- R4
  refine wp_all_seq [.eq (v), .eq (.int .i64 (((l).length : Nat) : Int)), .oi w.heap.size (O), .eq (.int .i64 (((O).length : Nat) : Int)), .eq (.int .i64 0)] (by kernel_rfl) (by kernel_rfl) (by rw [sz]; kernel_rfl) (by kernel_rfl) ⟨fun hw ac u K => ?_, fun hw ac u K => ?_, fun hw ac u K => ?_, fun hw ac u K => ?_, fun hw ac u K => ?_, trivial⟩ ?_
  · exact st_move (.tmp 0) rfl ((K.old 0 rfl).trans x0)
  · exact st_lenc (.tmp 11) rfl ((l).length) rfl (fk_val (K.dep 0 11 rfl) (Fk.mono _ _ _ _ hv (bl.trans (Below.mono K.grow bl.size))))
  · exact st_call 23 (.func 23) _ _ #[.int .i64 0, .int .i64 (((l).length : Nat) : Int)] rfl rfl (arg2 rfl (K.dep 1 12 rfl)) Tryd.enter23 (by rw [← hO]; exact fk_orw (bl.trans (Below.mono K.grow bl.size)).size (rroot0 l.length _ (by omega) (by omega)))
  · exact st_lenis (.tmp 13) rfl (oi_is (K.dep 2 13 rfl))
  · exact st_move (.const (.int .i64 0)) rfl rfl
  intro f4 w4 A hb
  replace bl0 := bl
  replace x0 := (A.old 0 rfl).trans x0
  replace x2 := (A.old 2 rfl).trans x2
  replace x9 := (A.old 9 rfl).trans x9
  replace x3 := (A.old 3 rfl).trans x3
  have x13 : Fk.f (.oi w.heap.size (O)) (f4.eval (.tmp 13)) w4 := A.has 2 13 rfl
  have x14 : f4.eval (.tmp 14) = .int .i64 (((O).length : Nat) : Int) := A.has 3 14 rfl
  have x15 : f4.eval (.tmp 15) = .int .i64 0 := A.has 4 15 rfl
  have lt_m2 := Ob.lt m2
  replace m2 := Ob.below m2 hb
  replace bl := (bl.trans (Below.mono hb bl.size))
  replace sz := A.size.trans sz
  replace df := A.defs.trans df
  clear A hb
  obtain ⟨v13, e13⟩ : ∃ v, f4.eval (.tmp 13) = v := ⟨_, rfl⟩
  have h13 := oi_is x13
  rw [e13] at h13
  replace x13 := e13
  clear e13
  have blw := bl
  replace hv := Fk.mono _ _ _ _ hv bl
  replace hvs := Fk.mono _ _ _ _ hvs bl
  replace hK := hK.below bl
  replace bl := Below.refl w4.heap.size w4
  replace bl0 := bl
  show Code.wp _ _ _ _ _
  refine wp_block ?_
  refine wp_loop (fun f v1 => ∃ k : Nat, k ≤ (O).length ∧ f.tmps.size = 53 ∧ f.defers = [] ∧ f.eval (.tmp 0) = v ∧ f.eval (.tmp 2) = .pointer (some ⟨g2, 0, none⟩) ∧ f.eval (.tmp 9) = .bool false ∧ f.eval (.tmp 13) = v13 ∧ f.eval (.tmp 14) = .int .i64 (((O).length : Nat) : Int) ∧ f.eval (.tmp 15) = .int .i64 ((k : Nat) : Int) ∧ Fk.f (.ow w4.heap.size (stc l k)) (f.eval (.tmp 3)) v1 ∧ Below w4.heap.size w4 (v1)) (fun f _ => (O).length - (intOf (f.eval (.tmp 15))).toNat) ⟨0, Nat.zero_le _, sz, df, x0, x2, x9, x13, x14, x15, (fk_val x3 (by rw [stc_zero]; exact ow_nil _ _)), bl⟩ ?_
  intro f5 w5 hI
  clear sz df bl bl0 x0 x2 x9 x3 x13 x14 x15
  obtain ⟨k, hk, sz, df, x0, x2, x9, x13, x14, x15, x3, bl⟩ := hI
  have bl0 := bl
  have hcnt := x15
  refine wp_seq ?_
  by_cases hlt : k < (O).length
  rotate_left
  · skip
    -- R5
    refine wp_all_seq [.eq (.bool false)] (by kernel_rfl) (by kernel_rfl) (by rw [sz]; kernel_rfl) (by kernel_rfl) ⟨fun hw ac u K => ?_, trivial⟩ ?_
    · exact st_lss 3 (.tmp 15) (.tmp 14) rfl .i64 (((k : Nat) : Int)) ((((O).length : Nat) : Int)) ((K.old 15 rfl).trans x15) ((K.old 14 rfl).trans x14) _ (by rw [eq_comm, decide_eq_false_iff_not]; exact fun h => hlt (Int.ofNat_lt.1 h))
    intro f6 w6 A hb
    replace bl0 := bl
    replace x0 := (A.old 0 rfl).trans x0
    replace x2 := (A.old 2 rfl).trans x2
    replace x9 := (A.old 9 rfl).trans x9
    replace x3 := f_at (A.old 3 rfl) (Fk.mono _ _ _ _ x3 hb)
    replace x13 := (A.old 13 rfl).trans x13
    replace x14 := (A.old 14 rfl).trans x14
    replace x15 := (A.old 15 rfl).trans x15
    have x16 : f6.eval (.tmp 16) = .bool false := A.has 0 16 rfl
    replace bl := (bl.trans (Below.mono hb bl.size))
    replace sz := A.size.trans sz
    replace df := A.defs.trans df
    clear A hb
    show Code.wp _ _ _ _ _
    refine wp_seq ?_
    refine wp_cond_false x16 ?_
    refine wp_exit ?_
    show Code.wp _ _ _ _ _
    refine wp_seq ?_
    obtain rfl : k = (O).length := by omega
    have hall := stc_all l (by omega)
    rw [hO, ey.out] at hall
    rw [hall] at x3
    replace m2 := Ob.below m2 bl
    replace bl := blw.trans (Below.mono bl blw.size)
    replace bl0 := bl
    -- R14
    refine wp_region_seq [.ow w4.heap.size ([y]), .ph (y), .eq (.agg ((y).map V).toArray)] (by kernel_rfl) (by kernel_rfl) (by rw [sz]; kernel_rfl) (by kernel_rfl) ⟨fun hw ac u K => ?_, fun hw ac u K => ?_, fun hw ac u K => ?_, trivial⟩ ?_
    · exact st_move (.tmp 3) rfl (f_at (K.old 3 rfl) (Fk.mono _ _ _ _ x3 K.grow))
    · exact st_idxh (.tmp 50) (.const (.int .i64 0)) rfl (ow_hs (K.dep 0 50 rfl)) (0) (y) rfl rfl
    · exact st_loadh (.tmp 51) rfl (K.dep 1 51 rfl)
    intro f7 w7 A hb
    replace bl0 := bl
    replace x0 := (A.old 0 rfl).trans x0
    replace x2 := (A.old 2 rfl).trans x2
    replace x9 := (A.old 9 rfl).trans x9
    replace x3 := f_at (A.old 3 rfl) (Fk.mono _ _ _ _ x3 hb)
    replace x13 := (A.old 13 rfl).trans x13
    replace x14 := (A.old 14 rfl).trans x14
    replace x15 := (A.old 15 rfl).trans x15
    replace x16 := (A.old 16 rfl).trans x16
    have x52 : f7.eval (.tmp 52) = .agg ((y).map V).toArray := A.has 2 52 rfl
    have lt_m2 := Ob.lt m2
    replace m2 := Ob.below m2 hb
    replace bl := (bl.trans (Below.mono hb bl.size))
    replace sz := A.size.trans sz
    replace df := A.defs.trans df
    clear A hb
    clear x3
    refine wl_store rfl (.tmp 2) (.tmp 52) rfl rfl (g2) (y) (hz) x2 x52 m2 hz_len hy ?_
    replace m2 : Ob (w7.setRow g2 ((y).map V : List Value).toArray) (g2) 24 ((y).map V) := Ob.setRow m2 ((y).map V)
    replace bl : Below w.heap.size w (w7.setRow g2 ((y).map V : List Value).toArray) := bl.trans (below_setRow _ _ _ _ hw2)
    generalize w7.setRow g2 ((y).map V : List Value).toArray = w8b at bl m2 ⊢
    refine wpList_nil ?_
    clear x52
    show Code.wp _ _ _ _ _
    refine wp_ret ?_
    repeat (first | with_reducible refine then_ret ?_ | with_reducible refine block_ret ?_)
    exact bodyPost_ret (v := .agg ((y).map V).toArray) (ret_hash rfl f7 _ g2 (y) hy x2 m2) df ⟨rfl, bl⟩
  obtain ⟨z, hz⟩ : ∃ z, O[k]? = some z := ⟨_, List.getElem?_eq_getElem hlt⟩
  have hz2 := hz
  rw [← hO] at hz2
  have hsl := stc_len l k
  -- R5
  refine wp_all_seq [.eq (.bool true)] (by kernel_rfl) (by kernel_rfl) (by rw [sz]; kernel_rfl) (by kernel_rfl) ⟨fun hw ac u K => ?_, trivial⟩ ?_
  · exact st_lss 3 (.tmp 15) (.tmp 14) rfl .i64 (((k : Nat) : Int)) ((((O).length : Nat) : Int)) ((K.old 15 rfl).trans x15) ((K.old 14 rfl).trans x14) _ (by rw [eq_comm, decide_eq_true_iff]; exact Int.ofNat_lt.2 hlt)
  intro f6 w6 A hb
  replace bl0 := bl
  replace x0 := (A.old 0 rfl).trans x0
  replace x2 := (A.old 2 rfl).trans x2
  replace x9 := (A.old 9 rfl).trans x9
  replace x3 := f_at (A.old 3 rfl) (Fk.mono _ _ _ _ x3 hb)
  replace x13 := (A.old 13 rfl).trans x13
  replace x14 := (A.old 14 rfl).trans x14
  replace x15 := (A.old 15 rfl).trans x15
  have x16 : f6.eval (.tmp 16) = .bool true := A.has 0 16 rfl
  replace bl := (bl.trans (Below.mono hb bl.size))
  replace sz := A.size.trans sz
  replace df := A.defs.trans df
  clear A hb
  show Code.wp _ _ _ _ _
  refine wp_seq ?_
  refine wp_cond_true x16 ?_
  refine wp_skip ?_
  show Code.wp _ _ _ _ _
  refine wp_seq ?_
  refine wp_block ?_
  refine wp_seq ?_
  -- R6
  refine wp_all_seq [.prg [.int .i64 z], .eq (.int .i64 z), .eq (.int .i64 z)] (by kernel_rfl) (by kernel_rfl) (by rw [sz]; kernel_rfl) (by kernel_rfl) ⟨fun hw ac u K => ?_, fun hw ac u K => ?_, fun hw ac u K => ?_, trivial⟩ ?_
  · exact st_idxis (.tmp 13) (.tmp 15) rfl (fk_val ((K.old 13 rfl).trans x13) (Fk.mono _ _ _ _ h13 (bl.trans (Below.mono K.grow bl.size)))) k ((K.old 15 rfl).trans x15) z hz
  · exact st_loadr1 3 (.tmp 17) rfl (by kernel_rfl) (K.dep 0 17 rfl)
  · exact st_assign (.tmp 18) rfl (K.dep 1 18 rfl)
  intro f7 w7 A hb
  replace bl0 := bl
  replace x0 := (A.old 0 rfl).trans x0
  replace x2 := (A.old 2 rfl).trans x2
  replace x9 := (A.old 9 rfl).trans x9
  replace x3 := f_at (A.old 3 rfl) (Fk.mono _ _ _ _ x3 hb)
  replace x13 := (A.old 13 rfl).trans x13
  replace x14 := (A.old 14 rfl).trans x14
  replace x15 := (A.old 15 rfl).trans x15
  replace x16 := (A.old 16 rfl).trans x16
  have x5 : f7.eval (.tmp 5) = .int .i64 z := A.has 2 5 rfl
  replace bl := (bl.trans (Below.mono hb bl.size))
  replace sz := A.size.trans sz
  replace df := A.defs.trans df
  clear A hb
  show Code.wp _ _ _ _ _
  refine wp_seq ?_
  refine wp_seq ?_
  rcases rops_mem l.length 0 z (by omega) (List.mem_of_getElem? hz2) with ⟨i, rfl, hi⟩ | rfl
  rotate_left
  · skip
    have h2 := stc_two l (by omega) hz2
    obtain ⟨N, hN⟩ : ∃ N, N + 2 = (stc l k).length := ⟨(stc l k).length - 2, by omega⟩
    obtain ⟨p, hpi⟩ : ∃ x, (stc l k)[N]? = some x := ⟨_, List.getElem?_eq_getElem (by omega)⟩
    obtain ⟨q, hqi⟩ : ∃ x, (stc l k)[N + 1]? = some x := ⟨_, List.getElem?_eq_getElem (by omega)⟩
    have hp : p.length = 32 := hs_len (ow_hs x3) hpi
    have hq : q.length = 32 := hs_len (ow_hs x3) hqi
    obtain ⟨r, er⟩ : ∃ r, Box (nd p q = r) := ⟨_, ⟨rfl⟩⟩
    have hr : r.length = 32 := by rw [← er.out]; exact nd_len _ _
    have hst := stc_node l hz2 hN hpi hqi
    rw [er.out] at hst
    -- R7
    refine wp_all_seq [.eq (.int .i64 (-1)), .eq (.bool false)] (by kernel_rfl) (by kernel_rfl) (by rw [sz]; kernel_rfl) (by kernel_rfl) ⟨fun hw ac u K => ?_, fun hw ac u K => ?_, trivial⟩ ?_
    · exact st_move (.tmp 5) rfl ((K.old 5 rfl).trans x5)
    · exact st_geq 3 (.tmp 19) (.const (.int .i64 0)) rfl .i64 ((-1)) (0) (K.dep 0 19 rfl) rfl _ (by rfl)
    intro f8 w8 A hb
    replace bl0 := bl
    replace x0 := (A.old 0 rfl).trans x0
    replace x2 := (A.old 2 rfl).trans x2
    replace x9 := (A.old 9 rfl).trans x9
    replace x3 := f_at (A.old 3 rfl) (Fk.mono _ _ _ _ x3 hb)
    replace x13 := (A.old 13 rfl).trans x13
    replace x14 := (A.old 14 rfl).trans x14
    replace x15 := (A.old 15 rfl).trans x15
    replace x16 := (A.old 16 rfl).trans x16
    replace x5 := (A.old 5 rfl).trans x5
    have x20 : f8.eval (.tmp 20) = .bool false := A.has 1 20 rfl
    replace bl := (bl.trans (Below.mono hb bl.size))
    replace sz := A.size.trans sz
    replace df := A.defs.trans df
    clear A hb
    show Code.wp _ _ _ _ _
    refine wp_cond_false x20 ?_
    refine wp_skip ?_
    show Code.wp _ _ _ _ _
    refine wp_seq ?_
    -- R9
    refine wp_all_seq [.ow w4.heap.size (stc l k), .eq (.int .i64 (((stc l k).length : Nat) : Int)), .eq (.int .i64 ((N : Nat) : Int)), .eq (.int .i64 ((N : Nat) : Int))] (by kernel_rfl) (by kernel_rfl) (by rw [sz]; kernel_rfl) (by kernel_rfl) ⟨fun hw ac u K => ?_, fun hw ac u K => ?_, fun hw ac u K => ?_, fun hw ac u K => ?_, trivial⟩ ?_
    · exact st_move (.tmp 3) rfl (f_at (K.old 3 rfl) (Fk.mono _ _ _ _ x3 K.grow))
    · exact st_lenh (.tmp 28) rfl (ow_hs (K.dep 0 28 rfl))
    · exact st_sub (.tmp 29) (.const (.int .i64 2)) rfl ((stc l k).length) (2) (N) (K.dep 1 29 rfl) rfl (by omega) (by omega)
    · exact st_assign (.tmp 30) rfl (K.dep 2 30 rfl)
    intro f9 w9 A hb
    replace bl0 := bl
    replace x0 := (A.old 0 rfl).trans x0
    replace x2 := (A.old 2 rfl).trans x2
    replace x9 := (A.old 9 rfl).trans x9
    replace x3 := f_at (A.old 3 rfl) (Fk.mono _ _ _ _ x3 hb)
    replace x13 := (A.old 13 rfl).trans x13
    replace x14 := (A.old 14 rfl).trans x14
    replace x15 := (A.old 15 rfl).trans x15
    replace x16 := (A.old 16 rfl).trans x16
    replace x5 := (A.old 5 rfl).trans x5
    replace x20 := (A.old 20 rfl).trans x20
    have x6 : f9.eval (.tmp 6) = .int .i64 ((N : Nat) : Int) := A.has 3 6 rfl
    replace bl := (bl.trans (Below.mono hb bl.size))
    replace sz := A.size.trans sz
    replace df := A.defs.trans df
    clear A hb
    show Code.wp _ _ _ _ _
    refine wp_seq ?_
    refine wp_seq ?_
    -- R10
    refine wp_all_seq [.eq (.int .i64 ((N : Nat) : Int)), .eq (.bool false)] (by kernel_rfl) (by kernel_rfl) (by rw [sz]; kernel_rfl) (by kernel_rfl) ⟨fun hw ac u K => ?_, fun hw ac u K => ?_, trivial⟩ ?_
    · exact st_move (.tmp 6) rfl ((K.old 6 rfl).trans x6)
    · exact st_lss 3 (.tmp 31) (.const (.int .i64 0)) rfl .i64 (((N : Nat) : Int)) (0) (K.dep 0 31 rfl) rfl _ (by rw [eq_comm, decide_eq_false_iff_not]; omega)
    intro f10 w10 A hb
    replace bl0 := bl
    replace x0 := (A.old 0 rfl).trans x0
    replace x2 := (A.old 2 rfl).trans x2
    replace x9 := (A.old 9 rfl).trans x9
    replace x3 := f_at (A.old 3 rfl) (Fk.mono _ _ _ _ x3 hb)
    replace x13 := (A.old 13 rfl).trans x13
    replace x14 := (A.old 14 rfl).trans x14
    replace x15 := (A.old 15 rfl).trans x15
    replace x16 := (A.old 16 rfl).trans x16
    replace x5 := (A.old 5 rfl).trans x5
    replace x20 := (A.old 20 rfl).trans x20
    replace x6 := (A.old 6 rfl).trans x6
    have x32 : f10.eval (.tmp 32) = .bool false := A.has 1 32 rfl
    replace bl := (bl.trans (Below.mono hb bl.size))
    replace sz := A.size.trans sz
    replace df := A.defs.trans df
    clear A hb
    show Code.wp _ _ _ _ _
    refine wp_cond_false x32 ?_
    refine wp_skip ?_
    show Code.wp _ _ _ _ _
    -- R12
    refine wp_region_tail [.ow w4.heap.size (stc l k), .eq (.int .i64 ((N : Nat) : Int)), .ow w4.heap.size ((stc l k).take (N)), .ow w4.heap.size (stc l k), .eq (.int .i64 ((N : Nat) : Int)), .ph (p), .eq (.agg ((p).map V).toArray), .ow w4.heap.size (stc l k), .eq (.int .i64 ((N : Nat) : Int)), .eq (.int .i64 ((N + 1 : Nat) : Int)), .ph (q), .eq (.agg ((q).map V).toArray), .eq (.agg ((r).map V).toArray), .hs ([r])] [14, 15] Tryd.mixed (by kernel_rfl) (by kernel_rfl) (by kernel_rfl) (by kernel_rfl) (by rw [sz]; kernel_rfl) (by kernel_rfl) ⟨fun hw ac u K => ?_, fun hw ac u K => ?_, fun hw ac u K => ?_, fun hw ac u K => ?_, fun hw ac u K => ?_, fun hw ac u K => ?_, fun hw ac u K => ?_, fun hw ac u K => ?_, fun hw ac u K => ?_, fun hw ac u K => ?_, fun hw ac u K => ?_, fun hw ac u K => ?_, fun hw ac u K => ?_, fun hw ac u K => ?_, trivial⟩ ?_
    · exact st_move (.tmp 3) rfl (f_at (K.old 3 rfl) (Fk.mono _ _ _ _ x3 K.grow))
    · exact st_move (.tmp 6) rfl ((K.old 6 rfl).trans x6)
    · exact st_cutow (.tmp 34) (.tmp 35) rfl (K.dep 0 34 rfl) N (K.dep 1 35 rfl) (by omega)
    · exact st_move (.tmp 3) rfl (f_at (K.old 3 rfl) (Fk.mono _ _ _ _ x3 K.grow))
    · exact st_move (.tmp 6) rfl ((K.old 6 rfl).trans x6)
    · exact st_idxh (.tmp 37) (.tmp 38) rfl (ow_hs (K.dep 3 37 rfl)) (N) (p) (K.dep 4 38 rfl) hpi
    · exact st_loadh (.tmp 39) rfl (K.dep 5 39 rfl)
    · exact st_move (.tmp 3) rfl (f_at (K.old 3 rfl) (Fk.mono _ _ _ _ x3 K.grow))
    · exact st_move (.tmp 6) rfl ((K.old 6 rfl).trans x6)
    · exact st_add (.tmp 42) (.const (.int .i64 1)) rfl (N) (1) (N + 1) (K.dep 8 42 rfl) rfl (by omega) (by omega)
    · exact st_idxh (.tmp 41) (.tmp 43) rfl (ow_hs (K.dep 7 41 rfl)) (N + 1) (q) (K.dep 9 43 rfl) hqi
    · exact st_loadh (.tmp 44) rfl (K.dep 10 44 rfl)
    · exact st_call 22 (.func 22) _ _ #[.agg ((p).map V).toArray, .agg ((q).map V).toArray] rfl rfl (arg2 (K.dep 6 40 rfl) (K.dep 11 45 rfl)) Tryd.enter22 (fk_node hp hq (hK.below (bl.trans (Below.mono K.grow bl.size))) er)
    · exact st_bh1 (.tmp 46) rfl hr (K.dep 12 46 rfl)
    intro f11 w11 A hb
    replace bl0 := bl
    replace x0 := (A.old 0 rfl).trans x0
    replace x2 := (A.old 2 rfl).trans x2
    replace x9 := (A.old 9 rfl).trans x9
    replace x3 := f_at (A.old 3 rfl) (Fk.mono _ _ _ _ x3 hb)
    replace x13 := (A.old 13 rfl).trans x13
    replace x14 := (A.old 14 rfl).trans x14
    replace x15 := (A.old 15 rfl).trans x15
    replace x16 := (A.old 16 rfl).trans x16
    replace x5 := (A.old 5 rfl).trans x5
    replace x20 := (A.old 20 rfl).trans x20
    replace x6 := (A.old 6 rfl).trans x6
    replace x32 := (A.old 32 rfl).trans x32
    have x36 : Fk.f (.ow w4.heap.size ((stc l k).take (N))) (f11.eval (.tmp 36)) w11 := A.has 2 36 rfl
    have x47 : Fk.f (.hs ([r])) (f11.eval (.tmp 47)) w11 := A.has 13 47 rfl
    replace bl := (bl.trans (Below.mono hb bl.size))
    replace sz := A.size.trans sz
    replace df := A.defs.trans df
    clear A hb
    refine wl_append rfl (.tmp 36) (.tmp 47) rfl 48 rfl (by rw [sz]; decide) x36 x47 bl (by rw [List.length_take]; omega) ?_
    intro f12 w12 df2 sz2 old2 new2 bl2
    clear x3
    clear x36
    clear x47
    replace x0 := (old2 0 rfl).trans x0
    replace x2 := (old2 2 rfl).trans x2
    replace x9 := (old2 9 rfl).trans x9
    replace x13 := (old2 13 rfl).trans x13
    replace x14 := (old2 14 rfl).trans x14
    replace x15 := (old2 15 rfl).trans x15
    replace x16 := (old2 16 rfl).trans x16
    replace x5 := (old2 5 rfl).trans x5
    replace x20 := (old2 20 rfl).trans x20
    replace x6 := (old2 6 rfl).trans x6
    replace x32 := (old2 32 rfl).trans x32
    have x48 : Fk.f (.ow w4.heap.size ((stc l k).take (N) ++ [r])) (f12.eval (.tmp 48)) w12 := new2
    replace bl := bl2
    replace bl0 := bl
    replace sz := sz2.trans sz
    replace df := df2.trans df
    clear df2 sz2 old2 new2 bl2
    refine wl_one (.ow w4.heap.size ((stc l k).take (N) ++ [r])) rfl 3 rfl (by rw [sz]; decide) (st_assign (.tmp 48) rfl x48) ?_
    intro f13 w13 df2 sz2 old2 new2 hb
    replace bl0 := bl
    replace x0 := (old2 0 rfl).trans x0
    replace x2 := (old2 2 rfl).trans x2
    replace x9 := (old2 9 rfl).trans x9
    replace x13 := (old2 13 rfl).trans x13
    replace x14 := (old2 14 rfl).trans x14
    replace x15 := (old2 15 rfl).trans x15
    replace x16 := (old2 16 rfl).trans x16
    replace x5 := (old2 5 rfl).trans x5
    replace x20 := (old2 20 rfl).trans x20
    replace x6 := (old2 6 rfl).trans x6
    replace x32 := (old2 32 rfl).trans x32
    replace x48 := f_at (old2 48 rfl) (Fk.mono _ _ _ _ x48 hb)
    have x3 : Fk.f (.ow w4.heap.size ((stc l k).take (N) ++ [r])) (f13.eval (.tmp 3)) w13 := new2
    replace bl := (bl.trans (Below.mono hb bl.size))
    replace sz := sz2.trans sz
    replace df := df2.trans df
    clear df2 sz2 old2 new2 hb
    refine wpList_nil ?_
    clear x48
    show Code.wp _ _ _ _ _
    -- R13
    refine wp_region_seq [.eq (.int .i64 ((k + 1 : Nat) : Int))] (by kernel_rfl) (by kernel_rfl) (by rw [sz]; kernel_rfl) (by kernel_rfl) ⟨fun hw ac u K => ?_, trivial⟩ ?_
    · exact st_add (.tmp 15) (.const (.int .i64 1)) rfl (k) (1) (k + 1) ((K.old 15 rfl).trans x15) rfl (by omega) (by omega)
    intro f14 w14 A hb
    replace bl0 := bl
    replace x0 := (A.old 0 rfl).trans x0
    replace x2 := (A.old 2 rfl).trans x2
    replace x9 := (A.old 9 rfl).trans x9
    replace x13 := (A.old 13 rfl).trans x13
    replace x14 := (A.old 14 rfl).trans x14
    replace x15 := (A.old 15 rfl).trans x15
    replace x16 := (A.old 16 rfl).trans x16
    replace x5 := (A.old 5 rfl).trans x5
    replace x20 := (A.old 20 rfl).trans x20
    replace x6 := (A.old 6 rfl).trans x6
    replace x32 := (A.old 32 rfl).trans x32
    replace x3 := f_at (A.old 3 rfl) (Fk.mono _ _ _ _ x3 hb)
    have x49 : f14.eval (.tmp 49) = .int .i64 ((k + 1 : Nat) : Int) := A.has 0 49 rfl
    replace bl := (bl.trans (Below.mono hb bl.size))
    replace sz := A.size.trans sz
    replace df := A.defs.trans df
    clear A hb
    refine wl_one (.eq (.int .i64 ((k + 1 : Nat) : Int))) rfl 15 rfl (by rw [sz]; decide) (st_move (.tmp 49) rfl x49) ?_
    intro f15 w15 df2 sz2 old2 new2 hb
    replace bl0 := bl
    replace x0 := (old2 0 rfl).trans x0
    replace x2 := (old2 2 rfl).trans x2
    replace x9 := (old2 9 rfl).trans x9
    replace x13 := (old2 13 rfl).trans x13
    replace x14 := (old2 14 rfl).trans x14
    clear x15
    replace x16 := (old2 16 rfl).trans x16
    replace x5 := (old2 5 rfl).trans x5
    replace x20 := (old2 20 rfl).trans x20
    replace x6 := (old2 6 rfl).trans x6
    replace x32 := (old2 32 rfl).trans x32
    replace x3 := f_at (old2 3 rfl) (Fk.mono _ _ _ _ x3 hb)
    replace x49 := (old2 49 rfl).trans x49
    have x15 : f15.eval (.tmp 15) = .int .i64 ((k + 1 : Nat) : Int) := new2
    replace bl := (bl.trans (Below.mono hb bl.size))
    replace sz := sz2.trans sz
    replace df := df2.trans df
    clear df2 sz2 old2 new2 hb
    refine wpList_nil ?_
    clear x49
    show (∃ _, _) ∧ _
    replace x3 : Fk.f (.ow w4.heap.size (stc l (k + 1))) (f15.eval (.tmp 3)) w15 := (by rw [hst]; exact x3)
    refine ⟨⟨k + 1, by omega, sz, df, x0, x2, x9, x13, x14, x15, x3, bl⟩, ?_⟩
    rw [show f15.eval (.tmp 15) = _ from x15, show _ = _ from hcnt]
    simp [intOf]
    omega
  obtain ⟨x, hxi⟩ : ∃ x, l[i]? = some x := ⟨_, List.getElem?_eq_getElem (by omega)⟩
  have hx : x.length = 32 := hs_len hvs hxi
  have hst := stc_put l hz2 hxi
  -- R7
  refine wp_all_seq [.eq (.int .i64 ((i : Nat) : Int)), .eq (.bool true)] (by kernel_rfl) (by kernel_rfl) (by rw [sz]; kernel_rfl) (by kernel_rfl) ⟨fun hw ac u K => ?_, fun hw ac u K => ?_, trivial⟩ ?_
  · exact st_move (.tmp 5) rfl ((K.old 5 rfl).trans x5)
  · exact st_geq 3 (.tmp 19) (.const (.int .i64 0)) rfl .i64 (((i : Nat) : Int)) (0) (K.dep 0 19 rfl) rfl _ (by rw [eq_comm, decide_eq_true_iff]; omega)
  intro f8 w8 A hb
  replace bl0 := bl
  replace x0 := (A.old 0 rfl).trans x0
  replace x2 := (A.old 2 rfl).trans x2
  replace x9 := (A.old 9 rfl).trans x9
  replace x3 := f_at (A.old 3 rfl) (Fk.mono _ _ _ _ x3 hb)
  replace x13 := (A.old 13 rfl).trans x13
  replace x14 := (A.old 14 rfl).trans x14
  replace x15 := (A.old 15 rfl).trans x15
  replace x16 := (A.old 16 rfl).trans x16
  replace x5 := (A.old 5 rfl).trans x5
  have x20 : f8.eval (.tmp 20) = .bool true := A.has 1 20 rfl
  replace bl := (bl.trans (Below.mono hb bl.size))
  replace sz := A.size.trans sz
  replace df := A.defs.trans df
  clear A hb
  show Code.wp _ _ _ _ _
  refine wp_cond_true x20 ?_
  refine wp_seq ?_
  -- R8
  refine wp_region_seq [.ow w4.heap.size (stc l k), .eq (v), .eq (.int .i64 ((i : Nat) : Int)), .ph (x), .eq (.agg ((x).map V).toArray), .hs ([x])] (by kernel_rfl) (by kernel_rfl) (by rw [sz]; kernel_rfl) (by kernel_rfl) ⟨fun hw ac u K => ?_, fun hw ac u K => ?_, fun hw ac u K => ?_, fun hw ac u K => ?_, fun hw ac u K => ?_, fun hw ac u K => ?_, trivial⟩ ?_
  · exact st_move (.tmp 3) rfl (f_at (K.old 3 rfl) (Fk.mono _ _ _ _ x3 K.grow))
  · exact st_move (.tmp 0) rfl ((K.old 0 rfl).trans x0)
  · exact st_move (.tmp 5) rfl ((K.old 5 rfl).trans x5)
  · exact st_idxh (.tmp 22) (.tmp 23) rfl (fk_val (K.dep 1 22 rfl) (Fk.mono _ _ _ _ hvs (bl.trans (Below.mono K.grow bl.size)))) (i) (x) (K.dep 2 23 rfl) hxi
  · exact st_loadh (.tmp 24) rfl (K.dep 3 24 rfl)
  · exact st_bh1 (.tmp 25) rfl hx (K.dep 4 25 rfl)
  intro f9 w9 A hb
  replace bl0 := bl
  replace x0 := (A.old 0 rfl).trans x0
  replace x2 := (A.old 2 rfl).trans x2
  replace x9 := (A.old 9 rfl).trans x9
  replace x3 := f_at (A.old 3 rfl) (Fk.mono _ _ _ _ x3 hb)
  replace x13 := (A.old 13 rfl).trans x13
  replace x14 := (A.old 14 rfl).trans x14
  replace x15 := (A.old 15 rfl).trans x15
  replace x16 := (A.old 16 rfl).trans x16
  replace x5 := (A.old 5 rfl).trans x5
  replace x20 := (A.old 20 rfl).trans x20
  have x21 : Fk.f (.ow w4.heap.size (stc l k)) (f9.eval (.tmp 21)) w9 := A.has 0 21 rfl
  have x26 : Fk.f (.hs ([x])) (f9.eval (.tmp 26)) w9 := A.has 5 26 rfl
  replace bl := (bl.trans (Below.mono hb bl.size))
  replace sz := A.size.trans sz
  replace df := A.defs.trans df
  clear A hb
  refine wl_append rfl (.tmp 21) (.tmp 26) rfl 27 rfl (by rw [sz]; decide) x21 x26 bl (by omega) ?_
  intro f10 w10 df2 sz2 old2 new2 bl2
  clear x3
  clear x21
  clear x26
  replace x0 := (old2 0 rfl).trans x0
  replace x2 := (old2 2 rfl).trans x2
  replace x9 := (old2 9 rfl).trans x9
  replace x13 := (old2 13 rfl).trans x13
  replace x14 := (old2 14 rfl).trans x14
  replace x15 := (old2 15 rfl).trans x15
  replace x16 := (old2 16 rfl).trans x16
  replace x5 := (old2 5 rfl).trans x5
  replace x20 := (old2 20 rfl).trans x20
  have x27 : Fk.f (.ow w4.heap.size (stc l k ++ [x])) (f10.eval (.tmp 27)) w10 := new2
  replace bl := bl2
  replace bl0 := bl
  replace sz := sz2.trans sz
  replace df := df2.trans df
  clear df2 sz2 old2 new2 bl2
  refine wl_one (.ow w4.heap.size (stc l k ++ [x])) rfl 3 rfl (by rw [sz]; decide) (st_assign (.tmp 27) rfl x27) ?_
  intro f11 w11 df2 sz2 old2 new2 hb
  replace bl0 := bl
  replace x0 := (old2 0 rfl).trans x0
  replace x2 := (old2 2 rfl).trans x2
  replace x9 := (old2 9 rfl).trans x9
  replace x13 := (old2 13 rfl).trans x13
  replace x14 := (old2 14 rfl).trans x14
  replace x15 := (old2 15 rfl).trans x15
  replace x16 := (old2 16 rfl).trans x16
  replace x5 := (old2 5 rfl).trans x5
  replace x20 := (old2 20 rfl).trans x20
  replace x27 := f_at (old2 27 rfl) (Fk.mono _ _ _ _ x27 hb)
  have x3 : Fk.f (.ow w4.heap.size (stc l k ++ [x])) (f11.eval (.tmp 3)) w11 := new2
  replace bl := (bl.trans (Below.mono hb bl.size))
  replace sz := sz2.trans sz
  replace df := df2.trans df
  clear df2 sz2 old2 new2 hb
  refine wpList_nil ?_
  clear x27
  show Code.wp _ _ _ _ _
  refine wp_exit ?_
  show Code.wp _ _ _ _ _
  -- R13
  refine wp_region_seq [.eq (.int .i64 ((k + 1 : Nat) : Int))] (by kernel_rfl) (by kernel_rfl) (by rw [sz]; kernel_rfl) (by kernel_rfl) ⟨fun hw ac u K => ?_, trivial⟩ ?_
  · exact st_add (.tmp 15) (.const (.int .i64 1)) rfl (k) (1) (k + 1) ((K.old 15 rfl).trans x15) rfl (by omega) (by omega)
  intro f12 w12 A hb
  replace bl0 := bl
  replace x0 := (A.old 0 rfl).trans x0
  replace x2 := (A.old 2 rfl).trans x2
  replace x9 := (A.old 9 rfl).trans x9
  replace x13 := (A.old 13 rfl).trans x13
  replace x14 := (A.old 14 rfl).trans x14
  replace x15 := (A.old 15 rfl).trans x15
  replace x16 := (A.old 16 rfl).trans x16
  replace x5 := (A.old 5 rfl).trans x5
  replace x20 := (A.old 20 rfl).trans x20
  replace x3 := f_at (A.old 3 rfl) (Fk.mono _ _ _ _ x3 hb)
  have x49 : f12.eval (.tmp 49) = .int .i64 ((k + 1 : Nat) : Int) := A.has 0 49 rfl
  replace bl := (bl.trans (Below.mono hb bl.size))
  replace sz := A.size.trans sz
  replace df := A.defs.trans df
  clear A hb
  refine wl_one (.eq (.int .i64 ((k + 1 : Nat) : Int))) rfl 15 rfl (by rw [sz]; decide) (st_move (.tmp 49) rfl x49) ?_
  intro f13 w13 df2 sz2 old2 new2 hb
  replace bl0 := bl
  replace x0 := (old2 0 rfl).trans x0
  replace x2 := (old2 2 rfl).trans x2
  replace x9 := (old2 9 rfl).trans x9
  replace x13 := (old2 13 rfl).trans x13
  replace x14 := (old2 14 rfl).trans x14
  clear x15
  replace x16 := (old2 16 rfl).trans x16
  replace x5 := (old2 5 rfl).trans x5
  replace x20 := (old2 20 rfl).trans x20
  replace x3 := f_at (old2 3 rfl) (Fk.mono _ _ _ _ x3 hb)
  replace x49 := (old2 49 rfl).trans x49
  have x15 : f13.eval (.tmp 15) = .int .i64 ((k + 1 : Nat) : Int) := new2
  replace bl := (bl.trans (Below.mono hb bl.size))
  replace sz := sz2.trans sz
  replace df := df2.trans df
  clear df2 sz2 old2 new2 hb
  refine wpList_nil ?_
  clear x49
  show (∃ _, _) ∧ _
  replace x3 : Fk.f (.ow w4.heap.size (stc l (k + 1))) (f13.eval (.tmp 3)) w13 := (by rw [hst]; exact x3)
  refine ⟨⟨k + 1, by omega, sz, df, x0, x2, x9, x13, x14, x15, x3, bl⟩, ?_⟩
  rw [show f13.eval (.tmp 15) = _ from x15, show _ = _ from hcnt]
  simp [intOf]
  omega
theorem lroot_any {l : List (List (BitVec 8))} (h400 : l.length ≤ 400) (w : World) {v : Value} (hv : (Fk.hc l).f v w) (hK : Tab w) {y : List (BitVec 8)} (ey : Box (mroot l = y)) :
    Calls Tryd.prog 9 #[v] w fun e w' => e = .returned (.agg ((y).map V).toArray) ∧ Below w.heap.size w w' := by
  by_cases h0 : l.length = 0
  · obtain rfl := List.eq_nil_of_length_eq_zero h0
    exact lroot_nil w hv hK ey
  · exact lroot_pos (by omega) h400 w hv hK ey
end Go.Proofs.YtfbfngblocfdlaaDoor
namespace Go.Proofs.YtfbfngblocfdlaaDoor
set_option maxRecDepth 100000
open Go.RowKit
theorem sgm_at {l : List (List (BitVec 8))} {a n i : Nat} {x : List (BitVec 8)} (h : (sgm l a n)[i]? = some x) : l[a + i]? = some x := by
  unfold sgm at h
  rw [List.getElem?_take] at h
  split at h
  · rw [List.getElem?_drop] at h; exact h
  · cases h
theorem sgm_len2 {l : List (List (BitVec 8))} {a b : Nat} (h : b ≤ l.length) : (sgm l a (b - a)).length = b - a := by
  unfold sgm
  rw [List.length_take, List.length_drop]; omega
theorem st_cut2 {Q : Exit → Act → World → Prop} {o : Oper} {a : Act} {w : World} (x y z : Operand) (ho : o.op = .slice 22 x (some y) (some z) none) {hs : List (List (BitVec 8))} (h : (Fk.hc hs).f (a.eval x) w) (m n : Nat) (hy : a.eval y = .int .i64 (m : Int)) (hz : a.eval z = .int .i64 (n : Int)) (hm : m ≤ n) (hn : n ≤ hs.length) : o.wp Tryd.prog a w (Ends a o.dst w (Fk.hc (sgm hs m (n - m))).f) Q := by
  obtain ⟨A, C, lb, lo, e, hc, hl⟩ := h
  have hln := sgm_len2 (a := m) hn
  refine st_pure (v := sliced A m n C 32) ?_ ⟨if C = m then A else A.map (·.add (m * 32)), C - m, lb, lo + m * 32, ?_, ?_, fun hp => ?_, fun hp => ?_, fun i x hi => ?_⟩
  · have h1 := run_slice_lh (P := Tryd.prog) (w := w) 22 A hs.length C (by rw [Tryd.elem22]; exact Tryd.under22') .i64 .i64 (m : Int) (n : Int) (by omega) (by omega) (by omega)
    rw [Tryd.elem22, Tryd.sizeOf24] at h1
    simp only [Result.andThen_ok, Int.toNat_natCast] at h1
    have h2 := run_sliceAt_slice (P := Tryd.prog) (w := w) 22 (.slice A hs.length C) (some (.int .i64 (m : Int))) (some (.int .i64 (n : Int))) none (by rw [Tryd.elem22]; exact Tryd.under22')
    unfold execOp
    rw [ho]
    simp [e, hy, hz, h2, h1]
  · rw [hln]; rfl
  · rw [hln]; omega
  · rw [hln] at hp
    rw [if_neg (by omega), hl.ptr (by omega)]
    simp [Addr.add_mid]
  · rw [hln] at hp
    exact hl.lt (by omega)
  · have := hl.all (m + i) x (sgm_at hi)
    rw [Nat.add_mul, ← Nat.add_assoc] at this
    exact this
theorem rts_succ (l : List (List (BitVec 8))) {P : List (Nat × Nat)} {k : Nat} {p : Nat × Nat} (h : P[k]? = some p) : rts l (P.take (k + 1)) = rts l (P.take k) ++ [mroot (sgm l p.1 (p.2 - p.1))] := by
  rw [List.take_add_one, h, rts_append]
  rfl
theorem rts_len (l : List (List (BitVec 8))) (P : List (Nat × Nat)) : (rts l P).length = P.length := List.length_map _
theorem sgm_mem {l : List (List (BitVec 8))} {a n : Nat} {x : List (BitVec 8)} (h : x ∈ sgm l a n) : x ∈ l := by
  unfold sgm at h
  exact List.mem_of_mem_drop (List.mem_of_mem_take h)
theorem st_idxa {Q : Exit → Act → World → Prop} {o : Oper} {a : Act} {w : World} {T : TypeId} (x y : Operand) (ho : o.op = .indexAddr T x y) {p r : Addr} (hx : a.eval x = .pointer (some p)) (hr : (Instr.indexAt T (.pointer (some p)) (a.eval y)).run Tryd.prog w = .ok (.pointer (some r)) w) : o.wp Tryd.prog a w (Ends a o.dst w (Fk.eq (.pointer (some r))).f) Q := by
  refine st_pure (v := .pointer (some r)) ?_ rfl
  unfold execOp
  rw [ho]
  simp [hx, hr]
theorem roots_any {l : List (List (BitVec 8))} {P : List (Nat × Nat)} (h400 : l.length ≤ 400) (hPl : P.length ≤ 500) (hin : ∀ p ∈ P, p.1 ≤ p.2 ∧ p.2 ≤ l.length) (w : World) {v u : Value} (hv : (Fk.hc l).f v w) (hP : (Fk.ps P).f u w) (hK : Tab w) :
    Calls Tryd.prog 17 #[v, u] w fun e w' => ∃ r, e = .returned r ∧ (Fk.ow w.heap.size (rts l P)).f r w' ∧ Below w.heap.size w w' := by
  go_enter Tryd.func17, Tryd.ntmps17
  refine code_both (fun f w1 => f.tmps.size = 26 ∧ f.defers = [] ∧ f.eval (.tmp 0) = v ∧ f.eval (.tmp 1) = u ∧ Below w.heap.size w (w1)) ⟨rfl, rfl, rfl, rfl, Below.refl _ _⟩ ?_
  rintro f0 w0 ⟨sz, df, x0, x1, bl⟩
  have bl0 := bl
  refine wp_seq ?_
  -- R0
  refine wp_all_seq [.eq (.slice none 0 0)] (by kernel_rfl) (by kernel_rfl) (by rw [sz]; kernel_rfl) (by kernel_rfl) ⟨fun hw ac u K => ?_, trivial⟩ ?_
  · exact st_assign (.const (.slice none 0 0)) rfl rfl
  intro f1 w1 A hb
  replace bl0 := bl
  replace x0 := (A.old 0 rfl).trans x0
  replace x1 := (A.old 1 rfl).trans x1
  have x4 : f1.eval (.tmp 4) = .slice none 0 0 := A.has 0 4 rfl
  replace bl := (bl.trans (Below.mono hb bl.size))
  replace sz := A.size.trans sz
  replace df := A.defs.trans df
  clear A hb
  show Code.wp _ _ _ _ _
  refine wp_seq ?_
  -- R1
  refine wp_all_seq [.ow w.heap.size ([])] (by kernel_rfl) (by kernel_rfl) (by rw [sz]; kernel_rfl) (by kernel_rfl) ⟨fun hw ac u K => ?_, trivial⟩ ?_
  · exact st_assign (.const (.slice none 0 0)) rfl (ow_nil _ _)
  intro f2 w2 A hb
  replace bl0 := bl
  replace x0 := (A.old 0 rfl).trans x0
  replace x1 := (A.old 1 rfl).trans x1
  replace x4 := (A.old 4 rfl).trans x4
  have x5 : Fk.f (.ow w.heap.size ([])) (f2.eval (.tmp 5)) w2 := A.has 0 5 rfl
  replace bl := (bl.trans (Below.mono hb bl.size))
  replace sz := A.size.trans sz
  replace df := A.defs.trans df
  clear A hb
  show Code.wp _ _ _ _ _
  refine wp_seq ?_
  refine wp_seq ?_
  -- R2
  refine wp_all_seq [.eq (u), .eq (.int .i64 (((P).length : Nat) : Int)), .eq (.int .i64 0)] (by kernel_rfl) (by kernel_rfl) (by rw [sz]; kernel_rfl) (by kernel_rfl) ⟨fun hw ac u K => ?_, fun hw ac u K => ?_, fun hw ac u K => ?_, trivial⟩ ?_
  · exact st_move (.tmp 1) rfl ((K.old 1 rfl).trans x1)
  · exact st_lenps (.tmp 8) rfl (fk_val (K.dep 0 8 rfl) (Fk.mono _ _ _ _ hP (bl.trans (Below.mono K.grow bl.size))))
  · exact st_move (.const (.int .i64 0)) rfl rfl
  intro f3 w3 A hb
  replace bl0 := bl
  replace x0 := (A.old 0 rfl).trans x0
  replace x1 := (A.old 1 rfl).trans x1
  replace x4 := (A.old 4 rfl).trans x4
  replace x5 := f_at (A.old 5 rfl) (Fk.mono _ _ _ _ x5 hb)
  have x8 : f3.eval (.tmp 8) = u := A.has 0 8 rfl
  have x9 : f3.eval (.tmp 9) = .int .i64 (((P).length : Nat) : Int) := A.has 1 9 rfl
  have x10 : f3.eval (.tmp 10) = .int .i64 0 := A.has 2 10 rfl
  replace bl := (bl.trans (Below.mono hb bl.size))
  replace sz := A.size.trans sz
  replace df := A.defs.trans df
  clear A hb
  clear x1
  show Code.wp _ _ _ _ _
  refine wp_block ?_
  refine wp_loop (fun f v1 => ∃ k : Nat, k ≤ (P).length ∧ f.tmps.size = 26 ∧ f.defers = [] ∧ f.eval (.tmp 0) = v ∧ f.eval (.tmp 4) = .slice none 0 0 ∧ f.eval (.tmp 8) = u ∧ f.eval (.tmp 9) = .int .i64 (((P).length : Nat) : Int) ∧ f.eval (.tmp 10) = .int .i64 ((k : Nat) : Int) ∧ Fk.f (.ow w.heap.size (rts l (P.take k))) (f.eval (.tmp 5)) v1 ∧ Below w.heap.size w (v1)) (fun f _ => (P).length - (intOf (f.eval (.tmp 10))).toNat) ⟨0, Nat.zero_le _, sz, df, x0, x4, x8, x9, x10, x5, bl⟩ ?_
  intro f4 w4 hI
  clear sz df bl bl0 x0 x4 x5 x8 x9 x10
  obtain ⟨k, hk, sz, df, x0, x4, x8, x9, x10, x5, bl⟩ := hI
  have bl0 := bl
  have hcnt := x10
  refine wp_seq ?_
  by_cases hlt : k < (P).length
  rotate_left
  · skip
    have hke : k = (P).length := by omega
    rw [List.take_of_length_le (by omega)] at x5
    -- R3
    refine wp_all_seq [.eq (.bool false)] (by kernel_rfl) (by kernel_rfl) (by rw [sz]; kernel_rfl) (by kernel_rfl) ⟨fun hw ac u K => ?_, trivial⟩ ?_
    · exact st_lss 3 (.tmp 10) (.tmp 9) rfl .i64 (((k : Nat) : Int)) ((((P).length : Nat) : Int)) ((K.old 10 rfl).trans x10) ((K.old 9 rfl).trans x9) _ (by rw [eq_comm, decide_eq_false_iff_not]; exact fun h => hlt (Int.ofNat_lt.1 h))
    intro f5 w5 A hb
    replace bl0 := bl
    replace x0 := (A.old 0 rfl).trans x0
    replace x4 := (A.old 4 rfl).trans x4
    replace x5 := f_at (A.old 5 rfl) (Fk.mono _ _ _ _ x5 hb)
    replace x8 := (A.old 8 rfl).trans x8
    replace x9 := (A.old 9 rfl).trans x9
    replace x10 := (A.old 10 rfl).trans x10
    have x11 : f5.eval (.tmp 11) = .bool false := A.has 0 11 rfl
    replace bl := (bl.trans (Below.mono hb bl.size))
    replace sz := A.size.trans sz
    replace df := A.defs.trans df
    clear A hb
    show Code.wp _ _ _ _ _
    refine wp_seq ?_
    refine wp_cond_false x11 ?_
    refine wp_exit ?_
    show Code.wp _ _ _ _ _
    refine wp_seq ?_
    -- R7
    refine wp_all_seq [.ow w.heap.size (rts l P), .ow w.heap.size (rts l P)] (by kernel_rfl) (by kernel_rfl) (by rw [sz]; kernel_rfl) (by kernel_rfl) ⟨fun hw ac u K => ?_, fun hw ac u K => ?_, trivial⟩ ?_
    · exact st_move (.tmp 5) rfl (f_at (K.old 5 rfl) (Fk.mono _ _ _ _ x5 K.grow))
    · exact st_assign (.tmp 25) rfl (K.dep 0 25 rfl)
    intro f6 w6 A hb
    replace bl0 := bl
    replace x0 := (A.old 0 rfl).trans x0
    clear x4
    replace x5 := f_at (A.old 5 rfl) (Fk.mono _ _ _ _ x5 hb)
    replace x8 := (A.old 8 rfl).trans x8
    replace x9 := (A.old 9 rfl).trans x9
    replace x10 := (A.old 10 rfl).trans x10
    replace x11 := (A.old 11 rfl).trans x11
    have x4 : Fk.f (.ow w.heap.size (rts l P)) (f6.eval (.tmp 4)) w6 := A.has 1 4 rfl
    replace bl := (bl.trans (Below.mono hb bl.size))
    replace sz := A.size.trans sz
    replace df := A.defs.trans df
    clear A hb
    show Code.wp _ _ _ _ _
    refine wp_ret ?_
    repeat (first | with_reducible refine then_ret ?_ | with_reducible refine block_ret ?_)
    exact bodyPost_ret (v := f6.eval (.tmp 4)) (ret_slot rfl f6 _ rfl _ _) df ⟨_, rfl, x4, bl⟩
  obtain ⟨p, hpk⟩ : ∃ p, P[k]? = some p := ⟨_, List.getElem?_eq_getElem hlt⟩
  obtain ⟨hp1, hp2⟩ := hin p (List.mem_of_getElem? hpk)
  obtain ⟨y, ey⟩ : ∃ y, Box (mroot (sgm l p.1 (p.2 - p.1)) = y) := ⟨_, ⟨rfl⟩⟩
  have hy : y.length = 32 := by rw [← ey.out]; exact mroot_len (fun x hx => hc_len hv x (sgm_mem hx))
  -- R3
  refine wp_all_seq [.eq (.bool true)] (by kernel_rfl) (by kernel_rfl) (by rw [sz]; kernel_rfl) (by kernel_rfl) ⟨fun hw ac u K => ?_, trivial⟩ ?_
  · exact st_lss 3 (.tmp 10) (.tmp 9) rfl .i64 (((k : Nat) : Int)) ((((P).length : Nat) : Int)) ((K.old 10 rfl).trans x10) ((K.old 9 rfl).trans x9) _ (by rw [eq_comm, decide_eq_true_iff]; exact Int.ofNat_lt.2 hlt)
  intro f5 w5 A hb
  replace bl0 := bl
  replace x0 := (A.old 0 rfl).trans x0
  replace x4 := (A.old 4 rfl).trans x4
  replace x5 := f_at (A.old 5 rfl) (Fk.mono _ _ _ _ x5 hb)
  replace x8 := (A.old 8 rfl).trans x8
  replace x9 := (A.old 9 rfl).trans x9
  replace x10 := (A.old 10 rfl).trans x10
  have x11 : f5.eval (.tmp 11) = .bool true := A.has 0 11 rfl
  replace bl := (bl.trans (Below.mono hb bl.size))
  replace sz := A.size.trans sz
  replace df := A.defs.trans df
  clear A hb
  show Code.wp _ _ _ _ _
  refine wp_seq ?_
  refine wp_cond_true x11 ?_
  refine wp_skip ?_
  show Code.wp _ _ _ _ _
  refine wp_seq ?_
  refine wp_block ?_
  refine wp_seq ?_
  -- R4
  refine wp_region_seq [.prg [.int .i64 ((p.1 : Nat) : Int), .int .i64 ((p.2 : Nat) : Int)], .eq (.agg ([.int .i64 ((p.1 : Nat) : Int), .int .i64 ((p.2 : Nat) : Int)] : List Value).toArray)] (by kernel_rfl) (by kernel_rfl) (by rw [sz]; kernel_rfl) (by kernel_rfl) ⟨fun hw ac u K => ?_, fun hw ac u K => ?_, trivial⟩ ?_
  · exact st_idxps (.tmp 8) (.tmp 10) rfl (fk_val ((K.old 8 rfl).trans x8) (Fk.mono _ _ _ _ hP (bl.trans (Below.mono K.grow bl.size)))) k ((K.old 10 rfl).trans x10) p hpk
  · exact st_loadr 56 (.tmp 12) rfl _ (by kernel_rfl) (by kernel_rfl) (K.dep 0 12 rfl)
  intro f6 w6 A hb
  have S_x5 : Fk.f (.ow w.heap.size (rts l (P.take k))) (f6.eval (.tmp 5)) w5 := f_at (A.old 5 rfl) x5
  have hbS0 := Below.refl w5.heap.size w5
  have hbS := hb
  replace bl0 := bl
  replace x0 := (A.old 0 rfl).trans x0
  replace x4 := (A.old 4 rfl).trans x4
  replace x5 := f_at (A.old 5 rfl) (Fk.mono _ _ _ _ x5 hb)
  replace x8 := (A.old 8 rfl).trans x8
  replace x9 := (A.old 9 rfl).trans x9
  replace x10 := (A.old 10 rfl).trans x10
  replace x11 := (A.old 11 rfl).trans x11
  have x13 : f6.eval (.tmp 13) = .agg ([.int .i64 ((p.1 : Nat) : Int), .int .i64 ((p.2 : Nat) : Int)] : List Value).toArray := A.has 1 13 rfl
  replace bl := (bl.trans (Below.mono hb bl.size))
  replace sz := A.size.trans sz
  replace df := A.defs.trans df
  clear A hb
  refine wl_one (.nw w6.heap.size 56 [.int .i64 0, .int .i64 0]) rfl 7 rfl (by rw [sz]; decide) (st_alloc 56 rfl _ _ (by kernel_rfl) (Nat.le_refl _)) ?_
  intro f7 w7 df2 sz2 old2 new2 hb
  replace hbS0 := hbS
  replace hbS := hbS.trans (Below.mono hb hbS.size)
  replace S_x5 := f_at (old2 5 rfl) S_x5
  replace bl0 := bl
  replace x0 := (old2 0 rfl).trans x0
  replace x4 := (old2 4 rfl).trans x4
  replace x5 := f_at (old2 5 rfl) (Fk.mono _ _ _ _ x5 hb)
  replace x8 := (old2 8 rfl).trans x8
  replace x9 := (old2 9 rfl).trans x9
  replace x10 := (old2 10 rfl).trans x10
  replace x11 := (old2 11 rfl).trans x11
  replace x13 := (old2 13 rfl).trans x13
  have x7 : Fk.f (.nw w6.heap.size 56 [.int .i64 0, .int .i64 0]) (f7.eval (.tmp 7)) w7 := new2
  replace bl := (bl.trans (Below.mono hb bl.size))
  replace sz := sz2.trans sz
  replace df := df2.trans df
  clear df2 sz2 old2 new2 hb
  obtain ⟨g7, hg7, e7, m7⟩ := x7
  have x7 := e7
  clear e7
  have hw7 : w.heap.size ≤ g7 := Nat.le_trans bl0.size hg7
  have hs7 := Nat.le_trans hbS0.size hg7
  refine wl_str rfl 56 (.tmp 7) (.tmp 13) rfl rfl (g7) ([.int .i64 ((p.1 : Nat) : Int), .int .i64 ((p.2 : Nat) : Int)] : List Value).toArray x7 x13 56 _ m7 (by kernel_rfl) (by kernel_rfl) (by kernel_rfl) ?_
  replace m7 : Ob (w7.setRow g7 ([.int .i64 ((p.1 : Nat) : Int), .int .i64 ((p.2 : Nat) : Int)] : List Value).toArray) (g7) 56 ([.int .i64 ((p.1 : Nat) : Int), .int .i64 ((p.2 : Nat) : Int)]) := Ob.setRow m7 ([.int .i64 ((p.1 : Nat) : Int), .int .i64 ((p.2 : Nat) : Int)])
  replace hbS : Below _ _ (w7.setRow g7 ([.int .i64 ((p.1 : Nat) : Int), .int .i64 ((p.2 : Nat) : Int)] : List Value).toArray) := hbS.trans (below_setRow _ _ _ _ hs7)
  replace bl : Below w.heap.size w (w7.setRow g7 ([.int .i64 ((p.1 : Nat) : Int), .int .i64 ((p.2 : Nat) : Int)] : List Value).toArray) := bl.trans (below_setRow _ _ _ _ hw7)
  generalize w7.setRow g7 ([.int .i64 ((p.1 : Nat) : Int), .int .i64 ((p.2 : Nat) : Int)] : List Value).toArray = w8b at bl m7 hbS ⊢
  replace x5 : Fk.f (.ow w.heap.size (rts l (P.take k))) (f7.eval (.tmp 5)) w8b := Fk.mono _ _ _ _ S_x5 hbS
  refine wpList_nil ?_
  clear hbS hbS0 S_x5
  clear x13
  show Code.wp _ _ _ _ _
  -- R5
  refine wp_region_seq [.ow w.heap.size (rts l (P.take k)), .eq (v), .eq (.pointer (some ⟨g7, 0, none⟩)), .eq (.int .i64 ((p.1 : Nat) : Int)), .eq (.pointer (some ⟨g7, 1, none⟩)), .eq (.int .i64 ((p.2 : Nat) : Int)), .hc (sgm l p.1 (p.2 - p.1)), .eq (.agg ((y).map V).toArray), .hs ([y])] (by kernel_rfl) (by kernel_rfl) (by rw [sz]; kernel_rfl) (by kernel_rfl) ⟨fun hw ac u K => ?_, fun hw ac u K => ?_, fun hw ac u K => ?_, fun hw ac u K => ?_, fun hw ac u K => ?_, fun hw ac u K => ?_, fun hw ac u K => ?_, fun hw ac u K => ?_, fun hw ac u K => ?_, trivial⟩ ?_
  · exact st_move (.tmp 5) rfl (f_at (K.old 5 rfl) (Fk.mono _ _ _ _ x5 K.grow))
  · exact st_move (.tmp 0) rfl ((K.old 0 rfl).trans x0)
  · exact st_idxa (.tmp 7) (.const (.int .i64 0)) rfl ((K.old 7 rfl).trans x7) (by kernel_rfl)
  · exact st_loadc 3 (.tmp 16) rfl (by kernel_rfl) (K.dep 2 16 rfl) (Ob.cell (Ob.below m7 K.grow) 0 rfl)
  · exact st_idxa (.tmp 7) (.const (.int .i64 1)) rfl ((K.old 7 rfl).trans x7) (by kernel_rfl)
  · exact st_loadc 3 (.tmp 18) rfl (by kernel_rfl) (K.dep 4 18 rfl) (Ob.cell (Ob.below m7 K.grow) 1 rfl)
  · exact st_cut2 (.tmp 15) (.tmp 17) (.tmp 19) rfl (fk_val (K.dep 1 15 rfl) (Fk.mono _ _ _ _ hv (bl.trans (Below.mono K.grow bl.size)))) p.1 p.2 (K.dep 3 17 rfl) (K.dep 5 19 rfl) hp1 hp2
  · exact st_call 9 (.func 9) _ _ #[ac.eval (.tmp 20)] rfl rfl (one_arg rfl) Tryd.enter9 (fk_of (lroot_any (by rw [sgm_len2 hp2]; omega) _ (K.dep 6 20 rfl) (hK.below (bl.trans (Below.mono K.grow bl.size))) ey))
  · exact st_bh1 (.tmp 21) rfl hy (K.dep 7 21 rfl)
  intro f9 w9 A hb
  replace bl0 := bl
  replace x0 := (A.old 0 rfl).trans x0
  replace x4 := (A.old 4 rfl).trans x4
  replace x5 := f_at (A.old 5 rfl) (Fk.mono _ _ _ _ x5 hb)
  replace x8 := (A.old 8 rfl).trans x8
  replace x9 := (A.old 9 rfl).trans x9
  replace x10 := (A.old 10 rfl).trans x10
  replace x11 := (A.old 11 rfl).trans x11
  replace x7 := (A.old 7 rfl).trans x7
  have x14 : Fk.f (.ow w.heap.size (rts l (P.take k))) (f9.eval (.tmp 14)) w9 := A.has 0 14 rfl
  have x22 : Fk.f (.hs ([y])) (f9.eval (.tmp 22)) w9 := A.has 8 22 rfl
  have lt_m7 := Ob.lt m7
  replace m7 := Ob.below m7 hb
  replace bl := (bl.trans (Below.mono hb bl.size))
  replace sz := A.size.trans sz
  replace df := A.defs.trans df
  clear A hb
  refine wl_append rfl (.tmp 14) (.tmp 22) rfl 23 rfl (by rw [sz]; decide) x14 x22 bl (by rw [rts_len, List.length_take]; omega) ?_
  intro f10 w10 df2 sz2 old2 new2 bl2
  clear x5
  clear x14
  clear x22
  replace x0 := (old2 0 rfl).trans x0
  replace x4 := (old2 4 rfl).trans x4
  replace x8 := (old2 8 rfl).trans x8
  replace x9 := (old2 9 rfl).trans x9
  replace x10 := (old2 10 rfl).trans x10
  replace x11 := (old2 11 rfl).trans x11
  replace x7 := (old2 7 rfl).trans x7
  clear m7
  have x23 : Fk.f (.ow w.heap.size (rts l (P.take k) ++ [y])) (f10.eval (.tmp 23)) w10 := new2
  replace bl := bl2
  replace bl0 := bl
  replace sz := sz2.trans sz
  replace df := df2.trans df
  clear df2 sz2 old2 new2 bl2
  refine wl_one (.ow w.heap.size (rts l (P.take k) ++ [y])) rfl 5 rfl (by rw [sz]; decide) (st_assign (.tmp 23) rfl x23) ?_
  intro f11 w11 df2 sz2 old2 new2 hb
  replace bl0 := bl
  replace x0 := (old2 0 rfl).trans x0
  replace x4 := (old2 4 rfl).trans x4
  replace x8 := (old2 8 rfl).trans x8
  replace x9 := (old2 9 rfl).trans x9
  replace x10 := (old2 10 rfl).trans x10
  replace x11 := (old2 11 rfl).trans x11
  replace x7 := (old2 7 rfl).trans x7
  replace x23 := f_at (old2 23 rfl) (Fk.mono _ _ _ _ x23 hb)
  have x5 : Fk.f (.ow w.heap.size (rts l (P.take k) ++ [y])) (f11.eval (.tmp 5)) w11 := new2
  replace bl := (bl.trans (Below.mono hb bl.size))
  replace sz := sz2.trans sz
  replace df := df2.trans df
  clear df2 sz2 old2 new2 hb
  refine wpList_nil ?_
  clear x23
  show Code.wp _ _ _ _ _
  -- R6
  refine wp_region_seq [.eq (.int .i64 ((k + 1 : Nat) : Int))] (by kernel_rfl) (by kernel_rfl) (by rw [sz]; kernel_rfl) (by kernel_rfl) ⟨fun hw ac u K => ?_, trivial⟩ ?_
  · exact st_add (.tmp 10) (.const (.int .i64 1)) rfl (k) (1) (k + 1) ((K.old 10 rfl).trans x10) rfl (by omega) (by omega)
  intro f12 w12 A hb
  replace bl0 := bl
  replace x0 := (A.old 0 rfl).trans x0
  replace x4 := (A.old 4 rfl).trans x4
  replace x8 := (A.old 8 rfl).trans x8
  replace x9 := (A.old 9 rfl).trans x9
  replace x10 := (A.old 10 rfl).trans x10
  replace x11 := (A.old 11 rfl).trans x11
  replace x7 := (A.old 7 rfl).trans x7
  replace x5 := f_at (A.old 5 rfl) (Fk.mono _ _ _ _ x5 hb)
  have x24 : f12.eval (.tmp 24) = .int .i64 ((k + 1 : Nat) : Int) := A.has 0 24 rfl
  replace bl := (bl.trans (Below.mono hb bl.size))
  replace sz := A.size.trans sz
  replace df := A.defs.trans df
  clear A hb
  refine wl_one (.eq (.int .i64 ((k + 1 : Nat) : Int))) rfl 10 rfl (by rw [sz]; decide) (st_move (.tmp 24) rfl x24) ?_
  intro f13 w13 df2 sz2 old2 new2 hb
  replace bl0 := bl
  replace x0 := (old2 0 rfl).trans x0
  replace x4 := (old2 4 rfl).trans x4
  replace x8 := (old2 8 rfl).trans x8
  replace x9 := (old2 9 rfl).trans x9
  clear x10
  replace x11 := (old2 11 rfl).trans x11
  replace x7 := (old2 7 rfl).trans x7
  replace x5 := f_at (old2 5 rfl) (Fk.mono _ _ _ _ x5 hb)
  replace x24 := (old2 24 rfl).trans x24
  have x10 : f13.eval (.tmp 10) = .int .i64 ((k + 1 : Nat) : Int) := new2
  replace bl := (bl.trans (Below.mono hb bl.size))
  replace sz := sz2.trans sz
  replace df := df2.trans df
  clear df2 sz2 old2 new2 hb
  refine wpList_nil ?_
  clear x24
  show (∃ _, _) ∧ _
  replace x5 : Fk.f (.ow w.heap.size (rts l (P.take (k + 1)))) (f13.eval (.tmp 5)) w13 := (by rw [rts_succ l hpk, ey.out]; exact x5)
  refine ⟨⟨k + 1, by omega, sz, df, x0, x4, x8, x9, x10, x5, bl⟩, ?_⟩
  rw [show f13.eval (.tmp 10) = _ from x10, show _ = _ from hcnt]
  simp [intOf]
  omega
theorem take_succ_eq {A B : List (List (BitVec 8))} {k : Nat} {x : List (BitVec 8)} (h : A.take k = B.take k) (ha : A[k]? = some x) (hb : B[k]? = some x) : A.take (k + 1) = B.take (k + 1) := by
  rw [List.take_add_one, List.take_add_one, ha, hb, h]
theorem neq_at {A B : List (List (BitVec 8))} {k : Nat} {x y : List (BitVec 8)} (ha : A[k]? = some x) (hb : B[k]? = some y) (h : x ≠ y) : A ≠ B := by
  intro e
  rw [e, hb] at ha
  exact h (Option.some.inj ha).symm
theorem same_any {A0 B0 : List (List (BitVec 8))} {va vb : Value} (hA0 : A0.length ≤ 100000) (w : World) (hA : (Fk.hs A0).f va w) (hB : (Fk.hs B0).f vb w) (r : Bool) (hr : r = decide (A0 = B0)) :
    Calls Tryd.prog 16 #[va, vb] w fun e w' => e = .returned (.bool r) ∧ Below w.heap.size w w' := by
  go_enter Tryd.func16, Tryd.ntmps16
  refine code_both (fun f w1 => f.tmps.size = 26 ∧ f.defers = [] ∧ f.eval (.tmp 0) = va ∧ f.eval (.tmp 1) = vb ∧ Below w.heap.size w (w1)) ⟨rfl, rfl, rfl, rfl, Below.refl _ _⟩ ?_
  rintro f0 w0 ⟨sz, df, x0, x1, bl⟩
  have bl0 := bl
  refine wp_seq ?_
  -- R0
  refine wp_all_seq [.eq (.bool false)] (by kernel_rfl) (by kernel_rfl) (by rw [sz]; kernel_rfl) (by kernel_rfl) ⟨fun hw ac u K => ?_, trivial⟩ ?_
  · exact st_assign (.const (.bool false)) rfl rfl
  intro f1 w1 A hb
  replace bl0 := bl
  replace x0 := (A.old 0 rfl).trans x0
  replace x1 := (A.old 1 rfl).trans x1
  have x4 : f1.eval (.tmp 4) = .bool false := A.has 0 4 rfl
  replace bl := (bl.trans (Below.mono hb bl.size))
  replace sz := A.size.trans sz
  replace df := A.defs.trans df
  clear A hb
  show Code.wp _ _ _ _ _
  refine wp_seq ?_
  refine wp_seq ?_
  by_cases hl : A0.length = B0.length
  rotate_left
  · skip
    obtain rfl : r = false := by rw [hr]; exact decide_eq_false (fun e => hl (by rw [e]))
    -- R1
    refine wp_all_seq [.eq (va), .eq (.int .i64 (((A0).length : Nat) : Int)), .eq (vb), .eq (.int .i64 (((B0).length : Nat) : Int)), .eq (.bool true)] (by kernel_rfl) (by kernel_rfl) (by rw [sz]; kernel_rfl) (by kernel_rfl) ⟨fun hw ac u K => ?_, fun hw ac u K => ?_, fun hw ac u K => ?_, fun hw ac u K => ?_, fun hw ac u K => ?_, trivial⟩ ?_
    · exact st_move (.tmp 0) rfl ((K.old 0 rfl).trans x0)
    · exact st_lenh (.tmp 6) rfl (fk_val (K.dep 0 6 rfl) (Fk.mono _ _ _ _ hA (bl.trans (Below.mono K.grow bl.size))))
    · exact st_move (.tmp 1) rfl ((K.old 1 rfl).trans x1)
    · exact st_lenh (.tmp 8) rfl (fk_val (K.dep 2 8 rfl) (Fk.mono _ _ _ _ hB (bl.trans (Below.mono K.grow bl.size))))
    · exact st_neqi 3 (.tmp 7) (.tmp 9) rfl .i64 ((((A0).length : Nat) : Int)) ((((B0).length : Nat) : Int)) (K.dep 1 7 rfl) (K.dep 3 9 rfl) _ (by rw [eq_comm, decide_eq_true_iff]; omega)
    intro f2 w2 A hb
    replace bl0 := bl
    replace x0 := (A.old 0 rfl).trans x0
    replace x1 := (A.old 1 rfl).trans x1
    replace x4 := (A.old 4 rfl).trans x4
    have x10 : f2.eval (.tmp 10) = .bool true := A.has 4 10 rfl
    replace bl := (bl.trans (Below.mono hb bl.size))
    replace sz := A.size.trans sz
    replace df := A.defs.trans df
    clear A hb
    show Code.wp _ _ _ _ _
    refine wp_cond_true x10 ?_
    refine wp_seq ?_
    -- R2
    refine wp_all_seq [.eq (.bool false)] (by kernel_rfl) (by kernel_rfl) (by rw [sz]; kernel_rfl) (by kernel_rfl) ⟨fun hw ac u K => ?_, trivial⟩ ?_
    · exact st_assign (.const (.bool false)) rfl rfl
    intro f3 w3 A hb
    replace bl0 := bl
    replace x0 := (A.old 0 rfl).trans x0
    replace x1 := (A.old 1 rfl).trans x1
    clear x4
    replace x10 := (A.old 10 rfl).trans x10
    have x4 : f3.eval (.tmp 4) = .bool false := A.has 0 4 rfl
    replace bl := (bl.trans (Below.mono hb bl.size))
    replace sz := A.size.trans sz
    replace df := A.defs.trans df
    clear A hb
    show Code.wp _ _ _ _ _
    refine wp_ret ?_
    repeat (first | with_reducible refine then_ret ?_ | with_reducible refine block_ret ?_)
    exact bodyPost_ret (v := .bool false) (ret_slot rfl f3 _ x4 _ _) df ⟨rfl, bl⟩
  -- R1
  refine wp_all_seq [.eq (va), .eq (.int .i64 (((A0).length : Nat) : Int)), .eq (vb), .eq (.int .i64 (((B0).length : Nat) : Int)), .eq (.bool false)] (by kernel_rfl) (by kernel_rfl) (by rw [sz]; kernel_rfl) (by kernel_rfl) ⟨fun hw ac u K => ?_, fun hw ac u K => ?_, fun hw ac u K => ?_, fun hw ac u K => ?_, fun hw ac u K => ?_, trivial⟩ ?_
  · exact st_move (.tmp 0) rfl ((K.old 0 rfl).trans x0)
  · exact st_lenh (.tmp 6) rfl (fk_val (K.dep 0 6 rfl) (Fk.mono _ _ _ _ hA (bl.trans (Below.mono K.grow bl.size))))
  · exact st_move (.tmp 1) rfl ((K.old 1 rfl).trans x1)
  · exact st_lenh (.tmp 8) rfl (fk_val (K.dep 2 8 rfl) (Fk.mono _ _ _ _ hB (bl.trans (Below.mono K.grow bl.size))))
  · exact st_neqi 3 (.tmp 7) (.tmp 9) rfl .i64 ((((A0).length : Nat) : Int)) ((((B0).length : Nat) : Int)) (K.dep 1 7 rfl) (K.dep 3 9 rfl) _ (by simp [hl])
  intro f2 w2 A hb
  replace bl0 := bl
  replace x0 := (A.old 0 rfl).trans x0
  replace x1 := (A.old 1 rfl).trans x1
  replace x4 := (A.old 4 rfl).trans x4
  have x10 : f2.eval (.tmp 10) = .bool false := A.has 4 10 rfl
  replace bl := (bl.trans (Below.mono hb bl.size))
  replace sz := A.size.trans sz
  replace df := A.defs.trans df
  clear A hb
  show Code.wp _ _ _ _ _
  refine wp_cond_false x10 ?_
  refine wp_skip ?_
  show Code.wp _ _ _ _ _
  refine wp_seq ?_
  refine wp_seq ?_
  -- R3
  refine wp_all_seq [.eq (va), .eq (.int .i64 (((A0).length : Nat) : Int)), .eq (.int .i64 0)] (by kernel_rfl) (by kernel_rfl) (by rw [sz]; kernel_rfl) (by kernel_rfl) ⟨fun hw ac u K => ?_, fun hw ac u K => ?_, fun hw ac u K => ?_, trivial⟩ ?_
  · exact st_move (.tmp 0) rfl ((K.old 0 rfl).trans x0)
  · exact st_lenh (.tmp 11) rfl (fk_val (K.dep 0 11 rfl) (Fk.mono _ _ _ _ hA (bl.trans (Below.mono K.grow bl.size))))
  · exact st_move (.const (.int .i64 0)) rfl rfl
  intro f3 w3 A hb
  replace bl0 := bl
  replace x0 := (A.old 0 rfl).trans x0
  replace x1 := (A.old 1 rfl).trans x1
  replace x4 := (A.old 4 rfl).trans x4
  replace x10 := (A.old 10 rfl).trans x10
  have x12 : f3.eval (.tmp 12) = .int .i64 (((A0).length : Nat) : Int) := A.has 1 12 rfl
  have x13 : f3.eval (.tmp 13) = .int .i64 0 := A.has 2 13 rfl
  replace bl := (bl.trans (Below.mono hb bl.size))
  replace sz := A.size.trans sz
  replace df := A.defs.trans df
  clear A hb
  show Code.wp _ _ _ _ _
  refine wp_block ?_
  refine wp_loop (fun f v1 => ∃ k : Nat, k ≤ A0.length ∧ A0.take k = B0.take k ∧ f.tmps.size = 26 ∧ f.defers = [] ∧ f.eval (.tmp 0) = va ∧ f.eval (.tmp 1) = vb ∧ f.eval (.tmp 4) = .bool false ∧ f.eval (.tmp 10) = .bool false ∧ f.eval (.tmp 12) = .int .i64 (((A0).length : Nat) : Int) ∧ f.eval (.tmp 13) = .int .i64 ((k : Nat) : Int) ∧ Below w.heap.size w (v1)) (fun f _ => A0.length - (intOf (f.eval (.tmp 13))).toNat) ⟨0, Nat.zero_le _, rfl, sz, df, x0, x1, x4, x10, x12, x13, bl⟩ ?_
  intro f4 w4 hI
  clear sz df bl bl0 x0 x1 x4 x10 x12 x13
  obtain ⟨k, hk, heq, sz, df, x0, x1, x4, x10, x12, x13, bl⟩ := hI
  have bl0 := bl
  have hcnt := x13
  refine wp_seq ?_
  by_cases hlt : k < A0.length
  rotate_left
  · skip
    obtain rfl : r = true := by
      rw [hr]
      apply decide_eq_true
      rw [List.take_of_length_le (by omega), List.take_of_length_le (by omega)] at heq
      exact heq
    -- R4
    refine wp_all_seq [.eq (.bool false)] (by kernel_rfl) (by kernel_rfl) (by rw [sz]; kernel_rfl) (by kernel_rfl) ⟨fun hw ac u K => ?_, trivial⟩ ?_
    · exact st_lss 3 (.tmp 13) (.tmp 12) rfl .i64 (((k : Nat) : Int)) ((((A0).length : Nat) : Int)) ((K.old 13 rfl).trans x13) ((K.old 12 rfl).trans x12) _ (by first | (simp; done) | (simp; omega))
    intro f5 w5 A hb
    replace bl0 := bl
    replace x0 := (A.old 0 rfl).trans x0
    replace x1 := (A.old 1 rfl).trans x1
    replace x4 := (A.old 4 rfl).trans x4
    replace x10 := (A.old 10 rfl).trans x10
    replace x12 := (A.old 12 rfl).trans x12
    replace x13 := (A.old 13 rfl).trans x13
    have x14 : f5.eval (.tmp 14) = .bool false := A.has 0 14 rfl
    replace bl := (bl.trans (Below.mono hb bl.size))
    replace sz := A.size.trans sz
    replace df := A.defs.trans df
    clear A hb
    show Code.wp _ _ _ _ _
    refine wp_seq ?_
    refine wp_cond_false x14 ?_
    refine wp_exit ?_
    show Code.wp _ _ _ _ _
    refine wp_seq ?_
    -- R9
    refine wp_all_seq [.eq (.bool true)] (by kernel_rfl) (by kernel_rfl) (by rw [sz]; kernel_rfl) (by kernel_rfl) ⟨fun hw ac u K => ?_, trivial⟩ ?_
    · exact st_assign (.const (.bool true)) rfl rfl
    intro f6 w6 A hb
    replace bl0 := bl
    replace x0 := (A.old 0 rfl).trans x0
    replace x1 := (A.old 1 rfl).trans x1
    clear x4
    replace x10 := (A.old 10 rfl).trans x10
    replace x12 := (A.old 12 rfl).trans x12
    replace x13 := (A.old 13 rfl).trans x13
    replace x14 := (A.old 14 rfl).trans x14
    have x4 : f6.eval (.tmp 4) = .bool true := A.has 0 4 rfl
    replace bl := (bl.trans (Below.mono hb bl.size))
    replace sz := A.size.trans sz
    replace df := A.defs.trans df
    clear A hb
    show Code.wp _ _ _ _ _
    refine wp_ret ?_
    repeat (first | with_reducible refine then_ret ?_ | with_reducible refine block_ret ?_)
    exact bodyPost_ret (v := .bool true) (ret_slot rfl f6 _ x4 _ _) df ⟨rfl, bl⟩
  obtain ⟨x, hxk⟩ : ∃ p, A0[k]? = some p := ⟨_, List.getElem?_eq_getElem hlt⟩
  obtain ⟨y, hyk⟩ : ∃ p, B0[k]? = some p := ⟨_, List.getElem?_eq_getElem (by omega)⟩
  have hx : x.length = 32 := hs_len hA hxk
  have hy : y.length = 32 := hs_len hB hyk
  -- R4
  refine wp_all_seq [.eq (.bool true)] (by kernel_rfl) (by kernel_rfl) (by rw [sz]; kernel_rfl) (by kernel_rfl) ⟨fun hw ac u K => ?_, trivial⟩ ?_
  · exact st_lss 3 (.tmp 13) (.tmp 12) rfl .i64 (((k : Nat) : Int)) ((((A0).length : Nat) : Int)) ((K.old 13 rfl).trans x13) ((K.old 12 rfl).trans x12) _ (by first | (simp; done) | (simp; omega))
  intro f5 w5 A hb
  replace bl0 := bl
  replace x0 := (A.old 0 rfl).trans x0
  replace x1 := (A.old 1 rfl).trans x1
  replace x4 := (A.old 4 rfl).trans x4
  replace x10 := (A.old 10 rfl).trans x10
  replace x12 := (A.old 12 rfl).trans x12
  replace x13 := (A.old 13 rfl).trans x13
  have x14 : f5.eval (.tmp 14) = .bool true := A.has 0 14 rfl
  replace bl := (bl.trans (Below.mono hb bl.size))
  replace sz := A.size.trans sz
  replace df := A.defs.trans df
  clear A hb
  show Code.wp _ _ _ _ _
  refine wp_seq ?_
  refine wp_cond_true x14 ?_
  refine wp_skip ?_
  show Code.wp _ _ _ _ _
  refine wp_seq ?_
  refine wp_block ?_
  refine wp_seq ?_
  -- R5
  refine wp_all_seq [.eq (.int .i64 ((k : Nat) : Int)), .eq (.int .i64 ((k : Nat) : Int))] (by kernel_rfl) (by kernel_rfl) (by rw [sz]; kernel_rfl) (by kernel_rfl) ⟨fun hw ac u K => ?_, fun hw ac u K => ?_, trivial⟩ ?_
  · exact st_move (.tmp 13) rfl ((K.old 13 rfl).trans x13)
  · exact st_assign (.tmp 15) rfl (K.dep 0 15 rfl)
  intro f6 w6 A hb
  replace bl0 := bl
  replace x0 := (A.old 0 rfl).trans x0
  replace x1 := (A.old 1 rfl).trans x1
  replace x4 := (A.old 4 rfl).trans x4
  replace x10 := (A.old 10 rfl).trans x10
  replace x12 := (A.old 12 rfl).trans x12
  replace x13 := (A.old 13 rfl).trans x13
  replace x14 := (A.old 14 rfl).trans x14
  have x5 : f6.eval (.tmp 5) = .int .i64 ((k : Nat) : Int) := A.has 1 5 rfl
  replace bl := (bl.trans (Below.mono hb bl.size))
  replace sz := A.size.trans sz
  replace df := A.defs.trans df
  clear A hb
  show Code.wp _ _ _ _ _
  refine wp_seq ?_
  by_cases hxy : x = y
  rotate_left
  · skip
    obtain rfl : r = false := by rw [hr]; exact decide_eq_false (neq_at hxk hyk hxy)
    -- R6
    refine wp_all [.eq (va), .eq (.int .i64 ((k : Nat) : Int)), .ph (x), .eq (.agg ((x).map V).toArray), .eq (vb), .eq (.int .i64 ((k : Nat) : Int)), .ph (y), .eq (.agg ((y).map V).toArray), .eq (.bool true)] Tryd.mixed (by kernel_rfl) (by kernel_rfl) (by rw [sz]; kernel_rfl) (by kernel_rfl) ⟨fun hw ac u K => ?_, fun hw ac u K => ?_, fun hw ac u K => ?_, fun hw ac u K => ?_, fun hw ac u K => ?_, fun hw ac u K => ?_, fun hw ac u K => ?_, fun hw ac u K => ?_, fun hw ac u K => ?_, trivial⟩ ?_
    · exact st_move (.tmp 0) rfl ((K.old 0 rfl).trans x0)
    · exact st_move (.tmp 5) rfl ((K.old 5 rfl).trans x5)
    · exact st_idxh (.tmp 16) (.tmp 17) rfl (fk_val (K.dep 0 16 rfl) (Fk.mono _ _ _ _ hA (bl.trans (Below.mono K.grow bl.size)))) (k) (x) (K.dep 1 17 rfl) hxk
    · exact st_loadh (.tmp 18) rfl (K.dep 2 18 rfl)
    · exact st_move (.tmp 1) rfl ((K.old 1 rfl).trans x1)
    · exact st_move (.tmp 5) rfl ((K.old 5 rfl).trans x5)
    · exact st_idxh (.tmp 20) (.tmp 21) rfl (fk_val (K.dep 4 20 rfl) (Fk.mono _ _ _ _ hB (bl.trans (Below.mono K.grow bl.size)))) (k) (y) (K.dep 5 21 rfl) hyk
    · exact st_loadh (.tmp 22) rfl (K.dep 6 22 rfl)
    · exact st_neqh (.tmp 19) (.tmp 23) rfl (x) (y) hx hy (K.dep 3 19 rfl) (K.dep 7 23 rfl) _ (by simp [hxy])
    intro f7 w7 A hb
    replace bl0 := bl
    replace x0 := (A.old 0 rfl).trans x0
    replace x1 := (A.old 1 rfl).trans x1
    replace x4 := (A.old 4 rfl).trans x4
    replace x10 := (A.old 10 rfl).trans x10
    replace x12 := (A.old 12 rfl).trans x12
    replace x13 := (A.old 13 rfl).trans x13
    replace x14 := (A.old 14 rfl).trans x14
    replace x5 := (A.old 5 rfl).trans x5
    have x24 : f7.eval (.tmp 24) = .bool true := A.has 8 24 rfl
    replace bl := (bl.trans (Below.mono hb bl.size))
    replace sz := A.size.trans sz
    replace df := A.defs.trans df
    clear A hb
    clear x5
    show Code.wp _ _ _ _ _
    refine wp_cond_true x24 ?_
    refine wp_seq ?_
    -- R7
    refine wp_all_seq [.eq (.bool false)] (by kernel_rfl) (by kernel_rfl) (by rw [sz]; kernel_rfl) (by kernel_rfl) ⟨fun hw ac u K => ?_, trivial⟩ ?_
    · exact st_assign (.const (.bool false)) rfl rfl
    intro f8 w8 A hb
    replace bl0 := bl
    replace x0 := (A.old 0 rfl).trans x0
    replace x1 := (A.old 1 rfl).trans x1
    clear x4
    replace x10 := (A.old 10 rfl).trans x10
    replace x12 := (A.old 12 rfl).trans x12
    replace x13 := (A.old 13 rfl).trans x13
    replace x14 := (A.old 14 rfl).trans x14
    replace x24 := (A.old 24 rfl).trans x24
    have x4 : f8.eval (.tmp 4) = .bool false := A.has 0 4 rfl
    replace bl := (bl.trans (Below.mono hb bl.size))
    replace sz := A.size.trans sz
    replace df := A.defs.trans df
    clear A hb
    show Code.wp _ _ _ _ _
    refine wp_ret ?_
    repeat (first | with_reducible refine then_ret ?_ | with_reducible refine block_ret ?_)
    exact bodyPost_ret (v := .bool false) (ret_slot rfl f8 _ x4 _ _) df ⟨rfl, bl⟩
  -- R6
  refine wp_all [.eq (va), .eq (.int .i64 ((k : Nat) : Int)), .ph (x), .eq (.agg ((x).map V).toArray), .eq (vb), .eq (.int .i64 ((k : Nat) : Int)), .ph (y), .eq (.agg ((y).map V).toArray), .eq (.bool false)] Tryd.mixed (by kernel_rfl) (by kernel_rfl) (by rw [sz]; kernel_rfl) (by kernel_rfl) ⟨fun hw ac u K => ?_, fun hw ac u K => ?_, fun hw ac u K => ?_, fun hw ac u K => ?_, fun hw ac u K => ?_, fun hw ac u K => ?_, fun hw ac u K => ?_, fun hw ac u K => ?_, fun hw ac u K => ?_, trivial⟩ ?_
  · exact st_move (.tmp 0) rfl ((K.old 0 rfl).trans x0)
  · exact st_move (.tmp 5) rfl ((K.old 5 rfl).trans x5)
  · exact st_idxh (.tmp 16) (.tmp 17) rfl (fk_val (K.dep 0 16 rfl) (Fk.mono _ _ _ _ hA (bl.trans (Below.mono K.grow bl.size)))) (k) (x) (K.dep 1 17 rfl) hxk
  · exact st_loadh (.tmp 18) rfl (K.dep 2 18 rfl)
  · exact st_move (.tmp 1) rfl ((K.old 1 rfl).trans x1)
  · exact st_move (.tmp 5) rfl ((K.old 5 rfl).trans x5)
  · exact st_idxh (.tmp 20) (.tmp 21) rfl (fk_val (K.dep 4 20 rfl) (Fk.mono _ _ _ _ hB (bl.trans (Below.mono K.grow bl.size)))) (k) (y) (K.dep 5 21 rfl) hyk
  · exact st_loadh (.tmp 22) rfl (K.dep 6 22 rfl)
  · exact st_neqh (.tmp 19) (.tmp 23) rfl (x) (y) hx hy (K.dep 3 19 rfl) (K.dep 7 23 rfl) _ (by simp [hxy])
  intro f7 w7 A hb
  replace bl0 := bl
  replace x0 := (A.old 0 rfl).trans x0
  replace x1 := (A.old 1 rfl).trans x1
  replace x4 := (A.old 4 rfl).trans x4
  replace x10 := (A.old 10 rfl).trans x10
  replace x12 := (A.old 12 rfl).trans x12
  replace x13 := (A.old 13 rfl).trans x13
  replace x14 := (A.old 14 rfl).trans x14
  replace x5 := (A.old 5 rfl).trans x5
  have x24 : f7.eval (.tmp 24) = .bool false := A.has 8 24 rfl
  replace bl := (bl.trans (Below.mono hb bl.size))
  replace sz := A.size.trans sz
  replace df := A.defs.trans df
  clear A hb
  clear x5
  show Code.wp _ _ _ _ _
  refine wp_cond_false x24 ?_
  refine wp_skip ?_
  show Code.wp _ _ _ _ _
  -- R8
  refine wp_region_seq [.eq (.int .i64 ((k + 1 : Nat) : Int))] (by kernel_rfl) (by kernel_rfl) (by rw [sz]; kernel_rfl) (by kernel_rfl) ⟨fun hw ac u K => ?_, trivial⟩ ?_
  · exact st_add (.tmp 13) (.const (.int .i64 1)) rfl (k) (1) (k + 1) ((K.old 13 rfl).trans x13) rfl (by omega) (by omega)
  intro f8 w8 A hb
  replace bl0 := bl
  replace x0 := (A.old 0 rfl).trans x0
  replace x1 := (A.old 1 rfl).trans x1
  replace x4 := (A.old 4 rfl).trans x4
  replace x10 := (A.old 10 rfl).trans x10
  replace x12 := (A.old 12 rfl).trans x12
  replace x13 := (A.old 13 rfl).trans x13
  replace x14 := (A.old 14 rfl).trans x14
  replace x24 := (A.old 24 rfl).trans x24
  have x25 : f8.eval (.tmp 25) = .int .i64 ((k + 1 : Nat) : Int) := A.has 0 25 rfl
  replace bl := (bl.trans (Below.mono hb bl.size))
  replace sz := A.size.trans sz
  replace df := A.defs.trans df
  clear A hb
  refine wl_one (.eq (.int .i64 ((k + 1 : Nat) : Int))) rfl 13 rfl (by rw [sz]; decide) (st_move (.tmp 25) rfl x25) ?_
  intro f9 w9 df2 sz2 old2 new2 hb
  replace bl0 := bl
  replace x0 := (old2 0 rfl).trans x0
  replace x1 := (old2 1 rfl).trans x1
  replace x4 := (old2 4 rfl).trans x4
  replace x10 := (old2 10 rfl).trans x10
  replace x12 := (old2 12 rfl).trans x12
  clear x13
  replace x14 := (old2 14 rfl).trans x14
  replace x24 := (old2 24 rfl).trans x24
  replace x25 := (old2 25 rfl).trans x25
  have x13 : f9.eval (.tmp 13) = .int .i64 ((k + 1 : Nat) : Int) := new2
  replace bl := (bl.trans (Below.mono hb bl.size))
  replace sz := sz2.trans sz
  replace df := df2.trans df
  clear df2 sz2 old2 new2 hb
  refine wpList_nil ?_
  clear x25
  show (∃ _, _) ∧ _
  refine ⟨⟨k + 1, by omega, take_succ_eq heq hxk (by rw [hxy]; exact hyk), sz, df, x0, x1, x4, x10, x12, x13, bl⟩, ?_⟩
  rw [show f9.eval (.tmp 13) = _ from x13, show _ = _ from hcnt]
  simp [intOf]
  omega
end Go.Proofs.YtfbfngblocfdlaaDoor
