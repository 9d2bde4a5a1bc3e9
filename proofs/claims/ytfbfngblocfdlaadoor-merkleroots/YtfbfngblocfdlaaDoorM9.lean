/- The law's root. slices.Backward: what it gives. What is told in a round: variables that lie below, the loop's record turned, the frame of a round. The place of the lowest bit. -/
import Derived.Test.YtfbfngblocfdlaaDoorM8
import Derived.Test.YtfbfngblocfdlaaDoorM5
import Derived.Test.YtfbfngblocfdlaaDoorM7
import Derived.Test.YtfbfngblocfdlaaDoorM6
import Derived.Test.YtfbfngblocfdlaaDoorRows
namespace Go.Proofs.YtfbfngblocfdlaaDoor
set_option maxRecDepth 100000
open Go.RowKit
theorem rops_mem (n : Nat) : ∀ a z, 1 ≤ n → z ∈ rops a n → (∃ i : Nat, z = (i : Int) ∧ i < a + n) ∨ z = -1 := by
  induction n using Nat.strongRecOn with
  | ind n ih =>
    intro a z h1 hz
    by_cases h2 : n = 1
    · subst h2
      rw [rops_one] at hz
      exact .inl ⟨a, List.mem_singleton.1 hz, by omega⟩
    · have hs := spl_lt (n := n) (by omega)
      have hp := spl_pos n
      rw [rops_two a (by omega), List.mem_append, List.mem_append] at hz
      rcases hz with hz | hz | hz
      · rcases ih (spl n) hs a z hp hz with ⟨i, e, hi⟩ | e
        · exact .inl ⟨i, e, by omega⟩
        · exact .inr e
      · rcases ih (n - spl n) (by omega) (a + spl n) z (by omega) hz with ⟨i, e, hi⟩ | e
        · exact .inl ⟨i, e, by omega⟩
        · exact .inr e
      · exact .inr (List.mem_singleton.1 hz)
/-- The stack behind k operations. -/
def stc (l : List (List (BitVec 8))) (k : Nat) : List (List (BitVec 8)) := ((rops 0 l.length).take k).foldl (stk l) []
theorem stc_zero (l : List (List (BitVec 8))) : stc l 0 = [] := rfl
theorem stc_succ (l : List (List (BitVec 8))) {k : Nat} {z : Int} (h : (rops 0 l.length)[k]? = some z) : stc l (k + 1) = stk l (stc l k) z := by
  unfold stc
  rw [List.take_add_one, h, List.foldl_append]
  rfl
theorem stk_len (l st : List (List (BitVec 8))) (z : Int) : (stk l st z).length ≤ st.length + 1 := by
  unfold stk
  split
  · simp
  · rw [List.length_append, List.length_take, List.length_singleton]; omega
theorem stc_len (l : List (List (BitVec 8))) (k : Nat) : (stc l k).length ≤ k := by
  induction k with
  | zero => exact Nat.le_refl _
  | succ k ih =>
    cases h : (rops 0 l.length)[k]? with
    | some z =>
      rw [stc_succ l h]
      have := stk_len l (stc l k) z
      omega
    | none =>
      have : stc l (k + 1) = stc l k := by
        unfold stc
        rw [List.take_add_one, h]
        simp
      rw [this]; omega
theorem stc_put (l : List (List (BitVec 8))) {k i : Nat} {x : List (BitVec 8)} (h : (rops 0 l.length)[k]? = some (i : Int)) (hx : l[i]? = some x) : stc l (k + 1) = stc l k ++ [x] := by
  rw [stc_succ l h, stk_put l _ hx]
theorem stc_two (l : List (List (BitVec 8))) (hn : 1 ≤ l.length) {k : Nat} (h : (rops 0 l.length)[k]? = some (-1)) : 2 ≤ (stc l k).length := by
  have := rops_deep l l.length 0 hn (by omega) [] k h
  unfold stc
  simpa using this
theorem stc_node (l : List (List (BitVec 8))) {k : Nat} (h : (rops 0 l.length)[k]? = some (-1)) {N : Nat} (hN : N + 2 = (stc l k).length) {x y : List (BitVec 8)} (hx : (stc l k)[N]? = some x) (hy : (stc l k)[N + 1]? = some y) : stc l (k + 1) = (stc l k).take N ++ [nd x y] := by
  rw [stc_succ l h]
  unfold stk
  rw [if_neg (by decide), show (stc l k).length - 2 = N by omega, show (stc l k).length - 1 = N + 1 by omega, List.getD_eq_getElem?_getD, hx, List.getD_eq_getElem?_getD, hy]
  rfl
theorem stc_all (l : List (List (BitVec 8))) (hn : 1 ≤ l.length) : stc l (rops 0 l.length).length = [mroot l] := by
  unfold stc
  rw [List.take_of_length_le (Nat.le_refl _), stk_rops l l.length 0 hn (by omega), List.nil_append]
  unfold sgm
  rw [List.drop_zero, List.take_of_length_le (Nat.le_refl _)]
theorem hs_len {hs : List (List (BitVec 8))} {v : Value} {w : World} (h : (Fk.hs hs).f v w) {i : Nat} {x : List (BitVec 8)} (hi : hs[i]? = some x) : x.length = 32 := by
  obtain ⟨A, C, lb, lo, e, hl⟩ := h
  exact (hl.all i x hi).1
theorem rroot0 (n : Nat) (w : World) (h1 : 1 ≤ n) (h2 : n ≤ 1000) : Calls Tryd.prog 23 #[.int .i64 0, .int .i64 ((n : Nat) : Int)] w fun e w' => ∃ u, e = .returned u ∧ (Fk.oi w.heap.size (rops 0 n)).f u w' ∧ Below w.heap.size w w' := by
  have := rroot_any n 0 w h1 (by omega)
  rw [Nat.zero_add] at this
  exact this
theorem st_cutow {Q : Exit → Act → World → Prop} {o : Oper} {a : Act} {w : World} (x y : Operand) (ho : o.op = .slice 22 x none (some y) none) {base : Nat} {hs : List (List (BitVec 8))} (h : (Fk.ow base hs).f (a.eval x) w) (n : Nat) (hy : a.eval y = .int .i64 (n : Int)) (hn : n ≤ hs.length) : o.wp Tryd.prog a w (Ends a o.dst w (Fk.ow base (hs.take n)).f) Q := by
  have h0 := h
  obtain ⟨A, C, lb, lo, e, hc, hl⟩ := ow_hc h
  rw [e] at h0
  have h3 := ow_take h0 n hn
  refine st_pure (v := sliced A 0 n C 32) ?_ ?_
  · have h1 := run_slice_h (P := Tryd.prog) (w := w) 22 A hs.length C (by rw [Tryd.elem22]; exact Tryd.under22') .i64 (n : Int) (by omega) (by omega)
    rw [Tryd.elem22, Tryd.sizeOf24] at h1
    simp only [Result.andThen_ok, Int.toNat_natCast] at h1
    have h2 := run_sliceAt_slice (P := Tryd.prog) (w := w) 22 (.slice A hs.length C) none (some (.int .i64 (n : Int))) none (by rw [Tryd.elem22]; exact Tryd.under22')
    unfold execOp
    rw [ho]
    simp [e, hy, h2, h1]
  · have : sliced A 0 n C 32 = .slice A n C := by
      unfold sliced
      by_cases h0 : C = 0
      · simp [h0]
      · cases A with
        | none => simp
        | some p => simp [Addr.add]
    rw [this]
    exact h3
theorem lroot_nil (w : World) {v : Value} (hv : (Fk.hc []).f v w) (hK : Tab w) {y : List (BitVec 8)} (ey : Box (mroot [] = y)) :
    Calls Tryd.prog 9 #[v] w fun e w' => e = .returned (.agg ((y).map V).toArray) ∧ Below w.heap.size w w' := by
  have eys : shaOf [] = y := by rw [← ey.out, mroot_nil]
  have hy : y.length = 32 := by rw [← eys]; exact shaOf_len _
  have hnil := sl_nil w
  go_enter Tryd.func9, Tryd.ntmps9
  refine code_both (fun f w1 => f.tmps.size = 53 ∧ f.defers = [] ∧ f.eval (.tmp 0) = v ∧ Below w.heap.size w (w1)) ⟨rfl, rfl, rfl, Below.refl _ _⟩ ?_
  rintro f0 w0 ⟨sz, df, x0, bl⟩
  have bl0 := bl
  refine wp_seq ?_
  -- R0
  refine wp_all_seq [.nw w0.heap.size 24 ((hz).map V)] (by kernel_rfl) (by kernel_rfl) (by rw [sz]; kernel_rfl) (by kernel_rfl) ⟨fun hw ac u K => ?_, trivial⟩ ?_
  · exact st_alloc24 rfl _ K.grow.size
  intro f1 w1 A hb
  replace bl0 := bl
  replace x0 := (A.old 0 rfl).trans x0
  have x2 : Fk.f (.nw w0.heap.size 24 ((hz).map V)) (f1.eval (.tmp 2)) w1 := A.has 0 2 rfl
  replace bl := (bl.trans (Below.mono hb bl.size))
  replace sz := A.size.trans sz
  replace df := A.defs.trans df
  clear A hb
  obtain ⟨g2, hg2, e2, m2⟩ := x2
  have x2 := e2
  clear e2
  have hw2 : w.heap.size ≤ g2 := Nat.le_trans bl0.size hg2
  show Code.wp _ _ _ _ _
  refine wp_seq ?_
  refine wp_seq ?_
  -- R1
  refine wp_all_seq [.eq (v), .eq (.int .i64 ((0 : Nat) : Int)), .eq (.bool true)] (by kernel_rfl) (by kernel_rfl) (by rw [sz]; kernel_rfl) (by kernel_rfl) ⟨fun hw ac u K => ?_, fun hw ac u K => ?_, fun hw ac u K => ?_, trivial⟩ ?_
  · exact st_move (.tmp 0) rfl ((K.old 0 rfl).trans x0)
  · exact st_lenc (.tmp 7) rfl (0) rfl (fk_val (K.dep 0 7 rfl) (Fk.mono _ _ _ _ hv (bl.trans (Below.mono K.grow bl.size))))
  · exact st_eqi 3 (.tmp 8) (.const (.int .i64 0)) rfl .i64 (((0 : Nat) : Int)) (0) (K.dep 1 8 rfl) rfl _ (by simp)
  intro f2 w2 A hb
  replace bl0 := bl
  replace x0 := (A.old 0 rfl).trans x0
  replace x2 := (A.old 2 rfl).trans x2
  have x9 : f2.eval (.tmp 9) = .bool true := A.has 2 9 rfl
  have lt_m2 := Ob.lt m2
  replace m2 := Ob.below m2 hb
  replace bl := (bl.trans (Below.mono hb bl.size))
  replace sz := A.size.trans sz
  replace df := A.defs.trans df
  clear A hb
  show Code.wp _ _ _ _ _
  refine wp_cond_true x9 ?_
  refine wp_seq ?_
  -- R2
  refine wp_region_seq [.eq (.agg ((y).map V).toArray)] (by kernel_rfl) (by kernel_rfl) (by rw [sz]; kernel_rfl) (by kernel_rfl) ⟨fun hw ac u K => ?_, trivial⟩ ?_
  · exact st_call 21 (.func 21) _ _ #[.slice none 0 0] rfl rfl (one_arg rfl) Tryd.enter21 (by rw [← eys]; exact fk_sum (by simp) (hK.below (bl.trans (Below.mono K.grow bl.size))) (Fk.mono _ _ _ _ hnil (bl.trans (Below.mono K.grow bl.size))))
  intro f3 w3 A hb
  replace bl0 := bl
  replace x0 := (A.old 0 rfl).trans x0
  replace x2 := (A.old 2 rfl).trans x2
  replace x9 := (A.old 9 rfl).trans x9
  have x10 : f3.eval (.tmp 10) = .agg ((y).map V).toArray := A.has 0 10 rfl
  have lt_m2 := Ob.lt m2
  replace m2 := Ob.below m2 hb
  replace bl := (bl.trans (Below.mono hb bl.size))
  replace sz := A.size.trans sz
  replace df := A.defs.trans df
  clear A hb
  refine wl_store rfl (.tmp 2) (.tmp 10) rfl rfl (g2) (y) (hz) x2 x10 m2 hz_len hy ?_
  replace m2 : Ob (w3.setRow g2 ((y).map V : List Value).toArray) (g2) 24 ((y).map V) := Ob.setRow m2 ((y).map V)
  replace bl : Below w.heap.size w (w3.setRow g2 ((y).map V : List Value).toArray) := bl.trans (below_setRow _ _ _ _ hw2)
  generalize w3.setRow g2 ((y).map V : List Value).toArray = w4b at bl m2 ⊢
  refine wpList_nil ?_
  clear x10
  show Code.wp _ _ _ _ _
  refine wp_ret ?_
  repeat (first | with_reducible refine then_ret ?_ | with_reducible refine block_ret ?_)
  exact bodyPost_ret (v := .agg ((y).map V).toArray) (ret_hash rfl f3 _ g2 (y) hy x2 m2) df ⟨rfl, bl⟩
theorem lroot_pos {l : List (List (BitVec 8))} (hn : 1 ≤ l.length) (h1000 : l.length ≤ 400) (w : World) {v : Value} (hv : (Fk.hc l).f v w) (hK : Tab w) {y : List (BitVec 8)} (ey : Box (mroot l = y)) :
    Calls Tryd.prog 9 #[v] w fun e w' => e = .returned (.agg ((y).map V).toArray) ∧ Below w.heap.size w w' := by
  have hvs := hc_hs hv
  have hy : y.length = 32 := by rw [← ey.out]; exact mroot_len (hc_len hv)
  obtain ⟨O, hO⟩ : ∃ O, rops 0 l.length = O := ⟨_, rfl⟩
  have hOl : O.length = 2 * l.length - 1 := by rw [← hO]; exact rops_len _ _ hn
  go_enter Tryd.func9, Tryd.ntmps9
  refine code_both (fun f w1 => f.tmps.size = 53 ∧ f.defers = [] ∧ f.eval (.tmp 0) = v ∧ Below w.heap.size w (w1)) ⟨rfl, rfl, rfl, Below.refl _ _⟩ ?_
  rintro f0 w0 ⟨sz, df, x0, bl⟩
  have bl0 := bl
  refine wp_seq ?_
  -- R0
  refine wp_all_seq [.nw w0.heap.size 24 ((hz).map V)] (by kernel_rfl) (by kernel_rfl) (by rw [sz]; kernel_rfl) (by kernel_rfl) ⟨fun hw ac u K => ?_, trivial⟩ ?_
  · exact st_alloc24 rfl _ K.grow.size
  intro f1 w1 A hb
  replace bl0 := bl
  replace x0 := (A.old 0 rfl).trans x0
  have x2 : Fk.f (.nw w0.heap.size 24 ((hz).map V)) (f1.eval (.tmp 2)) w1 := A.has 0 2 rfl
  replace bl := (bl.trans (Below.mono hb bl.size))
  replace sz := A.size.trans sz
  replace df := A.defs.trans df
  clear A hb
  obtain ⟨g2, hg2, e2, m2⟩ := x2
  have x2 := e2
  clear e2
  have hw2 : w.heap.size ≤ g2 := Nat.le_trans bl0.size hg2
  show Code.wp _ _ _ _ _
  refine wp_seq ?_
  refine wp_seq ?_
  -- R1
  refine wp_all_seq [.eq (v), .eq (.int .i64 (((l).length : Nat) : Int)), .eq (.bool false)] (by kernel_rfl) (by kernel_rfl) (by rw [sz]; kernel_rfl) (by kernel_rfl) ⟨fun hw ac u K => ?_, fun hw ac u K => ?_, fun hw ac u K => ?_, trivial⟩ ?_
  · exact st_move (.tmp 0) rfl ((K.old 0 rfl).trans x0)
  · exact st_lenc (.tmp 7) rfl ((l).length) rfl (fk_val (K.dep 0 7 rfl) (Fk.mono _ _ _ _ hv (bl.trans (Below.mono K.grow bl.size))))
  · exact st_eqi 3 (.tmp 8) (.const (.int .i64 0)) rfl .i64 ((((l).length : Nat) : Int)) (0) (K.dep 1 8 rfl) rfl _ (by rw [eq_comm, decide_eq_false_iff_not]; omega)
  intro f2 w2 A hb
  replace bl0 := bl
  replace x0 := (A.old 0 rfl).trans x0
  replace x2 := (A.old 2 rfl).trans x2
  have x9 : f2.eval (.tmp 9) = .bool false := A.has 2 9 rfl
  have lt_m2 := Ob.lt m2
  replace m2 := Ob.below m2 hb
  replace bl := (bl.trans (Below.mono hb bl.size))
  replace sz := A.size.trans sz
  replace df := A.defs.trans df
  clear A hb
  show Code.wp _ _ _ _ _
  refine wp_cond_false x9 ?_
  refine wp_skip ?_
  show Code.wp _ _ _ _ _
  refine wp_seq ?_
  -- R3
  refine wp_all_seq [.eq (.slice none 0 0)] (by kernel_rfl) (by kernel_rfl) (by rw [sz]; kernel_rfl) (by kernel_rfl) ⟨fun hw ac u K => ?_, trivial⟩ ?_
  · exact st_assign (.const (.slice none 0 0)) rfl rfl
  intro f3 w3 A hb
  replace bl0 := bl
  replace x0 := (A.old 0 rfl).trans x0
  replace x2 := (A.old 2 rfl).trans x2
  replace x9 := (A.old 9 rfl).trans x9
  have x3 : f3.eval (.tmp 3) = .slice none 0 0 := A.has 0 3 rfl
  have lt_m2 := Ob.lt m2
  replace m2 := Ob.below m2 hb
  replace bl := (bl.trans (Below.mono hb bl.size))
  replace sz := A.size.trans sz
  replace df := A.defs.trans df
  clear A hb
  show Code.wp _ _ _ _ _
  refine wp_seq ?_
  refine wp_seq ?_
  -- R4
  refine wp_all_seq [.eq (v), .eq (.int .i64 (((l).length : Nat) : Int)), .oi w.heap.size (O), .eq (.int .i64 (((O).length : Nat) : Int)), .eq (.int .i64 0)] (by kernel_rfl) (by kernel_rfl) (by rw [sz]; kernel_rfl) (by kernel_rfl) ⟨fun hw ac u K => ?_, fun hw ac u K => ?_, fun hw ac u K => ?_, fun hw ac u K => ?_, fun hw ac u K => ?_, trivial⟩ ?_
  · exact st_move (.tmp 0) rfl ((K.old 0 rfl).trans x0)
  · exact st_lenc (.tmp 11) rfl ((l).length) rfl (fk_val (K.dep 0 11 rfl) (Fk.mono _ _ _ _ hv (bl.trans (Below.mono K.grow bl.size))))
  · exact st_call 23 (.func 23) _ _ #[.int .i64 0, .int .i64 (((l).length : Nat) : Int)] rfl rfl (arg2 rfl (K.dep 1 12 rfl)) Tryd.enter23 (by rw [← hO]; exact fk_orw (bl.trans (Below.mono K.grow bl.size)).size (rroot0 l.length _ (by omega) (by omega)))
  · exact st_lenis (.tmp 13) rfl (oi_is (K.dep 2 13 rfl))
  · exact st_move (.const (.int .i64 0)) rfl rfl
  intro f4 w4 A hb
  replace bl0 := bl
  replace x0 := (A.old 0 rfl).trans x0
  replace x2 := (A.old 2 rfl).trans x2
  replace x9 := (A.old 9 rfl).trans x9
  replace x3 := (A.old 3 rfl).trans x3
  have x13 : Fk.f (.oi w.heap.size (O)) (f4.eval (.tmp 13)) w4 := A.has 2 13 rfl
  have x14 : f4.eval (.tmp 14) = .int .i64 (((O).length : Nat) : Int) := A.has 3 14 rfl
  have x15 : f4.eval (.tmp 15) = .int .i64 0 := A.has 4 15 rfl
  have lt_m2 := Ob.lt m2
  replace m2 := Ob.below m2 hb
  replace bl := (bl.trans (Below.mono hb bl.size))
  replace sz := A.size.trans sz
  replace df := A.defs.trans df
  clear A hb
  obtain ⟨v13, e13⟩ : ∃ v, f4.eval (.tmp 13) = v := ⟨_, rfl⟩
  have h13 := oi_is x13
  rw [e13] at h13
  replace x13 := e13
  clear e13
  have blw := bl
  replace hv := Fk.mono _ _ _ _ hv bl
  replace hvs := Fk.mono _ _ _ _ hvs bl
  replace hK := hK.below bl
  replace bl := Below.refl w4.heap.size w4
  replace bl0 := bl
  show Code.wp _ _ _ _ _
  refine wp_block ?_
  refine wp_loop (fun f v1 => ∃ k : Nat, k ≤ (O).length ∧ f.tmps.size = 53 ∧ f.defers = [] ∧ f.eval (.tmp 0) = v ∧ f.eval (.tmp 2) = .pointer (some ⟨g2, 0, none⟩) ∧ f.eval (.tmp 9) = .bool false ∧ f.eval (.tmp 13) = v13 ∧ f.eval (.tmp 14) = .int .i64 (((O).length : Nat) : Int) ∧ f.eval (.tmp 15) = .int .i64 ((k : Nat) : Int) ∧ Fk.f (.ow w4.heap.size (stc l k)) (f.eval (.tmp 3)) v1 ∧ Below w4.heap.size w4 (v1)) (fun f _ => (O).length - (intOf (f.eval (.tmp 15))).toNat) ⟨0, Nat.zero_le _, sz, df, x0, x2, x9, x13, x14, x15, (fk_val x3 (by rw [stc_zero]; exact ow_nil _ _)), bl⟩ ?_
  intro f5 w5 hI
  clear sz df bl bl0 x0 x2 x9 x3 x13 x14 x15
  obtain ⟨k, hk, sz, df, x0, x2, x9, x13, x14, x15, x3, bl⟩ := hI
  have bl0 := bl
  have hcnt := x15
  refine wp_seq ?_
  by_cases hlt : k < (O).length
  rotate_left
  · skip
    -- R5
    refine wp_all_seq [.eq (.bool false)] (by kernel_rfl) (by kernel_rfl) (by rw [sz]; kernel_rfl) (by kernel_rfl) ⟨fun hw ac u K => ?_, trivial⟩ ?_
    · exact st_lss 3 (.tmp 15) (.tmp 14) rfl .i64 (((k : Nat) : Int)) ((((O).length : Nat) : Int)) ((K.old 15 rfl).trans x15) ((K.old 14 rfl).trans x14) _ (by rw [eq_comm, decide_eq_false_iff_not]; exact fun h => hlt (Int.ofNat_lt.1 h))
    intro f6 w6 A hb
    replace bl0 := bl
    replace x0 := (A.old 0 rfl).trans x0
    replace x2 := (A.old 2 rfl).trans x2
    replace x9 := (A.old 9 rfl).trans x9
    replace x3 := f_at (A.old 3 rfl) (Fk.mono _ _ _ _ x3 hb)
    replace x13 := (A.old 13 rfl).trans x13
    replace x14 := (A.old 14 rfl).trans x14
    replace x15 := (A.old 15 rfl).trans x15
    have x16 : f6.eval (.tmp 16) = .bool false := A.has 0 16 rfl
    replace bl := (bl.trans (Below.mono hb bl.size))
    replace sz := A.size.trans sz
    replace df := A.defs.trans df
    clear A hb
    show Code.wp _ _ _ _ _
    refine wp_seq ?_
    refine wp_cond_false x16 ?_
    refine wp_exit ?_
    show Code.wp _ _ _ _ _
    refine wp_seq ?_
    obtain rfl : k = (O).length := by omega
    have hall := stc_all l (by omega)
    rw [hO, ey.out] at hall
    rw [hall] at x3
    replace m2 := Ob.below m2 bl
    replace bl := blw.trans (Below.mono bl blw.size)
    replace bl0 := bl
    -- R14
    refine wp_region_seq [.ow w4.heap.size ([y]), .ph (y), .eq (.agg ((y).map V).toArray)] (by kernel_rfl) (by kernel_rfl) (by rw [sz]; kernel_rfl) (by kernel_rfl) ⟨fun hw ac u K => ?_, fun hw ac u K => ?_, fun hw ac u K => ?_, trivial⟩ ?_
    · exact st_move (.tmp 3) rfl (f_at (K.old 3 rfl) (Fk.mono _ _ _ _ x3 K.grow))
    · exact st_idxh (.tmp 50) (.const (.int .i64 0)) rfl (ow_hs (K.dep 0 50 rfl)) (0) (y) rfl rfl
    · exact st_loadh (.tmp 51) rfl (K.dep 1 51 rfl)
    intro f7 w7 A hb
    replace bl0 := bl
    replace x0 := (A.old 0 rfl).trans x0
    replace x2 := (A.old 2 rfl).trans x2
    replace x9 := (A.old 9 rfl).trans x9
    replace x3 := f_at (A.old 3 rfl) (Fk.mono _ _ _ _ x3 hb)
    replace x13 := (A.old 13 rfl).trans x13
    replace x14 := (A.old 14 rfl).trans x14
    replace x15 := (A.old 15 rfl).trans x15
    replace x16 := (A.old 16 rfl).trans x16
    have x52 : f7.eval (.tmp 52) = .agg ((y).map V).toArray := A.has 2 52 rfl
    have lt_m2 := Ob.lt m2
    replace m2 := Ob.below m2 hb
    replace bl := (bl.trans (Below.mono hb bl.size))
    replace sz := A.size.trans sz
    replace df := A.defs.trans df
    clear A hb
    clear x3
    refine wl_store rfl (.tmp 2) (.tmp 52) rfl rfl (g2) (y) (hz) x2 x52 m2 hz_len hy ?_
    replace m2 : Ob (w7.setRow g2 ((y).map V : List Value).toArray) (g2) 24 ((y).map V) := Ob.setRow m2 ((y).map V)
    replace bl : Below w.heap.size w (w7.setRow g2 ((y).map V : List Value).toArray) := bl.trans (below_setRow _ _ _ _ hw2)
    generalize w7.setRow g2 ((y).map V : List Value).toArray = w8b at bl m2 ⊢
    refine wpList_nil ?_
    clear x52
    show Code.wp _ _ _ _ _
    refine wp_ret ?_
    repeat (first | with_reducible refine then_ret ?_ | with_reducible refine block_ret ?_)
    exact bodyPost_ret (v := .agg ((y).map V).toArray) (ret_hash rfl f7 _ g2 (y) hy x2 m2) df ⟨rfl, bl⟩
  obtain ⟨z, hz⟩ : ∃ z, O[k]? = some z := ⟨_, List.getElem?_eq_getElem hlt⟩
  have hz2 := hz
  rw [← hO] at hz2
  have hsl := stc_len l k
  -- R5
  refine wp_all_seq [.eq (.bool true)] (by kernel_rfl) (by kernel_rfl) (by rw [sz]; kernel_rfl) (by kernel_rfl) ⟨fun hw ac u K => ?_, trivial⟩ ?_
  · exact st_lss 3 (.tmp 15) (.tmp 14) rfl .i64 (((k : Nat) : Int)) ((((O).length : Nat) : Int)) ((K.old 15 rfl).trans x15) ((K.old 14 rfl).trans x14) _ (by rw [eq_comm, decide_eq_true_iff]; exact Int.ofNat_lt.2 hlt)
  intro f6 w6 A hb
  replace bl0 := bl
  replace x0 := (A.old 0 rfl).trans x0
  replace x2 := (A.old 2 rfl).trans x2
  replace x9 := (A.old 9 rfl).trans x9
  replace x3 := f_at (A.old 3 rfl) (Fk.mono _ _ _ _ x3 hb)
  replace x13 := (A.old 13 rfl).trans x13
  replace x14 := (A.old 14 rfl).trans x14
  replace x15 := (A.old 15 rfl).trans x15
  have x16 : f6.eval (.tmp 16) = .bool true := A.has 0 16 rfl
  replace bl := (bl.trans (Below.mono hb bl.size))
  replace sz := A.size.trans sz
  replace df := A.defs.trans df
  clear A hb
  show Code.wp _ _ _ _ _
  refine wp_seq ?_
  refine wp_cond_true x16 ?_
  refine wp_skip ?_
  show Code.wp _ _ _ _ _
  refine wp_seq ?_
  refine wp_block ?_
  refine wp_seq ?_
  -- R6
  refine wp_all_seq [.prg [.int .i64 z], .eq (.int .i64 z), .eq (.int .i64 z)] (by kernel_rfl) (by kernel_rfl) (by rw [sz]; kernel_rfl) (by kernel_rfl) ⟨fun hw ac u K => ?_, fun hw ac u K => ?_, fun hw ac u K => ?_, trivial⟩ ?_
  · exact st_idxis (.tmp 13) (.tmp 15) rfl (fk_val ((K.old 13 rfl).trans x13) (Fk.mono _ _ _ _ h13 (bl.trans (Below.mono K.grow bl.size)))) k ((K.old 15 rfl).trans x15) z hz
  · exact st_loadr1 3 (.tmp 17) rfl (by kernel_rfl) (K.dep 0 17 rfl)
  · exact st_assign (.tmp 18) rfl (K.dep 1 18 rfl)
  intro f7 w7 A hb
  replace bl0 := bl
  replace x0 := (A.old 0 rfl).trans x0
  replace x2 := (A.old 2 rfl).trans x2
  replace x9 := (A.old 9 rfl).trans x9
  replace x3 := f_at (A.old 3 rfl) (Fk.mono _ _ _ _ x3 hb)
  replace x13 := (A.old 13 rfl).trans x13
  replace x14 := (A.old 14 rfl).trans x14
  replace x15 := (A.old 15 rfl).trans x15
  replace x16 := (A.old 16 rfl).trans x16
  have x5 : f7.eval (.tmp 5) = .int .i64 z := A.has 2 5 rfl
  replace bl := (bl.trans (Below.mono hb bl.size))
  replace sz := A.size.trans sz
  replace df := A.defs.trans df
  clear A hb
  show Code.wp _ _ _ _ _
  refine wp_seq ?_
  refine wp_seq ?_
  rcases rops_mem l.length 0 z (by omega) (List.mem_of_getElem? hz2) with ⟨i, rfl, hi⟩ | rfl
  rotate_left
  · skip
    have h2 := stc_two l (by omega) hz2
    obtain ⟨N, hN⟩ : ∃ N, N + 2 = (stc l k).length := ⟨(stc l k).length - 2, by omega⟩
    obtain ⟨p, hpi⟩ : ∃ x, (stc l k)[N]? = some x := ⟨_, List.getElem?_eq_getElem (by omega)⟩
    obtain ⟨q, hqi⟩ : ∃ x, (stc l k)[N + 1]? = some x := ⟨_, List.getElem?_eq_getElem (by omega)⟩
    have hp : p.length = 32 := hs_len (ow_hs x3) hpi
    have hq : q.length = 32 := hs_len (ow_hs x3) hqi
    obtain ⟨r, er⟩ : ∃ r, Box (nd p q = r) := ⟨_, ⟨rfl⟩⟩
    have hr : r.length = 32 := by rw [← er.out]; exact nd_len _ _
    have hst := stc_node l hz2 hN hpi hqi
    rw [er.out] at hst
    -- R7
    refine wp_all_seq [.eq (.int .i64 (-1)), .eq (.bool false)] (by kernel_rfl) (by kernel_rfl) (by rw [sz]; kernel_rfl) (by kernel_rfl) ⟨fun hw ac u K => ?_, fun hw ac u K => ?_, trivial⟩ ?_
    · exact st_move (.tmp 5) rfl ((K.old 5 rfl).trans x5)
    · exact st_geq 3 (.tmp 19) (.const (.int .i64 0)) rfl .i64 ((-1)) (0) (K.dep 0 19 rfl) rfl _ (by rfl)
    intro f8 w8 A hb
    replace bl0 := bl
    replace x0 := (A.old 0 rfl).trans x0
    replace x2 := (A.old 2 rfl).trans x2
    replace x9 := (A.old 9 rfl).trans x9
    replace x3 := f_at (A.old 3 rfl) (Fk.mono _ _ _ _ x3 hb)
    replace x13 := (A.old 13 rfl).trans x13
    replace x14 := (A.old 14 rfl).trans x14
    replace x15 := (A.old 15 rfl).trans x15
    replace x16 := (A.old 16 rfl).trans x16
    replace x5 := (A.old 5 rfl).trans x5
    have x20 : f8.eval (.tmp 20) = .bool false := A.has 1 20 rfl
    replace bl := (bl.trans (Below.mono hb bl.size))
    replace sz := A.size.trans sz
    replace df := A.defs.trans df
    clear A hb
    show Code.wp _ _ _ _ _
    refine wp_cond_false x20 ?_
    refine wp_skip ?_
    show Code.wp _ _ _ _ _
    refine wp_seq ?_
    -- R9
    refine wp_all_seq [.ow w4.heap.size (stc l k), .eq (.int .i64 (((stc l k).length : Nat) : Int)), .eq (.int .i64 ((N : Nat) : Int)), .eq (.int .i64 ((N : Nat) : Int))] (by kernel_rfl) (by kernel_rfl) (by rw [sz]; kernel_rfl) (by kernel_rfl) ⟨fun hw ac u K => ?_, fun hw ac u K => ?_, fun hw ac u K => ?_, fun hw ac u K => ?_, trivial⟩ ?_
    · exact st_move (.tmp 3) rfl (f_at (K.old 3 rfl) (Fk.mono _ _ _ _ x3 K.grow))
    · exact st_lenh (.tmp 28) rfl (ow_hs (K.dep 0 28 rfl))
    · exact st_sub (.tmp 29) (.const (.int .i64 2)) rfl ((stc l k).length) (2) (N) (K.dep 1 29 rfl) rfl (by omega) (by omega)
    · exact st_assign (.tmp 30) rfl (K.dep 2 30 rfl)
    intro f9 w9 A hb
    replace bl0 := bl
    replace x0 := (A.old 0 rfl).trans x0
    replace x2 := (A.old 2 rfl).trans x2
    replace x9 := (A.old 9 rfl).trans x9
    replace x3 := f_at (A.old 3 rfl) (Fk.mono _ _ _ _ x3 hb)
    replace x13 := (A.old 13 rfl).trans x13
    replace x14 := (A.old 14 rfl).trans x14
    replace x15 := (A.old 15 rfl).trans x15
    replace x16 := (A.old 16 rfl).trans x16
    replace x5 := (A.old 5 rfl).trans x5
    replace x20 := (A.old 20 rfl).trans x20
    have x6 : f9.eval (.tmp 6) = .int .i64 ((N : Nat) : Int) := A.has 3 6 rfl
    replace bl := (bl.trans (Below.mono hb bl.size))
    replace sz := A.size.trans sz
    replace df := A.defs.trans df
    clear A hb
    show Code.wp _ _ _ _ _
    refine wp_seq ?_
    refine wp_seq ?_
    -- R10
    refine wp_all_seq [.eq (.int .i64 ((N : Nat) : Int)), .eq (.bool false)] (by kernel_rfl) (by kernel_rfl) (by rw [sz]; kernel_rfl) (by kernel_rfl) ⟨fun hw ac u K => ?_, fun hw ac u K => ?_, trivial⟩ ?_
    · exact st_move (.tmp 6) rfl ((K.old 6 rfl).trans x6)
    · exact st_lss 3 (.tmp 31) (.const (.int .i64 0)) rfl .i64 (((N : Nat) : Int)) (0) (K.dep 0 31 rfl) rfl _ (by rw [eq_comm, decide_eq_false_iff_not]; omega)
    intro f10 w10 A hb
    replace bl0 := bl
    replace x0 := (A.old 0 rfl).trans x0
    replace x2 := (A.old 2 rfl).trans x2
    replace x9 := (A.old 9 rfl).trans x9
    replace x3 := f_at (A.old 3 rfl) (Fk.mono _ _ _ _ x3 hb)
    replace x13 := (A.old 13 rfl).trans x13
    replace x14 := (A.old 14 rfl).trans x14
    replace x15 := (A.old 15 rfl).trans x15
    replace x16 := (A.old 16 rfl).trans x16
    replace x5 := (A.old 5 rfl).trans x5
    replace x20 := (A.old 20 rfl).trans x20
    replace x6 := (A.old 6 rfl).trans x6
    have x32 : f10.eval (.tmp 32) = .bool false := A.has 1 32 rfl
    replace bl := (bl.trans (Below.mono hb bl.size))
    replace sz := A.size.trans sz
    replace df := A.defs.trans df
    clear A hb
    show Code.wp _ _ _ _ _
    refine wp_cond_false x32 ?_
    refine wp_skip ?_
    show Code.wp _ _ _ _ _
    -- R12
    refine wp_region_tail [.ow w4.heap.size (stc l k), .eq (.int .i64 ((N : Nat) : Int)), .ow w4.heap.size ((stc l k).take (N)), .ow w4.heap.size (stc l k), .eq (.int .i64 ((N : Nat) : Int)), .ph (p), .eq (.agg ((p).map V).toArray), .ow w4.heap.size (stc l k), .eq (.int .i64 ((N : Nat) : Int)), .eq (.int .i64 ((N + 1 : Nat) : Int)), .ph (q), .eq (.agg ((q).map V).toArray), .eq (.agg ((r).map V).toArray), .hs ([r])] [14, 15] Tryd.mixed (by kernel_rfl) (by kernel_rfl) (by kernel_rfl) (by kernel_rfl) (by rw [sz]; kernel_rfl) (by kernel_rfl) ⟨fun hw ac u K => ?_, fun hw ac u K => ?_, fun hw ac u K => ?_, fun hw ac u K => ?_, fun hw ac u K => ?_, fun hw ac u K => ?_, fun hw ac u K => ?_, fun hw ac u K => ?_, fun hw ac u K => ?_, fun hw ac u K => ?_, fun hw ac u K => ?_, fun hw ac u K => ?_, fun hw ac u K => ?_, fun hw ac u K => ?_, trivial⟩ ?_
    · exact st_move (.tmp 3) rfl (f_at (K.old 3 rfl) (Fk.mono _ _ _ _ x3 K.grow))
    · exact st_move (.tmp 6) rfl ((K.old 6 rfl).trans x6)
    · exact st_cutow (.tmp 34) (.tmp 35) rfl (K.dep 0 34 rfl) N (K.dep 1 35 rfl) (by omega)
    · exact st_move (.tmp 3) rfl (f_at (K.old 3 rfl) (Fk.mono _ _ _ _ x3 K.grow))
    · exact st_move (.tmp 6) rfl ((K.old 6 rfl).trans x6)
    · exact st_idxh (.tmp 37) (.tmp 38) rfl (ow_hs (K.dep 3 37 rfl)) (N) (p) (K.dep 4 38 rfl) hpi
    · exact st_loadh (.tmp 39) rfl (K.dep 5 39 rfl)
    · exact st_move (.tmp 3) rfl (f_at (K.old 3 rfl) (Fk.mono _ _ _ _ x3 K.grow))
    · exact st_move (.tmp 6) rfl ((K.old 6 rfl).trans x6)
    · exact st_add (.tmp 42) (.const (.int .i64 1)) rfl (N) (1) (N + 1) (K.dep 8 42 rfl) rfl (by omega) (by omega)
    · exact st_idxh (.tmp 41) (.tmp 43) rfl (ow_hs (K.dep 7 41 rfl)) (N + 1) (q) (K.dep 9 43 rfl) hqi
    · exact st_loadh (.tmp 44) rfl (K.dep 10 44 rfl)
    · exact st_call 22 (.func 22) _ _ #[.agg ((p).map V).toArray, .agg ((q).map V).toArray] rfl rfl (arg2 (K.dep 6 40 rfl) (K.dep 11 45 rfl)) Tryd.enter22 (fk_node hp hq (hK.below (bl.trans (Below.mono K.grow bl.size))) er)
    · exact st_bh1 (.tmp 46) rfl hr (K.dep 12 46 rfl)
    intro f11 w11 A hb
    replace bl0 := bl
    replace x0 := (A.old 0 rfl).trans x0
    replace x2 := (A.old 2 rfl).trans x2
    replace x9 := (A.old 9 rfl).trans x9
    replace x3 := f_at (A.old 3 rfl) (Fk.mono _ _ _ _ x3 hb)
    replace x13 := (A.old 13 rfl).trans x13
    replace x14 := (A.old 14 rfl).trans x14
    replace x15 := (A.old 15 rfl).trans x15
    replace x16 := (A.old 16 rfl).trans x16
    replace x5 := (A.old 5 rfl).trans x5
    replace x20 := (A.old 20 rfl).trans x20
    replace x6 := (A.old 6 rfl).trans x6
    replace x32 := (A.old 32 rfl).trans x32
    have x36 : Fk.f (.ow w4.heap.size ((stc l k).take (N))) (f11.eval (.tmp 36)) w11 := A.has 2 36 rfl
    have x47 : Fk.f (.hs ([r])) (f11.eval (.tmp 47)) w11 := A.has 13 47 rfl
    replace bl := (bl.trans (Below.mono hb bl.size))
    replace sz := A.size.trans sz
    replace df := A.defs.trans df
    clear A hb
    refine wl_append rfl (.tmp 36) (.tmp 47) rfl 48 rfl (by rw [sz]; decide) x36 x47 bl (by rw [List.length_take]; omega) ?_
    intro f12 w12 df2 sz2 old2 new2 bl2
    clear x3
    clear x36
    clear x47
    replace x0 := (old2 0 rfl).trans x0
    replace x2 := (old2 2 rfl).trans x2
    replace x9 := (old2 9 rfl).trans x9
    replace x13 := (old2 13 rfl).trans x13
    replace x14 := (old2 14 rfl).trans x14
    replace x15 := (old2 15 rfl).trans x15
    replace x16 := (old2 16 rfl).trans x16
    replace x5 := (old2 5 rfl).trans x5
    replace x20 := (old2 20 rfl).trans x20
    replace x6 := (old2 6 rfl).trans x6
    replace x32 := (old2 32 rfl).trans x32
    have x48 : Fk.f (.ow w4.heap.size ((stc l k).take (N) ++ [r])) (f12.eval (.tmp 48)) w12 := new2
    replace bl := bl2
    replace bl0 := bl
    replace sz := sz2.trans sz
    replace df := df2.trans df
    clear df2 sz2 old2 new2 bl2
    refine wl_one (.ow w4.heap.size ((stc l k).take (N) ++ [r])) rfl 3 rfl (by rw [sz]; decide) (st_assign (.tmp 48) rfl x48) ?_
    intro f13 w13 df2 sz2 old2 new2 hb
    replace bl0 := bl
    replace x0 := (old2 0 rfl).trans x0
    replace x2 := (old2 2 rfl).trans x2
    replace x9 := (old2 9 rfl).trans x9
    replace x13 := (old2 13 rfl).trans x13
    replace x14 := (old2 14 rfl).trans x14
    replace x15 := (old2 15 rfl).trans x15
    replace x16 := (old2 16 rfl).trans x16
    replace x5 := (old2 5 rfl).trans x5
    replace x20 := (old2 20 rfl).trans x20
    replace x6 := (old2 6 rfl).trans x6
    replace x32 := (old2 32 rfl).trans x32
    replace x48 := f_at (old2 48 rfl) (Fk.mono _ _ _ _ x48 hb)
    have x3 : Fk.f (.ow w4.heap.size ((stc l k).take (N) ++ [r])) (f13.eval (.tmp 3)) w13 := new2
    replace bl := (bl.trans (Below.mono hb bl.size))
    replace sz := sz2.trans sz
    replace df := df2.trans df
    clear df2 sz2 old2 new2 hb
    refine wpList_nil ?_
    clear x48
    show Code.wp _ _ _ _ _
    -- R13
    refine wp_region_seq [.eq (.int .i64 ((k + 1 : Nat) : Int))] (by kernel_rfl) (by kernel_rfl) (by rw [sz]; kernel_rfl) (by kernel_rfl) ⟨fun hw ac u K => ?_, trivial⟩ ?_
    · exact st_add (.tmp 15) (.const (.int .i64 1)) rfl (k) (1) (k + 1) ((K.old 15 rfl).trans x15) rfl (by omega) (by omega)
    intro f14 w14 A hb
    replace bl0 := bl
    replace x0 := (A.old 0 rfl).trans x0
    replace x2 := (A.old 2 rfl).trans x2
    replace x9 := (A.old 9 rfl).trans x9
    replace x13 := (A.old 13 rfl).trans x13
    replace x14 := (A.old 14 rfl).trans x14
    replace x15 := (A.old 15 rfl).trans x15
    replace x16 := (A.old 16 rfl).trans x16
    replace x5 := (A.old 5 rfl).trans x5
    replace x20 := (A.old 20 rfl).trans x20
    replace x6 := (A.old 6 rfl).trans x6
    replace x32 := (A.old 32 rfl).trans x32
    replace x3 := f_at (A.old 3 rfl) (Fk.mono _ _ _ _ x3 hb)
    have x49 : f14.eval (.tmp 49) = .int .i64 ((k + 1 : Nat) : Int) := A.has 0 49 rfl
    replace bl := (bl.trans (Below.mono hb bl.size))
    replace sz := A.size.trans sz
    replace df := A.defs.trans df
    clear A hb
    refine wl_one (.eq (.int .i64 ((k + 1 : Nat) : Int))) rfl 15 rfl (by rw [sz]; decide) (st_move (.tmp 49) rfl x49) ?_
    intro f15 w15 df2 sz2 old2 new2 hb
    replace bl0 := bl
    replace x0 := (old2 0 rfl).trans x0
    replace x2 := (old2 2 rfl).trans x2
    replace x9 := (old2 9 rfl).trans x9
    replace x13 := (old2 13 rfl).trans x13
    replace x14 := (old2 14 rfl).trans x14
    clear x15
    replace x16 := (old2 16 rfl).trans x16
    replace x5 := (old2 5 rfl).trans x5
    replace x20 := (old2 20 rfl).trans x20
    replace x6 := (old2 6 rfl).trans x6
    replace x32 := (old2 32 rfl).trans x32
    replace x3 := f_at (old2 3 rfl) (Fk.mono _ _ _ _ x3 hb)
    replace x49 := (old2 49 rfl).trans x49
    have x15 : f15.eval (.tmp 15) = .int .i64 ((k + 1 : Nat) : Int) := new2
    replace bl := (bl.trans (Below.mono hb bl.size))
    replace sz := sz2.trans sz
    replace df := df2.trans df
    clear df2 sz2 old2 new2 hb
    refine wpList_nil ?_
    clear x49
    show (∃ _, _) ∧ _
    replace x3 : Fk.f (.ow w4.heap.size (stc l (k + 1))) (f15.eval (.tmp 3)) w15 := (by rw [hst]; exact x3)
    refine ⟨⟨k + 1, by omega, sz, df, x0, x2, x9, x13, x14, x15, x3, bl⟩, ?_⟩
    rw [show f15.eval (.tmp 15) = _ from x15, show _ = _ from hcnt]
    simp [intOf]
    omega
  obtain ⟨x, hxi⟩ : ∃ x, l[i]? = some x := ⟨_, List.getElem?_eq_getElem (by omega)⟩
  have hx : x.length = 32 := hs_len hvs hxi
  have hst := stc_put l hz2 hxi
  -- R7
  refine wp_all_seq [.eq (.int .i64 ((i : Nat) : Int)), .eq (.bool true)] (by kernel_rfl) (by kernel_rfl) (by rw [sz]; kernel_rfl) (by kernel_rfl) ⟨fun hw ac u K => ?_, fun hw ac u K => ?_, trivial⟩ ?_
  · exact st_move (.tmp 5) rfl ((K.old 5 rfl).trans x5)
  · exact st_geq 3 (.tmp 19) (.const (.int .i64 0)) rfl .i64 (((i : Nat) : Int)) (0) (K.dep 0 19 rfl) rfl _ (by rw [eq_comm, decide_eq_true_iff]; omega)
  intro f8 w8 A hb
  replace bl0 := bl
  replace x0 := (A.old 0 rfl).trans x0
  replace x2 := (A.old 2 rfl).trans x2
  replace x9 := (A.old 9 rfl).trans x9
  replace x3 := f_at (A.old 3 rfl) (Fk.mono _ _ _ _ x3 hb)
  replace x13 := (A.old 13 rfl).trans x13
  replace x14 := (A.old 14 rfl).trans x14
  replace x15 := (A.old 15 rfl).trans x15
  replace x16 := (A.old 16 rfl).trans x16
  replace x5 := (A.old 5 rfl).trans x5
  have x20 : f8.eval (.tmp 20) = .bool true := A.has 1 20 rfl
  replace bl := (bl.trans (Below.mono hb bl.size))
  replace sz := A.size.trans sz
  replace df := A.defs.trans df
  clear A hb
  show Code.wp _ _ _ _ _
  refine wp_cond_true x20 ?_
  refine wp_seq ?_
  -- R8
  refine wp_region_seq [.ow w4.heap.size (stc l k), .eq (v), .eq (.int .i64 ((i : Nat) : Int)), .ph (x), .eq (.agg ((x).map V).toArray), .hs ([x])] (by kernel_rfl) (by kernel_rfl) (by rw [sz]; kernel_rfl) (by kernel_rfl) ⟨fun hw ac u K => ?_, fun hw ac u K => ?_, fun hw ac u K => ?_, fun hw ac u K => ?_, fun hw ac u K => ?_, fun hw ac u K => ?_, trivial⟩ ?_
  · exact st_move (.tmp 3) rfl (f_at (K.old 3 rfl) (Fk.mono _ _ _ _ x3 K.grow))
  · exact st_move (.tmp 0) rfl ((K.old 0 rfl).trans x0)
  · exact st_move (.tmp 5) rfl ((K.old 5 rfl).trans x5)
  · exact st_idxh (.tmp 22) (.tmp 23) rfl (fk_val (K.dep 1 22 rfl) (Fk.mono _ _ _ _ hvs (bl.trans (Below.mono K.grow bl.size)))) (i) (x) (K.dep 2 23 rfl) hxi
  · exact st_loadh (.tmp 24) rfl (K.dep 3 24 rfl)
  · exact st_bh1 (.tmp 25) rfl hx (K.dep 4 25 rfl)
  intro f9 w9 A hb
  replace bl0 := bl
  replace x0 := (A.old 0 rfl).trans x0
  replace x2 := (A.old 2 rfl).trans x2
  replace x9 := (A.old 9 rfl).trans x9
  replace x3 := f_at (A.old 3 rfl) (Fk.mono _ _ _ _ x3 hb)
  replace x13 := (A.old 13 rfl).trans x13
  replace x14 := (A.old 14 rfl).trans x14
  replace x15 := (A.old 15 rfl).trans x15
  replace x16 := (A.old 16 rfl).trans x16
  replace x5 := (A.old 5 rfl).trans x5
  replace x20 := (A.old 20 rfl).trans x20
  have x21 : Fk.f (.ow w4.heap.size (stc l k)) (f9.eval (.tmp 21)) w9 := A.has 0 21 rfl
  have x26 : Fk.f (.hs ([x])) (f9.eval (.tmp 26)) w9 := A.has 5 26 rfl
  replace bl := (bl.trans (Below.mono hb bl.size))
  replace sz := A.size.trans sz
  replace df := A.defs.trans df
  clear A hb
  refine wl_append rfl (.tmp 21) (.tmp 26) rfl 27 rfl (by rw [sz]; decide) x21 x26 bl (by omega) ?_
  intro f10 w10 df2 sz2 old2 new2 bl2
  clear x3
  clear x21
  clear x26
  replace x0 := (old2 0 rfl).trans x0
  replace x2 := (old2 2 rfl).trans x2
  replace x9 := (old2 9 rfl).trans x9
  replace x13 := (old2 13 rfl).trans x13
  replace x14 := (old2 14 rfl).trans x14
  replace x15 := (old2 15 rfl).trans x15
  replace x16 := (old2 16 rfl).trans x16
  replace x5 := (old2 5 rfl).trans x5
  replace x20 := (old2 20 rfl).trans x20
  have x27 : Fk.f (.ow w4.heap.size (stc l k ++ [x])) (f10.eval (.tmp 27)) w10 := new2
  replace bl := bl2
  replace bl0 := bl
  replace sz := sz2.trans sz
  replace df := df2.trans df
  clear df2 sz2 old2 new2 bl2
  refine wl_one (.ow w4.heap.size (stc l k ++ [x])) rfl 3 rfl (by rw [sz]; decide) (st_assign (.tmp 27) rfl x27) ?_
  intro f11 w11 df2 sz2 old2 new2 hb
  replace bl0 := bl
  replace x0 := (old2 0 rfl).trans x0
  replace x2 := (old2 2 rfl).trans x2
  replace x9 := (old2 9 rfl).trans x9
  replace x13 := (old2 13 rfl).trans x13
  replace x14 := (old2 14 rfl).trans x14
  replace x15 := (old2 15 rfl).trans x15
  replace x16 := (old2 16 rfl).trans x16
  replace x5 := (old2 5 rfl).trans x5
  replace x20 := (old2 20 rfl).trans x20
  replace x27 := f_at (old2 27 rfl) (Fk.mono _ _ _ _ x27 hb)
  have x3 : Fk.f (.ow w4.heap.size (stc l k ++ [x])) (f11.eval (.tmp 3)) w11 := new2
  replace bl := (bl.trans (Below.mono hb bl.size))
  replace sz := sz2.trans sz
  replace df := df2.trans df
  clear df2 sz2 old2 new2 hb
  refine wpList_nil ?_
  clear x27
  show Code.wp _ _ _ _ _
  refine wp_exit ?_
  show Code.wp _ _ _ _ _
  -- R13
  refine wp_region_seq [.eq (.int .i64 ((k + 1 : Nat) : Int))] (by kernel_rfl) (by kernel_rfl) (by rw [sz]; kernel_rfl) (by kernel_rfl) ⟨fun hw ac u K => ?_, trivial⟩ ?_
  · exact st_add (.tmp 15) (.const (.int .i64 1)) rfl (k) (1) (k + 1) ((K.old 15 rfl).trans x15) rfl (by omega) (by omega)
  intro f12 w12 A hb
  replace bl0 := bl
  replace x0 := (A.old 0 rfl).trans x0
  replace x2 := (A.old 2 rfl).trans x2
  replace x9 := (A.old 9 rfl).trans x9
  replace x13 := (A.old 13 rfl).trans x13
  replace x14 := (A.old 14 rfl).trans x14
  replace x15 := (A.old 15 rfl).trans x15
  replace x16 := (A.old 16 rfl).trans x16
  replace x5 := (A.old 5 rfl).trans x5
  replace x20 := (A.old 20 rfl).trans x20
  replace x3 := f_at (A.old 3 rfl) (Fk.mono _ _ _ _ x3 hb)
  have x49 : f12.eval (.tmp 49) = .int .i64 ((k + 1 : Nat) : Int) := A.has 0 49 rfl
  replace bl := (bl.trans (Below.mono hb bl.size))
  replace sz := A.size.trans sz
  replace df := A.defs.trans df
  clear A hb
  refine wl_one (.eq (.int .i64 ((k + 1 : Nat) : Int))) rfl 15 rfl (by rw [sz]; decide) (st_move (.tmp 49) rfl x49) ?_
  intro f13 w13 df2 sz2 old2 new2 hb
  replace bl0 := bl
  replace x0 := (old2 0 rfl).trans x0
  replace x2 := (old2 2 rfl).trans x2
  replace x9 := (old2 9 rfl).trans x9
  replace x13 := (old2 13 rfl).trans x13
  replace x14 := (old2 14 rfl).trans x14
  clear x15
  replace x16 := (old2 16 rfl).trans x16
  replace x5 := (old2 5 rfl).trans x5
  replace x20 := (old2 20 rfl).trans x20
  replace x3 := f_at (old2 3 rfl) (Fk.mono _ _ _ _ x3 hb)
  replace x49 := (old2 49 rfl).trans x49
  have x15 : f13.eval (.tmp 15) = .int .i64 ((k + 1 : Nat) : Int) := new2
  replace bl := (bl.trans (Below.mono hb bl.size))
  replace sz := sz2.trans sz
  replace df := df2.trans df
  clear df2 sz2 old2 new2 hb
  refine wpList_nil ?_
  clear x49
  show (∃ _, _) ∧ _
  replace x3 : Fk.f (.ow w4.heap.size (stc l (k + 1))) (f13.eval (.tmp 3)) w13 := (by rw [hst]; exact x3)
  refine ⟨⟨k + 1, by omega, sz, df, x0, x2, x9, x13, x14, x15, x3, bl⟩, ?_⟩
  rw [show f13.eval (.tmp 15) = _ from x15, show _ = _ from hcnt]
  simp [intOf]
  omega
theorem lroot_any {l : List (List (BitVec 8))} (h400 : l.length ≤ 400) (w : World) {v : Value} (hv : (Fk.hc l).f v w) (hK : Tab w) {y : List (BitVec 8)} (ey : Box (mroot l = y)) :
    Calls Tryd.prog 9 #[v] w fun e w' => e = .returned (.agg ((y).map V).toArray) ∧ Below w.heap.size w w' := by
  by_cases h0 : l.length = 0
  · obtain rfl := List.eq_nil_of_length_eq_zero h0
    exact lroot_nil w hv hK ey
  · exact lroot_pos (by omega) h400 w hv hK ey
end Go.Proofs.YtfbfngblocfdlaaDoor
namespace Go.Proofs.YtfbfngblocfdlaaDoor
set_option maxRecDepth 100000
open Go.RowKit
theorem ow_kept {B : Nat} {hs : List (List (BitVec 8))} {v : Value} {w w' : World} (h : (Fk.ow B hs).f v w) (k : Kept B w w') : (Fk.ow B hs).f v w' := by
  obtain ⟨⟨h1, h2⟩, h3⟩ := h
  refine ⟨⟨h1, ?_⟩, h3⟩
  rcases h2 with h2 | ⟨g, cap, cur, e, hbg, hg, r⟩
  · exact .inl h2
  · exact .inr ⟨g, cap, cur, e, hbg, k.at hbg hg, r⟩
/-- A function that has caught one variable, which lies in new memory. -/
def Fk.cl (g0 gf T : Nat) (u : Value) : Fk := .inr (.inl ⟨fun v w => ∃ g, g0 ≤ g ∧ v = .func (.func gf) #[] #[.pointer (some ⟨g, 0, none⟩)] ∧ Ob w g T [u], by
  rintro v w w' ⟨g, h, e, ho⟩ hb
  exact ⟨g, h, e, ho.below hb⟩⟩)
theorem backward_any (A : Option Addr) (n C : Nat) (w : World) (g0 : Nat) (hg : g0 ≤ w.heap.size) : Calls Tryd.prog 37 #[.slice A n C] w fun e w' => ∃ u, e = .returned u ∧ (Fk.cl g0 47 22 (.slice A n C)).f u w' ∧ Below w.heap.size w w' := by
  have : Calls Tryd.prog 37 #[.slice A n C] w fun e w' => e = .returned (.func (.func 47) #[] #[.pointer (some ⟨w.heap.size, 0, none⟩)]) ∧ w' = w.alloc (.cells #[.slice A n C] 22) := by
    go_enter Tryd.func37, Tryd.ntmps37
    go_wp2
    go_ret
    exact ⟨rfl, rfl⟩
  refine this.mono ?_
  rintro e w' ⟨rfl, rfl⟩
  exact ⟨_, rfl, ⟨_, hg, rfl, heap_alloc_new _ _⟩, (Below.refl _ _).alloc (Nat.le_refl _) _⟩
/-- What round k gets, from the last one back. -/
def encB (P : List (List (BitVec 8))) (k : Nat) : Array Value := #[.int .i64 ((P.length - 1 - k : Nat) : Int), .agg ((P.getD (P.length - 1 - k) []).map V).toArray]
/-- What it reads. -/
def RB (gb : Nat) (v : Value) (P : List (List (BitVec 8))) (A : World) : Prop := Ob A gb 22 [v] ∧ (Fk.hs P).f v A
theorem back_gives {P : List (List (BitVec 8))} (hPl : P.length ≤ 1000) (gb : Nat) (v : Value) (w0 : World) : Gives 6 47 #[.pointer (some ⟨gb, 0, none⟩)] (encB P) P.length (RB gb v P) w0 := by
  intro l J Jx w hW hJ hR hY h0
  refine callsIn_wide.2 ?_
  show Calls Tryd.prog 47 #[.func (.yield l) #[] #[], .pointer (some ⟨gb, 0, none⟩)] w _
  have hJk := h0
  have hzz := Nat.le_refl w.heap.size
  obtain ⟨hob, hvP⟩ := hR _ _ h0
  go_enter Tryd.func47, Tryd.ntmps47
  refine code_both (fun f w1 => f.tmps.size = 19 ∧ f.defers = [] ∧ f.eval (.tmp 0) = .func (.yield l) #[] #[] ∧ f.eval (.tmp 1) = .pointer (some ⟨gb, 0, none⟩) ∧ Ob w1 (gb) 22 ([v]) ∧ Fk.f (.hs (P)) (v) w1 ∧ J 0 w1 ∧ w.heap.size ≤ w1.heap.size ∧ True) ⟨rfl, rfl, rfl, rfl, hob, hvP, hJk, hzz, trivial⟩ ?_
  clear hob hvP hJk hzz
  rintro f0 w0 ⟨sz, df, x0, x1, hob, hvP, hJk, hzz, bl⟩
  have bl0 := bl
  refine wp_seq ?_
  -- R0
  refine wp_all_seq [.eq (v), .eq (.int .i64 (((P).length : Nat) : Int)), .eq (.int .i64 ((P.length : Int) - 1)), .eq (.int .i64 ((P.length : Int) - 1))] (by kernel_rfl) (by kernel_rfl) (by rw [sz]; kernel_rfl) (by kernel_rfl) ⟨fun hw ac u K => ?_, fun hw ac u K => ?_, fun hw ac u K => ?_, fun hw ac u K => ?_, trivial⟩ ?_
  · exact st_loadc 22 (.tmp 1) rfl (by kernel_rfl) ((K.old 1 rfl).trans x1) (Ob.cell (Ob.below hob K.grow) 0 rfl)
  · exact st_lenh (.tmp 4) rfl (fk_val (K.dep 0 4 rfl) (Fk.mono _ _ _ _ hvP K.grow))
  · exact st_subz (.tmp 5) (.const (.int .i64 1)) rfl _ 1 _ (K.dep 1 5 rfl) rfl rfl (by omega) (by omega)
  · exact st_assign (.tmp 6) rfl (K.dep 2 6 rfl)
  intro f1 w1 A hb
  replace bl0 := bl
  replace x0 := (A.old 0 rfl).trans x0
  replace x1 := (A.old 1 rfl).trans x1
  have x3 : f1.eval (.tmp 3) = .int .i64 ((P.length : Int) - 1) := A.has 3 3 rfl
  have lt_hob := Ob.lt hob
  replace hob := Ob.below hob hb
  replace hvP := Fk.mono _ _ _ _ hvP hb
  replace hJk := hJ _ _ _ hJk (Below.mono hb hzz)
  replace hzz := Nat.le_trans hzz hb.size
  replace bl := trivial
  replace sz := A.size.trans sz
  replace df := A.defs.trans df
  clear A hb
  show Code.wp _ _ _ _ _
  refine wp_block ?_
  refine wp_loop (fun f v1 => ∃ k : Nat, k ≤ (P).length ∧ f.tmps.size = 19 ∧ f.defers = [] ∧ f.eval (.tmp 0) = .func (.yield l) #[] #[] ∧ f.eval (.tmp 1) = .pointer (some ⟨gb, 0, none⟩) ∧ f.eval (.tmp 3) = .int .i64 ((P.length : Int) - 1 - ((k : Nat) : Int)) ∧ Ob v1 (gb) 22 ([v]) ∧ Fk.f (.hs (P)) (v) v1 ∧ J k v1 ∧ w.heap.size ≤ v1.heap.size ∧ True) (fun f _ => ((intOf (f.eval (.tmp 3))) + 1).toNat) ⟨0, Nat.zero_le _, sz, df, x0, x1, (by rw [show _ = _ from x3]; simp), hob, hvP, hJk, hzz, bl⟩ ?_
  intro f2 w2 hI
  clear sz df bl bl0 x0 x1 x3 hob hvP hJk hzz
  obtain ⟨k, hk, sz, df, x0, x1, x3, hob, hvP, hJk, hzz, bl⟩ := hI
  have bl0 := bl
  refine wp_seq ?_
  refine wp_seq ?_
  have hcnt := x3
  by_cases hlt : k < (P).length
  rotate_left
  · skip
    -- R1
    refine wp_all_seq [.eq (.int .i64 ((P.length : Int) - 1 - ((k : Nat) : Int))), .eq (.bool false)] (by kernel_rfl) (by kernel_rfl) (by rw [sz]; kernel_rfl) (by kernel_rfl) ⟨fun hw ac u K => ?_, fun hw ac u K => ?_, trivial⟩ ?_
    · exact st_move (.tmp 3) rfl ((K.old 3 rfl).trans x3)
    · exact st_geq 3 (.tmp 7) (.const (.int .i64 0)) rfl .i64 (((P.length : Int) - 1 - ((k : Nat) : Int))) (0) (K.dep 0 7 rfl) rfl _ (by rw [eq_comm, decide_eq_false_iff_not]; omega)
    intro f3 w3 A hb
    replace bl0 := bl
    replace x0 := (A.old 0 rfl).trans x0
    replace x1 := (A.old 1 rfl).trans x1
    replace x3 := (A.old 3 rfl).trans x3
    have x8 : f3.eval (.tmp 8) = .bool false := A.has 1 8 rfl
    have lt_hob := Ob.lt hob
    replace hob := Ob.below hob hb
    replace hvP := Fk.mono _ _ _ _ hvP hb
    replace hJk := hJ _ _ _ hJk (Below.mono hb hzz)
    replace hzz := Nat.le_trans hzz hb.size
    replace bl := trivial
    replace sz := A.size.trans sz
    replace df := A.defs.trans df
    clear A hb
    show Code.wp _ _ _ _ _
    refine wp_cond_false x8 ?_
    refine wp_exit ?_
    repeat (first | with_reducible refine then_exit ?_ | with_reducible refine block_exit ?_)
    show bodyPost _ _ _ _ _ _
    obtain rfl : k = (P).length := by omega
    exact bodyPost_end (results_none rfl _ _ _) df ⟨⟨_, rfl⟩, .inl hJk⟩
  obtain ⟨q, hq⟩ : ∃ q, P.length - 1 - k = q := ⟨_, rfl⟩
  obtain ⟨y, hyk⟩ : ∃ y, P[q]? = some y := ⟨_, List.getElem?_eq_getElem (by omega)⟩
  have hy : y.length = 32 := hs_len hvP hyk
  have hyd : P.getD q [] = y := by rw [List.getD_eq_getElem?_getD, hyk]; rfl
  rw [show ((P.length : Int) - 1 - ((k : Nat) : Int)) = ((q : Nat) : Int) by omega] at x3 hcnt
  have hYk := hY k
  unfold encB at hYk
  rw [hq, hyd] at hYk
  -- R1
  refine wp_all_seq [.eq (.int .i64 ((q : Nat) : Int)), .eq (.bool true)] (by kernel_rfl) (by kernel_rfl) (by rw [sz]; kernel_rfl) (by kernel_rfl) ⟨fun hw ac u K => ?_, fun hw ac u K => ?_, trivial⟩ ?_
  · exact st_move (.tmp 3) rfl ((K.old 3 rfl).trans x3)
  · exact st_geq 3 (.tmp 7) (.const (.int .i64 0)) rfl .i64 (((q : Nat) : Int)) (0) (K.dep 0 7 rfl) rfl _ (by rw [eq_comm, decide_eq_true_iff]; omega)
  intro f3 w3 A hb
  replace bl0 := bl
  replace x0 := (A.old 0 rfl).trans x0
  replace x1 := (A.old 1 rfl).trans x1
  replace x3 := (A.old 3 rfl).trans x3
  have x8 : f3.eval (.tmp 8) = .bool true := A.has 1 8 rfl
  have lt_hob := Ob.lt hob
  replace hob := Ob.below hob hb
  replace hvP := Fk.mono _ _ _ _ hvP hb
  replace hJk := hJ _ _ _ hJk (Below.mono hb hzz)
  replace hzz := Nat.le_trans hzz hb.size
  replace bl := trivial
  replace sz := A.size.trans sz
  replace df := A.defs.trans df
  clear A hb
  show Code.wp _ _ _ _ _
  refine wp_cond_true x8 ?_
  refine wp_skip ?_
  show Code.wp _ _ _ _ _
  refine wp_seq ?_
  refine wp_block ?_
  refine wp_seq ?_
  -- R3
  refine wp_region_li 6 ?_
  refine wli_one (.eq (.func (.yield l) #[] #[])) rfl 11 rfl (by rw [sz]; decide) (st_move (.tmp 0) rfl x0) ?_
  intro f4 w4 df2 sz2 old2 new2 hb
  replace bl0 := bl
  replace x0 := (old2 0 rfl).trans x0
  replace x1 := (old2 1 rfl).trans x1
  replace x3 := (old2 3 rfl).trans x3
  replace x8 := (old2 8 rfl).trans x8
  have x11 : f4.eval (.tmp 11) = .func (.yield l) #[] #[] := new2
  have lt_hob := Ob.lt hob
  replace hob := Ob.below hob hb
  replace hvP := Fk.mono _ _ _ _ hvP hb
  replace hJk := hJ _ _ _ hJk (Below.mono hb hzz)
  replace hzz := Nat.le_trans hzz hb.size
  replace bl := trivial
  replace sz := sz2.trans sz
  replace df := df2.trans df
  clear df2 sz2 old2 new2 hb
  refine wli_one (.eq (.int .i64 ((q : Nat) : Int))) rfl 12 rfl (by rw [sz]; decide) (st_move (.tmp 3) rfl x3) ?_
  intro f5 w5 df2 sz2 old2 new2 hb
  replace bl0 := bl
  replace x0 := (old2 0 rfl).trans x0
  replace x1 := (old2 1 rfl).trans x1
  replace x3 := (old2 3 rfl).trans x3
  replace x8 := (old2 8 rfl).trans x8
  replace x11 := (old2 11 rfl).trans x11
  have x12 : f5.eval (.tmp 12) = .int .i64 ((q : Nat) : Int) := new2
  have lt_hob := Ob.lt hob
  replace hob := Ob.below hob hb
  replace hvP := Fk.mono _ _ _ _ hvP hb
  replace hJk := hJ _ _ _ hJk (Below.mono hb hzz)
  replace hzz := Nat.le_trans hzz hb.size
  replace bl := trivial
  replace sz := sz2.trans sz
  replace df := df2.trans df
  clear df2 sz2 old2 new2 hb
  refine wli_one (.eq (v)) rfl 13 rfl (by rw [sz]; decide) (st_loadc 22 (.tmp 1) rfl (by kernel_rfl) x1 (Ob.cell hob 0 rfl)) ?_
  intro f6 w6 df2 sz2 old2 new2 hb
  replace bl0 := bl
  replace x0 := (old2 0 rfl).trans x0
  replace x1 := (old2 1 rfl).trans x1
  replace x3 := (old2 3 rfl).trans x3
  replace x8 := (old2 8 rfl).trans x8
  replace x11 := (old2 11 rfl).trans x11
  replace x12 := (old2 12 rfl).trans x12
  have x13 : f6.eval (.tmp 13) = v := new2
  have lt_hob := Ob.lt hob
  replace hob := Ob.below hob hb
  replace hvP := Fk.mono _ _ _ _ hvP hb
  replace hJk := hJ _ _ _ hJk (Below.mono hb hzz)
  replace hzz := Nat.le_trans hzz hb.size
  replace bl := trivial
  replace sz := sz2.trans sz
  replace df := df2.trans df
  clear df2 sz2 old2 new2 hb
  refine wli_one (.eq (.int .i64 ((q : Nat) : Int))) rfl 14 rfl (by rw [sz]; decide) (st_move (.tmp 3) rfl x3) ?_
  intro f7 w7 df2 sz2 old2 new2 hb
  replace bl0 := bl
  replace x0 := (old2 0 rfl).trans x0
  replace x1 := (old2 1 rfl).trans x1
  replace x3 := (old2 3 rfl).trans x3
  replace x8 := (old2 8 rfl).trans x8
  replace x11 := (old2 11 rfl).trans x11
  replace x12 := (old2 12 rfl).trans x12
  replace x13 := (old2 13 rfl).trans x13
  have x14 : f7.eval (.tmp 14) = .int .i64 ((q : Nat) : Int) := new2
  have lt_hob := Ob.lt hob
  replace hob := Ob.below hob hb
  replace hvP := Fk.mono _ _ _ _ hvP hb
  replace hJk := hJ _ _ _ hJk (Below.mono hb hzz)
  replace hzz := Nat.le_trans hzz hb.size
  replace bl := trivial
  replace sz := sz2.trans sz
  replace df := df2.trans df
  clear df2 sz2 old2 new2 hb
  refine wli_one (.ph (y)) rfl 15 rfl (by rw [sz]; decide) (st_idxh (.tmp 13) (.tmp 14) rfl (fk_val x13 hvP) (q) (y) x14 hyk) ?_
  intro f8 w8 df2 sz2 old2 new2 hb
  replace bl0 := bl
  replace x0 := (old2 0 rfl).trans x0
  replace x1 := (old2 1 rfl).trans x1
  replace x3 := (old2 3 rfl).trans x3
  replace x8 := (old2 8 rfl).trans x8
  replace x11 := (old2 11 rfl).trans x11
  replace x12 := (old2 12 rfl).trans x12
  replace x13 := (old2 13 rfl).trans x13
  replace x14 := (old2 14 rfl).trans x14
  have x15 : Fk.f (.ph (y)) (f8.eval (.tmp 15)) w8 := new2
  have lt_hob := Ob.lt hob
  replace hob := Ob.below hob hb
  replace hvP := Fk.mono _ _ _ _ hvP hb
  replace hJk := hJ _ _ _ hJk (Below.mono hb hzz)
  replace hzz := Nat.le_trans hzz hb.size
  replace bl := trivial
  replace sz := sz2.trans sz
  replace df := df2.trans df
  clear df2 sz2 old2 new2 hb
  refine wli_one (.eq (.agg ((y).map V).toArray)) rfl 16 rfl (by rw [sz]; decide) (st_loadh (.tmp 15) rfl x15) ?_
  intro f9 w9 df2 sz2 old2 new2 hb
  replace bl0 := bl
  replace x0 := (old2 0 rfl).trans x0
  replace x1 := (old2 1 rfl).trans x1
  replace x3 := (old2 3 rfl).trans x3
  replace x8 := (old2 8 rfl).trans x8
  replace x11 := (old2 11 rfl).trans x11
  replace x12 := (old2 12 rfl).trans x12
  replace x13 := (old2 13 rfl).trans x13
  replace x14 := (old2 14 rfl).trans x14
  replace x15 := f_at (old2 15 rfl) (Fk.mono _ _ _ _ x15 hb)
  have x16 : f9.eval (.tmp 16) = .agg ((y).map V).toArray := new2
  have lt_hob := Ob.lt hob
  replace hob := Ob.below hob hb
  replace hvP := Fk.mono _ _ _ _ hvP hb
  replace hJk := hJ _ _ _ hJk (Below.mono hb hzz)
  replace hzz := Nat.le_trans hzz hb.size
  replace bl := trivial
  replace sz := sz2.trans sz
  replace df := df2.trans df
  clear df2 sz2 old2 new2 hb
  refine wli_yield (.tmp 11) _ _ #[.int .i64 ((q : Nat) : Int), .agg ((y).map V).toArray] rfl 17 rfl (by rw [sz]; decide) rfl l x11 (arg2 x12 x16) (hYk _ hlt hJk) ?_ ?_
  rotate_left
  · intro f10 w10 df2 sz2 old2 new2 hX
    clear hob
    clear hvP
    replace x0 := (old2 0 rfl).trans x0
    replace x1 := (old2 1 rfl).trans x1
    replace x3 := (old2 3 rfl).trans x3
    replace x8 := (old2 8 rfl).trans x8
    replace x11 := (old2 11 rfl).trans x11
    replace x12 := (old2 12 rfl).trans x12
    replace x13 := (old2 13 rfl).trans x13
    replace x14 := (old2 14 rfl).trans x14
    clear x15
    replace x16 := (old2 16 rfl).trans x16
    have x17 : f10.eval (.tmp 17) = .bool false := new2
    
    replace sz := sz2.trans sz
    replace df := df2.trans df
    clear df2 sz2 old2 new2
    refine wli_not rfl (.tmp 17) rfl 18 rfl (by rw [sz]; decide) false x17 ?_
    intro f11 df2 sz2 old2 new2
    replace x0 := (old2 0 rfl).trans x0
    replace x1 := (old2 1 rfl).trans x1
    replace x3 := (old2 3 rfl).trans x3
    replace x8 := (old2 8 rfl).trans x8
    replace x11 := (old2 11 rfl).trans x11
    replace x12 := (old2 12 rfl).trans x12
    replace x13 := (old2 13 rfl).trans x13
    replace x14 := (old2 14 rfl).trans x14
    replace x16 := (old2 16 rfl).trans x16
    replace x17 := (old2 17 rfl).trans x17
    have x18 : f11.eval (.tmp 18) = .bool true := new2
    replace sz := sz2.trans sz
    replace df := df2.trans df
    clear df2 sz2 old2 new2
    refine wli_nil ?_
    clear x11
    clear x12
    clear x13
    clear x14
    clear x16
    clear x17
    show Code.wp _ _ _ _ _
    refine wp_cond_true x18 ?_
    refine wp_ret ?_
    repeat (first | with_reducible refine then_ret ?_ | with_reducible refine block_ret ?_)
    exact bodyPost_ret (results_none rfl _ _ _) df ⟨⟨_, rfl⟩, .inr ⟨k, hlt, hX⟩⟩
  intro f10 w10 df2 sz2 old2 new2 hX
  clear hob
  clear hvP
  replace x0 := (old2 0 rfl).trans x0
  replace x1 := (old2 1 rfl).trans x1
  replace x3 := (old2 3 rfl).trans x3
  replace x8 := (old2 8 rfl).trans x8
  replace x11 := (old2 11 rfl).trans x11
  replace x12 := (old2 12 rfl).trans x12
  replace x13 := (old2 13 rfl).trans x13
  replace x14 := (old2 14 rfl).trans x14
  clear x15
  replace x16 := (old2 16 rfl).trans x16
  have x17 : f10.eval (.tmp 17) = .bool true := new2
  replace hJk := hX.1
  replace hzz := Nat.le_trans hzz hX.2.1
  have hob := (hR _ _ hJk).1
  have hvP := (hR _ _ hJk).2
  replace sz := sz2.trans sz
  replace df := df2.trans df
  clear df2 sz2 old2 new2 hX
  refine wli_not rfl (.tmp 17) rfl 18 rfl (by rw [sz]; decide) true x17 ?_
  intro f11 df2 sz2 old2 new2
  replace x0 := (old2 0 rfl).trans x0
  replace x1 := (old2 1 rfl).trans x1
  replace x3 := (old2 3 rfl).trans x3
  replace x8 := (old2 8 rfl).trans x8
  replace x11 := (old2 11 rfl).trans x11
  replace x12 := (old2 12 rfl).trans x12
  replace x13 := (old2 13 rfl).trans x13
  replace x14 := (old2 14 rfl).trans x14
  replace x16 := (old2 16 rfl).trans x16
  replace x17 := (old2 17 rfl).trans x17
  have x18 : f11.eval (.tmp 18) = .bool false := new2
  replace sz := sz2.trans sz
  replace df := df2.trans df
  clear df2 sz2 old2 new2
  refine wli_nil ?_
  clear x11
  clear x12
  clear x13
  clear x14
  clear x16
  clear x17
  show Code.wp _ _ _ _ _
  refine wp_cond_false x18 ?_
  refine wp_skip ?_
  show Code.wp _ _ _ _ _
  -- R2
  refine wp_region_seq [.eq (.int .i64 ((q : Nat) : Int)), .eq (.int .i64 ((P.length : Int) - 1 - ((k + 1 : Nat) : Int)))] (by kernel_rfl) (by kernel_rfl) (by rw [sz]; kernel_rfl) (by kernel_rfl) ⟨fun hw ac u K => ?_, fun hw ac u K => ?_, trivial⟩ ?_
  · exact st_move (.tmp 3) rfl ((K.old 3 rfl).trans x3)
  · exact st_subz (.tmp 9) (.const (.int .i64 1)) rfl _ 1 _ (K.dep 0 9 rfl) rfl (by omega) (by omega) (by omega)
  intro f12 w12 A hb
  replace bl0 := bl
  replace x0 := (A.old 0 rfl).trans x0
  replace x1 := (A.old 1 rfl).trans x1
  replace x3 := (A.old 3 rfl).trans x3
  replace x8 := (A.old 8 rfl).trans x8
  replace x18 := (A.old 18 rfl).trans x18
  have x10 : f12.eval (.tmp 10) = .int .i64 ((P.length : Int) - 1 - ((k + 1 : Nat) : Int)) := A.has 1 10 rfl
  have lt_hob := Ob.lt hob
  replace hob := Ob.below hob hb
  replace hvP := Fk.mono _ _ _ _ hvP hb
  replace hJk := hJ _ _ _ hJk (Below.mono hb hzz)
  replace hzz := Nat.le_trans hzz hb.size
  replace bl := trivial
  replace sz := A.size.trans sz
  replace df := A.defs.trans df
  clear A hb
  refine wl_one (.eq (.int .i64 ((P.length : Int) - 1 - ((k + 1 : Nat) : Int)))) rfl 3 rfl (by rw [sz]; decide) (st_assign (.tmp 10) rfl x10) ?_
  intro f13 w13 df2 sz2 old2 new2 hb
  replace bl0 := bl
  replace x0 := (old2 0 rfl).trans x0
  replace x1 := (old2 1 rfl).trans x1
  clear x3
  replace x8 := (old2 8 rfl).trans x8
  replace x18 := (old2 18 rfl).trans x18
  replace x10 := (old2 10 rfl).trans x10
  have x3 : f13.eval (.tmp 3) = .int .i64 ((P.length : Int) - 1 - ((k + 1 : Nat) : Int)) := new2
  have lt_hob := Ob.lt hob
  replace hob := Ob.below hob hb
  replace hvP := Fk.mono _ _ _ _ hvP hb
  replace hJk := hJ _ _ _ hJk (Below.mono hb hzz)
  replace hzz := Nat.le_trans hzz hb.size
  replace bl := trivial
  replace sz := sz2.trans sz
  replace df := df2.trans df
  clear df2 sz2 old2 new2 hb
  refine wpList_nil ?_
  clear x10
  show (∃ _, _) ∧ _
  refine ⟨⟨k + 1, by omega, sz, df, x0, x1, x3, hob, hvP, hJk, hzz, bl⟩, ?_⟩
  rw [show f13.eval (.tmp 3) = _ from x3, show _ = _ from hcnt]
  simp only [intOf]
  omega
end Go.Proofs.YtfbfngblocfdlaaDoor
namespace Go.Proofs.YtfbfngblocfdlaaDoor
set_option maxRecDepth 100000
open Go.RowKit
theorem ob_lo {A A' : World} {B g : Nat} {T : TypeId} {cs : List Value} (h : Ob A g T cs) (hb : Below B A A') (hg : g < B) : Ob A' g T cs := by
  have := hb.block g hg
  unfold Ob at *
  rw [this]; exact h
theorem ob_put {A : World} {l g : Nat} {T : TypeId} {cs : List Value} (o : Obj) (h : Ob A g T cs) (hne : g ≠ l) : Ob (A.putObj l o) g T cs := by
  unfold Ob at *
  rw [World.putObj_heap_other hne]; exact h
theorem hc_take {P : List (List (BitVec 8))} {A : Option Addr} {C : Nat} {w : World} (h : (Fk.hc P).f (.slice A P.length C) w) {n : Nat} (hn : n ≤ P.length) : (Fk.hc (P.take n)).f (.slice A n C) w := by
  obtain ⟨A', C', lb, lo, e, hc, hl⟩ := h
  cases e
  have hln : (P.take n).length = n := by rw [List.length_take]; omega
  refine ⟨A, C, lb, lo, by rw [hln], by omega, fun hp => ?_, fun hp => ?_, fun i x hi => ?_⟩
  · rw [hln] at hp; exact hl.ptr (by omega)
  · rw [hln] at hp; exact hl.lt (by omega)
  · rw [List.getElem?_take] at hi
    split at hi
    · exact hl.all i x hi
    · cases hi
/-- The frame of a round with two variables. -/
def rfr (t : Array Value) (p q : Nat) (u v : Value) : Act := { tmps := (t.setIfInBounds p u).setIfInBounds q v, defers := [] }
theorem rfr_eq (t : Array Value) (p q : Nat) (u v : Value) : ({ tmps := (#[p, q].zip #[u, v]).foldl (fun t (p, v) => t.setIfInBounds p v) t, defers := [] } : Act) = rfr t p q u v := by
  unfold rfr
  simp
theorem rfr_size (t : Array Value) (p q : Nat) (u v : Value) : (rfr t p q u v).tmps.size = t.size := by simp [rfr]
theorem rfr_old (a : Act) (p q : Nat) (u v : Value) {j : Nat} (hp : (j == p) = false) (hq : (j == q) = false) : (rfr a.tmps p q u v).eval (.tmp j) = a.eval (.tmp j) := by
  have h1 : p ≠ j := fun e => by subst e; simp at hp
  have h2 : q ≠ j := fun e => by subst e; simp at hq
  show ((a.tmps.setIfInBounds p u).setIfInBounds q v).getD j undef = a.tmps.getD j undef
  rw [Array.getD_eq_getD_getElem?, Array.getD_eq_getD_getElem?, Array.getElem?_setIfInBounds_ne h2, Array.getElem?_setIfInBounds_ne h1]
theorem rfr_q (t : Array Value) (p q : Nat) (u v : Value) (hq : q < t.size) : (rfr t p q u v).eval (.tmp q) = v := by
  show ((t.setIfInBounds p u).setIfInBounds q v).getD q undef = v
  rw [Array.getD_eq_getD_getElem?, Array.getElem?_setIfInBounds_self_of_lt (by simpa using hq)]
  rfl
theorem rfr_p (t : Array Value) (p q : Nat) (u v : Value) (hp : p < t.size) (hne : (p == q) = false) : (rfr t p q u v).eval (.tmp p) = u := by
  have h2 : q ≠ p := fun e => by subst e; simp at hne
  show ((t.setIfInBounds p u).setIfInBounds q v).getD p undef = u
  rw [Array.getD_eq_getD_getElem?, Array.getElem?_setIfInBounds_ne h2, Array.getElem?_setIfInBounds_self_of_lt hp]
  rfl
theorem code_in {F : Fence} {n : Nat} {P : Program} {c : Code} {Q : Exit → Act → World → Prop} {a : Act} {w : World} (I : Act → World → Prop) (h0 : I a w) (h : ∀ f w, I f w → Code.wpIn F n P c Q f w) : Code.wpIn F n P c Q a w := h a w h0
/-- The act behind a range: the mark of the rounds' deferred calls lies on it. -/
def marked (a : Act) (D : Nat) : Act := { a with defers := { target := .collected D, args := #[] } :: a.defers }
theorem marked_eval (a : Act) (D : Nat) (x : Operand) : (marked a D).eval x = a.eval x := by cases x <;> rfl
theorem block_other {Q : Exit → Act → World → Prop} {a : Act} {w : World} {i j : Nat} (hne : (i == j) = false) (h : Q (.exit i) a w) : Exit.inBlock j Q (.exit i) a w := by
  show (if i = j then Q .normal a w else Q (.exit i) a w)
  rw [if_neg (fun e => by subst e; simp at hne)]
  exact h
end Go.Proofs.YtfbfngblocfdlaaDoor
namespace Go.Proofs.YtfbfngblocfdlaaDoor
set_option maxRecDepth 100000
open Go.RowKit
/-- The numbers of a table that is laid. -/
def tabN (d : DataW Unit) : List Nat := match d with
  | .agg l => l.map fun x => match x with
    | .lit (.int _ z) => z.toNat
    | _ => 0
  | _ => []
/-- The table of the places of lowest bits, as the program lays it. -/
def dbt : List Nat := tabN Rows.laid_math_bits_deBruijn64tab
theorem dbt_len : dbt.length = 64 := by decide +kernel
/-- It lies where the program has laid it. -/
structure Tz (w : World) : Prop where
  tz : ∀ i, i < 64 → w.cell? ⟨2, i, none⟩ = some (.int .u8 ((dbt.getD i 0 : Nat) : Int))
  lt : 2 < w.heap.size
theorem Tz.below {w w' : World} {B : Nat} (h : Tz w) (hb : Below B w w') (hB : 2 < B) : Tz w' := ⟨fun i hi => by rw [hb.cell (by exact hB)]; exact h.tz i hi, Nat.lt_of_lt_of_le h.lt hb.size⟩
/-- The place of the lowest bit, for numbers from 1 to 127. -/
def tzn (n : Nat) : Nat := if n % 2 = 1 then 0 else if n % 4 = 2 then 1 else if n % 8 = 4 then 2 else if n % 16 = 8 then 3 else if n % 32 = 16 then 4 else if n % 64 = 32 then 5 else 6
theorem tz_all : ∀ n : Fin 128, n.val ≠ 0 → dbt.getD (((n.val &&& (18446744073709551616 - n.val)) * 285870213051353865 % 18446744073709551616) / 2 ^ 58) 0 = tzn n.val ∧ ((n.val &&& (18446744073709551616 - n.val)) * 285870213051353865 % 18446744073709551616) / 2 ^ 58 < 64 ∧ (n.val &&& (18446744073709551616 - n.val)) ≤ 127 ∧ tzn n.val ≤ 6 := by decide +kernel
section
variable {Q : Exit → Act → World → Prop} {o : Oper} {a : Act} {w : World}
theorem st_negu (x : Operand) (ho : o.op = .unOp .neg 65 x) (n : Nat) (h0 : 1 ≤ n) (h1 : n ≤ 127) (hx : a.eval x = .int .u64 (n : Int)) : o.wp Tryd.prog a w (Ends a o.dst w (Fk.eq (.int .u64 ((18446744073709551616 - n : Nat) : Int))).f) Q := by
  refine st_pure (v := .int .u64 ((18446744073709551616 - n : Nat) : Int)) ?_ rfl
  have hw : IntKind.u64.wrap (-(n : Int)) = ((18446744073709551616 - n : Nat) : Int) := by rw [IntKind.wrap_u64]; omega
  unfold execOp
  rw [ho]
  simp [hx, Op.unary, Op.intArith, hw]
theorem st_andu (x y : Operand) (ho : o.op = .binOp .and 65 x y 65) (m n : Nat) (hm : m < 18446744073709551616) (hn : n < 18446744073709551616) (hx : a.eval x = .int .u64 (m : Int)) (hy : a.eval y = .int .u64 (n : Int)) : o.wp Tryd.prog a w (Ends a o.dst w (Fk.eq (.int .u64 ((m &&& n : Nat) : Int))).f) Q := by
  refine st_bin .and 65 65 x y ho hx hy ?_
  have h1 : m &&& n < 2 ^ 64 := Nat.and_lt_two_pow _ (by omega)
  have h2 : m % 2 ^ IntKind.u64.bits = m := Nat.mod_eq_of_lt (by show m < 18446744073709551616; omega)
  have h3 : n % 2 ^ IntKind.u64.bits = n := Nat.mod_eq_of_lt (by show n < 18446744073709551616; omega)
  simp [eqGuard, binOp, Op.intBits, h2, h3]
  rw [IntKind.wrap_u64]
  omega
theorem st_mulu (x y : Operand) (ho : o.op = .binOp .mul 65 x y 65) (m n : Nat) (hx : a.eval x = .int .u64 (m : Int)) (hy : a.eval y = .int .u64 (n : Int)) : o.wp Tryd.prog a w (Ends a o.dst w (Fk.eq (.int .u64 ((m * n % 18446744073709551616 : Nat) : Int))).f) Q := by
  refine st_bin .mul 65 65 x y ho hx hy ?_
  have hw : IntKind.u64.wrap ((m : Int) * (n : Int)) = ((m * n % 18446744073709551616 : Nat) : Int) := by rw [IntKind.wrap_u64]; simp
  simp [eqGuard, binOp, Op.intArith, hw]
theorem Tryd.und69z : Tryd.prog.underlying 69 = some (.array (Tryd.prog.arrayLen 69) (Tryd.prog.elem 69)) := by kernel_rfl
theorem Tryd.len69z : Tryd.prog.arrayLen 69 = 64 := by kernel_rfl
theorem Tryd.el69z : Tryd.prog.elem 69 = 5 := by kernel_rfl
theorem Tryd.sz5z (w : World) : (sizeOf 5).run Tryd.prog w = .ok 1 w := by kernel_rfl
theorem st_idxg (x y : Operand) (ho : o.op = .indexAddr 69 x y) (i : Nat) (hi : i < 64) (hx : a.eval x = .pointer (some ⟨2, 0, none⟩)) (hy : a.eval y = .int .u64 (i : Int)) : o.wp Tryd.prog a w (Ends a o.dst w (Fk.eq (.pointer (some ⟨2, i, none⟩))).f) Q := by
  refine st_pure (v := .pointer (some ⟨2, i, none⟩)) ?_ rfl
  have h1 := run_indexAt_array (P := Tryd.prog) (w := w) 69 ⟨2, 0, none⟩ .u64 (i : Int) Tryd.und69z
  rw [Tryd.len69z, if_pos (by omega), Tryd.el69z, Tryd.sz5z] at h1
  simp only [Result.andThen_ok, Int.toNat_natCast, Addr.add_mid, Nat.mul_one, Nat.zero_add] at h1
  unfold execOp
  rw [ho]
  simp [hx, hy, h1]
end
theorem tz64_any (n : Nat) (h0 : 1 ≤ n) (h1 : n ≤ 127) (w : World) (hz : Tz w) :
    Calls Tryd.prog 46 #[.int .u64 ((n : Nat) : Int)] w fun e w' => e = .returned (.int .i64 ((tzn n : Nat) : Int)) ∧ Below w.heap.size w w' := by
  obtain ⟨e1, e2, e3, e4⟩ := tz_all ⟨n, by omega⟩ (by show n ≠ 0; omega)
  dsimp only at e1 e2 e3 e4
  go_enter Tryd.func46, Tryd.ntmps46
  refine code_both (fun f w1 => f.tmps.size = 14 ∧ f.defers = [] ∧ f.eval (.tmp 0) = .int .u64 ((n : Nat) : Int) ∧ Below w.heap.size w (w1)) ⟨rfl, rfl, rfl, Below.refl _ _⟩ ?_
  rintro f0 w0 ⟨sz, df, x0, bl⟩
  have bl0 := bl
  refine wp_seq ?_
  -- R0
  refine wp_all_seq [.eq (.int .i64 0)] (by kernel_rfl) (by kernel_rfl) (by rw [sz]; kernel_rfl) (by kernel_rfl) ⟨fun hw ac u K => ?_, trivial⟩ ?_
  · exact st_assign (.const (.int .i64 0)) rfl rfl
  intro f1 w1 A hb
  replace bl0 := bl
  replace x0 := (A.old 0 rfl).trans x0
  have x2 : f1.eval (.tmp 2) = .int .i64 0 := A.has 0 2 rfl
  replace bl := (bl.trans (Below.mono hb bl.size))
  replace sz := A.size.trans sz
  replace df := A.defs.trans df
  clear A hb
  show Code.wp _ _ _ _ _
  refine wp_seq ?_
  refine wp_seq ?_
  -- R1
  refine wp_all_seq [.eq (.int .u64 ((n : Nat) : Int)), .eq (.bool false)] (by kernel_rfl) (by kernel_rfl) (by rw [sz]; kernel_rfl) (by kernel_rfl) ⟨fun hw ac u K => ?_, fun hw ac u K => ?_, trivial⟩ ?_
  · exact st_move (.tmp 0) rfl ((K.old 0 rfl).trans x0)
  · exact st_eqi 65 (.tmp 3) (.const (.int .u64 0)) rfl .u64 _ _ (K.dep 0 3 rfl) rfl _ (by rw [eq_comm, decide_eq_false_iff_not]; omega)
  intro f2 w2 A hb
  replace bl0 := bl
  replace x0 := (A.old 0 rfl).trans x0
  replace x2 := (A.old 2 rfl).trans x2
  have x4 : f2.eval (.tmp 4) = .bool false := A.has 1 4 rfl
  replace bl := (bl.trans (Below.mono hb bl.size))
  replace sz := A.size.trans sz
  replace df := A.defs.trans df
  clear A hb
  show Code.wp _ _ _ _ _
  refine wp_cond_false x4 ?_
  refine wp_skip ?_
  show Code.wp _ _ _ _ _
  refine wp_seq ?_
  -- R3
  refine wp_all_seq [.eq (.int .u64 ((n : Nat) : Int)), .eq (.int .u64 ((n : Nat) : Int)), .eq (.int .u64 ((18446744073709551616 - n : Nat) : Int)), .eq (.int .u64 ((n &&& (18446744073709551616 - n) : Nat) : Int)), .eq (.int .u64 (((n &&& (18446744073709551616 - n)) * 285870213051353865 % 18446744073709551616 : Nat) : Int)), .eq (.int .u64 ((((n &&& (18446744073709551616 - n)) * 285870213051353865 % 18446744073709551616) / 2 ^ 58 : Nat) : Int)), .eq (.pointer (some ⟨2, ((n &&& (18446744073709551616 - n)) * 285870213051353865 % 18446744073709551616) / 2 ^ 58, none⟩)), .eq (.int .u8 ((tzn n : Nat) : Int)), .eq (.int .i64 ((tzn n : Nat) : Int)), .eq (.int .i64 ((tzn n : Nat) : Int))] (by kernel_rfl) (by kernel_rfl) (by rw [sz]; kernel_rfl) (by kernel_rfl) ⟨fun hw ac u K => ?_, fun hw ac u K => ?_, fun hw ac u K => ?_, fun hw ac u K => ?_, fun hw ac u K => ?_, fun hw ac u K => ?_, fun hw ac u K => ?_, fun hw ac u K => ?_, fun hw ac u K => ?_, fun hw ac u K => ?_, trivial⟩ ?_
  · exact st_move (.tmp 0) rfl ((K.old 0 rfl).trans x0)
  · exact st_move (.tmp 0) rfl ((K.old 0 rfl).trans x0)
  · exact st_negu (.tmp 6) rfl n h0 h1 (K.dep 1 6 rfl)
  · exact st_andu (.tmp 5) (.tmp 7) rfl n _ (by omega) (by omega) (K.dep 0 5 rfl) (K.dep 2 7 rfl)
  · exact st_mulu (.tmp 8) (.const (.int .u64 285870213051353865)) rfl (n &&& (18446744073709551616 - n)) _ (K.dep 3 8 rfl) rfl
  · exact st_shru 65 53 (.tmp 9) (.const (.int .u64 58)) rfl ((n &&& (18446744073709551616 - n)) * 285870213051353865 % 18446744073709551616) 58 (K.dep 4 9 rfl) rfl _ rfl (by decide)
  · exact st_idxg (.global 2) (.tmp 10) rfl _ e2 rfl (K.dep 5 10 rfl)
  · exact by rw [← e1]; exact st_loadc 5 (.tmp 11) rfl (by kernel_rfl) (K.dep 6 11 rfl) ((hz.below (bl.trans (Below.mono K.grow bl.size)) hz.lt).tz _ e2)
  · exact st_conv 5 3 (.tmp 12) rfl .u8 .i64 _ _ (K.dep 7 12 rfl) Tryd.under5 Tryd.under3 (by rw [IntKind.wrap_i64]; omega)
  · exact st_assign (.tmp 13) rfl (K.dep 8 13 rfl)
  intro f3 w3 A hb
  replace bl0 := bl
  replace x0 := (A.old 0 rfl).trans x0
  clear x2
  replace x4 := (A.old 4 rfl).trans x4
  have x2 : f3.eval (.tmp 2) = .int .i64 ((tzn n : Nat) : Int) := A.has 9 2 rfl
  replace bl := (bl.trans (Below.mono hb bl.size))
  replace sz := A.size.trans sz
  replace df := A.defs.trans df
  clear A hb
  show Code.wp _ _ _ _ _
  refine wp_ret ?_
  repeat (first | with_reducible refine then_ret ?_ | with_reducible refine block_ret ?_)
  exact bodyPost_ret (v := .int .i64 ((tzn n : Nat) : Int)) (ret_slot rfl f3 _ x2 _ _) df ⟨rfl, bl⟩
theorem tz_any (n : Nat) (h0 : 1 ≤ n) (h1 : n ≤ 127) (w : World) (hz : Tz w) :
    Calls Tryd.prog 36 #[.int .u64 ((n : Nat) : Int)] w fun e w' => e = .returned (.int .i64 ((tzn n : Nat) : Int)) ∧ Below w.heap.size w w' := by
  go_enter Tryd.func36, Tryd.ntmps36
  refine code_both (fun f w1 => f.tmps.size = 8 ∧ f.defers = [] ∧ f.eval (.tmp 0) = .int .u64 ((n : Nat) : Int) ∧ Below w.heap.size w (w1)) ⟨rfl, rfl, rfl, Below.refl _ _⟩ ?_
  rintro f0 w0 ⟨sz, df, x0, bl⟩
  have bl0 := bl
  refine wp_seq ?_
  -- R0
  refine wp_all_seq [.eq (.int .i64 0)] (by kernel_rfl) (by kernel_rfl) (by rw [sz]; kernel_rfl) (by kernel_rfl) ⟨fun hw ac u K => ?_, trivial⟩ ?_
  · exact st_assign (.const (.int .i64 0)) rfl rfl
  intro f1 w1 A hb
  replace bl0 := bl
  replace x0 := (A.old 0 rfl).trans x0
  have x2 : f1.eval (.tmp 2) = .int .i64 0 := A.has 0 2 rfl
  replace bl := (bl.trans (Below.mono hb bl.size))
  replace sz := A.size.trans sz
  replace df := A.defs.trans df
  clear A hb
  show Code.wp _ _ _ _ _
  refine wp_seq ?_
  refine wp_cond_false rfl ?_
  refine wp_skip ?_
  show Code.wp _ _ _ _ _
  refine wp_seq ?_
  -- R2
  refine wp_all_seq [.eq (.int .u64 ((n : Nat) : Int)), .eq (.int .i64 ((tzn n : Nat) : Int)), .eq (.int .i64 ((tzn n : Nat) : Int))] (by kernel_rfl) (by kernel_rfl) (by rw [sz]; kernel_rfl) (by kernel_rfl) ⟨fun hw ac u K => ?_, fun hw ac u K => ?_, fun hw ac u K => ?_, trivial⟩ ?_
  · exact st_move (.tmp 0) rfl ((K.old 0 rfl).trans x0)
  · exact st_call 46 (.func 46) _ _ #[.int .u64 ((n : Nat) : Int)] rfl rfl (one_arg (K.dep 0 6 rfl)) Tryd.enter46 (fk_of (tz64_any n h0 h1 _ (hz.below (bl.trans (Below.mono K.grow bl.size)) hz.lt)))
  · exact st_assign (.tmp 7) rfl (K.dep 1 7 rfl)
  intro f2 w2 A hb
  replace bl0 := bl
  replace x0 := (A.old 0 rfl).trans x0
  clear x2
  have x2 : f2.eval (.tmp 2) = .int .i64 ((tzn n : Nat) : Int) := A.has 2 2 rfl
  replace bl := (bl.trans (Below.mono hb bl.size))
  replace sz := A.size.trans sz
  replace df := A.defs.trans df
  clear A hb
  show Code.wp _ _ _ _ _
  refine wp_ret ?_
  repeat (first | with_reducible refine then_ret ?_ | with_reducible refine block_ret ?_)
  exact bodyPost_ret (v := .int .i64 ((tzn n : Nat) : Int)) (ret_slot rfl f2 _ x2 _ _) df ⟨rfl, bl⟩
end Go.Proofs.YtfbfngblocfdlaaDoor
