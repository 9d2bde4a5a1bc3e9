/- The law's root. Plain: a drawn region whose last store may come ahead of one operation that only takes a value out: both orders come to one end. Drawn regions with a chain of calls that turn one object: what only looks is taken first. An In (package wire) in memory: what take, spoil, Bad and Done do. Numbers as bytes, the highest first. No program is spoken of. What number, Int, length, counted and Count do with an In. What Int, Count, Bool, length and counted do with an In. What length and counted do with an In. append, with the place of the row behind it. No program is spoken of. append of bytes, and what NewIn, Bytes and Text do. What Hash does with an In. What Hashes does with an In. An Out (package wire) in memory: what number does. What Int, Text, Hash, Hashes and Bool do with an Out. The bytes of a signature, plainly; lists of hashes as flat lists; an Out that begins. What is written is read back, and what is read was so written: numbers, hashes, signatures. The calls of an In as walks of other packages meet them. What the reference's Bytes hands back: the kind's byte, and the bytes of the parts, one behind the other. What the reference's Number hands back: a number's last bytes, the highest first; Bytes once more. -/
import Derived.Test.YtnppjlpnfijobaaDoorM4
import Derived.Test.YtnppjlpnfijobaaDoorM3
import Derived.Deep.RegionHeld
import Derived.Test.YtnppjlpnfijobaaDoorM2
import Derived.Test.YtnppjlpnfijobaaDoorProg
import Derived.Deep.Cut
import Derived.BigRegion
import Derived.BigQuiet
import Derived.Deep.RegionWith
import Derived.Laws.BytesArg
import Derived.Laws.AppendOwnNone
import Derived.Laws.MakeOwn
import Derived.Laws.Small
import Derived.KernelRfl
import Derived.Maps.RangeWalk
import Derived.OwnWalk
import Derived.Test.YtnppjlpnfijobaaDoorM1
import Derived.Laws.BitsAllLaws
import Derived.Deep.MidRow
import Derived.Deep.RegionLaw
import Derived.Deep.AppendLies
namespace Go.Proofs.YtnppjlpnfijobaaDoor
set_option maxRecDepth 100000
open Go.RowKit
theorem rops_mem (n : Nat) : ∀ a z, 1 ≤ n → z ∈ rops a n → (∃ i : Nat, z = (i : Int) ∧ i < a + n) ∨ z = -1 := by
  induction n using Nat.strongRecOn with
  | ind n ih =>
    intro a z h1 hz
    by_cases h2 : n = 1
    · subst h2
      rw [rops_one] at hz
      exact .inl ⟨a, List.mem_singleton.1 hz, by omega⟩
    · have hs := spl_lt (n := n) (by omega)
      have hp := spl_pos n
      rw [rops_two a (by omega), List.mem_append, List.mem_append] at hz
      rcases hz with hz | hz | hz
      · rcases ih (spl n) hs a z hp hz with ⟨i, e, hi⟩ | e
        · exact .inl ⟨i, e, by omega⟩
        · exact .inr e
      · rcases ih (n - spl n) (by omega) (a + spl n) z (by omega) hz with ⟨i, e, hi⟩ | e
        · exact .inl ⟨i, e, by omega⟩
        · exact .inr e
      · exact .inr (List.mem_singleton.1 hz)
/-- The stack behind k operations. -/
def stc (l : List (List (BitVec 8))) (k : Nat) : List (List (BitVec 8)) := ((rops 0 l.length).take k).foldl (stk l) []
theorem stc_zero (l : List (List (BitVec 8))) : stc l 0 = [] := rfl
theorem stc_succ (l : List (List (BitVec 8))) {k : Nat} {z : Int} (h : (rops 0 l.length)[k]? = some z) : stc l (k + 1) = stk l (stc l k) z := by
  unfold stc
  rw [List.take_add_one, h, List.foldl_append]
  rfl
theorem stk_len (l st : List (List (BitVec 8))) (z : Int) : (stk l st z).length ≤ st.length + 1 := by
  unfold stk
  split
  · simp
  · rw [List.length_append, List.length_take, List.length_singleton]; omega
theorem stc_len (l : List (List (BitVec 8))) (k : Nat) : (stc l k).length ≤ k := by
  induction k with
  | zero => exact Nat.le_refl _
  | succ k ih =>
    cases h : (rops 0 l.length)[k]? with
    | some z =>
      rw [stc_succ l h]
      have := stk_len l (stc l k) z
      omega
    | none =>
      have : stc l (k + 1) = stc l k := by
        unfold stc
        rw [List.take_add_one, h]
        simp
      rw [this]; omega
theorem stc_put (l : List (List (BitVec 8))) {k i : Nat} {x : List (BitVec 8)} (h : (rops 0 l.length)[k]? = some (i : Int)) (hx : l[i]? = some x) : stc l (k + 1) = stc l k ++ [x] := by
  rw [stc_succ l h, stk_put l _ hx]
theorem stc_two (l : List (List (BitVec 8))) (hn : 1 ≤ l.length) {k : Nat} (h : (rops 0 l.length)[k]? = some (-1)) : 2 ≤ (stc l k).length := by
  have := rops_deep l l.length 0 hn (by omega) [] k h
  unfold stc
  simpa using this
theorem stc_node (l : List (List (BitVec 8))) {k : Nat} (h : (rops 0 l.length)[k]? = some (-1)) {N : Nat} (hN : N + 2 = (stc l k).length) {x y : List (BitVec 8)} (hx : (stc l k)[N]? = some x) (hy : (stc l k)[N + 1]? = some y) : stc l (k + 1) = (stc l k).take N ++ [nd x y] := by
  rw [stc_succ l h]
  unfold stk
  rw [if_neg (by decide), show (stc l k).length - 2 = N by omega, show (stc l k).length - 1 = N + 1 by omega, List.getD_eq_getElem?_getD, hx, List.getD_eq_getElem?_getD, hy]
  rfl
theorem stc_all (l : List (List (BitVec 8))) (hn : 1 ≤ l.length) : stc l (rops 0 l.length).length = [mroot l] := by
  unfold stc
  rw [List.take_of_length_le (Nat.le_refl _), stk_rops l l.length 0 hn (by omega), List.nil_append]
  unfold sgm
  rw [List.drop_zero, List.take_of_length_le (Nat.le_refl _)]
theorem hs_len {hs : List (List (BitVec 8))} {v : Value} {w : World} (h : (Fk.hs hs).f v w) {i : Nat} {x : List (BitVec 8)} (hi : hs[i]? = some x) : x.length = 32 := by
  obtain ⟨A, C, lb, lo, e, hl⟩ := h
  exact (hl.all i x hi).1
theorem rroot0 (n : Nat) (w : World) (h1 : 1 ≤ n) (h2 : n ≤ 1000) : Calls Tryd.prog 25 #[.int .i64 0, .int .i64 ((n : Nat) : Int)] w fun e w' => ∃ u, e = .returned u ∧ (Fk.oi w.heap.size (rops 0 n)).f u w' ∧ Below w.heap.size w w' := by
  have := rroot_any n 0 w h1 (by omega)
  rw [Nat.zero_add] at this
  exact this
theorem st_cutow {Q : Exit → Act → World → Prop} {o : Oper} {a : Act} {w : World} (x y : Operand) (ho : o.op = .slice 22 x none (some y) none) {base : Nat} {hs : List (List (BitVec 8))} (h : (Fk.ow base hs).f (a.eval x) w) (n : Nat) (hy : a.eval y = .int .i64 (n : Int)) (hn : n ≤ hs.length) : o.wp Tryd.prog a w (Ends a o.dst w (Fk.ow base (hs.take n)).f) Q := by
  have h0 := h
  obtain ⟨A, C, lb, lo, e, hc, hl⟩ := ow_hc h
  rw [e] at h0
  have h3 := ow_take h0 n hn
  refine st_pure (v := sliced A 0 n C 32) ?_ ?_
  · have h1 := run_slice_h (P := Tryd.prog) (w := w) 22 A hs.length C (by rw [Tryd.elem22]; exact Tryd.under22') .i64 (n : Int) (by omega) (by omega)
    rw [Tryd.elem22, Tryd.sizeOf33] at h1
    simp only [Result.andThen_ok, Int.toNat_natCast] at h1
    have h2 := run_sliceAt_slice (P := Tryd.prog) (w := w) 22 (.slice A hs.length C) none (some (.int .i64 (n : Int))) none (by rw [Tryd.elem22]; exact Tryd.under22')
    unfold execOp
    rw [ho]
    simp [e, hy, h2, h1]
  · have : sliced A 0 n C 32 = .slice A n C := by
      unfold sliced
      by_cases h0 : C = 0
      · simp [h0]
      · cases A with
        | none => simp
        | some p => simp [Addr.add]
    rw [this]
    exact h3
theorem lroot_nil (w : World) {v : Value} (hv : (Fk.hc []).f v w) (hK : Tab w) {y : List (BitVec 8)} (ey : Box (mroot [] = y)) :
    Calls Tryd.prog 11 #[v] w fun e w' => e = .returned (.agg ((y).map V).toArray) ∧ Below w.heap.size w w' := by
  have eys : shaOf [] = y := by rw [← ey.out, mroot_nil]
  have hy : y.length = 32 := by rw [← eys]; exact shaOf_len _
  have hnil := sl_nil w
  go_enter Tryd.func11, Tryd.ntmps11
  refine code_both (fun f w1 => f.tmps.size = 53 ∧ f.defers = [] ∧ f.eval (.tmp 0) = v ∧ Below w.heap.size w (w1)) ⟨rfl, rfl, rfl, Below.refl _ _⟩ ?_
  rintro f0 w0 ⟨sz, df, x0, bl⟩
  have bl0 := bl
  refine wp_seq ?_
  refine wp_all_seq [.nw w0.heap.size 33 ((hz).map V)] (by kernel_rfl) (by kernel_rfl) (by rw [sz]; kernel_rfl) (by kernel_rfl) ⟨fun hw ac u K => ?_, trivial⟩ ?_
  · exact st_alloc33 rfl _ K.grow.size
  intro f1 w1 A hb
  replace bl0 := bl
  replace x0 := (A.old 0 rfl).trans x0
  have x2 : Fk.f (.nw w0.heap.size 33 ((hz).map V)) (f1.eval (.tmp 2)) w1 := A.has 0 2 rfl
  replace bl := (bl.trans (Below.mono hb bl.size))
  replace sz := A.size.trans sz
  replace df := A.defs.trans df
  clear A hb
  obtain ⟨g2, hg2, e2, m2⟩ := x2
  have x2 := e2
  clear e2
  have hw2 : w.heap.size ≤ g2 := Nat.le_trans bl0.size hg2
  show Code.wp _ _ _ _ _
  refine wp_seq ?_
  refine wp_seq ?_
  refine wp_all_seq [.eq (v), .eq (.int .i64 ((0 : Nat) : Int)), .eq (.bool true)] (by kernel_rfl) (by kernel_rfl) (by rw [sz]; kernel_rfl) (by kernel_rfl) ⟨fun hw ac u K => ?_, fun hw ac u K => ?_, fun hw ac u K => ?_, trivial⟩ ?_
  · exact st_move (.tmp 0) rfl ((K.old 0 rfl).trans x0)
  · exact st_lenc (.tmp 7) rfl (0) rfl (fk_val (K.dep 0 7 rfl) (Fk.mono _ _ _ _ hv (bl.trans (Below.mono K.grow bl.size))))
  · exact st_eqi 3 (.tmp 8) (.const (.int .i64 0)) rfl .i64 (((0 : Nat) : Int)) (0) (K.dep 1 8 rfl) rfl _ (by simp)
  intro f2 w2 A hb
  replace bl0 := bl
  replace x0 := (A.old 0 rfl).trans x0
  replace x2 := (A.old 2 rfl).trans x2
  have x9 : f2.eval (.tmp 9) = .bool true := A.has 2 9 rfl
  have lt_m2 := Ob.lt m2
  replace m2 := Ob.below m2 hb
  replace bl := (bl.trans (Below.mono hb bl.size))
  replace sz := A.size.trans sz
  replace df := A.defs.trans df
  clear A hb
  show Code.wp _ _ _ _ _
  refine wp_cond_true x9 ?_
  refine wp_seq ?_
  refine wp_region_seq [.eq (.agg ((y).map V).toArray)] (by kernel_rfl) (by kernel_rfl) (by rw [sz]; kernel_rfl) (by kernel_rfl) ⟨fun hw ac u K => ?_, trivial⟩ ?_
  · exact st_call 24 (.func 24) _ _ #[.slice none 0 0] rfl rfl (one_arg rfl) Tryd.enter24 (by rw [← eys]; exact fk_sum (by simp) (hK.below (bl.trans (Below.mono K.grow bl.size))) (Fk.mono _ _ _ _ hnil (bl.trans (Below.mono K.grow bl.size))))
  intro f3 w3 A hb
  replace bl0 := bl
  replace x0 := (A.old 0 rfl).trans x0
  replace x2 := (A.old 2 rfl).trans x2
  replace x9 := (A.old 9 rfl).trans x9
  have x10 : f3.eval (.tmp 10) = .agg ((y).map V).toArray := A.has 0 10 rfl
  have lt_m2 := Ob.lt m2
  replace m2 := Ob.below m2 hb
  replace bl := (bl.trans (Below.mono hb bl.size))
  replace sz := A.size.trans sz
  replace df := A.defs.trans df
  clear A hb
  refine wl_store rfl (.tmp 2) (.tmp 10) rfl rfl (g2) (y) (hz) x2 x10 m2 hz_len hy ?_
  replace m2 : Ob (w3.setRow g2 ((y).map V : List Value).toArray) (g2) 33 ((y).map V) := Ob.setRow m2 ((y).map V)
  replace bl : Below w.heap.size w (w3.setRow g2 ((y).map V : List Value).toArray) := bl.trans (below_setRow _ _ _ _ hw2)
  generalize w3.setRow g2 ((y).map V : List Value).toArray = w4b at bl m2 ⊢
  refine wpList_nil ?_
  clear x10
  show Code.wp _ _ _ _ _
  refine wp_ret ?_
  repeat (first | with_reducible refine then_ret ?_ | with_reducible refine block_ret ?_)
  exact bodyPost_ret (v := .agg ((y).map V).toArray) (ret_hash rfl f3 _ g2 (y) hy x2 m2) df ⟨rfl, bl⟩
theorem lroot_pos {l : List (List (BitVec 8))} (hn : 1 ≤ l.length) (h1000 : l.length ≤ 400) (w : World) {v : Value} (hv : (Fk.hc l).f v w) (hK : Tab w) {y : List (BitVec 8)} (ey : Box (mroot l = y)) :
    Calls Tryd.prog 11 #[v] w fun e w' => e = .returned (.agg ((y).map V).toArray) ∧ Below w.heap.size w w' := by
  have hvs := hc_hs hv
  have hy : y.length = 32 := by rw [← ey.out]; exact mroot_len (hc_len hv)
  obtain ⟨O, hO⟩ : ∃ O, rops 0 l.length = O := ⟨_, rfl⟩
  have hOl : O.length = 2 * l.length - 1 := by rw [← hO]; exact rops_len _ _ hn
  go_enter Tryd.func11, Tryd.ntmps11
  refine code_both (fun f w1 => f.tmps.size = 53 ∧ f.defers = [] ∧ f.eval (.tmp 0) = v ∧ Below w.heap.size w (w1)) ⟨rfl, rfl, rfl, Below.refl _ _⟩ ?_
  rintro f0 w0 ⟨sz, df, x0, bl⟩
  have bl0 := bl
  refine wp_seq ?_
  refine wp_all_seq [.nw w0.heap.size 33 ((hz).map V)] (by kernel_rfl) (by kernel_rfl) (by rw [sz]; kernel_rfl) (by kernel_rfl) ⟨fun hw ac u K => ?_, trivial⟩ ?_
  · exact st_alloc33 rfl _ K.grow.size
  intro f1 w1 A hb
  replace bl0 := bl
  replace x0 := (A.old 0 rfl).trans x0
  have x2 : Fk.f (.nw w0.heap.size 33 ((hz).map V)) (f1.eval (.tmp 2)) w1 := A.has 0 2 rfl
  replace bl := (bl.trans (Below.mono hb bl.size))
  replace sz := A.size.trans sz
  replace df := A.defs.trans df
  clear A hb
  obtain ⟨g2, hg2, e2, m2⟩ := x2
  have x2 := e2
  clear e2
  have hw2 : w.heap.size ≤ g2 := Nat.le_trans bl0.size hg2
  show Code.wp _ _ _ _ _
  refine wp_seq ?_
  refine wp_seq ?_
  refine wp_all_seq [.eq (v), .eq (.int .i64 (((l).length : Nat) : Int)), .eq (.bool false)] (by kernel_rfl) (by kernel_rfl) (by rw [sz]; kernel_rfl) (by kernel_rfl) ⟨fun hw ac u K => ?_, fun hw ac u K => ?_, fun hw ac u K => ?_, trivial⟩ ?_
  · exact st_move (.tmp 0) rfl ((K.old 0 rfl).trans x0)
  · exact st_lenc (.tmp 7) rfl ((l).length) rfl (fk_val (K.dep 0 7 rfl) (Fk.mono _ _ _ _ hv (bl.trans (Below.mono K.grow bl.size))))
  · exact st_eqi 3 (.tmp 8) (.const (.int .i64 0)) rfl .i64 ((((l).length : Nat) : Int)) (0) (K.dep 1 8 rfl) rfl _ (by rw [eq_comm, decide_eq_false_iff_not]; omega)
  intro f2 w2 A hb
  replace bl0 := bl
  replace x0 := (A.old 0 rfl).trans x0
  replace x2 := (A.old 2 rfl).trans x2
  have x9 : f2.eval (.tmp 9) = .bool false := A.has 2 9 rfl
  have lt_m2 := Ob.lt m2
  replace m2 := Ob.below m2 hb
  replace bl := (bl.trans (Below.mono hb bl.size))
  replace sz := A.size.trans sz
  replace df := A.defs.trans df
  clear A hb
  show Code.wp _ _ _ _ _
  refine wp_cond_false x9 ?_
  refine wp_skip ?_
  show Code.wp _ _ _ _ _
  refine wp_seq ?_
  refine wp_all_seq [.eq (.slice none 0 0)] (by kernel_rfl) (by kernel_rfl) (by rw [sz]; kernel_rfl) (by kernel_rfl) ⟨fun hw ac u K => ?_, trivial⟩ ?_
  · exact st_assign (.const (.slice none 0 0)) rfl rfl
  intro f3 w3 A hb
  replace bl0 := bl
  replace x0 := (A.old 0 rfl).trans x0
  replace x2 := (A.old 2 rfl).trans x2
  replace x9 := (A.old 9 rfl).trans x9
  have x3 : f3.eval (.tmp 3) = .slice none 0 0 := A.has 0 3 rfl
  have lt_m2 := Ob.lt m2
  replace m2 := Ob.below m2 hb
  replace bl := (bl.trans (Below.mono hb bl.size))
  replace sz := A.size.trans sz
  replace df := A.defs.trans df
  clear A hb
  show Code.wp _ _ _ _ _
  refine wp_seq ?_
  refine wp_seq ?_
  refine wp_all_seq [.eq (v), .eq (.int .i64 (((l).length : Nat) : Int)), .oi w.heap.size (O), .eq (.int .i64 (((O).length : Nat) : Int)), .eq (.int .i64 0)] (by kernel_rfl) (by kernel_rfl) (by rw [sz]; kernel_rfl) (by kernel_rfl) ⟨fun hw ac u K => ?_, fun hw ac u K => ?_, fun hw ac u K => ?_, fun hw ac u K => ?_, fun hw ac u K => ?_, trivial⟩ ?_
  · exact st_move (.tmp 0) rfl ((K.old 0 rfl).trans x0)
  · exact st_lenc (.tmp 11) rfl ((l).length) rfl (fk_val (K.dep 0 11 rfl) (Fk.mono _ _ _ _ hv (bl.trans (Below.mono K.grow bl.size))))
  · exact st_call 25 (.func 25) _ _ #[.int .i64 0, .int .i64 (((l).length : Nat) : Int)] rfl rfl (arg2 rfl (K.dep 1 12 rfl)) Tryd.enter25 (by rw [← hO]; exact fk_orw (bl.trans (Below.mono K.grow bl.size)).size (rroot0 l.length _ (by omega) (by omega)))
  · exact st_lenis (.tmp 13) rfl (oi_is (K.dep 2 13 rfl))
  · exact st_move (.const (.int .i64 0)) rfl rfl
  intro f4 w4 A hb
  replace bl0 := bl
  replace x0 := (A.old 0 rfl).trans x0
  replace x2 := (A.old 2 rfl).trans x2
  replace x9 := (A.old 9 rfl).trans x9
  replace x3 := (A.old 3 rfl).trans x3
  have x13 : Fk.f (.oi w.heap.size (O)) (f4.eval (.tmp 13)) w4 := A.has 2 13 rfl
  have x14 : f4.eval (.tmp 14) = .int .i64 (((O).length : Nat) : Int) := A.has 3 14 rfl
  have x15 : f4.eval (.tmp 15) = .int .i64 0 := A.has 4 15 rfl
  have lt_m2 := Ob.lt m2
  replace m2 := Ob.below m2 hb
  replace bl := (bl.trans (Below.mono hb bl.size))
  replace sz := A.size.trans sz
  replace df := A.defs.trans df
  clear A hb
  obtain ⟨v13, e13⟩ : ∃ v, f4.eval (.tmp 13) = v := ⟨_, rfl⟩
  have h13 := oi_is x13
  rw [e13] at h13
  replace x13 := e13
  clear e13
  have blw := bl
  replace hv := Fk.mono _ _ _ _ hv bl
  replace hvs := Fk.mono _ _ _ _ hvs bl
  replace hK := hK.below bl
  replace bl := Below.refl w4.heap.size w4
  replace bl0 := bl
  show Code.wp _ _ _ _ _
  refine wp_block ?_
  refine wp_loop (fun f v1 => ∃ k : Nat, k ≤ (O).length ∧ f.tmps.size = 53 ∧ f.defers = [] ∧ f.eval (.tmp 0) = v ∧ f.eval (.tmp 2) = .pointer (some ⟨g2, 0, none⟩) ∧ f.eval (.tmp 9) = .bool false ∧ f.eval (.tmp 13) = v13 ∧ f.eval (.tmp 14) = .int .i64 (((O).length : Nat) : Int) ∧ f.eval (.tmp 15) = .int .i64 ((k : Nat) : Int) ∧ Fk.f (.ow w4.heap.size (stc l k)) (f.eval (.tmp 3)) v1 ∧ Below w4.heap.size w4 (v1)) (fun f _ => (O).length - (intOf (f.eval (.tmp 15))).toNat) ⟨0, Nat.zero_le _, sz, df, x0, x2, x9, x13, x14, x15, (fk_val x3 (by rw [stc_zero]; exact ow_nil _ _)), bl⟩ ?_
  intro f5 w5 hI
  clear sz df bl bl0 x0 x2 x9 x3 x13 x14 x15
  obtain ⟨k, hk, sz, df, x0, x2, x9, x13, x14, x15, x3, bl⟩ := hI
  have bl0 := bl
  have hcnt := x15
  refine wp_seq ?_
  by_cases hlt : k < (O).length
  rotate_left
  · skip
    refine wp_all_seq [.eq (.bool false)] (by kernel_rfl) (by kernel_rfl) (by rw [sz]; kernel_rfl) (by kernel_rfl) ⟨fun hw ac u K => ?_, trivial⟩ ?_
    · exact st_lss 3 (.tmp 15) (.tmp 14) rfl .i64 (((k : Nat) : Int)) ((((O).length : Nat) : Int)) ((K.old 15 rfl).trans x15) ((K.old 14 rfl).trans x14) _ (by rw [eq_comm, decide_eq_false_iff_not]; exact fun h => hlt (Int.ofNat_lt.1 h))
    intro f6 w6 A hb
    replace bl0 := bl
    replace x0 := (A.old 0 rfl).trans x0
    replace x2 := (A.old 2 rfl).trans x2
    replace x9 := (A.old 9 rfl).trans x9
    replace x3 := f_at (A.old 3 rfl) (Fk.mono _ _ _ _ x3 hb)
    replace x13 := (A.old 13 rfl).trans x13
    replace x14 := (A.old 14 rfl).trans x14
    replace x15 := (A.old 15 rfl).trans x15
    have x16 : f6.eval (.tmp 16) = .bool false := A.has 0 16 rfl
    replace bl := (bl.trans (Below.mono hb bl.size))
    replace sz := A.size.trans sz
    replace df := A.defs.trans df
    clear A hb
    show Code.wp _ _ _ _ _
    refine wp_seq ?_
    refine wp_cond_false x16 ?_
    refine wp_exit ?_
    show Code.wp _ _ _ _ _
    refine wp_seq ?_
    obtain rfl : k = (O).length := by omega
    have hall := stc_all l (by omega)
    rw [hO, ey.out] at hall
    rw [hall] at x3
    replace m2 := Ob.below m2 bl
    replace bl := blw.trans (Below.mono bl blw.size)
    replace bl0 := bl
    refine wp_region_seq [.ow w4.heap.size ([y]), .ph (y), .eq (.agg ((y).map V).toArray)] (by kernel_rfl) (by kernel_rfl) (by rw [sz]; kernel_rfl) (by kernel_rfl) ⟨fun hw ac u K => ?_, fun hw ac u K => ?_, fun hw ac u K => ?_, trivial⟩ ?_
    · exact st_move (.tmp 3) rfl (f_at (K.old 3 rfl) (Fk.mono _ _ _ _ x3 K.grow))
    · exact st_idxh (.tmp 50) (.const (.int .i64 0)) rfl (ow_hs (K.dep 0 50 rfl)) (0) (y) rfl rfl
    · exact st_loadh (.tmp 51) rfl (K.dep 1 51 rfl)
    intro f7 w7 A hb
    replace bl0 := bl
    replace x0 := (A.old 0 rfl).trans x0
    replace x2 := (A.old 2 rfl).trans x2
    replace x9 := (A.old 9 rfl).trans x9
    replace x3 := f_at (A.old 3 rfl) (Fk.mono _ _ _ _ x3 hb)
    replace x13 := (A.old 13 rfl).trans x13
    replace x14 := (A.old 14 rfl).trans x14
    replace x15 := (A.old 15 rfl).trans x15
    replace x16 := (A.old 16 rfl).trans x16
    have x52 : f7.eval (.tmp 52) = .agg ((y).map V).toArray := A.has 2 52 rfl
    have lt_m2 := Ob.lt m2
    replace m2 := Ob.below m2 hb
    replace bl := (bl.trans (Below.mono hb bl.size))
    replace sz := A.size.trans sz
    replace df := A.defs.trans df
    clear A hb
    clear x3
    refine wl_store rfl (.tmp 2) (.tmp 52) rfl rfl (g2) (y) (hz) x2 x52 m2 hz_len hy ?_
    replace m2 : Ob (w7.setRow g2 ((y).map V : List Value).toArray) (g2) 33 ((y).map V) := Ob.setRow m2 ((y).map V)
    replace bl : Below w.heap.size w (w7.setRow g2 ((y).map V : List Value).toArray) := bl.trans (below_setRow _ _ _ _ hw2)
    generalize w7.setRow g2 ((y).map V : List Value).toArray = w8b at bl m2 ⊢
    refine wpList_nil ?_
    clear x52
    show Code.wp _ _ _ _ _
    refine wp_ret ?_
    repeat (first | with_reducible refine then_ret ?_ | with_reducible refine block_ret ?_)
    exact bodyPost_ret (v := .agg ((y).map V).toArray) (ret_hash rfl f7 _ g2 (y) hy x2 m2) df ⟨rfl, bl⟩
  obtain ⟨z, hz⟩ : ∃ z, O[k]? = some z := ⟨_, List.getElem?_eq_getElem hlt⟩
  have hz2 := hz
  rw [← hO] at hz2
  have hsl := stc_len l k
  refine wp_all_seq [.eq (.bool true)] (by kernel_rfl) (by kernel_rfl) (by rw [sz]; kernel_rfl) (by kernel_rfl) ⟨fun hw ac u K => ?_, trivial⟩ ?_
  · exact st_lss 3 (.tmp 15) (.tmp 14) rfl .i64 (((k : Nat) : Int)) ((((O).length : Nat) : Int)) ((K.old 15 rfl).trans x15) ((K.old 14 rfl).trans x14) _ (by rw [eq_comm, decide_eq_true_iff]; exact Int.ofNat_lt.2 hlt)
  intro f6 w6 A hb
  replace bl0 := bl
  replace x0 := (A.old 0 rfl).trans x0
  replace x2 := (A.old 2 rfl).trans x2
  replace x9 := (A.old 9 rfl).trans x9
  replace x3 := f_at (A.old 3 rfl) (Fk.mono _ _ _ _ x3 hb)
  replace x13 := (A.old 13 rfl).trans x13
  replace x14 := (A.old 14 rfl).trans x14
  replace x15 := (A.old 15 rfl).trans x15
  have x16 : f6.eval (.tmp 16) = .bool true := A.has 0 16 rfl
  replace bl := (bl.trans (Below.mono hb bl.size))
  replace sz := A.size.trans sz
  replace df := A.defs.trans df
  clear A hb
  show Code.wp _ _ _ _ _
  refine wp_seq ?_
  refine wp_cond_true x16 ?_
  refine wp_skip ?_
  show Code.wp _ _ _ _ _
  refine wp_seq ?_
  refine wp_block ?_
  refine wp_seq ?_
  refine wp_all_seq [.prg [.int .i64 z], .eq (.int .i64 z), .eq (.int .i64 z)] (by kernel_rfl) (by kernel_rfl) (by rw [sz]; kernel_rfl) (by kernel_rfl) ⟨fun hw ac u K => ?_, fun hw ac u K => ?_, fun hw ac u K => ?_, trivial⟩ ?_
  · exact st_idxis (.tmp 13) (.tmp 15) rfl (fk_val ((K.old 13 rfl).trans x13) (Fk.mono _ _ _ _ h13 (bl.trans (Below.mono K.grow bl.size)))) k ((K.old 15 rfl).trans x15) z hz
  · exact st_loadr1 3 (.tmp 17) rfl (by kernel_rfl) (K.dep 0 17 rfl)
  · exact st_assign (.tmp 18) rfl (K.dep 1 18 rfl)
  intro f7 w7 A hb
  replace bl0 := bl
  replace x0 := (A.old 0 rfl).trans x0
  replace x2 := (A.old 2 rfl).trans x2
  replace x9 := (A.old 9 rfl).trans x9
  replace x3 := f_at (A.old 3 rfl) (Fk.mono _ _ _ _ x3 hb)
  replace x13 := (A.old 13 rfl).trans x13
  replace x14 := (A.old 14 rfl).trans x14
  replace x15 := (A.old 15 rfl).trans x15
  replace x16 := (A.old 16 rfl).trans x16
  have x5 : f7.eval (.tmp 5) = .int .i64 z := A.has 2 5 rfl
  replace bl := (bl.trans (Below.mono hb bl.size))
  replace sz := A.size.trans sz
  replace df := A.defs.trans df
  clear A hb
  show Code.wp _ _ _ _ _
  refine wp_seq ?_
  refine wp_seq ?_
  rcases rops_mem l.length 0 z (by omega) (List.mem_of_getElem? hz2) with ⟨i, rfl, hi⟩ | rfl
  rotate_left
  · skip
    have h2 := stc_two l (by omega) hz2
    obtain ⟨N, hN⟩ : ∃ N, N + 2 = (stc l k).length := ⟨(stc l k).length - 2, by omega⟩
    obtain ⟨p, hpi⟩ : ∃ x, (stc l k)[N]? = some x := ⟨_, List.getElem?_eq_getElem (by omega)⟩
    obtain ⟨q, hqi⟩ : ∃ x, (stc l k)[N + 1]? = some x := ⟨_, List.getElem?_eq_getElem (by omega)⟩
    have hp : p.length = 32 := hs_len (ow_hs x3) hpi
    have hq : q.length = 32 := hs_len (ow_hs x3) hqi
    obtain ⟨r, er⟩ : ∃ r, Box (nd p q = r) := ⟨_, ⟨rfl⟩⟩
    have hr : r.length = 32 := by rw [← er.out]; exact nd_len _ _
    have hst := stc_node l hz2 hN hpi hqi
    rw [er.out] at hst
    refine wp_all_seq [.eq (.int .i64 (-1)), .eq (.bool false)] (by kernel_rfl) (by kernel_rfl) (by rw [sz]; kernel_rfl) (by kernel_rfl) ⟨fun hw ac u K => ?_, fun hw ac u K => ?_, trivial⟩ ?_
    · exact st_move (.tmp 5) rfl ((K.old 5 rfl).trans x5)
    · exact st_geq 3 (.tmp 19) (.const (.int .i64 0)) rfl .i64 ((-1)) (0) (K.dep 0 19 rfl) rfl _ (by rfl)
    intro f8 w8 A hb
    replace bl0 := bl
    replace x0 := (A.old 0 rfl).trans x0
    replace x2 := (A.old 2 rfl).trans x2
    replace x9 := (A.old 9 rfl).trans x9
    replace x3 := f_at (A.old 3 rfl) (Fk.mono _ _ _ _ x3 hb)
    replace x13 := (A.old 13 rfl).trans x13
    replace x14 := (A.old 14 rfl).trans x14
    replace x15 := (A.old 15 rfl).trans x15
    replace x16 := (A.old 16 rfl).trans x16
    replace x5 := (A.old 5 rfl).trans x5
    have x20 : f8.eval (.tmp 20) = .bool false := A.has 1 20 rfl
    replace bl := (bl.trans (Below.mono hb bl.size))
    replace sz := A.size.trans sz
    replace df := A.defs.trans df
    clear A hb
    show Code.wp _ _ _ _ _
    refine wp_cond_false x20 ?_
    refine wp_skip ?_
    show Code.wp _ _ _ _ _
    refine wp_seq ?_
    refine wp_all_seq [.ow w4.heap.size (stc l k), .eq (.int .i64 (((stc l k).length : Nat) : Int)), .eq (.int .i64 ((N : Nat) : Int)), .eq (.int .i64 ((N : Nat) : Int))] (by kernel_rfl) (by kernel_rfl) (by rw [sz]; kernel_rfl) (by kernel_rfl) ⟨fun hw ac u K => ?_, fun hw ac u K => ?_, fun hw ac u K => ?_, fun hw ac u K => ?_, trivial⟩ ?_
    · exact st_move (.tmp 3) rfl (f_at (K.old 3 rfl) (Fk.mono _ _ _ _ x3 K.grow))
    · exact st_lenh (.tmp 28) rfl (ow_hs (K.dep 0 28 rfl))
    · exact st_sub (.tmp 29) (.const (.int .i64 2)) rfl ((stc l k).length) (2) (N) (K.dep 1 29 rfl) rfl (by omega) (by omega)
    · exact st_assign (.tmp 30) rfl (K.dep 2 30 rfl)
    intro f9 w9 A hb
    replace bl0 := bl
    replace x0 := (A.old 0 rfl).trans x0
    replace x2 := (A.old 2 rfl).trans x2
    replace x9 := (A.old 9 rfl).trans x9
    replace x3 := f_at (A.old 3 rfl) (Fk.mono _ _ _ _ x3 hb)
    replace x13 := (A.old 13 rfl).trans x13
    replace x14 := (A.old 14 rfl).trans x14
    replace x15 := (A.old 15 rfl).trans x15
    replace x16 := (A.old 16 rfl).trans x16
    replace x5 := (A.old 5 rfl).trans x5
    replace x20 := (A.old 20 rfl).trans x20
    have x6 : f9.eval (.tmp 6) = .int .i64 ((N : Nat) : Int) := A.has 3 6 rfl
    replace bl := (bl.trans (Below.mono hb bl.size))
    replace sz := A.size.trans sz
    replace df := A.defs.trans df
    clear A hb
    show Code.wp _ _ _ _ _
    refine wp_seq ?_
    refine wp_seq ?_
    refine wp_all_seq [.eq (.int .i64 ((N : Nat) : Int)), .eq (.bool false)] (by kernel_rfl) (by kernel_rfl) (by rw [sz]; kernel_rfl) (by kernel_rfl) ⟨fun hw ac u K => ?_, fun hw ac u K => ?_, trivial⟩ ?_
    · exact st_move (.tmp 6) rfl ((K.old 6 rfl).trans x6)
    · exact st_lss 3 (.tmp 31) (.const (.int .i64 0)) rfl .i64 (((N : Nat) : Int)) (0) (K.dep 0 31 rfl) rfl _ (by rw [eq_comm, decide_eq_false_iff_not]; omega)
    intro f10 w10 A hb
    replace bl0 := bl
    replace x0 := (A.old 0 rfl).trans x0
    replace x2 := (A.old 2 rfl).trans x2
    replace x9 := (A.old 9 rfl).trans x9
    replace x3 := f_at (A.old 3 rfl) (Fk.mono _ _ _ _ x3 hb)
    replace x13 := (A.old 13 rfl).trans x13
    replace x14 := (A.old 14 rfl).trans x14
    replace x15 := (A.old 15 rfl).trans x15
    replace x16 := (A.old 16 rfl).trans x16
    replace x5 := (A.old 5 rfl).trans x5
    replace x20 := (A.old 20 rfl).trans x20
    replace x6 := (A.old 6 rfl).trans x6
    have x32 : f10.eval (.tmp 32) = .bool false := A.has 1 32 rfl
    replace bl := (bl.trans (Below.mono hb bl.size))
    replace sz := A.size.trans sz
    replace df := A.defs.trans df
    clear A hb
    show Code.wp _ _ _ _ _
    refine wp_cond_false x32 ?_
    refine wp_skip ?_
    show Code.wp _ _ _ _ _
    refine wp_region_tail [.ow w4.heap.size (stc l k), .eq (.int .i64 ((N : Nat) : Int)), .ow w4.heap.size ((stc l k).take (N)), .ow w4.heap.size (stc l k), .eq (.int .i64 ((N : Nat) : Int)), .ph (p), .eq (.agg ((p).map V).toArray), .ow w4.heap.size (stc l k), .eq (.int .i64 ((N : Nat) : Int)), .eq (.int .i64 ((N + 1 : Nat) : Int)), .ph (q), .eq (.agg ((q).map V).toArray), .eq (.agg ((r).map V).toArray), .hs ([r])] [14, 15] Tryd.mixed (by kernel_rfl) (by kernel_rfl) (by kernel_rfl) (by kernel_rfl) (by rw [sz]; kernel_rfl) (by kernel_rfl) ⟨fun hw ac u K => ?_, fun hw ac u K => ?_, fun hw ac u K => ?_, fun hw ac u K => ?_, fun hw ac u K => ?_, fun hw ac u K => ?_, fun hw ac u K => ?_, fun hw ac u K => ?_, fun hw ac u K => ?_, fun hw ac u K => ?_, fun hw ac u K => ?_, fun hw ac u K => ?_, fun hw ac u K => ?_, fun hw ac u K => ?_, trivial⟩ ?_
    · exact st_move (.tmp 3) rfl (f_at (K.old 3 rfl) (Fk.mono _ _ _ _ x3 K.grow))
    · exact st_move (.tmp 6) rfl ((K.old 6 rfl).trans x6)
    · exact st_cutow (.tmp 34) (.tmp 35) rfl (K.dep 0 34 rfl) N (K.dep 1 35 rfl) (by omega)
    · exact st_move (.tmp 3) rfl (f_at (K.old 3 rfl) (Fk.mono _ _ _ _ x3 K.grow))
    · exact st_move (.tmp 6) rfl ((K.old 6 rfl).trans x6)
    · exact st_idxh (.tmp 37) (.tmp 38) rfl (ow_hs (K.dep 3 37 rfl)) (N) (p) (K.dep 4 38 rfl) hpi
    · exact st_loadh (.tmp 39) rfl (K.dep 5 39 rfl)
    · exact st_move (.tmp 3) rfl (f_at (K.old 3 rfl) (Fk.mono _ _ _ _ x3 K.grow))
    · exact st_move (.tmp 6) rfl ((K.old 6 rfl).trans x6)
    · exact st_add (.tmp 42) (.const (.int .i64 1)) rfl (N) (1) (N + 1) (K.dep 8 42 rfl) rfl (by omega) (by omega)
    · exact st_idxh (.tmp 41) (.tmp 43) rfl (ow_hs (K.dep 7 41 rfl)) (N + 1) (q) (K.dep 9 43 rfl) hqi
    · exact st_loadh (.tmp 44) rfl (K.dep 10 44 rfl)
    · exact st_call 22 (.func 22) _ _ #[.agg ((p).map V).toArray, .agg ((q).map V).toArray] rfl rfl (arg2 (K.dep 6 40 rfl) (K.dep 11 45 rfl)) Tryd.enter22 (fk_node hp hq (hK.below (bl.trans (Below.mono K.grow bl.size))) er)
    · exact st_bh1 (.tmp 46) rfl hr (K.dep 12 46 rfl)
    intro f11 w11 A hb
    replace bl0 := bl
    replace x0 := (A.old 0 rfl).trans x0
    replace x2 := (A.old 2 rfl).trans x2
    replace x9 := (A.old 9 rfl).trans x9
    replace x3 := f_at (A.old 3 rfl) (Fk.mono _ _ _ _ x3 hb)
    replace x13 := (A.old 13 rfl).trans x13
    replace x14 := (A.old 14 rfl).trans x14
    replace x15 := (A.old 15 rfl).trans x15
    replace x16 := (A.old 16 rfl).trans x16
    replace x5 := (A.old 5 rfl).trans x5
    replace x20 := (A.old 20 rfl).trans x20
    replace x6 := (A.old 6 rfl).trans x6
    replace x32 := (A.old 32 rfl).trans x32
    have x36 : Fk.f (.ow w4.heap.size ((stc l k).take (N))) (f11.eval (.tmp 36)) w11 := A.has 2 36 rfl
    have x47 : Fk.f (.hs ([r])) (f11.eval (.tmp 47)) w11 := A.has 13 47 rfl
    replace bl := (bl.trans (Below.mono hb bl.size))
    replace sz := A.size.trans sz
    replace df := A.defs.trans df
    clear A hb
    refine wl_append rfl (.tmp 36) (.tmp 47) rfl 48 rfl (by rw [sz]; decide) x36 x47 bl (by rw [List.length_take]; omega) ?_
    intro f12 w12 df2 sz2 old2 new2 bl2
    clear x3
    clear x36
    clear x47
    replace x0 := (old2 0 rfl).trans x0
    replace x2 := (old2 2 rfl).trans x2
    replace x9 := (old2 9 rfl).trans x9
    replace x13 := (old2 13 rfl).trans x13
    replace x14 := (old2 14 rfl).trans x14
    replace x15 := (old2 15 rfl).trans x15
    replace x16 := (old2 16 rfl).trans x16
    replace x5 := (old2 5 rfl).trans x5
    replace x20 := (old2 20 rfl).trans x20
    replace x6 := (old2 6 rfl).trans x6
    replace x32 := (old2 32 rfl).trans x32
    have x48 : Fk.f (.ow w4.heap.size ((stc l k).take (N) ++ [r])) (f12.eval (.tmp 48)) w12 := new2
    replace bl := bl2
    replace bl0 := bl
    replace sz := sz2.trans sz
    replace df := df2.trans df
    clear df2 sz2 old2 new2 bl2
    refine wl_one (.ow w4.heap.size ((stc l k).take (N) ++ [r])) rfl 3 rfl (by rw [sz]; decide) (st_assign (.tmp 48) rfl x48) ?_
    intro f13 w13 df2 sz2 old2 new2 hb
    replace bl0 := bl
    replace x0 := (old2 0 rfl).trans x0
    replace x2 := (old2 2 rfl).trans x2
    replace x9 := (old2 9 rfl).trans x9
    replace x13 := (old2 13 rfl).trans x13
    replace x14 := (old2 14 rfl).trans x14
    replace x15 := (old2 15 rfl).trans x15
    replace x16 := (old2 16 rfl).trans x16
    replace x5 := (old2 5 rfl).trans x5
    replace x20 := (old2 20 rfl).trans x20
    replace x6 := (old2 6 rfl).trans x6
    replace x32 := (old2 32 rfl).trans x32
    replace x48 := f_at (old2 48 rfl) (Fk.mono _ _ _ _ x48 hb)
    have x3 : Fk.f (.ow w4.heap.size ((stc l k).take (N) ++ [r])) (f13.eval (.tmp 3)) w13 := new2
    replace bl := (bl.trans (Below.mono hb bl.size))
    replace sz := sz2.trans sz
    replace df := df2.trans df
    clear df2 sz2 old2 new2 hb
    refine wpList_nil ?_
    clear x48
    show Code.wp _ _ _ _ _
    refine wp_region_seq [.eq (.int .i64 ((k + 1 : Nat) : Int))] (by kernel_rfl) (by kernel_rfl) (by rw [sz]; kernel_rfl) (by kernel_rfl) ⟨fun hw ac u K => ?_, trivial⟩ ?_
    · exact st_add (.tmp 15) (.const (.int .i64 1)) rfl (k) (1) (k + 1) ((K.old 15 rfl).trans x15) rfl (by omega) (by omega)
    intro f14 w14 A hb
    replace bl0 := bl
    replace x0 := (A.old 0 rfl).trans x0
    replace x2 := (A.old 2 rfl).trans x2
    replace x9 := (A.old 9 rfl).trans x9
    replace x13 := (A.old 13 rfl).trans x13
    replace x14 := (A.old 14 rfl).trans x14
    replace x15 := (A.old 15 rfl).trans x15
    replace x16 := (A.old 16 rfl).trans x16
    replace x5 := (A.old 5 rfl).trans x5
    replace x20 := (A.old 20 rfl).trans x20
    replace x6 := (A.old 6 rfl).trans x6
    replace x32 := (A.old 32 rfl).trans x32
    replace x3 := f_at (A.old 3 rfl) (Fk.mono _ _ _ _ x3 hb)
    have x49 : f14.eval (.tmp 49) = .int .i64 ((k + 1 : Nat) : Int) := A.has 0 49 rfl
    replace bl := (bl.trans (Below.mono hb bl.size))
    replace sz := A.size.trans sz
    replace df := A.defs.trans df
    clear A hb
    refine wl_one (.eq (.int .i64 ((k + 1 : Nat) : Int))) rfl 15 rfl (by rw [sz]; decide) (st_move (.tmp 49) rfl x49) ?_
    intro f15 w15 df2 sz2 old2 new2 hb
    replace bl0 := bl
    replace x0 := (old2 0 rfl).trans x0
    replace x2 := (old2 2 rfl).trans x2
    replace x9 := (old2 9 rfl).trans x9
    replace x13 := (old2 13 rfl).trans x13
    replace x14 := (old2 14 rfl).trans x14
    clear x15
    replace x16 := (old2 16 rfl).trans x16
    replace x5 := (old2 5 rfl).trans x5
    replace x20 := (old2 20 rfl).trans x20
    replace x6 := (old2 6 rfl).trans x6
    replace x32 := (old2 32 rfl).trans x32
    replace x3 := f_at (old2 3 rfl) (Fk.mono _ _ _ _ x3 hb)
    replace x49 := (old2 49 rfl).trans x49
    have x15 : f15.eval (.tmp 15) = .int .i64 ((k + 1 : Nat) : Int) := new2
    replace bl := (bl.trans (Below.mono hb bl.size))
    replace sz := sz2.trans sz
    replace df := df2.trans df
    clear df2 sz2 old2 new2 hb
    refine wpList_nil ?_
    clear x49
    show (∃ _, _) ∧ _
    replace x3 : Fk.f (.ow w4.heap.size (stc l (k + 1))) (f15.eval (.tmp 3)) w15 := (by rw [hst]; exact x3)
    refine ⟨⟨k + 1, by omega, sz, df, x0, x2, x9, x13, x14, x15, x3, bl⟩, ?_⟩
    rw [show f15.eval (.tmp 15) = _ from x15, show _ = _ from hcnt]
    simp [intOf]
    omega
  obtain ⟨x, hxi⟩ : ∃ x, l[i]? = some x := ⟨_, List.getElem?_eq_getElem (by omega)⟩
  have hx : x.length = 32 := hs_len hvs hxi
  have hst := stc_put l hz2 hxi
  refine wp_all_seq [.eq (.int .i64 ((i : Nat) : Int)), .eq (.bool true)] (by kernel_rfl) (by kernel_rfl) (by rw [sz]; kernel_rfl) (by kernel_rfl) ⟨fun hw ac u K => ?_, fun hw ac u K => ?_, trivial⟩ ?_
  · exact st_move (.tmp 5) rfl ((K.old 5 rfl).trans x5)
  · exact st_geq 3 (.tmp 19) (.const (.int .i64 0)) rfl .i64 (((i : Nat) : Int)) (0) (K.dep 0 19 rfl) rfl _ (by rw [eq_comm, decide_eq_true_iff]; omega)
  intro f8 w8 A hb
  replace bl0 := bl
  replace x0 := (A.old 0 rfl).trans x0
  replace x2 := (A.old 2 rfl).trans x2
  replace x9 := (A.old 9 rfl).trans x9
  replace x3 := f_at (A.old 3 rfl) (Fk.mono _ _ _ _ x3 hb)
  replace x13 := (A.old 13 rfl).trans x13
  replace x14 := (A.old 14 rfl).trans x14
  replace x15 := (A.old 15 rfl).trans x15
  replace x16 := (A.old 16 rfl).trans x16
  replace x5 := (A.old 5 rfl).trans x5
  have x20 : f8.eval (.tmp 20) = .bool true := A.has 1 20 rfl
  replace bl := (bl.trans (Below.mono hb bl.size))
  replace sz := A.size.trans sz
  replace df := A.defs.trans df
  clear A hb
  show Code.wp _ _ _ _ _
  refine wp_cond_true x20 ?_
  refine wp_seq ?_
  refine wp_region_seq [.ow w4.heap.size (stc l k), .eq (v), .eq (.int .i64 ((i : Nat) : Int)), .ph (x), .eq (.agg ((x).map V).toArray), .hs ([x])] (by kernel_rfl) (by kernel_rfl) (by rw [sz]; kernel_rfl) (by kernel_rfl) ⟨fun hw ac u K => ?_, fun hw ac u K => ?_, fun hw ac u K => ?_, fun hw ac u K => ?_, fun hw ac u K => ?_, fun hw ac u K => ?_, trivial⟩ ?_
  · exact st_move (.tmp 3) rfl (f_at (K.old 3 rfl) (Fk.mono _ _ _ _ x3 K.grow))
  · exact st_move (.tmp 0) rfl ((K.old 0 rfl).trans x0)
  · exact st_move (.tmp 5) rfl ((K.old 5 rfl).trans x5)
  · exact st_idxh (.tmp 22) (.tmp 23) rfl (fk_val (K.dep 1 22 rfl) (Fk.mono _ _ _ _ hvs (bl.trans (Below.mono K.grow bl.size)))) (i) (x) (K.dep 2 23 rfl) hxi
  · exact st_loadh (.tmp 24) rfl (K.dep 3 24 rfl)
  · exact st_bh1 (.tmp 25) rfl hx (K.dep 4 25 rfl)
  intro f9 w9 A hb
  replace bl0 := bl
  replace x0 := (A.old 0 rfl).trans x0
  replace x2 := (A.old 2 rfl).trans x2
  replace x9 := (A.old 9 rfl).trans x9
  replace x3 := f_at (A.old 3 rfl) (Fk.mono _ _ _ _ x3 hb)
  replace x13 := (A.old 13 rfl).trans x13
  replace x14 := (A.old 14 rfl).trans x14
  replace x15 := (A.old 15 rfl).trans x15
  replace x16 := (A.old 16 rfl).trans x16
  replace x5 := (A.old 5 rfl).trans x5
  replace x20 := (A.old 20 rfl).trans x20
  have x21 : Fk.f (.ow w4.heap.size (stc l k)) (f9.eval (.tmp 21)) w9 := A.has 0 21 rfl
  have x26 : Fk.f (.hs ([x])) (f9.eval (.tmp 26)) w9 := A.has 5 26 rfl
  replace bl := (bl.trans (Below.mono hb bl.size))
  replace sz := A.size.trans sz
  replace df := A.defs.trans df
  clear A hb
  refine wl_append rfl (.tmp 21) (.tmp 26) rfl 27 rfl (by rw [sz]; decide) x21 x26 bl (by omega) ?_
  intro f10 w10 df2 sz2 old2 new2 bl2
  clear x3
  clear x21
  clear x26
  replace x0 := (old2 0 rfl).trans x0
  replace x2 := (old2 2 rfl).trans x2
  replace x9 := (old2 9 rfl).trans x9
  replace x13 := (old2 13 rfl).trans x13
  replace x14 := (old2 14 rfl).trans x14
  replace x15 := (old2 15 rfl).trans x15
  replace x16 := (old2 16 rfl).trans x16
  replace x5 := (old2 5 rfl).trans x5
  replace x20 := (old2 20 rfl).trans x20
  have x27 : Fk.f (.ow w4.heap.size (stc l k ++ [x])) (f10.eval (.tmp 27)) w10 := new2
  replace bl := bl2
  replace bl0 := bl
  replace sz := sz2.trans sz
  replace df := df2.trans df
  clear df2 sz2 old2 new2 bl2
  refine wl_one (.ow w4.heap.size (stc l k ++ [x])) rfl 3 rfl (by rw [sz]; decide) (st_assign (.tmp 27) rfl x27) ?_
  intro f11 w11 df2 sz2 old2 new2 hb
  replace bl0 := bl
  replace x0 := (old2 0 rfl).trans x0
  replace x2 := (old2 2 rfl).trans x2
  replace x9 := (old2 9 rfl).trans x9
  replace x13 := (old2 13 rfl).trans x13
  replace x14 := (old2 14 rfl).trans x14
  replace x15 := (old2 15 rfl).trans x15
  replace x16 := (old2 16 rfl).trans x16
  replace x5 := (old2 5 rfl).trans x5
  replace x20 := (old2 20 rfl).trans x20
  replace x27 := f_at (old2 27 rfl) (Fk.mono _ _ _ _ x27 hb)
  have x3 : Fk.f (.ow w4.heap.size (stc l k ++ [x])) (f11.eval (.tmp 3)) w11 := new2
  replace bl := (bl.trans (Below.mono hb bl.size))
  replace sz := sz2.trans sz
  replace df := df2.trans df
  clear df2 sz2 old2 new2 hb
  refine wpList_nil ?_
  clear x27
  show Code.wp _ _ _ _ _
  refine wp_exit ?_
  show Code.wp _ _ _ _ _
  refine wp_region_seq [.eq (.int .i64 ((k + 1 : Nat) : Int))] (by kernel_rfl) (by kernel_rfl) (by rw [sz]; kernel_rfl) (by kernel_rfl) ⟨fun hw ac u K => ?_, trivial⟩ ?_
  · exact st_add (.tmp 15) (.const (.int .i64 1)) rfl (k) (1) (k + 1) ((K.old 15 rfl).trans x15) rfl (by omega) (by omega)
  intro f12 w12 A hb
  replace bl0 := bl
  replace x0 := (A.old 0 rfl).trans x0
  replace x2 := (A.old 2 rfl).trans x2
  replace x9 := (A.old 9 rfl).trans x9
  replace x13 := (A.old 13 rfl).trans x13
  replace x14 := (A.old 14 rfl).trans x14
  replace x15 := (A.old 15 rfl).trans x15
  replace x16 := (A.old 16 rfl).trans x16
  replace x5 := (A.old 5 rfl).trans x5
  replace x20 := (A.old 20 rfl).trans x20
  replace x3 := f_at (A.old 3 rfl) (Fk.mono _ _ _ _ x3 hb)
  have x49 : f12.eval (.tmp 49) = .int .i64 ((k + 1 : Nat) : Int) := A.has 0 49 rfl
  replace bl := (bl.trans (Below.mono hb bl.size))
  replace sz := A.size.trans sz
  replace df := A.defs.trans df
  clear A hb
  refine wl_one (.eq (.int .i64 ((k + 1 : Nat) : Int))) rfl 15 rfl (by rw [sz]; decide) (st_move (.tmp 49) rfl x49) ?_
  intro f13 w13 df2 sz2 old2 new2 hb
  replace bl0 := bl
  replace x0 := (old2 0 rfl).trans x0
  replace x2 := (old2 2 rfl).trans x2
  replace x9 := (old2 9 rfl).trans x9
  replace x13 := (old2 13 rfl).trans x13
  replace x14 := (old2 14 rfl).trans x14
  clear x15
  replace x16 := (old2 16 rfl).trans x16
  replace x5 := (old2 5 rfl).trans x5
  replace x20 := (old2 20 rfl).trans x20
  replace x3 := f_at (old2 3 rfl) (Fk.mono _ _ _ _ x3 hb)
  replace x49 := (old2 49 rfl).trans x49
  have x15 : f13.eval (.tmp 15) = .int .i64 ((k + 1 : Nat) : Int) := new2
  replace bl := (bl.trans (Below.mono hb bl.size))
  replace sz := sz2.trans sz
  replace df := df2.trans df
  clear df2 sz2 old2 new2 hb
  refine wpList_nil ?_
  clear x49
  show (∃ _, _) ∧ _
  replace x3 : Fk.f (.ow w4.heap.size (stc l (k + 1))) (f13.eval (.tmp 3)) w13 := (by rw [hst]; exact x3)
  refine ⟨⟨k + 1, by omega, sz, df, x0, x2, x9, x13, x14, x15, x3, bl⟩, ?_⟩
  rw [show f13.eval (.tmp 15) = _ from x15, show _ = _ from hcnt]
  simp [intOf]
  omega
theorem lroot_any {l : List (List (BitVec 8))} (h400 : l.length ≤ 400) (w : World) {v : Value} (hv : (Fk.hc l).f v w) (hK : Tab w) {y : List (BitVec 8)} (ey : Box (mroot l = y)) :
    Calls Tryd.prog 11 #[v] w fun e w' => e = .returned (.agg ((y).map V).toArray) ∧ Below w.heap.size w w' := by
  by_cases h0 : l.length = 0
  · obtain rfl := List.eq_nil_of_length_eq_zero h0
    exact lroot_nil w hv hK ey
  · exact lroot_pos (by omega) h400 w hv hK ey
end Go.Proofs.YtnppjlpnfijobaaDoor
namespace Go.Proofs.YtnppjlpnfijobaaDoor
set_option maxRecDepth 100000
open Go.RowKit
section
variable {P : Program} {ops : Array Oper} {Q : Exit → Act → World → Prop}
end
end Go.Proofs.YtnppjlpnfijobaaDoor
namespace Go.Proofs.YtnppjlpnfijobaaDoor
set_option maxRecDepth 100000
open Go.RowKit
section
variable {P : Program} {ops : Array Oper} {Q : Exit → Act → World → Prop} {S : World → Prop} {o : Oper} {a : Act}
theorem wh_take (i : Nat) (d : Nat) {v : Value} {fuel : Nat} {listed : Array Bool} {w : World} (hi : ops[i]? = some o) (hd : o.dst = some d) (hsz : d < a.tmps.size) (hg : o.guard = none)
    (hs : Region.noSelect ops = true) (hf : Region.free .any ops listed i = true) (hr : (Region.ready .any ops listed).contains i = true)
    (hQ : ∀ c a w, Q (.panic c) (a.put o.dst v) w → Q (.panic c) a w) (hy : ∀ w, S w → (execOp a.eval o).run P w = .ok (.value v) w) (hS : S w)
    (h : ∀ a2, a2.defers = a.defers → a2.tmps.size = a.tmps.size → (∀ t, (t == d) = false → a2.eval (.tmp t) = a.eval (.tmp t)) → a2.eval (.tmp d) = v → wpAnyH P .any ops Q S fuel (listed.setIfInBounds i true) a2 w) : wpAnyH P .any ops Q S (fuel + 1) listed a w := by
  refine wpAnyH_take hi hs hf hr hQ (.inl ⟨by unfold Region.wanted; rw [hg], hy⟩) hS ?_
  rw [hd]
  exact h _ (put_def _ _ _) (put_size _ _ _) (fun t ht => put_eval_other _ _ _ _ (fun e => by subst e; simp at ht)) (put_eval_same _ _ _ hsz)
theorem wh_call (i : Nat) (d : Nat) {fuel : Nat} {listed : Array Bool} {w : World} (hi : ops[i]? = some o) (hd : o.dst = some d) (hsz : d < a.tmps.size) (hg : o.guard = none) (hr : (Region.ready .any ops listed == [i]) = true)
    (f : FuncId) (x : Operand) (xs : Array Operand) (ts : Array TypeId) (vs : Array Value) (ho : o.op = .call { callee := .value x, args := xs, argTypes := ts }) (hx : a.eval x = .func (.func f) #[] #[]) (hv : (xs.toList.map a.eval).toArray = vs)
    (hf : ∀ args w, (callFunc f args).run P w = .ok (.enter f args) w) (R : Value → World → Prop) (hc : Calls P f vs w fun e w' => ∃ v, e = .returned v ∧ R v w')
    (h : ∀ a2 w2, a2.defers = a.defers → a2.tmps.size = a.tmps.size → (∀ t, (t == d) = false → a2.eval (.tmp t) = a.eval (.tmp t)) → R (a2.eval (.tmp d)) w2 → S w2 ∧ wpAnyH P .any ops Q S fuel (listed.setIfInBounds i true) a2 w2) : wpAnyH P .any ops Q S (fuel + 1) listed a w := by
  refine wpAnyH_all (eq_of_beq hr) (by simp) (fun j hj => ?_)
  obtain rfl : j = i := by simpa using hj
  have hrun : (execOp a.eval o).run P w = .ok (.enter f vs) w := by
    have hv' : xs.map a.eval = vs := by rw [← hv]; apply Array.toList_inj.1; simp
    unfold execOp; rw [ho]
    simp [resolve, hx, Deferred.ofValue, invoke, hv', hf]
  unfold wpOp
  rw [hi]
  show if Region.wanted o (yielded ops a.tmps) = true then _ else _
  rw [if_pos (by unfold Region.wanted; rw [hg])]
  refine .inl ?_
  unfold Oper.wp; rw [hrun]
  refine Calls.mono hc ?_
  rintro e w' ⟨v, rfl, h1⟩
  rw [hd]
  refine h _ _ (put_def _ _ _) (put_size _ _ _) (fun t ht => put_eval_other _ _ _ _ (fun e => by subst e; simp at ht)) ?_
  rw [put_eval_same _ _ _ hsz]
  exact h1
theorem wh_assign (i : Nat) (d : Nat) {fuel : Nat} {listed : Array Bool} {w : World} (hi : ops[i]? = some o) (hd : o.dst = some d) (hsz : d < a.tmps.size) (hg : o.guard = none) (hr : (Region.ready .any ops listed == [i]) = true) (x : Operand) (ho : o.op = .assign x) (hS : S w)
    (h : ∀ a2, a2.defers = a.defers → a2.tmps.size = a.tmps.size → (∀ t, (t == d) = false → a2.eval (.tmp t) = a.eval (.tmp t)) → a2.eval (.tmp d) = a.eval x → wpAnyH P .any ops Q S fuel (listed.setIfInBounds i true) a2 w) : wpAnyH P .any ops Q S (fuel + 1) listed a w := by
  refine wpAnyH_all (eq_of_beq hr) (by simp) (fun j hj => ?_)
  obtain rfl : j = i := by simpa using hj
  unfold wpOp
  rw [hi]
  show if Region.wanted o (yielded ops a.tmps) = true then _ else _
  rw [if_pos (by unfold Region.wanted; rw [hg])]
  refine .inl ?_
  unfold Oper.wp execOp
  rw [ho]
  show S w ∧ wpAnyH P .any ops Q S fuel _ (a.put o.dst (a.eval x)) w
  rw [hd]
  exact ⟨hS, h _ (put_def _ _ _) (put_size _ _ _) (fun t ht => put_eval_other _ _ _ _ (fun e => by subst e; simp at ht)) (put_eval_same _ _ _ hsz)⟩
theorem run_field {T f : Nat} {x : Operand} (ho : o.op = .fieldAddr T x f) {p r : Addr} (hx : a.eval x = .pointer (some p)) (hr : ∀ w, (Instr.fieldAt T (.pointer (some p)) f).run P w = .ok (.pointer (some r)) w) : ∀ w, S w → (execOp a.eval o).run P w = .ok (.value (.pointer (some r))) w := by
  intro w _
  unfold execOp
  rw [ho]
  simp [hx, hr]
theorem run_loadc {T : TypeId} {x : Operand} (ho : o.op = .load T x) (h1 : ∀ w, (isAgg T).run P w = .ok false w) {p : Addr} {u : Value} (hx : a.eval x = .pointer (some p)) (hc : ∀ w, S w → w.cell? p = some u) : ∀ w, S w → (execOp a.eval o).run P w = .ok (.value u) w := by
  intro w hS
  unfold execOp
  rw [ho]
  simp [hx, Instr.loadAt, Instr.sureAddr, loadVar, h1, run_load, hc w hS]
theorem run_mv {x : Operand} (ho : o.op = .move x) {v : Value} (hx : a.eval x = v) : ∀ w, S w → (execOp a.eval o).run P w = .ok (.value v) w := by
  intro w _
  unfold execOp
  rw [ho, ← hx]
  rfl
end
end Go.Proofs.YtnppjlpnfijobaaDoor
namespace Go.Proofs.YtnppjlpnfijobaaDoor
set_option maxRecDepth 100000
open Go.RowKit
/-- v is a slice of bytes that has the bytes bs, in block gb (or nil). -/
def Rv (w : World) (v : Value) (bs : List (BitVec 8)) (gb : Nat) : Prop :=
  (v = .slice none 0 0 ∧ bs = []) ∨ ∃ go c, v = .slice (some ⟨gb, go, none⟩) bs.length c ∧ bs.length ≤ c ∧ gb < w.heap.size ∧ HasB w gb go bs
theorem Rv.keep {w w' : World} {v : Value} {bs : List (BitVec 8)} {gb : Nat} (h : Rv w v bs gb) (hs : w.heap.size ≤ w'.heap.size) (hk : gb < w.heap.size → w'.heap[gb]? = w.heap[gb]?) : Rv w' v bs gb := by
  rcases h with h | ⟨go, c, e, hc, hl, hB⟩
  · exact .inl h
  · exact .inr ⟨go, c, e, hc, Nat.lt_of_lt_of_le hl hs, fun i hi => by rw [World.cell?_of_block (w := w) (hk hl)]; exact hB i hi⟩
theorem Rv.only {w w' : World} {v : Value} {bs : List (BitVec 8)} {gb g : Nat} (h : Rv w v bs gb) (ho : Only g w w') (hg : gb ≠ g) : Rv w' v bs gb := h.keep ho.size fun hl => ho.block gb hl hg
theorem Rv.below {w w' : World} {v : Value} {bs : List (BitVec 8)} {gb : Nat} (h : Rv w v bs gb) (ho : Below w.heap.size w w') : Rv w' v bs gb := h.keep ho.size fun hl => ho.block gb hl
/-- In block ib lies an In that has the bytes bs left. -/
def HasIn (w : World) (ib : Nat) (bs : List (BitVec 8)) (bad : Bool) (gb : Nat) : Prop :=
  ∃ v, w.heap[ib]? = some (.cells #[v, .bool bad] 85 (0, 0)) ∧ Rv w v bs gb ∧ gb ≠ ib
theorem HasIn.lt {w : World} {ib : Nat} {bs : List (BitVec 8)} {bad : Bool} {gb : Nat} (h : HasIn w ib bs bad gb) : ib < w.heap.size := by
  obtain ⟨v, hv, _⟩ := h
  exact (Array.getElem?_eq_some_iff.1 hv).1
theorem HasIn.below {w w' : World} {ib : Nat} {bs : List (BitVec 8)} {bad : Bool} {gb : Nat} (h : HasIn w ib bs bad gb) (ho : Below w.heap.size w w') : HasIn w' ib bs bad gb := by
  have hl := h.lt
  obtain ⟨v, hv, hr, hne⟩ := h
  exact ⟨v, by rw [ho.block ib hl]; exact hv, hr.below ho, hne⟩
theorem HasIn.only {w w' : World} {ib g : Nat} {bs : List (BitVec 8)} {bad : Bool} {gb : Nat} (h : HasIn w ib bs bad gb) (ho : Only g w w') (h1 : ib ≠ g) (h2 : gb ≠ g) : HasIn w' ib bs bad gb := by
  have hl := h.lt
  obtain ⟨v, hv, hr, hne⟩ := h
  exact ⟨v, by rw [ho.block ib hl h1]; exact hv, hr.only ho h2, hne⟩
def takeB (bs : List (BitVec 8)) (n : Nat) : List (BitVec 8) := if n ≤ bs.length then bs.take n else []
def dropB (bs : List (BitVec 8)) (n : Nat) : List (BitVec 8) := if n ≤ bs.length then bs.drop n else []
def badB (bs : List (BitVec 8)) (bad : Bool) (n : Nat) : Bool := if n ≤ bs.length then bad else true
theorem Rv.shape {w : World} {v : Value} {bs : List (BitVec 8)} {gb : Nat} (h : Rv w v bs gb) : ∃ a c, v = .slice a bs.length c ∧ bs.length ≤ c := by
  rcases h with ⟨rfl, rfl⟩ | ⟨go, c, rfl, hc, _⟩
  · exact ⟨none, 0, rfl, Nat.le_refl _⟩
  · exact ⟨_, c, rfl, hc⟩
end Go.Proofs.YtnppjlpnfijobaaDoor
namespace Go.Proofs.YtnppjlpnfijobaaDoor
set_option maxRecDepth 100000
open Go.RowKit
/-- The number that bytes are. -/
def num (bs : List (BitVec 8)) : Nat := bs.foldl (fun a x => a * 256 + x.toNat) 0
end Go.Proofs.YtnppjlpnfijobaaDoor
namespace Go.Proofs.YtnppjlpnfijobaaDoor
set_option maxRecDepth 100000
open Go.RowKit
end Go.Proofs.YtnppjlpnfijobaaDoor
namespace Go.Proofs.YtnppjlpnfijobaaDoor
set_option maxRecDepth 100000
open Go.RowKit
/-- The number that the next eight bytes are. -/
def rdI (bs : List (BitVec 8)) : Int := IntKind.i64.wrap (num (takeB bs 8) : Int)
end Go.Proofs.YtnppjlpnfijobaaDoor
namespace Go.Proofs.YtnppjlpnfijobaaDoor
set_option maxRecDepth 100000
open Go.RowKit
end Go.Proofs.YtnppjlpnfijobaaDoor
namespace Go.Proofs.YtnppjlpnfijobaaDoor
set_option maxRecDepth 100000
open Go.RowKit
/-- The row lies where it lay, or in the next new block. -/
theorem append_where {P : Program} (w : World) (base : Nat) (t ty e : TypeId) (i : TypeInfo) (z : Value) (size bytes : Nat) (ht : P.underlying t = some (.slice e)) (hi : P.info? e = some i) (hz : i.zero = some z)
    (hsize : i.size = size) (hby : i.bytes = bytes)
    (v : Value) (n : Nat) (xs : List Value) (hown : w.ownsRow base e size v n xs)
    (a : Addr) (m c : Nat) (news : List Value) (hl : news.length = m * size) (hnews : ∀ j u, news[j]? = some u → w.cell? (a.add j) = some u) (h1 : ∀ u ∈ news, u.oneCell' = true)
    (h63 : n + m ≤ maxLen) (hbytes : (n + m) * bytes ≤ 140737488355328) :
    ∀ v' w', (Builtin.append_ #[t, t] ty #[v, .slice (some a) m c]).run P w = .ok v' w' → v'.ownBlock = v.ownBlock ∨ v'.ownBlock = some w.heap.size := by
  subst hsize
  subst hby
  intro v' w' hr
  have hsmall : n + m ≤ 9223372036854775807 := by simp only [maxLen] at h63; omega
  rcases hown.2 with ⟨rfl, rfl⟩ | ⟨g, cap, cur, rfl, hbg, hg, hnc, hcm, hcs, htake⟩
  · by_cases hm : m = 0
    · subst hm
      left
      have : (Builtin.append_ #[t, t] ty #[.slice none 0 0, .slice (some a) 0 c]).run P w = .ok (.slice none 0 0) w := by
        simp [Builtin.append_, run_underlying ht, sizeOf, typeInfo, hi, Builtin.lenOf, Builtin.firstCells, loadCells, loadCellsFrom]
      rw [this] at hr
      obtain ⟨rfl, _⟩ := Result.ok.inj hr
      rfl
    · right
      rw [run_append_nil (P := P) w t ty e i z ht hi hz a m c news hl hnews (by omega) (by omega) (by have hb := hbytes; simp only [Nat.zero_add] at hb; omega)] at hr
      obtain ⟨rfl, _⟩ := Result.ok.inj hr
      rfl
  · by_cases hroom : n + m ≤ cap
    · left
      rw [run_append_room (P := P) w t ty e i ht hi g n cap cur hg a m c news hl hnews h1 hroom (by rw [hl, hcs, ← Nat.add_mul]; exact Nat.mul_le_mul_right _ hroom)] at hr
      obtain ⟨rfl, _⟩ := Result.ok.inj hr
      rfl
    · right
      rw [run_append_grow (P := P) w t ty e i z ht hi hz ⟨g, 0, none⟩ n cap xs hown.1 (hown.cells (g := g) rfl) a m c news hl hnews (by omega) (by omega) (growslice_fits (by omega) hbytes)] at hr
      obtain ⟨rfl, _⟩ := Result.ok.inj hr
      rfl
end Go.Proofs.YtnppjlpnfijobaaDoor
namespace Go.Proofs.YtnppjlpnfijobaaDoor
set_option maxRecDepth 100000
open Go.RowKit
/-- append of bytes onto a slice of the call's own. -/
theorem append39W {ops : Array Oper} {rest : List Oper} {o : Oper} {a : Act} {w : World} {Q : Exit → Act → World → Prop} (hgd : o.guard = none) (s x : Operand)
    (ho : o.op = .call { callee := .builtin .append, args := #[s, x], argTypes := #[39, 39] })
    (base : Nat) (v : Value) (n : Nat) (xs : List (BitVec 8)) (hs : a.eval s = v) (hown : w.ownsRow base 5 1 v n (xs.map V))
    (y : Value) (bs : List (BitVec 8)) (gb : Nat) (hx : a.eval x = y) (hr : Rv w y bs gb) (hb : n + bs.length ≤ 1000000) (hbase : base ≤ w.heap.size)
    (h : ∀ v' w', w'.ownsRow base 5 1 v' (n + bs.length) ((xs ++ bs).map V) → w.grownBy w' v.ownBlock → (v'.ownBlock = v.ownBlock ∨ v'.ownBlock = some w.heap.size) → wpList Tryd.prog ops Q rest (a.put o.dst v') w') : wpList Tryd.prog ops Q (o :: rest) a w := by
  obtain ⟨i0, hi, hz0, hz1, hz2⟩ := info_parts Tryd.info5
  rcases hr with ⟨rfl, rfl⟩ | ⟨go, c, rfl, hc, hlt, hB⟩
  · refine wpList_append_own_none hgd s x 39 ho base 5 i0 1 Tryd.under39 hi v n _ hs hown hx (h v w ?_ ⟨rfl, rfl, rfl, Nat.le_refl _, fun _ _ _ => rfl⟩ (.inl rfl))
    rw [List.append_nil]; exact hown
  · have hnews : ∀ (j : Nat) (u : Value), (bs.map V)[j]? = some u → w.cell? ((⟨gb, go, none⟩ : Addr).add j) = some u := by
      intro j u hj
      have := hB.src bs.length j u
      rw [List.take_of_length_le (Nat.le_refl _)] at this
      exact this hj
    obtain ⟨v', w', hr, h2, h3, _⟩ := run_append_own (P := Tryd.prog) w base 39 o.type 5 i0 (.int .u8 0) 1 1 Tryd.under39 hi hz0 hz1 hz2 rfl (by decide) v n (xs.map V) hown ⟨gb, go, none⟩ bs.length c (bs.map V) (by simp) hnews (V_one bs) (by unfold maxLen; omega) (by omega) hbase
    have h4 := append_where (P := Tryd.prog) w base 39 o.type 5 i0 (.int .u8 0) 1 1 Tryd.under39 hi hz0 hz1 hz2 v n (xs.map V) hown ⟨gb, go, none⟩ bs.length c (bs.map V) (by simp) hnews (V_one bs) (by unfold maxLen; omega) (by omega) v' w' hr
    refine wpList_plain hgd fun K hK => ?_
    unfold Oper.wp execOp
    simp only [ho, resolve, invoke, builtin, Sem.run_bind, Sem.run_pure, Result.andThen_ok, List.map_toArray, List.map_cons, List.map_nil, hs, hx, hr]
    rw [← List.map_append] at h2
    exact hK _ _ (h v' w' h2 h3 h4)
theorem own_rv {w : World} {base n : Nat} {v : Value} {xs : List (BitVec 8)} (h : w.ownsRow base 5 1 v n (xs.map V)) : (v = .slice none 0 0 ∧ xs = []) ∨ ∃ g, base ≤ g ∧ g < w.heap.size ∧ v.ownBlock = some g ∧ Rv w v xs g := by
  obtain ⟨hl, h⟩ := h
  have hn : n = xs.length := by simpa using hl.symm
  subst hn
  rcases h with ⟨rfl, h0⟩ | ⟨g, cap, cur, rfl, hbg, hg, hnc, _, hcs, ht⟩
  · exact .inl ⟨rfl, List.eq_nil_of_length_eq_zero h0⟩
  · have hgl := (Array.getElem?_eq_some_iff.1 hg).1
    refine .inr ⟨g, hbg, hgl, rfl, .inr ⟨0, cap, rfl, hnc, hgl, ?_⟩⟩
    intro i hi
    rw [Nat.zero_add, cell_of_row _ _ _ _ _ _ hg]
    have e2 := congrArg (·[i]?) ht
    simp [hi] at e2
    simp [e2, hi, V]
/-- The slice lies apart from what was. -/
theorem own_apart {w : World} {base n : Nat} {v : Value} {xs : List (BitVec 8)} (h : w.ownsRow base 5 1 v n (xs.map V)) (hb : base ≤ w.heap.size) : ∃ g a c, v = .slice a xs.length c ∧ base ≤ g ∧ g ≠ w.heap.size ∧ Rv w v xs g := by
  rcases own_rv h with ⟨rfl, rfl⟩ | ⟨g, h1, h2, _, h3⟩
  · exact ⟨w.heap.size + 1, none, 0, rfl, by omega, by omega, .inl ⟨rfl, rfl⟩⟩
  · obtain ⟨a, c, e, _⟩ := h3.shape
    exact ⟨g, a, c, e, h1, by omega, h3⟩
set_option maxHeartbeats 400000 in
theorem all_any (ob : Nat) (v : Value) (gb : Nat) (bs : List (BitVec 8)) (w : World) (ho : w.heap[ob]? = some (.cells #[v] 58 (0, 0))) (hr : Rv w v bs gb) (hl : bs.length ≤ 900000) :
    Calls Tryd.prog 30 #[.pointer (some ⟨ob, 0, none⟩)] w fun e w' => ∃ v', e = .returned v' ∧ w'.ownsRow w.heap.size 5 1 v' bs.length (bs.map V) ∧ Below w.heap.size w w' := by
  have hr' := Box.mk hr
  obtain ⟨a, c, rfl, _⟩ := hr.shape
  have c0 : w.cell? ⟨ob, 0, none⟩ = some (.slice a bs.length c) := by simp [World.cell?, ho]
  clear hr ho
  go_enter Tryd.func30, Tryd.ntmps30
  go_wp2_with (at_builtin; refine append39W rfl _ _ rfl w.heap.size _ 0 [] rfl (World.ownsRow_nil _ _ _ _) _ bs gb rfl hr'.out (by omega) (Nat.le_refl _) ?_; intro v2 w2 own2 gr2 _; have gr2' := Box.mk gr2; have own2' := Box.mk own2; clear own2 gr2)
  go_ret
  have hb : Below w.heap.size w w2 := (Below.refl _ _).grown gr2'.out (Nat.le_refl _) (fun k e => by cases e)
  refine ⟨_, rfl, ?_, hb⟩
  have := own2'.out
  rw [Nat.zero_add, List.nil_append] at this
  exact this
/-- How many come next: are they no more than most, and are they there? -/
def lenB (bs : List (BitVec 8)) (most : Int) (size : Nat) : Bool := decide ((num (takeB bs 4) : Int) ≤ most) && decide (num (takeB bs 4) ≤ (dropB bs 4).length / size)
end Go.Proofs.YtnppjlpnfijobaaDoor
namespace Go.Proofs.YtnppjlpnfijobaaDoor
set_option maxRecDepth 100000
open Go.RowKit
/-- In block ib lies an In that has the bytes bs left, wherever these lie. -/
def HasI (w : World) (ib : Nat) (bs : List (BitVec 8)) (bad : Bool) : Prop := ∃ gb, HasIn w ib bs bad gb
theorem HasI.lt {w : World} {ib : Nat} {bs : List (BitVec 8)} {bad : Bool} (h : HasI w ib bs bad) : ib < w.heap.size := by obtain ⟨gb, h⟩ := h; exact h.lt
theorem HasI.below {w w' : World} {ib : Nat} {bs : List (BitVec 8)} {bad : Bool} (h : HasI w ib bs bad) (ho : Below w.heap.size w w') : HasI w' ib bs bad := by obtain ⟨gb, h⟩ := h; exact ⟨gb, h.below ho⟩
theorem HasI.pick {w : World} {ib : Nat} {bs : List (BitVec 8)} {bad : Bool} (h : HasI w ib bs bad) : ∃ gb, HasIn w ib bs bad gb ∧ (gb < w.heap.size ∨ w.heap.size + 9 ≤ gb) := by
  have hl := h.lt
  obtain ⟨gb, v, hv, hr, hne⟩ := h
  rcases hr with ⟨e, e2⟩ | ⟨go, c, e, hc, hlt, hB⟩
  · exact ⟨w.heap.size + 9, ⟨v, hv, .inl ⟨e, e2⟩, by omega⟩, .inr (by omega)⟩
  · exact ⟨gb, ⟨v, hv, .inr ⟨go, c, e, hc, hlt, hB⟩, hne⟩, .inl hlt⟩
theorem HasIn.setRow {w : World} {ib gb g : Nat} {bs : List (BitVec 8)} {bad : Bool} (h : HasIn w ib bs bad gb) (cs : Array Value) (h1 : ib ≠ g) (h2 : gb ≠ g) : HasIn (w.setRow g cs) ib bs bad gb := by
  obtain ⟨v, hv, hr, hne⟩ := h
  exact ⟨v, by rw [setRow_other w g ib cs h1]; exact hv, hr.keep (by simp) (fun _ => setRow_other w g gb cs h2), hne⟩
end Go.Proofs.YtnppjlpnfijobaaDoor
namespace Go.Proofs.YtnppjlpnfijobaaDoor
set_option maxRecDepth 100000
open Go.RowKit
theorem Only.setCells {g : Nat} {a : World} : ∀ (vs : List Value) (o : Nat) (w : World), Only g a w → Only g a (w.setCells g o vs)
  | [], _, _, h => h
  | v :: r, o, _, h => Only.setCells r (o + 1) _ (h.setCell o v)
def hsN (bs : List (BitVec 8)) (most : Int) : Nat := if lenB bs most 32 then num (takeB bs 4) else 0
def hsD (bs : List (BitVec 8)) (most : Int) : List (BitVec 8) := if lenB bs most 32 then dropB bs 4 else []
def hsX (bs : List (BitVec 8)) (bad : Bool) (most : Int) : Bool := if lenB bs most 32 then badB bs bad 4 else true
theorem HasIn.setCells {w : World} {ib gb g : Nat} {bs : List (BitVec 8)} {bad : Bool} (h : HasIn w ib bs bad gb) (o : Nat) (vs : List Value) (h1 : ib ≠ g) (h2 : gb ≠ g) : HasIn (w.setCells g o vs) ib bs bad gb :=
  h.only (Only.setCells vs o w (Only.refl g w)) h1 h2
end Go.Proofs.YtnppjlpnfijobaaDoor
namespace Go.Proofs.YtnppjlpnfijobaaDoor
set_option maxRecDepth 100000
open Go.RowKit
/-- In block ob lies an Out that has the bytes xs. -/
def HasOut (w : World) (ob : Nat) (v : Value) (xs : List (BitVec 8)) : Prop :=
  w.heap[ob]? = some (.cells #[v] 58 (0, 0)) ∧ w.ownsRow (ob + 1) 5 1 v xs.length (xs.map V)
/-- w' is as w was, but for the Out, its row, and new blocks. -/
structure Put (ob : Nat) (v v' : Value) (w w' : World) : Prop where
  os : w'.os = w.os
  tape : w'.tape = w.tape
  output : w'.output = w.output
  size : w.heap.size ≤ w'.heap.size
  block : ∀ k, k < w.heap.size → k ≠ ob → some k ≠ v.ownBlock → w'.heap[k]? = w.heap[k]?
  own : v'.ownBlock = v.ownBlock ∨ ∃ g, v'.ownBlock = some g ∧ w.heap.size ≤ g
theorem Put.refl (ob : Nat) (v : Value) (w : World) : Put ob v v w w := ⟨rfl, rfl, rfl, Nat.le_refl _, fun _ _ _ _ => rfl, .inl rfl⟩
theorem Put.trans {ob : Nat} {v1 v2 v3 : Value} {w1 w2 w3 : World} (h : Put ob v1 v2 w1 w2) (k : Put ob v2 v3 w2 w3) : Put ob v1 v3 w1 w3 := by
  have hs := h.size
  refine ⟨k.os.trans h.os, k.tape.trans h.tape, k.output.trans h.output, Nat.le_trans h.size k.size, fun q hq hne hno => ?_, ?_⟩
  · rw [k.block q (by omega) hne ?_]
    · exact h.block q hq hne hno
    · rcases h.own with e | ⟨g, e, hg⟩
      · rw [e]; exact hno
      · rw [e]; intro e2; have := Option.some.inj e2; omega
  · rcases k.own with e | ⟨g, e, hg⟩
    · rw [e]; exact h.own
    · exact .inr ⟨g, e, by omega⟩
theorem HasOut.lt {w : World} {ob : Nat} {v : Value} {xs : List (BitVec 8)} (h : HasOut w ob v xs) : ob < w.heap.size := (Array.getElem?_eq_some_iff.1 h.1).1
theorem Put.below {ob : Nat} {v v' : Value} {w w' : World} {xs : List (BitVec 8)} (h : Put ob v v' w w') (ho : HasOut w ob v xs) (B : Nat) (hB : B ≤ ob) : Below B w w' := by
  have hl := ho.lt
  refine ⟨h.os, h.tape, h.output, h.size, fun k hk => h.block k (by omega) (by omega) (fun e => ?_)⟩
  have := ho.2.lt k e.symm
  omega
theorem HasOut.below {w w' : World} {ob : Nat} {v : Value} {xs : List (BitVec 8)} (h : HasOut w ob v xs) (hb : Below w.heap.size w w') : HasOut w' ob v xs := by
  refine ⟨by rw [hb.block ob h.lt]; exact h.1, h.2.1, ?_⟩
  rcases h.2.2 with hn | ⟨g, cap, cur, rfl, hb1, hgg, rest⟩
  · exact .inl hn
  · exact .inr ⟨g, cap, cur, rfl, hb1, by rw [hb.block g (Array.getElem?_eq_some_iff.1 hgg).1]; exact hgg, rest⟩
/-- One append, and its store. -/
theorem put_step {w w1 w2 : World} {ob H : Nat} {v v2 : Value} {xs bs : List (BitVec 8)} (h : HasOut w ob v xs) (hb : Below w.heap.size w w1)
    (own2 : w2.ownsRow (ob + 1) 5 1 v2 (xs.length + bs.length) ((xs ++ bs).map V)) (gr : w1.grownBy w2 v.ownBlock) (hat : v2.ownBlock = v.ownBlock ∨ v2.ownBlock = some H) (hH : w.heap.size ≤ H) :
    HasOut (w2.setCell ⟨ob, 0, none⟩ v2) ob v2 (xs ++ bs) ∧ Put ob v v2 w (w2.setCell ⟨ob, 0, none⟩ v2) := by
  have hl := h.lt
  have hs := hb.size
  have hno : some ob ≠ v.ownBlock := fun e => by have := h.2.lt ob e.symm; omega
  have e1 : w2.heap[ob]? = some (.cells #[v] 58 (0, 0)) := by
    rw [gr.block ob (by omega) hno, hb.block ob hl]; exact h.1
  refine ⟨⟨?_, ?_⟩, gr.os.trans hb.os, gr.tape.trans hb.tape, gr.output.trans hb.output, ?_, ?_, ?_⟩
  · simp [World.setCell, Array.getElem?_modify, e1]
  · rw [List.length_append]
    refine ⟨own2.1, ?_⟩
    rcases own2.2 with hn | ⟨g, cap, cur, rfl, hb1, hgg, rest⟩
    · exact .inl hn
    · exact .inr ⟨g, cap, cur, rfl, hb1, by rw [heap_setCell_other _ _ _ _ (show g ≠ ob by omega)]; exact hgg, rest⟩
  · have := gr.size
    simp
    omega
  · intro k hk hne hnk
    rw [heap_setCell_other _ _ _ _ (show k ≠ ob from hne), gr.block k (by omega) hnk, hb.block k hk]
  · rcases hat with e | e
    · exact .inl e
    · exact .inr ⟨H, e, hH⟩
/-- append of bytes onto the Out's row: what its store makes of it. -/
theorem run_out {w wr : World} {ob : Nat} {v : Value} {xs : List (BitVec 8)} (hout : HasOut wr ob v xs) (hb : Below wr.heap.size wr w) (ty : TypeId) {y : Value} {bs : List (BitVec 8)} {gb : Nat} (hr : Rv w y bs gb) (hlen : xs.length + bs.length ≤ 1000000) :
    ∃ a n c w', (Builtin.append_ #[39, 39] ty #[v, y]).run Tryd.prog w = .ok (.slice a n c) w' ∧ w'.cell? ⟨ob, 0, none⟩ = some v ∧ w'.frozen? ⟨ob, 0, none⟩ = false ∧ Box (HasOut (w'.setCell ⟨ob, 0, none⟩ (.slice a n c)) ob (.slice a n c) (xs ++ bs) ∧ Put ob v (.slice a n c) wr (w'.setCell ⟨ob, 0, none⟩ (.slice a n c))) := by
  obtain ⟨i0, hi, hz0, hz1, hz2⟩ := info_parts Tryd.info5
  have hown := (hout.below hb).2
  have hl := hout.lt
  have hs := hb.size
  have key : ∃ v' w', (Builtin.append_ #[39, 39] ty #[v, y]).run Tryd.prog w = .ok v' w' ∧ w'.ownsRow (ob + 1) 5 1 v' (xs.length + bs.length) ((xs ++ bs).map V) ∧ w.grownBy w' v.ownBlock ∧ (v'.ownBlock = v.ownBlock ∨ v'.ownBlock = some w.heap.size) := by
    rcases hr with ⟨rfl, rfl⟩ | ⟨go, c, rfl, hc, hlt, hB⟩
    · exact ⟨v, w, run_append_owned_none (P := Tryd.prog) (w := w) (ob + 1) 39 ty 5 i0 1 Tryd.under39 hi v _ _ hown, by simpa using hown, ⟨rfl, rfl, rfl, Nat.le_refl _, fun _ _ _ => rfl⟩, .inl rfl⟩
    · have hnews : ∀ (j : Nat) (u : Value), (bs.map V)[j]? = some u → w.cell? ((⟨gb, go, none⟩ : Addr).add j) = some u := by
        intro j u hj
        have := hB.src bs.length j u
        rw [List.take_of_length_le (Nat.le_refl _)] at this
        exact this hj
      obtain ⟨v', w', hr, h2, h3, _⟩ := run_append_own (P := Tryd.prog) w (ob + 1) 39 ty 5 i0 (.int .u8 0) 1 1 Tryd.under39 hi hz0 hz1 hz2 rfl (by decide) v _ (xs.map V) hown ⟨gb, go, none⟩ bs.length c (bs.map V) (by simp) hnews (V_one bs) (by unfold maxLen; omega) (by omega) (by omega)
      have h4 := append_where (P := Tryd.prog) w (ob + 1) 39 ty 5 i0 (.int .u8 0) 1 1 Tryd.under39 hi hz0 hz1 hz2 v _ (xs.map V) hown ⟨gb, go, none⟩ bs.length c (bs.map V) (by simp) hnews (V_one bs) (by unfold maxLen; omega) (by omega) v' w' hr
      rw [← List.map_append] at h2
      exact ⟨v', w', hr, h2, h3, h4⟩
  obtain ⟨v', w', hrun, h2, h3, h4⟩ := key
  obtain ⟨g, a, c, rfl, _⟩ := own_apart (base := 0) ⟨h2.1, by
    rcases h2.2 with h | ⟨g, cap, cur, e, _, r⟩
    · exact .inl h
    · exact .inr ⟨g, cap, cur, e, Nat.zero_le _, r⟩⟩ (Nat.zero_le _)
  have hg : w'.heap[ob]? = wr.heap[ob]? := by
    rw [h3.block ob (by omega) (fun e => by have := hout.2.lt ob e.symm; omega), hb.block ob hl]
  refine ⟨a, _, c, w', hrun, ?_, ?_, ⟨put_step hout hb h2 h3 h4 hs⟩⟩
  · rw [World.cell?_of_block (w := wr) hg]; simp [World.cell?, hout.1]
  · rw [World.frozen?_of_block (w := wr) hg]; simp [World.frozen?, hout.1]
theorem wp_out {o : Oper} {a : Act} {w wr : World} {K : Act → World → Prop} {Q : Exit → Act → World → Prop} (s x : Operand)
    (ho : o.op = .call { callee := .builtin .append, args := #[s, x], argTypes := #[39, 39] }) (ob : Nat) (v : Value) (xs : List (BitVec 8)) (hout : HasOut wr ob v xs) (hb : Below wr.heap.size wr w) (hs : a.eval s = v)
    (y : Value) (bs : List (BitVec 8)) (gb : Nat) (hx : a.eval x = y) (hr : Rv w y bs gb) (hlen : xs.length + bs.length ≤ 1000000)
    (h : ∀ a' n c w', w'.cell? ⟨ob, 0, none⟩ = some v → w'.frozen? ⟨ob, 0, none⟩ = false → Box (HasOut (w'.setCell ⟨ob, 0, none⟩ (.slice a' n c)) ob (.slice a' n c) (xs ++ bs) ∧ Put ob v (.slice a' n c) wr (w'.setCell ⟨ob, 0, none⟩ (.slice a' n c))) → K (a.put o.dst (.slice a' n c)) w') : o.wp Tryd.prog a w K Q := by
  obtain ⟨a', n, c, w', hrun, h1, h2, h3⟩ := run_out hout hb o.type hr hlen
  unfold Oper.wp execOp
  simp only [ho, resolve, invoke, builtin, Sem.run_bind, Sem.run_pure, Result.andThen_ok, List.map_toArray, List.map_cons, List.map_nil, hs, hx, hrun]
  exact h a' n c w' h1 h2 h3
theorem step_out {ops : Array Oper} {o : Oper} {a : Act} {w wr : World} {K : Act → World → Prop} {Q : Exit → Act → World → Prop} {E : Prop} (hgd : o.guard = none) (s x : Operand)
    (ho : o.op = .call { callee := .builtin .append, args := #[s, x], argTypes := #[39, 39] }) (ob : Nat) (v : Value) (xs : List (BitVec 8)) (hout : HasOut wr ob v xs) (hb : Below wr.heap.size wr w) (hs : a.eval s = v)
    (y : Value) (bs : List (BitVec 8)) (gb : Nat) (hx : a.eval x = y) (hr : Rv w y bs gb) (hlen : xs.length + bs.length ≤ 1000000)
    (h : ∀ a' n c w', w'.cell? ⟨ob, 0, none⟩ = some v → w'.frozen? ⟨ob, 0, none⟩ = false → Box (HasOut (w'.setCell ⟨ob, 0, none⟩ (.slice a' n c)) ob (.slice a' n c) (xs ++ bs) ∧ Put ob v (.slice a' n c) wr (w'.setCell ⟨ob, 0, none⟩ (.slice a' n c))) → K (a.put o.dst (.slice a' n c)) w') :
    if Region.wanted o (yielded ops a.tmps) = true then Oper.wp Tryd.prog o a w K Q else E := by
  have hw : Region.wanted o (yielded ops a.tmps) = true := by simp [Region.wanted, hgd]
  rw [if_pos hw]
  exact wp_out s x ho ob v xs hout hb hs y bs gb hx hr hlen h
/-- The lowest bytes of a number, the highest of them first. -/
def beN (N size : Nat) : List (BitVec 8) := (List.range size).map fun k => BitVec.ofNat 8 (N / 2 ^ (8 * (size - 1 - k)))
theorem beN_len (N size : Nat) : (beN N size).length = size := by simp [beN]
theorem beN_take (N size k : Nat) (h : k < size) : (beN N size).take (k + 1) = (beN N size).take k ++ [BitVec.ofNat 8 (N / 2 ^ (8 * (size - 1 - k)))] := by
  rw [List.take_add_one, List.getElem?_eq_getElem (by rw [beN_len]; exact h)]
  simp [beN]
theorem cell_new1 (w : World) (v : Value) (T : TypeId) : (w.alloc (.cells #[v] T)).cell? ⟨w.heap.size, 0, none⟩ = some v := by
  rw [cell_of_row _ _ _ _ T _ (heap_alloc_new _ _)]; rfl
theorem byte_v (N j : Nat) : Value.int .u8 (IntKind.u8.wrap ((N : Int) / 2 ^ (8 * (j : Int)).toNat)) = V (BitVec.ofNat 8 (N / 2 ^ (8 * j))) := by
  unfold V
  rw [bv_lit, IntKind.wrap_u8, show (8 * (j : Int)).toNat = 8 * j by omega]
  congr 1
theorem new_one (w : World) (N j : Nat) : Rv (w.drew.alloc (.cells #[.int .u8 (IntKind.u8.wrap ((N : Int) / 2 ^ (8 * (j : Int)).toNat))] 5)) (.slice (some ⟨w.heap.size, 0, none⟩) 1 1) [BitVec.ofNat 8 (N / 2 ^ (8 * j))] w.heap.size := by
  refine .inr ⟨0, 1, rfl, Nat.le_refl _, by simp, ?_⟩
  rw [byte_v]
  intro i hi
  obtain rfl : i = 0 := by simpa using hi
  exact cell_new1 _ _ _
theorem new_one' (w : World) (N j : Nat) : Rv (w.alloc (.cells #[.int .u8 (IntKind.u8.wrap ((N : Int) / 2 ^ (8 * (j : Int)).toNat))] 5)).drew (.slice (some ⟨w.heap.size, 0, none⟩) 1 1) [BitVec.ofNat 8 (N / 2 ^ (8 * j))] w.heap.size := new_one w N j
set_option maxHeartbeats 400000 in
theorem onumber_any (ob N size : Nat) (v0 : Value) (xs : List (BitVec 8)) (w : World) (h : HasOut w ob v0 xs) (_hN : N < 18446744073709551616) (hs : size ≤ 8) (hx : xs.length ≤ 900000) :
    Calls Tryd.prog 47 #[.pointer (some ⟨ob, 0, none⟩), .int .u64 (N : Int), .int .i64 (size : Int)] w fun e w' => e = .returned (.pointer (some ⟨ob, 0, none⟩)) ∧ ∃ v', HasOut w' ob v' (xs ++ beN N size) ∧ Put ob v0 v' w w' := by
  obtain ⟨i0, hi, hz0, hz1, hz2⟩ := info_parts Tryd.info5
  have h' := Box.mk h
  clear h
  go_enter Tryd.func47, Tryd.ntmps47
  go_wp2
  go_loopw [9] (fun i wr => ∃ k : Nat, k ≤ size ∧ i = .int .i64 k ∧ Box (∃ v, HasOut wr ob v (xs ++ (beN N size).take k) ∧ Put ob v0 v w wr)) (fun i _ => size - (intOf i).toNat)
  case atStart => exact ⟨0, by omega, rfl, ⟨v0, by simpa using h'.out, Put.refl _ _ _⟩⟩
  case round =>
    obtain ⟨k, hk, rfl, hr⟩ := hrel
    by_cases hlt : k < size
    · obtain ⟨v, ho, hp⟩ := hr.out
      have c0 : wr.cell? ⟨ob, 0, none⟩ = some v := by simp [World.cell?, ho.1]
      have f0 : wr.frozen? ⟨ob, 0, none⟩ = false := by simp [World.frozen?, ho.1]
      have hol := ho.lt
      have ho' := Box.mk ho
      have hp' := Box.mk hp
      have hxl : (xs ++ List.take k (beN N size)).length ≤ 900008 := by simp [beN_len]; omega
      clear hr ho hp h'
      obtain ⟨j, hj⟩ : ∃ j : Nat, Box (j = size - 1 - k) := ⟨_, ⟨rfl⟩⟩
      have hjj : (size : Int) - 1 - k = j := by rw [hj.out]; omega
      have hj8 : j ≤ 7 := by rw [hj.out]; omega
      have hw3 : IntKind.i64.wrap (8 * IntKind.i64.wrap (IntKind.i64.wrap ((size : Int) - 1) - k)) = ((8 * j : Nat) : Int) := by simp only [IntKind.wrap_i64]; omega
      go_wp2
      go_region_law ((refine step_out (by rfl) _ _ (by rfl) ob v _ ho'.out (by first | exact ((Below.refl _ _).alloc (Nat.le_refl _) _).drew | exact (Below.refl _ _).drew.alloc (Nat.le_refl _) _) (by rfl) _ [BitVec.ofNat 8 (N / 2 ^ (8 * j))] wr.heap.size (by rfl) (by first | exact new_one _ _ _ | exact new_one' _ _ _) (by simp; omega) ?_; intro a2 n2 c2 w1 c1 f1 hres))
      all_goals
        have hfin : Box (∃ v, HasOut (w1.setCell ⟨ob, 0, none⟩ (.slice a2 n2 c2)) ob v (xs ++ (beN N size).take (k + 1)) ∧ Put ob v0 v w (w1.setCell ⟨ob, 0, none⟩ (.slice a2 n2 c2))) := ⟨_, by rw [beN_take N size k hlt, ← List.append_assoc, ← hj.out]; exact hres.out.1, hp'.out.trans hres.out.2⟩
        clear hres c1 f1 c0 f0 ho' hp' hw3 hxl hjj
        generalize w1.setCell ⟨ob, 0, none⟩ (.slice a2 n2 c2) = w2 at *
        go_wp2
        go_roundw
        case rel => exact ⟨k + 1, by omega, by go_num, hfin⟩
        case measure => simp [intOf]; omega
    · have hkn : Box ((beN N size).take k = beN N size) := ⟨List.take_of_length_le (by rw [beN_len]; omega)⟩
      rw [hkn.out] at hr
      go_wp2
      go_ret
      exact ⟨rfl, hr.out⟩
end Go.Proofs.YtnppjlpnfijobaaDoor
namespace Go.Proofs.YtnppjlpnfijobaaDoor
set_option maxRecDepth 100000
open Go.RowKit
/-- A number's eight bytes. -/
def be8 (n : Int) : List (BitVec 8) := beN (n % 18446744073709551616).toNat 8
theorem be8_len (n : Int) : (be8 n).length = 8 := beN_len _ _
set_option maxHeartbeats 400000 in
theorem oint_any (ob : Nat) (n : Int) (v0 : Value) (xs : List (BitVec 8)) (w : World) (h : HasOut w ob v0 xs) (hx : xs.length ≤ 900000) :
    Calls Tryd.prog 28 #[.pointer (some ⟨ob, 0, none⟩), .int .i64 n] w fun e w' => e = .returned (.pointer (some ⟨ob, 0, none⟩)) ∧ ∃ v', HasOut w' ob v' (xs ++ be8 n) ∧ Put ob v0 v' w w' := by
  have hT := Box.mk (onumber_any ob (n % 18446744073709551616).toNat 8 v0 xs w h (by omega) (by omega) hx)
  have e1 : IntKind.u64.wrap n = (((n % 18446744073709551616).toNat : Nat) : Int) := by rw [IntKind.wrap_u64]; omega
  unfold be8
  generalize (n % 18446744073709551616).toNat = N at *
  clear h
  go_enter Tryd.func28, Tryd.ntmps28
  go_wp2_with (first | (rw [e1]; refine hT.out.mono ?_; rintro e w' ⟨rfl, h1⟩; have h1' := Box.mk h1; clear h1) | (refine hT.out.mono ?_; rintro e w' ⟨rfl, h1⟩; have h1' := Box.mk h1; clear h1))
  go_ret
  exact ⟨rfl, h1'.out⟩
theorem rv_row {w : World} {g : Nat} {T : TypeId} {h : List (BitVec 8)} (hv : HasV w g T h) (hl : h.length = 32) : Rv w (.slice (some ⟨g, 0, none⟩) 32 32) h g :=
  .inr ⟨0, 32, by rw [hl], by omega, hv.lt, hv.bytes⟩
set_option maxHeartbeats 400000 in
theorem ohash_any (ob : Nat) (hh : List (BitVec 8)) (v0 : Value) (xs : List (BitVec 8)) (w : World) (h : HasOut w ob v0 xs) (hl : hh.length = 32) (hx : xs.length ≤ 900000) :
    Calls Tryd.prog 48 #[.pointer (some ⟨ob, 0, none⟩), .agg (hh.map V).toArray] w fun e w' => e = .returned (.pointer (some ⟨ob, 0, none⟩)) ∧ ∃ v', HasOut w' ob v' (xs ++ hh) ∧ Put ob v0 v' w w' := by
  have h' := Box.mk h
  have hol := h.lt
  clear h
  go_enter Tryd.func48, Tryd.ntmps48
  go_upto_region 1 with fail
  refine code_any (fun w1 => HasV w1 w.heap.size 33 hh ∧ Below w.heap.size w w1) ?_ ?_
  · exact ⟨heap_alloc_new _ _, (Below.refl _ _).alloc (Nat.le_refl _) _⟩
  rintro w1 ⟨hv1, hb1⟩
  have hB1 := Box.mk hv1
  have c0 : w1.cell? ⟨ob, 0, none⟩ = some v0 := by rw [hb1.cell (by exact hol)]; simp [World.cell?, h'.out.1]
  clear hv1
  go_region_law ((refine step_out (by rfl) _ _ (by rfl) ob v0 _ h'.out (by first | exact hb1.drew | exact hb1) (by rfl) _ hh w.heap.size (by rfl) (by first | exact rv_row hB1.out.drew hl | exact rv_row hB1.out hl) (by omega) ?_; intro a2 n2 c2 w2 c1 f1 hres))
  all_goals
    go_wp2
    go_ret
    exact ⟨rfl, _, hres.out⟩
/-- A slice value that has n hashes, one behind the other. -/
structure Fl (w : World) (A : Option Addr) (lb lo n : Nat) (D : List (BitVec 8)) : Prop where
  len : D.length = 32 * n
  src : 0 < n → A = some ⟨lb, lo, none⟩ ∧ lb < w.heap.size ∧ HasB w lb lo D
theorem Fl.keep {w w' : World} {A : Option Addr} {lb lo n : Nat} {D : List (BitVec 8)} (h : Fl w A lb lo n D) (hs : w.heap.size ≤ w'.heap.size) (hk : 0 < n → w'.heap[lb]? = w.heap[lb]?) : Fl w' A lb lo n D :=
  ⟨h.len, fun hn => ⟨(h.src hn).1, Nat.lt_of_lt_of_le (h.src hn).2.1 hs, fun i hi => by rw [World.cell?_of_block (w := w) (hk hn)]; exact (h.src hn).2.2 i hi⟩⟩
theorem Fl.below {w w' : World} {A : Option Addr} {lb lo n B : Nat} {D : List (BitVec 8)} (h : Fl w A lb lo n D) (hb : Below B w w') (hB : 0 < n → lb < B) : Fl w' A lb lo n D := h.keep hb.size fun hn => hb.block lb (hB hn)
/-- Hash number k. -/
def nth (D : List (BitVec 8)) (k : Nat) : List (BitVec 8) := (D.drop (32 * k)).take 32
theorem nth_len (D : List (BitVec 8)) (n k : Nat) (h : D.length = 32 * n) (hk : k < n) : (nth D k).length = 32 := by unfold nth; simp; omega
theorem nth_take (D : List (BitVec 8)) (k : Nat) : D.take (32 * (k + 1)) = D.take (32 * k) ++ nth D k := by
  unfold nth
  rw [show 32 * (k + 1) = 32 * k + 32 by omega, List.take_add]
theorem Fl.range {w : World} {A : Option Addr} {lb lo n : Nat} {D : List (BitVec 8)} (h : Fl w A lb lo n D) (k : Nat) (hk : k < n) : w.rangeAt lb (lo + k * 32) ((nth D k).map V) := by
  intro j v hj
  have hB := ((h.src (by omega)).2.2.drop (32 * k)).take 32
  have := hB.src 32 j v
  rw [List.take_take, Nat.min_self] at this
  have h2 := this hj
  rw [Addr.add_mid] at h2
  rw [Nat.mul_comm k 32]
  exact h2
set_option maxHeartbeats 400000 in
theorem ohashes_any (ob lb lo n c : Nat) (A : Option Addr) (D : List (BitVec 8)) (v0 : Value) (xs : List (BitVec 8)) (w : World) (h : HasOut w ob v0 xs) (hf : Fl w A lb lo n D) (hlb : 0 < n → lb < ob) (hn : n ≤ 1000) (hx : xs.length ≤ 800000) :
    Calls Tryd.prog 29 #[.pointer (some ⟨ob, 0, none⟩), .slice A n c] w fun e w' => e = .returned (.pointer (some ⟨ob, 0, none⟩)) ∧ ∃ v', HasOut w' ob v' (xs ++ beN n 4 ++ D) ∧ Put ob v0 v' w w' := by
  have hT := Box.mk (onumber_any ob n 4 v0 xs w h (by omega) (by omega) (by omega))
  have hf' := Box.mk hf
  have h' := Box.mk h
  have hl4 := beN_len n 4
  have hDl := hf.len
  clear hf h
  go_enter Tryd.func29, Tryd.ntmps29
  go_wp2_with (refine hT.out.mono ?_; rintro e w' ⟨rfl, h1⟩; have h1' := Box.mk h1; clear h1)
  go_loopw [13] (fun i wr => ∃ k : Nat, k ≤ n ∧ i = .int .i64 k ∧ Box (∃ v, HasOut wr ob v (xs ++ beN n 4 ++ D.take (32 * k)) ∧ Put ob v0 v w wr)) (fun i _ => n - (intOf i).toNat)
  case atStart => exact ⟨0, by omega, rfl, ⟨by simpa using h1'.out⟩⟩
  case round =>
    obtain ⟨k, hk, rfl, hr⟩ := hrel
    by_cases hlt : k < n
    · obtain ⟨rfl, hlw, _⟩ := hf'.out.src (by omega)
      obtain ⟨v, ho, hp⟩ := hr.out
      have hb : Below ob w wr := hp.below h'.out ob (Nat.le_refl _)
      have hrg := Box.mk ((hf'.out.below hb hlb).range k hlt)
      have hC : Box (Calls Tryd.prog 48 #[.pointer (some ⟨ob, 0, none⟩), .agg ((nth D k).map V).toArray] wr fun e w' => e = .returned (.pointer (some ⟨ob, 0, none⟩)) ∧ Box (∃ v', HasOut w' ob v' (xs ++ beN n 4 ++ D.take (32 * (k + 1))) ∧ Put ob v0 v' w w')) := ⟨by
        refine (ohash_any ob (nth D k) v _ wr ho (nth_len D n k hDl hlt) (by simp [hl4]; omega)).mono ?_
        rintro e w2 ⟨rfl, v', h3, h4⟩
        rw [List.append_assoc, ← nth_take] at h3
        exact ⟨rfl, ⟨v', h3, hp.trans h4⟩⟩⟩
      have hsz : Box (((nth D k).map V).length = 32) := ⟨by rw [List.length_map]; exact nth_len D n k hDl hlt⟩
      clear hr ho hp h1' hb
      go_wp2_with (first | (refine wpList_load_mid rfl 33 (.tmp 19) rfl lb (lo + k * 32) rfl ((nth D k).map V) _ hrg.out Tryd.under33 rfl (by rw [hsz.out]; exact Tryd.size33) ?_) | (refine hC.out.mono ?_; rintro e w2 ⟨rfl, h3⟩))
      go_roundw
      case rel => exact ⟨k + 1, by omega, by go_num, h3⟩
      case measure => simp [intOf]; omega
    · have hkn : Box (D.take (32 * k) = D) := ⟨List.take_of_length_le (by omega)⟩
      rw [hkn.out] at hr
      go_wp2
      go_ret
      exact ⟨rfl, hr.out⟩
end Go.Proofs.YtnppjlpnfijobaaDoor
namespace Go.Proofs.YtnppjlpnfijobaaDoor
set_option maxRecDepth 100000
open Go.RowKit
theorem flat_len2 : ∀ (hs : List (List (BitVec 8))), (∀ (i : Nat) (x : List (BitVec 8)), hs[i]? = some x → x.length = 32) → hs.flatten.length = 32 * hs.length
  | [], _ => rfl
  | x :: r, h => by
    rw [List.flatten_cons, List.length_append, h 0 x rfl, flat_len2 r (fun i y hy => h (i + 1) y (by simpa using hy)), List.length_cons]
    omega
theorem Hl.len32 {w : World} {A : Option Addr} {lb lo : Nat} {hs : List (List (BitVec 8))} (h : Hl w A lb lo hs) : ∀ (i : Nat) (x : List (BitVec 8)), hs[i]? = some x → x.length = 32 := fun i x hi => (h.all i x hi).1
theorem hl_fl {w : World} {A : Option Addr} {lb lo : Nat} {hs : List (List (BitVec 8))} (h : Hl w A lb lo hs) : Fl w A lb lo hs.length hs.flatten := by
  have hfl := flat_len2 hs h.len32
  refine ⟨hfl, fun hn => ⟨h.ptr hn, h.lt hn, fun i hi => ?_⟩⟩
  rw [hfl] at hi
  obtain ⟨x, hx⟩ : ∃ x, hs[i / 32]? = some x := ⟨_, List.getElem?_eq_getElem (by omega)⟩
  obtain ⟨h1, h2⟩ := h.all (i / 32) x hx
  have h3 := h2 (i % 32) (by rw [h1]; omega)
  have h4 := flat_at hs h.len32 (i / 32) x hx (i % 32) (by omega)
  rw [show i / 32 * 32 + i % 32 = i by omega] at h4
  rw [show lo + i = lo + i / 32 * 32 + i % 32 by omega, h3, List.getD_eq_getElem?_getD, List.getD_eq_getElem?_getD, h4]
theorem hs_fl {w : World} {A : Option Addr} {C : Nat} {hs : List (List (BitVec 8))} (h : (Fk.hs hs).f (.slice A hs.length C) w) : ∃ lb lo, Fl w A lb lo hs.length hs.flatten := by
  obtain ⟨A', C', lb, lo, e, hl⟩ := h
  injection e with e1 e2 e3
  subst e1
  exact ⟨lb, lo, hl_fl hl⟩
theorem out_nil {w : World} {ob : Nat} (h : Ob w ob 58 [.slice none 0 0]) : HasOut w ob (.slice none 0 0) [] := ⟨h, World.ownsRow_nil _ _ _ _⟩
theorem out_rv {w : World} {ob : Nat} {v : Value} {xs : List (BitVec 8)} (h : HasOut w ob v xs) : ∃ gb, Rv w v xs gb := by
  rcases own_rv h.2 with ⟨e1, e2⟩ | ⟨g, _, _, _, hr⟩
  · exact ⟨0, .inl ⟨e1, e2⟩⟩
  · exact ⟨g, hr⟩
theorem rv_sl {w : World} {v : Value} {xs : List (BitVec 8)} {gb : Nat} (h : Rv w v xs gb) : (Fk.sl xs).f v w := by
  rcases h with ⟨rfl, rfl⟩ | ⟨go, c, rfl, hc, hl, hB⟩
  · exact ⟨none, 0, 0, 0, 0, rfl, rfl, Nat.le_refl _, fun _ => ⟨rfl, rfl⟩, fun h => absurd h (by omega)⟩
  · exact ⟨_, _, c, gb, go, rfl, rfl, hc, (fun e => by cases e), fun _ => ⟨rfl, hl, hB⟩⟩
theorem own_sl {w : World} {base n : Nat} {v : Value} {xs : List (BitVec 8)} (h : w.ownsRow base 5 1 v n (xs.map V)) : (Fk.sl xs).f v w := by
  rcases own_rv h with ⟨e1, e2⟩ | ⟨g, _, _, _, hr⟩
  · exact rv_sl (gb := 0) (.inl ⟨e1, e2⟩)
  · exact rv_sl hr
/-- The bytes of hashes, of a signature. -/
def hsb (hs : List (List (BitVec 8))) : List (BitVec 8) := beN hs.length 4 ++ hs.flatten
end Go.Proofs.YtnppjlpnfijobaaDoor
namespace Go.Proofs.YtnppjlpnfijobaaDoor
set_option maxRecDepth 100000
open Go.RowKit
def cR (l m : Int) (bs : List (BitVec 8)) : List (BitVec 8) := if l ≤ rdI bs ∧ rdI bs ≤ m then dropB bs 8 else []
def cX (l m : Int) (bs : List (BitVec 8)) (bad : Bool) : Bool := if l ≤ rdI bs ∧ rdI bs ≤ m then badB bs bad 8 else true
/-- What is left, step by step. -/
def b1 (bs : List (BitVec 8)) := cR 1 2 bs
def b2 (bs : List (BitVec 8)) := cR 0 255 (b1 bs)
def b3 (bs : List (BitVec 8)) := (hsD (b2 bs) (512 : Nat)).drop (32 * hsN (b2 bs) (512 : Nat))
def b4 (bs : List (BitVec 8)) := (hsD (b3 bs) (8 : Nat)).drop (32 * hsN (b3 bs) (8 : Nat))
def t1 (bs : List (BitVec 8)) := cX 1 2 bs false
def t2 (bs : List (BitVec 8)) := cX 0 255 (b1 bs) (t1 bs)
end Go.Proofs.YtnppjlpnfijobaaDoor
namespace Go.Proofs.YtnppjlpnfijobaaDoor
set_option maxRecDepth 100000
open Go.RowKit
end Go.Proofs.YtnppjlpnfijobaaDoor
namespace Go.Proofs.YtnppjlpnfijobaaDoor
set_option maxRecDepth 100000
open Go.RowKit
end Go.Proofs.YtnppjlpnfijobaaDoor
namespace Go.Proofs.YtnppjlpnfijobaaDoor
set_option maxRecDepth 100000
open Go.RowKit
/-- The bytes from place r on are set. -/
def nlist (s : Nat) (n : Int) (r : Nat) : List (BitVec 8) := (List.range s).map fun p => if r ≤ p then kb (n / 256 ^ (s - 1 - p)) else 0
theorem nlist_len (s : Nat) (n : Int) (r : Nat) : (nlist s n r).length = s := by simp [nlist]
theorem nlist_start (s : Nat) (n : Int) : nlist s n s = zs s := by
  apply List.ext_getElem
  · simp [nlist, zs]
  · intro i h1 h2
    have : i < s := by simpa [nlist] using h1
    simp [nlist, zs]; omega
theorem nlist_step (s : Nat) (n : Int) (r : Nat) (h : r < s) : (nlist s n (r + 1)).set r (kb (n / 256 ^ (s - (r + 1)))) = nlist s n r := by
  apply List.ext_getElem
  · simp [nlist]
  · intro i h1 h2
    have : i < s := by simpa [nlist] using h2
    rw [List.getElem_set]
    by_cases e : r = i
    · subst e
      simp [nlist, show s - (r + 1) = s - 1 - r by omega]
    · rw [if_neg e]
      simp only [nlist, List.getElem_map, List.getElem_range]
      by_cases h3 : r + 1 ≤ i
      · rw [if_pos h3, if_pos (by omega)]
      · rw [if_neg h3, if_neg (by omega)]
theorem Tryd.makes (c : Nat) (hc : c ≤ 1000000) (w : World) : (Instr.makeSlice 39 (.int .i64 (c : Int)) (.int .i64 (c : Int))).run Tryd.prog w = .ok (.slice (some ⟨w.heap.size, 0, none⟩) c c) (w.alloc (.cells ((zs c).map V).toArray 5)) := by
  obtain ⟨i0, hi, hz0, hz1, hz2⟩ := info_parts Tryd.info5
  have := run_make (P := Tryd.prog) w 39 5 i0 (.int .u8 0) Tryd.under39 hi hz0 .i64 .i64 (c : Int) (c : Int) (by omega) (by omega) (by rw [hz2]; omega) (by omega)
  rw [hz1, Int.toNat_natCast, Nat.mul_one, made_eq] at this
  exact this
theorem div_step (n : Int) (k : Nat) : n / 256 ^ k / 256 = n / 256 ^ (k + 1) := by
  rw [Int.ediv_ediv_of_nonneg (Int.pow_nonneg (by omega)), Int.pow_succ]
attribute [local go_sem] kb_v
set_option maxHeartbeats 400000 in
theorem number_raw (n : Int) (s : Nat) (hs : s ≤ 100) (w : World) :
    Calls Tryd.prog 49 #[.int .i64 n, .int .i64 (s : Int)] w fun e w' => e = .returned (.slice (some ⟨w.heap.size, 0, none⟩) s s) ∧ HasV w' w.heap.size 5 (nlist s n 0) ∧ Below w.heap.size w w' := by
  have hmk := Tryd.makes s (by omega)
  go_enter Tryd.func49, Tryd.ntmps49
  go_upto_region 2 with fail
  clear hmk
  refine code_any (fun w1 => HasV w1 w.heap.size 5 (nlist s n s) ∧ Below w.heap.size w w1) ?_ ?_
  · exact ⟨by rw [nlist_start]; exact heap_alloc_new _ _, (Below.refl _ _).alloc (Nat.le_refl _) _⟩
  rintro w1 ⟨hv1, hb1⟩
  go_wp2
  go_loopw [0, 6] (fun m i wr => ∃ r : Nat, r ≤ s ∧ i = .int .i64 ((r : Int) - 1) ∧ (∃ z : Int, m = .int .i64 z ∧ Box (z = n / 256 ^ (s - r))) ∧ HasV wr w.heap.size 5 (nlist s n r) ∧ Below w.heap.size w wr) (fun _ i _ => (intOf i + 1).toNat)
  case atStart => exact ⟨s, Nat.le_refl _, by go_num, ⟨n, rfl, ⟨by simp⟩⟩, hv1, hb1⟩
  case round =>
    clear hv1 hb1
    obtain ⟨r, hr, rfl, ⟨z, rfl, hz⟩, hv, hb⟩ := hrel
    cases r with
    | zero =>
      go_wp2
      go_ret
      exact ⟨rfl, hv, hb⟩
    | succ r =>
      have e1 : ((r + 1 : Nat) : Int) - 1 = (r : Int) := by omega
      rw [e1]
      have HR : Box (HasV (wr.setCell ⟨w.heap.size, r, none⟩ (.int .u8 (bv (kb z)))) w.heap.size 5 (nlist s n r)) := ⟨by
        have := hv.set r (kb (n / 256 ^ (s - (r + 1))))
        rw [nlist_step s n r (by omega), ← hz.out] at this
        exact this⟩
      have hz2 : Box (z / 256 = n / 256 ^ (s - r)) := ⟨by rw [hz.out, div_step, show s - (r + 1) + 1 = s - r by omega]⟩
      have c0 := hv.cell r (by rw [nlist_len]; omega)
      have f0 := hv.frozen r
      generalize (nlist s n (r + 1)).getD r 0 = y0 at c0
      clear hv hz
      go_wp2
      go_roundw
      case rel => exact ⟨r, by omega, by go_num, ⟨_, rfl, hz2⟩, HR.out, hb.setCell (by simp) _⟩
      case measure => first | (simp [intOf]; done) | (simp [intOf]; omega)
theorem sl_of_HasV {w : World} {g n : Nat} {xs : List (BitVec 8)} (h : HasV w g 5 xs) (hn : n = xs.length) : Sl w (some ⟨g, 0, none⟩) n n xs g 0 :=
  ⟨hn, Nat.le_refl _, fun h => by (cases h), fun _ => ⟨rfl, h.lt, h.bytes⟩⟩
end Go.Proofs.YtnppjlpnfijobaaDoor
