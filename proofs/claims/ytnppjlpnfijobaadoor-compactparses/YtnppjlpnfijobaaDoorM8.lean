/- Root of package compact. Drawn regions with guards, a call that turns an object in their midst: operations one by one, each guard told. awake. CompactFull. -/
import Derived.Test.YtnppjlpnfijobaaDoorM7
import Derived.Test.YtnppjlpnfijobaaDoorM3
import Derived.Test.YtnppjlpnfijobaaDoorM6
namespace Go.Proofs.YtnppjlpnfijobaaDoor
set_option maxRecDepth 100000
open Go.RowKit
theorem jn_gw (P : List (List (BitVec 8))) {y0 : List (BitVec 8)} (h0 : P.getD (P.length - 1) [] = y0) (k : Nat) : k ≤ P.length - 1 → jn P k = gw (P.take (P.length - 1)) y0 k := by
  induction k with
  | zero => intro _; exact h0
  | succ k ih =>
    intro hk
    have hl : (P.take (P.length - 1)).length = P.length - 1 := by rw [List.length_take]; omega
    show nd (P.getD (P.length - 1 - 1 - k) []) (jn P k) = nd ((P.take (P.length - 1)).getD ((P.take (P.length - 1)).length - k - 1) []) (gw (P.take (P.length - 1)) y0 k)
    rw [ih (by omega), hl, getD_take (by omega), show P.length - 1 - k - 1 = P.length - 1 - 1 - k by omega]
theorem pcn_some (n : Nat) : n ≠ 0 → 1 ≤ pcn n := by
  induction n using Nat.strongRecOn with
  | ind n ih =>
    intro h
    rw [pcn_pos h]
    by_cases h2 : n % 2 = 1
    · omega
    · have := ih (n / 2) (by omega) (by omega)
      omega
theorem fk_rroot {w : World} {g k n : Nat} {P : List (List (BitVec 8))} (hr : HR w g k n P) (hK : Tab w) {y : List (BitVec 8)} (ey : Box (rtp P = y)) :
    Calls Tryd.prog 15 #[.pointer (some ⟨g, 0, none⟩)] w fun e w' => ∃ u, e = .returned u ∧ (Fk.eq (.agg ((y).map V).toArray)).f u w' ∧ Below w.heap.size w w' := by
  obtain ⟨v, m0, hv⟩ := hr.row
  have hvc := ow_hc hv
  have hvs := ow_hs hv
  have hl21 := hr.len
  have hPn := hr.pcn
  have hnil := sl_nil w
  have hy : y.length = 32 := by
    rw [← ey.out]
    unfold rtp
    split
    · exact shaOf_len _
    · rename_i h1
      have h2 := List.length_pos_iff.2 h1
      exact jn_len h2 hr.h32 _
  go_enter Tryd.func15, Tryd.ntmps15
  refine code_both (fun f w1 => f.tmps.size = 30 ∧ f.defers = [] ∧ f.eval (.tmp 0) = .pointer (some ⟨g, 0, none⟩) ∧ Below w.heap.size w (w1)) ⟨rfl, rfl, rfl, Below.refl _ _⟩ ?_
  rintro f0 w0 ⟨sz, df, x0, bl⟩
  have bl0 := bl
  refine wp_seq ?_
  refine wp_all_seq [.nw w0.heap.size 33 ((hz).map V)] (by kernel_rfl) (by kernel_rfl) (by rw [sz]; kernel_rfl) (by kernel_rfl) ⟨fun hw ac u K => ?_, trivial⟩ ?_
  · exact st_alloc33 rfl _ K.grow.size
  intro f1 w1 A hb
  replace bl0 := bl
  replace x0 := (A.old 0 rfl).trans x0
  have x2 : Fk.f (.nw w0.heap.size 33 ((hz).map V)) (f1.eval (.tmp 2)) w1 := A.has 0 2 rfl
  replace bl := (bl.trans (Below.mono hb bl.size))
  replace sz := A.size.trans sz
  replace df := A.defs.trans df
  clear A hb
  obtain ⟨g2, hg2, e2, m2⟩ := x2
  have x2 := e2
  clear e2
  have nm0_2 : g ≠ g2 := Nat.ne_of_lt (Nat.lt_of_lt_of_le (Ob.lt m0) (Nat.le_trans bl0.size hg2))
  have hw2 : w.heap.size ≤ g2 := Nat.le_trans bl0.size hg2
  show Code.wp _ _ _ _ _
  refine wp_seq ?_
  refine wp_seq ?_
  by_cases hn0 : n = 0
  rotate_left
  · skip
    have hp1 := pcn_some n hn0
    have hP1 : P ≠ [] := fun e => by rw [e] at hPn; simp at hPn; omega
    obtain ⟨y0, hy0k⟩ : ∃ x, P[P.length - 1]? = some x := ⟨_, List.getElem?_eq_getElem (by omega)⟩
    have hy0 : y0.length = 32 := hr.h32 y0 (List.mem_of_getElem? hy0k)
    have htl : (P.take (P.length - 1)).length = P.length - 1 := by rw [List.length_take]; omega
    have eJ : Box (gw (P.take (P.length - 1)) y0 (P.take (P.length - 1)).length = y) := ⟨by rw [htl, ← jn_gw P (getD_at hy0k) _ (Nat.le_refl _), ← ey.out]; unfold rtp; rw [if_neg hP1]⟩
    refine wp_all_seq [.eq (.pointer (some ⟨g, 0, none⟩)), .eq (.pointer (some ⟨g, 0, none⟩)), .eq (.pointer (some ⟨g, 0, none⟩)), .eq (.int .i64 ((n : Nat) : Int)), .eq (.bool false)] (by kernel_rfl) (by kernel_rfl) (by rw [sz]; kernel_rfl) (by kernel_rfl) ⟨fun hw ac u K => ?_, fun hw ac u K => ?_, fun hw ac u K => ?_, fun hw ac u K => ?_, fun hw ac u K => ?_, trivial⟩ ?_
    · exact st_move (.tmp 0) rfl ((K.old 0 rfl).trans x0)
    · exact st_nil (.tmp 4) rfl (K.dep 0 4 rfl)
    · exact st_field 51 0 (.tmp 5) rfl (K.dep 1 5 rfl) (by kernel_rfl)
    · exact st_loadc 3 (.tmp 6) rfl (by kernel_rfl) (K.dep 2 6 rfl) (Ob.cell (Ob.below m0 (bl.trans (Below.mono K.grow bl.size))) 0 rfl)
    · exact st_eqi 3 (.tmp 7) (.const (.int .i64 0)) rfl .i64 (((n : Nat) : Int)) (0) (K.dep 3 7 rfl) rfl _ (by rw [eq_comm, decide_eq_false_iff_not]; omega)
    intro f2 w2 A hb
    replace bl0 := bl
    replace x0 := (A.old 0 rfl).trans x0
    replace x2 := (A.old 2 rfl).trans x2
    have x8 : f2.eval (.tmp 8) = .bool false := A.has 4 8 rfl
    have lt_m2 := Ob.lt m2
    replace m2 := Ob.below m2 hb
    replace bl := (bl.trans (Below.mono hb bl.size))
    replace sz := A.size.trans sz
    replace df := A.defs.trans df
    clear A hb
    show Code.wp _ _ _ _ _
    refine wp_cond_false x8 ?_
    refine wp_skip ?_
    show Code.wp _ _ _ _ _
    refine wp_seq ?_
    refine wp_all_seq [.eq (.pointer (some ⟨g, 0, none⟩)), .eq (.pointer (some ⟨g, 0, none⟩)), .eq (.pointer (some ⟨g, 1, none⟩)), .eq (v), .eq (.int .i64 (((P).length : Nat) : Int)), .eq (.int .i64 ((P.length - 1 : Nat) : Int)), .eq (.int .i64 ((P.length - 1 : Nat) : Int))] (by kernel_rfl) (by kernel_rfl) (by rw [sz]; kernel_rfl) (by kernel_rfl) ⟨fun hw ac u K => ?_, fun hw ac u K => ?_, fun hw ac u K => ?_, fun hw ac u K => ?_, fun hw ac u K => ?_, fun hw ac u K => ?_, fun hw ac u K => ?_, trivial⟩ ?_
    · exact st_move (.tmp 0) rfl ((K.old 0 rfl).trans x0)
    · exact st_nil (.tmp 10) rfl (K.dep 0 10 rfl)
    · exact st_field 51 1 (.tmp 11) rfl (K.dep 1 11 rfl) (by kernel_rfl)
    · exact st_loadc 22 (.tmp 12) rfl (by kernel_rfl) (K.dep 2 12 rfl) (Ob.cell (Ob.below m0 (bl.trans (Below.mono K.grow bl.size))) 1 rfl)
    · exact st_lenc (.tmp 13) rfl ((P).length) rfl (fk_val (K.dep 3 13 rfl) (Fk.mono _ _ _ _ hvc (bl.trans (Below.mono K.grow bl.size))))
    · exact st_sub (.tmp 14) (.const (.int .i64 1)) rfl ((P).length) (1) (P.length - 1) (K.dep 4 14 rfl) rfl (by omega) (by omega)
    · exact st_assign (.tmp 15) rfl (K.dep 5 15 rfl)
    intro f3 w3 A hb
    replace bl0 := bl
    replace x0 := (A.old 0 rfl).trans x0
    replace x2 := (A.old 2 rfl).trans x2
    replace x8 := (A.old 8 rfl).trans x8
    have x3 : f3.eval (.tmp 3) = .int .i64 ((P.length - 1 : Nat) : Int) := A.has 6 3 rfl
    have lt_m2 := Ob.lt m2
    replace m2 := Ob.below m2 hb
    replace bl := (bl.trans (Below.mono hb bl.size))
    replace sz := A.size.trans sz
    replace df := A.defs.trans df
    clear A hb
    show Code.wp _ _ _ _ _
    refine wp_seq ?_
    refine wp_region_tail [.eq (.pointer (some ⟨g, 0, none⟩)), .eq (.pointer (some ⟨g, 0, none⟩)), .eq (.pointer (some ⟨g, 1, none⟩)), .eq (v), .eq (.int .i64 ((P.length - 1 : Nat) : Int)), .hc (P.take (P.length - 1)), .eq (.pointer (some ⟨g, 0, none⟩)), .eq (.pointer (some ⟨g, 0, none⟩)), .eq (.pointer (some ⟨g, 1, none⟩)), .eq (v), .eq (.int .i64 ((P.length - 1 : Nat) : Int)), .ph (y0), .eq (.agg ((y0).map V).toArray)] [13, 14] Tryd.mixed (by kernel_rfl) (by kernel_rfl) (by kernel_rfl) (by kernel_rfl) (by rw [sz]; kernel_rfl) (by kernel_rfl) ⟨fun hw ac u K => ?_, fun hw ac u K => ?_, fun hw ac u K => ?_, fun hw ac u K => ?_, fun hw ac u K => ?_, fun hw ac u K => ?_, fun hw ac u K => ?_, fun hw ac u K => ?_, fun hw ac u K => ?_, fun hw ac u K => ?_, fun hw ac u K => ?_, fun hw ac u K => ?_, fun hw ac u K => ?_, trivial⟩ ?_
    · exact st_move (.tmp 0) rfl ((K.old 0 rfl).trans x0)
    · exact st_nil (.tmp 16) rfl (K.dep 0 16 rfl)
    · exact st_field 51 1 (.tmp 17) rfl (K.dep 1 17 rfl) (by kernel_rfl)
    · exact st_loadc 22 (.tmp 18) rfl (by kernel_rfl) (K.dep 2 18 rfl) (Ob.cell (Ob.below m0 (bl.trans (Below.mono K.grow bl.size))) 1 rfl)
    · exact st_move (.tmp 3) rfl ((K.old 3 rfl).trans x3)
    · exact st_cuth (.tmp 19) (.tmp 20) rfl (fk_val (K.dep 3 19 rfl) (Fk.mono _ _ _ _ hvc (bl.trans (Below.mono K.grow bl.size)))) (P.length - 1) (K.dep 4 20 rfl) (by omega)
    · exact st_move (.tmp 0) rfl ((K.old 0 rfl).trans x0)
    · exact st_nil (.tmp 22) rfl (K.dep 6 22 rfl)
    · exact st_field 51 1 (.tmp 23) rfl (K.dep 7 23 rfl) (by kernel_rfl)
    · exact st_loadc 22 (.tmp 24) rfl (by kernel_rfl) (K.dep 8 24 rfl) (Ob.cell (Ob.below m0 (bl.trans (Below.mono K.grow bl.size))) 1 rfl)
    · exact st_move (.tmp 3) rfl ((K.old 3 rfl).trans x3)
    · exact st_idxh (.tmp 25) (.tmp 26) rfl (fk_val (K.dep 9 25 rfl) (Fk.mono _ _ _ _ hvs (bl.trans (Below.mono K.grow bl.size)))) (P.length - 1) (y0) (K.dep 10 26 rfl) hy0k
    · exact st_loadh (.tmp 27) rfl (K.dep 11 27 rfl)
    intro f4 w4 A hb
    replace bl0 := bl
    replace x0 := (A.old 0 rfl).trans x0
    replace x2 := (A.old 2 rfl).trans x2
    replace x8 := (A.old 8 rfl).trans x8
    replace x3 := (A.old 3 rfl).trans x3
    have x21 : Fk.f (.hc (P.take (P.length - 1))) (f4.eval (.tmp 21)) w4 := A.has 5 21 rfl
    have x28 : f4.eval (.tmp 28) = .agg ((y0).map V).toArray := A.has 12 28 rfl
    have lt_m2 := Ob.lt m2
    replace m2 := Ob.below m2 hb
    replace bl := (bl.trans (Below.mono hb bl.size))
    replace sz := A.size.trans sz
    replace df := A.defs.trans df
    clear A hb
    clear x3
    refine wl_one (.eq (.agg ((y).map V).toArray)) rfl 29 rfl (by rw [sz]; decide) (st_call 27 (.func 27) _ _ #[f4.eval (.tmp 21), .agg ((y0).map V).toArray] rfl rfl (arg2 rfl x28) Tryd.enter27 (fk_joined (by omega) (hc_hs x21) (hK.below bl) hy0 eJ)) ?_
    intro f5 w5 df2 sz2 old2 new2 hb
    replace bl0 := bl
    replace x0 := (old2 0 rfl).trans x0
    replace x2 := (old2 2 rfl).trans x2
    replace x8 := (old2 8 rfl).trans x8
    replace x21 := f_at (old2 21 rfl) (Fk.mono _ _ _ _ x21 hb)
    replace x28 := (old2 28 rfl).trans x28
    have x29 : f5.eval (.tmp 29) = .agg ((y).map V).toArray := new2
    have lt_m2 := Ob.lt m2
    replace m2 := Ob.below m2 hb
    replace bl := (bl.trans (Below.mono hb bl.size))
    replace sz := sz2.trans sz
    replace df := df2.trans df
    clear df2 sz2 old2 new2 hb
    clear x21
    clear x28
    refine wl_store rfl (.tmp 2) (.tmp 29) rfl rfl (g2) (y) (hz) x2 x29 m2 hz_len hy ?_
    replace m2 : Ob (w5.setRow g2 ((y).map V : List Value).toArray) (g2) 33 ((y).map V) := Ob.setRow m2 ((y).map V)
    replace bl : Below w.heap.size w (w5.setRow g2 ((y).map V : List Value).toArray) := bl.trans (below_setRow _ _ _ _ hw2)
    generalize w5.setRow g2 ((y).map V : List Value).toArray = w6b at bl m2 ⊢
    refine wpList_nil ?_
    clear x29
    show Code.wp _ _ _ _ _
    refine wp_ret ?_
    repeat (first | with_reducible refine then_ret ?_ | with_reducible refine block_ret ?_)
    exact bodyPost_ret (v := .agg ((y).map V).toArray) (ret_hash rfl f5 _ g2 (y) hy x2 m2) df ⟨_, rfl, rfl, bl⟩
  have hP0 : P = [] := List.eq_nil_of_length_eq_zero (by rw [hPn, hn0, pcn_zero])
  have eys : shaOf [] = y := by rw [← ey.out, hP0]; rfl
  refine wp_all_seq [.eq (.pointer (some ⟨g, 0, none⟩)), .eq (.pointer (some ⟨g, 0, none⟩)), .eq (.pointer (some ⟨g, 0, none⟩)), .eq (.int .i64 ((n : Nat) : Int)), .eq (.bool true)] (by kernel_rfl) (by kernel_rfl) (by rw [sz]; kernel_rfl) (by kernel_rfl) ⟨fun hw ac u K => ?_, fun hw ac u K => ?_, fun hw ac u K => ?_, fun hw ac u K => ?_, fun hw ac u K => ?_, trivial⟩ ?_
  · exact st_move (.tmp 0) rfl ((K.old 0 rfl).trans x0)
  · exact st_nil (.tmp 4) rfl (K.dep 0 4 rfl)
  · exact st_field 51 0 (.tmp 5) rfl (K.dep 1 5 rfl) (by kernel_rfl)
  · exact st_loadc 3 (.tmp 6) rfl (by kernel_rfl) (K.dep 2 6 rfl) (Ob.cell (Ob.below m0 (bl.trans (Below.mono K.grow bl.size))) 0 rfl)
  · exact st_eqi 3 (.tmp 7) (.const (.int .i64 0)) rfl .i64 (((n : Nat) : Int)) (0) (K.dep 3 7 rfl) rfl _ (by rw [eq_comm, decide_eq_true_iff]; omega)
  intro f2 w2 A hb
  replace bl0 := bl
  replace x0 := (A.old 0 rfl).trans x0
  replace x2 := (A.old 2 rfl).trans x2
  have x8 : f2.eval (.tmp 8) = .bool true := A.has 4 8 rfl
  have lt_m2 := Ob.lt m2
  replace m2 := Ob.below m2 hb
  replace bl := (bl.trans (Below.mono hb bl.size))
  replace sz := A.size.trans sz
  replace df := A.defs.trans df
  clear A hb
  show Code.wp _ _ _ _ _
  refine wp_cond_true x8 ?_
  refine wp_seq ?_
  refine wp_region_seq [.eq (.agg ((y).map V).toArray)] (by kernel_rfl) (by kernel_rfl) (by rw [sz]; kernel_rfl) (by kernel_rfl) ⟨fun hw ac u K => ?_, trivial⟩ ?_
  · exact st_call 24 (.func 24) _ _ #[.slice none 0 0] rfl rfl (one_arg rfl) Tryd.enter24 (by rw [← eys]; exact fk_sum (by simp) (hK.below (bl.trans (Below.mono K.grow bl.size))) (Fk.mono _ _ _ _ hnil (bl.trans (Below.mono K.grow bl.size))))
  intro f3 w3 A hb
  replace bl0 := bl
  replace x0 := (A.old 0 rfl).trans x0
  replace x2 := (A.old 2 rfl).trans x2
  replace x8 := (A.old 8 rfl).trans x8
  have x9 : f3.eval (.tmp 9) = .agg ((y).map V).toArray := A.has 0 9 rfl
  have lt_m2 := Ob.lt m2
  replace m2 := Ob.below m2 hb
  replace bl := (bl.trans (Below.mono hb bl.size))
  replace sz := A.size.trans sz
  replace df := A.defs.trans df
  clear A hb
  refine wl_store rfl (.tmp 2) (.tmp 9) rfl rfl (g2) (y) (hz) x2 x9 m2 hz_len hy ?_
  replace m2 : Ob (w3.setRow g2 ((y).map V : List Value).toArray) (g2) 33 ((y).map V) := Ob.setRow m2 ((y).map V)
  replace bl : Below w.heap.size w (w3.setRow g2 ((y).map V : List Value).toArray) := bl.trans (below_setRow _ _ _ _ hw2)
  generalize w3.setRow g2 ((y).map V : List Value).toArray = w4b at bl m2 ⊢
  refine wpList_nil ?_
  clear x9
  show Code.wp _ _ _ _ _
  refine wp_ret ?_
  repeat (first | with_reducible refine then_ret ?_ | with_reducible refine block_ret ?_)
  exact bodyPost_ret (v := .agg ((y).map V).toArray) (ret_hash rfl f3 _ g2 (y) hy x2 m2) df ⟨_, rfl, rfl, bl⟩
end Go.Proofs.YtnppjlpnfijobaaDoor
namespace Go.Proofs.YtnppjlpnfijobaaDoor
set_option maxRecDepth 100000
open Go.RowKit
section
variable {P : Program} {ops : Array Oper} {Q : Exit → Act → World → Prop} {S : World → Prop} {o : Oper} {a : Act}
theorem yield_of {j d : Nat} {b : Bool} (hj : (ops[j]?).bind (·.dst) = some d) (h : a.eval (.tmp d) = .bool b) : yielded ops a.tmps j = some b := by
  simp only [Act.eval, Array.getD_eq_getD_getElem?] at h
  unfold yielded
  rw [hj]
  simp only [Option.bind_some]
  cases hq : a.tmps[d]? with
  | none => rw [hq] at h; simp [undef] at h
  | some u => rw [hq] at h; simp at h; rw [h]
theorem want_of {j d : Nat} {b : Bool} (hg : o.guard = some (j, b)) (hj : (ops[j]?).bind (·.dst) = some d) (h : a.eval (.tmp d) = .bool b) : Region.wanted o (yielded ops a.tmps) = true := by
  unfold Region.wanted
  rw [hg]
  show (yielded ops a.tmps j == some b) = true
  rw [yield_of hj h]
  simp
theorem want_none (hg : o.guard = none) : Region.wanted o (yielded ops a.tmps) = true := by
  unfold Region.wanted
  rw [hg]
/-- What only looks, wanted. -/
theorem wg_take (i : Nat) (d : Nat) {v : Value} {fuel : Nat} {listed : Array Bool} {w : World} (hi : ops[i]? = some o) (hd : o.dst = some d) (hsz : d < a.tmps.size) (hw : Region.wanted o (yielded ops a.tmps) = true)
    (hs : Region.noSelect ops = true) (hf : Region.free .any ops listed i = true) (hr : (Region.ready .any ops listed).contains i = true)
    (hQ : ∀ c a w, Q (.panic c) (a.put o.dst v) w → Q (.panic c) a w) (hy : ∀ w, S w → (execOp a.eval o).run P w = .ok (.value v) w) (hS : S w)
    (h : ∀ a2, a2.defers = a.defers → a2.tmps.size = a.tmps.size → (∀ t, (t == d) = false → a2.eval (.tmp t) = a.eval (.tmp t)) → a2.eval (.tmp d) = v → wpAnyH P .any ops Q S fuel (listed.setIfInBounds i true) a2 w) : wpAnyH P .any ops Q S (fuel + 1) listed a w := by
  refine wpAnyH_take hi hs hf hr hQ (.inl ⟨hw, hy⟩) hS ?_
  rw [hd]
  exact h _ (put_def _ _ _) (put_size _ _ _) (fun t ht => put_eval_other _ _ _ _ (fun e => by subst e; simp at ht)) (put_eval_same _ _ _ hsz)
/-- A step that is the only one that can come, wanted: as a step of a region by itself. -/
theorem wg_step (i : Nat) (d : Nat) {fuel : Nat} {listed : Array Bool} {w : World} (hi : ops[i]? = some o) (hd : o.dst = some d) (hsz : d < a.tmps.size) (hw : Region.wanted o (yielded ops a.tmps) = true) (hr : (Region.ready .any ops listed == [i]) = true) (q : Fk)
    (hs : o.wp P a w (Ends a o.dst w q.f) Q)
    (h : ∀ a2 w2, a2.defers = a.defers → a2.tmps.size = a.tmps.size → (∀ t, (t == d) = false → a2.eval (.tmp t) = a.eval (.tmp t)) → q.f (a2.eval (.tmp d)) w2 → Below w.heap.size w w2 → S w2 ∧ wpAnyH P .any ops Q S fuel (listed.setIfInBounds i true) a2 w2) : wpAnyH P .any ops Q S (fuel + 1) listed a w := by
  refine wpAnyH_all (eq_of_beq hr) (by simp) (fun j hj => ?_)
  obtain rfl : j = i := by simpa using hj
  unfold wpOp
  rw [hi]
  show if Region.wanted o (yielded ops a.tmps) = true then _ else _
  rw [if_pos hw]
  refine .inl (Oper.wp_mono ?_ hs)
  rintro a2 w2 ⟨v, rfl, hb, hq⟩
  rw [hd]
  refine h _ _ (put_def _ _ _) (put_size _ _ _) (fun t ht => put_eval_other _ _ _ _ (fun e => by subst e; simp at ht)) ?_ hb
  rw [put_eval_same _ _ _ hsz]
  exact hq
/-- A call that is the only one that can come, wanted; it may turn old blocks. -/
theorem wg_call (i : Nat) (d : Nat) {fuel : Nat} {listed : Array Bool} {w : World} (hi : ops[i]? = some o) (hd : o.dst = some d) (hsz : d < a.tmps.size) (hw : Region.wanted o (yielded ops a.tmps) = true) (hr : (Region.ready .any ops listed == [i]) = true)
    (f : FuncId) (x : Operand) (xs : Array Operand) (ts : Array TypeId) (vs : Array Value) (ho : o.op = .call { callee := .value x, args := xs, argTypes := ts }) (hx : a.eval x = .func (.func f) #[] #[]) (hv : (xs.toList.map a.eval).toArray = vs)
    (hf : ∀ args w, (callFunc f args).run P w = .ok (.enter f args) w) (R : Value → World → Prop) (hc : Calls P f vs w fun e w' => ∃ v, e = .returned v ∧ R v w')
    (h : ∀ a2 w2, a2.defers = a.defers → a2.tmps.size = a.tmps.size → (∀ t, (t == d) = false → a2.eval (.tmp t) = a.eval (.tmp t)) → R (a2.eval (.tmp d)) w2 → S w2 ∧ wpAnyH P .any ops Q S fuel (listed.setIfInBounds i true) a2 w2) : wpAnyH P .any ops Q S (fuel + 1) listed a w := by
  refine wpAnyH_all (eq_of_beq hr) (by simp) (fun j hj => ?_)
  obtain rfl : j = i := by simpa using hj
  have hrun : (execOp a.eval o).run P w = .ok (.enter f vs) w := by
    have hv' : xs.map a.eval = vs := by rw [← hv]; apply Array.toList_inj.1; simp
    unfold execOp; rw [ho]
    simp [resolve, hx, Deferred.ofValue, invoke, hv', hf]
  unfold wpOp
  rw [hi]
  show if Region.wanted o (yielded ops a.tmps) = true then _ else _
  rw [if_pos hw]
  refine .inl ?_
  unfold Oper.wp; rw [hrun]
  refine Calls.mono hc ?_
  rintro e w' ⟨v, rfl, h1⟩
  rw [hd]
  refine h _ _ (put_def _ _ _) (put_size _ _ _) (fun t ht => put_eval_other _ _ _ _ (fun e => by subst e; simp at ht)) ?_
  rw [put_eval_same _ _ _ hsz]
  exact h1
variable {rest : List Oper} {w : World}
end
end Go.Proofs.YtnppjlpnfijobaaDoor
namespace Go.Proofs.YtnppjlpnfijobaaDoor
set_option maxRecDepth 100000
open Go.RowKit
/-- A hash that begins with a byte, all others noughts. -/
def h1 (n : Nat) : List (BitVec 8) := BitVec.ofNat 8 n :: List.replicate 31 0
theorem h1_len (n : Nat) : (h1 n).length = 32 := rfl
theorem b3_run (w : World) : (Instr.buildSlice 22 3 #[(0, .agg ((h1 1).map V).toArray), (1, .agg ((h1 2).map V).toArray), (2, .agg ((h1 3).map V).toArray)]).run Tryd.prog w = .ok (.slice (some ⟨w.heap.size, 0, none⟩) 3 3) (w.alloc (.cells ((h1 1 ++ h1 2 ++ h1 3).map V).toArray 33)) := by kernel_rfl
theorem b3_at : ∀ (i : Fin 3) (j : Fin 32), (h1 1 ++ h1 2 ++ h1 3)[i.val * 32 + j.val]? = some ((h1 (i.val + 1)).getD j.val 0) := by decide
theorem st_b3q {Q : Exit → Act → World → Prop} {o : Oper} {a : Act} {w : World} (x y z : Operand) (ho : o.op = .buildSlice 22 3 #[(0, x), (1, y), (2, z)]) (hx : a.eval x = .agg ((h1 1).map V).toArray) (hy : a.eval y = .agg ((h1 2).map V).toArray) (hz : a.eval z = .agg ((h1 3).map V).toArray) (base : Nat) (hb : base ≤ w.heap.size) : o.wp Tryd.prog a w (Ends a o.dst w (Fk.hq (fun b => base ≤ b) [h1 1, h1 2, h1 3]).f) Q := by
  refine st_run (v := .slice (some ⟨w.heap.size, 0, none⟩) 3 3) (w' := w.alloc (.cells ((h1 1 ++ h1 2 ++ h1 3).map V).toArray 33)) ?_ ((Below.refl _ _).alloc (Nat.le_refl _) _) ⟨⟨_, 3, w.heap.size, 0, rfl, Nat.le_refl _, fun _ => rfl, fun _ => by simp, fun i x hi => ?_⟩, fun _ b e => by obtain rfl := Option.some.inj e; exact hb⟩
  · have := b3_run w
    unfold execOp
    rw [ho]
    simp [hx, hy, hz, this]
  · have hi3 : i < 3 := (List.getElem?_eq_some_iff.1 hi).1
    have hxe : x = h1 (i + 1) := by
      match i, hi3 with
      | 0, _ => simpa using hi.symm
      | 1, _ => simpa using hi.symm
      | 2, _ => simpa using hi.symm
    subst hxe
    refine ⟨h1_len _, fun j hj => ?_⟩
    rw [h1_len] at hj
    rw [World.cell?_alloc_mark, Nat.zero_add]
    have := b3_at ⟨i, hi3⟩ ⟨j, hj⟩
    simp only at this
    simp only [List.getElem?_toArray, List.getElem?_map, this, Option.map_some, V]
theorem grl_three (a b c : List (BitVec 8)) : grl (0, []) [a, b, c] = (3, [nd a b, c]) := by
  have t0 : tro 0 = 0 := tro_even (by decide)
  have t1 : tro 1 = 1 := by rw [tro_odd (by decide), tro_even (by decide)]
  have t2 : tro 2 = 0 := tro_even (by decide)
  simp only [grl, List.foldl_cons, List.foldl_nil, gr1, t0, t1, t2, Nat.zero_add]
  rfl
theorem rtp_two (a b : List (BitVec 8)) : rtp [a, b] = nd a b := by
  unfold rtp
  rw [if_neg (by simp)]
  rfl
theorem fk_rn {f : FuncId} {args : Array Value} {w : World} {g0 n : Nat} {P : List (List (BitVec 8))} (hg : g0 ≤ w.heap.size) (h : Calls Tryd.prog f args w fun e w' => ∃ u, e = .returned u ∧ (Fk.rn w.heap.size n P).f u w' ∧ Below w.heap.size w w') :
    Calls Tryd.prog f args w fun e w' => ∃ u, e = .returned u ∧ (Fk.rn g0 n P).f u w' ∧ Below w.heap.size w w' := by
  refine h.mono ?_
  rintro e w' ⟨u, rfl, ⟨g, k, e1, h1, h2, h3⟩, hb⟩
  exact ⟨u, rfl, ⟨g, k, e1, Nat.le_trans hg h1, Nat.le_trans hg h2, h3⟩, hb⟩
theorem awake_any (w : World) (hK : Tab w) :
    Calls Tryd.prog 7 #[] w fun e w' => e = .returned (.bool true) ∧ Below w.heap.size w w' := by
  obtain ⟨p, ep⟩ : ∃ p, Box (nd (h1 1) (h1 2) = p) := ⟨_, ⟨rfl⟩⟩
  have hp : p.length = 32 := by rw [← ep.out]; exact nd_len _ _
  obtain ⟨q, eq⟩ : ∃ q, Box (nd p (h1 3) = q) := ⟨_, ⟨rfl⟩⟩
  have hq : q.length = 32 := by rw [← eq.out]; exact nd_len _ _
  have hgrl : grl (0, []) [h1 1, h1 2, h1 3] = (3, [p, h1 3]) := by rw [← ep.out]; exact grl_three _ _ _
  have eQ : Box (rtp [p, h1 3] = q) := ⟨by rw [← eq.out]; exact rtp_two _ _⟩
  go_enter Tryd.func7, Tryd.ntmps7
  refine code_both (fun f w1 => f.tmps.size = 41 ∧ f.defers = [] ∧ Below w.heap.size w (w1)) ⟨rfl, rfl, Below.refl _ _⟩ ?_
  rintro f0 w0 ⟨sz, df, bl⟩
  have bl0 := bl
  refine wp_seq ?_
  refine wp_all_seq [.eq (.bool false)] (by kernel_rfl) (by kernel_rfl) (by rw [sz]; kernel_rfl) (by kernel_rfl) ⟨fun hw ac u K => ?_, trivial⟩ ?_
  · exact st_assign (.const (.bool false)) rfl rfl
  intro f1 w1 A hb
  replace bl0 := bl
  have x0 : f1.eval (.tmp 0) = .bool false := A.has 0 0 rfl
  replace bl := (bl.trans (Below.mono hb bl.size))
  replace sz := A.size.trans sz
  replace df := A.defs.trans df
  clear A hb
  show Code.wp _ _ _ _ _
  refine wp_seq ?_
  refine wp_all_seq [.rn w.heap.size 0 [], .rn w.heap.size 0 []] (by kernel_rfl) (by kernel_rfl) (by rw [sz]; kernel_rfl) (by kernel_rfl) ⟨fun hw ac u K => ?_, fun hw ac u K => ?_, trivial⟩ ?_
  · exact st_call 8 (.func 8) _ _ #[] rfl rfl rfl Tryd.enter8 (fk_rn (bl.trans (Below.mono K.grow bl.size)).size (fk_new _))
  · exact st_assign (.tmp 5) rfl (K.dep 0 5 rfl)
  intro f2 w2 A hb
  replace bl0 := bl
  replace x0 := (A.old 0 rfl).trans x0
  have x1 : Fk.f (.rn w.heap.size 0 []) (f2.eval (.tmp 1)) w2 := A.has 1 1 rfl
  replace bl := (bl.trans (Below.mono hb bl.size))
  replace sz := A.size.trans sz
  replace df := A.defs.trans df
  clear A hb
  obtain ⟨gr, kr, er, hgr, hkr, hrr⟩ := x1
  have x1 : f2.eval (.tmp 1) = .pointer (some ⟨gr, 0, none⟩) := er
  clear er
  have ltr := hrr.lt
  show Code.wp _ _ _ _ _
  refine wp_seq ?_
  refine wp_region_seq [.eq (.agg ((h1 1).map V).toArray), .eq (.agg ((h1 2).map V).toArray), .eq (.agg ((h1 3).map V).toArray)] (by kernel_rfl) (by kernel_rfl) (by rw [sz]; kernel_rfl) (by kernel_rfl) ⟨fun hw ac u K => ?_, fun hw ac u K => ?_, fun hw ac u K => ?_, trivial⟩ ?_
  · exact st_build 33 _ rfl (by kernel_rfl)
  · exact st_build 33 _ rfl (by kernel_rfl)
  · exact st_build 33 _ rfl (by kernel_rfl)
  intro f3 w3 A hb
  have S_hrr := hrr
  have hbS0 := Below.refl w2.heap.size w2
  have hbS := hb
  replace bl0 := bl
  replace x0 := (A.old 0 rfl).trans x0
  replace x1 := (A.old 1 rfl).trans x1
  have x6 : f3.eval (.tmp 6) = .agg ((h1 1).map V).toArray := A.has 0 6 rfl
  have x7 : f3.eval (.tmp 7) = .agg ((h1 2).map V).toArray := A.has 1 7 rfl
  have x8 : f3.eval (.tmp 8) = .agg ((h1 3).map V).toArray := A.has 2 8 rfl
  replace hrr := HR.mono hrr hb
  replace bl := (bl.trans (Below.mono hb bl.size))
  replace sz := A.size.trans sz
  replace df := A.defs.trans df
  clear A hb
  refine wl_one (.nw w3.heap.size 33 ((hz).map V)) rfl 2 rfl (by rw [sz]; decide) (st_alloc33 rfl _ (Nat.le_refl _)) ?_
  intro f4 w4 df2 sz2 old2 new2 hb
  replace hbS0 := hbS
  replace hbS := hbS.trans (Below.mono hb hbS.size)
  replace bl0 := bl
  replace x0 := (old2 0 rfl).trans x0
  replace x1 := (old2 1 rfl).trans x1
  replace x6 := (old2 6 rfl).trans x6
  replace x7 := (old2 7 rfl).trans x7
  replace x8 := (old2 8 rfl).trans x8
  have x2 : Fk.f (.nw w3.heap.size 33 ((hz).map V)) (f4.eval (.tmp 2)) w4 := new2
  replace hrr := HR.mono hrr hb
  replace bl := (bl.trans (Below.mono hb bl.size))
  replace sz := sz2.trans sz
  replace df := df2.trans df
  clear df2 sz2 old2 new2 hb
  obtain ⟨g2, hg2, e2, m2⟩ := x2
  have x2 := e2
  clear e2
  have hw2 : w.heap.size ≤ g2 := Nat.le_trans bl0.size hg2
  have hs2 := Nat.le_trans hbS0.size hg2
  refine wl_one (.nw w4.heap.size 33 ((hz).map V)) rfl 3 rfl (by rw [sz]; decide) (st_alloc33 rfl _ (Nat.le_refl _)) ?_
  intro f5 w5 df2 sz2 old2 new2 hb
  replace hbS0 := hbS
  replace hbS := hbS.trans (Below.mono hb hbS.size)
  replace bl0 := bl
  replace x0 := (old2 0 rfl).trans x0
  replace x1 := (old2 1 rfl).trans x1
  replace x6 := (old2 6 rfl).trans x6
  replace x7 := (old2 7 rfl).trans x7
  replace x8 := (old2 8 rfl).trans x8
  replace x2 := (old2 2 rfl).trans x2
  have x3 : Fk.f (.nw w4.heap.size 33 ((hz).map V)) (f5.eval (.tmp 3)) w5 := new2
  have lt_m2 := Ob.lt m2
  replace m2 := Ob.below m2 hb
  replace hrr := HR.mono hrr hb
  replace bl := (bl.trans (Below.mono hb bl.size))
  replace sz := sz2.trans sz
  replace df := df2.trans df
  clear df2 sz2 old2 new2 hb
  obtain ⟨g3, hg3, e3, m3⟩ := x3
  have x3 := e3
  clear e3
  have nm2_3 : g2 ≠ g3 := Nat.ne_of_lt (Nat.lt_of_lt_of_le lt_m2 hg3)
  have hw3 : w.heap.size ≤ g3 := Nat.le_trans bl0.size hg3
  have hs3 := Nat.le_trans hbS0.size hg3
  refine wl_one (.nw w5.heap.size 33 ((hz).map V)) rfl 4 rfl (by rw [sz]; decide) (st_alloc33 rfl _ (Nat.le_refl _)) ?_
  intro f6 w6 df2 sz2 old2 new2 hb
  replace hbS0 := hbS
  replace hbS := hbS.trans (Below.mono hb hbS.size)
  replace bl0 := bl
  replace x0 := (old2 0 rfl).trans x0
  replace x1 := (old2 1 rfl).trans x1
  replace x6 := (old2 6 rfl).trans x6
  replace x7 := (old2 7 rfl).trans x7
  replace x8 := (old2 8 rfl).trans x8
  replace x2 := (old2 2 rfl).trans x2
  replace x3 := (old2 3 rfl).trans x3
  have x4 : Fk.f (.nw w5.heap.size 33 ((hz).map V)) (f6.eval (.tmp 4)) w6 := new2
  have lt_m2 := Ob.lt m2
  replace m2 := Ob.below m2 hb
  have lt_m3 := Ob.lt m3
  replace m3 := Ob.below m3 hb
  replace hrr := HR.mono hrr hb
  replace bl := (bl.trans (Below.mono hb bl.size))
  replace sz := sz2.trans sz
  replace df := df2.trans df
  clear df2 sz2 old2 new2 hb
  obtain ⟨g4, hg4, e4, m4⟩ := x4
  have x4 := e4
  clear e4
  have nm2_4 : g2 ≠ g4 := Nat.ne_of_lt (Nat.lt_of_lt_of_le lt_m2 hg4)
  have nm3_4 : g3 ≠ g4 := Nat.ne_of_lt (Nat.lt_of_lt_of_le lt_m3 hg4)
  have hw4 : w.heap.size ≤ g4 := Nat.le_trans bl0.size hg4
  have hs4 := Nat.le_trans hbS0.size hg4
  refine wl_store rfl (.tmp 2) (.tmp 6) rfl rfl (g2) (h1 1) (hz) x2 x6 m2 hz_len (h1_len 1) ?_
  replace m2 : Ob (w6.setRow g2 ((h1 1).map V : List Value).toArray) (g2) 33 ((h1 1).map V) := Ob.setRow m2 ((h1 1).map V)
  replace m3 : Ob (w6.setRow g2 ((h1 1).map V : List Value).toArray) (g3) 33 ((hz).map V) := Ob.setRow_other m3 _ nm2_3.symm
  replace m4 : Ob (w6.setRow g2 ((h1 1).map V : List Value).toArray) (g4) 33 ((hz).map V) := Ob.setRow_other m4 _ nm2_4.symm
  replace hbS : Below _ _ (w6.setRow g2 ((h1 1).map V : List Value).toArray) := hbS.trans (below_setRow _ _ _ _ hs2)
  replace hrr := HR.mono S_hrr hbS
  replace bl : Below w.heap.size w (w6.setRow g2 ((h1 1).map V : List Value).toArray) := bl.trans (below_setRow _ _ _ _ hw2)
  generalize w6.setRow g2 ((h1 1).map V : List Value).toArray = w7b at bl m2 m3 m4 hrr hbS ⊢
  clear x6
  refine wl_store rfl (.tmp 3) (.tmp 7) rfl rfl (g3) (h1 2) (hz) x3 x7 m3 hz_len (h1_len 2) ?_
  replace m2 : Ob (w7b.setRow g3 ((h1 2).map V : List Value).toArray) (g2) 33 ((h1 1).map V) := Ob.setRow_other m2 _ nm2_3
  replace m3 : Ob (w7b.setRow g3 ((h1 2).map V : List Value).toArray) (g3) 33 ((h1 2).map V) := Ob.setRow m3 ((h1 2).map V)
  replace m4 : Ob (w7b.setRow g3 ((h1 2).map V : List Value).toArray) (g4) 33 ((hz).map V) := Ob.setRow_other m4 _ nm3_4.symm
  replace hbS : Below _ _ (w7b.setRow g3 ((h1 2).map V : List Value).toArray) := hbS.trans (below_setRow _ _ _ _ hs3)
  replace hrr := HR.mono S_hrr hbS
  replace bl : Below w.heap.size w (w7b.setRow g3 ((h1 2).map V : List Value).toArray) := bl.trans (below_setRow _ _ _ _ hw3)
  generalize w7b.setRow g3 ((h1 2).map V : List Value).toArray = w8b at bl m2 m3 m4 hrr hbS ⊢
  clear x7
  refine wl_store rfl (.tmp 4) (.tmp 8) rfl rfl (g4) (h1 3) (hz) x4 x8 m4 hz_len (h1_len 3) ?_
  replace m2 : Ob (w8b.setRow g4 ((h1 3).map V : List Value).toArray) (g2) 33 ((h1 1).map V) := Ob.setRow_other m2 _ nm2_4
  replace m3 : Ob (w8b.setRow g4 ((h1 3).map V : List Value).toArray) (g3) 33 ((h1 2).map V) := Ob.setRow_other m3 _ nm3_4
  replace m4 : Ob (w8b.setRow g4 ((h1 3).map V : List Value).toArray) (g4) 33 ((h1 3).map V) := Ob.setRow m4 ((h1 3).map V)
  replace hbS : Below _ _ (w8b.setRow g4 ((h1 3).map V : List Value).toArray) := hbS.trans (below_setRow _ _ _ _ hs4)
  replace hrr := HR.mono S_hrr hbS
  replace bl : Below w.heap.size w (w8b.setRow g4 ((h1 3).map V : List Value).toArray) := bl.trans (below_setRow _ _ _ _ hw4)
  generalize w8b.setRow g4 ((h1 3).map V : List Value).toArray = w9b at bl m2 m3 m4 hrr hbS ⊢
  refine wpList_nil ?_
  clear hbS hbS0 S_hrr
  clear x8
  show Code.wp _ _ _ _ _
  refine wp_seq ?_
  have ng2 : g2 ≠ gr ∧ g2 ≠ kr := ⟨by omega, by omega⟩
  have ng3 : g3 ≠ gr ∧ g3 ≠ kr := ⟨by omega, by omega⟩
  have ng4 : g4 ≠ gr ∧ g4 ≠ kr := ⟨by omega, by omega⟩
  have lt2 := Ob.lt m2
  have lt3 := Ob.lt m3
  have lt4 := Ob.lt m4
  refine wp_region_held_drew (S := fun W => Ob W g2 33 ((h1 1).map V) ∧ Ob W g3 33 ((h1 2).map V) ∧ Ob W g4 33 ((h1 3).map V)) Tryd.mixed ⟨Ob.below m2 (Below.refl _ _).drew, Ob.below m3 (Below.refl _ _).drew, Ob.below m4 (Below.refl _ _).drew⟩ (fun hS => ?_)
  replace hrr : HR w9b.drew gr kr 0 [] := hrr.mono (Below.refl _ _).drew
  replace bl := bl.drew
  clear bl0 m2 m3 m4
  replace lt2 : g2 < w9b.drew.heap.size := lt2
  replace lt3 : g3 < w9b.drew.heap.size := lt3
  replace lt4 : g4 < w9b.drew.heap.size := lt4
  generalize w9b.drew = w10 at hS hrr bl lt2 lt3 lt4 ⊢
  refine wg_step 0 9 rfl rfl (by rw [sz]; decide) (want_none rfl) (by kernel_rfl) (.eq (.pointer (some ⟨gr, 0, none⟩))) (st_move (.tmp 1) rfl x1) ?_
  intro f11 w11 df2 sz2 old2 new2 hb2
  refine ⟨⟨Ob.below hS.1 hb2, Ob.below hS.2.1 hb2, Ob.below hS.2.2 hb2⟩, ?_⟩
  have hS2 := hS
  replace hS := (show Ob w11 g2 33 ((h1 1).map V) ∧ Ob w11 g3 33 ((h1 2).map V) ∧ Ob w11 g4 33 ((h1 3).map V) from ⟨Ob.below hS.1 hb2, Ob.below hS.2.1 hb2, Ob.below hS.2.2 hb2⟩)
  clear hS2
  replace x0 := (old2 0 rfl).trans x0
  replace x1 := (old2 1 rfl).trans x1
  replace x2 := (old2 2 rfl).trans x2
  replace x3 := (old2 3 rfl).trans x3
  replace x4 := (old2 4 rfl).trans x4
  have x9 : f11.eval (.tmp 9) = .pointer (some ⟨gr, 0, none⟩) := new2
  replace hrr := hrr.mono hb2
  replace lt2 := Nat.lt_of_lt_of_le lt2 hb2.size
  replace lt3 := Nat.lt_of_lt_of_le lt3 hb2.size
  replace lt4 := Nat.lt_of_lt_of_le lt4 hb2.size
  replace bl := bl.trans (Below.mono hb2 bl.size)
  replace sz := sz2.trans sz
  replace df := df2.trans df
  clear df2 sz2 old2 new2 hb2
  refine wg_step 1 10 rfl rfl (by rw [sz]; decide) (want_none rfl) (by kernel_rfl) (.eq (.bool true)) (st_bin .neq 25 25 (.tmp 9) _ rfl x9 rfl (by kernel_rfl)) ?_
  intro f12 w12 df2 sz2 old2 new2 hb2
  refine ⟨⟨Ob.below hS.1 hb2, Ob.below hS.2.1 hb2, Ob.below hS.2.2 hb2⟩, ?_⟩
  have hS2 := hS
  replace hS := (show Ob w12 g2 33 ((h1 1).map V) ∧ Ob w12 g3 33 ((h1 2).map V) ∧ Ob w12 g4 33 ((h1 3).map V) from ⟨Ob.below hS.1 hb2, Ob.below hS.2.1 hb2, Ob.below hS.2.2 hb2⟩)
  clear hS2
  replace x0 := (old2 0 rfl).trans x0
  replace x1 := (old2 1 rfl).trans x1
  replace x2 := (old2 2 rfl).trans x2
  replace x3 := (old2 3 rfl).trans x3
  replace x4 := (old2 4 rfl).trans x4
  replace x9 := (old2 9 rfl).trans x9
  have x10 : f12.eval (.tmp 10) = .bool true := new2
  replace hrr := hrr.mono hb2
  replace lt2 := Nat.lt_of_lt_of_le lt2 hb2.size
  replace lt3 := Nat.lt_of_lt_of_le lt3 hb2.size
  replace lt4 := Nat.lt_of_lt_of_le lt4 hb2.size
  replace bl := bl.trans (Below.mono hb2 bl.size)
  replace sz := sz2.trans sz
  replace df := df2.trans df
  clear df2 sz2 old2 new2 hb2
  refine wg_step 2 11 rfl rfl (by rw [sz]; decide) (want_none rfl) (by kernel_rfl) (.eq (.bool true)) (st_move (.tmp 10) rfl x10) ?_
  intro f13 w13 df2 sz2 old2 new2 hb2
  refine ⟨⟨Ob.below hS.1 hb2, Ob.below hS.2.1 hb2, Ob.below hS.2.2 hb2⟩, ?_⟩
  have hS2 := hS
  replace hS := (show Ob w13 g2 33 ((h1 1).map V) ∧ Ob w13 g3 33 ((h1 2).map V) ∧ Ob w13 g4 33 ((h1 3).map V) from ⟨Ob.below hS.1 hb2, Ob.below hS.2.1 hb2, Ob.below hS.2.2 hb2⟩)
  clear hS2
  replace x0 := (old2 0 rfl).trans x0
  replace x1 := (old2 1 rfl).trans x1
  replace x2 := (old2 2 rfl).trans x2
  replace x3 := (old2 3 rfl).trans x3
  replace x4 := (old2 4 rfl).trans x4
  replace x9 := (old2 9 rfl).trans x9
  replace x10 := (old2 10 rfl).trans x10
  have x11 : f13.eval (.tmp 11) = .bool true := new2
  replace hrr := hrr.mono hb2
  replace lt2 := Nat.lt_of_lt_of_le lt2 hb2.size
  replace lt3 := Nat.lt_of_lt_of_le lt3 hb2.size
  replace lt4 := Nat.lt_of_lt_of_le lt4 hb2.size
  replace bl := bl.trans (Below.mono hb2 bl.size)
  replace sz := sz2.trans sz
  replace df := df2.trans df
  clear df2 sz2 old2 new2 hb2
  refine wg_take 3 12 (v := .pointer (some ⟨gr, 0, none⟩)) rfl rfl (by rw [sz]; decide) (want_of rfl rfl x11) (by kernel_rfl) (by kernel_rfl) (by kernel_rfl) (fun _ _ _ h => h) (run_mv rfl x1) hS ?_
  intro f14 df2 sz2 old2 new2
  replace x0 := (old2 0 rfl).trans x0
  replace x1 := (old2 1 rfl).trans x1
  replace x2 := (old2 2 rfl).trans x2
  replace x3 := (old2 3 rfl).trans x3
  replace x4 := (old2 4 rfl).trans x4
  replace x9 := (old2 9 rfl).trans x9
  replace x10 := (old2 10 rfl).trans x10
  replace x11 := (old2 11 rfl).trans x11
  have x12 : f14.eval (.tmp 12) = .pointer (some ⟨gr, 0, none⟩) := new2
  replace sz := sz2.trans sz
  replace df := df2.trans df
  clear df2 sz2 old2 new2
  refine wg_take 4 13 (v := .agg ((h1 1).map V).toArray) rfl rfl (by rw [sz]; decide) (want_of rfl rfl x11) (by kernel_rfl) (by kernel_rfl) (by kernel_rfl) (fun _ _ _ h => h) (run_ldh rfl (h1_len 1) x2 (fun W hW => Ob.range hW.1 0 _ (fun j v hj => by simpa using hj))) hS ?_
  intro f15 df2 sz2 old2 new2
  replace x0 := (old2 0 rfl).trans x0
  replace x1 := (old2 1 rfl).trans x1
  replace x2 := (old2 2 rfl).trans x2
  replace x3 := (old2 3 rfl).trans x3
  replace x4 := (old2 4 rfl).trans x4
  replace x9 := (old2 9 rfl).trans x9
  replace x10 := (old2 10 rfl).trans x10
  replace x11 := (old2 11 rfl).trans x11
  replace x12 := (old2 12 rfl).trans x12
  have x13 : f15.eval (.tmp 13) = .agg ((h1 1).map V).toArray := new2
  replace sz := sz2.trans sz
  replace df := df2.trans df
  clear df2 sz2 old2 new2
  refine wg_take 5 14 (v := .agg ((h1 2).map V).toArray) rfl rfl (by rw [sz]; decide) (want_of rfl rfl x11) (by kernel_rfl) (by kernel_rfl) (by kernel_rfl) (fun _ _ _ h => h) (run_ldh rfl (h1_len 2) x3 (fun W hW => Ob.range hW.2.1 0 _ (fun j v hj => by simpa using hj))) hS ?_
  intro f16 df2 sz2 old2 new2
  replace x0 := (old2 0 rfl).trans x0
  replace x1 := (old2 1 rfl).trans x1
  replace x2 := (old2 2 rfl).trans x2
  replace x3 := (old2 3 rfl).trans x3
  replace x4 := (old2 4 rfl).trans x4
  replace x9 := (old2 9 rfl).trans x9
  replace x10 := (old2 10 rfl).trans x10
  replace x11 := (old2 11 rfl).trans x11
  replace x12 := (old2 12 rfl).trans x12
  replace x13 := (old2 13 rfl).trans x13
  have x14 : f16.eval (.tmp 14) = .agg ((h1 2).map V).toArray := new2
  replace sz := sz2.trans sz
  replace df := df2.trans df
  clear df2 sz2 old2 new2
  refine wg_take 6 15 (v := .agg ((h1 3).map V).toArray) rfl rfl (by rw [sz]; decide) (want_of rfl rfl x11) (by kernel_rfl) (by kernel_rfl) (by kernel_rfl) (fun _ _ _ h => h) (run_ldh rfl (h1_len 3) x4 (fun W hW => Ob.range hW.2.2 0 _ (fun j v hj => by simpa using hj))) hS ?_
  intro f17 df2 sz2 old2 new2
  replace x0 := (old2 0 rfl).trans x0
  replace x1 := (old2 1 rfl).trans x1
  replace x2 := (old2 2 rfl).trans x2
  replace x3 := (old2 3 rfl).trans x3
  replace x4 := (old2 4 rfl).trans x4
  replace x9 := (old2 9 rfl).trans x9
  replace x10 := (old2 10 rfl).trans x10
  replace x11 := (old2 11 rfl).trans x11
  replace x12 := (old2 12 rfl).trans x12
  replace x13 := (old2 13 rfl).trans x13
  replace x14 := (old2 14 rfl).trans x14
  have x15 : f17.eval (.tmp 15) = .agg ((h1 3).map V).toArray := new2
  replace sz := sz2.trans sz
  replace df := df2.trans df
  clear df2 sz2 old2 new2
  have ltB := hrr.lt
  refine wg_step 7 16 rfl rfl (by rw [sz]; decide) (want_of rfl rfl x11) (by kernel_rfl) (.hq (fun b => w13.heap.size ≤ b) ([h1 1, h1 2, h1 3])) (st_b3q (.tmp 13) (.tmp 14) (.tmp 15) rfl x13 x14 x15 _ (Nat.le_refl _)) ?_
  intro f18 w18 df2 sz2 old2 new2 hb2
  refine ⟨⟨Ob.below hS.1 hb2, Ob.below hS.2.1 hb2, Ob.below hS.2.2 hb2⟩, ?_⟩
  have hS2 := hS
  replace hS := (show Ob w18 g2 33 ((h1 1).map V) ∧ Ob w18 g3 33 ((h1 2).map V) ∧ Ob w18 g4 33 ((h1 3).map V) from ⟨Ob.below hS.1 hb2, Ob.below hS.2.1 hb2, Ob.below hS.2.2 hb2⟩)
  clear hS2
  replace x0 := (old2 0 rfl).trans x0
  replace x1 := (old2 1 rfl).trans x1
  replace x2 := (old2 2 rfl).trans x2
  replace x3 := (old2 3 rfl).trans x3
  replace x4 := (old2 4 rfl).trans x4
  replace x9 := (old2 9 rfl).trans x9
  replace x10 := (old2 10 rfl).trans x10
  replace x11 := (old2 11 rfl).trans x11
  replace x12 := (old2 12 rfl).trans x12
  replace x13 := (old2 13 rfl).trans x13
  replace x14 := (old2 14 rfl).trans x14
  replace x15 := (old2 15 rfl).trans x15
  have x16 : Fk.f (.hq (fun b => w13.heap.size ≤ b) ([h1 1, h1 2, h1 3])) (f18.eval (.tmp 16)) w18 := new2
  replace hrr := hrr.mono hb2
  replace lt2 := Nat.lt_of_lt_of_le lt2 hb2.size
  replace lt3 := Nat.lt_of_lt_of_le lt3 hb2.size
  replace lt4 := Nat.lt_of_lt_of_le lt4 hb2.size
  replace bl := bl.trans (Below.mono hb2 bl.size)
  replace sz := sz2.trans sz
  replace df := df2.trans df
  clear df2 sz2 old2 new2 hb2
  obtain ⟨v16, e16⟩ : ∃ v, f18.eval (.tmp 16) = v := ⟨_, rfl⟩
  rw [e16] at x16
  refine wg_call 8 17 rfl rfl (by rw [sz]; decide) (want_of rfl rfl x11) (by kernel_rfl) 9 (.func 9) _ _ #[.pointer (some ⟨gr, 0, none⟩), v16] rfl rfl (arg2 x12 e16) Tryd.enter9 (fun u W' => u = .int .i64 0 ∧ (∃ k', HR W' gr k' 3 [p, h1 3] ∧ (k' = kr ∨ w18.heap.size ≤ k')) ∧ Kp gr kr w18 W') ((c_app_ok hrr x16.1 (by simp) (by simp) (hK.below bl) hgrl (fun h0 => ⟨fun e => by have := x16.2 h0 _ e; omega, fun e => by have := x16.2 h0 _ e; omega⟩) ⟨by have := hK.pos; omega, by have := hK.pos; omega⟩).mono (by rintro e w' ⟨rfl, h1, h2⟩; exact ⟨_, rfl, rfl, h1, h2⟩)) ?_
  intro f19 w19 df2 sz2 old2 hR2
  obtain ⟨x17, ⟨k2, hr2, hk2⟩, hkp⟩ := hR2
  clear x16 e16
  have hS2 : Ob w19 g2 33 ((h1 1).map V) ∧ Ob w19 g3 33 ((h1 2).map V) ∧ Ob w19 g4 33 ((h1 3).map V) := ⟨Ob.kp hS.1 hkp ng2.1 ng2.2, Ob.kp hS.2.1 hkp ng3.1 ng3.2, Ob.kp hS.2.2 hkp ng4.1 ng4.2⟩
  refine ⟨hS2, ?_⟩
  replace hS := hS2
  clear hS2
  replace x0 := (old2 0 rfl).trans x0
  replace x1 := (old2 1 rfl).trans x1
  replace x2 := (old2 2 rfl).trans x2
  replace x3 := (old2 3 rfl).trans x3
  replace x4 := (old2 4 rfl).trans x4
  replace x9 := (old2 9 rfl).trans x9
  replace x10 := (old2 10 rfl).trans x10
  replace x11 := (old2 11 rfl).trans x11
  replace x12 := (old2 12 rfl).trans x12
  replace x13 := (old2 13 rfl).trans x13
  replace x14 := (old2 14 rfl).trans x14
  replace x15 := (old2 15 rfl).trans x15
  replace bl := bl.trans (hkp.below bl.size hgr hkr)
  have hrr2 := hr2
  clear hrr
  have hrr := hrr2
  clear hrr2 hr2
  replace lt2 := Nat.lt_of_lt_of_le lt2 hkp.size
  replace lt3 := Nat.lt_of_lt_of_le lt3 hkp.size
  replace lt4 := Nat.lt_of_lt_of_le lt4 hkp.size
  replace sz := sz2.trans sz
  replace df := df2.trans df
  clear df2 sz2 old2 hkp hk2
  refine wg_step 9 18 rfl rfl (by rw [sz]; decide) (want_of rfl rfl x11) (by kernel_rfl) (.eq (.bool true)) (st_eqi 27 (.tmp 17) (.const (.int .i64 0)) rfl .i64 (0) (0) x17 rfl _ (by rfl)) ?_
  intro f20 w20 df2 sz2 old2 new2 hb2
  refine ⟨⟨Ob.below hS.1 hb2, Ob.below hS.2.1 hb2, Ob.below hS.2.2 hb2⟩, ?_⟩
  have hS2 := hS
  replace hS := (show Ob w20 g2 33 ((h1 1).map V) ∧ Ob w20 g3 33 ((h1 2).map V) ∧ Ob w20 g4 33 ((h1 3).map V) from ⟨Ob.below hS.1 hb2, Ob.below hS.2.1 hb2, Ob.below hS.2.2 hb2⟩)
  clear hS2
  replace x0 := (old2 0 rfl).trans x0
  replace x1 := (old2 1 rfl).trans x1
  replace x2 := (old2 2 rfl).trans x2
  replace x3 := (old2 3 rfl).trans x3
  replace x4 := (old2 4 rfl).trans x4
  replace x9 := (old2 9 rfl).trans x9
  replace x10 := (old2 10 rfl).trans x10
  replace x11 := (old2 11 rfl).trans x11
  replace x12 := (old2 12 rfl).trans x12
  replace x13 := (old2 13 rfl).trans x13
  replace x14 := (old2 14 rfl).trans x14
  replace x15 := (old2 15 rfl).trans x15
  replace x17 := (old2 17 rfl).trans x17
  have x18 : f20.eval (.tmp 18) = .bool true := new2
  replace hrr := hrr.mono hb2
  replace lt2 := Nat.lt_of_lt_of_le lt2 hb2.size
  replace lt3 := Nat.lt_of_lt_of_le lt3 hb2.size
  replace lt4 := Nat.lt_of_lt_of_le lt4 hb2.size
  replace bl := bl.trans (Below.mono hb2 bl.size)
  replace sz := sz2.trans sz
  replace df := df2.trans df
  clear df2 sz2 old2 new2 hb2
  refine wg_step 10 19 rfl rfl (by rw [sz]; decide) (want_none rfl) (by kernel_rfl) (.eq (.bool true)) (st_pick_t (.tmp 11) (.tmp 18) (.const (.bool false)) rfl x11 x18) ?_
  intro f21 w21 df2 sz2 old2 new2 hb2
  refine ⟨⟨Ob.below hS.1 hb2, Ob.below hS.2.1 hb2, Ob.below hS.2.2 hb2⟩, ?_⟩
  have hS2 := hS
  replace hS := (show Ob w21 g2 33 ((h1 1).map V) ∧ Ob w21 g3 33 ((h1 2).map V) ∧ Ob w21 g4 33 ((h1 3).map V) from ⟨Ob.below hS.1 hb2, Ob.below hS.2.1 hb2, Ob.below hS.2.2 hb2⟩)
  clear hS2
  replace x0 := (old2 0 rfl).trans x0
  replace x1 := (old2 1 rfl).trans x1
  replace x2 := (old2 2 rfl).trans x2
  replace x3 := (old2 3 rfl).trans x3
  replace x4 := (old2 4 rfl).trans x4
  replace x9 := (old2 9 rfl).trans x9
  replace x10 := (old2 10 rfl).trans x10
  replace x11 := (old2 11 rfl).trans x11
  replace x12 := (old2 12 rfl).trans x12
  replace x13 := (old2 13 rfl).trans x13
  replace x14 := (old2 14 rfl).trans x14
  replace x15 := (old2 15 rfl).trans x15
  replace x17 := (old2 17 rfl).trans x17
  replace x18 := (old2 18 rfl).trans x18
  have x19 : f21.eval (.tmp 19) = .bool true := new2
  replace hrr := hrr.mono hb2
  replace lt2 := Nat.lt_of_lt_of_le lt2 hb2.size
  replace lt3 := Nat.lt_of_lt_of_le lt3 hb2.size
  replace lt4 := Nat.lt_of_lt_of_le lt4 hb2.size
  replace bl := bl.trans (Below.mono hb2 bl.size)
  replace sz := sz2.trans sz
  replace df := df2.trans df
  clear df2 sz2 old2 new2 hb2
  refine wg_step 11 20 rfl rfl (by rw [sz]; decide) (want_none rfl) (by kernel_rfl) (.eq (.bool true)) (st_move (.tmp 19) rfl x19) ?_
  intro f22 w22 df2 sz2 old2 new2 hb2
  refine ⟨⟨Ob.below hS.1 hb2, Ob.below hS.2.1 hb2, Ob.below hS.2.2 hb2⟩, ?_⟩
  have hS2 := hS
  replace hS := (show Ob w22 g2 33 ((h1 1).map V) ∧ Ob w22 g3 33 ((h1 2).map V) ∧ Ob w22 g4 33 ((h1 3).map V) from ⟨Ob.below hS.1 hb2, Ob.below hS.2.1 hb2, Ob.below hS.2.2 hb2⟩)
  clear hS2
  replace x0 := (old2 0 rfl).trans x0
  replace x1 := (old2 1 rfl).trans x1
  replace x2 := (old2 2 rfl).trans x2
  replace x3 := (old2 3 rfl).trans x3
  replace x4 := (old2 4 rfl).trans x4
  replace x9 := (old2 9 rfl).trans x9
  replace x10 := (old2 10 rfl).trans x10
  replace x11 := (old2 11 rfl).trans x11
  replace x12 := (old2 12 rfl).trans x12
  replace x13 := (old2 13 rfl).trans x13
  replace x14 := (old2 14 rfl).trans x14
  replace x15 := (old2 15 rfl).trans x15
  replace x17 := (old2 17 rfl).trans x17
  replace x18 := (old2 18 rfl).trans x18
  replace x19 := (old2 19 rfl).trans x19
  have x20 : f22.eval (.tmp 20) = .bool true := new2
  replace hrr := hrr.mono hb2
  replace lt2 := Nat.lt_of_lt_of_le lt2 hb2.size
  replace lt3 := Nat.lt_of_lt_of_le lt3 hb2.size
  replace lt4 := Nat.lt_of_lt_of_le lt4 hb2.size
  replace bl := bl.trans (Below.mono hb2 bl.size)
  replace sz := sz2.trans sz
  replace df := df2.trans df
  clear df2 sz2 old2 new2 hb2
  refine wg_step 12 21 rfl rfl (by rw [sz]; decide) (want_of rfl rfl x20) (by kernel_rfl) (.eq (.pointer (some ⟨gr, 0, none⟩))) (st_move (.tmp 1) rfl x1) ?_
  intro f23 w23 df2 sz2 old2 new2 hb2
  refine ⟨⟨Ob.below hS.1 hb2, Ob.below hS.2.1 hb2, Ob.below hS.2.2 hb2⟩, ?_⟩
  have hS2 := hS
  replace hS := (show Ob w23 g2 33 ((h1 1).map V) ∧ Ob w23 g3 33 ((h1 2).map V) ∧ Ob w23 g4 33 ((h1 3).map V) from ⟨Ob.below hS.1 hb2, Ob.below hS.2.1 hb2, Ob.below hS.2.2 hb2⟩)
  clear hS2
  replace x0 := (old2 0 rfl).trans x0
  replace x1 := (old2 1 rfl).trans x1
  replace x2 := (old2 2 rfl).trans x2
  replace x3 := (old2 3 rfl).trans x3
  replace x4 := (old2 4 rfl).trans x4
  replace x9 := (old2 9 rfl).trans x9
  replace x10 := (old2 10 rfl).trans x10
  replace x11 := (old2 11 rfl).trans x11
  replace x12 := (old2 12 rfl).trans x12
  replace x13 := (old2 13 rfl).trans x13
  replace x14 := (old2 14 rfl).trans x14
  replace x15 := (old2 15 rfl).trans x15
  replace x17 := (old2 17 rfl).trans x17
  replace x18 := (old2 18 rfl).trans x18
  replace x19 := (old2 19 rfl).trans x19
  replace x20 := (old2 20 rfl).trans x20
  have x21 : f23.eval (.tmp 21) = .pointer (some ⟨gr, 0, none⟩) := new2
  replace hrr := hrr.mono hb2
  replace lt2 := Nat.lt_of_lt_of_le lt2 hb2.size
  replace lt3 := Nat.lt_of_lt_of_le lt3 hb2.size
  replace lt4 := Nat.lt_of_lt_of_le lt4 hb2.size
  replace bl := bl.trans (Below.mono hb2 bl.size)
  replace sz := sz2.trans sz
  replace df := df2.trans df
  clear df2 sz2 old2 new2 hb2
  refine wg_step 13 22 rfl rfl (by rw [sz]; decide) (want_of rfl rfl x20) (by kernel_rfl) (.eq (.int .i64 3)) (st_call 12 (.func 12) _ _ #[.pointer (some ⟨gr, 0, none⟩)] rfl rfl (one_arg x21) Tryd.enter12 (fk_size hrr)) ?_
  intro f24 w24 df2 sz2 old2 new2 hb2
  refine ⟨⟨Ob.below hS.1 hb2, Ob.below hS.2.1 hb2, Ob.below hS.2.2 hb2⟩, ?_⟩
  have hS2 := hS
  replace hS := (show Ob w24 g2 33 ((h1 1).map V) ∧ Ob w24 g3 33 ((h1 2).map V) ∧ Ob w24 g4 33 ((h1 3).map V) from ⟨Ob.below hS.1 hb2, Ob.below hS.2.1 hb2, Ob.below hS.2.2 hb2⟩)
  clear hS2
  replace x0 := (old2 0 rfl).trans x0
  replace x1 := (old2 1 rfl).trans x1
  replace x2 := (old2 2 rfl).trans x2
  replace x3 := (old2 3 rfl).trans x3
  replace x4 := (old2 4 rfl).trans x4
  replace x9 := (old2 9 rfl).trans x9
  replace x10 := (old2 10 rfl).trans x10
  replace x11 := (old2 11 rfl).trans x11
  replace x12 := (old2 12 rfl).trans x12
  replace x13 := (old2 13 rfl).trans x13
  replace x14 := (old2 14 rfl).trans x14
  replace x15 := (old2 15 rfl).trans x15
  replace x17 := (old2 17 rfl).trans x17
  replace x18 := (old2 18 rfl).trans x18
  replace x19 := (old2 19 rfl).trans x19
  replace x20 := (old2 20 rfl).trans x20
  replace x21 := (old2 21 rfl).trans x21
  have x22 : f24.eval (.tmp 22) = .int .i64 3 := new2
  replace hrr := hrr.mono hb2
  replace lt2 := Nat.lt_of_lt_of_le lt2 hb2.size
  replace lt3 := Nat.lt_of_lt_of_le lt3 hb2.size
  replace lt4 := Nat.lt_of_lt_of_le lt4 hb2.size
  replace bl := bl.trans (Below.mono hb2 bl.size)
  replace sz := sz2.trans sz
  replace df := df2.trans df
  clear df2 sz2 old2 new2 hb2
  refine wg_step 14 23 rfl rfl (by rw [sz]; decide) (want_of rfl rfl x20) (by kernel_rfl) (.eq (.bool true)) (st_eqi 3 (.tmp 22) (.const (.int .i64 3)) rfl .i64 (3) (3) x22 rfl _ (by rfl)) ?_
  intro f25 w25 df2 sz2 old2 new2 hb2
  refine ⟨⟨Ob.below hS.1 hb2, Ob.below hS.2.1 hb2, Ob.below hS.2.2 hb2⟩, ?_⟩
  have hS2 := hS
  replace hS := (show Ob w25 g2 33 ((h1 1).map V) ∧ Ob w25 g3 33 ((h1 2).map V) ∧ Ob w25 g4 33 ((h1 3).map V) from ⟨Ob.below hS.1 hb2, Ob.below hS.2.1 hb2, Ob.below hS.2.2 hb2⟩)
  clear hS2
  replace x0 := (old2 0 rfl).trans x0
  replace x1 := (old2 1 rfl).trans x1
  replace x2 := (old2 2 rfl).trans x2
  replace x3 := (old2 3 rfl).trans x3
  replace x4 := (old2 4 rfl).trans x4
  replace x9 := (old2 9 rfl).trans x9
  replace x10 := (old2 10 rfl).trans x10
  replace x11 := (old2 11 rfl).trans x11
  replace x12 := (old2 12 rfl).trans x12
  replace x13 := (old2 13 rfl).trans x13
  replace x14 := (old2 14 rfl).trans x14
  replace x15 := (old2 15 rfl).trans x15
  replace x17 := (old2 17 rfl).trans x17
  replace x18 := (old2 18 rfl).trans x18
  replace x19 := (old2 19 rfl).trans x19
  replace x20 := (old2 20 rfl).trans x20
  replace x21 := (old2 21 rfl).trans x21
  replace x22 := (old2 22 rfl).trans x22
  have x23 : f25.eval (.tmp 23) = .bool true := new2
  replace hrr := hrr.mono hb2
  replace lt2 := Nat.lt_of_lt_of_le lt2 hb2.size
  replace lt3 := Nat.lt_of_lt_of_le lt3 hb2.size
  replace lt4 := Nat.lt_of_lt_of_le lt4 hb2.size
  replace bl := bl.trans (Below.mono hb2 bl.size)
  replace sz := sz2.trans sz
  replace df := df2.trans df
  clear df2 sz2 old2 new2 hb2
  refine wg_step 15 24 rfl rfl (by rw [sz]; decide) (want_none rfl) (by kernel_rfl) (.eq (.bool true)) (st_pick_t (.tmp 20) (.tmp 23) (.const (.bool false)) rfl x20 x23) ?_
  intro f26 w26 df2 sz2 old2 new2 hb2
  refine ⟨⟨Ob.below hS.1 hb2, Ob.below hS.2.1 hb2, Ob.below hS.2.2 hb2⟩, ?_⟩
  have hS2 := hS
  replace hS := (show Ob w26 g2 33 ((h1 1).map V) ∧ Ob w26 g3 33 ((h1 2).map V) ∧ Ob w26 g4 33 ((h1 3).map V) from ⟨Ob.below hS.1 hb2, Ob.below hS.2.1 hb2, Ob.below hS.2.2 hb2⟩)
  clear hS2
  replace x0 := (old2 0 rfl).trans x0
  replace x1 := (old2 1 rfl).trans x1
  replace x2 := (old2 2 rfl).trans x2
  replace x3 := (old2 3 rfl).trans x3
  replace x4 := (old2 4 rfl).trans x4
  replace x9 := (old2 9 rfl).trans x9
  replace x10 := (old2 10 rfl).trans x10
  replace x11 := (old2 11 rfl).trans x11
  replace x12 := (old2 12 rfl).trans x12
  replace x13 := (old2 13 rfl).trans x13
  replace x14 := (old2 14 rfl).trans x14
  replace x15 := (old2 15 rfl).trans x15
  replace x17 := (old2 17 rfl).trans x17
  replace x18 := (old2 18 rfl).trans x18
  replace x19 := (old2 19 rfl).trans x19
  replace x20 := (old2 20 rfl).trans x20
  replace x21 := (old2 21 rfl).trans x21
  replace x22 := (old2 22 rfl).trans x22
  replace x23 := (old2 23 rfl).trans x23
  have x24 : f26.eval (.tmp 24) = .bool true := new2
  replace hrr := hrr.mono hb2
  replace lt2 := Nat.lt_of_lt_of_le lt2 hb2.size
  replace lt3 := Nat.lt_of_lt_of_le lt3 hb2.size
  replace lt4 := Nat.lt_of_lt_of_le lt4 hb2.size
  replace bl := bl.trans (Below.mono hb2 bl.size)
  replace sz := sz2.trans sz
  replace df := df2.trans df
  clear df2 sz2 old2 new2 hb2
  refine wg_step 16 25 rfl rfl (by rw [sz]; decide) (want_none rfl) (by kernel_rfl) (.eq (.bool true)) (st_move (.tmp 24) rfl x24) ?_
  intro f27 w27 df2 sz2 old2 new2 hb2
  refine ⟨⟨Ob.below hS.1 hb2, Ob.below hS.2.1 hb2, Ob.below hS.2.2 hb2⟩, ?_⟩
  have hS2 := hS
  replace hS := (show Ob w27 g2 33 ((h1 1).map V) ∧ Ob w27 g3 33 ((h1 2).map V) ∧ Ob w27 g4 33 ((h1 3).map V) from ⟨Ob.below hS.1 hb2, Ob.below hS.2.1 hb2, Ob.below hS.2.2 hb2⟩)
  clear hS2
  replace x0 := (old2 0 rfl).trans x0
  replace x1 := (old2 1 rfl).trans x1
  replace x2 := (old2 2 rfl).trans x2
  replace x3 := (old2 3 rfl).trans x3
  replace x4 := (old2 4 rfl).trans x4
  replace x9 := (old2 9 rfl).trans x9
  replace x10 := (old2 10 rfl).trans x10
  replace x11 := (old2 11 rfl).trans x11
  replace x12 := (old2 12 rfl).trans x12
  replace x13 := (old2 13 rfl).trans x13
  replace x14 := (old2 14 rfl).trans x14
  replace x15 := (old2 15 rfl).trans x15
  replace x17 := (old2 17 rfl).trans x17
  replace x18 := (old2 18 rfl).trans x18
  replace x19 := (old2 19 rfl).trans x19
  replace x20 := (old2 20 rfl).trans x20
  replace x21 := (old2 21 rfl).trans x21
  replace x22 := (old2 22 rfl).trans x22
  replace x23 := (old2 23 rfl).trans x23
  replace x24 := (old2 24 rfl).trans x24
  have x25 : f27.eval (.tmp 25) = .bool true := new2
  replace hrr := hrr.mono hb2
  replace lt2 := Nat.lt_of_lt_of_le lt2 hb2.size
  replace lt3 := Nat.lt_of_lt_of_le lt3 hb2.size
  replace lt4 := Nat.lt_of_lt_of_le lt4 hb2.size
  replace bl := bl.trans (Below.mono hb2 bl.size)
  replace sz := sz2.trans sz
  replace df := df2.trans df
  clear df2 sz2 old2 new2 hb2
  refine wg_step 17 26 rfl rfl (by rw [sz]; decide) (want_of rfl rfl x25) (by kernel_rfl) (.eq (.pointer (some ⟨gr, 0, none⟩))) (st_move (.tmp 1) rfl x1) ?_
  intro f28 w28 df2 sz2 old2 new2 hb2
  refine ⟨⟨Ob.below hS.1 hb2, Ob.below hS.2.1 hb2, Ob.below hS.2.2 hb2⟩, ?_⟩
  have hS2 := hS
  replace hS := (show Ob w28 g2 33 ((h1 1).map V) ∧ Ob w28 g3 33 ((h1 2).map V) ∧ Ob w28 g4 33 ((h1 3).map V) from ⟨Ob.below hS.1 hb2, Ob.below hS.2.1 hb2, Ob.below hS.2.2 hb2⟩)
  clear hS2
  replace x0 := (old2 0 rfl).trans x0
  replace x1 := (old2 1 rfl).trans x1
  replace x2 := (old2 2 rfl).trans x2
  replace x3 := (old2 3 rfl).trans x3
  replace x4 := (old2 4 rfl).trans x4
  replace x9 := (old2 9 rfl).trans x9
  replace x10 := (old2 10 rfl).trans x10
  replace x11 := (old2 11 rfl).trans x11
  replace x12 := (old2 12 rfl).trans x12
  replace x13 := (old2 13 rfl).trans x13
  replace x14 := (old2 14 rfl).trans x14
  replace x15 := (old2 15 rfl).trans x15
  replace x17 := (old2 17 rfl).trans x17
  replace x18 := (old2 18 rfl).trans x18
  replace x19 := (old2 19 rfl).trans x19
  replace x20 := (old2 20 rfl).trans x20
  replace x21 := (old2 21 rfl).trans x21
  replace x22 := (old2 22 rfl).trans x22
  replace x23 := (old2 23 rfl).trans x23
  replace x24 := (old2 24 rfl).trans x24
  replace x25 := (old2 25 rfl).trans x25
  have x26 : f28.eval (.tmp 26) = .pointer (some ⟨gr, 0, none⟩) := new2
  replace hrr := hrr.mono hb2
  replace lt2 := Nat.lt_of_lt_of_le lt2 hb2.size
  replace lt3 := Nat.lt_of_lt_of_le lt3 hb2.size
  replace lt4 := Nat.lt_of_lt_of_le lt4 hb2.size
  replace bl := bl.trans (Below.mono hb2 bl.size)
  replace sz := sz2.trans sz
  replace df := df2.trans df
  clear df2 sz2 old2 new2 hb2
  refine wg_step 18 27 rfl rfl (by rw [sz]; decide) (want_of rfl rfl x25) (by kernel_rfl) (.ow w28.heap.size ([p, h1 3])) (st_call 14 (.func 14) _ _ #[.pointer (some ⟨gr, 0, none⟩)] rfl rfl (one_arg x26) Tryd.enter14 (fk_peaks hrr)) ?_
  intro f29 w29 df2 sz2 old2 new2 hb2
  refine ⟨⟨Ob.below hS.1 hb2, Ob.below hS.2.1 hb2, Ob.below hS.2.2 hb2⟩, ?_⟩
  have hS2 := hS
  replace hS := (show Ob w29 g2 33 ((h1 1).map V) ∧ Ob w29 g3 33 ((h1 2).map V) ∧ Ob w29 g4 33 ((h1 3).map V) from ⟨Ob.below hS.1 hb2, Ob.below hS.2.1 hb2, Ob.below hS.2.2 hb2⟩)
  clear hS2
  replace x0 := (old2 0 rfl).trans x0
  replace x1 := (old2 1 rfl).trans x1
  replace x2 := (old2 2 rfl).trans x2
  replace x3 := (old2 3 rfl).trans x3
  replace x4 := (old2 4 rfl).trans x4
  replace x9 := (old2 9 rfl).trans x9
  replace x10 := (old2 10 rfl).trans x10
  replace x11 := (old2 11 rfl).trans x11
  replace x12 := (old2 12 rfl).trans x12
  replace x13 := (old2 13 rfl).trans x13
  replace x14 := (old2 14 rfl).trans x14
  replace x15 := (old2 15 rfl).trans x15
  replace x17 := (old2 17 rfl).trans x17
  replace x18 := (old2 18 rfl).trans x18
  replace x19 := (old2 19 rfl).trans x19
  replace x20 := (old2 20 rfl).trans x20
  replace x21 := (old2 21 rfl).trans x21
  replace x22 := (old2 22 rfl).trans x22
  replace x23 := (old2 23 rfl).trans x23
  replace x24 := (old2 24 rfl).trans x24
  replace x25 := (old2 25 rfl).trans x25
  replace x26 := (old2 26 rfl).trans x26
  have x27 : Fk.f (.ow w28.heap.size ([p, h1 3])) (f29.eval (.tmp 27)) w29 := new2
  replace hrr := hrr.mono hb2
  replace lt2 := Nat.lt_of_lt_of_le lt2 hb2.size
  replace lt3 := Nat.lt_of_lt_of_le lt3 hb2.size
  replace lt4 := Nat.lt_of_lt_of_le lt4 hb2.size
  replace bl := bl.trans (Below.mono hb2 bl.size)
  replace sz := sz2.trans sz
  replace df := df2.trans df
  clear df2 sz2 old2 new2 hb2
  refine wg_step 19 28 rfl rfl (by rw [sz]; decide) (want_of rfl rfl x25) (by kernel_rfl) (.eq (.int .i64 2)) (st_lenc (.tmp 27) rfl 2 rfl (ow_hc x27)) ?_
  intro f30 w30 df2 sz2 old2 new2 hb2
  refine ⟨⟨Ob.below hS.1 hb2, Ob.below hS.2.1 hb2, Ob.below hS.2.2 hb2⟩, ?_⟩
  have hS2 := hS
  replace hS := (show Ob w30 g2 33 ((h1 1).map V) ∧ Ob w30 g3 33 ((h1 2).map V) ∧ Ob w30 g4 33 ((h1 3).map V) from ⟨Ob.below hS.1 hb2, Ob.below hS.2.1 hb2, Ob.below hS.2.2 hb2⟩)
  clear hS2
  replace x0 := (old2 0 rfl).trans x0
  replace x1 := (old2 1 rfl).trans x1
  replace x2 := (old2 2 rfl).trans x2
  replace x3 := (old2 3 rfl).trans x3
  replace x4 := (old2 4 rfl).trans x4
  replace x9 := (old2 9 rfl).trans x9
  replace x10 := (old2 10 rfl).trans x10
  replace x11 := (old2 11 rfl).trans x11
  replace x12 := (old2 12 rfl).trans x12
  replace x13 := (old2 13 rfl).trans x13
  replace x14 := (old2 14 rfl).trans x14
  replace x15 := (old2 15 rfl).trans x15
  replace x17 := (old2 17 rfl).trans x17
  replace x18 := (old2 18 rfl).trans x18
  replace x19 := (old2 19 rfl).trans x19
  replace x20 := (old2 20 rfl).trans x20
  replace x21 := (old2 21 rfl).trans x21
  replace x22 := (old2 22 rfl).trans x22
  replace x23 := (old2 23 rfl).trans x23
  replace x24 := (old2 24 rfl).trans x24
  replace x25 := (old2 25 rfl).trans x25
  replace x26 := (old2 26 rfl).trans x26
  replace x27 := f_at (old2 27 rfl) (Fk.mono _ _ _ _ x27 hb2)
  have x28 : f30.eval (.tmp 28) = .int .i64 2 := new2
  replace hrr := hrr.mono hb2
  replace lt2 := Nat.lt_of_lt_of_le lt2 hb2.size
  replace lt3 := Nat.lt_of_lt_of_le lt3 hb2.size
  replace lt4 := Nat.lt_of_lt_of_le lt4 hb2.size
  replace bl := bl.trans (Below.mono hb2 bl.size)
  replace sz := sz2.trans sz
  replace df := df2.trans df
  clear df2 sz2 old2 new2 hb2
  clear x27
  refine wg_step 20 29 rfl rfl (by rw [sz]; decide) (want_of rfl rfl x25) (by kernel_rfl) (.eq (.bool true)) (st_eqi 3 (.tmp 28) (.const (.int .i64 2)) rfl .i64 (2) (2) x28 rfl _ (by rfl)) ?_
  intro f31 w31 df2 sz2 old2 new2 hb2
  refine ⟨⟨Ob.below hS.1 hb2, Ob.below hS.2.1 hb2, Ob.below hS.2.2 hb2⟩, ?_⟩
  have hS2 := hS
  replace hS := (show Ob w31 g2 33 ((h1 1).map V) ∧ Ob w31 g3 33 ((h1 2).map V) ∧ Ob w31 g4 33 ((h1 3).map V) from ⟨Ob.below hS.1 hb2, Ob.below hS.2.1 hb2, Ob.below hS.2.2 hb2⟩)
  clear hS2
  replace x0 := (old2 0 rfl).trans x0
  replace x1 := (old2 1 rfl).trans x1
  replace x2 := (old2 2 rfl).trans x2
  replace x3 := (old2 3 rfl).trans x3
  replace x4 := (old2 4 rfl).trans x4
  replace x9 := (old2 9 rfl).trans x9
  replace x10 := (old2 10 rfl).trans x10
  replace x11 := (old2 11 rfl).trans x11
  replace x12 := (old2 12 rfl).trans x12
  replace x13 := (old2 13 rfl).trans x13
  replace x14 := (old2 14 rfl).trans x14
  replace x15 := (old2 15 rfl).trans x15
  replace x17 := (old2 17 rfl).trans x17
  replace x18 := (old2 18 rfl).trans x18
  replace x19 := (old2 19 rfl).trans x19
  replace x20 := (old2 20 rfl).trans x20
  replace x21 := (old2 21 rfl).trans x21
  replace x22 := (old2 22 rfl).trans x22
  replace x23 := (old2 23 rfl).trans x23
  replace x24 := (old2 24 rfl).trans x24
  replace x25 := (old2 25 rfl).trans x25
  replace x26 := (old2 26 rfl).trans x26
  replace x28 := (old2 28 rfl).trans x28
  have x29 : f31.eval (.tmp 29) = .bool true := new2
  replace hrr := hrr.mono hb2
  replace lt2 := Nat.lt_of_lt_of_le lt2 hb2.size
  replace lt3 := Nat.lt_of_lt_of_le lt3 hb2.size
  replace lt4 := Nat.lt_of_lt_of_le lt4 hb2.size
  replace bl := bl.trans (Below.mono hb2 bl.size)
  replace sz := sz2.trans sz
  replace df := df2.trans df
  clear df2 sz2 old2 new2 hb2
  refine wg_step 21 30 rfl rfl (by rw [sz]; decide) (want_none rfl) (by kernel_rfl) (.eq (.bool true)) (st_pick_t (.tmp 25) (.tmp 29) (.const (.bool false)) rfl x25 x29) ?_
  intro f32 w32 df2 sz2 old2 new2 hb2
  refine ⟨⟨Ob.below hS.1 hb2, Ob.below hS.2.1 hb2, Ob.below hS.2.2 hb2⟩, ?_⟩
  have hS2 := hS
  replace hS := (show Ob w32 g2 33 ((h1 1).map V) ∧ Ob w32 g3 33 ((h1 2).map V) ∧ Ob w32 g4 33 ((h1 3).map V) from ⟨Ob.below hS.1 hb2, Ob.below hS.2.1 hb2, Ob.below hS.2.2 hb2⟩)
  clear hS2
  replace x0 := (old2 0 rfl).trans x0
  replace x1 := (old2 1 rfl).trans x1
  replace x2 := (old2 2 rfl).trans x2
  replace x3 := (old2 3 rfl).trans x3
  replace x4 := (old2 4 rfl).trans x4
  replace x9 := (old2 9 rfl).trans x9
  replace x10 := (old2 10 rfl).trans x10
  replace x11 := (old2 11 rfl).trans x11
  replace x12 := (old2 12 rfl).trans x12
  replace x13 := (old2 13 rfl).trans x13
  replace x14 := (old2 14 rfl).trans x14
  replace x15 := (old2 15 rfl).trans x15
  replace x17 := (old2 17 rfl).trans x17
  replace x18 := (old2 18 rfl).trans x18
  replace x19 := (old2 19 rfl).trans x19
  replace x20 := (old2 20 rfl).trans x20
  replace x21 := (old2 21 rfl).trans x21
  replace x22 := (old2 22 rfl).trans x22
  replace x23 := (old2 23 rfl).trans x23
  replace x24 := (old2 24 rfl).trans x24
  replace x25 := (old2 25 rfl).trans x25
  replace x26 := (old2 26 rfl).trans x26
  replace x28 := (old2 28 rfl).trans x28
  replace x29 := (old2 29 rfl).trans x29
  have x30 : f32.eval (.tmp 30) = .bool true := new2
  replace hrr := hrr.mono hb2
  replace lt2 := Nat.lt_of_lt_of_le lt2 hb2.size
  replace lt3 := Nat.lt_of_lt_of_le lt3 hb2.size
  replace lt4 := Nat.lt_of_lt_of_le lt4 hb2.size
  replace bl := bl.trans (Below.mono hb2 bl.size)
  replace sz := sz2.trans sz
  replace df := df2.trans df
  clear df2 sz2 old2 new2 hb2
  refine wg_step 22 31 rfl rfl (by rw [sz]; decide) (want_none rfl) (by kernel_rfl) (.eq (.bool true)) (st_move (.tmp 30) rfl x30) ?_
  intro f33 w33 df2 sz2 old2 new2 hb2
  refine ⟨⟨Ob.below hS.1 hb2, Ob.below hS.2.1 hb2, Ob.below hS.2.2 hb2⟩, ?_⟩
  have hS2 := hS
  replace hS := (show Ob w33 g2 33 ((h1 1).map V) ∧ Ob w33 g3 33 ((h1 2).map V) ∧ Ob w33 g4 33 ((h1 3).map V) from ⟨Ob.below hS.1 hb2, Ob.below hS.2.1 hb2, Ob.below hS.2.2 hb2⟩)
  clear hS2
  replace x0 := (old2 0 rfl).trans x0
  replace x1 := (old2 1 rfl).trans x1
  replace x2 := (old2 2 rfl).trans x2
  replace x3 := (old2 3 rfl).trans x3
  replace x4 := (old2 4 rfl).trans x4
  replace x9 := (old2 9 rfl).trans x9
  replace x10 := (old2 10 rfl).trans x10
  replace x11 := (old2 11 rfl).trans x11
  replace x12 := (old2 12 rfl).trans x12
  replace x13 := (old2 13 rfl).trans x13
  replace x14 := (old2 14 rfl).trans x14
  replace x15 := (old2 15 rfl).trans x15
  replace x17 := (old2 17 rfl).trans x17
  replace x18 := (old2 18 rfl).trans x18
  replace x19 := (old2 19 rfl).trans x19
  replace x20 := (old2 20 rfl).trans x20
  replace x21 := (old2 21 rfl).trans x21
  replace x22 := (old2 22 rfl).trans x22
  replace x23 := (old2 23 rfl).trans x23
  replace x24 := (old2 24 rfl).trans x24
  replace x25 := (old2 25 rfl).trans x25
  replace x26 := (old2 26 rfl).trans x26
  replace x28 := (old2 28 rfl).trans x28
  replace x29 := (old2 29 rfl).trans x29
  replace x30 := (old2 30 rfl).trans x30
  have x31 : f33.eval (.tmp 31) = .bool true := new2
  replace hrr := hrr.mono hb2
  replace lt2 := Nat.lt_of_lt_of_le lt2 hb2.size
  replace lt3 := Nat.lt_of_lt_of_le lt3 hb2.size
  replace lt4 := Nat.lt_of_lt_of_le lt4 hb2.size
  replace bl := bl.trans (Below.mono hb2 bl.size)
  replace sz := sz2.trans sz
  replace df := df2.trans df
  clear df2 sz2 old2 new2 hb2
  refine wg_take 23 32 (v := .pointer (some ⟨gr, 0, none⟩)) rfl rfl (by rw [sz]; decide) (want_of rfl rfl x31) (by kernel_rfl) (by kernel_rfl) (by kernel_rfl) (fun _ _ _ h => h) (run_mv rfl x1) hS ?_
  intro f34 df2 sz2 old2 new2
  replace x0 := (old2 0 rfl).trans x0
  replace x1 := (old2 1 rfl).trans x1
  replace x2 := (old2 2 rfl).trans x2
  replace x3 := (old2 3 rfl).trans x3
  replace x4 := (old2 4 rfl).trans x4
  replace x9 := (old2 9 rfl).trans x9
  replace x10 := (old2 10 rfl).trans x10
  replace x11 := (old2 11 rfl).trans x11
  replace x12 := (old2 12 rfl).trans x12
  replace x13 := (old2 13 rfl).trans x13
  replace x14 := (old2 14 rfl).trans x14
  replace x15 := (old2 15 rfl).trans x15
  replace x17 := (old2 17 rfl).trans x17
  replace x18 := (old2 18 rfl).trans x18
  replace x19 := (old2 19 rfl).trans x19
  replace x20 := (old2 20 rfl).trans x20
  replace x21 := (old2 21 rfl).trans x21
  replace x22 := (old2 22 rfl).trans x22
  replace x23 := (old2 23 rfl).trans x23
  replace x24 := (old2 24 rfl).trans x24
  replace x25 := (old2 25 rfl).trans x25
  replace x26 := (old2 26 rfl).trans x26
  replace x28 := (old2 28 rfl).trans x28
  replace x29 := (old2 29 rfl).trans x29
  replace x30 := (old2 30 rfl).trans x30
  replace x31 := (old2 31 rfl).trans x31
  have x32 : f34.eval (.tmp 32) = .pointer (some ⟨gr, 0, none⟩) := new2
  replace sz := sz2.trans sz
  replace df := df2.trans df
  clear df2 sz2 old2 new2
  refine wg_take 25 34 (v := .agg ((h1 1).map V).toArray) rfl rfl (by rw [sz]; decide) (want_of rfl rfl x31) (by kernel_rfl) (by kernel_rfl) (by kernel_rfl) (fun _ _ _ h => h) (run_ldh rfl (h1_len 1) x2 (fun W hW => Ob.range hW.1 0 _ (fun j v hj => by simpa using hj))) hS ?_
  intro f35 df2 sz2 old2 new2
  replace x0 := (old2 0 rfl).trans x0
  replace x1 := (old2 1 rfl).trans x1
  replace x2 := (old2 2 rfl).trans x2
  replace x3 := (old2 3 rfl).trans x3
  replace x4 := (old2 4 rfl).trans x4
  replace x9 := (old2 9 rfl).trans x9
  replace x10 := (old2 10 rfl).trans x10
  replace x11 := (old2 11 rfl).trans x11
  replace x12 := (old2 12 rfl).trans x12
  replace x13 := (old2 13 rfl).trans x13
  replace x14 := (old2 14 rfl).trans x14
  replace x15 := (old2 15 rfl).trans x15
  replace x17 := (old2 17 rfl).trans x17
  replace x18 := (old2 18 rfl).trans x18
  replace x19 := (old2 19 rfl).trans x19
  replace x20 := (old2 20 rfl).trans x20
  replace x21 := (old2 21 rfl).trans x21
  replace x22 := (old2 22 rfl).trans x22
  replace x23 := (old2 23 rfl).trans x23
  replace x24 := (old2 24 rfl).trans x24
  replace x25 := (old2 25 rfl).trans x25
  replace x26 := (old2 26 rfl).trans x26
  replace x28 := (old2 28 rfl).trans x28
  replace x29 := (old2 29 rfl).trans x29
  replace x30 := (old2 30 rfl).trans x30
  replace x31 := (old2 31 rfl).trans x31
  replace x32 := (old2 32 rfl).trans x32
  have x34 : f35.eval (.tmp 34) = .agg ((h1 1).map V).toArray := new2
  replace sz := sz2.trans sz
  replace df := df2.trans df
  clear df2 sz2 old2 new2
  refine wg_take 26 35 (v := .agg ((h1 2).map V).toArray) rfl rfl (by rw [sz]; decide) (want_of rfl rfl x31) (by kernel_rfl) (by kernel_rfl) (by kernel_rfl) (fun _ _ _ h => h) (run_ldh rfl (h1_len 2) x3 (fun W hW => Ob.range hW.2.1 0 _ (fun j v hj => by simpa using hj))) hS ?_
  intro f36 df2 sz2 old2 new2
  replace x0 := (old2 0 rfl).trans x0
  replace x1 := (old2 1 rfl).trans x1
  replace x2 := (old2 2 rfl).trans x2
  replace x3 := (old2 3 rfl).trans x3
  replace x4 := (old2 4 rfl).trans x4
  replace x9 := (old2 9 rfl).trans x9
  replace x10 := (old2 10 rfl).trans x10
  replace x11 := (old2 11 rfl).trans x11
  replace x12 := (old2 12 rfl).trans x12
  replace x13 := (old2 13 rfl).trans x13
  replace x14 := (old2 14 rfl).trans x14
  replace x15 := (old2 15 rfl).trans x15
  replace x17 := (old2 17 rfl).trans x17
  replace x18 := (old2 18 rfl).trans x18
  replace x19 := (old2 19 rfl).trans x19
  replace x20 := (old2 20 rfl).trans x20
  replace x21 := (old2 21 rfl).trans x21
  replace x22 := (old2 22 rfl).trans x22
  replace x23 := (old2 23 rfl).trans x23
  replace x24 := (old2 24 rfl).trans x24
  replace x25 := (old2 25 rfl).trans x25
  replace x26 := (old2 26 rfl).trans x26
  replace x28 := (old2 28 rfl).trans x28
  replace x29 := (old2 29 rfl).trans x29
  replace x30 := (old2 30 rfl).trans x30
  replace x31 := (old2 31 rfl).trans x31
  replace x32 := (old2 32 rfl).trans x32
  replace x34 := (old2 34 rfl).trans x34
  have x35 : f36.eval (.tmp 35) = .agg ((h1 2).map V).toArray := new2
  replace sz := sz2.trans sz
  replace df := df2.trans df
  clear df2 sz2 old2 new2
  refine wg_take 28 37 (v := .agg ((h1 3).map V).toArray) rfl rfl (by rw [sz]; decide) (want_of rfl rfl x31) (by kernel_rfl) (by kernel_rfl) (by kernel_rfl) (fun _ _ _ h => h) (run_ldh rfl (h1_len 3) x4 (fun W hW => Ob.range hW.2.2 0 _ (fun j v hj => by simpa using hj))) hS ?_
  intro f37 df2 sz2 old2 new2
  replace x0 := (old2 0 rfl).trans x0
  replace x1 := (old2 1 rfl).trans x1
  replace x2 := (old2 2 rfl).trans x2
  replace x3 := (old2 3 rfl).trans x3
  replace x4 := (old2 4 rfl).trans x4
  replace x9 := (old2 9 rfl).trans x9
  replace x10 := (old2 10 rfl).trans x10
  replace x11 := (old2 11 rfl).trans x11
  replace x12 := (old2 12 rfl).trans x12
  replace x13 := (old2 13 rfl).trans x13
  replace x14 := (old2 14 rfl).trans x14
  replace x15 := (old2 15 rfl).trans x15
  replace x17 := (old2 17 rfl).trans x17
  replace x18 := (old2 18 rfl).trans x18
  replace x19 := (old2 19 rfl).trans x19
  replace x20 := (old2 20 rfl).trans x20
  replace x21 := (old2 21 rfl).trans x21
  replace x22 := (old2 22 rfl).trans x22
  replace x23 := (old2 23 rfl).trans x23
  replace x24 := (old2 24 rfl).trans x24
  replace x25 := (old2 25 rfl).trans x25
  replace x26 := (old2 26 rfl).trans x26
  replace x28 := (old2 28 rfl).trans x28
  replace x29 := (old2 29 rfl).trans x29
  replace x30 := (old2 30 rfl).trans x30
  replace x31 := (old2 31 rfl).trans x31
  replace x32 := (old2 32 rfl).trans x32
  replace x34 := (old2 34 rfl).trans x34
  replace x35 := (old2 35 rfl).trans x35
  have x37 : f37.eval (.tmp 37) = .agg ((h1 3).map V).toArray := new2
  replace sz := sz2.trans sz
  replace df := df2.trans df
  clear df2 sz2 old2 new2
  refine wg_step 24 33 rfl rfl (by rw [sz]; decide) (want_of rfl rfl x31) (by kernel_rfl) (.eq (.agg ((q).map V).toArray)) (st_call 15 (.func 15) _ _ #[.pointer (some ⟨gr, 0, none⟩)] rfl rfl (one_arg x32) Tryd.enter15 (fk_rroot hrr (hK.below bl) eQ)) ?_
  intro f38 w38 df2 sz2 old2 new2 hb2
  refine ⟨⟨Ob.below hS.1 hb2, Ob.below hS.2.1 hb2, Ob.below hS.2.2 hb2⟩, ?_⟩
  have hS2 := hS
  replace hS := (show Ob w38 g2 33 ((h1 1).map V) ∧ Ob w38 g3 33 ((h1 2).map V) ∧ Ob w38 g4 33 ((h1 3).map V) from ⟨Ob.below hS.1 hb2, Ob.below hS.2.1 hb2, Ob.below hS.2.2 hb2⟩)
  clear hS2
  replace x0 := (old2 0 rfl).trans x0
  replace x1 := (old2 1 rfl).trans x1
  replace x2 := (old2 2 rfl).trans x2
  replace x3 := (old2 3 rfl).trans x3
  replace x4 := (old2 4 rfl).trans x4
  replace x9 := (old2 9 rfl).trans x9
  replace x10 := (old2 10 rfl).trans x10
  replace x11 := (old2 11 rfl).trans x11
  replace x12 := (old2 12 rfl).trans x12
  replace x13 := (old2 13 rfl).trans x13
  replace x14 := (old2 14 rfl).trans x14
  replace x15 := (old2 15 rfl).trans x15
  replace x17 := (old2 17 rfl).trans x17
  replace x18 := (old2 18 rfl).trans x18
  replace x19 := (old2 19 rfl).trans x19
  replace x20 := (old2 20 rfl).trans x20
  replace x21 := (old2 21 rfl).trans x21
  replace x22 := (old2 22 rfl).trans x22
  replace x23 := (old2 23 rfl).trans x23
  replace x24 := (old2 24 rfl).trans x24
  replace x25 := (old2 25 rfl).trans x25
  replace x26 := (old2 26 rfl).trans x26
  replace x28 := (old2 28 rfl).trans x28
  replace x29 := (old2 29 rfl).trans x29
  replace x30 := (old2 30 rfl).trans x30
  replace x31 := (old2 31 rfl).trans x31
  replace x32 := (old2 32 rfl).trans x32
  replace x34 := (old2 34 rfl).trans x34
  replace x35 := (old2 35 rfl).trans x35
  replace x37 := (old2 37 rfl).trans x37
  have x33 : f38.eval (.tmp 33) = .agg ((q).map V).toArray := new2
  replace hrr := hrr.mono hb2
  replace lt2 := Nat.lt_of_lt_of_le lt2 hb2.size
  replace lt3 := Nat.lt_of_lt_of_le lt3 hb2.size
  replace lt4 := Nat.lt_of_lt_of_le lt4 hb2.size
  replace bl := bl.trans (Below.mono hb2 bl.size)
  replace sz := sz2.trans sz
  replace df := df2.trans df
  clear df2 sz2 old2 new2 hb2
  refine wg_step 27 36 rfl rfl (by rw [sz]; decide) (want_of rfl rfl x31) (by kernel_rfl) (.eq (.agg ((p).map V).toArray)) (st_call 22 (.func 22) _ _ #[.agg ((h1 1).map V).toArray, .agg ((h1 2).map V).toArray] rfl rfl (arg2 x34 x35) Tryd.enter22 (fk_node (h1_len 1) (h1_len 2) (hK.below bl) ep)) ?_
  intro f39 w39 df2 sz2 old2 new2 hb2
  refine ⟨⟨Ob.below hS.1 hb2, Ob.below hS.2.1 hb2, Ob.below hS.2.2 hb2⟩, ?_⟩
  have hS2 := hS
  replace hS := (show Ob w39 g2 33 ((h1 1).map V) ∧ Ob w39 g3 33 ((h1 2).map V) ∧ Ob w39 g4 33 ((h1 3).map V) from ⟨Ob.below hS.1 hb2, Ob.below hS.2.1 hb2, Ob.below hS.2.2 hb2⟩)
  clear hS2
  replace x0 := (old2 0 rfl).trans x0
  replace x1 := (old2 1 rfl).trans x1
  replace x2 := (old2 2 rfl).trans x2
  replace x3 := (old2 3 rfl).trans x3
  replace x4 := (old2 4 rfl).trans x4
  replace x9 := (old2 9 rfl).trans x9
  replace x10 := (old2 10 rfl).trans x10
  replace x11 := (old2 11 rfl).trans x11
  replace x12 := (old2 12 rfl).trans x12
  replace x13 := (old2 13 rfl).trans x13
  replace x14 := (old2 14 rfl).trans x14
  replace x15 := (old2 15 rfl).trans x15
  replace x17 := (old2 17 rfl).trans x17
  replace x18 := (old2 18 rfl).trans x18
  replace x19 := (old2 19 rfl).trans x19
  replace x20 := (old2 20 rfl).trans x20
  replace x21 := (old2 21 rfl).trans x21
  replace x22 := (old2 22 rfl).trans x22
  replace x23 := (old2 23 rfl).trans x23
  replace x24 := (old2 24 rfl).trans x24
  replace x25 := (old2 25 rfl).trans x25
  replace x26 := (old2 26 rfl).trans x26
  replace x28 := (old2 28 rfl).trans x28
  replace x29 := (old2 29 rfl).trans x29
  replace x30 := (old2 30 rfl).trans x30
  replace x31 := (old2 31 rfl).trans x31
  replace x32 := (old2 32 rfl).trans x32
  replace x34 := (old2 34 rfl).trans x34
  replace x35 := (old2 35 rfl).trans x35
  replace x37 := (old2 37 rfl).trans x37
  replace x33 := (old2 33 rfl).trans x33
  have x36 : f39.eval (.tmp 36) = .agg ((p).map V).toArray := new2
  replace hrr := hrr.mono hb2
  replace lt2 := Nat.lt_of_lt_of_le lt2 hb2.size
  replace lt3 := Nat.lt_of_lt_of_le lt3 hb2.size
  replace lt4 := Nat.lt_of_lt_of_le lt4 hb2.size
  replace bl := bl.trans (Below.mono hb2 bl.size)
  replace sz := sz2.trans sz
  replace df := df2.trans df
  clear df2 sz2 old2 new2 hb2
  refine wg_step 29 38 rfl rfl (by rw [sz]; decide) (want_of rfl rfl x31) (by kernel_rfl) (.eq (.agg ((q).map V).toArray)) (st_call 22 (.func 22) _ _ #[.agg ((p).map V).toArray, .agg ((h1 3).map V).toArray] rfl rfl (arg2 x36 x37) Tryd.enter22 (fk_node hp (h1_len 3) (hK.below bl) eq)) ?_
  intro f40 w40 df2 sz2 old2 new2 hb2
  refine ⟨⟨Ob.below hS.1 hb2, Ob.below hS.2.1 hb2, Ob.below hS.2.2 hb2⟩, ?_⟩
  have hS2 := hS
  replace hS := (show Ob w40 g2 33 ((h1 1).map V) ∧ Ob w40 g3 33 ((h1 2).map V) ∧ Ob w40 g4 33 ((h1 3).map V) from ⟨Ob.below hS.1 hb2, Ob.below hS.2.1 hb2, Ob.below hS.2.2 hb2⟩)
  clear hS2
  replace x0 := (old2 0 rfl).trans x0
  replace x1 := (old2 1 rfl).trans x1
  replace x2 := (old2 2 rfl).trans x2
  replace x3 := (old2 3 rfl).trans x3
  replace x4 := (old2 4 rfl).trans x4
  replace x9 := (old2 9 rfl).trans x9
  replace x10 := (old2 10 rfl).trans x10
  replace x11 := (old2 11 rfl).trans x11
  replace x12 := (old2 12 rfl).trans x12
  replace x13 := (old2 13 rfl).trans x13
  replace x14 := (old2 14 rfl).trans x14
  replace x15 := (old2 15 rfl).trans x15
  replace x17 := (old2 17 rfl).trans x17
  replace x18 := (old2 18 rfl).trans x18
  replace x19 := (old2 19 rfl).trans x19
  replace x20 := (old2 20 rfl).trans x20
  replace x21 := (old2 21 rfl).trans x21
  replace x22 := (old2 22 rfl).trans x22
  replace x23 := (old2 23 rfl).trans x23
  replace x24 := (old2 24 rfl).trans x24
  replace x25 := (old2 25 rfl).trans x25
  replace x26 := (old2 26 rfl).trans x26
  replace x28 := (old2 28 rfl).trans x28
  replace x29 := (old2 29 rfl).trans x29
  replace x30 := (old2 30 rfl).trans x30
  replace x31 := (old2 31 rfl).trans x31
  replace x32 := (old2 32 rfl).trans x32
  replace x34 := (old2 34 rfl).trans x34
  replace x35 := (old2 35 rfl).trans x35
  replace x37 := (old2 37 rfl).trans x37
  replace x33 := (old2 33 rfl).trans x33
  replace x36 := (old2 36 rfl).trans x36
  have x38 : f40.eval (.tmp 38) = .agg ((q).map V).toArray := new2
  replace hrr := hrr.mono hb2
  replace lt2 := Nat.lt_of_lt_of_le lt2 hb2.size
  replace lt3 := Nat.lt_of_lt_of_le lt3 hb2.size
  replace lt4 := Nat.lt_of_lt_of_le lt4 hb2.size
  replace bl := bl.trans (Below.mono hb2 bl.size)
  replace sz := sz2.trans sz
  replace df := df2.trans df
  clear df2 sz2 old2 new2 hb2
  refine wg_step 30 39 rfl rfl (by rw [sz]; decide) (want_of rfl rfl x31) (by kernel_rfl) (.eq (.bool true)) (st_eqh (.tmp 33) (.tmp 38) rfl (q) (q) hq hq x33 x38 _ (by simp)) ?_
  intro f41 w41 df2 sz2 old2 new2 hb2
  refine ⟨⟨Ob.below hS.1 hb2, Ob.below hS.2.1 hb2, Ob.below hS.2.2 hb2⟩, ?_⟩
  have hS2 := hS
  replace hS := (show Ob w41 g2 33 ((h1 1).map V) ∧ Ob w41 g3 33 ((h1 2).map V) ∧ Ob w41 g4 33 ((h1 3).map V) from ⟨Ob.below hS.1 hb2, Ob.below hS.2.1 hb2, Ob.below hS.2.2 hb2⟩)
  clear hS2
  replace x0 := (old2 0 rfl).trans x0
  replace x1 := (old2 1 rfl).trans x1
  replace x2 := (old2 2 rfl).trans x2
  replace x3 := (old2 3 rfl).trans x3
  replace x4 := (old2 4 rfl).trans x4
  replace x9 := (old2 9 rfl).trans x9
  replace x10 := (old2 10 rfl).trans x10
  replace x11 := (old2 11 rfl).trans x11
  replace x12 := (old2 12 rfl).trans x12
  replace x13 := (old2 13 rfl).trans x13
  replace x14 := (old2 14 rfl).trans x14
  replace x15 := (old2 15 rfl).trans x15
  replace x17 := (old2 17 rfl).trans x17
  replace x18 := (old2 18 rfl).trans x18
  replace x19 := (old2 19 rfl).trans x19
  replace x20 := (old2 20 rfl).trans x20
  replace x21 := (old2 21 rfl).trans x21
  replace x22 := (old2 22 rfl).trans x22
  replace x23 := (old2 23 rfl).trans x23
  replace x24 := (old2 24 rfl).trans x24
  replace x25 := (old2 25 rfl).trans x25
  replace x26 := (old2 26 rfl).trans x26
  replace x28 := (old2 28 rfl).trans x28
  replace x29 := (old2 29 rfl).trans x29
  replace x30 := (old2 30 rfl).trans x30
  replace x31 := (old2 31 rfl).trans x31
  replace x32 := (old2 32 rfl).trans x32
  replace x34 := (old2 34 rfl).trans x34
  replace x35 := (old2 35 rfl).trans x35
  replace x37 := (old2 37 rfl).trans x37
  replace x33 := (old2 33 rfl).trans x33
  replace x36 := (old2 36 rfl).trans x36
  replace x38 := (old2 38 rfl).trans x38
  have x39 : f41.eval (.tmp 39) = .bool true := new2
  replace hrr := hrr.mono hb2
  replace lt2 := Nat.lt_of_lt_of_le lt2 hb2.size
  replace lt3 := Nat.lt_of_lt_of_le lt3 hb2.size
  replace lt4 := Nat.lt_of_lt_of_le lt4 hb2.size
  replace bl := bl.trans (Below.mono hb2 bl.size)
  replace sz := sz2.trans sz
  replace df := df2.trans df
  clear df2 sz2 old2 new2 hb2
  refine wg_step 31 40 rfl rfl (by rw [sz]; decide) (want_none rfl) (by kernel_rfl) (.eq (.bool true)) (st_pick_t (.tmp 31) (.tmp 39) (.const (.bool false)) rfl x31 x39) ?_
  intro f42 w42 df2 sz2 old2 new2 hb2
  refine ⟨⟨Ob.below hS.1 hb2, Ob.below hS.2.1 hb2, Ob.below hS.2.2 hb2⟩, ?_⟩
  have hS2 := hS
  replace hS := (show Ob w42 g2 33 ((h1 1).map V) ∧ Ob w42 g3 33 ((h1 2).map V) ∧ Ob w42 g4 33 ((h1 3).map V) from ⟨Ob.below hS.1 hb2, Ob.below hS.2.1 hb2, Ob.below hS.2.2 hb2⟩)
  clear hS2
  replace x0 := (old2 0 rfl).trans x0
  replace x1 := (old2 1 rfl).trans x1
  replace x2 := (old2 2 rfl).trans x2
  replace x3 := (old2 3 rfl).trans x3
  replace x4 := (old2 4 rfl).trans x4
  replace x9 := (old2 9 rfl).trans x9
  replace x10 := (old2 10 rfl).trans x10
  replace x11 := (old2 11 rfl).trans x11
  replace x12 := (old2 12 rfl).trans x12
  replace x13 := (old2 13 rfl).trans x13
  replace x14 := (old2 14 rfl).trans x14
  replace x15 := (old2 15 rfl).trans x15
  replace x17 := (old2 17 rfl).trans x17
  replace x18 := (old2 18 rfl).trans x18
  replace x19 := (old2 19 rfl).trans x19
  replace x20 := (old2 20 rfl).trans x20
  replace x21 := (old2 21 rfl).trans x21
  replace x22 := (old2 22 rfl).trans x22
  replace x23 := (old2 23 rfl).trans x23
  replace x24 := (old2 24 rfl).trans x24
  replace x25 := (old2 25 rfl).trans x25
  replace x26 := (old2 26 rfl).trans x26
  replace x28 := (old2 28 rfl).trans x28
  replace x29 := (old2 29 rfl).trans x29
  replace x30 := (old2 30 rfl).trans x30
  replace x31 := (old2 31 rfl).trans x31
  replace x32 := (old2 32 rfl).trans x32
  replace x34 := (old2 34 rfl).trans x34
  replace x35 := (old2 35 rfl).trans x35
  replace x37 := (old2 37 rfl).trans x37
  replace x33 := (old2 33 rfl).trans x33
  replace x36 := (old2 36 rfl).trans x36
  replace x38 := (old2 38 rfl).trans x38
  replace x39 := (old2 39 rfl).trans x39
  have x40 : f42.eval (.tmp 40) = .bool true := new2
  replace hrr := hrr.mono hb2
  replace lt2 := Nat.lt_of_lt_of_le lt2 hb2.size
  replace lt3 := Nat.lt_of_lt_of_le lt3 hb2.size
  replace lt4 := Nat.lt_of_lt_of_le lt4 hb2.size
  replace bl := bl.trans (Below.mono hb2 bl.size)
  replace sz := sz2.trans sz
  replace df := df2.trans df
  clear df2 sz2 old2 new2 hb2
  refine wh_assign 32 0 rfl rfl (by rw [sz]; decide) rfl (by kernel_rfl) (.tmp 40) rfl hS ?_
  intro f43 df2 sz2 old2 new2
  replace x0 : f43.eval (.tmp 0) = .bool true := new2.trans x40
  replace sz := sz2.trans sz
  replace df := df2.trans df
  refine wpAnyH_done (by kernel_rfl) ?_ _
  show Code.wp _ _ _ _ _
  refine wp_ret ?_
  repeat (first | with_reducible refine then_ret ?_ | with_reducible refine block_ret ?_)
  exact bodyPost_ret (v := .bool true) (ret_slot rfl f43 _ x0 _ _) df ⟨rfl, bl⟩
end Go.Proofs.YtnppjlpnfijobaaDoor
namespace Go.Proofs.YtnppjlpnfijobaaDoor
set_option maxRecDepth 100000
open Go.RowKit
theorem fk_rnt {f : FuncId} {args : Array Value} {w : World} {g0 n : Nat} {P : List (List (BitVec 8))} {z : Value} (hg : g0 ≤ w.heap.size) (h : Calls Tryd.prog f args w fun e w' => ∃ u, e = .returned u ∧ (Fk.t2 (.rn w.heap.size n P) z).f u w' ∧ Below w.heap.size w w') :
    Calls Tryd.prog f args w fun e w' => ∃ u, e = .returned u ∧ (Fk.t2 (.rn g0 n P) z).f u w' ∧ Below w.heap.size w w' := by
  refine h.mono ?_
  rintro e w' ⟨u, rfl, ⟨p, e0, ⟨g, k, e1, h1, h2, h3⟩⟩, hb⟩
  exact ⟨u, rfl, ⟨p, e0, ⟨g, k, e1, Nat.le_trans hg h1, Nat.le_trans hg h2, h3⟩⟩, hb⟩
theorem rgb_max (n : Int) {S : List (List (BitVec 8))} (h : ∀ x ∈ S, x.length = 32) (hl : S.length ≤ 21) : 12 ≤ (be8 n ++ hsb S).length ∧ (be8 n ++ hsb S).length ≤ 700 := by
  have e1 := flat_len2 S (fun i x hx => h x (List.mem_of_getElem? hx))
  unfold hsb
  simp only [List.length_append, be8_len, beN_len, e1]
  omega
end Go.Proofs.YtnppjlpnfijobaaDoor
