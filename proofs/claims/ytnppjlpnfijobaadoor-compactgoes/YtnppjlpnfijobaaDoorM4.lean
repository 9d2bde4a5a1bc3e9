/- Split, and the reference's. Slices of numbers, and of pairs of numbers: of the call's own, and to be read. The reference's Count and Peaks. The reference's Root. Roots, plainly. An own slice of hashes that is cut is an own slice. The law's root. Plain: a drawn region whose last store may come ahead of one operation that only takes a value out: both orders come to one end. Drawn regions with a chain of calls that turn one object: what only looks is taken first. -/
import Derived.Test.YtnppjlpnfijobaaDoorM3
import Derived.Deep.RegionHeld
namespace Go.Proofs.YtnppjlpnfijobaaDoor
set_option maxRecDepth 100000
open Go.RowKit
section
variable {Q : Exit → Act → World → Prop} {o : Oper} {a : Act} {w : World}
theorem st_addz (x y : Operand) (ho : o.op = .binOp .add 3 x y 3) (m n e : Int) (hx : a.eval x = .int .i64 m) (hy : a.eval y = .int .i64 n) (he : e = m + n) (h1 : -9223372036854775808 ≤ e) (h2 : e ≤ 9223372036854775807) : o.wp Tryd.prog a w (Ends a o.dst w (Fk.eq (.int .i64 e)).f) Q := by
  refine st_bin .add 3 3 x y ho hx hy ?_
  have hw : IntKind.i64.wrap (m + n) = e := by rw [IntKind.wrap_i64]; omega
  simp [eqGuard, binOp, Op.intArith, hw]
theorem st_subz (x y : Operand) (ho : o.op = .binOp .sub 3 x y 3) (m n e : Int) (hx : a.eval x = .int .i64 m) (hy : a.eval y = .int .i64 n) (he : e = m - n) (h1 : -9223372036854775808 ≤ e) (h2 : e ≤ 9223372036854775807) : o.wp Tryd.prog a w (Ends a o.dst w (Fk.eq (.int .i64 e)).f) Q := by
  refine st_bin .sub 3 3 x y ho hx hy ?_
  have hw : IntKind.i64.wrap (m - n) = e := by rw [IntKind.wrap_i64]; omega
  simp [eqGuard, binOp, Op.intArith, hw]
theorem st_mulz (x y : Operand) (ho : o.op = .binOp .mul 3 x y 3) (m n e : Int) (hx : a.eval x = .int .i64 m) (hy : a.eval y = .int .i64 n) (he : e = m * n) (h1 : -9223372036854775808 ≤ e) (h2 : e ≤ 9223372036854775807) : o.wp Tryd.prog a w (Ends a o.dst w (Fk.eq (.int .i64 e)).f) Q := by
  refine st_bin .mul 3 3 x y ho hx hy ?_
  have hw : IntKind.i64.wrap (m * n) = e := by rw [IntKind.wrap_i64, ← he]; omega
  simp [eqGuard, binOp, Op.intArith, hw]
end
theorem rsplit_any (n : Nat) (h2 : 2 ≤ n) (h3 : n ≤ 1152921504606846976) (w : World) :
    Calls Tryd.prog 45 #[.int .i64 ((n : Nat) : Int)] w fun e w' => e = .returned (.int .i64 ((spl n : Nat) : Int)) ∧ Below w.heap.size w w' := by
  go_enter Tryd.func45, Tryd.ntmps45
  refine code_both (fun f w1 => f.tmps.size = 11 ∧ f.defers = [] ∧ f.eval (.tmp 0) = .int .i64 ((n : Nat) : Int) ∧ Below w.heap.size w (w1)) ⟨rfl, rfl, rfl, Below.refl _ _⟩ ?_
  rintro f0 w0 ⟨sz, df, x0, bl⟩
  have bl0 := bl
  refine wp_seq ?_
  refine wp_all_seq [.eq (.int .i64 0)] (by kernel_rfl) (by kernel_rfl) (by rw [sz]; kernel_rfl) (by kernel_rfl) ⟨fun hw ac u K => ?_, trivial⟩ ?_
  · exact st_assign (.const (.int .i64 0)) rfl rfl
  intro f1 w1 A hb
  replace bl0 := bl
  replace x0 := (A.old 0 rfl).trans x0
  have x2 : f1.eval (.tmp 2) = .int .i64 0 := A.has 0 2 rfl
  replace bl := (bl.trans (Below.mono hb bl.size))
  replace sz := A.size.trans sz
  replace df := A.defs.trans df
  clear A hb
  show Code.wp _ _ _ _ _
  refine wp_seq ?_
  refine wp_all_seq [.eq (.int .i64 1)] (by kernel_rfl) (by kernel_rfl) (by rw [sz]; kernel_rfl) (by kernel_rfl) ⟨fun hw ac u K => ?_, trivial⟩ ?_
  · exact st_assign (.const (.int .i64 1)) rfl rfl
  intro f2 w2 A hb
  replace bl0 := bl
  replace x0 := (A.old 0 rfl).trans x0
  replace x2 := (A.old 2 rfl).trans x2
  have x3 : f2.eval (.tmp 3) = .int .i64 1 := A.has 0 3 rfl
  replace bl := (bl.trans (Below.mono hb bl.size))
  replace sz := A.size.trans sz
  replace df := A.defs.trans df
  clear A hb
  show Code.wp _ _ _ _ _
  refine wp_seq ?_
  refine wp_block ?_
  refine wp_loop (fun f v1 => ∃ j : Nat, (2 ^ j < n ∨ j = 0) ∧ f.tmps.size = 11 ∧ f.defers = [] ∧ f.eval (.tmp 0) = .int .i64 ((n : Nat) : Int) ∧ f.eval (.tmp 2) = .int .i64 0 ∧ f.eval (.tmp 3) = .int .i64 ((2 ^ j : Nat) : Int) ∧ Below w.heap.size w (v1)) (fun f _ => n - (intOf (f.eval (.tmp 3))).toNat) ⟨0, .inr rfl, sz, df, x0, x2, x3, bl⟩ ?_
  intro f3 w3 hI
  clear sz df bl bl0 x0 x2 x3
  obtain ⟨j, hj, sz, df, x0, x2, x3, bl⟩ := hI
  have bl0 := bl
  refine wp_seq ?_
  refine wp_seq ?_
  have hcnt := x3
  have hp : 2 ^ j ≤ n := by rcases hj with hj | rfl <;> omega
  have hp1 : 1 ≤ 2 ^ j := Nat.one_le_two_pow
  by_cases hlt : 2 * 2 ^ j < n
  rotate_left
  · skip
    have hsp : spl n = 2 ^ j := spl_one (by rcases hj with hj | rfl <;> omega) (by omega)
    refine wp_all_seq [.eq (.int .i64 ((2 ^ j : Nat) : Int)), .eq (.int .i64 ((2 * 2 ^ j : Nat) : Int)), .eq (.int .i64 ((n : Nat) : Int)), .eq (.bool false)] (by kernel_rfl) (by kernel_rfl) (by rw [sz]; kernel_rfl) (by kernel_rfl) ⟨fun hw ac u K => ?_, fun hw ac u K => ?_, fun hw ac u K => ?_, fun hw ac u K => ?_, trivial⟩ ?_
    · exact st_move (.tmp 3) rfl ((K.old 3 rfl).trans x3)
    · exact st_mulz (.const (.int .i64 2)) (.tmp 4) rfl 2 _ _ rfl (K.dep 0 4 rfl) (Int.natCast_mul 2 (2 ^ j)) (by omega) (by omega)
    · exact st_move (.tmp 0) rfl ((K.old 0 rfl).trans x0)
    · exact st_lss 3 (.tmp 5) (.tmp 6) rfl .i64 (((2 * 2 ^ j : Nat) : Int)) (((n : Nat) : Int)) (K.dep 1 5 rfl) (K.dep 2 6 rfl) _ (by rw [eq_comm, decide_eq_false_iff_not]; exact fun h => hlt (Int.ofNat_lt.1 h))
    intro f4 w4 A hb
    replace bl0 := bl
    replace x0 := (A.old 0 rfl).trans x0
    replace x2 := (A.old 2 rfl).trans x2
    replace x3 := (A.old 3 rfl).trans x3
    have x7 : f4.eval (.tmp 7) = .bool false := A.has 3 7 rfl
    replace bl := (bl.trans (Below.mono hb bl.size))
    replace sz := A.size.trans sz
    replace df := A.defs.trans df
    clear A hb
    show Code.wp _ _ _ _ _
    refine wp_cond_false x7 ?_
    refine wp_exit ?_
    show Code.wp _ _ _ _ _
    refine wp_seq ?_
    refine wp_all_seq [.eq (.int .i64 ((2 ^ j : Nat) : Int)), .eq (.int .i64 ((2 ^ j : Nat) : Int))] (by kernel_rfl) (by kernel_rfl) (by rw [sz]; kernel_rfl) (by kernel_rfl) ⟨fun hw ac u K => ?_, fun hw ac u K => ?_, trivial⟩ ?_
    · exact st_move (.tmp 3) rfl ((K.old 3 rfl).trans x3)
    · exact st_assign (.tmp 10) rfl (K.dep 0 10 rfl)
    intro f5 w5 A hb
    replace bl0 := bl
    replace x0 := (A.old 0 rfl).trans x0
    clear x2
    replace x3 := (A.old 3 rfl).trans x3
    replace x7 := (A.old 7 rfl).trans x7
    have x2 : f5.eval (.tmp 2) = .int .i64 ((2 ^ j : Nat) : Int) := A.has 1 2 rfl
    replace bl := (bl.trans (Below.mono hb bl.size))
    replace sz := A.size.trans sz
    replace df := A.defs.trans df
    clear A hb
    show Code.wp _ _ _ _ _
    refine wp_ret ?_
    repeat (first | with_reducible refine then_ret ?_ | with_reducible refine block_ret ?_)
    rw [← hsp] at x2
    exact bodyPost_ret (v := .int .i64 ((spl n : Nat) : Int)) (ret_slot rfl f5 _ x2 _ _) df ⟨rfl, bl⟩
  refine wp_all_seq [.eq (.int .i64 ((2 ^ j : Nat) : Int)), .eq (.int .i64 ((2 * 2 ^ j : Nat) : Int)), .eq (.int .i64 ((n : Nat) : Int)), .eq (.bool true)] (by kernel_rfl) (by kernel_rfl) (by rw [sz]; kernel_rfl) (by kernel_rfl) ⟨fun hw ac u K => ?_, fun hw ac u K => ?_, fun hw ac u K => ?_, fun hw ac u K => ?_, trivial⟩ ?_
  · exact st_move (.tmp 3) rfl ((K.old 3 rfl).trans x3)
  · exact st_mulz (.const (.int .i64 2)) (.tmp 4) rfl 2 _ _ rfl (K.dep 0 4 rfl) (Int.natCast_mul 2 (2 ^ j)) (by omega) (by omega)
  · exact st_move (.tmp 0) rfl ((K.old 0 rfl).trans x0)
  · exact st_lss 3 (.tmp 5) (.tmp 6) rfl .i64 (((2 * 2 ^ j : Nat) : Int)) (((n : Nat) : Int)) (K.dep 1 5 rfl) (K.dep 2 6 rfl) _ (by rw [eq_comm, decide_eq_true_iff]; exact Int.ofNat_lt.2 hlt)
  intro f4 w4 A hb
  replace bl0 := bl
  replace x0 := (A.old 0 rfl).trans x0
  replace x2 := (A.old 2 rfl).trans x2
  replace x3 := (A.old 3 rfl).trans x3
  have x7 : f4.eval (.tmp 7) = .bool true := A.has 3 7 rfl
  replace bl := (bl.trans (Below.mono hb bl.size))
  replace sz := A.size.trans sz
  replace df := A.defs.trans df
  clear A hb
  show Code.wp _ _ _ _ _
  refine wp_cond_true x7 ?_
  refine wp_skip ?_
  show Code.wp _ _ _ _ _
  refine wp_block ?_
  refine wp_region_seq [.eq (.int .i64 ((2 ^ j : Nat) : Int)), .eq (.int .i64 ((2 * 2 ^ j : Nat) : Int))] (by kernel_rfl) (by kernel_rfl) (by rw [sz]; kernel_rfl) (by kernel_rfl) ⟨fun hw ac u K => ?_, fun hw ac u K => ?_, trivial⟩ ?_
  · exact st_move (.tmp 3) rfl ((K.old 3 rfl).trans x3)
  · exact st_mulz (.const (.int .i64 2)) (.tmp 8) rfl 2 _ _ rfl (K.dep 0 8 rfl) (Int.natCast_mul 2 (2 ^ j)) (by omega) (by omega)
  intro f5 w5 A hb
  replace bl0 := bl
  replace x0 := (A.old 0 rfl).trans x0
  replace x2 := (A.old 2 rfl).trans x2
  replace x3 := (A.old 3 rfl).trans x3
  replace x7 := (A.old 7 rfl).trans x7
  have x9 : f5.eval (.tmp 9) = .int .i64 ((2 * 2 ^ j : Nat) : Int) := A.has 1 9 rfl
  replace bl := (bl.trans (Below.mono hb bl.size))
  replace sz := A.size.trans sz
  replace df := A.defs.trans df
  clear A hb
  refine wl_one (.eq (.int .i64 ((2 * 2 ^ j : Nat) : Int))) rfl 3 rfl (by rw [sz]; decide) (st_assign (.tmp 9) rfl x9) ?_
  intro f6 w6 df2 sz2 old2 new2 hb
  replace bl0 := bl
  replace x0 := (old2 0 rfl).trans x0
  replace x2 := (old2 2 rfl).trans x2
  clear x3
  replace x7 := (old2 7 rfl).trans x7
  replace x9 := (old2 9 rfl).trans x9
  have x3 : f6.eval (.tmp 3) = .int .i64 ((2 * 2 ^ j : Nat) : Int) := new2
  replace bl := (bl.trans (Below.mono hb bl.size))
  replace sz := sz2.trans sz
  replace df := df2.trans df
  clear df2 sz2 old2 new2 hb
  refine wpList_nil ?_
  clear x9
  show (∃ _, _) ∧ _
  replace x3 : Fk.f (.eq (.int .i64 ((2 ^ (j + 1) : Nat) : Int))) (f6.eval (.tmp 3)) w6 := (by rw [show 2 ^ (j + 1) = 2 * 2 ^ j by rw [Nat.pow_succ, Nat.mul_comm]]; exact x3)
  refine ⟨⟨j + 1, .inl (by rw [Nat.pow_succ]; omega), sz, df, x0, x2, x3, bl⟩, ?_⟩
  rw [show f6.eval (.tmp 3) = _ from x3, show _ = _ from hcnt]
  simp only [intOf, Int.toNat_natCast, Nat.pow_succ]
  omega
end Go.Proofs.YtnppjlpnfijobaaDoor
namespace Go.Proofs.YtnppjlpnfijobaaDoor
set_option maxRecDepth 100000
open Go.RowKit
/-- A slice of the call's own: n things of a type, of so many cells each. -/
def Fk.orw (base T sz n : Nat) (cs : List Value) : Fk := .inr (.inl ⟨fun v w => w.ownsRow base T sz v n cs, by
  rintro v w w' ⟨h1, h2⟩ hb
  refine ⟨h1, ?_⟩
  rcases h2 with h2 | ⟨g, cap, cur, e, hbg, hg, r⟩
  · exact .inl h2
  · exact .inr ⟨g, cap, cur, e, hbg, by rw [hb.block g (Array.getElem?_eq_some_iff.1 hg).1]; exact hg, r⟩⟩)
/-- A slice that may be read: n things, of so many cells each. -/
def Fk.rdw (sz n : Nat) (cs : List Value) : Fk := .inr (.inl ⟨fun v w => ∃ A C lb lo, v = .slice A n C ∧ (0 < n → A = some ⟨lb, lo, none⟩) ∧ cs.length = n * sz ∧ w.rangeAt lb lo cs, by
  rintro v w w' ⟨A, C, lb, lo, e, h1, h2, h3⟩ hb
  exact ⟨A, C, lb, lo, e, h1, h2, fun j u hj => by have := h3 j u hj; rw [hb.cell (block_lt_of_cell this)]; exact this⟩⟩)
theorem orw_rdw {base T sz n : Nat} {cs : List Value} {v : Value} {w : World} (h : (Fk.orw base T sz n cs).f v w) : (Fk.rdw sz n cs).f v w := by
  obtain ⟨h1, h2⟩ := h
  rcases h2 with ⟨rfl, rfl⟩ | ⟨g, cap, cur, rfl, hbg, hg, hnc, _, hcs, ht⟩
  · have : cs = [] := List.eq_nil_of_length_eq_zero (by rw [h1]; simp)
    subst this
    exact ⟨none, 0, 0, 0, rfl, fun h => absurd h (by decide), by simp, fun j u hj => by simp at hj⟩
  · refine ⟨_, cap, g, 0, rfl, fun _ => rfl, h1, fun j u hj => ?_⟩
    have hjl : j < n * sz := by rw [← h1]; exact (List.getElem?_eq_some_iff.1 hj).1
    rw [cell_of_row _ _ _ _ _ _ hg, Nat.zero_add]
    have e := congrArg (·[j]?) ht
    simp only [List.getElem?_take, hj, if_pos hjl, Array.getElem?_toList] at e
    exact e
theorem orw_le {g0 g1 : Nat} (hg : g1 ≤ g0) {T sz n : Nat} {cs : List Value} {v : Value} {w : World} (h : (Fk.orw g0 T sz n cs).f v w) : (Fk.orw g1 T sz n cs).f v w := by
  obtain ⟨h1, h2⟩ := h
  refine ⟨h1, ?_⟩
  rcases h2 with h2 | ⟨g, cap, cur, e, hbg, r⟩
  · exact .inl h2
  · exact .inr ⟨g, cap, cur, e, Nat.le_trans hg hbg, r⟩
theorem orw_nil (base T sz : Nat) (w : World) : (Fk.orw base T sz 0 []).f (.slice none 0 0) w := World.ownsRow_nil _ _ _ _
theorem fk_orw {f : FuncId} {args : Array Value} {w : World} {g0 T sz n : Nat} {cs : List Value} (hg : g0 ≤ w.heap.size) (h : Calls Tryd.prog f args w fun e w' => ∃ u, e = .returned u ∧ (Fk.orw w.heap.size T sz n cs).f u w' ∧ Below w.heap.size w w') :
    Calls Tryd.prog f args w fun e w' => ∃ u, e = .returned u ∧ (Fk.orw g0 T sz n cs).f u w' ∧ Below w.heap.size w w' := by
  refine h.mono ?_
  rintro e w' ⟨u, rfl, h1, h3⟩
  exact ⟨u, rfl, orw_le hg h1, h3⟩
theorem orw_new {w : World} {base T sz : Nat} {cs : List Value} (hl : cs.length = sz) (hb : base ≤ w.heap.size) : (Fk.orw base T sz 1 cs).f (.slice (some ⟨w.heap.size, 0, none⟩) 1 1) (w.alloc (.cells cs.toArray T)) :=
  ⟨by rw [hl, Nat.one_mul], .inr ⟨w.heap.size, 1, cs.toArray, rfl, hb, heap_alloc_new _ _, Nat.le_refl _, by unfold maxLen; omega, by simp [hl], by simp [← hl]⟩⟩
section
variable {Q : Exit → Act → World → Prop} {o : Oper} {a : Act} {w : World} {ops : Array Oper} {rest : List Oper}
theorem wl_appr (ST T sz by_ : Nat) {z : Value} (hu : Tryd.prog.underlying ST = some (.slice T)) (hinf : (Tryd.prog.info? T).map (fun i => (i.zero, i.size, i.bytes)) = some (some z, sz, by_)) (hzs : z.cells.size = sz) (hpos : 0 < sz)
    (hgd : o.guard = none) (s x : Operand) (ho : o.op = .call { callee := .builtin .append, args := #[s, x], argTypes := #[ST, ST] }) (d : Nat) (hd : o.dst = some d) (hsz : d < a.tmps.size)
    {wL : World} {b n m : Nat} {cs ds : List Value} (hs1 : (Fk.orw wL.heap.size T sz n cs).f (a.eval s) w) (hx : (Fk.orw b T sz m ds).f (a.eval x) w) (hm : 1 ≤ m) (hone : ∀ u ∈ ds, u.oneCell' = true) (hL : Below wL.heap.size wL w) (hN : n + m ≤ 100000) (hby : by_ ≤ 1000)
    (h : ∀ a2 w2, a2.defers = a.defers → a2.tmps.size = a.tmps.size → (∀ t, (t == d) = false → a2.eval (.tmp t) = a.eval (.tmp t)) → (Fk.orw wL.heap.size T sz (n + m) (cs ++ ds)).f (a2.eval (.tmp d)) w2 → Below wL.heap.size wL w2 → wpList Tryd.prog ops Q rest a2 w2) : wpList Tryd.prog ops Q (o :: rest) a w := by
  obtain ⟨i0, hi, hz0, hz1, hz2⟩ := info_parts hinf
  obtain ⟨A, C, lb, lo, e, hp, hl, hr⟩ := orw_rdw hx
  have hp := hp (by omega)
  subst hp
  have hown : w.ownsRow wL.heap.size T sz (a.eval s) n cs := hs1
  refine wpList_append_own w hgd s x ST ho wL.heap.size T i0 z sz by_ hu hi hz0 hz1 hz2 hzs hpos _ n cs rfl hown ⟨lb, lo, none⟩ m C ds e hl (fun j u hj => by rw [Addr.add_mid]; exact hr j u hj) hone (by unfold maxLen; omega) ?_ hL.size ?_
  · have := Nat.mul_le_mul hN hby
    omega
  · intro v' w' h1 h2 _
    refine h _ _ (put_def _ _ _) (put_size _ _ _) (fun t ht => ?_) ?_ (hL.grown h2 hL.size (fun k e => (World.ownsRow.lt hown k e).1))
    · rw [hd]
      exact put_eval_other _ _ _ _ (fun e => by subst e; simp at ht)
    · rw [hd, put_eval_same _ _ _ hsz]
      exact h1
theorem st_lenr (ST T : Nat) (hu : Tryd.prog.underlying ST = some (.slice T)) (he : Tryd.prog.elem ST = T) (x : Operand) (ho : o.op = .call { callee := .builtin .len, args := #[x], argTypes := #[ST] }) {sz n : Nat} {cs : List Value} (h : (Fk.rdw sz n cs).f (a.eval x) w) : o.wp Tryd.prog a w (Ends a o.dst w (Fk.eq (.int .i64 ((n : Nat) : Int))).f) Q := by
  obtain ⟨A, C, lb, lo, e, _⟩ := h
  refine st_pure (v := .int .i64 (n : Int)) ?_ rfl
  have h1 := run_len_slice (P := Tryd.prog) (w := w) ST o.type A n C (by rw [he]; exact hu)
  unfold execOp
  simp [ho, resolve, invoke, builtin, e, h1, goInt]
/-- A pointer to these cells. -/
def Fk.prg (cs : List Value) : Fk := .inr (.inl ⟨fun v w => ∃ b o, v = .pointer (some ⟨b, o, none⟩) ∧ w.rangeAt b o cs, by
  rintro v w w' ⟨b, o, e, h⟩ hb
  exact ⟨b, o, e, fun j u hj => by have := h j u hj; rw [hb.cell (block_lt_of_cell this)]; exact this⟩⟩)
theorem st_idxr2 (ST T : Nat) (hu : Tryd.prog.underlying ST = some (.slice T)) (he : Tryd.prog.elem ST = T) {sz : Nat} (hs : ∀ w, (sizeOf T).run Tryd.prog w = .ok sz w) (x y : Operand) (ho : o.op = .indexAddr ST x y) {n : Nat} {cs : List Value} (h : (Fk.rdw sz n cs).f (a.eval x) w) (i : Nat) (hy : a.eval y = .int .i64 (i : Int)) (hi : i < n) (ds : List Value) (hd : ∀ (j : Nat) (v : Value), ds[j]? = some v → cs[i * sz + j]? = some v) : o.wp Tryd.prog a w (Ends a o.dst w (Fk.prg ds).f) Q := by
  obtain ⟨A, C, lb, lo, e, hp, hl, hr⟩ := h
  have hp := hp (by omega)
  subst hp
  refine st_pure (v := .pointer (some ⟨lb, lo + i * sz, none⟩)) ?_ ⟨lb, lo + i * sz, rfl, fun j u hj => by rw [Nat.add_assoc]; exact hr _ _ (hd j u hj)⟩
  have h1 := run_indexAt_slice (P := Tryd.prog) (w := w) ST ⟨lb, lo, none⟩ n C .i64 (i : Int) (by rw [he]; exact hu)
  rw [if_pos (by omega), he, hs] at h1
  simp only [Result.andThen_ok, Int.toNat_natCast, Addr.add_mid] at h1
  unfold execOp
  rw [ho]
  simp [e, hy, h1]
theorem st_loadr1 (T : TypeId) (x : Operand) (ho : o.op = .load T x) (h1 : (isAgg T).run Tryd.prog w = .ok false w) {u : Value} (h : (Fk.prg [u]).f (a.eval x) w) : o.wp Tryd.prog a w (Ends a o.dst w (Fk.eq u).f) Q := by
  obtain ⟨b, so, e, hr⟩ := h
  exact st_loadc T x ho h1 e (by have := hr 0 u rfl; simpa using this)
theorem st_bldr (ST T sz : Nat) (x : Operand) (ho : o.op = .buildSlice ST 1 #[(0, x)]) {u : Value} (cs : List Value) (hx : a.eval x = u) (hr : ∀ w, (Instr.buildSlice ST 1 #[(0, u)]).run Tryd.prog w = .ok (.slice (some ⟨w.heap.size, 0, none⟩) 1 1) (w.alloc (.cells cs.toArray T))) (hl : cs.length = sz) (g0 : Nat) (hg : g0 ≤ w.heap.size) : o.wp Tryd.prog a w (Ends a o.dst w (Fk.orw g0 T sz 1 cs).f) Q := by
  refine st_run (v := .slice (some ⟨w.heap.size, 0, none⟩) 1 1) (w' := w.alloc (.cells cs.toArray T)) ?_ ((Below.refl _ _).alloc (Nat.le_refl _) _) (orw_new hl hg)
  unfold execOp
  rw [ho]
  simp [hx, hr]
end
/-- Numbers in cells. -/
def zv (ds : List Int) : List Value := ds.map fun z => .int .i64 z
theorem zv_append (a b : List Int) : zv (a ++ b) = zv a ++ zv b := List.map_append
theorem zv_one (ds : List Int) : ∀ u ∈ zv ds, u.oneCell' = true := by
  intro u hu
  obtain ⟨z, _, rfl⟩ := List.mem_map.1 hu
  rfl
theorem zv_at {ds : List Int} {i : Nat} {z : Int} (h : ds[i]? = some z) : ∀ (j : Nat) (v : Value), ([.int .i64 z] : List Value)[j]? = some v → (zv ds)[i * 1 + j]? = some v := by
  intro j v hj
  cases j with
  | zero =>
    obtain rfl : Value.int .i64 z = v := by simpa using hj
    simp [zv, h]
  | succ j => simp at hj
/-- Pairs of numbers in cells. -/
def pv2 (ps : List (Nat × Nat)) : List Value := ps.flatMap fun p => [.int .i64 (p.1 : Int), .int .i64 (p.2 : Int)]
/-- Numbers of the call's own; to be read. -/
def Fk.oi (base : Nat) (ds : List Int) : Fk := Fk.orw base 3 1 ds.length (zv ds)
def Fk.is (ds : List Int) : Fk := Fk.rdw 1 ds.length (zv ds)
/-- Pairs of the call's own; to be read. -/
def Fk.op (base : Nat) (ps : List (Nat × Nat)) : Fk := Fk.orw base 31 2 ps.length (pv2 ps)
def Fk.ps (ps : List (Nat × Nat)) : Fk := Fk.rdw 2 ps.length (pv2 ps)
theorem Tryd.under23z : Tryd.prog.underlying 23 = some (.slice 3) := by kernel_rfl
theorem Tryd.elem23z : Tryd.prog.elem 23 = 3 := by kernel_rfl
theorem Tryd.info3z : (Tryd.prog.info? 3).map (fun i => (i.zero, i.size, i.bytes)) = some (some (.int .i64 0), 1, 8) := by kernel_rfl
theorem Tryd.size3z (w : World) : (sizeOf 3).run Tryd.prog w = .ok 1 w := by kernel_rfl
theorem Tryd.bld3z (z : Int) (w : World) : (Instr.buildSlice 23 1 #[(0, .int .i64 z)]).run Tryd.prog w = .ok (.slice (some ⟨w.heap.size, 0, none⟩) 1 1) (w.alloc (.cells (zv [z]).toArray 3)) := by kernel_rfl
theorem oi_is {base : Nat} {ds : List Int} {v : Value} {w : World} (h : (Fk.oi base ds).f v w) : (Fk.is ds).f v w := orw_rdw h
theorem oi_nil (base : Nat) (w : World) : (Fk.oi base []).f (.slice none 0 0) w := orw_nil _ _ _ _
section
variable {Q : Exit → Act → World → Prop} {o : Oper} {a : Act} {w : World} {ops : Array Oper} {rest : List Oper}
theorem wl_appendi (hgd : o.guard = none) (s x : Operand) (ho : o.op = .call { callee := .builtin .append, args := #[s, x], argTypes := #[23, 23] }) (d : Nat) (hd : o.dst = some d) (hsz : d < a.tmps.size)
    {wL : World} {b : Nat} {cs ds : List Int} (hs1 : (Fk.oi wL.heap.size cs).f (a.eval s) w) (hx : (Fk.oi b ds).f (a.eval x) w) (hm : 1 ≤ ds.length) (hL : Below wL.heap.size wL w) (hN : cs.length + ds.length ≤ 100000)
    (h : ∀ a2 w2, a2.defers = a.defers → a2.tmps.size = a.tmps.size → (∀ t, (t == d) = false → a2.eval (.tmp t) = a.eval (.tmp t)) → (Fk.oi wL.heap.size (cs ++ ds)).f (a2.eval (.tmp d)) w2 → Below wL.heap.size wL w2 → wpList Tryd.prog ops Q rest a2 w2) : wpList Tryd.prog ops Q (o :: rest) a w :=
  wl_appr 23 3 1 8 Tryd.under23z Tryd.info3z rfl (by decide) hgd s x ho d hd hsz hs1 hx hm (zv_one ds) hL hN (by decide) (fun a2 w2 h1 h2 h3 h4 h5 => h a2 w2 h1 h2 h3 (by unfold Fk.oi; rw [List.length_append, zv_append]; exact h4) h5)
theorem st_lenis (x : Operand) (ho : o.op = .call { callee := .builtin .len, args := #[x], argTypes := #[23] }) {ds : List Int} (h : (Fk.is ds).f (a.eval x) w) : o.wp Tryd.prog a w (Ends a o.dst w (Fk.eq (.int .i64 ((ds.length : Nat) : Int))).f) Q := st_lenr 23 3 Tryd.under23z Tryd.elem23z x ho h
theorem st_idxis (x y : Operand) (ho : o.op = .indexAddr 23 x y) {ds : List Int} (h : (Fk.is ds).f (a.eval x) w) (i : Nat) (hy : a.eval y = .int .i64 (i : Int)) (z : Int) (hi : ds[i]? = some z) : o.wp Tryd.prog a w (Ends a o.dst w (Fk.prg [.int .i64 z]).f) Q :=
  st_idxr2 23 3 Tryd.under23z Tryd.elem23z Tryd.size3z x y ho h i hy (List.getElem?_eq_some_iff.1 hi).1 _ (zv_at hi)
theorem st_bi1 (x : Operand) (ho : o.op = .buildSlice 23 1 #[(0, x)]) (z : Int) (hx : a.eval x = .int .i64 z) (g0 : Nat) (hg : g0 ≤ w.heap.size) : o.wp Tryd.prog a w (Ends a o.dst w (Fk.oi g0 [z]).f) Q := st_bldr 23 3 1 x ho _ hx (Tryd.bld3z z) rfl g0 hg
end
end Go.Proofs.YtnppjlpnfijobaaDoor
namespace Go.Proofs.YtnppjlpnfijobaaDoor
set_option maxRecDepth 100000
open Go.RowKit
section
variable {Q : Exit → Act → World → Prop} {o : Oper} {a : Act} {w : World}
end
end Go.Proofs.YtnppjlpnfijobaaDoor
namespace Go.Proofs.YtnppjlpnfijobaaDoor
set_option maxRecDepth 100000
open Go.RowKit
theorem rops_len (n : Nat) : ∀ a, 1 ≤ n → (rops a n).length = 2 * n - 1 := by
  induction n using Nat.strongRecOn with
  | ind n ih =>
    intro a h1
    by_cases h2 : n = 1
    · subst h2; rw [rops_one]; rfl
    · have hs := spl_lt (n := n) (by omega)
      have hp := spl_pos n
      rw [rops_two a (by omega), List.length_append, List.length_append, ih (spl n) hs a hp, ih (n - spl n) (by omega) (a + spl n) (by omega)]
      simp only [List.length_cons, List.length_nil]
      omega
theorem rroot_any (n : Nat) : ∀ (a : Nat) (w : World), 1 ≤ n → a + n ≤ 1000 → Calls Tryd.prog 25 #[.int .i64 ((a : Nat) : Int), .int .i64 ((a + n : Nat) : Int)] w fun e w' => ∃ u, e = .returned u ∧ (Fk.oi w.heap.size (rops a n)).f u w' ∧ Below w.heap.size w w' := by
  induction n using Nat.strongRecOn with
  | ind n ih =>
  intro a w hn1 hle
  by_cases h1 : n = 1
  · skip
    go_enter Tryd.func25, Tryd.ntmps25
    refine code_both (fun f w1 => f.tmps.size = 34 ∧ f.defers = [] ∧ f.eval (.tmp 0) = .int .i64 ((a : Nat) : Int) ∧ f.eval (.tmp 1) = .int .i64 ((a + n : Nat) : Int) ∧ Below w.heap.size w (w1)) ⟨rfl, rfl, rfl, rfl, Below.refl _ _⟩ ?_
    rintro f0 w0 ⟨sz, df, x0, x1, bl⟩
    have bl0 := bl
    refine wp_seq ?_
    refine wp_all_seq [.eq (.slice none 0 0)] (by kernel_rfl) (by kernel_rfl) (by rw [sz]; kernel_rfl) (by kernel_rfl) ⟨fun hw ac u K => ?_, trivial⟩ ?_
    · exact st_assign (.const (.slice none 0 0)) rfl rfl
    intro f1 w1 A hb
    replace bl0 := bl
    replace x0 := (A.old 0 rfl).trans x0
    replace x1 := (A.old 1 rfl).trans x1
    have x4 : f1.eval (.tmp 4) = .slice none 0 0 := A.has 0 4 rfl
    replace bl := (bl.trans (Below.mono hb bl.size))
    replace sz := A.size.trans sz
    replace df := A.defs.trans df
    clear A hb
    show Code.wp _ _ _ _ _
    refine wp_seq ?_
    refine wp_seq ?_
    refine wp_all_seq [.eq (.int .i64 ((a + n : Nat) : Int)), .eq (.int .i64 ((a : Nat) : Int)), .eq (.int .i64 ((n : Nat) : Int)), .eq (.bool true)] (by kernel_rfl) (by kernel_rfl) (by rw [sz]; kernel_rfl) (by kernel_rfl) ⟨fun hw ac u K => ?_, fun hw ac u K => ?_, fun hw ac u K => ?_, fun hw ac u K => ?_, trivial⟩ ?_
    · exact st_move (.tmp 1) rfl ((K.old 1 rfl).trans x1)
    · exact st_move (.tmp 0) rfl ((K.old 0 rfl).trans x0)
    · exact st_sub (.tmp 7) (.tmp 8) rfl (a + n) (a) (n) (K.dep 0 7 rfl) (K.dep 1 8 rfl) (by omega) (by omega)
    · exact st_eqi 3 (.tmp 9) (.const (.int .i64 1)) rfl .i64 (((n : Nat) : Int)) (1) (K.dep 2 9 rfl) rfl _ (by rw [eq_comm, decide_eq_true_iff]; omega)
    intro f2 w2 A hb
    replace bl0 := bl
    replace x0 := (A.old 0 rfl).trans x0
    replace x1 := (A.old 1 rfl).trans x1
    replace x4 := (A.old 4 rfl).trans x4
    have x10 : f2.eval (.tmp 10) = .bool true := A.has 3 10 rfl
    replace bl := (bl.trans (Below.mono hb bl.size))
    replace sz := A.size.trans sz
    replace df := A.defs.trans df
    clear A hb
    show Code.wp _ _ _ _ _
    refine wp_cond_true x10 ?_
    refine wp_seq ?_
    refine wp_all_seq [.eq (.int .i64 ((a : Nat) : Int)), .oi w.heap.size ([(a : Int)]), .oi w.heap.size ([(a : Int)])] (by kernel_rfl) (by kernel_rfl) (by rw [sz]; kernel_rfl) (by kernel_rfl) ⟨fun hw ac u K => ?_, fun hw ac u K => ?_, fun hw ac u K => ?_, trivial⟩ ?_
    · exact st_move (.tmp 0) rfl ((K.old 0 rfl).trans x0)
    · exact st_bi1 (.tmp 11) rfl _ (K.dep 0 11 rfl) _ (bl.trans (Below.mono K.grow bl.size)).size
    · exact st_assign (.tmp 12) rfl (K.dep 1 12 rfl)
    intro f3 w3 A hb
    replace bl0 := bl
    replace x0 := (A.old 0 rfl).trans x0
    replace x1 := (A.old 1 rfl).trans x1
    clear x4
    replace x10 := (A.old 10 rfl).trans x10
    have x4 : Fk.f (.oi w.heap.size ([(a : Int)])) (f3.eval (.tmp 4)) w3 := A.has 2 4 rfl
    replace bl := (bl.trans (Below.mono hb bl.size))
    replace sz := A.size.trans sz
    replace df := A.defs.trans df
    clear A hb
    show Code.wp _ _ _ _ _
    refine wp_ret ?_
    repeat (first | with_reducible refine then_ret ?_ | with_reducible refine block_ret ?_)
    rw [h1, rops_one]
    exact bodyPost_ret (v := f3.eval (.tmp 4)) (ret_slot rfl f3 _ rfl _ _) df ⟨_, rfl, x4, bl⟩
  · skip
    have h2 : 2 ≤ n := by omega
    obtain ⟨k, hk⟩ : ∃ k, spl n = k := ⟨_, rfl⟩
    have hk1 : k < n := by rw [← hk]; exact spl_lt h2
    have hk2 : 1 ≤ k := by rw [← hk]; exact spl_pos _
    have hto : a + n = (a + k) + (n - k) := by omega
    go_enter Tryd.func25, Tryd.ntmps25
    refine code_both (fun f w1 => f.tmps.size = 34 ∧ f.defers = [] ∧ f.eval (.tmp 0) = .int .i64 ((a : Nat) : Int) ∧ f.eval (.tmp 1) = .int .i64 ((a + n : Nat) : Int) ∧ Below w.heap.size w (w1)) ⟨rfl, rfl, rfl, rfl, Below.refl _ _⟩ ?_
    rintro f0 w0 ⟨sz, df, x0, x1, bl⟩
    have bl0 := bl
    refine wp_seq ?_
    refine wp_all_seq [.eq (.slice none 0 0)] (by kernel_rfl) (by kernel_rfl) (by rw [sz]; kernel_rfl) (by kernel_rfl) ⟨fun hw ac u K => ?_, trivial⟩ ?_
    · exact st_assign (.const (.slice none 0 0)) rfl rfl
    intro f1 w1 A hb
    replace bl0 := bl
    replace x0 := (A.old 0 rfl).trans x0
    replace x1 := (A.old 1 rfl).trans x1
    have x4 : f1.eval (.tmp 4) = .slice none 0 0 := A.has 0 4 rfl
    replace bl := (bl.trans (Below.mono hb bl.size))
    replace sz := A.size.trans sz
    replace df := A.defs.trans df
    clear A hb
    show Code.wp _ _ _ _ _
    refine wp_seq ?_
    refine wp_seq ?_
    refine wp_all_seq [.eq (.int .i64 ((a + n : Nat) : Int)), .eq (.int .i64 ((a : Nat) : Int)), .eq (.int .i64 ((n : Nat) : Int)), .eq (.bool false)] (by kernel_rfl) (by kernel_rfl) (by rw [sz]; kernel_rfl) (by kernel_rfl) ⟨fun hw ac u K => ?_, fun hw ac u K => ?_, fun hw ac u K => ?_, fun hw ac u K => ?_, trivial⟩ ?_
    · exact st_move (.tmp 1) rfl ((K.old 1 rfl).trans x1)
    · exact st_move (.tmp 0) rfl ((K.old 0 rfl).trans x0)
    · exact st_sub (.tmp 7) (.tmp 8) rfl (a + n) (a) (n) (K.dep 0 7 rfl) (K.dep 1 8 rfl) (by omega) (by omega)
    · exact st_eqi 3 (.tmp 9) (.const (.int .i64 1)) rfl .i64 (((n : Nat) : Int)) (1) (K.dep 2 9 rfl) rfl _ (by rw [eq_comm, decide_eq_false_iff_not]; omega)
    intro f2 w2 A hb
    replace bl0 := bl
    replace x0 := (A.old 0 rfl).trans x0
    replace x1 := (A.old 1 rfl).trans x1
    replace x4 := (A.old 4 rfl).trans x4
    have x10 : f2.eval (.tmp 10) = .bool false := A.has 3 10 rfl
    replace bl := (bl.trans (Below.mono hb bl.size))
    replace sz := A.size.trans sz
    replace df := A.defs.trans df
    clear A hb
    show Code.wp _ _ _ _ _
    refine wp_cond_false x10 ?_
    refine wp_skip ?_
    show Code.wp _ _ _ _ _
    refine wp_seq ?_
    refine wp_all_seq [.eq (.int .i64 ((a + n : Nat) : Int)), .eq (.int .i64 ((a : Nat) : Int)), .eq (.int .i64 ((n : Nat) : Int)), .eq (.int .i64 ((k : Nat) : Int)), .eq (.int .i64 ((k : Nat) : Int))] (by kernel_rfl) (by kernel_rfl) (by rw [sz]; kernel_rfl) (by kernel_rfl) ⟨fun hw ac u K => ?_, fun hw ac u K => ?_, fun hw ac u K => ?_, fun hw ac u K => ?_, fun hw ac u K => ?_, trivial⟩ ?_
    · exact st_move (.tmp 1) rfl ((K.old 1 rfl).trans x1)
    · exact st_move (.tmp 0) rfl ((K.old 0 rfl).trans x0)
    · exact st_sub (.tmp 13) (.tmp 14) rfl (a + n) (a) (n) (K.dep 0 13 rfl) (K.dep 1 14 rfl) (by omega) (by omega)
    · exact st_call 45 (.func 45) _ _ #[.int .i64 ((n : Nat) : Int)] rfl rfl (one_arg (K.dep 2 15 rfl)) Tryd.enter45 (by rw [← hk]; exact fk_of (rsplit_any n h2 (by omega) _))
    · exact st_assign (.tmp 16) rfl (K.dep 3 16 rfl)
    intro f3 w3 A hb
    replace bl0 := bl
    replace x0 := (A.old 0 rfl).trans x0
    replace x1 := (A.old 1 rfl).trans x1
    replace x4 := (A.old 4 rfl).trans x4
    replace x10 := (A.old 10 rfl).trans x10
    have x5 : f3.eval (.tmp 5) = .int .i64 ((k : Nat) : Int) := A.has 4 5 rfl
    replace bl := (bl.trans (Below.mono hb bl.size))
    replace sz := A.size.trans sz
    replace df := A.defs.trans df
    clear A hb
    show Code.wp _ _ _ _ _
    refine wp_seq ?_
    refine wp_all_seq [.oi w.heap.size ([])] (by kernel_rfl) (by kernel_rfl) (by rw [sz]; kernel_rfl) (by kernel_rfl) ⟨fun hw ac u K => ?_, trivial⟩ ?_
    · exact st_assign (.const (.slice none 0 0)) rfl (oi_nil _ _)
    intro f4 w4 A hb
    replace bl0 := bl
    replace x0 := (A.old 0 rfl).trans x0
    replace x1 := (A.old 1 rfl).trans x1
    replace x4 := (A.old 4 rfl).trans x4
    replace x10 := (A.old 10 rfl).trans x10
    replace x5 := (A.old 5 rfl).trans x5
    have x6 : Fk.f (.oi w.heap.size ([])) (f4.eval (.tmp 6)) w4 := A.has 0 6 rfl
    replace bl := (bl.trans (Below.mono hb bl.size))
    replace sz := A.size.trans sz
    replace df := A.defs.trans df
    clear A hb
    show Code.wp _ _ _ _ _
    refine wp_seq ?_
    refine wp_region_seq [.oi w.heap.size ([]), .eq (.int .i64 ((a : Nat) : Int)), .eq (.int .i64 ((a : Nat) : Int)), .eq (.int .i64 ((k : Nat) : Int)), .eq (.int .i64 ((a + k : Nat) : Int)), .oi w.heap.size (rops a k)] (by kernel_rfl) (by kernel_rfl) (by rw [sz]; kernel_rfl) (by kernel_rfl) ⟨fun hw ac u K => ?_, fun hw ac u K => ?_, fun hw ac u K => ?_, fun hw ac u K => ?_, fun hw ac u K => ?_, fun hw ac u K => ?_, trivial⟩ ?_
    · exact st_move (.tmp 6) rfl (f_at (K.old 6 rfl) (Fk.mono _ _ _ _ x6 K.grow))
    · exact st_move (.tmp 0) rfl ((K.old 0 rfl).trans x0)
    · exact st_move (.tmp 0) rfl ((K.old 0 rfl).trans x0)
    · exact st_move (.tmp 5) rfl ((K.old 5 rfl).trans x5)
    · exact st_add (.tmp 19) (.tmp 20) rfl (a) (k) (a + k) (K.dep 2 19 rfl) (K.dep 3 20 rfl) (by omega) (by omega)
    · exact st_call 25 (.func 25) _ _ #[.int .i64 ((a : Nat) : Int), .int .i64 ((a + k : Nat) : Int)] rfl rfl (arg2 (K.dep 1 18 rfl) (K.dep 4 21 rfl)) Tryd.enter25 (fk_orw (bl.trans (Below.mono K.grow bl.size)).size (ih k (by omega) a _ hk2 (by omega)))
    intro f5 w5 A hb
    replace bl0 := bl
    replace x0 := (A.old 0 rfl).trans x0
    replace x1 := (A.old 1 rfl).trans x1
    replace x4 := (A.old 4 rfl).trans x4
    replace x10 := (A.old 10 rfl).trans x10
    replace x5 := (A.old 5 rfl).trans x5
    replace x6 := f_at (A.old 6 rfl) (Fk.mono _ _ _ _ x6 hb)
    have x17 : Fk.f (.oi w.heap.size ([])) (f5.eval (.tmp 17)) w5 := A.has 0 17 rfl
    have x22 : Fk.f (.oi w.heap.size (rops a k)) (f5.eval (.tmp 22)) w5 := A.has 5 22 rfl
    replace bl := (bl.trans (Below.mono hb bl.size))
    replace sz := A.size.trans sz
    replace df := A.defs.trans df
    clear A hb
    refine wl_appendi rfl (.tmp 17) (.tmp 22) rfl 23 rfl (by rw [sz]; decide) x17 x22 (by rw [rops_len k a hk2]; omega) bl (by rw [rops_len k a hk2]; simp; omega) ?_
    intro f6 w6 df2 sz2 old2 new2 bl2
    clear x6
    clear x17
    clear x22
    replace x0 := (old2 0 rfl).trans x0
    replace x1 := (old2 1 rfl).trans x1
    replace x4 := (old2 4 rfl).trans x4
    replace x10 := (old2 10 rfl).trans x10
    replace x5 := (old2 5 rfl).trans x5
    have x23 : Fk.f (.oi w.heap.size (rops a k)) (f6.eval (.tmp 23)) w6 := new2
    replace bl := bl2
    replace bl0 := bl
    replace sz := sz2.trans sz
    replace df := df2.trans df
    clear df2 sz2 old2 new2 bl2
    refine wl_one (.oi w.heap.size (rops a k)) rfl 6 rfl (by rw [sz]; decide) (st_assign (.tmp 23) rfl x23) ?_
    intro f7 w7 df2 sz2 old2 new2 hb
    replace bl0 := bl
    replace x0 := (old2 0 rfl).trans x0
    replace x1 := (old2 1 rfl).trans x1
    replace x4 := (old2 4 rfl).trans x4
    replace x10 := (old2 10 rfl).trans x10
    replace x5 := (old2 5 rfl).trans x5
    replace x23 := f_at (old2 23 rfl) (Fk.mono _ _ _ _ x23 hb)
    have x6 : Fk.f (.oi w.heap.size (rops a k)) (f7.eval (.tmp 6)) w7 := new2
    replace bl := (bl.trans (Below.mono hb bl.size))
    replace sz := sz2.trans sz
    replace df := df2.trans df
    clear df2 sz2 old2 new2 hb
    refine wpList_nil ?_
    clear x23
    show Code.wp _ _ _ _ _
    refine wp_seq ?_
    refine wp_region_seq [.oi w.heap.size (rops a k), .eq (.int .i64 ((a : Nat) : Int)), .eq (.int .i64 ((k : Nat) : Int)), .eq (.int .i64 ((a + k : Nat) : Int)), .eq (.int .i64 ((a + n : Nat) : Int)), .oi w.heap.size (rops (a + k) (n - k))] (by kernel_rfl) (by kernel_rfl) (by rw [sz]; kernel_rfl) (by kernel_rfl) ⟨fun hw ac u K => ?_, fun hw ac u K => ?_, fun hw ac u K => ?_, fun hw ac u K => ?_, fun hw ac u K => ?_, fun hw ac u K => ?_, trivial⟩ ?_
    · exact st_move (.tmp 6) rfl (f_at (K.old 6 rfl) (Fk.mono _ _ _ _ x6 K.grow))
    · exact st_move (.tmp 0) rfl ((K.old 0 rfl).trans x0)
    · exact st_move (.tmp 5) rfl ((K.old 5 rfl).trans x5)
    · exact st_add (.tmp 25) (.tmp 26) rfl (a) (k) (a + k) (K.dep 1 25 rfl) (K.dep 2 26 rfl) (by omega) (by omega)
    · exact st_move (.tmp 1) rfl ((K.old 1 rfl).trans x1)
    · exact st_call 25 (.func 25) _ _ #[.int .i64 ((a + k : Nat) : Int), .int .i64 ((a + n : Nat) : Int)] rfl rfl (arg2 (K.dep 3 27 rfl) (K.dep 4 28 rfl)) Tryd.enter25 (fk_orw (bl.trans (Below.mono K.grow bl.size)).size (by rw [hto]; exact ih (n - k) (by omega) (a + k) _ (by omega) (by omega)))
    intro f8 w8 A hb
    replace bl0 := bl
    replace x0 := (A.old 0 rfl).trans x0
    replace x1 := (A.old 1 rfl).trans x1
    replace x4 := (A.old 4 rfl).trans x4
    replace x10 := (A.old 10 rfl).trans x10
    replace x5 := (A.old 5 rfl).trans x5
    replace x6 := f_at (A.old 6 rfl) (Fk.mono _ _ _ _ x6 hb)
    have x24 : Fk.f (.oi w.heap.size (rops a k)) (f8.eval (.tmp 24)) w8 := A.has 0 24 rfl
    have x29 : Fk.f (.oi w.heap.size (rops (a + k) (n - k))) (f8.eval (.tmp 29)) w8 := A.has 5 29 rfl
    replace bl := (bl.trans (Below.mono hb bl.size))
    replace sz := A.size.trans sz
    replace df := A.defs.trans df
    clear A hb
    refine wl_appendi rfl (.tmp 24) (.tmp 29) rfl 30 rfl (by rw [sz]; decide) x24 x29 (by rw [rops_len _ _ (by omega)]; omega) bl (by rw [rops_len k a hk2, rops_len _ _ (by omega)]; omega) ?_
    intro f9 w9 df2 sz2 old2 new2 bl2
    clear x6
    clear x24
    clear x29
    replace x0 := (old2 0 rfl).trans x0
    replace x1 := (old2 1 rfl).trans x1
    replace x4 := (old2 4 rfl).trans x4
    replace x10 := (old2 10 rfl).trans x10
    replace x5 := (old2 5 rfl).trans x5
    have x30 : Fk.f (.oi w.heap.size (rops a k ++ rops (a + k) (n - k))) (f9.eval (.tmp 30)) w9 := new2
    replace bl := bl2
    replace bl0 := bl
    replace sz := sz2.trans sz
    replace df := df2.trans df
    clear df2 sz2 old2 new2 bl2
    refine wl_one (.oi w.heap.size (rops a k ++ rops (a + k) (n - k))) rfl 6 rfl (by rw [sz]; decide) (st_assign (.tmp 30) rfl x30) ?_
    intro f10 w10 df2 sz2 old2 new2 hb
    replace bl0 := bl
    replace x0 := (old2 0 rfl).trans x0
    replace x1 := (old2 1 rfl).trans x1
    replace x4 := (old2 4 rfl).trans x4
    replace x10 := (old2 10 rfl).trans x10
    replace x5 := (old2 5 rfl).trans x5
    replace x30 := f_at (old2 30 rfl) (Fk.mono _ _ _ _ x30 hb)
    have x6 : Fk.f (.oi w.heap.size (rops a k ++ rops (a + k) (n - k))) (f10.eval (.tmp 6)) w10 := new2
    replace bl := (bl.trans (Below.mono hb bl.size))
    replace sz := sz2.trans sz
    replace df := df2.trans df
    clear df2 sz2 old2 new2 hb
    refine wpList_nil ?_
    clear x30
    show Code.wp _ _ _ _ _
    refine wp_seq ?_
    refine wp_region_seq [.oi w.heap.size (rops a k ++ rops (a + k) (n - k)), .oi w.heap.size ([-1])] (by kernel_rfl) (by kernel_rfl) (by rw [sz]; kernel_rfl) (by kernel_rfl) ⟨fun hw ac u K => ?_, fun hw ac u K => ?_, trivial⟩ ?_
    · exact st_move (.tmp 6) rfl (f_at (K.old 6 rfl) (Fk.mono _ _ _ _ x6 K.grow))
    · exact st_bi1 (.const (.int .i64 (-1))) rfl _ rfl _ (bl.trans (Below.mono K.grow bl.size)).size
    intro f11 w11 A hb
    replace bl0 := bl
    replace x0 := (A.old 0 rfl).trans x0
    replace x1 := (A.old 1 rfl).trans x1
    replace x4 := (A.old 4 rfl).trans x4
    replace x10 := (A.old 10 rfl).trans x10
    replace x5 := (A.old 5 rfl).trans x5
    replace x6 := f_at (A.old 6 rfl) (Fk.mono _ _ _ _ x6 hb)
    have x31 : Fk.f (.oi w.heap.size (rops a k ++ rops (a + k) (n - k))) (f11.eval (.tmp 31)) w11 := A.has 0 31 rfl
    have x32 : Fk.f (.oi w.heap.size ([-1])) (f11.eval (.tmp 32)) w11 := A.has 1 32 rfl
    replace bl := (bl.trans (Below.mono hb bl.size))
    replace sz := A.size.trans sz
    replace df := A.defs.trans df
    clear A hb
    refine wl_appendi rfl (.tmp 31) (.tmp 32) rfl 33 rfl (by rw [sz]; decide) x31 x32 (by simp) bl (by rw [List.length_append, rops_len k a hk2, rops_len _ _ (by omega)]; simp only [List.length_cons, List.length_nil]; omega) ?_
    intro f12 w12 df2 sz2 old2 new2 bl2
    clear x6
    clear x31
    clear x32
    replace x0 := (old2 0 rfl).trans x0
    replace x1 := (old2 1 rfl).trans x1
    replace x4 := (old2 4 rfl).trans x4
    replace x10 := (old2 10 rfl).trans x10
    replace x5 := (old2 5 rfl).trans x5
    have x33 : Fk.f (.oi w.heap.size ((rops a k ++ rops (a + k) (n - k)) ++ [-1])) (f12.eval (.tmp 33)) w12 := new2
    replace bl := bl2
    replace bl0 := bl
    replace sz := sz2.trans sz
    replace df := df2.trans df
    clear df2 sz2 old2 new2 bl2
    refine wl_one (.oi w.heap.size ((rops a k ++ rops (a + k) (n - k)) ++ [-1])) rfl 4 rfl (by rw [sz]; decide) (st_assign (.tmp 33) rfl x33) ?_
    intro f13 w13 df2 sz2 old2 new2 hb
    replace bl0 := bl
    replace x0 := (old2 0 rfl).trans x0
    replace x1 := (old2 1 rfl).trans x1
    clear x4
    replace x10 := (old2 10 rfl).trans x10
    replace x5 := (old2 5 rfl).trans x5
    replace x33 := f_at (old2 33 rfl) (Fk.mono _ _ _ _ x33 hb)
    have x4 : Fk.f (.oi w.heap.size ((rops a k ++ rops (a + k) (n - k)) ++ [-1])) (f13.eval (.tmp 4)) w13 := new2
    replace bl := (bl.trans (Below.mono hb bl.size))
    replace sz := sz2.trans sz
    replace df := df2.trans df
    clear df2 sz2 old2 new2 hb
    refine wpList_nil ?_
    clear x33
    show Code.wp _ _ _ _ _
    refine wp_ret ?_
    repeat (first | with_reducible refine then_ret ?_ | with_reducible refine block_ret ?_)
    rw [List.append_assoc] at x4
    rw [rops_two a h2, hk]
    exact bodyPost_ret (v := f13.eval (.tmp 4)) (ret_slot rfl f13 _ rfl _ _) df ⟨_, rfl, x4, bl⟩
end Go.Proofs.YtnppjlpnfijobaaDoor
namespace Go.Proofs.YtnppjlpnfijobaaDoor
set_option maxRecDepth 100000
open Go.RowKit
theorem sl_nil (w : World) : (Fk.sl []).f (.slice none 0 0) w := ⟨none, 0, 0, 0, 0, rfl, ⟨rfl, Nat.le_refl _, fun _ => ⟨rfl, rfl⟩, fun h => absurd h (by decide)⟩⟩
theorem hc_len {l : List (List (BitVec 8))} {v : Value} {w : World} (h : (Fk.hc l).f v w) : ∀ x ∈ l, x.length = 32 := by
  intro x hx
  obtain ⟨i, hi, rfl⟩ := List.getElem_of_mem hx
  obtain ⟨A, C, lb, lo, e, _, hl⟩ := h
  exact (hl.all i _ (List.getElem?_eq_getElem hi)).1
theorem mroot_len {l : List (List (BitVec 8))} (h : ∀ x ∈ l, x.length = 32) : (mroot l).length = 32 := by
  match l, h with
  | [], _ => rw [mroot_nil]; exact shaOf_len _
  | [x], h => rw [mroot_one]; exact h x (by simp)
  | x :: y :: r, _ => rw [mroot_two (by simp)]; exact nd_len _ _
end Go.Proofs.YtnppjlpnfijobaaDoor
namespace Go.Proofs.YtnppjlpnfijobaaDoor
set_option maxRecDepth 100000
open Go.RowKit
theorem flat_take (hs : List (List (BitVec 8))) (h32 : ∀ (i : Nat) (x : List (BitVec 8)), hs[i]? = some x → x.length = 32) (n : Nat) : (hs.take n).flatten = hs.flatten.take (n * 32) := by
  induction hs generalizing n with
  | nil => simp
  | cons y r ih =>
    cases n with
    | zero => simp
    | succ n =>
      have hy : y.length = 32 := h32 0 y rfl
      rw [List.take_succ_cons, List.flatten_cons, List.flatten_cons, ih (fun i x hi => h32 (i + 1) x hi) n, List.take_append, hy]
      rw [List.take_of_length_le (l := y) (by omega), show (n + 1) * 32 - 32 = n * 32 by omega]
theorem ow_take {base : Nat} {hs : List (List (BitVec 8))} {A : Option Addr} {C : Nat} {w : World} (h : (Fk.ow base hs).f (.slice A hs.length C) w) (n : Nat) (hn : n ≤ hs.length) : (Fk.ow base (hs.take n)).f (.slice A n C) w := by
  obtain ⟨⟨h1, h2⟩, h3⟩ := h
  have hl : (hs.take n).length = n := by rw [List.length_take]; omega
  have h3' : ∀ (i : Nat) (x : List (BitVec 8)), (hs.take n)[i]? = some x → x.length = 32 := fun i x hi => by
    rw [List.getElem?_take] at hi
    split at hi
    · exact h3 i x hi
    · cases hi
  refine ⟨?_, h3'⟩
  rw [hl, flat_take hs h3, List.map_take]
  refine ⟨?_, ?_⟩
  · rw [List.length_take, h1]
    have : n * 32 ≤ hs.length * 32 := Nat.mul_le_mul_right _ hn
    omega
  · rcases h2 with ⟨e, h0⟩ | ⟨g, cap, cur, e, hbg, hg, hnc, hm, hcs, ht⟩
    · have : n = 0 := by omega
      subst this
      injection e with e1 e2 e3
      subst e1 e3
      exact .inl ⟨rfl, rfl⟩
    · cases e
      refine .inr ⟨g, C, cur, rfl, hbg, hg, by omega, hm, hcs, ?_⟩
      rw [← ht, List.take_take]
      congr 1
      have : n * 32 ≤ hs.length * 32 := Nat.mul_le_mul_right _ hn
      omega
end Go.Proofs.YtnppjlpnfijobaaDoor
namespace Go.Proofs.YtnppjlpnfijobaaDoor
set_option maxRecDepth 100000
open Go.RowKit
theorem rops_mem (n : Nat) : ∀ a z, 1 ≤ n → z ∈ rops a n → (∃ i : Nat, z = (i : Int) ∧ i < a + n) ∨ z = -1 := by
  induction n using Nat.strongRecOn with
  | ind n ih =>
    intro a z h1 hz
    by_cases h2 : n = 1
    · subst h2
      rw [rops_one] at hz
      exact .inl ⟨a, List.mem_singleton.1 hz, by omega⟩
    · have hs := spl_lt (n := n) (by omega)
      have hp := spl_pos n
      rw [rops_two a (by omega), List.mem_append, List.mem_append] at hz
      rcases hz with hz | hz | hz
      · rcases ih (spl n) hs a z hp hz with ⟨i, e, hi⟩ | e
        · exact .inl ⟨i, e, by omega⟩
        · exact .inr e
      · rcases ih (n - spl n) (by omega) (a + spl n) z (by omega) hz with ⟨i, e, hi⟩ | e
        · exact .inl ⟨i, e, by omega⟩
        · exact .inr e
      · exact .inr (List.mem_singleton.1 hz)
/-- The stack behind k operations. -/
def stc (l : List (List (BitVec 8))) (k : Nat) : List (List (BitVec 8)) := ((rops 0 l.length).take k).foldl (stk l) []
theorem stc_zero (l : List (List (BitVec 8))) : stc l 0 = [] := rfl
theorem stc_succ (l : List (List (BitVec 8))) {k : Nat} {z : Int} (h : (rops 0 l.length)[k]? = some z) : stc l (k + 1) = stk l (stc l k) z := by
  unfold stc
  rw [List.take_add_one, h, List.foldl_append]
  rfl
theorem stk_len (l st : List (List (BitVec 8))) (z : Int) : (stk l st z).length ≤ st.length + 1 := by
  unfold stk
  split
  · simp
  · rw [List.length_append, List.length_take, List.length_singleton]; omega
theorem stc_len (l : List (List (BitVec 8))) (k : Nat) : (stc l k).length ≤ k := by
  induction k with
  | zero => exact Nat.le_refl _
  | succ k ih =>
    cases h : (rops 0 l.length)[k]? with
    | some z =>
      rw [stc_succ l h]
      have := stk_len l (stc l k) z
      omega
    | none =>
      have : stc l (k + 1) = stc l k := by
        unfold stc
        rw [List.take_add_one, h]
        simp
      rw [this]; omega
theorem stc_put (l : List (List (BitVec 8))) {k i : Nat} {x : List (BitVec 8)} (h : (rops 0 l.length)[k]? = some (i : Int)) (hx : l[i]? = some x) : stc l (k + 1) = stc l k ++ [x] := by
  rw [stc_succ l h, stk_put l _ hx]
theorem stc_two (l : List (List (BitVec 8))) (hn : 1 ≤ l.length) {k : Nat} (h : (rops 0 l.length)[k]? = some (-1)) : 2 ≤ (stc l k).length := by
  have := rops_deep l l.length 0 hn (by omega) [] k h
  unfold stc
  simpa using this
theorem stc_node (l : List (List (BitVec 8))) {k : Nat} (h : (rops 0 l.length)[k]? = some (-1)) {N : Nat} (hN : N + 2 = (stc l k).length) {x y : List (BitVec 8)} (hx : (stc l k)[N]? = some x) (hy : (stc l k)[N + 1]? = some y) : stc l (k + 1) = (stc l k).take N ++ [nd x y] := by
  rw [stc_succ l h]
  unfold stk
  rw [if_neg (by decide), show (stc l k).length - 2 = N by omega, show (stc l k).length - 1 = N + 1 by omega, List.getD_eq_getElem?_getD, hx, List.getD_eq_getElem?_getD, hy]
  rfl
theorem stc_all (l : List (List (BitVec 8))) (hn : 1 ≤ l.length) : stc l (rops 0 l.length).length = [mroot l] := by
  unfold stc
  rw [List.take_of_length_le (Nat.le_refl _), stk_rops l l.length 0 hn (by omega), List.nil_append]
  unfold sgm
  rw [List.drop_zero, List.take_of_length_le (Nat.le_refl _)]
theorem hs_len {hs : List (List (BitVec 8))} {v : Value} {w : World} (h : (Fk.hs hs).f v w) {i : Nat} {x : List (BitVec 8)} (hi : hs[i]? = some x) : x.length = 32 := by
  obtain ⟨A, C, lb, lo, e, hl⟩ := h
  exact (hl.all i x hi).1
theorem rroot0 (n : Nat) (w : World) (h1 : 1 ≤ n) (h2 : n ≤ 1000) : Calls Tryd.prog 25 #[.int .i64 0, .int .i64 ((n : Nat) : Int)] w fun e w' => ∃ u, e = .returned u ∧ (Fk.oi w.heap.size (rops 0 n)).f u w' ∧ Below w.heap.size w w' := by
  have := rroot_any n 0 w h1 (by omega)
  rw [Nat.zero_add] at this
  exact this
theorem st_cutow {Q : Exit → Act → World → Prop} {o : Oper} {a : Act} {w : World} (x y : Operand) (ho : o.op = .slice 22 x none (some y) none) {base : Nat} {hs : List (List (BitVec 8))} (h : (Fk.ow base hs).f (a.eval x) w) (n : Nat) (hy : a.eval y = .int .i64 (n : Int)) (hn : n ≤ hs.length) : o.wp Tryd.prog a w (Ends a o.dst w (Fk.ow base (hs.take n)).f) Q := by
  have h0 := h
  obtain ⟨A, C, lb, lo, e, hc, hl⟩ := ow_hc h
  rw [e] at h0
  have h3 := ow_take h0 n hn
  refine st_pure (v := sliced A 0 n C 32) ?_ ?_
  · have h1 := run_slice_h (P := Tryd.prog) (w := w) 22 A hs.length C (by rw [Tryd.elem22]; exact Tryd.under22') .i64 (n : Int) (by omega) (by omega)
    rw [Tryd.elem22, Tryd.sizeOf33] at h1
    simp only [Result.andThen_ok, Int.toNat_natCast] at h1
    have h2 := run_sliceAt_slice (P := Tryd.prog) (w := w) 22 (.slice A hs.length C) none (some (.int .i64 (n : Int))) none (by rw [Tryd.elem22]; exact Tryd.under22')
    unfold execOp
    rw [ho]
    simp [e, hy, h2, h1]
  · have : sliced A 0 n C 32 = .slice A n C := by
      unfold sliced
      by_cases h0 : C = 0
      · simp [h0]
      · cases A with
        | none => simp
        | some p => simp [Addr.add]
    rw [this]
    exact h3
theorem lroot_nil (w : World) {v : Value} (hv : (Fk.hc []).f v w) (hK : Tab w) {y : List (BitVec 8)} (ey : Box (mroot [] = y)) :
    Calls Tryd.prog 11 #[v] w fun e w' => e = .returned (.agg ((y).map V).toArray) ∧ Below w.heap.size w w' := by
  have eys : shaOf [] = y := by rw [← ey.out, mroot_nil]
  have hy : y.length = 32 := by rw [← eys]; exact shaOf_len _
  have hnil := sl_nil w
  go_enter Tryd.func11, Tryd.ntmps11
  refine code_both (fun f w1 => f.tmps.size = 53 ∧ f.defers = [] ∧ f.eval (.tmp 0) = v ∧ Below w.heap.size w (w1)) ⟨rfl, rfl, rfl, Below.refl _ _⟩ ?_
  rintro f0 w0 ⟨sz, df, x0, bl⟩
  have bl0 := bl
  refine wp_seq ?_
  refine wp_all_seq [.nw w0.heap.size 33 ((hz).map V)] (by kernel_rfl) (by kernel_rfl) (by rw [sz]; kernel_rfl) (by kernel_rfl) ⟨fun hw ac u K => ?_, trivial⟩ ?_
  · exact st_alloc33 rfl _ K.grow.size
  intro f1 w1 A hb
  replace bl0 := bl
  replace x0 := (A.old 0 rfl).trans x0
  have x2 : Fk.f (.nw w0.heap.size 33 ((hz).map V)) (f1.eval (.tmp 2)) w1 := A.has 0 2 rfl
  replace bl := (bl.trans (Below.mono hb bl.size))
  replace sz := A.size.trans sz
  replace df := A.defs.trans df
  clear A hb
  obtain ⟨g2, hg2, e2, m2⟩ := x2
  have x2 := e2
  clear e2
  have hw2 : w.heap.size ≤ g2 := Nat.le_trans bl0.size hg2
  show Code.wp _ _ _ _ _
  refine wp_seq ?_
  refine wp_seq ?_
  refine wp_all_seq [.eq (v), .eq (.int .i64 ((0 : Nat) : Int)), .eq (.bool true)] (by kernel_rfl) (by kernel_rfl) (by rw [sz]; kernel_rfl) (by kernel_rfl) ⟨fun hw ac u K => ?_, fun hw ac u K => ?_, fun hw ac u K => ?_, trivial⟩ ?_
  · exact st_move (.tmp 0) rfl ((K.old 0 rfl).trans x0)
  · exact st_lenc (.tmp 7) rfl (0) rfl (fk_val (K.dep 0 7 rfl) (Fk.mono _ _ _ _ hv (bl.trans (Below.mono K.grow bl.size))))
  · exact st_eqi 3 (.tmp 8) (.const (.int .i64 0)) rfl .i64 (((0 : Nat) : Int)) (0) (K.dep 1 8 rfl) rfl _ (by simp)
  intro f2 w2 A hb
  replace bl0 := bl
  replace x0 := (A.old 0 rfl).trans x0
  replace x2 := (A.old 2 rfl).trans x2
  have x9 : f2.eval (.tmp 9) = .bool true := A.has 2 9 rfl
  have lt_m2 := Ob.lt m2
  replace m2 := Ob.below m2 hb
  replace bl := (bl.trans (Below.mono hb bl.size))
  replace sz := A.size.trans sz
  replace df := A.defs.trans df
  clear A hb
  show Code.wp _ _ _ _ _
  refine wp_cond_true x9 ?_
  refine wp_seq ?_
  refine wp_region_seq [.eq (.agg ((y).map V).toArray)] (by kernel_rfl) (by kernel_rfl) (by rw [sz]; kernel_rfl) (by kernel_rfl) ⟨fun hw ac u K => ?_, trivial⟩ ?_
  · exact st_call 24 (.func 24) _ _ #[.slice none 0 0] rfl rfl (one_arg rfl) Tryd.enter24 (by rw [← eys]; exact fk_sum (by simp) (hK.below (bl.trans (Below.mono K.grow bl.size))) (Fk.mono _ _ _ _ hnil (bl.trans (Below.mono K.grow bl.size))))
  intro f3 w3 A hb
  replace bl0 := bl
  replace x0 := (A.old 0 rfl).trans x0
  replace x2 := (A.old 2 rfl).trans x2
  replace x9 := (A.old 9 rfl).trans x9
  have x10 : f3.eval (.tmp 10) = .agg ((y).map V).toArray := A.has 0 10 rfl
  have lt_m2 := Ob.lt m2
  replace m2 := Ob.below m2 hb
  replace bl := (bl.trans (Below.mono hb bl.size))
  replace sz := A.size.trans sz
  replace df := A.defs.trans df
  clear A hb
  refine wl_store rfl (.tmp 2) (.tmp 10) rfl rfl (g2) (y) (hz) x2 x10 m2 hz_len hy ?_
  replace m2 : Ob (w3.setRow g2 ((y).map V : List Value).toArray) (g2) 33 ((y).map V) := Ob.setRow m2 ((y).map V)
  replace bl : Below w.heap.size w (w3.setRow g2 ((y).map V : List Value).toArray) := bl.trans (below_setRow _ _ _ _ hw2)
  generalize w3.setRow g2 ((y).map V : List Value).toArray = w4b at bl m2 ⊢
  refine wpList_nil ?_
  clear x10
  show Code.wp _ _ _ _ _
  refine wp_ret ?_
  repeat (first | with_reducible refine then_ret ?_ | with_reducible refine block_ret ?_)
  exact bodyPost_ret (v := .agg ((y).map V).toArray) (ret_hash rfl f3 _ g2 (y) hy x2 m2) df ⟨rfl, bl⟩
theorem lroot_pos {l : List (List (BitVec 8))} (hn : 1 ≤ l.length) (h1000 : l.length ≤ 400) (w : World) {v : Value} (hv : (Fk.hc l).f v w) (hK : Tab w) {y : List (BitVec 8)} (ey : Box (mroot l = y)) :
    Calls Tryd.prog 11 #[v] w fun e w' => e = .returned (.agg ((y).map V).toArray) ∧ Below w.heap.size w w' := by
  have hvs := hc_hs hv
  have hy : y.length = 32 := by rw [← ey.out]; exact mroot_len (hc_len hv)
  obtain ⟨O, hO⟩ : ∃ O, rops 0 l.length = O := ⟨_, rfl⟩
  have hOl : O.length = 2 * l.length - 1 := by rw [← hO]; exact rops_len _ _ hn
  go_enter Tryd.func11, Tryd.ntmps11
  refine code_both (fun f w1 => f.tmps.size = 53 ∧ f.defers = [] ∧ f.eval (.tmp 0) = v ∧ Below w.heap.size w (w1)) ⟨rfl, rfl, rfl, Below.refl _ _⟩ ?_
  rintro f0 w0 ⟨sz, df, x0, bl⟩
  have bl0 := bl
  refine wp_seq ?_
  refine wp_all_seq [.nw w0.heap.size 33 ((hz).map V)] (by kernel_rfl) (by kernel_rfl) (by rw [sz]; kernel_rfl) (by kernel_rfl) ⟨fun hw ac u K => ?_, trivial⟩ ?_
  · exact st_alloc33 rfl _ K.grow.size
  intro f1 w1 A hb
  replace bl0 := bl
  replace x0 := (A.old 0 rfl).trans x0
  have x2 : Fk.f (.nw w0.heap.size 33 ((hz).map V)) (f1.eval (.tmp 2)) w1 := A.has 0 2 rfl
  replace bl := (bl.trans (Below.mono hb bl.size))
  replace sz := A.size.trans sz
  replace df := A.defs.trans df
  clear A hb
  obtain ⟨g2, hg2, e2, m2⟩ := x2
  have x2 := e2
  clear e2
  have hw2 : w.heap.size ≤ g2 := Nat.le_trans bl0.size hg2
  show Code.wp _ _ _ _ _
  refine wp_seq ?_
  refine wp_seq ?_
  refine wp_all_seq [.eq (v), .eq (.int .i64 (((l).length : Nat) : Int)), .eq (.bool false)] (by kernel_rfl) (by kernel_rfl) (by rw [sz]; kernel_rfl) (by kernel_rfl) ⟨fun hw ac u K => ?_, fun hw ac u K => ?_, fun hw ac u K => ?_, trivial⟩ ?_
  · exact st_move (.tmp 0) rfl ((K.old 0 rfl).trans x0)
  · exact st_lenc (.tmp 7) rfl ((l).length) rfl (fk_val (K.dep 0 7 rfl) (Fk.mono _ _ _ _ hv (bl.trans (Below.mono K.grow bl.size))))
  · exact st_eqi 3 (.tmp 8) (.const (.int .i64 0)) rfl .i64 ((((l).length : Nat) : Int)) (0) (K.dep 1 8 rfl) rfl _ (by rw [eq_comm, decide_eq_false_iff_not]; omega)
  intro f2 w2 A hb
  replace bl0 := bl
  replace x0 := (A.old 0 rfl).trans x0
  replace x2 := (A.old 2 rfl).trans x2
  have x9 : f2.eval (.tmp 9) = .bool false := A.has 2 9 rfl
  have lt_m2 := Ob.lt m2
  replace m2 := Ob.below m2 hb
  replace bl := (bl.trans (Below.mono hb bl.size))
  replace sz := A.size.trans sz
  replace df := A.defs.trans df
  clear A hb
  show Code.wp _ _ _ _ _
  refine wp_cond_false x9 ?_
  refine wp_skip ?_
  show Code.wp _ _ _ _ _
  refine wp_seq ?_
  refine wp_all_seq [.eq (.slice none 0 0)] (by kernel_rfl) (by kernel_rfl) (by rw [sz]; kernel_rfl) (by kernel_rfl) ⟨fun hw ac u K => ?_, trivial⟩ ?_
  · exact st_assign (.const (.slice none 0 0)) rfl rfl
  intro f3 w3 A hb
  replace bl0 := bl
  replace x0 := (A.old 0 rfl).trans x0
  replace x2 := (A.old 2 rfl).trans x2
  replace x9 := (A.old 9 rfl).trans x9
  have x3 : f3.eval (.tmp 3) = .slice none 0 0 := A.has 0 3 rfl
  have lt_m2 := Ob.lt m2
  replace m2 := Ob.below m2 hb
  replace bl := (bl.trans (Below.mono hb bl.size))
  replace sz := A.size.trans sz
  replace df := A.defs.trans df
  clear A hb
  show Code.wp _ _ _ _ _
  refine wp_seq ?_
  refine wp_seq ?_
  refine wp_all_seq [.eq (v), .eq (.int .i64 (((l).length : Nat) : Int)), .oi w.heap.size (O), .eq (.int .i64 (((O).length : Nat) : Int)), .eq (.int .i64 0)] (by kernel_rfl) (by kernel_rfl) (by rw [sz]; kernel_rfl) (by kernel_rfl) ⟨fun hw ac u K => ?_, fun hw ac u K => ?_, fun hw ac u K => ?_, fun hw ac u K => ?_, fun hw ac u K => ?_, trivial⟩ ?_
  · exact st_move (.tmp 0) rfl ((K.old 0 rfl).trans x0)
  · exact st_lenc (.tmp 11) rfl ((l).length) rfl (fk_val (K.dep 0 11 rfl) (Fk.mono _ _ _ _ hv (bl.trans (Below.mono K.grow bl.size))))
  · exact st_call 25 (.func 25) _ _ #[.int .i64 0, .int .i64 (((l).length : Nat) : Int)] rfl rfl (arg2 rfl (K.dep 1 12 rfl)) Tryd.enter25 (by rw [← hO]; exact fk_orw (bl.trans (Below.mono K.grow bl.size)).size (rroot0 l.length _ (by omega) (by omega)))
  · exact st_lenis (.tmp 13) rfl (oi_is (K.dep 2 13 rfl))
  · exact st_move (.const (.int .i64 0)) rfl rfl
  intro f4 w4 A hb
  replace bl0 := bl
  replace x0 := (A.old 0 rfl).trans x0
  replace x2 := (A.old 2 rfl).trans x2
  replace x9 := (A.old 9 rfl).trans x9
  replace x3 := (A.old 3 rfl).trans x3
  have x13 : Fk.f (.oi w.heap.size (O)) (f4.eval (.tmp 13)) w4 := A.has 2 13 rfl
  have x14 : f4.eval (.tmp 14) = .int .i64 (((O).length : Nat) : Int) := A.has 3 14 rfl
  have x15 : f4.eval (.tmp 15) = .int .i64 0 := A.has 4 15 rfl
  have lt_m2 := Ob.lt m2
  replace m2 := Ob.below m2 hb
  replace bl := (bl.trans (Below.mono hb bl.size))
  replace sz := A.size.trans sz
  replace df := A.defs.trans df
  clear A hb
  obtain ⟨v13, e13⟩ : ∃ v, f4.eval (.tmp 13) = v := ⟨_, rfl⟩
  have h13 := oi_is x13
  rw [e13] at h13
  replace x13 := e13
  clear e13
  have blw := bl
  replace hv := Fk.mono _ _ _ _ hv bl
  replace hvs := Fk.mono _ _ _ _ hvs bl
  replace hK := hK.below bl
  replace bl := Below.refl w4.heap.size w4
  replace bl0 := bl
  show Code.wp _ _ _ _ _
  refine wp_block ?_
  refine wp_loop (fun f v1 => ∃ k : Nat, k ≤ (O).length ∧ f.tmps.size = 53 ∧ f.defers = [] ∧ f.eval (.tmp 0) = v ∧ f.eval (.tmp 2) = .pointer (some ⟨g2, 0, none⟩) ∧ f.eval (.tmp 9) = .bool false ∧ f.eval (.tmp 13) = v13 ∧ f.eval (.tmp 14) = .int .i64 (((O).length : Nat) : Int) ∧ f.eval (.tmp 15) = .int .i64 ((k : Nat) : Int) ∧ Fk.f (.ow w4.heap.size (stc l k)) (f.eval (.tmp 3)) v1 ∧ Below w4.heap.size w4 (v1)) (fun f _ => (O).length - (intOf (f.eval (.tmp 15))).toNat) ⟨0, Nat.zero_le _, sz, df, x0, x2, x9, x13, x14, x15, (fk_val x3 (by rw [stc_zero]; exact ow_nil _ _)), bl⟩ ?_
  intro f5 w5 hI
  clear sz df bl bl0 x0 x2 x9 x3 x13 x14 x15
  obtain ⟨k, hk, sz, df, x0, x2, x9, x13, x14, x15, x3, bl⟩ := hI
  have bl0 := bl
  have hcnt := x15
  refine wp_seq ?_
  by_cases hlt : k < (O).length
  rotate_left
  · skip
    refine wp_all_seq [.eq (.bool false)] (by kernel_rfl) (by kernel_rfl) (by rw [sz]; kernel_rfl) (by kernel_rfl) ⟨fun hw ac u K => ?_, trivial⟩ ?_
    · exact st_lss 3 (.tmp 15) (.tmp 14) rfl .i64 (((k : Nat) : Int)) ((((O).length : Nat) : Int)) ((K.old 15 rfl).trans x15) ((K.old 14 rfl).trans x14) _ (by rw [eq_comm, decide_eq_false_iff_not]; exact fun h => hlt (Int.ofNat_lt.1 h))
    intro f6 w6 A hb
    replace bl0 := bl
    replace x0 := (A.old 0 rfl).trans x0
    replace x2 := (A.old 2 rfl).trans x2
    replace x9 := (A.old 9 rfl).trans x9
    replace x3 := f_at (A.old 3 rfl) (Fk.mono _ _ _ _ x3 hb)
    replace x13 := (A.old 13 rfl).trans x13
    replace x14 := (A.old 14 rfl).trans x14
    replace x15 := (A.old 15 rfl).trans x15
    have x16 : f6.eval (.tmp 16) = .bool false := A.has 0 16 rfl
    replace bl := (bl.trans (Below.mono hb bl.size))
    replace sz := A.size.trans sz
    replace df := A.defs.trans df
    clear A hb
    show Code.wp _ _ _ _ _
    refine wp_seq ?_
    refine wp_cond_false x16 ?_
    refine wp_exit ?_
    show Code.wp _ _ _ _ _
    refine wp_seq ?_
    obtain rfl : k = (O).length := by omega
    have hall := stc_all l (by omega)
    rw [hO, ey.out] at hall
    rw [hall] at x3
    replace m2 := Ob.below m2 bl
    replace bl := blw.trans (Below.mono bl blw.size)
    replace bl0 := bl
    refine wp_region_seq [.ow w4.heap.size ([y]), .ph (y), .eq (.agg ((y).map V).toArray)] (by kernel_rfl) (by kernel_rfl) (by rw [sz]; kernel_rfl) (by kernel_rfl) ⟨fun hw ac u K => ?_, fun hw ac u K => ?_, fun hw ac u K => ?_, trivial⟩ ?_
    · exact st_move (.tmp 3) rfl (f_at (K.old 3 rfl) (Fk.mono _ _ _ _ x3 K.grow))
    · exact st_idxh (.tmp 50) (.const (.int .i64 0)) rfl (ow_hs (K.dep 0 50 rfl)) (0) (y) rfl rfl
    · exact st_loadh (.tmp 51) rfl (K.dep 1 51 rfl)
    intro f7 w7 A hb
    replace bl0 := bl
    replace x0 := (A.old 0 rfl).trans x0
    replace x2 := (A.old 2 rfl).trans x2
    replace x9 := (A.old 9 rfl).trans x9
    replace x3 := f_at (A.old 3 rfl) (Fk.mono _ _ _ _ x3 hb)
    replace x13 := (A.old 13 rfl).trans x13
    replace x14 := (A.old 14 rfl).trans x14
    replace x15 := (A.old 15 rfl).trans x15
    replace x16 := (A.old 16 rfl).trans x16
    have x52 : f7.eval (.tmp 52) = .agg ((y).map V).toArray := A.has 2 52 rfl
    have lt_m2 := Ob.lt m2
    replace m2 := Ob.below m2 hb
    replace bl := (bl.trans (Below.mono hb bl.size))
    replace sz := A.size.trans sz
    replace df := A.defs.trans df
    clear A hb
    clear x3
    refine wl_store rfl (.tmp 2) (.tmp 52) rfl rfl (g2) (y) (hz) x2 x52 m2 hz_len hy ?_
    replace m2 : Ob (w7.setRow g2 ((y).map V : List Value).toArray) (g2) 33 ((y).map V) := Ob.setRow m2 ((y).map V)
    replace bl : Below w.heap.size w (w7.setRow g2 ((y).map V : List Value).toArray) := bl.trans (below_setRow _ _ _ _ hw2)
    generalize w7.setRow g2 ((y).map V : List Value).toArray = w8b at bl m2 ⊢
    refine wpList_nil ?_
    clear x52
    show Code.wp _ _ _ _ _
    refine wp_ret ?_
    repeat (first | with_reducible refine then_ret ?_ | with_reducible refine block_ret ?_)
    exact bodyPost_ret (v := .agg ((y).map V).toArray) (ret_hash rfl f7 _ g2 (y) hy x2 m2) df ⟨rfl, bl⟩
  obtain ⟨z, hz⟩ : ∃ z, O[k]? = some z := ⟨_, List.getElem?_eq_getElem hlt⟩
  have hz2 := hz
  rw [← hO] at hz2
  have hsl := stc_len l k
  refine wp_all_seq [.eq (.bool true)] (by kernel_rfl) (by kernel_rfl) (by rw [sz]; kernel_rfl) (by kernel_rfl) ⟨fun hw ac u K => ?_, trivial⟩ ?_
  · exact st_lss 3 (.tmp 15) (.tmp 14) rfl .i64 (((k : Nat) : Int)) ((((O).length : Nat) : Int)) ((K.old 15 rfl).trans x15) ((K.old 14 rfl).trans x14) _ (by rw [eq_comm, decide_eq_true_iff]; exact Int.ofNat_lt.2 hlt)
  intro f6 w6 A hb
  replace bl0 := bl
  replace x0 := (A.old 0 rfl).trans x0
  replace x2 := (A.old 2 rfl).trans x2
  replace x9 := (A.old 9 rfl).trans x9
  replace x3 := f_at (A.old 3 rfl) (Fk.mono _ _ _ _ x3 hb)
  replace x13 := (A.old 13 rfl).trans x13
  replace x14 := (A.old 14 rfl).trans x14
  replace x15 := (A.old 15 rfl).trans x15
  have x16 : f6.eval (.tmp 16) = .bool true := A.has 0 16 rfl
  replace bl := (bl.trans (Below.mono hb bl.size))
  replace sz := A.size.trans sz
  replace df := A.defs.trans df
  clear A hb
  show Code.wp _ _ _ _ _
  refine wp_seq ?_
  refine wp_cond_true x16 ?_
  refine wp_skip ?_
  show Code.wp _ _ _ _ _
  refine wp_seq ?_
  refine wp_block ?_
  refine wp_seq ?_
  refine wp_all_seq [.prg [.int .i64 z], .eq (.int .i64 z), .eq (.int .i64 z)] (by kernel_rfl) (by kernel_rfl) (by rw [sz]; kernel_rfl) (by kernel_rfl) ⟨fun hw ac u K => ?_, fun hw ac u K => ?_, fun hw ac u K => ?_, trivial⟩ ?_
  · exact st_idxis (.tmp 13) (.tmp 15) rfl (fk_val ((K.old 13 rfl).trans x13) (Fk.mono _ _ _ _ h13 (bl.trans (Below.mono K.grow bl.size)))) k ((K.old 15 rfl).trans x15) z hz
  · exact st_loadr1 3 (.tmp 17) rfl (by kernel_rfl) (K.dep 0 17 rfl)
  · exact st_assign (.tmp 18) rfl (K.dep 1 18 rfl)
  intro f7 w7 A hb
  replace bl0 := bl
  replace x0 := (A.old 0 rfl).trans x0
  replace x2 := (A.old 2 rfl).trans x2
  replace x9 := (A.old 9 rfl).trans x9
  replace x3 := f_at (A.old 3 rfl) (Fk.mono _ _ _ _ x3 hb)
  replace x13 := (A.old 13 rfl).trans x13
  replace x14 := (A.old 14 rfl).trans x14
  replace x15 := (A.old 15 rfl).trans x15
  replace x16 := (A.old 16 rfl).trans x16
  have x5 : f7.eval (.tmp 5) = .int .i64 z := A.has 2 5 rfl
  replace bl := (bl.trans (Below.mono hb bl.size))
  replace sz := A.size.trans sz
  replace df := A.defs.trans df
  clear A hb
  show Code.wp _ _ _ _ _
  refine wp_seq ?_
  refine wp_seq ?_
  rcases rops_mem l.length 0 z (by omega) (List.mem_of_getElem? hz2) with ⟨i, rfl, hi⟩ | rfl
  rotate_left
  · skip
    have h2 := stc_two l (by omega) hz2
    obtain ⟨N, hN⟩ : ∃ N, N + 2 = (stc l k).length := ⟨(stc l k).length - 2, by omega⟩
    obtain ⟨p, hpi⟩ : ∃ x, (stc l k)[N]? = some x := ⟨_, List.getElem?_eq_getElem (by omega)⟩
    obtain ⟨q, hqi⟩ : ∃ x, (stc l k)[N + 1]? = some x := ⟨_, List.getElem?_eq_getElem (by omega)⟩
    have hp : p.length = 32 := hs_len (ow_hs x3) hpi
    have hq : q.length = 32 := hs_len (ow_hs x3) hqi
    obtain ⟨r, er⟩ : ∃ r, Box (nd p q = r) := ⟨_, ⟨rfl⟩⟩
    have hr : r.length = 32 := by rw [← er.out]; exact nd_len _ _
    have hst := stc_node l hz2 hN hpi hqi
    rw [er.out] at hst
    refine wp_all_seq [.eq (.int .i64 (-1)), .eq (.bool false)] (by kernel_rfl) (by kernel_rfl) (by rw [sz]; kernel_rfl) (by kernel_rfl) ⟨fun hw ac u K => ?_, fun hw ac u K => ?_, trivial⟩ ?_
    · exact st_move (.tmp 5) rfl ((K.old 5 rfl).trans x5)
    · exact st_geq 3 (.tmp 19) (.const (.int .i64 0)) rfl .i64 ((-1)) (0) (K.dep 0 19 rfl) rfl _ (by rfl)
    intro f8 w8 A hb
    replace bl0 := bl
    replace x0 := (A.old 0 rfl).trans x0
    replace x2 := (A.old 2 rfl).trans x2
    replace x9 := (A.old 9 rfl).trans x9
    replace x3 := f_at (A.old 3 rfl) (Fk.mono _ _ _ _ x3 hb)
    replace x13 := (A.old 13 rfl).trans x13
    replace x14 := (A.old 14 rfl).trans x14
    replace x15 := (A.old 15 rfl).trans x15
    replace x16 := (A.old 16 rfl).trans x16
    replace x5 := (A.old 5 rfl).trans x5
    have x20 : f8.eval (.tmp 20) = .bool false := A.has 1 20 rfl
    replace bl := (bl.trans (Below.mono hb bl.size))
    replace sz := A.size.trans sz
    replace df := A.defs.trans df
    clear A hb
    show Code.wp _ _ _ _ _
    refine wp_cond_false x20 ?_
    refine wp_skip ?_
    show Code.wp _ _ _ _ _
    refine wp_seq ?_
    refine wp_all_seq [.ow w4.heap.size (stc l k), .eq (.int .i64 (((stc l k).length : Nat) : Int)), .eq (.int .i64 ((N : Nat) : Int)), .eq (.int .i64 ((N : Nat) : Int))] (by kernel_rfl) (by kernel_rfl) (by rw [sz]; kernel_rfl) (by kernel_rfl) ⟨fun hw ac u K => ?_, fun hw ac u K => ?_, fun hw ac u K => ?_, fun hw ac u K => ?_, trivial⟩ ?_
    · exact st_move (.tmp 3) rfl (f_at (K.old 3 rfl) (Fk.mono _ _ _ _ x3 K.grow))
    · exact st_lenh (.tmp 28) rfl (ow_hs (K.dep 0 28 rfl))
    · exact st_sub (.tmp 29) (.const (.int .i64 2)) rfl ((stc l k).length) (2) (N) (K.dep 1 29 rfl) rfl (by omega) (by omega)
    · exact st_assign (.tmp 30) rfl (K.dep 2 30 rfl)
    intro f9 w9 A hb
    replace bl0 := bl
    replace x0 := (A.old 0 rfl).trans x0
    replace x2 := (A.old 2 rfl).trans x2
    replace x9 := (A.old 9 rfl).trans x9
    replace x3 := f_at (A.old 3 rfl) (Fk.mono _ _ _ _ x3 hb)
    replace x13 := (A.old 13 rfl).trans x13
    replace x14 := (A.old 14 rfl).trans x14
    replace x15 := (A.old 15 rfl).trans x15
    replace x16 := (A.old 16 rfl).trans x16
    replace x5 := (A.old 5 rfl).trans x5
    replace x20 := (A.old 20 rfl).trans x20
    have x6 : f9.eval (.tmp 6) = .int .i64 ((N : Nat) : Int) := A.has 3 6 rfl
    replace bl := (bl.trans (Below.mono hb bl.size))
    replace sz := A.size.trans sz
    replace df := A.defs.trans df
    clear A hb
    show Code.wp _ _ _ _ _
    refine wp_seq ?_
    refine wp_seq ?_
    refine wp_all_seq [.eq (.int .i64 ((N : Nat) : Int)), .eq (.bool false)] (by kernel_rfl) (by kernel_rfl) (by rw [sz]; kernel_rfl) (by kernel_rfl) ⟨fun hw ac u K => ?_, fun hw ac u K => ?_, trivial⟩ ?_
    · exact st_move (.tmp 6) rfl ((K.old 6 rfl).trans x6)
    · exact st_lss 3 (.tmp 31) (.const (.int .i64 0)) rfl .i64 (((N : Nat) : Int)) (0) (K.dep 0 31 rfl) rfl _ (by rw [eq_comm, decide_eq_false_iff_not]; omega)
    intro f10 w10 A hb
    replace bl0 := bl
    replace x0 := (A.old 0 rfl).trans x0
    replace x2 := (A.old 2 rfl).trans x2
    replace x9 := (A.old 9 rfl).trans x9
    replace x3 := f_at (A.old 3 rfl) (Fk.mono _ _ _ _ x3 hb)
    replace x13 := (A.old 13 rfl).trans x13
    replace x14 := (A.old 14 rfl).trans x14
    replace x15 := (A.old 15 rfl).trans x15
    replace x16 := (A.old 16 rfl).trans x16
    replace x5 := (A.old 5 rfl).trans x5
    replace x20 := (A.old 20 rfl).trans x20
    replace x6 := (A.old 6 rfl).trans x6
    have x32 : f10.eval (.tmp 32) = .bool false := A.has 1 32 rfl
    replace bl := (bl.trans (Below.mono hb bl.size))
    replace sz := A.size.trans sz
    replace df := A.defs.trans df
    clear A hb
    show Code.wp _ _ _ _ _
    refine wp_cond_false x32 ?_
    refine wp_skip ?_
    show Code.wp _ _ _ _ _
    refine wp_region_tail [.ow w4.heap.size (stc l k), .eq (.int .i64 ((N : Nat) : Int)), .ow w4.heap.size ((stc l k).take (N)), .ow w4.heap.size (stc l k), .eq (.int .i64 ((N : Nat) : Int)), .ph (p), .eq (.agg ((p).map V).toArray), .ow w4.heap.size (stc l k), .eq (.int .i64 ((N : Nat) : Int)), .eq (.int .i64 ((N + 1 : Nat) : Int)), .ph (q), .eq (.agg ((q).map V).toArray), .eq (.agg ((r).map V).toArray), .hs ([r])] [14, 15] Tryd.mixed (by kernel_rfl) (by kernel_rfl) (by kernel_rfl) (by kernel_rfl) (by rw [sz]; kernel_rfl) (by kernel_rfl) ⟨fun hw ac u K => ?_, fun hw ac u K => ?_, fun hw ac u K => ?_, fun hw ac u K => ?_, fun hw ac u K => ?_, fun hw ac u K => ?_, fun hw ac u K => ?_, fun hw ac u K => ?_, fun hw ac u K => ?_, fun hw ac u K => ?_, fun hw ac u K => ?_, fun hw ac u K => ?_, fun hw ac u K => ?_, fun hw ac u K => ?_, trivial⟩ ?_
    · exact st_move (.tmp 3) rfl (f_at (K.old 3 rfl) (Fk.mono _ _ _ _ x3 K.grow))
    · exact st_move (.tmp 6) rfl ((K.old 6 rfl).trans x6)
    · exact st_cutow (.tmp 34) (.tmp 35) rfl (K.dep 0 34 rfl) N (K.dep 1 35 rfl) (by omega)
    · exact st_move (.tmp 3) rfl (f_at (K.old 3 rfl) (Fk.mono _ _ _ _ x3 K.grow))
    · exact st_move (.tmp 6) rfl ((K.old 6 rfl).trans x6)
    · exact st_idxh (.tmp 37) (.tmp 38) rfl (ow_hs (K.dep 3 37 rfl)) (N) (p) (K.dep 4 38 rfl) hpi
    · exact st_loadh (.tmp 39) rfl (K.dep 5 39 rfl)
    · exact st_move (.tmp 3) rfl (f_at (K.old 3 rfl) (Fk.mono _ _ _ _ x3 K.grow))
    · exact st_move (.tmp 6) rfl ((K.old 6 rfl).trans x6)
    · exact st_add (.tmp 42) (.const (.int .i64 1)) rfl (N) (1) (N + 1) (K.dep 8 42 rfl) rfl (by omega) (by omega)
    · exact st_idxh (.tmp 41) (.tmp 43) rfl (ow_hs (K.dep 7 41 rfl)) (N + 1) (q) (K.dep 9 43 rfl) hqi
    · exact st_loadh (.tmp 44) rfl (K.dep 10 44 rfl)
    · exact st_call 22 (.func 22) _ _ #[.agg ((p).map V).toArray, .agg ((q).map V).toArray] rfl rfl (arg2 (K.dep 6 40 rfl) (K.dep 11 45 rfl)) Tryd.enter22 (fk_node hp hq (hK.below (bl.trans (Below.mono K.grow bl.size))) er)
    · exact st_bh1 (.tmp 46) rfl hr (K.dep 12 46 rfl)
    intro f11 w11 A hb
    replace bl0 := bl
    replace x0 := (A.old 0 rfl).trans x0
    replace x2 := (A.old 2 rfl).trans x2
    replace x9 := (A.old 9 rfl).trans x9
    replace x3 := f_at (A.old 3 rfl) (Fk.mono _ _ _ _ x3 hb)
    replace x13 := (A.old 13 rfl).trans x13
    replace x14 := (A.old 14 rfl).trans x14
    replace x15 := (A.old 15 rfl).trans x15
    replace x16 := (A.old 16 rfl).trans x16
    replace x5 := (A.old 5 rfl).trans x5
    replace x20 := (A.old 20 rfl).trans x20
    replace x6 := (A.old 6 rfl).trans x6
    replace x32 := (A.old 32 rfl).trans x32
    have x36 : Fk.f (.ow w4.heap.size ((stc l k).take (N))) (f11.eval (.tmp 36)) w11 := A.has 2 36 rfl
    have x47 : Fk.f (.hs ([r])) (f11.eval (.tmp 47)) w11 := A.has 13 47 rfl
    replace bl := (bl.trans (Below.mono hb bl.size))
    replace sz := A.size.trans sz
    replace df := A.defs.trans df
    clear A hb
    refine wl_append rfl (.tmp 36) (.tmp 47) rfl 48 rfl (by rw [sz]; decide) x36 x47 bl (by rw [List.length_take]; omega) ?_
    intro f12 w12 df2 sz2 old2 new2 bl2
    clear x3
    clear x36
    clear x47
    replace x0 := (old2 0 rfl).trans x0
    replace x2 := (old2 2 rfl).trans x2
    replace x9 := (old2 9 rfl).trans x9
    replace x13 := (old2 13 rfl).trans x13
    replace x14 := (old2 14 rfl).trans x14
    replace x15 := (old2 15 rfl).trans x15
    replace x16 := (old2 16 rfl).trans x16
    replace x5 := (old2 5 rfl).trans x5
    replace x20 := (old2 20 rfl).trans x20
    replace x6 := (old2 6 rfl).trans x6
    replace x32 := (old2 32 rfl).trans x32
    have x48 : Fk.f (.ow w4.heap.size ((stc l k).take (N) ++ [r])) (f12.eval (.tmp 48)) w12 := new2
    replace bl := bl2
    replace bl0 := bl
    replace sz := sz2.trans sz
    replace df := df2.trans df
    clear df2 sz2 old2 new2 bl2
    refine wl_one (.ow w4.heap.size ((stc l k).take (N) ++ [r])) rfl 3 rfl (by rw [sz]; decide) (st_assign (.tmp 48) rfl x48) ?_
    intro f13 w13 df2 sz2 old2 new2 hb
    replace bl0 := bl
    replace x0 := (old2 0 rfl).trans x0
    replace x2 := (old2 2 rfl).trans x2
    replace x9 := (old2 9 rfl).trans x9
    replace x13 := (old2 13 rfl).trans x13
    replace x14 := (old2 14 rfl).trans x14
    replace x15 := (old2 15 rfl).trans x15
    replace x16 := (old2 16 rfl).trans x16
    replace x5 := (old2 5 rfl).trans x5
    replace x20 := (old2 20 rfl).trans x20
    replace x6 := (old2 6 rfl).trans x6
    replace x32 := (old2 32 rfl).trans x32
    replace x48 := f_at (old2 48 rfl) (Fk.mono _ _ _ _ x48 hb)
    have x3 : Fk.f (.ow w4.heap.size ((stc l k).take (N) ++ [r])) (f13.eval (.tmp 3)) w13 := new2
    replace bl := (bl.trans (Below.mono hb bl.size))
    replace sz := sz2.trans sz
    replace df := df2.trans df
    clear df2 sz2 old2 new2 hb
    refine wpList_nil ?_
    clear x48
    show Code.wp _ _ _ _ _
    refine wp_region_seq [.eq (.int .i64 ((k + 1 : Nat) : Int))] (by kernel_rfl) (by kernel_rfl) (by rw [sz]; kernel_rfl) (by kernel_rfl) ⟨fun hw ac u K => ?_, trivial⟩ ?_
    · exact st_add (.tmp 15) (.const (.int .i64 1)) rfl (k) (1) (k + 1) ((K.old 15 rfl).trans x15) rfl (by omega) (by omega)
    intro f14 w14 A hb
    replace bl0 := bl
    replace x0 := (A.old 0 rfl).trans x0
    replace x2 := (A.old 2 rfl).trans x2
    replace x9 := (A.old 9 rfl).trans x9
    replace x13 := (A.old 13 rfl).trans x13
    replace x14 := (A.old 14 rfl).trans x14
    replace x15 := (A.old 15 rfl).trans x15
    replace x16 := (A.old 16 rfl).trans x16
    replace x5 := (A.old 5 rfl).trans x5
    replace x20 := (A.old 20 rfl).trans x20
    replace x6 := (A.old 6 rfl).trans x6
    replace x32 := (A.old 32 rfl).trans x32
    replace x3 := f_at (A.old 3 rfl) (Fk.mono _ _ _ _ x3 hb)
    have x49 : f14.eval (.tmp 49) = .int .i64 ((k + 1 : Nat) : Int) := A.has 0 49 rfl
    replace bl := (bl.trans (Below.mono hb bl.size))
    replace sz := A.size.trans sz
    replace df := A.defs.trans df
    clear A hb
    refine wl_one (.eq (.int .i64 ((k + 1 : Nat) : Int))) rfl 15 rfl (by rw [sz]; decide) (st_move (.tmp 49) rfl x49) ?_
    intro f15 w15 df2 sz2 old2 new2 hb
    replace bl0 := bl
    replace x0 := (old2 0 rfl).trans x0
    replace x2 := (old2 2 rfl).trans x2
    replace x9 := (old2 9 rfl).trans x9
    replace x13 := (old2 13 rfl).trans x13
    replace x14 := (old2 14 rfl).trans x14
    clear x15
    replace x16 := (old2 16 rfl).trans x16
    replace x5 := (old2 5 rfl).trans x5
    replace x20 := (old2 20 rfl).trans x20
    replace x6 := (old2 6 rfl).trans x6
    replace x32 := (old2 32 rfl).trans x32
    replace x3 := f_at (old2 3 rfl) (Fk.mono _ _ _ _ x3 hb)
    replace x49 := (old2 49 rfl).trans x49
    have x15 : f15.eval (.tmp 15) = .int .i64 ((k + 1 : Nat) : Int) := new2
    replace bl := (bl.trans (Below.mono hb bl.size))
    replace sz := sz2.trans sz
    replace df := df2.trans df
    clear df2 sz2 old2 new2 hb
    refine wpList_nil ?_
    clear x49
    show (∃ _, _) ∧ _
    replace x3 : Fk.f (.ow w4.heap.size (stc l (k + 1))) (f15.eval (.tmp 3)) w15 := (by rw [hst]; exact x3)
    refine ⟨⟨k + 1, by omega, sz, df, x0, x2, x9, x13, x14, x15, x3, bl⟩, ?_⟩
    rw [show f15.eval (.tmp 15) = _ from x15, show _ = _ from hcnt]
    simp [intOf]
    omega
  obtain ⟨x, hxi⟩ : ∃ x, l[i]? = some x := ⟨_, List.getElem?_eq_getElem (by omega)⟩
  have hx : x.length = 32 := hs_len hvs hxi
  have hst := stc_put l hz2 hxi
  refine wp_all_seq [.eq (.int .i64 ((i : Nat) : Int)), .eq (.bool true)] (by kernel_rfl) (by kernel_rfl) (by rw [sz]; kernel_rfl) (by kernel_rfl) ⟨fun hw ac u K => ?_, fun hw ac u K => ?_, trivial⟩ ?_
  · exact st_move (.tmp 5) rfl ((K.old 5 rfl).trans x5)
  · exact st_geq 3 (.tmp 19) (.const (.int .i64 0)) rfl .i64 (((i : Nat) : Int)) (0) (K.dep 0 19 rfl) rfl _ (by rw [eq_comm, decide_eq_true_iff]; omega)
  intro f8 w8 A hb
  replace bl0 := bl
  replace x0 := (A.old 0 rfl).trans x0
  replace x2 := (A.old 2 rfl).trans x2
  replace x9 := (A.old 9 rfl).trans x9
  replace x3 := f_at (A.old 3 rfl) (Fk.mono _ _ _ _ x3 hb)
  replace x13 := (A.old 13 rfl).trans x13
  replace x14 := (A.old 14 rfl).trans x14
  replace x15 := (A.old 15 rfl).trans x15
  replace x16 := (A.old 16 rfl).trans x16
  replace x5 := (A.old 5 rfl).trans x5
  have x20 : f8.eval (.tmp 20) = .bool true := A.has 1 20 rfl
  replace bl := (bl.trans (Below.mono hb bl.size))
  replace sz := A.size.trans sz
  replace df := A.defs.trans df
  clear A hb
  show Code.wp _ _ _ _ _
  refine wp_cond_true x20 ?_
  refine wp_seq ?_
  refine wp_region_seq [.ow w4.heap.size (stc l k), .eq (v), .eq (.int .i64 ((i : Nat) : Int)), .ph (x), .eq (.agg ((x).map V).toArray), .hs ([x])] (by kernel_rfl) (by kernel_rfl) (by rw [sz]; kernel_rfl) (by kernel_rfl) ⟨fun hw ac u K => ?_, fun hw ac u K => ?_, fun hw ac u K => ?_, fun hw ac u K => ?_, fun hw ac u K => ?_, fun hw ac u K => ?_, trivial⟩ ?_
  · exact st_move (.tmp 3) rfl (f_at (K.old 3 rfl) (Fk.mono _ _ _ _ x3 K.grow))
  · exact st_move (.tmp 0) rfl ((K.old 0 rfl).trans x0)
  · exact st_move (.tmp 5) rfl ((K.old 5 rfl).trans x5)
  · exact st_idxh (.tmp 22) (.tmp 23) rfl (fk_val (K.dep 1 22 rfl) (Fk.mono _ _ _ _ hvs (bl.trans (Below.mono K.grow bl.size)))) (i) (x) (K.dep 2 23 rfl) hxi
  · exact st_loadh (.tmp 24) rfl (K.dep 3 24 rfl)
  · exact st_bh1 (.tmp 25) rfl hx (K.dep 4 25 rfl)
  intro f9 w9 A hb
  replace bl0 := bl
  replace x0 := (A.old 0 rfl).trans x0
  replace x2 := (A.old 2 rfl).trans x2
  replace x9 := (A.old 9 rfl).trans x9
  replace x3 := f_at (A.old 3 rfl) (Fk.mono _ _ _ _ x3 hb)
  replace x13 := (A.old 13 rfl).trans x13
  replace x14 := (A.old 14 rfl).trans x14
  replace x15 := (A.old 15 rfl).trans x15
  replace x16 := (A.old 16 rfl).trans x16
  replace x5 := (A.old 5 rfl).trans x5
  replace x20 := (A.old 20 rfl).trans x20
  have x21 : Fk.f (.ow w4.heap.size (stc l k)) (f9.eval (.tmp 21)) w9 := A.has 0 21 rfl
  have x26 : Fk.f (.hs ([x])) (f9.eval (.tmp 26)) w9 := A.has 5 26 rfl
  replace bl := (bl.trans (Below.mono hb bl.size))
  replace sz := A.size.trans sz
  replace df := A.defs.trans df
  clear A hb
  refine wl_append rfl (.tmp 21) (.tmp 26) rfl 27 rfl (by rw [sz]; decide) x21 x26 bl (by omega) ?_
  intro f10 w10 df2 sz2 old2 new2 bl2
  clear x3
  clear x21
  clear x26
  replace x0 := (old2 0 rfl).trans x0
  replace x2 := (old2 2 rfl).trans x2
  replace x9 := (old2 9 rfl).trans x9
  replace x13 := (old2 13 rfl).trans x13
  replace x14 := (old2 14 rfl).trans x14
  replace x15 := (old2 15 rfl).trans x15
  replace x16 := (old2 16 rfl).trans x16
  replace x5 := (old2 5 rfl).trans x5
  replace x20 := (old2 20 rfl).trans x20
  have x27 : Fk.f (.ow w4.heap.size (stc l k ++ [x])) (f10.eval (.tmp 27)) w10 := new2
  replace bl := bl2
  replace bl0 := bl
  replace sz := sz2.trans sz
  replace df := df2.trans df
  clear df2 sz2 old2 new2 bl2
  refine wl_one (.ow w4.heap.size (stc l k ++ [x])) rfl 3 rfl (by rw [sz]; decide) (st_assign (.tmp 27) rfl x27) ?_
  intro f11 w11 df2 sz2 old2 new2 hb
  replace bl0 := bl
  replace x0 := (old2 0 rfl).trans x0
  replace x2 := (old2 2 rfl).trans x2
  replace x9 := (old2 9 rfl).trans x9
  replace x13 := (old2 13 rfl).trans x13
  replace x14 := (old2 14 rfl).trans x14
  replace x15 := (old2 15 rfl).trans x15
  replace x16 := (old2 16 rfl).trans x16
  replace x5 := (old2 5 rfl).trans x5
  replace x20 := (old2 20 rfl).trans x20
  replace x27 := f_at (old2 27 rfl) (Fk.mono _ _ _ _ x27 hb)
  have x3 : Fk.f (.ow w4.heap.size (stc l k ++ [x])) (f11.eval (.tmp 3)) w11 := new2
  replace bl := (bl.trans (Below.mono hb bl.size))
  replace sz := sz2.trans sz
  replace df := df2.trans df
  clear df2 sz2 old2 new2 hb
  refine wpList_nil ?_
  clear x27
  show Code.wp _ _ _ _ _
  refine wp_exit ?_
  show Code.wp _ _ _ _ _
  refine wp_region_seq [.eq (.int .i64 ((k + 1 : Nat) : Int))] (by kernel_rfl) (by kernel_rfl) (by rw [sz]; kernel_rfl) (by kernel_rfl) ⟨fun hw ac u K => ?_, trivial⟩ ?_
  · exact st_add (.tmp 15) (.const (.int .i64 1)) rfl (k) (1) (k + 1) ((K.old 15 rfl).trans x15) rfl (by omega) (by omega)
  intro f12 w12 A hb
  replace bl0 := bl
  replace x0 := (A.old 0 rfl).trans x0
  replace x2 := (A.old 2 rfl).trans x2
  replace x9 := (A.old 9 rfl).trans x9
  replace x13 := (A.old 13 rfl).trans x13
  replace x14 := (A.old 14 rfl).trans x14
  replace x15 := (A.old 15 rfl).trans x15
  replace x16 := (A.old 16 rfl).trans x16
  replace x5 := (A.old 5 rfl).trans x5
  replace x20 := (A.old 20 rfl).trans x20
  replace x3 := f_at (A.old 3 rfl) (Fk.mono _ _ _ _ x3 hb)
  have x49 : f12.eval (.tmp 49) = .int .i64 ((k + 1 : Nat) : Int) := A.has 0 49 rfl
  replace bl := (bl.trans (Below.mono hb bl.size))
  replace sz := A.size.trans sz
  replace df := A.defs.trans df
  clear A hb
  refine wl_one (.eq (.int .i64 ((k + 1 : Nat) : Int))) rfl 15 rfl (by rw [sz]; decide) (st_move (.tmp 49) rfl x49) ?_
  intro f13 w13 df2 sz2 old2 new2 hb
  replace bl0 := bl
  replace x0 := (old2 0 rfl).trans x0
  replace x2 := (old2 2 rfl).trans x2
  replace x9 := (old2 9 rfl).trans x9
  replace x13 := (old2 13 rfl).trans x13
  replace x14 := (old2 14 rfl).trans x14
  clear x15
  replace x16 := (old2 16 rfl).trans x16
  replace x5 := (old2 5 rfl).trans x5
  replace x20 := (old2 20 rfl).trans x20
  replace x3 := f_at (old2 3 rfl) (Fk.mono _ _ _ _ x3 hb)
  replace x49 := (old2 49 rfl).trans x49
  have x15 : f13.eval (.tmp 15) = .int .i64 ((k + 1 : Nat) : Int) := new2
  replace bl := (bl.trans (Below.mono hb bl.size))
  replace sz := sz2.trans sz
  replace df := df2.trans df
  clear df2 sz2 old2 new2 hb
  refine wpList_nil ?_
  clear x49
  show (∃ _, _) ∧ _
  replace x3 : Fk.f (.ow w4.heap.size (stc l (k + 1))) (f13.eval (.tmp 3)) w13 := (by rw [hst]; exact x3)
  refine ⟨⟨k + 1, by omega, sz, df, x0, x2, x9, x13, x14, x15, x3, bl⟩, ?_⟩
  rw [show f13.eval (.tmp 15) = _ from x15, show _ = _ from hcnt]
  simp [intOf]
  omega
theorem lroot_any {l : List (List (BitVec 8))} (h400 : l.length ≤ 400) (w : World) {v : Value} (hv : (Fk.hc l).f v w) (hK : Tab w) {y : List (BitVec 8)} (ey : Box (mroot l = y)) :
    Calls Tryd.prog 11 #[v] w fun e w' => e = .returned (.agg ((y).map V).toArray) ∧ Below w.heap.size w w' := by
  by_cases h0 : l.length = 0
  · obtain rfl := List.eq_nil_of_length_eq_zero h0
    exact lroot_nil w hv hK ey
  · exact lroot_pos (by omega) h400 w hv hK ey
end Go.Proofs.YtnppjlpnfijobaaDoor
namespace Go.Proofs.YtnppjlpnfijobaaDoor
set_option maxRecDepth 100000
open Go.RowKit
section
variable {P : Program} {ops : Array Oper} {Q : Exit → Act → World → Prop}
end
end Go.Proofs.YtnppjlpnfijobaaDoor
namespace Go.Proofs.YtnppjlpnfijobaaDoor
set_option maxRecDepth 100000
open Go.RowKit
section
variable {P : Program} {ops : Array Oper} {Q : Exit → Act → World → Prop} {S : World → Prop} {o : Oper} {a : Act}
theorem wh_take (i : Nat) (d : Nat) {v : Value} {fuel : Nat} {listed : Array Bool} {w : World} (hi : ops[i]? = some o) (hd : o.dst = some d) (hsz : d < a.tmps.size) (hg : o.guard = none)
    (hs : Region.noSelect ops = true) (hf : Region.free .any ops listed i = true) (hr : (Region.ready .any ops listed).contains i = true)
    (hQ : ∀ c a w, Q (.panic c) (a.put o.dst v) w → Q (.panic c) a w) (hy : ∀ w, S w → (execOp a.eval o).run P w = .ok (.value v) w) (hS : S w)
    (h : ∀ a2, a2.defers = a.defers → a2.tmps.size = a.tmps.size → (∀ t, (t == d) = false → a2.eval (.tmp t) = a.eval (.tmp t)) → a2.eval (.tmp d) = v → wpAnyH P .any ops Q S fuel (listed.setIfInBounds i true) a2 w) : wpAnyH P .any ops Q S (fuel + 1) listed a w := by
  refine wpAnyH_take hi hs hf hr hQ (.inl ⟨by unfold Region.wanted; rw [hg], hy⟩) hS ?_
  rw [hd]
  exact h _ (put_def _ _ _) (put_size _ _ _) (fun t ht => put_eval_other _ _ _ _ (fun e => by subst e; simp at ht)) (put_eval_same _ _ _ hsz)
theorem wh_call (i : Nat) (d : Nat) {fuel : Nat} {listed : Array Bool} {w : World} (hi : ops[i]? = some o) (hd : o.dst = some d) (hsz : d < a.tmps.size) (hg : o.guard = none) (hr : (Region.ready .any ops listed == [i]) = true)
    (f : FuncId) (x : Operand) (xs : Array Operand) (ts : Array TypeId) (vs : Array Value) (ho : o.op = .call { callee := .value x, args := xs, argTypes := ts }) (hx : a.eval x = .func (.func f) #[] #[]) (hv : (xs.toList.map a.eval).toArray = vs)
    (hf : ∀ args w, (callFunc f args).run P w = .ok (.enter f args) w) (R : Value → World → Prop) (hc : Calls P f vs w fun e w' => ∃ v, e = .returned v ∧ R v w')
    (h : ∀ a2 w2, a2.defers = a.defers → a2.tmps.size = a.tmps.size → (∀ t, (t == d) = false → a2.eval (.tmp t) = a.eval (.tmp t)) → R (a2.eval (.tmp d)) w2 → S w2 ∧ wpAnyH P .any ops Q S fuel (listed.setIfInBounds i true) a2 w2) : wpAnyH P .any ops Q S (fuel + 1) listed a w := by
  refine wpAnyH_all (eq_of_beq hr) (by simp) (fun j hj => ?_)
  obtain rfl : j = i := by simpa using hj
  have hrun : (execOp a.eval o).run P w = .ok (.enter f vs) w := by
    have hv' : xs.map a.eval = vs := by rw [← hv]; apply Array.toList_inj.1; simp
    unfold execOp; rw [ho]
    simp [resolve, hx, Deferred.ofValue, invoke, hv', hf]
  unfold wpOp
  rw [hi]
  show if Region.wanted o (yielded ops a.tmps) = true then _ else _
  rw [if_pos (by unfold Region.wanted; rw [hg])]
  refine .inl ?_
  unfold Oper.wp; rw [hrun]
  refine Calls.mono hc ?_
  rintro e w' ⟨v, rfl, h1⟩
  rw [hd]
  refine h _ _ (put_def _ _ _) (put_size _ _ _) (fun t ht => put_eval_other _ _ _ _ (fun e => by subst e; simp at ht)) ?_
  rw [put_eval_same _ _ _ hsz]
  exact h1
theorem wh_assign (i : Nat) (d : Nat) {fuel : Nat} {listed : Array Bool} {w : World} (hi : ops[i]? = some o) (hd : o.dst = some d) (hsz : d < a.tmps.size) (hg : o.guard = none) (hr : (Region.ready .any ops listed == [i]) = true) (x : Operand) (ho : o.op = .assign x) (hS : S w)
    (h : ∀ a2, a2.defers = a.defers → a2.tmps.size = a.tmps.size → (∀ t, (t == d) = false → a2.eval (.tmp t) = a.eval (.tmp t)) → a2.eval (.tmp d) = a.eval x → wpAnyH P .any ops Q S fuel (listed.setIfInBounds i true) a2 w) : wpAnyH P .any ops Q S (fuel + 1) listed a w := by
  refine wpAnyH_all (eq_of_beq hr) (by simp) (fun j hj => ?_)
  obtain rfl : j = i := by simpa using hj
  unfold wpOp
  rw [hi]
  show if Region.wanted o (yielded ops a.tmps) = true then _ else _
  rw [if_pos (by unfold Region.wanted; rw [hg])]
  refine .inl ?_
  unfold Oper.wp execOp
  rw [ho]
  show S w ∧ wpAnyH P .any ops Q S fuel _ (a.put o.dst (a.eval x)) w
  rw [hd]
  exact ⟨hS, h _ (put_def _ _ _) (put_size _ _ _) (fun t ht => put_eval_other _ _ _ _ (fun e => by subst e; simp at ht)) (put_eval_same _ _ _ hsz)⟩
theorem run_field {T f : Nat} {x : Operand} (ho : o.op = .fieldAddr T x f) {p r : Addr} (hx : a.eval x = .pointer (some p)) (hr : ∀ w, (Instr.fieldAt T (.pointer (some p)) f).run P w = .ok (.pointer (some r)) w) : ∀ w, S w → (execOp a.eval o).run P w = .ok (.value (.pointer (some r))) w := by
  intro w _
  unfold execOp
  rw [ho]
  simp [hx, hr]
theorem run_loadc {T : TypeId} {x : Operand} (ho : o.op = .load T x) (h1 : ∀ w, (isAgg T).run P w = .ok false w) {p : Addr} {u : Value} (hx : a.eval x = .pointer (some p)) (hc : ∀ w, S w → w.cell? p = some u) : ∀ w, S w → (execOp a.eval o).run P w = .ok (.value u) w := by
  intro w hS
  unfold execOp
  rw [ho]
  simp [hx, Instr.loadAt, Instr.sureAddr, loadVar, h1, run_load, hc w hS]
theorem run_mv {x : Operand} (ho : o.op = .move x) {v : Value} (hx : a.eval x = v) : ∀ w, S w → (execOp a.eval o).run P w = .ok (.value v) w := by
  intro w _
  unfold execOp
  rw [ho, ← hx]
  rfl
end
end Go.Proofs.YtnppjlpnfijobaaDoor
