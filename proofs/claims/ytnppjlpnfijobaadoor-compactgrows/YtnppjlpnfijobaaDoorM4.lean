/- How many bits a number has (math/bits.Len, Len64). Split, and the reference's. Slices of numbers, and of pairs of numbers: of the call's own, and to be read. The reference's Count and Peaks. The reference's Root. Roots, plainly. An own slice of hashes that is cut is an own slice. -/
import Derived.Test.YtnppjlpnfijobaaDoorM3
namespace Go.Proofs.YtnppjlpnfijobaaDoor
set_option maxRecDepth 100000
open Go.RowKit
theorem Tryd.under72 : Tryd.prog.underlying 72 = some (.int .u64) := by kernel_rfl
section
variable {Q : Exit → Act → World → Prop} {o : Oper} {a : Act} {w : World}
theorem st_conv (t1 t2 : TypeId) (x : Operand) (ho : o.op = .convert t1 t2 x) (k1 k2 : IntKind) (z z2 : Int) (hx : a.eval x = .int k1 z) (h1 : Tryd.prog.underlying t1 = some (.int k1)) (h2 : Tryd.prog.underlying t2 = some (.int k2)) (hw : k2.wrap z = z2) : o.wp Tryd.prog a w (Ends a o.dst w (Fk.eq (.int k2 z2)).f) Q := by
  refine st_pure (v := .int k2 z2) ?_ rfl
  unfold execOp
  rw [ho]
  simp [hx, convert, run_underlying h1, run_underlying h2, Conv.intToInt, hw]
theorem st_shru (t t2 : TypeId) (x y : Operand) (ho : o.op = .binOp .shr t x y t2) (m k : Nat) (hx : a.eval x = .int .u64 (m : Int)) (hy : a.eval y = .int .u64 (k : Int)) (e : Nat) (he : e = m / 2 ^ k) (hk : k ≤ 63) : o.wp Tryd.prog a w (Ends a o.dst w (Fk.eq (.int .u64 (e : Int))).f) Q := by
  refine st_bin .shr t t2 x y ho hx hy ?_
  have hw : (m : Int) / 2 ^ k = (e : Int) := by rw [he]; simp
  simp [eqGuard, binOp, hw]
  try omega
end
end Go.Proofs.YtnppjlpnfijobaaDoor
namespace Go.Proofs.YtnppjlpnfijobaaDoor
set_option maxRecDepth 100000
open Go.RowKit
section
variable {Q : Exit → Act → World → Prop} {o : Oper} {a : Act} {w : World}
theorem st_addz (x y : Operand) (ho : o.op = .binOp .add 3 x y 3) (m n e : Int) (hx : a.eval x = .int .i64 m) (hy : a.eval y = .int .i64 n) (he : e = m + n) (h1 : -9223372036854775808 ≤ e) (h2 : e ≤ 9223372036854775807) : o.wp Tryd.prog a w (Ends a o.dst w (Fk.eq (.int .i64 e)).f) Q := by
  refine st_bin .add 3 3 x y ho hx hy ?_
  have hw : IntKind.i64.wrap (m + n) = e := by rw [IntKind.wrap_i64]; omega
  simp [eqGuard, binOp, Op.intArith, hw]
theorem st_subz (x y : Operand) (ho : o.op = .binOp .sub 3 x y 3) (m n e : Int) (hx : a.eval x = .int .i64 m) (hy : a.eval y = .int .i64 n) (he : e = m - n) (h1 : -9223372036854775808 ≤ e) (h2 : e ≤ 9223372036854775807) : o.wp Tryd.prog a w (Ends a o.dst w (Fk.eq (.int .i64 e)).f) Q := by
  refine st_bin .sub 3 3 x y ho hx hy ?_
  have hw : IntKind.i64.wrap (m - n) = e := by rw [IntKind.wrap_i64]; omega
  simp [eqGuard, binOp, Op.intArith, hw]
theorem st_mulz (x y : Operand) (ho : o.op = .binOp .mul 3 x y 3) (m n e : Int) (hx : a.eval x = .int .i64 m) (hy : a.eval y = .int .i64 n) (he : e = m * n) (h1 : -9223372036854775808 ≤ e) (h2 : e ≤ 9223372036854775807) : o.wp Tryd.prog a w (Ends a o.dst w (Fk.eq (.int .i64 e)).f) Q := by
  refine st_bin .mul 3 3 x y ho hx hy ?_
  have hw : IntKind.i64.wrap (m * n) = e := by rw [IntKind.wrap_i64, ← he]; omega
  simp [eqGuard, binOp, Op.intArith, hw]
end
theorem rsplit_any (n : Nat) (h2 : 2 ≤ n) (h3 : n ≤ 1152921504606846976) (w : World) :
    Calls Tryd.prog 45 #[.int .i64 ((n : Nat) : Int)] w fun e w' => e = .returned (.int .i64 ((spl n : Nat) : Int)) ∧ Below w.heap.size w w' := by
  go_enter Tryd.func45, Tryd.ntmps45
  refine code_both (fun f w1 => f.tmps.size = 11 ∧ f.defers = [] ∧ f.eval (.tmp 0) = .int .i64 ((n : Nat) : Int) ∧ Below w.heap.size w (w1)) ⟨rfl, rfl, rfl, Below.refl _ _⟩ ?_
  rintro f0 w0 ⟨sz, df, x0, bl⟩
  have bl0 := bl
  refine wp_seq ?_
  refine wp_all_seq [.eq (.int .i64 0)] (by kernel_rfl) (by kernel_rfl) (by rw [sz]; kernel_rfl) (by kernel_rfl) ⟨fun hw ac u K => ?_, trivial⟩ ?_
  · exact st_assign (.const (.int .i64 0)) rfl rfl
  intro f1 w1 A hb
  replace bl0 := bl
  replace x0 := (A.old 0 rfl).trans x0
  have x2 : f1.eval (.tmp 2) = .int .i64 0 := A.has 0 2 rfl
  replace bl := (bl.trans (Below.mono hb bl.size))
  replace sz := A.size.trans sz
  replace df := A.defs.trans df
  clear A hb
  show Code.wp _ _ _ _ _
  refine wp_seq ?_
  refine wp_all_seq [.eq (.int .i64 1)] (by kernel_rfl) (by kernel_rfl) (by rw [sz]; kernel_rfl) (by kernel_rfl) ⟨fun hw ac u K => ?_, trivial⟩ ?_
  · exact st_assign (.const (.int .i64 1)) rfl rfl
  intro f2 w2 A hb
  replace bl0 := bl
  replace x0 := (A.old 0 rfl).trans x0
  replace x2 := (A.old 2 rfl).trans x2
  have x3 : f2.eval (.tmp 3) = .int .i64 1 := A.has 0 3 rfl
  replace bl := (bl.trans (Below.mono hb bl.size))
  replace sz := A.size.trans sz
  replace df := A.defs.trans df
  clear A hb
  show Code.wp _ _ _ _ _
  refine wp_seq ?_
  refine wp_block ?_
  refine wp_loop (fun f v1 => ∃ j : Nat, (2 ^ j < n ∨ j = 0) ∧ f.tmps.size = 11 ∧ f.defers = [] ∧ f.eval (.tmp 0) = .int .i64 ((n : Nat) : Int) ∧ f.eval (.tmp 2) = .int .i64 0 ∧ f.eval (.tmp 3) = .int .i64 ((2 ^ j : Nat) : Int) ∧ Below w.heap.size w (v1)) (fun f _ => n - (intOf (f.eval (.tmp 3))).toNat) ⟨0, .inr rfl, sz, df, x0, x2, x3, bl⟩ ?_
  intro f3 w3 hI
  clear sz df bl bl0 x0 x2 x3
  obtain ⟨j, hj, sz, df, x0, x2, x3, bl⟩ := hI
  have bl0 := bl
  refine wp_seq ?_
  refine wp_seq ?_
  have hcnt := x3
  have hp : 2 ^ j ≤ n := by rcases hj with hj | rfl <;> omega
  have hp1 : 1 ≤ 2 ^ j := Nat.one_le_two_pow
  by_cases hlt : 2 * 2 ^ j < n
  rotate_left
  · skip
    have hsp : spl n = 2 ^ j := spl_one (by rcases hj with hj | rfl <;> omega) (by omega)
    refine wp_all_seq [.eq (.int .i64 ((2 ^ j : Nat) : Int)), .eq (.int .i64 ((2 * 2 ^ j : Nat) : Int)), .eq (.int .i64 ((n : Nat) : Int)), .eq (.bool false)] (by kernel_rfl) (by kernel_rfl) (by rw [sz]; kernel_rfl) (by kernel_rfl) ⟨fun hw ac u K => ?_, fun hw ac u K => ?_, fun hw ac u K => ?_, fun hw ac u K => ?_, trivial⟩ ?_
    · exact st_move (.tmp 3) rfl ((K.old 3 rfl).trans x3)
    · exact st_mulz (.const (.int .i64 2)) (.tmp 4) rfl 2 _ _ rfl (K.dep 0 4 rfl) (Int.natCast_mul 2 (2 ^ j)) (by omega) (by omega)
    · exact st_move (.tmp 0) rfl ((K.old 0 rfl).trans x0)
    · exact st_lss 3 (.tmp 5) (.tmp 6) rfl .i64 (((2 * 2 ^ j : Nat) : Int)) (((n : Nat) : Int)) (K.dep 1 5 rfl) (K.dep 2 6 rfl) _ (by rw [eq_comm, decide_eq_false_iff_not]; exact fun h => hlt (Int.ofNat_lt.1 h))
    intro f4 w4 A hb
    replace bl0 := bl
    replace x0 := (A.old 0 rfl).trans x0
    replace x2 := (A.old 2 rfl).trans x2
    replace x3 := (A.old 3 rfl).trans x3
    have x7 : f4.eval (.tmp 7) = .bool false := A.has 3 7 rfl
    replace bl := (bl.trans (Below.mono hb bl.size))
    replace sz := A.size.trans sz
    replace df := A.defs.trans df
    clear A hb
    show Code.wp _ _ _ _ _
    refine wp_cond_false x7 ?_
    refine wp_exit ?_
    show Code.wp _ _ _ _ _
    refine wp_seq ?_
    refine wp_all_seq [.eq (.int .i64 ((2 ^ j : Nat) : Int)), .eq (.int .i64 ((2 ^ j : Nat) : Int))] (by kernel_rfl) (by kernel_rfl) (by rw [sz]; kernel_rfl) (by kernel_rfl) ⟨fun hw ac u K => ?_, fun hw ac u K => ?_, trivial⟩ ?_
    · exact st_move (.tmp 3) rfl ((K.old 3 rfl).trans x3)
    · exact st_assign (.tmp 10) rfl (K.dep 0 10 rfl)
    intro f5 w5 A hb
    replace bl0 := bl
    replace x0 := (A.old 0 rfl).trans x0
    clear x2
    replace x3 := (A.old 3 rfl).trans x3
    replace x7 := (A.old 7 rfl).trans x7
    have x2 : f5.eval (.tmp 2) = .int .i64 ((2 ^ j : Nat) : Int) := A.has 1 2 rfl
    replace bl := (bl.trans (Below.mono hb bl.size))
    replace sz := A.size.trans sz
    replace df := A.defs.trans df
    clear A hb
    show Code.wp _ _ _ _ _
    refine wp_ret ?_
    repeat (first | with_reducible refine then_ret ?_ | with_reducible refine block_ret ?_)
    rw [← hsp] at x2
    exact bodyPost_ret (v := .int .i64 ((spl n : Nat) : Int)) (ret_slot rfl f5 _ x2 _ _) df ⟨rfl, bl⟩
  refine wp_all_seq [.eq (.int .i64 ((2 ^ j : Nat) : Int)), .eq (.int .i64 ((2 * 2 ^ j : Nat) : Int)), .eq (.int .i64 ((n : Nat) : Int)), .eq (.bool true)] (by kernel_rfl) (by kernel_rfl) (by rw [sz]; kernel_rfl) (by kernel_rfl) ⟨fun hw ac u K => ?_, fun hw ac u K => ?_, fun hw ac u K => ?_, fun hw ac u K => ?_, trivial⟩ ?_
  · exact st_move (.tmp 3) rfl ((K.old 3 rfl).trans x3)
  · exact st_mulz (.const (.int .i64 2)) (.tmp 4) rfl 2 _ _ rfl (K.dep 0 4 rfl) (Int.natCast_mul 2 (2 ^ j)) (by omega) (by omega)
  · exact st_move (.tmp 0) rfl ((K.old 0 rfl).trans x0)
  · exact st_lss 3 (.tmp 5) (.tmp 6) rfl .i64 (((2 * 2 ^ j : Nat) : Int)) (((n : Nat) : Int)) (K.dep 1 5 rfl) (K.dep 2 6 rfl) _ (by rw [eq_comm, decide_eq_true_iff]; exact Int.ofNat_lt.2 hlt)
  intro f4 w4 A hb
  replace bl0 := bl
  replace x0 := (A.old 0 rfl).trans x0
  replace x2 := (A.old 2 rfl).trans x2
  replace x3 := (A.old 3 rfl).trans x3
  have x7 : f4.eval (.tmp 7) = .bool true := A.has 3 7 rfl
  replace bl := (bl.trans (Below.mono hb bl.size))
  replace sz := A.size.trans sz
  replace df := A.defs.trans df
  clear A hb
  show Code.wp _ _ _ _ _
  refine wp_cond_true x7 ?_
  refine wp_skip ?_
  show Code.wp _ _ _ _ _
  refine wp_block ?_
  refine wp_region_seq [.eq (.int .i64 ((2 ^ j : Nat) : Int)), .eq (.int .i64 ((2 * 2 ^ j : Nat) : Int))] (by kernel_rfl) (by kernel_rfl) (by rw [sz]; kernel_rfl) (by kernel_rfl) ⟨fun hw ac u K => ?_, fun hw ac u K => ?_, trivial⟩ ?_
  · exact st_move (.tmp 3) rfl ((K.old 3 rfl).trans x3)
  · exact st_mulz (.const (.int .i64 2)) (.tmp 8) rfl 2 _ _ rfl (K.dep 0 8 rfl) (Int.natCast_mul 2 (2 ^ j)) (by omega) (by omega)
  intro f5 w5 A hb
  replace bl0 := bl
  replace x0 := (A.old 0 rfl).trans x0
  replace x2 := (A.old 2 rfl).trans x2
  replace x3 := (A.old 3 rfl).trans x3
  replace x7 := (A.old 7 rfl).trans x7
  have x9 : f5.eval (.tmp 9) = .int .i64 ((2 * 2 ^ j : Nat) : Int) := A.has 1 9 rfl
  replace bl := (bl.trans (Below.mono hb bl.size))
  replace sz := A.size.trans sz
  replace df := A.defs.trans df
  clear A hb
  refine wl_one (.eq (.int .i64 ((2 * 2 ^ j : Nat) : Int))) rfl 3 rfl (by rw [sz]; decide) (st_assign (.tmp 9) rfl x9) ?_
  intro f6 w6 df2 sz2 old2 new2 hb
  replace bl0 := bl
  replace x0 := (old2 0 rfl).trans x0
  replace x2 := (old2 2 rfl).trans x2
  clear x3
  replace x7 := (old2 7 rfl).trans x7
  replace x9 := (old2 9 rfl).trans x9
  have x3 : f6.eval (.tmp 3) = .int .i64 ((2 * 2 ^ j : Nat) : Int) := new2
  replace bl := (bl.trans (Below.mono hb bl.size))
  replace sz := sz2.trans sz
  replace df := df2.trans df
  clear df2 sz2 old2 new2 hb
  refine wpList_nil ?_
  clear x9
  show (∃ _, _) ∧ _
  replace x3 : Fk.f (.eq (.int .i64 ((2 ^ (j + 1) : Nat) : Int))) (f6.eval (.tmp 3)) w6 := (by rw [show 2 ^ (j + 1) = 2 * 2 ^ j by rw [Nat.pow_succ, Nat.mul_comm]]; exact x3)
  refine ⟨⟨j + 1, .inl (by rw [Nat.pow_succ]; omega), sz, df, x0, x2, x3, bl⟩, ?_⟩
  rw [show f6.eval (.tmp 3) = _ from x3, show _ = _ from hcnt]
  simp only [intOf, Int.toNat_natCast, Nat.pow_succ]
  omega
end Go.Proofs.YtnppjlpnfijobaaDoor
namespace Go.Proofs.YtnppjlpnfijobaaDoor
set_option maxRecDepth 100000
open Go.RowKit
/-- A slice of the call's own: n things of a type, of so many cells each. -/
def Fk.orw (base T sz n : Nat) (cs : List Value) : Fk := .inr (.inl ⟨fun v w => w.ownsRow base T sz v n cs, by
  rintro v w w' ⟨h1, h2⟩ hb
  refine ⟨h1, ?_⟩
  rcases h2 with h2 | ⟨g, cap, cur, e, hbg, hg, r⟩
  · exact .inl h2
  · exact .inr ⟨g, cap, cur, e, hbg, by rw [hb.block g (Array.getElem?_eq_some_iff.1 hg).1]; exact hg, r⟩⟩)
/-- A slice that may be read: n things, of so many cells each. -/
def Fk.rdw (sz n : Nat) (cs : List Value) : Fk := .inr (.inl ⟨fun v w => ∃ A C lb lo, v = .slice A n C ∧ (0 < n → A = some ⟨lb, lo, none⟩) ∧ cs.length = n * sz ∧ w.rangeAt lb lo cs, by
  rintro v w w' ⟨A, C, lb, lo, e, h1, h2, h3⟩ hb
  exact ⟨A, C, lb, lo, e, h1, h2, fun j u hj => by have := h3 j u hj; rw [hb.cell (block_lt_of_cell this)]; exact this⟩⟩)
theorem orw_rdw {base T sz n : Nat} {cs : List Value} {v : Value} {w : World} (h : (Fk.orw base T sz n cs).f v w) : (Fk.rdw sz n cs).f v w := by
  obtain ⟨h1, h2⟩ := h
  rcases h2 with ⟨rfl, rfl⟩ | ⟨g, cap, cur, rfl, hbg, hg, hnc, _, hcs, ht⟩
  · have : cs = [] := List.eq_nil_of_length_eq_zero (by rw [h1]; simp)
    subst this
    exact ⟨none, 0, 0, 0, rfl, fun h => absurd h (by decide), by simp, fun j u hj => by simp at hj⟩
  · refine ⟨_, cap, g, 0, rfl, fun _ => rfl, h1, fun j u hj => ?_⟩
    have hjl : j < n * sz := by rw [← h1]; exact (List.getElem?_eq_some_iff.1 hj).1
    rw [cell_of_row _ _ _ _ _ _ hg, Nat.zero_add]
    have e := congrArg (·[j]?) ht
    simp only [List.getElem?_take, hj, if_pos hjl, Array.getElem?_toList] at e
    exact e
theorem orw_le {g0 g1 : Nat} (hg : g1 ≤ g0) {T sz n : Nat} {cs : List Value} {v : Value} {w : World} (h : (Fk.orw g0 T sz n cs).f v w) : (Fk.orw g1 T sz n cs).f v w := by
  obtain ⟨h1, h2⟩ := h
  refine ⟨h1, ?_⟩
  rcases h2 with h2 | ⟨g, cap, cur, e, hbg, r⟩
  · exact .inl h2
  · exact .inr ⟨g, cap, cur, e, Nat.le_trans hg hbg, r⟩
theorem orw_nil (base T sz : Nat) (w : World) : (Fk.orw base T sz 0 []).f (.slice none 0 0) w := World.ownsRow_nil _ _ _ _
theorem fk_orw {f : FuncId} {args : Array Value} {w : World} {g0 T sz n : Nat} {cs : List Value} (hg : g0 ≤ w.heap.size) (h : Calls Tryd.prog f args w fun e w' => ∃ u, e = .returned u ∧ (Fk.orw w.heap.size T sz n cs).f u w' ∧ Below w.heap.size w w') :
    Calls Tryd.prog f args w fun e w' => ∃ u, e = .returned u ∧ (Fk.orw g0 T sz n cs).f u w' ∧ Below w.heap.size w w' := by
  refine h.mono ?_
  rintro e w' ⟨u, rfl, h1, h3⟩
  exact ⟨u, rfl, orw_le hg h1, h3⟩
theorem orw_new {w : World} {base T sz : Nat} {cs : List Value} (hl : cs.length = sz) (hb : base ≤ w.heap.size) : (Fk.orw base T sz 1 cs).f (.slice (some ⟨w.heap.size, 0, none⟩) 1 1) (w.alloc (.cells cs.toArray T)) :=
  ⟨by rw [hl, Nat.one_mul], .inr ⟨w.heap.size, 1, cs.toArray, rfl, hb, heap_alloc_new _ _, Nat.le_refl _, by unfold maxLen; omega, by simp [hl], by simp [← hl]⟩⟩
section
variable {Q : Exit → Act → World → Prop} {o : Oper} {a : Act} {w : World} {ops : Array Oper} {rest : List Oper}
theorem wl_appr (ST T sz by_ : Nat) {z : Value} (hu : Tryd.prog.underlying ST = some (.slice T)) (hinf : (Tryd.prog.info? T).map (fun i => (i.zero, i.size, i.bytes)) = some (some z, sz, by_)) (hzs : z.cells.size = sz) (hpos : 0 < sz)
    (hgd : o.guard = none) (s x : Operand) (ho : o.op = .call { callee := .builtin .append, args := #[s, x], argTypes := #[ST, ST] }) (d : Nat) (hd : o.dst = some d) (hsz : d < a.tmps.size)
    {wL : World} {b n m : Nat} {cs ds : List Value} (hs1 : (Fk.orw wL.heap.size T sz n cs).f (a.eval s) w) (hx : (Fk.orw b T sz m ds).f (a.eval x) w) (hm : 1 ≤ m) (hone : ∀ u ∈ ds, u.oneCell' = true) (hL : Below wL.heap.size wL w) (hN : n + m ≤ 100000) (hby : by_ ≤ 1000)
    (h : ∀ a2 w2, a2.defers = a.defers → a2.tmps.size = a.tmps.size → (∀ t, (t == d) = false → a2.eval (.tmp t) = a.eval (.tmp t)) → (Fk.orw wL.heap.size T sz (n + m) (cs ++ ds)).f (a2.eval (.tmp d)) w2 → Below wL.heap.size wL w2 → wpList Tryd.prog ops Q rest a2 w2) : wpList Tryd.prog ops Q (o :: rest) a w := by
  obtain ⟨i0, hi, hz0, hz1, hz2⟩ := info_parts hinf
  obtain ⟨A, C, lb, lo, e, hp, hl, hr⟩ := orw_rdw hx
  have hp := hp (by omega)
  subst hp
  have hown : w.ownsRow wL.heap.size T sz (a.eval s) n cs := hs1
  refine wpList_append_own w hgd s x ST ho wL.heap.size T i0 z sz by_ hu hi hz0 hz1 hz2 hzs hpos _ n cs rfl hown ⟨lb, lo, none⟩ m C ds e hl (fun j u hj => by rw [Addr.add_mid]; exact hr j u hj) hone (by unfold maxLen; omega) ?_ hL.size ?_
  · have := Nat.mul_le_mul hN hby
    omega
  · intro v' w' h1 h2 _
    refine h _ _ (put_def _ _ _) (put_size _ _ _) (fun t ht => ?_) ?_ (hL.grown h2 hL.size (fun k e => (World.ownsRow.lt hown k e).1))
    · rw [hd]
      exact put_eval_other _ _ _ _ (fun e => by subst e; simp at ht)
    · rw [hd, put_eval_same _ _ _ hsz]
      exact h1
theorem st_lenr (ST T : Nat) (hu : Tryd.prog.underlying ST = some (.slice T)) (he : Tryd.prog.elem ST = T) (x : Operand) (ho : o.op = .call { callee := .builtin .len, args := #[x], argTypes := #[ST] }) {sz n : Nat} {cs : List Value} (h : (Fk.rdw sz n cs).f (a.eval x) w) : o.wp Tryd.prog a w (Ends a o.dst w (Fk.eq (.int .i64 ((n : Nat) : Int))).f) Q := by
  obtain ⟨A, C, lb, lo, e, _⟩ := h
  refine st_pure (v := .int .i64 (n : Int)) ?_ rfl
  have h1 := run_len_slice (P := Tryd.prog) (w := w) ST o.type A n C (by rw [he]; exact hu)
  unfold execOp
  simp [ho, resolve, invoke, builtin, e, h1, goInt]
/-- A pointer to these cells. -/
def Fk.prg (cs : List Value) : Fk := .inr (.inl ⟨fun v w => ∃ b o, v = .pointer (some ⟨b, o, none⟩) ∧ w.rangeAt b o cs, by
  rintro v w w' ⟨b, o, e, h⟩ hb
  exact ⟨b, o, e, fun j u hj => by have := h j u hj; rw [hb.cell (block_lt_of_cell this)]; exact this⟩⟩)
theorem st_idxr2 (ST T : Nat) (hu : Tryd.prog.underlying ST = some (.slice T)) (he : Tryd.prog.elem ST = T) {sz : Nat} (hs : ∀ w, (sizeOf T).run Tryd.prog w = .ok sz w) (x y : Operand) (ho : o.op = .indexAddr ST x y) {n : Nat} {cs : List Value} (h : (Fk.rdw sz n cs).f (a.eval x) w) (i : Nat) (hy : a.eval y = .int .i64 (i : Int)) (hi : i < n) (ds : List Value) (hd : ∀ (j : Nat) (v : Value), ds[j]? = some v → cs[i * sz + j]? = some v) : o.wp Tryd.prog a w (Ends a o.dst w (Fk.prg ds).f) Q := by
  obtain ⟨A, C, lb, lo, e, hp, hl, hr⟩ := h
  have hp := hp (by omega)
  subst hp
  refine st_pure (v := .pointer (some ⟨lb, lo + i * sz, none⟩)) ?_ ⟨lb, lo + i * sz, rfl, fun j u hj => by rw [Nat.add_assoc]; exact hr _ _ (hd j u hj)⟩
  have h1 := run_indexAt_slice (P := Tryd.prog) (w := w) ST ⟨lb, lo, none⟩ n C .i64 (i : Int) (by rw [he]; exact hu)
  rw [if_pos (by omega), he, hs] at h1
  simp only [Result.andThen_ok, Int.toNat_natCast, Addr.add_mid] at h1
  unfold execOp
  rw [ho]
  simp [e, hy, h1]
theorem st_loadr1 (T : TypeId) (x : Operand) (ho : o.op = .load T x) (h1 : (isAgg T).run Tryd.prog w = .ok false w) {u : Value} (h : (Fk.prg [u]).f (a.eval x) w) : o.wp Tryd.prog a w (Ends a o.dst w (Fk.eq u).f) Q := by
  obtain ⟨b, so, e, hr⟩ := h
  exact st_loadc T x ho h1 e (by have := hr 0 u rfl; simpa using this)
theorem st_loadr (T : TypeId) (x : Operand) (ho : o.op = .load T x) (cs : List Value) (hr : (Tryd.prog.underlying T).map (·.isRow) = some true) (hi : (Tryd.prog.info? T).map (·.size) = some cs.length) (h : (Fk.prg cs).f (a.eval x) w) : o.wp Tryd.prog a w (Ends a o.dst w (Fk.eq (.agg cs.toArray)).f) Q := by
  obtain ⟨b, so, e, hc⟩ := h
  exact st_loadz T x ho b so cs hr hi e hc
theorem st_bldr (ST T sz : Nat) (x : Operand) (ho : o.op = .buildSlice ST 1 #[(0, x)]) {u : Value} (cs : List Value) (hx : a.eval x = u) (hr : ∀ w, (Instr.buildSlice ST 1 #[(0, u)]).run Tryd.prog w = .ok (.slice (some ⟨w.heap.size, 0, none⟩) 1 1) (w.alloc (.cells cs.toArray T))) (hl : cs.length = sz) (g0 : Nat) (hg : g0 ≤ w.heap.size) : o.wp Tryd.prog a w (Ends a o.dst w (Fk.orw g0 T sz 1 cs).f) Q := by
  refine st_run (v := .slice (some ⟨w.heap.size, 0, none⟩) 1 1) (w' := w.alloc (.cells cs.toArray T)) ?_ ((Below.refl _ _).alloc (Nat.le_refl _) _) (orw_new hl hg)
  unfold execOp
  rw [ho]
  simp [hx, hr]
end
/-- Numbers in cells. -/
def zv (ds : List Int) : List Value := ds.map fun z => .int .i64 z
theorem zv_len (ds : List Int) : (zv ds).length = ds.length := List.length_map _
theorem zv_append (a b : List Int) : zv (a ++ b) = zv a ++ zv b := List.map_append
theorem zv_one (ds : List Int) : ∀ u ∈ zv ds, u.oneCell' = true := by
  intro u hu
  obtain ⟨z, _, rfl⟩ := List.mem_map.1 hu
  rfl
theorem zv_at {ds : List Int} {i : Nat} {z : Int} (h : ds[i]? = some z) : ∀ (j : Nat) (v : Value), ([.int .i64 z] : List Value)[j]? = some v → (zv ds)[i * 1 + j]? = some v := by
  intro j v hj
  cases j with
  | zero =>
    obtain rfl : Value.int .i64 z = v := by simpa using hj
    simp [zv, h]
  | succ j => simp at hj
/-- Pairs of numbers in cells. -/
def pv2 (ps : List (Nat × Nat)) : List Value := ps.flatMap fun p => [.int .i64 (p.1 : Int), .int .i64 (p.2 : Int)]
theorem pv2_append (a b : List (Nat × Nat)) : pv2 (a ++ b) = pv2 a ++ pv2 b := List.flatMap_append
theorem pv2_one (ps : List (Nat × Nat)) : ∀ u ∈ pv2 ps, u.oneCell' = true := by
  intro u hu
  obtain ⟨p, _, hp⟩ := List.mem_flatMap.1 hu
  simp only [List.mem_cons, List.not_mem_nil, or_false] at hp
  rcases hp with rfl | rfl <;> rfl
theorem pv2_at : ∀ {ps : List (Nat × Nat)} {i : Nat} {p : Nat × Nat}, ps[i]? = some p → ∀ (j : Nat) (v : Value), ([.int .i64 (p.1 : Int), .int .i64 (p.2 : Int)] : List Value)[j]? = some v → (pv2 ps)[i * 2 + j]? = some v
  | q :: r, 0, p, h, j, v, hj => by
    obtain rfl : q = p := by simpa using h
    rw [Nat.zero_mul, Nat.zero_add]
    have hlt : j < 2 := (List.getElem?_eq_some_iff.1 hj).1
    simp only [pv2, List.flatMap_cons]
    rw [List.getElem?_append_left (by simpa using hlt)]
    exact hj
  | q :: r, i + 1, p, h, j, v, hj => by
    have := pv2_at (ps := r) (i := i) (p := p) (by simpa using h) j v hj
    simp only [pv2, List.flatMap_cons] at *
    rw [List.getElem?_append_right (by simp; omega)]
    simp only [List.length_cons, List.length_nil]
    rw [show (i + 1) * 2 + j - (0 + 1 + 1) = i * 2 + j by omega]
    exact this
/-- Numbers of the call's own; to be read. -/
def Fk.oi (base : Nat) (ds : List Int) : Fk := Fk.orw base 3 1 ds.length (zv ds)
def Fk.is (ds : List Int) : Fk := Fk.rdw 1 ds.length (zv ds)
/-- Pairs of the call's own; to be read. -/
def Fk.op (base : Nat) (ps : List (Nat × Nat)) : Fk := Fk.orw base 31 2 ps.length (pv2 ps)
def Fk.ps (ps : List (Nat × Nat)) : Fk := Fk.rdw 2 ps.length (pv2 ps)
theorem Tryd.under23z : Tryd.prog.underlying 23 = some (.slice 3) := by kernel_rfl
theorem Tryd.under29z : Tryd.prog.underlying 29 = some (.slice 31) := by kernel_rfl
theorem Tryd.elem23z : Tryd.prog.elem 23 = 3 := by kernel_rfl
theorem Tryd.elem29z : Tryd.prog.elem 29 = 31 := by kernel_rfl
theorem Tryd.info3z : (Tryd.prog.info? 3).map (fun i => (i.zero, i.size, i.bytes)) = some (some (.int .i64 0), 1, 8) := by kernel_rfl
theorem Tryd.info31z : (Tryd.prog.info? 31).map (fun i => (i.zero, i.size, i.bytes)) = some (some (.agg #[.int .i64 0, .int .i64 0]), 2, 16) := by kernel_rfl
theorem Tryd.size3z (w : World) : (sizeOf 3).run Tryd.prog w = .ok 1 w := by kernel_rfl
theorem Tryd.size31z (w : World) : (sizeOf 31).run Tryd.prog w = .ok 2 w := by kernel_rfl
theorem Tryd.bld3z (z : Int) (w : World) : (Instr.buildSlice 23 1 #[(0, .int .i64 z)]).run Tryd.prog w = .ok (.slice (some ⟨w.heap.size, 0, none⟩) 1 1) (w.alloc (.cells (zv [z]).toArray 3)) := by kernel_rfl
theorem Tryd.bld31z (p q : Nat) (w : World) : (Instr.buildSlice 29 1 #[(0, .agg ([.int .i64 (p : Int), .int .i64 (q : Int)] : List Value).toArray)]).run Tryd.prog w = .ok (.slice (some ⟨w.heap.size, 0, none⟩) 1 1) (w.alloc (.cells (pv2 [(p, q)]).toArray 31)) := by kernel_rfl
theorem oi_is {base : Nat} {ds : List Int} {v : Value} {w : World} (h : (Fk.oi base ds).f v w) : (Fk.is ds).f v w := orw_rdw h
theorem op_ps {base : Nat} {ps : List (Nat × Nat)} {v : Value} {w : World} (h : (Fk.op base ps).f v w) : (Fk.ps ps).f v w := orw_rdw h
theorem oi_nil (base : Nat) (w : World) : (Fk.oi base []).f (.slice none 0 0) w := orw_nil _ _ _ _
theorem op_nil (base : Nat) (w : World) : (Fk.op base []).f (.slice none 0 0) w := orw_nil _ _ _ _
section
variable {Q : Exit → Act → World → Prop} {o : Oper} {a : Act} {w : World} {ops : Array Oper} {rest : List Oper}
theorem wl_appendi (hgd : o.guard = none) (s x : Operand) (ho : o.op = .call { callee := .builtin .append, args := #[s, x], argTypes := #[23, 23] }) (d : Nat) (hd : o.dst = some d) (hsz : d < a.tmps.size)
    {wL : World} {b : Nat} {cs ds : List Int} (hs1 : (Fk.oi wL.heap.size cs).f (a.eval s) w) (hx : (Fk.oi b ds).f (a.eval x) w) (hm : 1 ≤ ds.length) (hL : Below wL.heap.size wL w) (hN : cs.length + ds.length ≤ 100000)
    (h : ∀ a2 w2, a2.defers = a.defers → a2.tmps.size = a.tmps.size → (∀ t, (t == d) = false → a2.eval (.tmp t) = a.eval (.tmp t)) → (Fk.oi wL.heap.size (cs ++ ds)).f (a2.eval (.tmp d)) w2 → Below wL.heap.size wL w2 → wpList Tryd.prog ops Q rest a2 w2) : wpList Tryd.prog ops Q (o :: rest) a w :=
  wl_appr 23 3 1 8 Tryd.under23z Tryd.info3z rfl (by decide) hgd s x ho d hd hsz hs1 hx hm (zv_one ds) hL hN (by decide) (fun a2 w2 h1 h2 h3 h4 h5 => h a2 w2 h1 h2 h3 (by unfold Fk.oi; rw [List.length_append, zv_append]; exact h4) h5)
theorem wl_appendp (hgd : o.guard = none) (s x : Operand) (ho : o.op = .call { callee := .builtin .append, args := #[s, x], argTypes := #[29, 29] }) (d : Nat) (hd : o.dst = some d) (hsz : d < a.tmps.size)
    {wL : World} {b : Nat} {cs ds : List (Nat × Nat)} (hs1 : (Fk.op wL.heap.size cs).f (a.eval s) w) (hx : (Fk.op b ds).f (a.eval x) w) (hm : 1 ≤ ds.length) (hL : Below wL.heap.size wL w) (hN : cs.length + ds.length ≤ 100000)
    (h : ∀ a2 w2, a2.defers = a.defers → a2.tmps.size = a.tmps.size → (∀ t, (t == d) = false → a2.eval (.tmp t) = a.eval (.tmp t)) → (Fk.op wL.heap.size (cs ++ ds)).f (a2.eval (.tmp d)) w2 → Below wL.heap.size wL w2 → wpList Tryd.prog ops Q rest a2 w2) : wpList Tryd.prog ops Q (o :: rest) a w :=
  wl_appr 29 31 2 16 Tryd.under29z Tryd.info31z rfl (by decide) hgd s x ho d hd hsz hs1 hx hm (pv2_one ds) hL hN (by decide) (fun a2 w2 h1 h2 h3 h4 h5 => h a2 w2 h1 h2 h3 (by unfold Fk.op; rw [List.length_append, pv2_append]; exact h4) h5)
theorem st_lenis (x : Operand) (ho : o.op = .call { callee := .builtin .len, args := #[x], argTypes := #[23] }) {ds : List Int} (h : (Fk.is ds).f (a.eval x) w) : o.wp Tryd.prog a w (Ends a o.dst w (Fk.eq (.int .i64 ((ds.length : Nat) : Int))).f) Q := st_lenr 23 3 Tryd.under23z Tryd.elem23z x ho h
theorem st_lenps (x : Operand) (ho : o.op = .call { callee := .builtin .len, args := #[x], argTypes := #[29] }) {ps : List (Nat × Nat)} (h : (Fk.ps ps).f (a.eval x) w) : o.wp Tryd.prog a w (Ends a o.dst w (Fk.eq (.int .i64 ((ps.length : Nat) : Int))).f) Q := st_lenr 29 31 Tryd.under29z Tryd.elem29z x ho h
theorem st_idxis (x y : Operand) (ho : o.op = .indexAddr 23 x y) {ds : List Int} (h : (Fk.is ds).f (a.eval x) w) (i : Nat) (hy : a.eval y = .int .i64 (i : Int)) (z : Int) (hi : ds[i]? = some z) : o.wp Tryd.prog a w (Ends a o.dst w (Fk.prg [.int .i64 z]).f) Q :=
  st_idxr2 23 3 Tryd.under23z Tryd.elem23z Tryd.size3z x y ho h i hy (List.getElem?_eq_some_iff.1 hi).1 _ (zv_at hi)
theorem st_idxps (x y : Operand) (ho : o.op = .indexAddr 29 x y) {ps : List (Nat × Nat)} (h : (Fk.ps ps).f (a.eval x) w) (i : Nat) (hy : a.eval y = .int .i64 (i : Int)) (p : Nat × Nat) (hi : ps[i]? = some p) : o.wp Tryd.prog a w (Ends a o.dst w (Fk.prg [.int .i64 (p.1 : Int), .int .i64 (p.2 : Int)]).f) Q :=
  st_idxr2 29 31 Tryd.under29z Tryd.elem29z Tryd.size31z x y ho h i hy (List.getElem?_eq_some_iff.1 hi).1 _ (pv2_at hi)
theorem st_bi1 (x : Operand) (ho : o.op = .buildSlice 23 1 #[(0, x)]) (z : Int) (hx : a.eval x = .int .i64 z) (g0 : Nat) (hg : g0 ≤ w.heap.size) : o.wp Tryd.prog a w (Ends a o.dst w (Fk.oi g0 [z]).f) Q := st_bldr 23 3 1 x ho _ hx (Tryd.bld3z z) rfl g0 hg
theorem st_bp1 (x : Operand) (ho : o.op = .buildSlice 29 1 #[(0, x)]) (p q : Nat) (hx : a.eval x = .agg ([.int .i64 (p : Int), .int .i64 (q : Int)] : List Value).toArray) (g0 : Nat) (hg : g0 ≤ w.heap.size) : o.wp Tryd.prog a w (Ends a o.dst w (Fk.op g0 [(p, q)]).f) Q := st_bldr 29 31 2 x ho _ hx (Tryd.bld31z p q) rfl g0 hg
end
end Go.Proofs.YtnppjlpnfijobaaDoor
namespace Go.Proofs.YtnppjlpnfijobaaDoor
set_option maxRecDepth 100000
open Go.RowKit
section
variable {Q : Exit → Act → World → Prop} {o : Oper} {a : Act} {w : World}
end
theorem refpeaks_any (n : Nat) (hn : n ≤ 1000) (w : World) :
    Calls Tryd.prog 10 #[.int .i64 ((n : Nat) : Int)] w fun e w' => ∃ u, e = .returned u ∧ (Fk.op w.heap.size (pkr 0 n)).f u w' ∧ Below w.heap.size w w' := by
  go_enter Tryd.func10, Tryd.ntmps10
  refine code_both (fun f w1 => f.tmps.size = 29 ∧ f.defers = [] ∧ f.eval (.tmp 0) = .int .i64 ((n : Nat) : Int) ∧ Below w.heap.size w (w1)) ⟨rfl, rfl, rfl, Below.refl _ _⟩ ?_
  rintro f0 w0 ⟨sz, df, x0, bl⟩
  have bl0 := bl
  refine wp_seq ?_
  refine wp_all_seq [.eq (.slice none 0 0)] (by kernel_rfl) (by kernel_rfl) (by rw [sz]; kernel_rfl) (by kernel_rfl) ⟨fun hw ac u K => ?_, trivial⟩ ?_
  · exact st_assign (.const (.slice none 0 0)) rfl rfl
  intro f1 w1 A hb
  replace bl0 := bl
  replace x0 := (A.old 0 rfl).trans x0
  have x2 : f1.eval (.tmp 2) = .slice none 0 0 := A.has 0 2 rfl
  replace bl := (bl.trans (Below.mono hb bl.size))
  replace sz := A.size.trans sz
  replace df := A.defs.trans df
  clear A hb
  show Code.wp _ _ _ _ _
  refine wp_seq ?_
  refine wp_all_seq [.eq (.slice none 0 0)] (by kernel_rfl) (by kernel_rfl) (by rw [sz]; kernel_rfl) (by kernel_rfl) ⟨fun hw ac u K => ?_, trivial⟩ ?_
  · exact st_assign (.const (.slice none 0 0)) rfl rfl
  intro f2 w2 A hb
  replace bl0 := bl
  replace x0 := (A.old 0 rfl).trans x0
  replace x2 := (A.old 2 rfl).trans x2
  have x3 : f2.eval (.tmp 3) = .slice none 0 0 := A.has 0 3 rfl
  replace bl := (bl.trans (Below.mono hb bl.size))
  replace sz := A.size.trans sz
  replace df := A.defs.trans df
  clear A hb
  show Code.wp _ _ _ _ _
  refine wp_seq ?_
  refine wp_all_seq [.eq (.int .i64 0)] (by kernel_rfl) (by kernel_rfl) (by rw [sz]; kernel_rfl) (by kernel_rfl) ⟨fun hw ac u K => ?_, trivial⟩ ?_
  · exact st_assign (.const (.int .i64 0)) rfl rfl
  intro f3 w3 A hb
  replace bl0 := bl
  replace x0 := (A.old 0 rfl).trans x0
  replace x2 := (A.old 2 rfl).trans x2
  replace x3 := (A.old 3 rfl).trans x3
  have x4 : f3.eval (.tmp 4) = .int .i64 0 := A.has 0 4 rfl
  replace bl := (bl.trans (Below.mono hb bl.size))
  replace sz := A.size.trans sz
  replace df := A.defs.trans df
  clear A hb
  show Code.wp _ _ _ _ _
  refine wp_seq ?_
  refine wp_block ?_
  refine wp_loop (fun f v1 => ∃ (a : Nat) (acc : List (Nat × Nat)), acc ++ pkr a (n - a) = pkr 0 n ∧ a ≤ n ∧ f.tmps.size = 29 ∧ f.defers = [] ∧ f.eval (.tmp 0) = .int .i64 ((n : Nat) : Int) ∧ f.eval (.tmp 2) = .slice none 0 0 ∧ f.eval (.tmp 4) = .int .i64 ((a : Nat) : Int) ∧ Fk.f (.op w.heap.size (acc)) (f.eval (.tmp 3)) v1 ∧ Below w.heap.size w (v1)) (fun f _ => n - (intOf (f.eval (.tmp 4))).toNat) ⟨0, [], rfl, Nat.zero_le _, sz, df, x0, x2, x4, (fk_val x3 (op_nil _ _)), bl⟩ ?_
  intro f4 w4 hI
  clear sz df bl bl0 x0 x2 x3 x4
  obtain ⟨a, acc, hc, ha, sz, df, x0, x2, x4, x3, bl⟩ := hI
  have bl0 := bl
  refine wp_seq ?_
  refine wp_seq ?_
  have hcnt := x4
  have hal : acc.length ≤ n := by have h1 := congrArg List.length hc; have h2 := pkr_len n 0; rw [List.length_append] at h1; omega
  by_cases hgo : a < n
  rotate_left
  · skip
    refine wp_all_seq [.eq (.int .i64 ((a : Nat) : Int)), .eq (.int .i64 ((n : Nat) : Int)), .eq (.bool false)] (by kernel_rfl) (by kernel_rfl) (by rw [sz]; kernel_rfl) (by kernel_rfl) ⟨fun hw ac u K => ?_, fun hw ac u K => ?_, fun hw ac u K => ?_, trivial⟩ ?_
    · exact st_move (.tmp 4) rfl ((K.old 4 rfl).trans x4)
    · exact st_move (.tmp 0) rfl ((K.old 0 rfl).trans x0)
    · exact st_lss 3 (.tmp 6) (.tmp 7) rfl .i64 (((a : Nat) : Int)) (((n : Nat) : Int)) (K.dep 0 6 rfl) (K.dep 1 7 rfl) _ (by rw [eq_comm, decide_eq_false_iff_not]; omega)
    intro f5 w5 A hb
    replace bl0 := bl
    replace x0 := (A.old 0 rfl).trans x0
    replace x2 := (A.old 2 rfl).trans x2
    replace x3 := f_at (A.old 3 rfl) (Fk.mono _ _ _ _ x3 hb)
    replace x4 := (A.old 4 rfl).trans x4
    have x8 : f5.eval (.tmp 8) = .bool false := A.has 2 8 rfl
    replace bl := (bl.trans (Below.mono hb bl.size))
    replace sz := A.size.trans sz
    replace df := A.defs.trans df
    clear A hb
    show Code.wp _ _ _ _ _
    refine wp_cond_false x8 ?_
    refine wp_exit ?_
    show Code.wp _ _ _ _ _
    refine wp_seq ?_
    rw [show n - a = 0 by omega, pkr_zero, List.append_nil] at hc
    rw [hc] at x3
    refine wp_all_seq [.op w.heap.size (pkr 0 n), .op w.heap.size (pkr 0 n)] (by kernel_rfl) (by kernel_rfl) (by rw [sz]; kernel_rfl) (by kernel_rfl) ⟨fun hw ac u K => ?_, fun hw ac u K => ?_, trivial⟩ ?_
    · exact st_move (.tmp 3) rfl (f_at (K.old 3 rfl) (Fk.mono _ _ _ _ x3 K.grow))
    · exact st_assign (.tmp 28) rfl (K.dep 0 28 rfl)
    intro f6 w6 A hb
    replace bl0 := bl
    replace x0 := (A.old 0 rfl).trans x0
    clear x2
    replace x3 := f_at (A.old 3 rfl) (Fk.mono _ _ _ _ x3 hb)
    replace x4 := (A.old 4 rfl).trans x4
    replace x8 := (A.old 8 rfl).trans x8
    have x2 : Fk.f (.op w.heap.size (pkr 0 n)) (f6.eval (.tmp 2)) w6 := A.has 1 2 rfl
    replace bl := (bl.trans (Below.mono hb bl.size))
    replace sz := A.size.trans sz
    replace df := A.defs.trans df
    clear A hb
    show Code.wp _ _ _ _ _
    refine wp_ret ?_
    repeat (first | with_reducible refine then_ret ?_ | with_reducible refine block_ret ?_)
    exact bodyPost_ret (v := f6.eval (.tmp 2)) (ret_slot rfl f6 _ rfl _ _) df ⟨_, rfl, x2, bl⟩
  refine wp_all_seq [.eq (.int .i64 ((a : Nat) : Int)), .eq (.int .i64 ((n : Nat) : Int)), .eq (.bool true)] (by kernel_rfl) (by kernel_rfl) (by rw [sz]; kernel_rfl) (by kernel_rfl) ⟨fun hw ac u K => ?_, fun hw ac u K => ?_, fun hw ac u K => ?_, trivial⟩ ?_
  · exact st_move (.tmp 4) rfl ((K.old 4 rfl).trans x4)
  · exact st_move (.tmp 0) rfl ((K.old 0 rfl).trans x0)
  · exact st_lss 3 (.tmp 6) (.tmp 7) rfl .i64 (((a : Nat) : Int)) (((n : Nat) : Int)) (K.dep 0 6 rfl) (K.dep 1 7 rfl) _ (by rw [eq_comm, decide_eq_true_iff]; omega)
  intro f5 w5 A hb
  replace bl0 := bl
  replace x0 := (A.old 0 rfl).trans x0
  replace x2 := (A.old 2 rfl).trans x2
  replace x3 := f_at (A.old 3 rfl) (Fk.mono _ _ _ _ x3 hb)
  replace x4 := (A.old 4 rfl).trans x4
  have x8 : f5.eval (.tmp 8) = .bool true := A.has 2 8 rfl
  replace bl := (bl.trans (Below.mono hb bl.size))
  replace sz := A.size.trans sz
  replace df := A.defs.trans df
  clear A hb
  show Code.wp _ _ _ _ _
  refine wp_cond_true x8 ?_
  refine wp_skip ?_
  show Code.wp _ _ _ _ _
  refine wp_block ?_
  refine wp_seq ?_
  obtain ⟨v3, e3⟩ : ∃ v, f5.eval (.tmp 3) = v := ⟨_, rfl⟩
  have h3 := x3
  rw [e3] at h3
  replace x3 := e3
  clear e3
  refine wp_all_seq [.eq (.int .i64 1)] (by kernel_rfl) (by kernel_rfl) (by rw [sz]; kernel_rfl) (by kernel_rfl) ⟨fun hw ac u K => ?_, trivial⟩ ?_
  · exact st_assign (.const (.int .i64 1)) rfl rfl
  intro f6 w6 A hb
  replace bl0 := bl
  replace x0 := (A.old 0 rfl).trans x0
  replace x2 := (A.old 2 rfl).trans x2
  replace x3 := (A.old 3 rfl).trans x3
  replace x4 := (A.old 4 rfl).trans x4
  replace x8 := (A.old 8 rfl).trans x8
  have x5 : f6.eval (.tmp 5) = .int .i64 1 := A.has 0 5 rfl
  replace h3 := Fk.mono _ _ _ _ h3 hb
  replace bl := (bl.trans (Below.mono hb bl.size))
  replace sz := A.size.trans sz
  replace df := A.defs.trans df
  clear A hb
  show Code.wp _ _ _ _ _
  refine wp_seq ?_
  refine wp_block ?_
  refine wp_loop (fun f v1 => ∃ j : Nat, 2 ^ j ≤ n - a ∧ f.tmps.size = 29 ∧ f.defers = [] ∧ f.eval (.tmp 0) = .int .i64 ((n : Nat) : Int) ∧ f.eval (.tmp 2) = .slice none 0 0 ∧ f.eval (.tmp 3) = v3 ∧ f.eval (.tmp 4) = .int .i64 ((a : Nat) : Int) ∧ f.eval (.tmp 8) = .bool true ∧ f.eval (.tmp 5) = .int .i64 ((2 ^ j : Nat) : Int) ∧ Fk.f (.op w.heap.size (acc)) v3 v1 ∧ Below w.heap.size w (v1)) (fun f _ => n - (intOf (f.eval (.tmp 5))).toNat) ⟨0, (by rw [Nat.pow_zero]; omega), sz, df, x0, x2, x3, x4, x8, x5, h3, bl⟩ ?_
  intro f7 w7 hI
  clear sz df bl bl0 x0 x2 x3 x4 x8 x5 h3
  obtain ⟨j, hj, sz, df, x0, x2, x3, x4, x8, x5, h3, bl⟩ := hI
  have bl0 := bl
  refine wp_seq ?_
  refine wp_seq ?_
  have hcnt5 := x5
  have hp1 : 1 ≤ 2 ^ j := Nat.one_le_two_pow
  by_cases hlt : 2 * 2 ^ j ≤ n - a
  rotate_left
  · skip
    have hlg : Nat.log2 (n - a) = j := (Nat.log2_eq_iff (by omega)).2 ⟨hj, by rw [Nat.pow_succ]; omega⟩
    refine wp_all_seq [.eq (.int .i64 ((2 ^ j : Nat) : Int)), .eq (.int .i64 ((2 * 2 ^ j : Nat) : Int)), .eq (.int .i64 ((n : Nat) : Int)), .eq (.int .i64 ((a : Nat) : Int)), .eq (.int .i64 ((n - a : Nat) : Int)), .eq (.bool false)] (by kernel_rfl) (by kernel_rfl) (by rw [sz]; kernel_rfl) (by kernel_rfl) ⟨fun hw ac u K => ?_, fun hw ac u K => ?_, fun hw ac u K => ?_, fun hw ac u K => ?_, fun hw ac u K => ?_, fun hw ac u K => ?_, trivial⟩ ?_
    · exact st_move (.tmp 5) rfl ((K.old 5 rfl).trans x5)
    · exact st_mulz (.const (.int .i64 2)) (.tmp 9) rfl 2 _ _ rfl (K.dep 0 9 rfl) (Int.natCast_mul 2 (2 ^ j)) (by omega) (by omega)
    · exact st_move (.tmp 0) rfl ((K.old 0 rfl).trans x0)
    · exact st_move (.tmp 4) rfl ((K.old 4 rfl).trans x4)
    · exact st_subz (.tmp 11) (.tmp 12) rfl _ _ _ (K.dep 2 11 rfl) (K.dep 3 12 rfl) (by omega) (by omega) (by omega)
    · exact st_leq 3 (.tmp 10) (.tmp 13) rfl .i64 (((2 * 2 ^ j : Nat) : Int)) (((n - a : Nat) : Int)) (K.dep 1 10 rfl) (K.dep 4 13 rfl) _ (by rw [eq_comm, decide_eq_false_iff_not]; exact fun h => hlt (Int.ofNat_le.1 h))
    intro f8 w8 A hb
    replace bl0 := bl
    replace x0 := (A.old 0 rfl).trans x0
    replace x2 := (A.old 2 rfl).trans x2
    replace x3 := (A.old 3 rfl).trans x3
    replace x4 := (A.old 4 rfl).trans x4
    replace x8 := (A.old 8 rfl).trans x8
    replace x5 := (A.old 5 rfl).trans x5
    have x14 : f8.eval (.tmp 14) = .bool false := A.has 5 14 rfl
    replace h3 := Fk.mono _ _ _ _ h3 hb
    replace bl := (bl.trans (Below.mono hb bl.size))
    replace sz := A.size.trans sz
    replace df := A.defs.trans df
    clear A hb
    show Code.wp _ _ _ _ _
    refine wp_cond_false x14 ?_
    refine wp_exit ?_
    show Code.wp _ _ _ _ _
    refine wp_seq ?_
    replace x3 : Fk.f (.op w.heap.size (acc)) (f8.eval (.tmp 3)) w8 := by rw [show f8.eval (.tmp 3) = v3 from x3]; exact h3
    clear h3
    refine wp_region_seq [.op w.heap.size (acc), .eq (.int .i64 ((a : Nat) : Int)), .eq (.int .i64 ((a : Nat) : Int)), .eq (.int .i64 ((2 ^ j : Nat) : Int)), .eq (.int .i64 ((a + 2 ^ j : Nat) : Int)), .eq (.agg ([.int .i64 ((a : Nat) : Int), .int .i64 ((a + 2 ^ j : Nat) : Int)] : List Value).toArray), .op w.heap.size ([(a, a + 2 ^ j)])] (by kernel_rfl) (by kernel_rfl) (by rw [sz]; kernel_rfl) (by kernel_rfl) ⟨fun hw ac u K => ?_, fun hw ac u K => ?_, fun hw ac u K => ?_, fun hw ac u K => ?_, fun hw ac u K => ?_, fun hw ac u K => ?_, fun hw ac u K => ?_, trivial⟩ ?_
    · exact st_move (.tmp 3) rfl (f_at (K.old 3 rfl) (Fk.mono _ _ _ _ x3 K.grow))
    · exact st_move (.tmp 4) rfl ((K.old 4 rfl).trans x4)
    · exact st_move (.tmp 4) rfl ((K.old 4 rfl).trans x4)
    · exact st_move (.tmp 5) rfl ((K.old 5 rfl).trans x5)
    · exact st_add (.tmp 19) (.tmp 20) rfl (a) (2 ^ j) (a + 2 ^ j) (K.dep 2 19 rfl) (K.dep 3 20 rfl) (by omega) (by omega)
    · exact st_build 31 _ rfl (by simp only [List.map_toArray, List.map_cons, List.map_nil, show ac.eval (.tmp 18) = _ from (K.dep 1 18 rfl), show ac.eval (.tmp 21) = _ from (K.dep 4 21 rfl)]; kernel_rfl)
    · exact st_bp1 (.tmp 22) rfl _ _ (K.dep 5 22 rfl) _ (bl.trans (Below.mono K.grow bl.size)).size
    intro f9 w9 A hb
    replace bl0 := bl
    replace x0 := (A.old 0 rfl).trans x0
    replace x2 := (A.old 2 rfl).trans x2
    replace x3 := f_at (A.old 3 rfl) (Fk.mono _ _ _ _ x3 hb)
    replace x4 := (A.old 4 rfl).trans x4
    replace x8 := (A.old 8 rfl).trans x8
    replace x5 := (A.old 5 rfl).trans x5
    replace x14 := (A.old 14 rfl).trans x14
    have x17 : Fk.f (.op w.heap.size (acc)) (f9.eval (.tmp 17)) w9 := A.has 0 17 rfl
    have x23 : Fk.f (.op w.heap.size ([(a, a + 2 ^ j)])) (f9.eval (.tmp 23)) w9 := A.has 6 23 rfl
    replace bl := (bl.trans (Below.mono hb bl.size))
    replace sz := A.size.trans sz
    replace df := A.defs.trans df
    clear A hb
    refine wl_appendp rfl (.tmp 17) (.tmp 23) rfl 24 rfl (by rw [sz]; decide) x17 x23 (by simp) bl (by simp only [List.length_cons, List.length_nil]; omega) ?_
    intro f10 w10 df2 sz2 old2 new2 bl2
    clear x3
    clear x17
    clear x23
    replace x0 := (old2 0 rfl).trans x0
    replace x2 := (old2 2 rfl).trans x2
    replace x4 := (old2 4 rfl).trans x4
    replace x8 := (old2 8 rfl).trans x8
    replace x5 := (old2 5 rfl).trans x5
    replace x14 := (old2 14 rfl).trans x14
    have x24 : Fk.f (.op w.heap.size (acc ++ [(a, a + 2 ^ j)])) (f10.eval (.tmp 24)) w10 := new2
    replace bl := bl2
    replace bl0 := bl
    replace sz := sz2.trans sz
    replace df := df2.trans df
    clear df2 sz2 old2 new2 bl2
    refine wl_one (.op w.heap.size (acc ++ [(a, a + 2 ^ j)])) rfl 3 rfl (by rw [sz]; decide) (st_assign (.tmp 24) rfl x24) ?_
    intro f11 w11 df2 sz2 old2 new2 hb
    replace bl0 := bl
    replace x0 := (old2 0 rfl).trans x0
    replace x2 := (old2 2 rfl).trans x2
    replace x4 := (old2 4 rfl).trans x4
    replace x8 := (old2 8 rfl).trans x8
    replace x5 := (old2 5 rfl).trans x5
    replace x14 := (old2 14 rfl).trans x14
    replace x24 := f_at (old2 24 rfl) (Fk.mono _ _ _ _ x24 hb)
    have x3 : Fk.f (.op w.heap.size (acc ++ [(a, a + 2 ^ j)])) (f11.eval (.tmp 3)) w11 := new2
    replace bl := (bl.trans (Below.mono hb bl.size))
    replace sz := sz2.trans sz
    replace df := df2.trans df
    clear df2 sz2 old2 new2 hb
    refine wpList_nil ?_
    clear x24
    show Code.wp _ _ _ _ _
    refine wp_region_seq [.eq (.int .i64 ((a : Nat) : Int)), .eq (.int .i64 ((2 ^ j : Nat) : Int)), .eq (.int .i64 ((a + 2 ^ j : Nat) : Int))] (by kernel_rfl) (by kernel_rfl) (by rw [sz]; kernel_rfl) (by kernel_rfl) ⟨fun hw ac u K => ?_, fun hw ac u K => ?_, fun hw ac u K => ?_, trivial⟩ ?_
    · exact st_move (.tmp 4) rfl ((K.old 4 rfl).trans x4)
    · exact st_move (.tmp 5) rfl ((K.old 5 rfl).trans x5)
    · exact st_add (.tmp 25) (.tmp 26) rfl (a) (2 ^ j) (a + 2 ^ j) (K.dep 0 25 rfl) (K.dep 1 26 rfl) (by omega) (by omega)
    intro f12 w12 A hb
    replace bl0 := bl
    replace x0 := (A.old 0 rfl).trans x0
    replace x2 := (A.old 2 rfl).trans x2
    replace x4 := (A.old 4 rfl).trans x4
    replace x8 := (A.old 8 rfl).trans x8
    replace x5 := (A.old 5 rfl).trans x5
    replace x14 := (A.old 14 rfl).trans x14
    replace x3 := f_at (A.old 3 rfl) (Fk.mono _ _ _ _ x3 hb)
    have x27 : f12.eval (.tmp 27) = .int .i64 ((a + 2 ^ j : Nat) : Int) := A.has 2 27 rfl
    replace bl := (bl.trans (Below.mono hb bl.size))
    replace sz := A.size.trans sz
    replace df := A.defs.trans df
    clear A hb
    refine wl_one (.eq (.int .i64 ((a + 2 ^ j : Nat) : Int))) rfl 4 rfl (by rw [sz]; decide) (st_assign (.tmp 27) rfl x27) ?_
    intro f13 w13 df2 sz2 old2 new2 hb
    replace bl0 := bl
    replace x0 := (old2 0 rfl).trans x0
    replace x2 := (old2 2 rfl).trans x2
    clear x4
    replace x8 := (old2 8 rfl).trans x8
    replace x5 := (old2 5 rfl).trans x5
    replace x14 := (old2 14 rfl).trans x14
    replace x3 := f_at (old2 3 rfl) (Fk.mono _ _ _ _ x3 hb)
    replace x27 := (old2 27 rfl).trans x27
    have x4 : f13.eval (.tmp 4) = .int .i64 ((a + 2 ^ j : Nat) : Int) := new2
    replace bl := (bl.trans (Below.mono hb bl.size))
    replace sz := sz2.trans sz
    replace df := df2.trans df
    clear df2 sz2 old2 new2 hb
    refine wpList_nil ?_
    clear x27
    show (∃ _, _) ∧ _
    refine ⟨⟨a + 2 ^ j, acc ++ [(a, a + 2 ^ j)], (by rw [← hc, pkr_pos a (show n - a ≠ 0 by omega), hlg, List.append_assoc, show n - a - 2 ^ j = n - (a + 2 ^ j) by omega]; rfl), (by omega), sz, df, x0, x2, x4, x3, bl⟩, ?_⟩
    rw [show f13.eval (.tmp 4) = _ from x4, show _ = _ from hcnt]
    simp only [intOf, Int.toNat_natCast]
    omega
  refine wp_all_seq [.eq (.int .i64 ((2 ^ j : Nat) : Int)), .eq (.int .i64 ((2 * 2 ^ j : Nat) : Int)), .eq (.int .i64 ((n : Nat) : Int)), .eq (.int .i64 ((a : Nat) : Int)), .eq (.int .i64 ((n - a : Nat) : Int)), .eq (.bool true)] (by kernel_rfl) (by kernel_rfl) (by rw [sz]; kernel_rfl) (by kernel_rfl) ⟨fun hw ac u K => ?_, fun hw ac u K => ?_, fun hw ac u K => ?_, fun hw ac u K => ?_, fun hw ac u K => ?_, fun hw ac u K => ?_, trivial⟩ ?_
  · exact st_move (.tmp 5) rfl ((K.old 5 rfl).trans x5)
  · exact st_mulz (.const (.int .i64 2)) (.tmp 9) rfl 2 _ _ rfl (K.dep 0 9 rfl) (Int.natCast_mul 2 (2 ^ j)) (by omega) (by omega)
  · exact st_move (.tmp 0) rfl ((K.old 0 rfl).trans x0)
  · exact st_move (.tmp 4) rfl ((K.old 4 rfl).trans x4)
  · exact st_subz (.tmp 11) (.tmp 12) rfl _ _ _ (K.dep 2 11 rfl) (K.dep 3 12 rfl) (by omega) (by omega) (by omega)
  · exact st_leq 3 (.tmp 10) (.tmp 13) rfl .i64 (((2 * 2 ^ j : Nat) : Int)) (((n - a : Nat) : Int)) (K.dep 1 10 rfl) (K.dep 4 13 rfl) _ (by rw [eq_comm, decide_eq_true_iff]; exact Int.ofNat_le.2 hlt)
  intro f8 w8 A hb
  replace bl0 := bl
  replace x0 := (A.old 0 rfl).trans x0
  replace x2 := (A.old 2 rfl).trans x2
  replace x3 := (A.old 3 rfl).trans x3
  replace x4 := (A.old 4 rfl).trans x4
  replace x8 := (A.old 8 rfl).trans x8
  replace x5 := (A.old 5 rfl).trans x5
  have x14 : f8.eval (.tmp 14) = .bool true := A.has 5 14 rfl
  replace h3 := Fk.mono _ _ _ _ h3 hb
  replace bl := (bl.trans (Below.mono hb bl.size))
  replace sz := A.size.trans sz
  replace df := A.defs.trans df
  clear A hb
  show Code.wp _ _ _ _ _
  refine wp_cond_true x14 ?_
  refine wp_skip ?_
  show Code.wp _ _ _ _ _
  refine wp_block ?_
  refine wp_region_seq [.eq (.int .i64 ((2 ^ j : Nat) : Int)), .eq (.int .i64 ((2 * 2 ^ j : Nat) : Int))] (by kernel_rfl) (by kernel_rfl) (by rw [sz]; kernel_rfl) (by kernel_rfl) ⟨fun hw ac u K => ?_, fun hw ac u K => ?_, trivial⟩ ?_
  · exact st_move (.tmp 5) rfl ((K.old 5 rfl).trans x5)
  · exact st_mulz (.const (.int .i64 2)) (.tmp 15) rfl 2 _ _ rfl (K.dep 0 15 rfl) (Int.natCast_mul 2 (2 ^ j)) (by omega) (by omega)
  intro f9 w9 A hb
  replace bl0 := bl
  replace x0 := (A.old 0 rfl).trans x0
  replace x2 := (A.old 2 rfl).trans x2
  replace x3 := (A.old 3 rfl).trans x3
  replace x4 := (A.old 4 rfl).trans x4
  replace x8 := (A.old 8 rfl).trans x8
  replace x5 := (A.old 5 rfl).trans x5
  replace x14 := (A.old 14 rfl).trans x14
  have x16 : f9.eval (.tmp 16) = .int .i64 ((2 * 2 ^ j : Nat) : Int) := A.has 1 16 rfl
  replace h3 := Fk.mono _ _ _ _ h3 hb
  replace bl := (bl.trans (Below.mono hb bl.size))
  replace sz := A.size.trans sz
  replace df := A.defs.trans df
  clear A hb
  refine wl_one (.eq (.int .i64 ((2 * 2 ^ j : Nat) : Int))) rfl 5 rfl (by rw [sz]; decide) (st_assign (.tmp 16) rfl x16) ?_
  intro f10 w10 df2 sz2 old2 new2 hb
  replace bl0 := bl
  replace x0 := (old2 0 rfl).trans x0
  replace x2 := (old2 2 rfl).trans x2
  replace x3 := (old2 3 rfl).trans x3
  replace x4 := (old2 4 rfl).trans x4
  replace x8 := (old2 8 rfl).trans x8
  clear x5
  replace x14 := (old2 14 rfl).trans x14
  replace x16 := (old2 16 rfl).trans x16
  have x5 : f10.eval (.tmp 5) = .int .i64 ((2 * 2 ^ j : Nat) : Int) := new2
  replace h3 := Fk.mono _ _ _ _ h3 hb
  replace bl := (bl.trans (Below.mono hb bl.size))
  replace sz := sz2.trans sz
  replace df := df2.trans df
  clear df2 sz2 old2 new2 hb
  refine wpList_nil ?_
  clear x16
  show (∃ _, _) ∧ _
  replace x5 : Fk.f (.eq (.int .i64 ((2 ^ (j + 1) : Nat) : Int))) (f10.eval (.tmp 5)) w10 := (by rw [show 2 ^ (j + 1) = 2 * 2 ^ j by rw [Nat.pow_succ, Nat.mul_comm]]; exact x5)
  refine ⟨⟨j + 1, (by rw [Nat.pow_succ]; omega), sz, df, x0, x2, x3, x4, x8, x5, h3, bl⟩, ?_⟩
  rw [show f10.eval (.tmp 5) = _ from x5, show _ = _ from hcnt5]
  simp only [intOf, Int.toNat_natCast, Nat.pow_succ]
  omega
end Go.Proofs.YtnppjlpnfijobaaDoor
namespace Go.Proofs.YtnppjlpnfijobaaDoor
set_option maxRecDepth 100000
open Go.RowKit
theorem rops_len (n : Nat) : ∀ a, 1 ≤ n → (rops a n).length = 2 * n - 1 := by
  induction n using Nat.strongRecOn with
  | ind n ih =>
    intro a h1
    by_cases h2 : n = 1
    · subst h2; rw [rops_one]; rfl
    · have hs := spl_lt (n := n) (by omega)
      have hp := spl_pos n
      rw [rops_two a (by omega), List.length_append, List.length_append, ih (spl n) hs a hp, ih (n - spl n) (by omega) (a + spl n) (by omega)]
      simp only [List.length_cons, List.length_nil]
      omega
theorem rroot_any (n : Nat) : ∀ (a : Nat) (w : World), 1 ≤ n → a + n ≤ 1000 → Calls Tryd.prog 25 #[.int .i64 ((a : Nat) : Int), .int .i64 ((a + n : Nat) : Int)] w fun e w' => ∃ u, e = .returned u ∧ (Fk.oi w.heap.size (rops a n)).f u w' ∧ Below w.heap.size w w' := by
  induction n using Nat.strongRecOn with
  | ind n ih =>
  intro a w hn1 hle
  by_cases h1 : n = 1
  · skip
    go_enter Tryd.func25, Tryd.ntmps25
    refine code_both (fun f w1 => f.tmps.size = 34 ∧ f.defers = [] ∧ f.eval (.tmp 0) = .int .i64 ((a : Nat) : Int) ∧ f.eval (.tmp 1) = .int .i64 ((a + n : Nat) : Int) ∧ Below w.heap.size w (w1)) ⟨rfl, rfl, rfl, rfl, Below.refl _ _⟩ ?_
    rintro f0 w0 ⟨sz, df, x0, x1, bl⟩
    have bl0 := bl
    refine wp_seq ?_
    refine wp_all_seq [.eq (.slice none 0 0)] (by kernel_rfl) (by kernel_rfl) (by rw [sz]; kernel_rfl) (by kernel_rfl) ⟨fun hw ac u K => ?_, trivial⟩ ?_
    · exact st_assign (.const (.slice none 0 0)) rfl rfl
    intro f1 w1 A hb
    replace bl0 := bl
    replace x0 := (A.old 0 rfl).trans x0
    replace x1 := (A.old 1 rfl).trans x1
    have x4 : f1.eval (.tmp 4) = .slice none 0 0 := A.has 0 4 rfl
    replace bl := (bl.trans (Below.mono hb bl.size))
    replace sz := A.size.trans sz
    replace df := A.defs.trans df
    clear A hb
    show Code.wp _ _ _ _ _
    refine wp_seq ?_
    refine wp_seq ?_
    refine wp_all_seq [.eq (.int .i64 ((a + n : Nat) : Int)), .eq (.int .i64 ((a : Nat) : Int)), .eq (.int .i64 ((n : Nat) : Int)), .eq (.bool true)] (by kernel_rfl) (by kernel_rfl) (by rw [sz]; kernel_rfl) (by kernel_rfl) ⟨fun hw ac u K => ?_, fun hw ac u K => ?_, fun hw ac u K => ?_, fun hw ac u K => ?_, trivial⟩ ?_
    · exact st_move (.tmp 1) rfl ((K.old 1 rfl).trans x1)
    · exact st_move (.tmp 0) rfl ((K.old 0 rfl).trans x0)
    · exact st_sub (.tmp 7) (.tmp 8) rfl (a + n) (a) (n) (K.dep 0 7 rfl) (K.dep 1 8 rfl) (by omega) (by omega)
    · exact st_eqi 3 (.tmp 9) (.const (.int .i64 1)) rfl .i64 (((n : Nat) : Int)) (1) (K.dep 2 9 rfl) rfl _ (by rw [eq_comm, decide_eq_true_iff]; omega)
    intro f2 w2 A hb
    replace bl0 := bl
    replace x0 := (A.old 0 rfl).trans x0
    replace x1 := (A.old 1 rfl).trans x1
    replace x4 := (A.old 4 rfl).trans x4
    have x10 : f2.eval (.tmp 10) = .bool true := A.has 3 10 rfl
    replace bl := (bl.trans (Below.mono hb bl.size))
    replace sz := A.size.trans sz
    replace df := A.defs.trans df
    clear A hb
    show Code.wp _ _ _ _ _
    refine wp_cond_true x10 ?_
    refine wp_seq ?_
    refine wp_all_seq [.eq (.int .i64 ((a : Nat) : Int)), .oi w.heap.size ([(a : Int)]), .oi w.heap.size ([(a : Int)])] (by kernel_rfl) (by kernel_rfl) (by rw [sz]; kernel_rfl) (by kernel_rfl) ⟨fun hw ac u K => ?_, fun hw ac u K => ?_, fun hw ac u K => ?_, trivial⟩ ?_
    · exact st_move (.tmp 0) rfl ((K.old 0 rfl).trans x0)
    · exact st_bi1 (.tmp 11) rfl _ (K.dep 0 11 rfl) _ (bl.trans (Below.mono K.grow bl.size)).size
    · exact st_assign (.tmp 12) rfl (K.dep 1 12 rfl)
    intro f3 w3 A hb
    replace bl0 := bl
    replace x0 := (A.old 0 rfl).trans x0
    replace x1 := (A.old 1 rfl).trans x1
    clear x4
    replace x10 := (A.old 10 rfl).trans x10
    have x4 : Fk.f (.oi w.heap.size ([(a : Int)])) (f3.eval (.tmp 4)) w3 := A.has 2 4 rfl
    replace bl := (bl.trans (Below.mono hb bl.size))
    replace sz := A.size.trans sz
    replace df := A.defs.trans df
    clear A hb
    show Code.wp _ _ _ _ _
    refine wp_ret ?_
    repeat (first | with_reducible refine then_ret ?_ | with_reducible refine block_ret ?_)
    rw [h1, rops_one]
    exact bodyPost_ret (v := f3.eval (.tmp 4)) (ret_slot rfl f3 _ rfl _ _) df ⟨_, rfl, x4, bl⟩
  · skip
    have h2 : 2 ≤ n := by omega
    obtain ⟨k, hk⟩ : ∃ k, spl n = k := ⟨_, rfl⟩
    have hk1 : k < n := by rw [← hk]; exact spl_lt h2
    have hk2 : 1 ≤ k := by rw [← hk]; exact spl_pos _
    have hto : a + n = (a + k) + (n - k) := by omega
    go_enter Tryd.func25, Tryd.ntmps25
    refine code_both (fun f w1 => f.tmps.size = 34 ∧ f.defers = [] ∧ f.eval (.tmp 0) = .int .i64 ((a : Nat) : Int) ∧ f.eval (.tmp 1) = .int .i64 ((a + n : Nat) : Int) ∧ Below w.heap.size w (w1)) ⟨rfl, rfl, rfl, rfl, Below.refl _ _⟩ ?_
    rintro f0 w0 ⟨sz, df, x0, x1, bl⟩
    have bl0 := bl
    refine wp_seq ?_
    refine wp_all_seq [.eq (.slice none 0 0)] (by kernel_rfl) (by kernel_rfl) (by rw [sz]; kernel_rfl) (by kernel_rfl) ⟨fun hw ac u K => ?_, trivial⟩ ?_
    · exact st_assign (.const (.slice none 0 0)) rfl rfl
    intro f1 w1 A hb
    replace bl0 := bl
    replace x0 := (A.old 0 rfl).trans x0
    replace x1 := (A.old 1 rfl).trans x1
    have x4 : f1.eval (.tmp 4) = .slice none 0 0 := A.has 0 4 rfl
    replace bl := (bl.trans (Below.mono hb bl.size))
    replace sz := A.size.trans sz
    replace df := A.defs.trans df
    clear A hb
    show Code.wp _ _ _ _ _
    refine wp_seq ?_
    refine wp_seq ?_
    refine wp_all_seq [.eq (.int .i64 ((a + n : Nat) : Int)), .eq (.int .i64 ((a : Nat) : Int)), .eq (.int .i64 ((n : Nat) : Int)), .eq (.bool false)] (by kernel_rfl) (by kernel_rfl) (by rw [sz]; kernel_rfl) (by kernel_rfl) ⟨fun hw ac u K => ?_, fun hw ac u K => ?_, fun hw ac u K => ?_, fun hw ac u K => ?_, trivial⟩ ?_
    · exact st_move (.tmp 1) rfl ((K.old 1 rfl).trans x1)
    · exact st_move (.tmp 0) rfl ((K.old 0 rfl).trans x0)
    · exact st_sub (.tmp 7) (.tmp 8) rfl (a + n) (a) (n) (K.dep 0 7 rfl) (K.dep 1 8 rfl) (by omega) (by omega)
    · exact st_eqi 3 (.tmp 9) (.const (.int .i64 1)) rfl .i64 (((n : Nat) : Int)) (1) (K.dep 2 9 rfl) rfl _ (by rw [eq_comm, decide_eq_false_iff_not]; omega)
    intro f2 w2 A hb
    replace bl0 := bl
    replace x0 := (A.old 0 rfl).trans x0
    replace x1 := (A.old 1 rfl).trans x1
    replace x4 := (A.old 4 rfl).trans x4
    have x10 : f2.eval (.tmp 10) = .bool false := A.has 3 10 rfl
    replace bl := (bl.trans (Below.mono hb bl.size))
    replace sz := A.size.trans sz
    replace df := A.defs.trans df
    clear A hb
    show Code.wp _ _ _ _ _
    refine wp_cond_false x10 ?_
    refine wp_skip ?_
    show Code.wp _ _ _ _ _
    refine wp_seq ?_
    refine wp_all_seq [.eq (.int .i64 ((a + n : Nat) : Int)), .eq (.int .i64 ((a : Nat) : Int)), .eq (.int .i64 ((n : Nat) : Int)), .eq (.int .i64 ((k : Nat) : Int)), .eq (.int .i64 ((k : Nat) : Int))] (by kernel_rfl) (by kernel_rfl) (by rw [sz]; kernel_rfl) (by kernel_rfl) ⟨fun hw ac u K => ?_, fun hw ac u K => ?_, fun hw ac u K => ?_, fun hw ac u K => ?_, fun hw ac u K => ?_, trivial⟩ ?_
    · exact st_move (.tmp 1) rfl ((K.old 1 rfl).trans x1)
    · exact st_move (.tmp 0) rfl ((K.old 0 rfl).trans x0)
    · exact st_sub (.tmp 13) (.tmp 14) rfl (a + n) (a) (n) (K.dep 0 13 rfl) (K.dep 1 14 rfl) (by omega) (by omega)
    · exact st_call 45 (.func 45) _ _ #[.int .i64 ((n : Nat) : Int)] rfl rfl (one_arg (K.dep 2 15 rfl)) Tryd.enter45 (by rw [← hk]; exact fk_of (rsplit_any n h2 (by omega) _))
    · exact st_assign (.tmp 16) rfl (K.dep 3 16 rfl)
    intro f3 w3 A hb
    replace bl0 := bl
    replace x0 := (A.old 0 rfl).trans x0
    replace x1 := (A.old 1 rfl).trans x1
    replace x4 := (A.old 4 rfl).trans x4
    replace x10 := (A.old 10 rfl).trans x10
    have x5 : f3.eval (.tmp 5) = .int .i64 ((k : Nat) : Int) := A.has 4 5 rfl
    replace bl := (bl.trans (Below.mono hb bl.size))
    replace sz := A.size.trans sz
    replace df := A.defs.trans df
    clear A hb
    show Code.wp _ _ _ _ _
    refine wp_seq ?_
    refine wp_all_seq [.oi w.heap.size ([])] (by kernel_rfl) (by kernel_rfl) (by rw [sz]; kernel_rfl) (by kernel_rfl) ⟨fun hw ac u K => ?_, trivial⟩ ?_
    · exact st_assign (.const (.slice none 0 0)) rfl (oi_nil _ _)
    intro f4 w4 A hb
    replace bl0 := bl
    replace x0 := (A.old 0 rfl).trans x0
    replace x1 := (A.old 1 rfl).trans x1
    replace x4 := (A.old 4 rfl).trans x4
    replace x10 := (A.old 10 rfl).trans x10
    replace x5 := (A.old 5 rfl).trans x5
    have x6 : Fk.f (.oi w.heap.size ([])) (f4.eval (.tmp 6)) w4 := A.has 0 6 rfl
    replace bl := (bl.trans (Below.mono hb bl.size))
    replace sz := A.size.trans sz
    replace df := A.defs.trans df
    clear A hb
    show Code.wp _ _ _ _ _
    refine wp_seq ?_
    refine wp_region_seq [.oi w.heap.size ([]), .eq (.int .i64 ((a : Nat) : Int)), .eq (.int .i64 ((a : Nat) : Int)), .eq (.int .i64 ((k : Nat) : Int)), .eq (.int .i64 ((a + k : Nat) : Int)), .oi w.heap.size (rops a k)] (by kernel_rfl) (by kernel_rfl) (by rw [sz]; kernel_rfl) (by kernel_rfl) ⟨fun hw ac u K => ?_, fun hw ac u K => ?_, fun hw ac u K => ?_, fun hw ac u K => ?_, fun hw ac u K => ?_, fun hw ac u K => ?_, trivial⟩ ?_
    · exact st_move (.tmp 6) rfl (f_at (K.old 6 rfl) (Fk.mono _ _ _ _ x6 K.grow))
    · exact st_move (.tmp 0) rfl ((K.old 0 rfl).trans x0)
    · exact st_move (.tmp 0) rfl ((K.old 0 rfl).trans x0)
    · exact st_move (.tmp 5) rfl ((K.old 5 rfl).trans x5)
    · exact st_add (.tmp 19) (.tmp 20) rfl (a) (k) (a + k) (K.dep 2 19 rfl) (K.dep 3 20 rfl) (by omega) (by omega)
    · exact st_call 25 (.func 25) _ _ #[.int .i64 ((a : Nat) : Int), .int .i64 ((a + k : Nat) : Int)] rfl rfl (arg2 (K.dep 1 18 rfl) (K.dep 4 21 rfl)) Tryd.enter25 (fk_orw (bl.trans (Below.mono K.grow bl.size)).size (ih k (by omega) a _ hk2 (by omega)))
    intro f5 w5 A hb
    replace bl0 := bl
    replace x0 := (A.old 0 rfl).trans x0
    replace x1 := (A.old 1 rfl).trans x1
    replace x4 := (A.old 4 rfl).trans x4
    replace x10 := (A.old 10 rfl).trans x10
    replace x5 := (A.old 5 rfl).trans x5
    replace x6 := f_at (A.old 6 rfl) (Fk.mono _ _ _ _ x6 hb)
    have x17 : Fk.f (.oi w.heap.size ([])) (f5.eval (.tmp 17)) w5 := A.has 0 17 rfl
    have x22 : Fk.f (.oi w.heap.size (rops a k)) (f5.eval (.tmp 22)) w5 := A.has 5 22 rfl
    replace bl := (bl.trans (Below.mono hb bl.size))
    replace sz := A.size.trans sz
    replace df := A.defs.trans df
    clear A hb
    refine wl_appendi rfl (.tmp 17) (.tmp 22) rfl 23 rfl (by rw [sz]; decide) x17 x22 (by rw [rops_len k a hk2]; omega) bl (by rw [rops_len k a hk2]; simp; omega) ?_
    intro f6 w6 df2 sz2 old2 new2 bl2
    clear x6
    clear x17
    clear x22
    replace x0 := (old2 0 rfl).trans x0
    replace x1 := (old2 1 rfl).trans x1
    replace x4 := (old2 4 rfl).trans x4
    replace x10 := (old2 10 rfl).trans x10
    replace x5 := (old2 5 rfl).trans x5
    have x23 : Fk.f (.oi w.heap.size (rops a k)) (f6.eval (.tmp 23)) w6 := new2
    replace bl := bl2
    replace bl0 := bl
    replace sz := sz2.trans sz
    replace df := df2.trans df
    clear df2 sz2 old2 new2 bl2
    refine wl_one (.oi w.heap.size (rops a k)) rfl 6 rfl (by rw [sz]; decide) (st_assign (.tmp 23) rfl x23) ?_
    intro f7 w7 df2 sz2 old2 new2 hb
    replace bl0 := bl
    replace x0 := (old2 0 rfl).trans x0
    replace x1 := (old2 1 rfl).trans x1
    replace x4 := (old2 4 rfl).trans x4
    replace x10 := (old2 10 rfl).trans x10
    replace x5 := (old2 5 rfl).trans x5
    replace x23 := f_at (old2 23 rfl) (Fk.mono _ _ _ _ x23 hb)
    have x6 : Fk.f (.oi w.heap.size (rops a k)) (f7.eval (.tmp 6)) w7 := new2
    replace bl := (bl.trans (Below.mono hb bl.size))
    replace sz := sz2.trans sz
    replace df := df2.trans df
    clear df2 sz2 old2 new2 hb
    refine wpList_nil ?_
    clear x23
    show Code.wp _ _ _ _ _
    refine wp_seq ?_
    refine wp_region_seq [.oi w.heap.size (rops a k), .eq (.int .i64 ((a : Nat) : Int)), .eq (.int .i64 ((k : Nat) : Int)), .eq (.int .i64 ((a + k : Nat) : Int)), .eq (.int .i64 ((a + n : Nat) : Int)), .oi w.heap.size (rops (a + k) (n - k))] (by kernel_rfl) (by kernel_rfl) (by rw [sz]; kernel_rfl) (by kernel_rfl) ⟨fun hw ac u K => ?_, fun hw ac u K => ?_, fun hw ac u K => ?_, fun hw ac u K => ?_, fun hw ac u K => ?_, fun hw ac u K => ?_, trivial⟩ ?_
    · exact st_move (.tmp 6) rfl (f_at (K.old 6 rfl) (Fk.mono _ _ _ _ x6 K.grow))
    · exact st_move (.tmp 0) rfl ((K.old 0 rfl).trans x0)
    · exact st_move (.tmp 5) rfl ((K.old 5 rfl).trans x5)
    · exact st_add (.tmp 25) (.tmp 26) rfl (a) (k) (a + k) (K.dep 1 25 rfl) (K.dep 2 26 rfl) (by omega) (by omega)
    · exact st_move (.tmp 1) rfl ((K.old 1 rfl).trans x1)
    · exact st_call 25 (.func 25) _ _ #[.int .i64 ((a + k : Nat) : Int), .int .i64 ((a + n : Nat) : Int)] rfl rfl (arg2 (K.dep 3 27 rfl) (K.dep 4 28 rfl)) Tryd.enter25 (fk_orw (bl.trans (Below.mono K.grow bl.size)).size (by rw [hto]; exact ih (n - k) (by omega) (a + k) _ (by omega) (by omega)))
    intro f8 w8 A hb
    replace bl0 := bl
    replace x0 := (A.old 0 rfl).trans x0
    replace x1 := (A.old 1 rfl).trans x1
    replace x4 := (A.old 4 rfl).trans x4
    replace x10 := (A.old 10 rfl).trans x10
    replace x5 := (A.old 5 rfl).trans x5
    replace x6 := f_at (A.old 6 rfl) (Fk.mono _ _ _ _ x6 hb)
    have x24 : Fk.f (.oi w.heap.size (rops a k)) (f8.eval (.tmp 24)) w8 := A.has 0 24 rfl
    have x29 : Fk.f (.oi w.heap.size (rops (a + k) (n - k))) (f8.eval (.tmp 29)) w8 := A.has 5 29 rfl
    replace bl := (bl.trans (Below.mono hb bl.size))
    replace sz := A.size.trans sz
    replace df := A.defs.trans df
    clear A hb
    refine wl_appendi rfl (.tmp 24) (.tmp 29) rfl 30 rfl (by rw [sz]; decide) x24 x29 (by rw [rops_len _ _ (by omega)]; omega) bl (by rw [rops_len k a hk2, rops_len _ _ (by omega)]; omega) ?_
    intro f9 w9 df2 sz2 old2 new2 bl2
    clear x6
    clear x24
    clear x29
    replace x0 := (old2 0 rfl).trans x0
    replace x1 := (old2 1 rfl).trans x1
    replace x4 := (old2 4 rfl).trans x4
    replace x10 := (old2 10 rfl).trans x10
    replace x5 := (old2 5 rfl).trans x5
    have x30 : Fk.f (.oi w.heap.size (rops a k ++ rops (a + k) (n - k))) (f9.eval (.tmp 30)) w9 := new2
    replace bl := bl2
    replace bl0 := bl
    replace sz := sz2.trans sz
    replace df := df2.trans df
    clear df2 sz2 old2 new2 bl2
    refine wl_one (.oi w.heap.size (rops a k ++ rops (a + k) (n - k))) rfl 6 rfl (by rw [sz]; decide) (st_assign (.tmp 30) rfl x30) ?_
    intro f10 w10 df2 sz2 old2 new2 hb
    replace bl0 := bl
    replace x0 := (old2 0 rfl).trans x0
    replace x1 := (old2 1 rfl).trans x1
    replace x4 := (old2 4 rfl).trans x4
    replace x10 := (old2 10 rfl).trans x10
    replace x5 := (old2 5 rfl).trans x5
    replace x30 := f_at (old2 30 rfl) (Fk.mono _ _ _ _ x30 hb)
    have x6 : Fk.f (.oi w.heap.size (rops a k ++ rops (a + k) (n - k))) (f10.eval (.tmp 6)) w10 := new2
    replace bl := (bl.trans (Below.mono hb bl.size))
    replace sz := sz2.trans sz
    replace df := df2.trans df
    clear df2 sz2 old2 new2 hb
    refine wpList_nil ?_
    clear x30
    show Code.wp _ _ _ _ _
    refine wp_seq ?_
    refine wp_region_seq [.oi w.heap.size (rops a k ++ rops (a + k) (n - k)), .oi w.heap.size ([-1])] (by kernel_rfl) (by kernel_rfl) (by rw [sz]; kernel_rfl) (by kernel_rfl) ⟨fun hw ac u K => ?_, fun hw ac u K => ?_, trivial⟩ ?_
    · exact st_move (.tmp 6) rfl (f_at (K.old 6 rfl) (Fk.mono _ _ _ _ x6 K.grow))
    · exact st_bi1 (.const (.int .i64 (-1))) rfl _ rfl _ (bl.trans (Below.mono K.grow bl.size)).size
    intro f11 w11 A hb
    replace bl0 := bl
    replace x0 := (A.old 0 rfl).trans x0
    replace x1 := (A.old 1 rfl).trans x1
    replace x4 := (A.old 4 rfl).trans x4
    replace x10 := (A.old 10 rfl).trans x10
    replace x5 := (A.old 5 rfl).trans x5
    replace x6 := f_at (A.old 6 rfl) (Fk.mono _ _ _ _ x6 hb)
    have x31 : Fk.f (.oi w.heap.size (rops a k ++ rops (a + k) (n - k))) (f11.eval (.tmp 31)) w11 := A.has 0 31 rfl
    have x32 : Fk.f (.oi w.heap.size ([-1])) (f11.eval (.tmp 32)) w11 := A.has 1 32 rfl
    replace bl := (bl.trans (Below.mono hb bl.size))
    replace sz := A.size.trans sz
    replace df := A.defs.trans df
    clear A hb
    refine wl_appendi rfl (.tmp 31) (.tmp 32) rfl 33 rfl (by rw [sz]; decide) x31 x32 (by simp) bl (by rw [List.length_append, rops_len k a hk2, rops_len _ _ (by omega)]; simp only [List.length_cons, List.length_nil]; omega) ?_
    intro f12 w12 df2 sz2 old2 new2 bl2
    clear x6
    clear x31
    clear x32
    replace x0 := (old2 0 rfl).trans x0
    replace x1 := (old2 1 rfl).trans x1
    replace x4 := (old2 4 rfl).trans x4
    replace x10 := (old2 10 rfl).trans x10
    replace x5 := (old2 5 rfl).trans x5
    have x33 : Fk.f (.oi w.heap.size ((rops a k ++ rops (a + k) (n - k)) ++ [-1])) (f12.eval (.tmp 33)) w12 := new2
    replace bl := bl2
    replace bl0 := bl
    replace sz := sz2.trans sz
    replace df := df2.trans df
    clear df2 sz2 old2 new2 bl2
    refine wl_one (.oi w.heap.size ((rops a k ++ rops (a + k) (n - k)) ++ [-1])) rfl 4 rfl (by rw [sz]; decide) (st_assign (.tmp 33) rfl x33) ?_
    intro f13 w13 df2 sz2 old2 new2 hb
    replace bl0 := bl
    replace x0 := (old2 0 rfl).trans x0
    replace x1 := (old2 1 rfl).trans x1
    clear x4
    replace x10 := (old2 10 rfl).trans x10
    replace x5 := (old2 5 rfl).trans x5
    replace x33 := f_at (old2 33 rfl) (Fk.mono _ _ _ _ x33 hb)
    have x4 : Fk.f (.oi w.heap.size ((rops a k ++ rops (a + k) (n - k)) ++ [-1])) (f13.eval (.tmp 4)) w13 := new2
    replace bl := (bl.trans (Below.mono hb bl.size))
    replace sz := sz2.trans sz
    replace df := df2.trans df
    clear df2 sz2 old2 new2 hb
    refine wpList_nil ?_
    clear x33
    show Code.wp _ _ _ _ _
    refine wp_ret ?_
    repeat (first | with_reducible refine then_ret ?_ | with_reducible refine block_ret ?_)
    rw [List.append_assoc] at x4
    rw [rops_two a h2, hk]
    exact bodyPost_ret (v := f13.eval (.tmp 4)) (ret_slot rfl f13 _ rfl _ _) df ⟨_, rfl, x4, bl⟩
end Go.Proofs.YtnppjlpnfijobaaDoor
namespace Go.Proofs.YtnppjlpnfijobaaDoor
set_option maxRecDepth 100000
open Go.RowKit
theorem sl_nil (w : World) : (Fk.sl []).f (.slice none 0 0) w := ⟨none, 0, 0, 0, 0, rfl, ⟨rfl, Nat.le_refl _, fun _ => ⟨rfl, rfl⟩, fun h => absurd h (by decide)⟩⟩
theorem hc_len {l : List (List (BitVec 8))} {v : Value} {w : World} (h : (Fk.hc l).f v w) : ∀ x ∈ l, x.length = 32 := by
  intro x hx
  obtain ⟨i, hi, rfl⟩ := List.getElem_of_mem hx
  obtain ⟨A, C, lb, lo, e, _, hl⟩ := h
  exact (hl.all i _ (List.getElem?_eq_getElem hi)).1
theorem mroot_len {l : List (List (BitVec 8))} (h : ∀ x ∈ l, x.length = 32) : (mroot l).length = 32 := by
  match l, h with
  | [], _ => rw [mroot_nil]; exact shaOf_len _
  | [x], h => rw [mroot_one]; exact h x (by simp)
  | x :: y :: r, _ => rw [mroot_two (by simp)]; exact nd_len _ _
end Go.Proofs.YtnppjlpnfijobaaDoor
namespace Go.Proofs.YtnppjlpnfijobaaDoor
set_option maxRecDepth 100000
open Go.RowKit
theorem flat_take (hs : List (List (BitVec 8))) (h32 : ∀ (i : Nat) (x : List (BitVec 8)), hs[i]? = some x → x.length = 32) (n : Nat) : (hs.take n).flatten = hs.flatten.take (n * 32) := by
  induction hs generalizing n with
  | nil => simp
  | cons y r ih =>
    cases n with
    | zero => simp
    | succ n =>
      have hy : y.length = 32 := h32 0 y rfl
      rw [List.take_succ_cons, List.flatten_cons, List.flatten_cons, ih (fun i x hi => h32 (i + 1) x hi) n, List.take_append, hy]
      rw [List.take_of_length_le (l := y) (by omega), show (n + 1) * 32 - 32 = n * 32 by omega]
theorem ow_take {base : Nat} {hs : List (List (BitVec 8))} {A : Option Addr} {C : Nat} {w : World} (h : (Fk.ow base hs).f (.slice A hs.length C) w) (n : Nat) (hn : n ≤ hs.length) : (Fk.ow base (hs.take n)).f (.slice A n C) w := by
  obtain ⟨⟨h1, h2⟩, h3⟩ := h
  have hl : (hs.take n).length = n := by rw [List.length_take]; omega
  have h3' : ∀ (i : Nat) (x : List (BitVec 8)), (hs.take n)[i]? = some x → x.length = 32 := fun i x hi => by
    rw [List.getElem?_take] at hi
    split at hi
    · exact h3 i x hi
    · cases hi
  refine ⟨?_, h3'⟩
  rw [hl, flat_take hs h3, List.map_take]
  refine ⟨?_, ?_⟩
  · rw [List.length_take, h1]
    have : n * 32 ≤ hs.length * 32 := Nat.mul_le_mul_right _ hn
    omega
  · rcases h2 with ⟨e, h0⟩ | ⟨g, cap, cur, e, hbg, hg, hnc, hm, hcs, ht⟩
    · have : n = 0 := by omega
      subst this
      injection e with e1 e2 e3
      subst e1 e3
      exact .inl ⟨rfl, rfl⟩
    · cases e
      refine .inr ⟨g, C, cur, rfl, hbg, hg, by omega, hm, hcs, ?_⟩
      rw [← ht, List.take_take]
      congr 1
      have : n * 32 ≤ hs.length * 32 := Nat.mul_le_mul_right _ hn
      omega
end Go.Proofs.YtnppjlpnfijobaaDoor
