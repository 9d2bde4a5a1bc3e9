/- Slices of numbers, and of pairs of numbers: of the call's own, and to be read. The reference's Root. Root. An own slice of hashes that is cut is an own slice. -/
import Derived.Test.YtfmeeimhfdnjpaaDoorM4
namespace Go.Proofs.YtfmeeimhfdnjpaaDoor
set_option maxRecDepth 100000
open Go.RowKit
/-- A slice of the call's own: n things of a type, of so many cells each. -/
def Fk.orw (base T sz n : Nat) (cs : List Value) : Fk := .inr (.inl ⟨fun v w => w.ownsRow base T sz v n cs, by
  rintro v w w' ⟨h1, h2⟩ hb
  refine ⟨h1, ?_⟩
  rcases h2 with h2 | ⟨g, cap, cur, e, hbg, hg, r⟩
  · exact .inl h2
  · exact .inr ⟨g, cap, cur, e, hbg, by rw [hb.block g (Array.getElem?_eq_some_iff.1 hg).1]; exact hg, r⟩⟩)
/-- A slice that may be read: n things, of so many cells each. -/
def Fk.rdw (sz n : Nat) (cs : List Value) : Fk := .inr (.inl ⟨fun v w => ∃ A C lb lo, v = .slice A n C ∧ (0 < n → A = some ⟨lb, lo, none⟩) ∧ cs.length = n * sz ∧ w.rangeAt lb lo cs, by
  rintro v w w' ⟨A, C, lb, lo, e, h1, h2, h3⟩ hb
  exact ⟨A, C, lb, lo, e, h1, h2, fun j u hj => by have := h3 j u hj; rw [hb.cell (block_lt_of_cell this)]; exact this⟩⟩)
theorem orw_rdw {base T sz n : Nat} {cs : List Value} {v : Value} {w : World} (h : (Fk.orw base T sz n cs).f v w) : (Fk.rdw sz n cs).f v w := by
  obtain ⟨h1, h2⟩ := h
  rcases h2 with ⟨rfl, rfl⟩ | ⟨g, cap, cur, rfl, hbg, hg, hnc, _, hcs, ht⟩
  · have : cs = [] := List.eq_nil_of_length_eq_zero (by rw [h1]; simp)
    subst this
    exact ⟨none, 0, 0, 0, rfl, fun h => absurd h (by decide), by simp, fun j u hj => by simp at hj⟩
  · refine ⟨_, cap, g, 0, rfl, fun _ => rfl, h1, fun j u hj => ?_⟩
    have hjl : j < n * sz := by rw [← h1]; exact (List.getElem?_eq_some_iff.1 hj).1
    rw [cell_of_row _ _ _ _ _ _ hg, Nat.zero_add]
    have e := congrArg (·[j]?) ht
    simp only [List.getElem?_take, hj, if_pos hjl, Array.getElem?_toList] at e
    exact e
theorem orw_le {g0 g1 : Nat} (hg : g1 ≤ g0) {T sz n : Nat} {cs : List Value} {v : Value} {w : World} (h : (Fk.orw g0 T sz n cs).f v w) : (Fk.orw g1 T sz n cs).f v w := by
  obtain ⟨h1, h2⟩ := h
  refine ⟨h1, ?_⟩
  rcases h2 with h2 | ⟨g, cap, cur, e, hbg, r⟩
  · exact .inl h2
  · exact .inr ⟨g, cap, cur, e, Nat.le_trans hg hbg, r⟩
theorem orw_nil (base T sz : Nat) (w : World) : (Fk.orw base T sz 0 []).f (.slice none 0 0) w := World.ownsRow_nil _ _ _ _
theorem fk_orw {f : FuncId} {args : Array Value} {w : World} {g0 T sz n : Nat} {cs : List Value} (hg : g0 ≤ w.heap.size) (h : Calls Tryd.prog f args w fun e w' => ∃ u, e = .returned u ∧ (Fk.orw w.heap.size T sz n cs).f u w' ∧ Below w.heap.size w w') :
    Calls Tryd.prog f args w fun e w' => ∃ u, e = .returned u ∧ (Fk.orw g0 T sz n cs).f u w' ∧ Below w.heap.size w w' := by
  refine h.mono ?_
  rintro e w' ⟨u, rfl, h1, h3⟩
  exact ⟨u, rfl, orw_le hg h1, h3⟩
theorem orw_new {w : World} {base T sz : Nat} {cs : List Value} (hl : cs.length = sz) (hb : base ≤ w.heap.size) : (Fk.orw base T sz 1 cs).f (.slice (some ⟨w.heap.size, 0, none⟩) 1 1) (w.alloc (.cells cs.toArray T)) :=
  ⟨by rw [hl, Nat.one_mul], .inr ⟨w.heap.size, 1, cs.toArray, rfl, hb, heap_alloc_new _ _, Nat.le_refl _, by unfold maxLen; omega, by simp [hl], by simp [← hl]⟩⟩
section
variable {Q : Exit → Act → World → Prop} {o : Oper} {a : Act} {w : World} {ops : Array Oper} {rest : List Oper}
theorem wl_appr (ST T sz by_ : Nat) {z : Value} (hu : Tryd.prog.underlying ST = some (.slice T)) (hinf : (Tryd.prog.info? T).map (fun i => (i.zero, i.size, i.bytes)) = some (some z, sz, by_)) (hzs : z.cells.size = sz) (hpos : 0 < sz)
    (hgd : o.guard = none) (s x : Operand) (ho : o.op = .call { callee := .builtin .append, args := #[s, x], argTypes := #[ST, ST] }) (d : Nat) (hd : o.dst = some d) (hsz : d < a.tmps.size)
    {wL : World} {b n m : Nat} {cs ds : List Value} (hs1 : (Fk.orw wL.heap.size T sz n cs).f (a.eval s) w) (hx : (Fk.orw b T sz m ds).f (a.eval x) w) (hm : 1 ≤ m) (hone : ∀ u ∈ ds, u.oneCell' = true) (hL : Below wL.heap.size wL w) (hN : n + m ≤ 100000) (hby : by_ ≤ 1000)
    (h : ∀ a2 w2, a2.defers = a.defers → a2.tmps.size = a.tmps.size → (∀ t, (t == d) = false → a2.eval (.tmp t) = a.eval (.tmp t)) → (Fk.orw wL.heap.size T sz (n + m) (cs ++ ds)).f (a2.eval (.tmp d)) w2 → Below wL.heap.size wL w2 → wpList Tryd.prog ops Q rest a2 w2) : wpList Tryd.prog ops Q (o :: rest) a w := by
  obtain ⟨i0, hi, hz0, hz1, hz2⟩ := info_parts hinf
  obtain ⟨A, C, lb, lo, e, hp, hl, hr⟩ := orw_rdw hx
  have hp := hp (by omega)
  subst hp
  have hown : w.ownsRow wL.heap.size T sz (a.eval s) n cs := hs1
  refine wpList_append_own w hgd s x ST ho wL.heap.size T i0 z sz by_ hu hi hz0 hz1 hz2 hzs hpos _ n cs rfl hown ⟨lb, lo, none⟩ m C ds e hl (fun j u hj => by rw [Addr.add_mid]; exact hr j u hj) hone (by unfold maxLen; omega) ?_ hL.size ?_
  · have := Nat.mul_le_mul hN hby
    omega
  · intro v' w' h1 h2 _
    refine h _ _ (put_def _ _ _) (put_size _ _ _) (fun t ht => ?_) ?_ (hL.grown h2 hL.size (fun k e => (World.ownsRow.lt hown k e).1))
    · rw [hd]
      exact put_eval_other _ _ _ _ (fun e => by subst e; simp at ht)
    · rw [hd, put_eval_same _ _ _ hsz]
      exact h1
theorem st_lenr (ST T : Nat) (hu : Tryd.prog.underlying ST = some (.slice T)) (he : Tryd.prog.elem ST = T) (x : Operand) (ho : o.op = .call { callee := .builtin .len, args := #[x], argTypes := #[ST] }) {sz n : Nat} {cs : List Value} (h : (Fk.rdw sz n cs).f (a.eval x) w) : o.wp Tryd.prog a w (Ends a o.dst w (Fk.eq (.int .i64 ((n : Nat) : Int))).f) Q := by
  obtain ⟨A, C, lb, lo, e, _⟩ := h
  refine st_pure (v := .int .i64 (n : Int)) ?_ rfl
  have h1 := run_len_slice (P := Tryd.prog) (w := w) ST o.type A n C (by rw [he]; exact hu)
  unfold execOp
  simp [ho, resolve, invoke, builtin, e, h1, goInt]
/-- A pointer to these cells. -/
def Fk.prg (cs : List Value) : Fk := .inr (.inl ⟨fun v w => ∃ b o, v = .pointer (some ⟨b, o, none⟩) ∧ w.rangeAt b o cs, by
  rintro v w w' ⟨b, o, e, h⟩ hb
  exact ⟨b, o, e, fun j u hj => by have := h j u hj; rw [hb.cell (block_lt_of_cell this)]; exact this⟩⟩)
theorem st_idxr2 (ST T : Nat) (hu : Tryd.prog.underlying ST = some (.slice T)) (he : Tryd.prog.elem ST = T) {sz : Nat} (hs : ∀ w, (sizeOf T).run Tryd.prog w = .ok sz w) (x y : Operand) (ho : o.op = .indexAddr ST x y) {n : Nat} {cs : List Value} (h : (Fk.rdw sz n cs).f (a.eval x) w) (i : Nat) (hy : a.eval y = .int .i64 (i : Int)) (hi : i < n) (ds : List Value) (hd : ∀ (j : Nat) (v : Value), ds[j]? = some v → cs[i * sz + j]? = some v) : o.wp Tryd.prog a w (Ends a o.dst w (Fk.prg ds).f) Q := by
  obtain ⟨A, C, lb, lo, e, hp, hl, hr⟩ := h
  have hp := hp (by omega)
  subst hp
  refine st_pure (v := .pointer (some ⟨lb, lo + i * sz, none⟩)) ?_ ⟨lb, lo + i * sz, rfl, fun j u hj => by rw [Nat.add_assoc]; exact hr _ _ (hd j u hj)⟩
  have h1 := run_indexAt_slice (P := Tryd.prog) (w := w) ST ⟨lb, lo, none⟩ n C .i64 (i : Int) (by rw [he]; exact hu)
  rw [if_pos (by omega), he, hs] at h1
  simp only [Result.andThen_ok, Int.toNat_natCast, Addr.add_mid] at h1
  unfold execOp
  rw [ho]
  simp [e, hy, h1]
theorem st_loadr1 (T : TypeId) (x : Operand) (ho : o.op = .load T x) (h1 : (isAgg T).run Tryd.prog w = .ok false w) {u : Value} (h : (Fk.prg [u]).f (a.eval x) w) : o.wp Tryd.prog a w (Ends a o.dst w (Fk.eq u).f) Q := by
  obtain ⟨b, so, e, hr⟩ := h
  exact st_loadc T x ho h1 e (by have := hr 0 u rfl; simpa using this)
theorem st_bldr (ST T sz : Nat) (x : Operand) (ho : o.op = .buildSlice ST 1 #[(0, x)]) {u : Value} (cs : List Value) (hx : a.eval x = u) (hr : ∀ w, (Instr.buildSlice ST 1 #[(0, u)]).run Tryd.prog w = .ok (.slice (some ⟨w.heap.size, 0, none⟩) 1 1) (w.alloc (.cells cs.toArray T))) (hl : cs.length = sz) (g0 : Nat) (hg : g0 ≤ w.heap.size) : o.wp Tryd.prog a w (Ends a o.dst w (Fk.orw g0 T sz 1 cs).f) Q := by
  refine st_run (v := .slice (some ⟨w.heap.size, 0, none⟩) 1 1) (w' := w.alloc (.cells cs.toArray T)) ?_ ((Below.refl _ _).alloc (Nat.le_refl _) _) (orw_new hl hg)
  unfold execOp
  rw [ho]
  simp [hx, hr]
end
/-- Numbers in cells. -/
def zv (ds : List Int) : List Value := ds.map fun z => .int .i64 z
theorem zv_append (a b : List Int) : zv (a ++ b) = zv a ++ zv b := List.map_append
theorem zv_one (ds : List Int) : ∀ u ∈ zv ds, u.oneCell' = true := by
  intro u hu
  obtain ⟨z, _, rfl⟩ := List.mem_map.1 hu
  rfl
theorem zv_at {ds : List Int} {i : Nat} {z : Int} (h : ds[i]? = some z) : ∀ (j : Nat) (v : Value), ([.int .i64 z] : List Value)[j]? = some v → (zv ds)[i * 1 + j]? = some v := by
  intro j v hj
  cases j with
  | zero =>
    obtain rfl : Value.int .i64 z = v := by simpa using hj
    simp [zv, h]
  | succ j => simp at hj
/-- Pairs of numbers in cells. -/
def pv2 (ps : List (Nat × Nat)) : List Value := ps.flatMap fun p => [.int .i64 (p.1 : Int), .int .i64 (p.2 : Int)]
/-- Numbers of the call's own; to be read. -/
def Fk.oi (base : Nat) (ds : List Int) : Fk := Fk.orw base 3 1 ds.length (zv ds)
def Fk.is (ds : List Int) : Fk := Fk.rdw 1 ds.length (zv ds)
def Fk.ps (ps : List (Nat × Nat)) : Fk := Fk.rdw 2 ps.length (pv2 ps)
theorem Tryd.under56z : Tryd.prog.underlying 56 = some (.slice 3) := by kernel_rfl
theorem Tryd.elem56z : Tryd.prog.elem 56 = 3 := by kernel_rfl
theorem Tryd.info3z : (Tryd.prog.info? 3).map (fun i => (i.zero, i.size, i.bytes)) = some (some (.int .i64 0), 1, 8) := by kernel_rfl
theorem Tryd.size3z (w : World) : (sizeOf 3).run Tryd.prog w = .ok 1 w := by kernel_rfl
theorem Tryd.bld3z (z : Int) (w : World) : (Instr.buildSlice 56 1 #[(0, .int .i64 z)]).run Tryd.prog w = .ok (.slice (some ⟨w.heap.size, 0, none⟩) 1 1) (w.alloc (.cells (zv [z]).toArray 3)) := by kernel_rfl
theorem oi_is {base : Nat} {ds : List Int} {v : Value} {w : World} (h : (Fk.oi base ds).f v w) : (Fk.is ds).f v w := orw_rdw h
theorem oi_nil (base : Nat) (w : World) : (Fk.oi base []).f (.slice none 0 0) w := orw_nil _ _ _ _
section
variable {Q : Exit → Act → World → Prop} {o : Oper} {a : Act} {w : World} {ops : Array Oper} {rest : List Oper}
theorem wl_appendi (hgd : o.guard = none) (s x : Operand) (ho : o.op = .call { callee := .builtin .append, args := #[s, x], argTypes := #[56, 56] }) (d : Nat) (hd : o.dst = some d) (hsz : d < a.tmps.size)
    {wL : World} {b : Nat} {cs ds : List Int} (hs1 : (Fk.oi wL.heap.size cs).f (a.eval s) w) (hx : (Fk.oi b ds).f (a.eval x) w) (hm : 1 ≤ ds.length) (hL : Below wL.heap.size wL w) (hN : cs.length + ds.length ≤ 100000)
    (h : ∀ a2 w2, a2.defers = a.defers → a2.tmps.size = a.tmps.size → (∀ t, (t == d) = false → a2.eval (.tmp t) = a.eval (.tmp t)) → (Fk.oi wL.heap.size (cs ++ ds)).f (a2.eval (.tmp d)) w2 → Below wL.heap.size wL w2 → wpList Tryd.prog ops Q rest a2 w2) : wpList Tryd.prog ops Q (o :: rest) a w :=
  wl_appr 56 3 1 8 Tryd.under56z Tryd.info3z rfl (by decide) hgd s x ho d hd hsz hs1 hx hm (zv_one ds) hL hN (by decide) (fun a2 w2 h1 h2 h3 h4 h5 => h a2 w2 h1 h2 h3 (by unfold Fk.oi; rw [List.length_append, zv_append]; exact h4) h5)
theorem st_lenis (x : Operand) (ho : o.op = .call { callee := .builtin .len, args := #[x], argTypes := #[56] }) {ds : List Int} (h : (Fk.is ds).f (a.eval x) w) : o.wp Tryd.prog a w (Ends a o.dst w (Fk.eq (.int .i64 ((ds.length : Nat) : Int))).f) Q := st_lenr 56 3 Tryd.under56z Tryd.elem56z x ho h
theorem st_idxis (x y : Operand) (ho : o.op = .indexAddr 56 x y) {ds : List Int} (h : (Fk.is ds).f (a.eval x) w) (i : Nat) (hy : a.eval y = .int .i64 (i : Int)) (z : Int) (hi : ds[i]? = some z) : o.wp Tryd.prog a w (Ends a o.dst w (Fk.prg [.int .i64 z]).f) Q :=
  st_idxr2 56 3 Tryd.under56z Tryd.elem56z Tryd.size3z x y ho h i hy (List.getElem?_eq_some_iff.1 hi).1 _ (zv_at hi)
theorem st_bi1 (x : Operand) (ho : o.op = .buildSlice 56 1 #[(0, x)]) (z : Int) (hx : a.eval x = .int .i64 z) (g0 : Nat) (hg : g0 ≤ w.heap.size) : o.wp Tryd.prog a w (Ends a o.dst w (Fk.oi g0 [z]).f) Q := st_bldr 56 3 1 x ho _ hx (Tryd.bld3z z) rfl g0 hg
end
end Go.Proofs.YtfmeeimhfdnjpaaDoor
namespace Go.Proofs.YtfmeeimhfdnjpaaDoor
set_option maxRecDepth 100000
open Go.RowKit
theorem rops_len (n : Nat) : ∀ a, 1 ≤ n → (rops a n).length = 2 * n - 1 := by
  induction n using Nat.strongRecOn with
  | ind n ih =>
    intro a h1
    by_cases h2 : n = 1
    · subst h2; rw [rops_one]; rfl
    · have hs := spl_lt (n := n) (by omega)
      have hp := spl_pos n
      rw [rops_two a (by omega), List.length_append, List.length_append, ih (spl n) hs a hp, ih (n - spl n) (by omega) (a + spl n) (by omega)]
      simp only [List.length_cons, List.length_nil]
      omega
theorem rroot_any (n : Nat) : ∀ (a : Nat) (w : World), 1 ≤ n → a + n ≤ 1000 → Calls Tryd.prog 29 #[.int .i64 ((a : Nat) : Int), .int .i64 ((a + n : Nat) : Int)] w fun e w' => ∃ u, e = .returned u ∧ (Fk.oi w.heap.size (rops a n)).f u w' ∧ Below w.heap.size w w' := by
  induction n using Nat.strongRecOn with
  | ind n ih =>
  intro a w hn1 hle
  by_cases h1 : n = 1
  · skip
    go_enter Tryd.func29, Tryd.ntmps29
    refine code_both (fun f w1 => f.tmps.size = 34 ∧ f.defers = [] ∧ f.eval (.tmp 0) = .int .i64 ((a : Nat) : Int) ∧ f.eval (.tmp 1) = .int .i64 ((a + n : Nat) : Int) ∧ Below w.heap.size w (w1)) ⟨rfl, rfl, rfl, rfl, Below.refl _ _⟩ ?_
    rintro f0 w0 ⟨sz, df, x0, x1, bl⟩
    have bl0 := bl
    refine wp_seq ?_
    refine wp_all_seq [.eq (.slice none 0 0)] (by kernel_rfl) (by kernel_rfl) (by rw [sz]; kernel_rfl) (by kernel_rfl) ⟨fun hw ac u K => ?_, trivial⟩ ?_
    · exact st_assign (.const (.slice none 0 0)) rfl rfl
    intro f1 w1 A hb
    replace bl0 := bl
    replace x0 := (A.old 0 rfl).trans x0
    replace x1 := (A.old 1 rfl).trans x1
    have x4 : f1.eval (.tmp 4) = .slice none 0 0 := A.has 0 4 rfl
    replace bl := (bl.trans (Below.mono hb bl.size))
    replace sz := A.size.trans sz
    replace df := A.defs.trans df
    clear A hb
    show Code.wp _ _ _ _ _
    refine wp_seq ?_
    refine wp_seq ?_
    refine wp_all_seq [.eq (.int .i64 ((a + n : Nat) : Int)), .eq (.int .i64 ((a : Nat) : Int)), .eq (.int .i64 ((n : Nat) : Int)), .eq (.bool true)] (by kernel_rfl) (by kernel_rfl) (by rw [sz]; kernel_rfl) (by kernel_rfl) ⟨fun hw ac u K => ?_, fun hw ac u K => ?_, fun hw ac u K => ?_, fun hw ac u K => ?_, trivial⟩ ?_
    · exact st_move (.tmp 1) rfl ((K.old 1 rfl).trans x1)
    · exact st_move (.tmp 0) rfl ((K.old 0 rfl).trans x0)
    · exact st_sub (.tmp 7) (.tmp 8) rfl (a + n) (a) (n) (K.dep 0 7 rfl) (K.dep 1 8 rfl) (by omega) (by omega)
    · exact st_eqi 3 (.tmp 9) (.const (.int .i64 1)) rfl .i64 (((n : Nat) : Int)) (1) (K.dep 2 9 rfl) rfl _ (by rw [eq_comm, decide_eq_true_iff]; omega)
    intro f2 w2 A hb
    replace bl0 := bl
    replace x0 := (A.old 0 rfl).trans x0
    replace x1 := (A.old 1 rfl).trans x1
    replace x4 := (A.old 4 rfl).trans x4
    have x10 : f2.eval (.tmp 10) = .bool true := A.has 3 10 rfl
    replace bl := (bl.trans (Below.mono hb bl.size))
    replace sz := A.size.trans sz
    replace df := A.defs.trans df
    clear A hb
    show Code.wp _ _ _ _ _
    refine wp_cond_true x10 ?_
    refine wp_seq ?_
    refine wp_all_seq [.eq (.int .i64 ((a : Nat) : Int)), .oi w.heap.size ([(a : Int)]), .oi w.heap.size ([(a : Int)])] (by kernel_rfl) (by kernel_rfl) (by rw [sz]; kernel_rfl) (by kernel_rfl) ⟨fun hw ac u K => ?_, fun hw ac u K => ?_, fun hw ac u K => ?_, trivial⟩ ?_
    · exact st_move (.tmp 0) rfl ((K.old 0 rfl).trans x0)
    · exact st_bi1 (.tmp 11) rfl _ (K.dep 0 11 rfl) _ (bl.trans (Below.mono K.grow bl.size)).size
    · exact st_assign (.tmp 12) rfl (K.dep 1 12 rfl)
    intro f3 w3 A hb
    replace bl0 := bl
    replace x0 := (A.old 0 rfl).trans x0
    replace x1 := (A.old 1 rfl).trans x1
    clear x4
    replace x10 := (A.old 10 rfl).trans x10
    have x4 : Fk.f (.oi w.heap.size ([(a : Int)])) (f3.eval (.tmp 4)) w3 := A.has 2 4 rfl
    replace bl := (bl.trans (Below.mono hb bl.size))
    replace sz := A.size.trans sz
    replace df := A.defs.trans df
    clear A hb
    show Code.wp _ _ _ _ _
    refine wp_ret ?_
    repeat (first | with_reducible refine then_ret ?_ | with_reducible refine block_ret ?_)
    rw [h1, rops_one]
    exact bodyPost_ret (v := f3.eval (.tmp 4)) (ret_slot rfl f3 _ rfl _ _) df ⟨_, rfl, x4, bl⟩
  · skip
    have h2 : 2 ≤ n := by omega
    obtain ⟨k, hk⟩ : ∃ k, spl n = k := ⟨_, rfl⟩
    have hk1 : k < n := by rw [← hk]; exact spl_lt h2
    have hk2 : 1 ≤ k := by rw [← hk]; exact spl_pos _
    have hto : a + n = (a + k) + (n - k) := by omega
    go_enter Tryd.func29, Tryd.ntmps29
    refine code_both (fun f w1 => f.tmps.size = 34 ∧ f.defers = [] ∧ f.eval (.tmp 0) = .int .i64 ((a : Nat) : Int) ∧ f.eval (.tmp 1) = .int .i64 ((a + n : Nat) : Int) ∧ Below w.heap.size w (w1)) ⟨rfl, rfl, rfl, rfl, Below.refl _ _⟩ ?_
    rintro f0 w0 ⟨sz, df, x0, x1, bl⟩
    have bl0 := bl
    refine wp_seq ?_
    refine wp_all_seq [.eq (.slice none 0 0)] (by kernel_rfl) (by kernel_rfl) (by rw [sz]; kernel_rfl) (by kernel_rfl) ⟨fun hw ac u K => ?_, trivial⟩ ?_
    · exact st_assign (.const (.slice none 0 0)) rfl rfl
    intro f1 w1 A hb
    replace bl0 := bl
    replace x0 := (A.old 0 rfl).trans x0
    replace x1 := (A.old 1 rfl).trans x1
    have x4 : f1.eval (.tmp 4) = .slice none 0 0 := A.has 0 4 rfl
    replace bl := (bl.trans (Below.mono hb bl.size))
    replace sz := A.size.trans sz
    replace df := A.defs.trans df
    clear A hb
    show Code.wp _ _ _ _ _
    refine wp_seq ?_
    refine wp_seq ?_
    refine wp_all_seq [.eq (.int .i64 ((a + n : Nat) : Int)), .eq (.int .i64 ((a : Nat) : Int)), .eq (.int .i64 ((n : Nat) : Int)), .eq (.bool false)] (by kernel_rfl) (by kernel_rfl) (by rw [sz]; kernel_rfl) (by kernel_rfl) ⟨fun hw ac u K => ?_, fun hw ac u K => ?_, fun hw ac u K => ?_, fun hw ac u K => ?_, trivial⟩ ?_
    · exact st_move (.tmp 1) rfl ((K.old 1 rfl).trans x1)
    · exact st_move (.tmp 0) rfl ((K.old 0 rfl).trans x0)
    · exact st_sub (.tmp 7) (.tmp 8) rfl (a + n) (a) (n) (K.dep 0 7 rfl) (K.dep 1 8 rfl) (by omega) (by omega)
    · exact st_eqi 3 (.tmp 9) (.const (.int .i64 1)) rfl .i64 (((n : Nat) : Int)) (1) (K.dep 2 9 rfl) rfl _ (by rw [eq_comm, decide_eq_false_iff_not]; omega)
    intro f2 w2 A hb
    replace bl0 := bl
    replace x0 := (A.old 0 rfl).trans x0
    replace x1 := (A.old 1 rfl).trans x1
    replace x4 := (A.old 4 rfl).trans x4
    have x10 : f2.eval (.tmp 10) = .bool false := A.has 3 10 rfl
    replace bl := (bl.trans (Below.mono hb bl.size))
    replace sz := A.size.trans sz
    replace df := A.defs.trans df
    clear A hb
    show Code.wp _ _ _ _ _
    refine wp_cond_false x10 ?_
    refine wp_skip ?_
    show Code.wp _ _ _ _ _
    refine wp_seq ?_
    refine wp_all_seq [.eq (.int .i64 ((a + n : Nat) : Int)), .eq (.int .i64 ((a : Nat) : Int)), .eq (.int .i64 ((n : Nat) : Int)), .eq (.int .i64 ((k : Nat) : Int)), .eq (.int .i64 ((k : Nat) : Int))] (by kernel_rfl) (by kernel_rfl) (by rw [sz]; kernel_rfl) (by kernel_rfl) ⟨fun hw ac u K => ?_, fun hw ac u K => ?_, fun hw ac u K => ?_, fun hw ac u K => ?_, fun hw ac u K => ?_, trivial⟩ ?_
    · exact st_move (.tmp 1) rfl ((K.old 1 rfl).trans x1)
    · exact st_move (.tmp 0) rfl ((K.old 0 rfl).trans x0)
    · exact st_sub (.tmp 13) (.tmp 14) rfl (a + n) (a) (n) (K.dep 0 13 rfl) (K.dep 1 14 rfl) (by omega) (by omega)
    · exact st_call 44 (.func 44) _ _ #[.int .i64 ((n : Nat) : Int)] rfl rfl (one_arg (K.dep 2 15 rfl)) Tryd.enter44 (by rw [← hk]; exact fk_of (rsplit_any n h2 (by omega) _))
    · exact st_assign (.tmp 16) rfl (K.dep 3 16 rfl)
    intro f3 w3 A hb
    replace bl0 := bl
    replace x0 := (A.old 0 rfl).trans x0
    replace x1 := (A.old 1 rfl).trans x1
    replace x4 := (A.old 4 rfl).trans x4
    replace x10 := (A.old 10 rfl).trans x10
    have x5 : f3.eval (.tmp 5) = .int .i64 ((k : Nat) : Int) := A.has 4 5 rfl
    replace bl := (bl.trans (Below.mono hb bl.size))
    replace sz := A.size.trans sz
    replace df := A.defs.trans df
    clear A hb
    show Code.wp _ _ _ _ _
    refine wp_seq ?_
    refine wp_all_seq [.oi w.heap.size ([])] (by kernel_rfl) (by kernel_rfl) (by rw [sz]; kernel_rfl) (by kernel_rfl) ⟨fun hw ac u K => ?_, trivial⟩ ?_
    · exact st_assign (.const (.slice none 0 0)) rfl (oi_nil _ _)
    intro f4 w4 A hb
    replace bl0 := bl
    replace x0 := (A.old 0 rfl).trans x0
    replace x1 := (A.old 1 rfl).trans x1
    replace x4 := (A.old 4 rfl).trans x4
    replace x10 := (A.old 10 rfl).trans x10
    replace x5 := (A.old 5 rfl).trans x5
    have x6 : Fk.f (.oi w.heap.size ([])) (f4.eval (.tmp 6)) w4 := A.has 0 6 rfl
    replace bl := (bl.trans (Below.mono hb bl.size))
    replace sz := A.size.trans sz
    replace df := A.defs.trans df
    clear A hb
    show Code.wp _ _ _ _ _
    refine wp_seq ?_
    refine wp_region_seq [.oi w.heap.size ([]), .eq (.int .i64 ((a : Nat) : Int)), .eq (.int .i64 ((a : Nat) : Int)), .eq (.int .i64 ((k : Nat) : Int)), .eq (.int .i64 ((a + k : Nat) : Int)), .oi w.heap.size (rops a k)] (by kernel_rfl) (by kernel_rfl) (by rw [sz]; kernel_rfl) (by kernel_rfl) ⟨fun hw ac u K => ?_, fun hw ac u K => ?_, fun hw ac u K => ?_, fun hw ac u K => ?_, fun hw ac u K => ?_, fun hw ac u K => ?_, trivial⟩ ?_
    · exact st_move (.tmp 6) rfl (f_at (K.old 6 rfl) (Fk.mono _ _ _ _ x6 K.grow))
    · exact st_move (.tmp 0) rfl ((K.old 0 rfl).trans x0)
    · exact st_move (.tmp 0) rfl ((K.old 0 rfl).trans x0)
    · exact st_move (.tmp 5) rfl ((K.old 5 rfl).trans x5)
    · exact st_add (.tmp 19) (.tmp 20) rfl (a) (k) (a + k) (K.dep 2 19 rfl) (K.dep 3 20 rfl) (by omega) (by omega)
    · exact st_call 29 (.func 29) _ _ #[.int .i64 ((a : Nat) : Int), .int .i64 ((a + k : Nat) : Int)] rfl rfl (arg2 (K.dep 1 18 rfl) (K.dep 4 21 rfl)) Tryd.enter29 (fk_orw (bl.trans (Below.mono K.grow bl.size)).size (ih k (by omega) a _ hk2 (by omega)))
    intro f5 w5 A hb
    replace bl0 := bl
    replace x0 := (A.old 0 rfl).trans x0
    replace x1 := (A.old 1 rfl).trans x1
    replace x4 := (A.old 4 rfl).trans x4
    replace x10 := (A.old 10 rfl).trans x10
    replace x5 := (A.old 5 rfl).trans x5
    replace x6 := f_at (A.old 6 rfl) (Fk.mono _ _ _ _ x6 hb)
    have x17 : Fk.f (.oi w.heap.size ([])) (f5.eval (.tmp 17)) w5 := A.has 0 17 rfl
    have x22 : Fk.f (.oi w.heap.size (rops a k)) (f5.eval (.tmp 22)) w5 := A.has 5 22 rfl
    replace bl := (bl.trans (Below.mono hb bl.size))
    replace sz := A.size.trans sz
    replace df := A.defs.trans df
    clear A hb
    refine wl_appendi rfl (.tmp 17) (.tmp 22) rfl 23 rfl (by rw [sz]; decide) x17 x22 (by rw [rops_len k a hk2]; omega) bl (by rw [rops_len k a hk2]; simp; omega) ?_
    intro f6 w6 df2 sz2 old2 new2 bl2
    clear x6
    clear x17
    clear x22
    replace x0 := (old2 0 rfl).trans x0
    replace x1 := (old2 1 rfl).trans x1
    replace x4 := (old2 4 rfl).trans x4
    replace x10 := (old2 10 rfl).trans x10
    replace x5 := (old2 5 rfl).trans x5
    have x23 : Fk.f (.oi w.heap.size (rops a k)) (f6.eval (.tmp 23)) w6 := new2
    replace bl := bl2
    replace bl0 := bl
    replace sz := sz2.trans sz
    replace df := df2.trans df
    clear df2 sz2 old2 new2 bl2
    refine wl_one (.oi w.heap.size (rops a k)) rfl 6 rfl (by rw [sz]; decide) (st_assign (.tmp 23) rfl x23) ?_
    intro f7 w7 df2 sz2 old2 new2 hb
    replace bl0 := bl
    replace x0 := (old2 0 rfl).trans x0
    replace x1 := (old2 1 rfl).trans x1
    replace x4 := (old2 4 rfl).trans x4
    replace x10 := (old2 10 rfl).trans x10
    replace x5 := (old2 5 rfl).trans x5
    replace x23 := f_at (old2 23 rfl) (Fk.mono _ _ _ _ x23 hb)
    have x6 : Fk.f (.oi w.heap.size (rops a k)) (f7.eval (.tmp 6)) w7 := new2
    replace bl := (bl.trans (Below.mono hb bl.size))
    replace sz := sz2.trans sz
    replace df := df2.trans df
    clear df2 sz2 old2 new2 hb
    refine wpList_nil ?_
    clear x23
    show Code.wp _ _ _ _ _
    refine wp_seq ?_
    refine wp_region_seq [.oi w.heap.size (rops a k), .eq (.int .i64 ((a : Nat) : Int)), .eq (.int .i64 ((k : Nat) : Int)), .eq (.int .i64 ((a + k : Nat) : Int)), .eq (.int .i64 ((a + n : Nat) : Int)), .oi w.heap.size (rops (a + k) (n - k))] (by kernel_rfl) (by kernel_rfl) (by rw [sz]; kernel_rfl) (by kernel_rfl) ⟨fun hw ac u K => ?_, fun hw ac u K => ?_, fun hw ac u K => ?_, fun hw ac u K => ?_, fun hw ac u K => ?_, fun hw ac u K => ?_, trivial⟩ ?_
    · exact st_move (.tmp 6) rfl (f_at (K.old 6 rfl) (Fk.mono _ _ _ _ x6 K.grow))
    · exact st_move (.tmp 0) rfl ((K.old 0 rfl).trans x0)
    · exact st_move (.tmp 5) rfl ((K.old 5 rfl).trans x5)
    · exact st_add (.tmp 25) (.tmp 26) rfl (a) (k) (a + k) (K.dep 1 25 rfl) (K.dep 2 26 rfl) (by omega) (by omega)
    · exact st_move (.tmp 1) rfl ((K.old 1 rfl).trans x1)
    · exact st_call 29 (.func 29) _ _ #[.int .i64 ((a + k : Nat) : Int), .int .i64 ((a + n : Nat) : Int)] rfl rfl (arg2 (K.dep 3 27 rfl) (K.dep 4 28 rfl)) Tryd.enter29 (fk_orw (bl.trans (Below.mono K.grow bl.size)).size (by rw [hto]; exact ih (n - k) (by omega) (a + k) _ (by omega) (by omega)))
    intro f8 w8 A hb
    replace bl0 := bl
    replace x0 := (A.old 0 rfl).trans x0
    replace x1 := (A.old 1 rfl).trans x1
    replace x4 := (A.old 4 rfl).trans x4
    replace x10 := (A.old 10 rfl).trans x10
    replace x5 := (A.old 5 rfl).trans x5
    replace x6 := f_at (A.old 6 rfl) (Fk.mono _ _ _ _ x6 hb)
    have x24 : Fk.f (.oi w.heap.size (rops a k)) (f8.eval (.tmp 24)) w8 := A.has 0 24 rfl
    have x29 : Fk.f (.oi w.heap.size (rops (a + k) (n - k))) (f8.eval (.tmp 29)) w8 := A.has 5 29 rfl
    replace bl := (bl.trans (Below.mono hb bl.size))
    replace sz := A.size.trans sz
    replace df := A.defs.trans df
    clear A hb
    refine wl_appendi rfl (.tmp 24) (.tmp 29) rfl 30 rfl (by rw [sz]; decide) x24 x29 (by rw [rops_len _ _ (by omega)]; omega) bl (by rw [rops_len k a hk2, rops_len _ _ (by omega)]; omega) ?_
    intro f9 w9 df2 sz2 old2 new2 bl2
    clear x6
    clear x24
    clear x29
    replace x0 := (old2 0 rfl).trans x0
    replace x1 := (old2 1 rfl).trans x1
    replace x4 := (old2 4 rfl).trans x4
    replace x10 := (old2 10 rfl).trans x10
    replace x5 := (old2 5 rfl).trans x5
    have x30 : Fk.f (.oi w.heap.size (rops a k ++ rops (a + k) (n - k))) (f9.eval (.tmp 30)) w9 := new2
    replace bl := bl2
    replace bl0 := bl
    replace sz := sz2.trans sz
    replace df := df2.trans df
    clear df2 sz2 old2 new2 bl2
    refine wl_one (.oi w.heap.size (rops a k ++ rops (a + k) (n - k))) rfl 6 rfl (by rw [sz]; decide) (st_assign (.tmp 30) rfl x30) ?_
    intro f10 w10 df2 sz2 old2 new2 hb
    replace bl0 := bl
    replace x0 := (old2 0 rfl).trans x0
    replace x1 := (old2 1 rfl).trans x1
    replace x4 := (old2 4 rfl).trans x4
    replace x10 := (old2 10 rfl).trans x10
    replace x5 := (old2 5 rfl).trans x5
    replace x30 := f_at (old2 30 rfl) (Fk.mono _ _ _ _ x30 hb)
    have x6 : Fk.f (.oi w.heap.size (rops a k ++ rops (a + k) (n - k))) (f10.eval (.tmp 6)) w10 := new2
    replace bl := (bl.trans (Below.mono hb bl.size))
    replace sz := sz2.trans sz
    replace df := df2.trans df
    clear df2 sz2 old2 new2 hb
    refine wpList_nil ?_
    clear x30
    show Code.wp _ _ _ _ _
    refine wp_seq ?_
    refine wp_region_seq [.oi w.heap.size (rops a k ++ rops (a + k) (n - k)), .oi w.heap.size ([-1])] (by kernel_rfl) (by kernel_rfl) (by rw [sz]; kernel_rfl) (by kernel_rfl) ⟨fun hw ac u K => ?_, fun hw ac u K => ?_, trivial⟩ ?_
    · exact st_move (.tmp 6) rfl (f_at (K.old 6 rfl) (Fk.mono _ _ _ _ x6 K.grow))
    · exact st_bi1 (.const (.int .i64 (-1))) rfl _ rfl _ (bl.trans (Below.mono K.grow bl.size)).size
    intro f11 w11 A hb
    replace bl0 := bl
    replace x0 := (A.old 0 rfl).trans x0
    replace x1 := (A.old 1 rfl).trans x1
    replace x4 := (A.old 4 rfl).trans x4
    replace x10 := (A.old 10 rfl).trans x10
    replace x5 := (A.old 5 rfl).trans x5
    replace x6 := f_at (A.old 6 rfl) (Fk.mono _ _ _ _ x6 hb)
    have x31 : Fk.f (.oi w.heap.size (rops a k ++ rops (a + k) (n - k))) (f11.eval (.tmp 31)) w11 := A.has 0 31 rfl
    have x32 : Fk.f (.oi w.heap.size ([-1])) (f11.eval (.tmp 32)) w11 := A.has 1 32 rfl
    replace bl := (bl.trans (Below.mono hb bl.size))
    replace sz := A.size.trans sz
    replace df := A.defs.trans df
    clear A hb
    refine wl_appendi rfl (.tmp 31) (.tmp 32) rfl 33 rfl (by rw [sz]; decide) x31 x32 (by simp) bl (by rw [List.length_append, rops_len k a hk2, rops_len _ _ (by omega)]; simp only [List.length_cons, List.length_nil]; omega) ?_
    intro f12 w12 df2 sz2 old2 new2 bl2
    clear x6
    clear x31
    clear x32
    replace x0 := (old2 0 rfl).trans x0
    replace x1 := (old2 1 rfl).trans x1
    replace x4 := (old2 4 rfl).trans x4
    replace x10 := (old2 10 rfl).trans x10
    replace x5 := (old2 5 rfl).trans x5
    have x33 : Fk.f (.oi w.heap.size ((rops a k ++ rops (a + k) (n - k)) ++ [-1])) (f12.eval (.tmp 33)) w12 := new2
    replace bl := bl2
    replace bl0 := bl
    replace sz := sz2.trans sz
    replace df := df2.trans df
    clear df2 sz2 old2 new2 bl2
    refine wl_one (.oi w.heap.size ((rops a k ++ rops (a + k) (n - k)) ++ [-1])) rfl 4 rfl (by rw [sz]; decide) (st_assign (.tmp 33) rfl x33) ?_
    intro f13 w13 df2 sz2 old2 new2 hb
    replace bl0 := bl
    replace x0 := (old2 0 rfl).trans x0
    replace x1 := (old2 1 rfl).trans x1
    clear x4
    replace x10 := (old2 10 rfl).trans x10
    replace x5 := (old2 5 rfl).trans x5
    replace x33 := f_at (old2 33 rfl) (Fk.mono _ _ _ _ x33 hb)
    have x4 : Fk.f (.oi w.heap.size ((rops a k ++ rops (a + k) (n - k)) ++ [-1])) (f13.eval (.tmp 4)) w13 := new2
    replace bl := (bl.trans (Below.mono hb bl.size))
    replace sz := sz2.trans sz
    replace df := df2.trans df
    clear df2 sz2 old2 new2 hb
    refine wpList_nil ?_
    clear x33
    show Code.wp _ _ _ _ _
    refine wp_ret ?_
    repeat (first | with_reducible refine then_ret ?_ | with_reducible refine block_ret ?_)
    rw [List.append_assoc] at x4
    rw [rops_two a h2, hk]
    exact bodyPost_ret (v := f13.eval (.tmp 4)) (ret_slot rfl f13 _ rfl _ _) df ⟨_, rfl, x4, bl⟩
end Go.Proofs.YtfmeeimhfdnjpaaDoor
namespace Go.Proofs.YtfmeeimhfdnjpaaDoor
set_option maxRecDepth 100000
open Go.RowKit
theorem sl_nil (w : World) : (Fk.sl []).f (.slice none 0 0) w := ⟨none, 0, 0, 0, 0, rfl, ⟨rfl, Nat.le_refl _, fun _ => ⟨rfl, rfl⟩, fun h => absurd h (by decide)⟩⟩
theorem hc_nil (w : World) : (Fk.hc []).f (.slice none 0 0) w := ⟨none, 0, 0, 0, rfl, Nat.le_refl _, fun h => absurd h (by decide), fun h => absurd h (by decide), fun i x hi => by simp at hi⟩
theorem hc_len {l : List (List (BitVec 8))} {v : Value} {w : World} (h : (Fk.hc l).f v w) : ∀ x ∈ l, x.length = 32 := by
  intro x hx
  obtain ⟨i, hi, rfl⟩ := List.getElem_of_mem hx
  obtain ⟨A, C, lb, lo, e, _, hl⟩ := h
  exact (hl.all i _ (List.getElem?_eq_getElem hi)).1
theorem mroot_len {l : List (List (BitVec 8))} (h : ∀ x ∈ l, x.length = 32) : (mroot l).length = 32 := by
  match l, h with
  | [], _ => rw [mroot_nil]; exact shaOf_len _
  | [x], h => rw [mroot_one]; exact h x (by simp)
  | x :: y :: r, _ => rw [mroot_two (by simp)]; exact nd_len _ _
theorem mroot_le1 {l : List (List (BitVec 8))} (h : l.length = 1) : ∃ x, l = [x] := by
  match l, h with
  | [x], _ => exact ⟨x, rfl⟩
theorem root_any (l : List (List (BitVec 8))) (w : World) (v : Value) (h1000 : l.length ≤ 1000) (hv : (Fk.hc l).f v w) (hK : Tab w) {y : List (BitVec 8)} (ey : Box (mroot l = y)) :
    Calls Tryd.prog 19 #[v] w fun e w' => e = .returned (.agg ((y).map V).toArray) ∧ Below w.heap.size w w' := by
  suffices H : ∀ (n : Nat) (l : List (List (BitVec 8))), l.length = n → ∀ (w : World) (v : Value), l.length ≤ 1000 → (Fk.hc l).f v w → Tab w → ∀ {y : List (BitVec 8)}, Box (mroot l = y) → Calls Tryd.prog 19 #[v] w fun e w' => e = .returned (.agg ((y).map V).toArray) ∧ Below w.heap.size w w' from H _ l rfl w v h1000 hv hK ey
  intro n
  induction n using Nat.strongRecOn with
  | ind n ih0 =>
  intro l hn w v h1000 hv hK y ey
  have ih : ∀ (l' : List (List (BitVec 8))), l'.length < n → ∀ (w : World) (v : Value), l'.length ≤ 1000 → (Fk.hc l').f v w → Tab w → ∀ {y : List (BitVec 8)}, Box (mroot l' = y) → Calls Tryd.prog 19 #[v] w fun e w' => e = .returned (.agg ((y).map V).toArray) ∧ Below w.heap.size w w' := fun l' hl' => ih0 _ hl' l' rfl
  clear ih0
  have hy : y.length = 32 := by rw [← ey.out]; exact mroot_len (hc_len hv)
  have hvs := hc_hs hv
  have hnil := sl_nil w
  by_cases h0 : l.length = 0
  · obtain rfl := List.eq_nil_of_length_eq_zero h0
    have eys : shaOf [] = y := by rw [← ey.out, mroot_nil]
    go_enter Tryd.func19, Tryd.ntmps19
    refine code_both (fun f w1 => f.tmps.size = 26 ∧ f.defers = [] ∧ f.eval (.tmp 0) = v ∧ Below w.heap.size w (w1)) ⟨rfl, rfl, rfl, Below.refl _ _⟩ ?_
    rintro f0 w0 ⟨sz, df, x0, bl⟩
    have bl0 := bl
    refine wp_seq ?_
    refine wp_all_seq [.nw w0.heap.size 33 ((hz).map V)] (by kernel_rfl) (by kernel_rfl) (by rw [sz]; kernel_rfl) (by kernel_rfl) ⟨fun hw ac u K => ?_, trivial⟩ ?_
    · exact st_alloc33 rfl _ K.grow.size
    intro f1 w1 A hb
    replace bl0 := bl
    replace x0 := (A.old 0 rfl).trans x0
    have x2 : Fk.f (.nw w0.heap.size 33 ((hz).map V)) (f1.eval (.tmp 2)) w1 := A.has 0 2 rfl
    replace bl := (bl.trans (Below.mono hb bl.size))
    replace sz := A.size.trans sz
    replace df := A.defs.trans df
    clear A hb
    obtain ⟨g2, hg2, e2, m2⟩ := x2
    have x2 := e2
    clear e2
    have hw2 : w.heap.size ≤ g2 := Nat.le_trans bl0.size hg2
    show Code.wp _ _ _ _ _
    refine wp_seq ?_
    refine wp_seq ?_
    refine wp_all_seq [.eq (v), .eq (.int .i64 ((0 : Nat) : Int))] (by kernel_rfl) (by kernel_rfl) (by rw [sz]; kernel_rfl) (by kernel_rfl) ⟨fun hw ac u K => ?_, fun hw ac u K => ?_, trivial⟩ ?_
    · exact st_move (.tmp 0) rfl ((K.old 0 rfl).trans x0)
    · exact st_lenc (.tmp 4) rfl (0) rfl (fk_val (K.dep 0 4 rfl) (Fk.mono _ _ _ _ hv (bl.trans (Below.mono K.grow bl.size))))
    intro f2 w2 A hb
    replace bl0 := bl
    replace x0 := (A.old 0 rfl).trans x0
    replace x2 := (A.old 2 rfl).trans x2
    have x5 : f2.eval (.tmp 5) = .int .i64 ((0 : Nat) : Int) := A.has 1 5 rfl
    have lt_m2 := Ob.lt m2
    replace m2 := Ob.below m2 hb
    replace bl := (bl.trans (Below.mono hb bl.size))
    replace sz := A.size.trans sz
    replace df := A.defs.trans df
    clear A hb
    show Code.wp _ _ _ _ _
    refine wp_block ?_
    refine wp_seq ?_
    refine wp_all_seq [.eq (.bool true), .eq (.bool true)] (by kernel_rfl) (by kernel_rfl) (by rw [sz]; kernel_rfl) (by kernel_rfl) ⟨fun hw ac u K => ?_, fun hw ac u K => ?_, trivial⟩ ?_
    · exact st_eqi 3 (.tmp 5) (.const (.int .i64 0)) rfl .i64 (((0 : Nat) : Int)) (0) ((K.old 5 rfl).trans x5) rfl _ (by simp)
    · exact st_assign (.tmp 7) rfl (K.dep 0 7 rfl)
    intro f3 w3 A hb
    replace bl0 := bl
    replace x0 := (A.old 0 rfl).trans x0
    replace x2 := (A.old 2 rfl).trans x2
    replace x5 := (A.old 5 rfl).trans x5
    have x6 : f3.eval (.tmp 6) = .bool true := A.has 1 6 rfl
    have lt_m2 := Ob.lt m2
    replace m2 := Ob.below m2 hb
    replace bl := (bl.trans (Below.mono hb bl.size))
    replace sz := A.size.trans sz
    replace df := A.defs.trans df
    clear A hb
    show Code.wp _ _ _ _ _
    refine wp_cond_true x6 ?_
    refine wp_seq ?_
    refine wp_region_seq [.eq (.agg ((y).map V).toArray)] (by kernel_rfl) (by kernel_rfl) (by rw [sz]; kernel_rfl) (by kernel_rfl) ⟨fun hw ac u K => ?_, trivial⟩ ?_
    · exact st_call 26 (.func 26) _ _ #[.slice none 0 0] rfl rfl (one_arg rfl) Tryd.enter26 (by rw [← eys]; exact fk_sum (by simp) (hK.below (bl.trans (Below.mono K.grow bl.size))) (Fk.mono _ _ _ _ hnil (bl.trans (Below.mono K.grow bl.size))))
    intro f4 w4 A hb
    replace bl0 := bl
    replace x0 := (A.old 0 rfl).trans x0
    replace x2 := (A.old 2 rfl).trans x2
    replace x5 := (A.old 5 rfl).trans x5
    replace x6 := (A.old 6 rfl).trans x6
    have x8 : f4.eval (.tmp 8) = .agg ((y).map V).toArray := A.has 0 8 rfl
    have lt_m2 := Ob.lt m2
    replace m2 := Ob.below m2 hb
    replace bl := (bl.trans (Below.mono hb bl.size))
    replace sz := A.size.trans sz
    replace df := A.defs.trans df
    clear A hb
    refine wl_store rfl (.tmp 2) (.tmp 8) rfl rfl (g2) (y) (hz) x2 x8 m2 hz_len hy ?_
    replace m2 : Ob (w4.setRow g2 ((y).map V : List Value).toArray) (g2) 33 ((y).map V) := Ob.setRow m2 ((y).map V)
    replace bl : Below w.heap.size w (w4.setRow g2 ((y).map V : List Value).toArray) := bl.trans (below_setRow _ _ _ _ hw2)
    generalize w4.setRow g2 ((y).map V : List Value).toArray = w5b at bl m2 ⊢
    refine wpList_nil ?_
    clear x8
    show Code.wp _ _ _ _ _
    refine wp_ret ?_
    repeat (first | with_reducible refine then_ret ?_ | with_reducible refine block_ret ?_)
    exact bodyPost_ret (v := .agg ((y).map V).toArray) (ret_hash rfl f4 _ g2 (y) hy x2 m2) df ⟨rfl, bl⟩
  by_cases h1 : l.length = 1
  · obtain ⟨x, rfl⟩ := mroot_le1 h1
    obtain rfl : x = y := by rw [← ey.out, mroot_one]
    go_enter Tryd.func19, Tryd.ntmps19
    refine code_both (fun f w1 => f.tmps.size = 26 ∧ f.defers = [] ∧ f.eval (.tmp 0) = v ∧ Below w.heap.size w (w1)) ⟨rfl, rfl, rfl, Below.refl _ _⟩ ?_
    rintro f0 w0 ⟨sz, df, x0, bl⟩
    have bl0 := bl
    refine wp_seq ?_
    refine wp_all_seq [.nw w0.heap.size 33 ((hz).map V)] (by kernel_rfl) (by kernel_rfl) (by rw [sz]; kernel_rfl) (by kernel_rfl) ⟨fun hw ac u K => ?_, trivial⟩ ?_
    · exact st_alloc33 rfl _ K.grow.size
    intro f1 w1 A hb
    replace bl0 := bl
    replace x0 := (A.old 0 rfl).trans x0
    have x2 : Fk.f (.nw w0.heap.size 33 ((hz).map V)) (f1.eval (.tmp 2)) w1 := A.has 0 2 rfl
    replace bl := (bl.trans (Below.mono hb bl.size))
    replace sz := A.size.trans sz
    replace df := A.defs.trans df
    clear A hb
    obtain ⟨g2, hg2, e2, m2⟩ := x2
    have x2 := e2
    clear e2
    have hw2 : w.heap.size ≤ g2 := Nat.le_trans bl0.size hg2
    show Code.wp _ _ _ _ _
    refine wp_seq ?_
    refine wp_seq ?_
    refine wp_all_seq [.eq (v), .eq (.int .i64 ((1 : Nat) : Int))] (by kernel_rfl) (by kernel_rfl) (by rw [sz]; kernel_rfl) (by kernel_rfl) ⟨fun hw ac u K => ?_, fun hw ac u K => ?_, trivial⟩ ?_
    · exact st_move (.tmp 0) rfl ((K.old 0 rfl).trans x0)
    · exact st_lenc (.tmp 4) rfl (1) rfl (fk_val (K.dep 0 4 rfl) (Fk.mono _ _ _ _ hv (bl.trans (Below.mono K.grow bl.size))))
    intro f2 w2 A hb
    replace bl0 := bl
    replace x0 := (A.old 0 rfl).trans x0
    replace x2 := (A.old 2 rfl).trans x2
    have x5 : f2.eval (.tmp 5) = .int .i64 ((1 : Nat) : Int) := A.has 1 5 rfl
    have lt_m2 := Ob.lt m2
    replace m2 := Ob.below m2 hb
    replace bl := (bl.trans (Below.mono hb bl.size))
    replace sz := A.size.trans sz
    replace df := A.defs.trans df
    clear A hb
    show Code.wp _ _ _ _ _
    refine wp_block ?_
    refine wp_seq ?_
    refine wp_all_seq [.eq (.bool false), .eq (.bool false)] (by kernel_rfl) (by kernel_rfl) (by rw [sz]; kernel_rfl) (by kernel_rfl) ⟨fun hw ac u K => ?_, fun hw ac u K => ?_, trivial⟩ ?_
    · exact st_eqi 3 (.tmp 5) (.const (.int .i64 0)) rfl .i64 (((1 : Nat) : Int)) (0) ((K.old 5 rfl).trans x5) rfl _ (by simp)
    · exact st_assign (.tmp 7) rfl (K.dep 0 7 rfl)
    intro f3 w3 A hb
    replace bl0 := bl
    replace x0 := (A.old 0 rfl).trans x0
    replace x2 := (A.old 2 rfl).trans x2
    replace x5 := (A.old 5 rfl).trans x5
    have x6 : f3.eval (.tmp 6) = .bool false := A.has 1 6 rfl
    have lt_m2 := Ob.lt m2
    replace m2 := Ob.below m2 hb
    replace bl := (bl.trans (Below.mono hb bl.size))
    replace sz := A.size.trans sz
    replace df := A.defs.trans df
    clear A hb
    show Code.wp _ _ _ _ _
    refine wp_cond_false x6 ?_
    refine wp_seq ?_
    refine wp_all_seq [.eq (.bool true), .eq (.bool true)] (by kernel_rfl) (by kernel_rfl) (by rw [sz]; kernel_rfl) (by kernel_rfl) ⟨fun hw ac u K => ?_, fun hw ac u K => ?_, trivial⟩ ?_
    · exact st_eqi 3 (.tmp 5) (.const (.int .i64 1)) rfl .i64 (((1 : Nat) : Int)) (1) ((K.old 5 rfl).trans x5) rfl _ (by simp)
    · exact st_assign (.tmp 10) rfl (K.dep 0 10 rfl)
    intro f4 w4 A hb
    replace bl0 := bl
    replace x0 := (A.old 0 rfl).trans x0
    replace x2 := (A.old 2 rfl).trans x2
    replace x5 := (A.old 5 rfl).trans x5
    replace x6 := (A.old 6 rfl).trans x6
    have x9 : f4.eval (.tmp 9) = .bool true := A.has 1 9 rfl
    have lt_m2 := Ob.lt m2
    replace m2 := Ob.below m2 hb
    replace bl := (bl.trans (Below.mono hb bl.size))
    replace sz := A.size.trans sz
    replace df := A.defs.trans df
    clear A hb
    show Code.wp _ _ _ _ _
    refine wp_cond_true x9 ?_
    refine wp_seq ?_
    refine wp_region_seq [.eq (v), .ph (x), .eq (.agg ((x).map V).toArray)] (by kernel_rfl) (by kernel_rfl) (by rw [sz]; kernel_rfl) (by kernel_rfl) ⟨fun hw ac u K => ?_, fun hw ac u K => ?_, fun hw ac u K => ?_, trivial⟩ ?_
    · exact st_move (.tmp 0) rfl ((K.old 0 rfl).trans x0)
    · exact st_idxh (.tmp 11) (.const (.int .i64 0)) rfl (fk_val (K.dep 0 11 rfl) (Fk.mono _ _ _ _ hvs (bl.trans (Below.mono K.grow bl.size)))) (0) (x) rfl rfl
    · exact st_loadh (.tmp 12) rfl (K.dep 1 12 rfl)
    intro f5 w5 A hb
    replace bl0 := bl
    replace x0 := (A.old 0 rfl).trans x0
    replace x2 := (A.old 2 rfl).trans x2
    replace x5 := (A.old 5 rfl).trans x5
    replace x6 := (A.old 6 rfl).trans x6
    replace x9 := (A.old 9 rfl).trans x9
    have x13 : f5.eval (.tmp 13) = .agg ((x).map V).toArray := A.has 2 13 rfl
    have lt_m2 := Ob.lt m2
    replace m2 := Ob.below m2 hb
    replace bl := (bl.trans (Below.mono hb bl.size))
    replace sz := A.size.trans sz
    replace df := A.defs.trans df
    clear A hb
    refine wl_store rfl (.tmp 2) (.tmp 13) rfl rfl (g2) (x) (hz) x2 x13 m2 hz_len hy ?_
    replace m2 : Ob (w5.setRow g2 ((x).map V : List Value).toArray) (g2) 33 ((x).map V) := Ob.setRow m2 ((x).map V)
    replace bl : Below w.heap.size w (w5.setRow g2 ((x).map V : List Value).toArray) := bl.trans (below_setRow _ _ _ _ hw2)
    generalize w5.setRow g2 ((x).map V : List Value).toArray = w6b at bl m2 ⊢
    refine wpList_nil ?_
    clear x13
    show Code.wp _ _ _ _ _
    refine wp_ret ?_
    repeat (first | with_reducible refine then_ret ?_ | with_reducible refine block_ret ?_)
    exact bodyPost_ret (v := .agg ((x).map V).toArray) (ret_hash rfl f5 _ g2 (x) hy x2 m2) df ⟨rfl, bl⟩
  · have h2 : 2 ≤ l.length := by omega
    obtain ⟨k, hk⟩ : ∃ k, spl l.length = k := ⟨_, rfl⟩
    have hk1 : k < l.length := by rw [← hk]; exact spl_lt h2
    have hk2 : 1 ≤ k := by rw [← hk]; exact spl_pos _
    obtain ⟨y1, ey1⟩ : ∃ p, Box (mroot (l.take k) = p) := ⟨_, ⟨rfl⟩⟩
    obtain ⟨y2, ey2⟩ : ∃ p, Box (mroot (l.drop k) = p) := ⟨_, ⟨rfl⟩⟩
    have hy1 : y1.length = 32 := by rw [← ey1.out]; exact mroot_len (fun x hx => hc_len hv x (List.mem_of_mem_take hx))
    have hy2 : y2.length = 32 := by rw [← ey2.out]; exact mroot_len (fun x hx => hc_len hv x (List.mem_of_mem_drop hx))
    have eyn : Box (nd y1 y2 = y) := ⟨by rw [← ey1.out, ← ey2.out, ← ey.out, mroot_two h2, hk]⟩
    go_enter Tryd.func19, Tryd.ntmps19
    refine code_both (fun f w1 => f.tmps.size = 26 ∧ f.defers = [] ∧ f.eval (.tmp 0) = v ∧ Below w.heap.size w (w1)) ⟨rfl, rfl, rfl, Below.refl _ _⟩ ?_
    rintro f0 w0 ⟨sz, df, x0, bl⟩
    have bl0 := bl
    refine wp_seq ?_
    refine wp_all_seq [.nw w0.heap.size 33 ((hz).map V)] (by kernel_rfl) (by kernel_rfl) (by rw [sz]; kernel_rfl) (by kernel_rfl) ⟨fun hw ac u K => ?_, trivial⟩ ?_
    · exact st_alloc33 rfl _ K.grow.size
    intro f1 w1 A hb
    replace bl0 := bl
    replace x0 := (A.old 0 rfl).trans x0
    have x2 : Fk.f (.nw w0.heap.size 33 ((hz).map V)) (f1.eval (.tmp 2)) w1 := A.has 0 2 rfl
    replace bl := (bl.trans (Below.mono hb bl.size))
    replace sz := A.size.trans sz
    replace df := A.defs.trans df
    clear A hb
    obtain ⟨g2, hg2, e2, m2⟩ := x2
    have x2 := e2
    clear e2
    have hw2 : w.heap.size ≤ g2 := Nat.le_trans bl0.size hg2
    show Code.wp _ _ _ _ _
    refine wp_seq ?_
    refine wp_seq ?_
    refine wp_all_seq [.eq (v), .eq (.int .i64 (((l).length : Nat) : Int))] (by kernel_rfl) (by kernel_rfl) (by rw [sz]; kernel_rfl) (by kernel_rfl) ⟨fun hw ac u K => ?_, fun hw ac u K => ?_, trivial⟩ ?_
    · exact st_move (.tmp 0) rfl ((K.old 0 rfl).trans x0)
    · exact st_lenc (.tmp 4) rfl ((l).length) rfl (fk_val (K.dep 0 4 rfl) (Fk.mono _ _ _ _ hv (bl.trans (Below.mono K.grow bl.size))))
    intro f2 w2 A hb
    replace bl0 := bl
    replace x0 := (A.old 0 rfl).trans x0
    replace x2 := (A.old 2 rfl).trans x2
    have x5 : f2.eval (.tmp 5) = .int .i64 (((l).length : Nat) : Int) := A.has 1 5 rfl
    have lt_m2 := Ob.lt m2
    replace m2 := Ob.below m2 hb
    replace bl := (bl.trans (Below.mono hb bl.size))
    replace sz := A.size.trans sz
    replace df := A.defs.trans df
    clear A hb
    show Code.wp _ _ _ _ _
    refine wp_block ?_
    refine wp_seq ?_
    refine wp_all_seq [.eq (.bool false), .eq (.bool false)] (by kernel_rfl) (by kernel_rfl) (by rw [sz]; kernel_rfl) (by kernel_rfl) ⟨fun hw ac u K => ?_, fun hw ac u K => ?_, trivial⟩ ?_
    · exact st_eqi 3 (.tmp 5) (.const (.int .i64 0)) rfl .i64 ((((l).length : Nat) : Int)) (0) ((K.old 5 rfl).trans x5) rfl _ (by rw [eq_comm, decide_eq_false_iff_not]; omega)
    · exact st_assign (.tmp 7) rfl (K.dep 0 7 rfl)
    intro f3 w3 A hb
    replace bl0 := bl
    replace x0 := (A.old 0 rfl).trans x0
    replace x2 := (A.old 2 rfl).trans x2
    replace x5 := (A.old 5 rfl).trans x5
    have x6 : f3.eval (.tmp 6) = .bool false := A.has 1 6 rfl
    have lt_m2 := Ob.lt m2
    replace m2 := Ob.below m2 hb
    replace bl := (bl.trans (Below.mono hb bl.size))
    replace sz := A.size.trans sz
    replace df := A.defs.trans df
    clear A hb
    show Code.wp _ _ _ _ _
    refine wp_cond_false x6 ?_
    refine wp_seq ?_
    refine wp_all_seq [.eq (.bool false), .eq (.bool false)] (by kernel_rfl) (by kernel_rfl) (by rw [sz]; kernel_rfl) (by kernel_rfl) ⟨fun hw ac u K => ?_, fun hw ac u K => ?_, trivial⟩ ?_
    · exact st_eqi 3 (.tmp 5) (.const (.int .i64 1)) rfl .i64 ((((l).length : Nat) : Int)) (1) ((K.old 5 rfl).trans x5) rfl _ (by rw [eq_comm, decide_eq_false_iff_not]; omega)
    · exact st_assign (.tmp 10) rfl (K.dep 0 10 rfl)
    intro f4 w4 A hb
    replace bl0 := bl
    replace x0 := (A.old 0 rfl).trans x0
    replace x2 := (A.old 2 rfl).trans x2
    replace x5 := (A.old 5 rfl).trans x5
    replace x6 := (A.old 6 rfl).trans x6
    have x9 : f4.eval (.tmp 9) = .bool false := A.has 1 9 rfl
    have lt_m2 := Ob.lt m2
    replace m2 := Ob.below m2 hb
    replace bl := (bl.trans (Below.mono hb bl.size))
    replace sz := A.size.trans sz
    replace df := A.defs.trans df
    clear A hb
    show Code.wp _ _ _ _ _
    refine wp_cond_false x9 ?_
    refine wp_skip ?_
    show Code.wp _ _ _ _ _
    refine wp_seq ?_
    refine wp_all_seq [.eq (v), .eq (.int .i64 (((l).length : Nat) : Int)), .eq (.int .i64 ((k : Nat) : Int)), .eq (.int .i64 ((k : Nat) : Int))] (by kernel_rfl) (by kernel_rfl) (by rw [sz]; kernel_rfl) (by kernel_rfl) ⟨fun hw ac u K => ?_, fun hw ac u K => ?_, fun hw ac u K => ?_, fun hw ac u K => ?_, trivial⟩ ?_
    · exact st_move (.tmp 0) rfl ((K.old 0 rfl).trans x0)
    · exact st_lenc (.tmp 14) rfl ((l).length) rfl (fk_val (K.dep 0 14 rfl) (Fk.mono _ _ _ _ hv (bl.trans (Below.mono K.grow bl.size))))
    · exact st_call 35 (.func 35) _ _ #[.int .i64 (((l).length : Nat) : Int)] rfl rfl (one_arg (K.dep 1 15 rfl)) Tryd.enter35 (by rw [← hk]; exact fk_of (split_hi l.length (by omega) (by omega) _))
    · exact st_assign (.tmp 16) rfl (K.dep 2 16 rfl)
    intro f5 w5 A hb
    replace bl0 := bl
    replace x0 := (A.old 0 rfl).trans x0
    replace x2 := (A.old 2 rfl).trans x2
    replace x5 := (A.old 5 rfl).trans x5
    replace x6 := (A.old 6 rfl).trans x6
    replace x9 := (A.old 9 rfl).trans x9
    have x3 : f5.eval (.tmp 3) = .int .i64 ((k : Nat) : Int) := A.has 3 3 rfl
    have lt_m2 := Ob.lt m2
    replace m2 := Ob.below m2 hb
    replace bl := (bl.trans (Below.mono hb bl.size))
    replace sz := A.size.trans sz
    replace df := A.defs.trans df
    clear A hb
    show Code.wp _ _ _ _ _
    refine wp_seq ?_
    refine wp_region_tail [.eq (v), .eq (.int .i64 ((k : Nat) : Int)), .hc ((l).take (k)), .eq (.agg ((y1).map V).toArray), .eq (v), .eq (.int .i64 ((k : Nat) : Int)), .hc ((l).drop (k)), .eq (.agg ((y2).map V).toArray), .eq (.agg ((y).map V).toArray)] [9] Tryd.mixed (by kernel_rfl) (by kernel_rfl) (by kernel_rfl) (by kernel_rfl) (by rw [sz]; kernel_rfl) (by kernel_rfl) ⟨fun hw ac u K => ?_, fun hw ac u K => ?_, fun hw ac u K => ?_, fun hw ac u K => ?_, fun hw ac u K => ?_, fun hw ac u K => ?_, fun hw ac u K => ?_, fun hw ac u K => ?_, fun hw ac u K => ?_, trivial⟩ ?_
    · exact st_move (.tmp 0) rfl ((K.old 0 rfl).trans x0)
    · exact st_move (.tmp 3) rfl ((K.old 3 rfl).trans x3)
    · exact st_cuth (.tmp 17) (.tmp 18) rfl (fk_val (K.dep 0 17 rfl) (Fk.mono _ _ _ _ hv (bl.trans (Below.mono K.grow bl.size)))) (k) (K.dep 1 18 rfl) (by omega)
    · exact st_call 19 (.func 19) _ _ #[ac.eval (.tmp 19)] rfl rfl (one_arg rfl) Tryd.enter19 (fk_of (ih (l.take k) (by rw [List.length_take]; omega) _ _ (by rw [List.length_take]; omega) (K.dep 2 19 rfl) (hK.below (bl.trans (Below.mono K.grow bl.size))) ey1))
    · exact st_move (.tmp 0) rfl ((K.old 0 rfl).trans x0)
    · exact st_move (.tmp 3) rfl ((K.old 3 rfl).trans x3)
    · exact st_restc (.tmp 21) (.tmp 22) rfl (fk_val (K.dep 4 21 rfl) (Fk.mono _ _ _ _ hv (bl.trans (Below.mono K.grow bl.size)))) (k) (K.dep 5 22 rfl) (by omega)
    · exact st_call 19 (.func 19) _ _ #[ac.eval (.tmp 23)] rfl rfl (one_arg rfl) Tryd.enter19 (fk_of (ih (l.drop k) (by rw [List.length_drop]; omega) _ _ (by rw [List.length_drop]; omega) (K.dep 6 23 rfl) (hK.below (bl.trans (Below.mono K.grow bl.size))) ey2))
    · exact st_call 30 (.func 30) _ _ #[.agg ((y1).map V).toArray, .agg ((y2).map V).toArray] rfl rfl (arg2 (K.dep 3 20 rfl) (K.dep 7 24 rfl)) Tryd.enter30 (fk_node hy1 hy2 (hK.below (bl.trans (Below.mono K.grow bl.size))) eyn)
    intro f6 w6 A hb
    replace bl0 := bl
    replace x0 := (A.old 0 rfl).trans x0
    replace x2 := (A.old 2 rfl).trans x2
    replace x5 := (A.old 5 rfl).trans x5
    replace x6 := (A.old 6 rfl).trans x6
    replace x9 := (A.old 9 rfl).trans x9
    replace x3 := (A.old 3 rfl).trans x3
    have x25 : f6.eval (.tmp 25) = .agg ((y).map V).toArray := A.has 8 25 rfl
    have lt_m2 := Ob.lt m2
    replace m2 := Ob.below m2 hb
    replace bl := (bl.trans (Below.mono hb bl.size))
    replace sz := A.size.trans sz
    replace df := A.defs.trans df
    clear A hb
    clear x3
    refine wl_store rfl (.tmp 2) (.tmp 25) rfl rfl (g2) (y) (hz) x2 x25 m2 hz_len hy ?_
    replace m2 : Ob (w6.setRow g2 ((y).map V : List Value).toArray) (g2) 33 ((y).map V) := Ob.setRow m2 ((y).map V)
    replace bl : Below w.heap.size w (w6.setRow g2 ((y).map V : List Value).toArray) := bl.trans (below_setRow _ _ _ _ hw2)
    generalize w6.setRow g2 ((y).map V : List Value).toArray = w7b at bl m2 ⊢
    refine wpList_nil ?_
    clear x25
    show Code.wp _ _ _ _ _
    refine wp_ret ?_
    repeat (first | with_reducible refine then_ret ?_ | with_reducible refine block_ret ?_)
    exact bodyPost_ret (v := .agg ((y).map V).toArray) (ret_hash rfl f6 _ g2 (y) hy x2 m2) df ⟨rfl, bl⟩
end Go.Proofs.YtfmeeimhfdnjpaaDoor
namespace Go.Proofs.YtfmeeimhfdnjpaaDoor
set_option maxRecDepth 100000
open Go.RowKit
theorem flat_take (hs : List (List (BitVec 8))) (h32 : ∀ (i : Nat) (x : List (BitVec 8)), hs[i]? = some x → x.length = 32) (n : Nat) : (hs.take n).flatten = hs.flatten.take (n * 32) := by
  induction hs generalizing n with
  | nil => simp
  | cons y r ih =>
    cases n with
    | zero => simp
    | succ n =>
      have hy : y.length = 32 := h32 0 y rfl
      rw [List.take_succ_cons, List.flatten_cons, List.flatten_cons, ih (fun i x hi => h32 (i + 1) x hi) n, List.take_append, hy]
      rw [List.take_of_length_le (l := y) (by omega), show (n + 1) * 32 - 32 = n * 32 by omega]
theorem ow_take {base : Nat} {hs : List (List (BitVec 8))} {A : Option Addr} {C : Nat} {w : World} (h : (Fk.ow base hs).f (.slice A hs.length C) w) (n : Nat) (hn : n ≤ hs.length) : (Fk.ow base (hs.take n)).f (.slice A n C) w := by
  obtain ⟨⟨h1, h2⟩, h3⟩ := h
  have hl : (hs.take n).length = n := by rw [List.length_take]; omega
  have h3' : ∀ (i : Nat) (x : List (BitVec 8)), (hs.take n)[i]? = some x → x.length = 32 := fun i x hi => by
    rw [List.getElem?_take] at hi
    split at hi
    · exact h3 i x hi
    · cases hi
  refine ⟨?_, h3'⟩
  rw [hl, flat_take hs h3, List.map_take]
  refine ⟨?_, ?_⟩
  · rw [List.length_take, h1]
    have : n * 32 ≤ hs.length * 32 := Nat.mul_le_mul_right _ hn
    omega
  · rcases h2 with ⟨e, h0⟩ | ⟨g, cap, cur, e, hbg, hg, hnc, hm, hcs, ht⟩
    · have : n = 0 := by omega
      subst this
      injection e with e1 e2 e3
      subst e1 e3
      exact .inl ⟨rfl, rfl⟩
    · cases e
      refine .inr ⟨g, C, cur, rfl, hbg, hg, by omega, hm, hcs, ?_⟩
      rw [← ht, List.take_take]
      congr 1
      have : n * 32 ≤ hs.length * 32 := Nat.mul_le_mul_right _ hn
      omega
end Go.Proofs.YtfmeeimhfdnjpaaDoor
