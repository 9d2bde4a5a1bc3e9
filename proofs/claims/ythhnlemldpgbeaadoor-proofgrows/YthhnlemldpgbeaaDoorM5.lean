/- Slices of numbers, and of pairs of numbers: of the call's own, and to be read. Slices of bools of the call's own; structs with hashes among their fields. Plain words of layer 8: sides and steps, where a path leads, where a proof leads. Sides, Steps, join. slices.Reverse and slices.Contains at bools: the contracts of the shelf, laid at this dump. -/
import Derived.Test.YthhnlemldpgbeaaDoorM4
import Derived.Ground.SlgnProg
import Derived.Shelf.SlicesE.Index
import Derived.Shelf.SlicesE.Reverse
import Derived.Lib.OwnBridge
namespace Go.Proofs.YthhnlemldpgbeaaDoor
set_option maxRecDepth 100000
open Go.RowKit
/-- A slice of the call's own: n things of a type, of so many cells each. -/
def Fk.orw (base T sz n : Nat) (cs : List Value) : Fk := .inr (.inl ⟨fun v w => w.ownsRow base T sz v n cs, by
  rintro v w w' ⟨h1, h2⟩ hb
  refine ⟨h1, ?_⟩
  rcases h2 with h2 | ⟨g, cap, cur, e, hbg, hg, r⟩
  · exact .inl h2
  · exact .inr ⟨g, cap, cur, e, hbg, by rw [hb.block g (Array.getElem?_eq_some_iff.1 hg).1]; exact hg, r⟩⟩)
/-- A slice that may be read: n things, of so many cells each. -/
def Fk.rdw (sz n : Nat) (cs : List Value) : Fk := .inr (.inl ⟨fun v w => ∃ A C lb lo, v = .slice A n C ∧ (0 < n → A = some ⟨lb, lo, none⟩) ∧ cs.length = n * sz ∧ w.rangeAt lb lo cs, by
  rintro v w w' ⟨A, C, lb, lo, e, h1, h2, h3⟩ hb
  exact ⟨A, C, lb, lo, e, h1, h2, fun j u hj => by have := h3 j u hj; rw [hb.cell (block_lt_of_cell this)]; exact this⟩⟩)
theorem orw_rdw {base T sz n : Nat} {cs : List Value} {v : Value} {w : World} (h : (Fk.orw base T sz n cs).f v w) : (Fk.rdw sz n cs).f v w := by
  obtain ⟨h1, h2⟩ := h
  rcases h2 with ⟨rfl, rfl⟩ | ⟨g, cap, cur, rfl, hbg, hg, hnc, _, hcs, ht⟩
  · have : cs = [] := List.eq_nil_of_length_eq_zero (by rw [h1]; simp)
    subst this
    exact ⟨none, 0, 0, 0, rfl, fun h => absurd h (by decide), by simp, fun j u hj => by simp at hj⟩
  · refine ⟨_, cap, g, 0, rfl, fun _ => rfl, h1, fun j u hj => ?_⟩
    have hjl : j < n * sz := by rw [← h1]; exact (List.getElem?_eq_some_iff.1 hj).1
    rw [cell_of_row _ _ _ _ _ _ hg, Nat.zero_add]
    have e := congrArg (·[j]?) ht
    simp only [List.getElem?_take, hj, if_pos hjl, Array.getElem?_toList] at e
    exact e
theorem orw_le {g0 g1 : Nat} (hg : g1 ≤ g0) {T sz n : Nat} {cs : List Value} {v : Value} {w : World} (h : (Fk.orw g0 T sz n cs).f v w) : (Fk.orw g1 T sz n cs).f v w := by
  obtain ⟨h1, h2⟩ := h
  refine ⟨h1, ?_⟩
  rcases h2 with h2 | ⟨g, cap, cur, e, hbg, r⟩
  · exact .inl h2
  · exact .inr ⟨g, cap, cur, e, Nat.le_trans hg hbg, r⟩
theorem orw_nil (base T sz : Nat) (w : World) : (Fk.orw base T sz 0 []).f (.slice none 0 0) w := World.ownsRow_nil _ _ _ _
theorem fk_orw {f : FuncId} {args : Array Value} {w : World} {g0 T sz n : Nat} {cs : List Value} (hg : g0 ≤ w.heap.size) (h : Calls Tryd.prog f args w fun e w' => ∃ u, e = .returned u ∧ (Fk.orw w.heap.size T sz n cs).f u w' ∧ Below w.heap.size w w') :
    Calls Tryd.prog f args w fun e w' => ∃ u, e = .returned u ∧ (Fk.orw g0 T sz n cs).f u w' ∧ Below w.heap.size w w' := by
  refine h.mono ?_
  rintro e w' ⟨u, rfl, h1, h3⟩
  exact ⟨u, rfl, orw_le hg h1, h3⟩
theorem orw_new {w : World} {base T sz : Nat} {cs : List Value} (hl : cs.length = sz) (hb : base ≤ w.heap.size) : (Fk.orw base T sz 1 cs).f (.slice (some ⟨w.heap.size, 0, none⟩) 1 1) (w.alloc (.cells cs.toArray T)) :=
  ⟨by rw [hl, Nat.one_mul], .inr ⟨w.heap.size, 1, cs.toArray, rfl, hb, heap_alloc_new _ _, Nat.le_refl _, by unfold maxLen; omega, by simp [hl], by simp [← hl]⟩⟩
section
variable {Q : Exit → Act → World → Prop} {o : Oper} {a : Act} {w : World} {ops : Array Oper} {rest : List Oper}
theorem wl_appr (ST T sz by_ : Nat) {z : Value} (hu : Tryd.prog.underlying ST = some (.slice T)) (hinf : (Tryd.prog.info? T).map (fun i => (i.zero, i.size, i.bytes)) = some (some z, sz, by_)) (hzs : z.cells.size = sz) (hpos : 0 < sz)
    (hgd : o.guard = none) (s x : Operand) (ho : o.op = .call { callee := .builtin .append, args := #[s, x], argTypes := #[ST, ST] }) (d : Nat) (hd : o.dst = some d) (hsz : d < a.tmps.size)
    {wL : World} {b n m : Nat} {cs ds : List Value} (hs1 : (Fk.orw wL.heap.size T sz n cs).f (a.eval s) w) (hx : (Fk.orw b T sz m ds).f (a.eval x) w) (hm : 1 ≤ m) (hone : ∀ u ∈ ds, u.oneCell' = true) (hL : Below wL.heap.size wL w) (hN : n + m ≤ 100000) (hby : by_ ≤ 1000)
    (h : ∀ a2 w2, a2.defers = a.defers → a2.tmps.size = a.tmps.size → (∀ t, (t == d) = false → a2.eval (.tmp t) = a.eval (.tmp t)) → (Fk.orw wL.heap.size T sz (n + m) (cs ++ ds)).f (a2.eval (.tmp d)) w2 → Below wL.heap.size wL w2 → wpList Tryd.prog ops Q rest a2 w2) : wpList Tryd.prog ops Q (o :: rest) a w := by
  obtain ⟨i0, hi, hz0, hz1, hz2⟩ := info_parts hinf
  obtain ⟨A, C, lb, lo, e, hp, hl, hr⟩ := orw_rdw hx
  have hp := hp (by omega)
  subst hp
  have hown : w.ownsRow wL.heap.size T sz (a.eval s) n cs := hs1
  refine wpList_append_own w hgd s x ST ho wL.heap.size T i0 z sz by_ hu hi hz0 hz1 hz2 hzs hpos _ n cs rfl hown ⟨lb, lo, none⟩ m C ds e hl (fun j u hj => by rw [Addr.add_mid]; exact hr j u hj) hone (by unfold maxLen; omega) ?_ hL.size ?_
  · have := Nat.mul_le_mul hN hby
    omega
  · intro v' w' h1 h2 _
    refine h _ _ (put_def _ _ _) (put_size _ _ _) (fun t ht => ?_) ?_ (hL.grown h2 hL.size (fun k e => (World.ownsRow.lt hown k e).1))
    · rw [hd]
      exact put_eval_other _ _ _ _ (fun e => by subst e; simp at ht)
    · rw [hd, put_eval_same _ _ _ hsz]
      exact h1
theorem st_lenr (ST T : Nat) (hu : Tryd.prog.underlying ST = some (.slice T)) (he : Tryd.prog.elem ST = T) (x : Operand) (ho : o.op = .call { callee := .builtin .len, args := #[x], argTypes := #[ST] }) {sz n : Nat} {cs : List Value} (h : (Fk.rdw sz n cs).f (a.eval x) w) : o.wp Tryd.prog a w (Ends a o.dst w (Fk.eq (.int .i64 ((n : Nat) : Int))).f) Q := by
  obtain ⟨A, C, lb, lo, e, _⟩ := h
  refine st_pure (v := .int .i64 (n : Int)) ?_ rfl
  have h1 := run_len_slice (P := Tryd.prog) (w := w) ST o.type A n C (by rw [he]; exact hu)
  unfold execOp
  simp [ho, resolve, invoke, builtin, e, h1, goInt]
/-- A pointer to these cells. -/
def Fk.prg (cs : List Value) : Fk := .inr (.inl ⟨fun v w => ∃ b o, v = .pointer (some ⟨b, o, none⟩) ∧ w.rangeAt b o cs, by
  rintro v w w' ⟨b, o, e, h⟩ hb
  exact ⟨b, o, e, fun j u hj => by have := h j u hj; rw [hb.cell (block_lt_of_cell this)]; exact this⟩⟩)
theorem st_idxr2 (ST T : Nat) (hu : Tryd.prog.underlying ST = some (.slice T)) (he : Tryd.prog.elem ST = T) {sz : Nat} (hs : ∀ w, (sizeOf T).run Tryd.prog w = .ok sz w) (x y : Operand) (ho : o.op = .indexAddr ST x y) {n : Nat} {cs : List Value} (h : (Fk.rdw sz n cs).f (a.eval x) w) (i : Nat) (hy : a.eval y = .int .i64 (i : Int)) (hi : i < n) (ds : List Value) (hd : ∀ (j : Nat) (v : Value), ds[j]? = some v → cs[i * sz + j]? = some v) : o.wp Tryd.prog a w (Ends a o.dst w (Fk.prg ds).f) Q := by
  obtain ⟨A, C, lb, lo, e, hp, hl, hr⟩ := h
  have hp := hp (by omega)
  subst hp
  refine st_pure (v := .pointer (some ⟨lb, lo + i * sz, none⟩)) ?_ ⟨lb, lo + i * sz, rfl, fun j u hj => by rw [Nat.add_assoc]; exact hr _ _ (hd j u hj)⟩
  have h1 := run_indexAt_slice (P := Tryd.prog) (w := w) ST ⟨lb, lo, none⟩ n C .i64 (i : Int) (by rw [he]; exact hu)
  rw [if_pos (by omega), he, hs] at h1
  simp only [Result.andThen_ok, Int.toNat_natCast, Addr.add_mid] at h1
  unfold execOp
  rw [ho]
  simp [e, hy, h1]
theorem st_loadr1 (T : TypeId) (x : Operand) (ho : o.op = .load T x) (h1 : (isAgg T).run Tryd.prog w = .ok false w) {u : Value} (h : (Fk.prg [u]).f (a.eval x) w) : o.wp Tryd.prog a w (Ends a o.dst w (Fk.eq u).f) Q := by
  obtain ⟨b, so, e, hr⟩ := h
  exact st_loadc T x ho h1 e (by have := hr 0 u rfl; simpa using this)
theorem st_bldr (ST T sz : Nat) (x : Operand) (ho : o.op = .buildSlice ST 1 #[(0, x)]) {u : Value} (cs : List Value) (hx : a.eval x = u) (hr : ∀ w, (Instr.buildSlice ST 1 #[(0, u)]).run Tryd.prog w = .ok (.slice (some ⟨w.heap.size, 0, none⟩) 1 1) (w.alloc (.cells cs.toArray T))) (hl : cs.length = sz) (g0 : Nat) (hg : g0 ≤ w.heap.size) : o.wp Tryd.prog a w (Ends a o.dst w (Fk.orw g0 T sz 1 cs).f) Q := by
  refine st_run (v := .slice (some ⟨w.heap.size, 0, none⟩) 1 1) (w' := w.alloc (.cells cs.toArray T)) ?_ ((Below.refl _ _).alloc (Nat.le_refl _) _) (orw_new hl hg)
  unfold execOp
  rw [ho]
  simp [hx, hr]
end
/-- Numbers in cells. -/
def zv (ds : List Int) : List Value := ds.map fun z => .int .i64 z
theorem zv_append (a b : List Int) : zv (a ++ b) = zv a ++ zv b := List.map_append
theorem zv_one (ds : List Int) : ∀ u ∈ zv ds, u.oneCell' = true := by
  intro u hu
  obtain ⟨z, _, rfl⟩ := List.mem_map.1 hu
  rfl
theorem zv_at {ds : List Int} {i : Nat} {z : Int} (h : ds[i]? = some z) : ∀ (j : Nat) (v : Value), ([.int .i64 z] : List Value)[j]? = some v → (zv ds)[i * 1 + j]? = some v := by
  intro j v hj
  cases j with
  | zero =>
    obtain rfl : Value.int .i64 z = v := by simpa using hj
    simp [zv, h]
  | succ j => simp at hj
/-- Pairs of numbers in cells. -/
def pv2 (ps : List (Nat × Nat)) : List Value := ps.flatMap fun p => [.int .i64 (p.1 : Int), .int .i64 (p.2 : Int)]
/-- Numbers of the call's own; to be read. -/
def Fk.oi (base : Nat) (ds : List Int) : Fk := Fk.orw base 3 1 ds.length (zv ds)
def Fk.is (ds : List Int) : Fk := Fk.rdw 1 ds.length (zv ds)
def Fk.ps (ps : List (Nat × Nat)) : Fk := Fk.rdw 2 ps.length (pv2 ps)
theorem Tryd.under66z : Tryd.prog.underlying 66 = some (.slice 3) := by kernel_rfl
theorem Tryd.elem66z : Tryd.prog.elem 66 = 3 := by kernel_rfl
theorem Tryd.info3z : (Tryd.prog.info? 3).map (fun i => (i.zero, i.size, i.bytes)) = some (some (.int .i64 0), 1, 8) := by kernel_rfl
theorem Tryd.size3z (w : World) : (sizeOf 3).run Tryd.prog w = .ok 1 w := by kernel_rfl
theorem Tryd.bld3z (z : Int) (w : World) : (Instr.buildSlice 66 1 #[(0, .int .i64 z)]).run Tryd.prog w = .ok (.slice (some ⟨w.heap.size, 0, none⟩) 1 1) (w.alloc (.cells (zv [z]).toArray 3)) := by kernel_rfl
theorem oi_is {base : Nat} {ds : List Int} {v : Value} {w : World} (h : (Fk.oi base ds).f v w) : (Fk.is ds).f v w := orw_rdw h
theorem oi_nil (base : Nat) (w : World) : (Fk.oi base []).f (.slice none 0 0) w := orw_nil _ _ _ _
section
variable {Q : Exit → Act → World → Prop} {o : Oper} {a : Act} {w : World} {ops : Array Oper} {rest : List Oper}
theorem wl_appendi (hgd : o.guard = none) (s x : Operand) (ho : o.op = .call { callee := .builtin .append, args := #[s, x], argTypes := #[66, 66] }) (d : Nat) (hd : o.dst = some d) (hsz : d < a.tmps.size)
    {wL : World} {b : Nat} {cs ds : List Int} (hs1 : (Fk.oi wL.heap.size cs).f (a.eval s) w) (hx : (Fk.oi b ds).f (a.eval x) w) (hm : 1 ≤ ds.length) (hL : Below wL.heap.size wL w) (hN : cs.length + ds.length ≤ 100000)
    (h : ∀ a2 w2, a2.defers = a.defers → a2.tmps.size = a.tmps.size → (∀ t, (t == d) = false → a2.eval (.tmp t) = a.eval (.tmp t)) → (Fk.oi wL.heap.size (cs ++ ds)).f (a2.eval (.tmp d)) w2 → Below wL.heap.size wL w2 → wpList Tryd.prog ops Q rest a2 w2) : wpList Tryd.prog ops Q (o :: rest) a w :=
  wl_appr 66 3 1 8 Tryd.under66z Tryd.info3z rfl (by decide) hgd s x ho d hd hsz hs1 hx hm (zv_one ds) hL hN (by decide) (fun a2 w2 h1 h2 h3 h4 h5 => h a2 w2 h1 h2 h3 (by unfold Fk.oi; rw [List.length_append, zv_append]; exact h4) h5)
theorem st_lenis (x : Operand) (ho : o.op = .call { callee := .builtin .len, args := #[x], argTypes := #[66] }) {ds : List Int} (h : (Fk.is ds).f (a.eval x) w) : o.wp Tryd.prog a w (Ends a o.dst w (Fk.eq (.int .i64 ((ds.length : Nat) : Int))).f) Q := st_lenr 66 3 Tryd.under66z Tryd.elem66z x ho h
theorem st_idxis (x y : Operand) (ho : o.op = .indexAddr 66 x y) {ds : List Int} (h : (Fk.is ds).f (a.eval x) w) (i : Nat) (hy : a.eval y = .int .i64 (i : Int)) (z : Int) (hi : ds[i]? = some z) : o.wp Tryd.prog a w (Ends a o.dst w (Fk.prg [.int .i64 z]).f) Q :=
  st_idxr2 66 3 Tryd.under66z Tryd.elem66z Tryd.size3z x y ho h i hy (List.getElem?_eq_some_iff.1 hi).1 _ (zv_at hi)
theorem st_bi1 (x : Operand) (ho : o.op = .buildSlice 66 1 #[(0, x)]) (z : Int) (hx : a.eval x = .int .i64 z) (g0 : Nat) (hg : g0 ≤ w.heap.size) : o.wp Tryd.prog a w (Ends a o.dst w (Fk.oi g0 [z]).f) Q := st_bldr 66 3 1 x ho _ hx (Tryd.bld3z z) rfl g0 hg
end
end Go.Proofs.YthhnlemldpgbeaaDoor
namespace Go.Proofs.YthhnlemldpgbeaaDoor
set_option maxRecDepth 100000
open Go.RowKit
theorem arg5 {a : Act} {x y z p q : Operand} {u v t s r : Value} (h : a.eval x = u) (h2 : a.eval y = v) (h3 : a.eval z = t) (h4 : a.eval p = s) (h5 : a.eval q = r) : ((#[x, y, z, p, q].toList.map a.eval).toArray : Array Value) = #[u, v, t, s, r] := by rw [← h, ← h2, ← h3, ← h4, ← h5]; rfl
/-- Bools in cells. -/
def bvs (ds : List Bool) : List Value := ds.map fun b => .bool b
theorem bvs_append (a b : List Bool) : bvs (a ++ b) = bvs a ++ bvs b := List.map_append
theorem bvs_one (ds : List Bool) : ∀ u ∈ bvs ds, u.oneCell' = true := by
  intro u hu
  obtain ⟨z, _, rfl⟩ := List.mem_map.1 hu
  rfl
theorem bvs_at {ds : List Bool} {i : Nat} {z : Bool} (h : ds[i]? = some z) : ∀ (j : Nat) (v : Value), ([.bool z] : List Value)[j]? = some v → (bvs ds)[i * 1 + j]? = some v := by
  intro j v hj
  cases j with
  | zero =>
    obtain rfl : Value.bool z = v := by simpa using hj
    simp [bvs, h]
  | succ j => simp at hj
/-- Bools of the call's own; to be read. -/
def Fk.ob (base : Nat) (ds : List Bool) : Fk := Fk.orw base 4 1 ds.length (bvs ds)
def Fk.bs (ds : List Bool) : Fk := Fk.rdw 1 ds.length (bvs ds)
theorem Tryd.under33z : Tryd.prog.underlying 33 = some (.slice 4) := by kernel_rfl
theorem Tryd.elem33z : Tryd.prog.elem 33 = 4 := by kernel_rfl
theorem Tryd.info4z : (Tryd.prog.info? 4).map (fun i => (i.zero, i.size, i.bytes)) = some (some (.bool false), 1, 1) := by kernel_rfl
theorem Tryd.size4z (w : World) : (sizeOf 4).run Tryd.prog w = .ok 1 w := by kernel_rfl
theorem Tryd.bld4z (z : Bool) (w : World) : (Instr.buildSlice 33 1 #[(0, .bool z)]).run Tryd.prog w = .ok (.slice (some ⟨w.heap.size, 0, none⟩) 1 1) (w.alloc (.cells (bvs [z]).toArray 4)) := by kernel_rfl
theorem ob_bs {base : Nat} {ds : List Bool} {v : Value} {w : World} (h : (Fk.ob base ds).f v w) : (Fk.bs ds).f v w := orw_rdw h
theorem ob_nil (base : Nat) (w : World) : (Fk.ob base []).f (.slice none 0 0) w := orw_nil _ _ _ _
section
variable {Q : Exit → Act → World → Prop} {o : Oper} {a : Act} {w : World} {ops : Array Oper} {rest : List Oper}
theorem wl_appendo (hgd : o.guard = none) (s x : Operand) (ho : o.op = .call { callee := .builtin .append, args := #[s, x], argTypes := #[33, 33] }) (d : Nat) (hd : o.dst = some d) (hsz : d < a.tmps.size)
    {wL : World} {b : Nat} {cs ds : List Bool} (hs1 : (Fk.ob wL.heap.size cs).f (a.eval s) w) (hx : (Fk.ob b ds).f (a.eval x) w) (hm : 1 ≤ ds.length) (hL : Below wL.heap.size wL w) (hN : cs.length + ds.length ≤ 100000)
    (h : ∀ a2 w2, a2.defers = a.defers → a2.tmps.size = a.tmps.size → (∀ t, (t == d) = false → a2.eval (.tmp t) = a.eval (.tmp t)) → (Fk.ob wL.heap.size (cs ++ ds)).f (a2.eval (.tmp d)) w2 → Below wL.heap.size wL w2 → wpList Tryd.prog ops Q rest a2 w2) : wpList Tryd.prog ops Q (o :: rest) a w :=
  wl_appr 33 4 1 1 Tryd.under33z Tryd.info4z rfl (by decide) hgd s x ho d hd hsz hs1 hx hm (bvs_one ds) hL hN (by decide) (fun a2 w2 h1 h2 h3 h4 h5 => h a2 w2 h1 h2 h3 (by unfold Fk.ob; rw [List.length_append, bvs_append]; exact h4) h5)
theorem st_lenbs (x : Operand) (ho : o.op = .call { callee := .builtin .len, args := #[x], argTypes := #[33] }) {ds : List Bool} (h : (Fk.bs ds).f (a.eval x) w) : o.wp Tryd.prog a w (Ends a o.dst w (Fk.eq (.int .i64 ((ds.length : Nat) : Int))).f) Q := st_lenr 33 4 Tryd.under33z Tryd.elem33z x ho h
theorem st_idxbs (x y : Operand) (ho : o.op = .indexAddr 33 x y) {ds : List Bool} (h : (Fk.bs ds).f (a.eval x) w) (i : Nat) (hy : a.eval y = .int .i64 (i : Int)) (z : Bool) (hi : ds[i]? = some z) : o.wp Tryd.prog a w (Ends a o.dst w (Fk.prg [.bool z]).f) Q :=
  st_idxr2 33 4 Tryd.under33z Tryd.elem33z Tryd.size4z x y ho h i hy (List.getElem?_eq_some_iff.1 hi).1 _ (bvs_at hi)
theorem st_bo1b (x : Operand) (ho : o.op = .buildSlice 33 1 #[(0, x)]) (z : Bool) (hx : a.eval x = .bool z) (g0 : Nat) (hg : g0 ≤ w.heap.size) : o.wp Tryd.prog a w (Ends a o.dst w (Fk.ob g0 [z]).f) Q := st_bldr 33 4 1 x ho _ hx (Tryd.bld4z z) rfl g0 hg
end
end Go.Proofs.YthhnlemldpgbeaaDoor
namespace Go.Proofs.YthhnlemldpgbeaaDoor
set_option maxRecDepth 100000
/-- Of the leaf i of n, from it up: does the hash beside stand on the left? -/
def sds (i n : Nat) : List Bool :=
  if _h : n ≤ 1 then []
  else if i < spl n then sds i (spl n) ++ [false] else sds (i - spl n) (n - spl n) ++ [true]
  termination_by n
  decreasing_by
    · exact spl_lt (by omega)
    · have := spl_pos n
      omega
theorem sds_one {n : Nat} (h : n ≤ 1) (i : Nat) : sds i n = [] := by rw [sds, dif_pos h]
theorem sds_left {i n : Nat} (h : 2 ≤ n) (hi : i < spl n) : sds i n = sds i (spl n) ++ [false] := by rw [sds, dif_neg (by omega), if_pos hi]
theorem sds_right {i n : Nat} (h : 2 ≤ n) (hi : ¬ i < spl n) : sds i n = sds (i - spl n) (n - spl n) ++ [true] := by rw [sds, dif_neg (by omega), if_neg hi]
/-- A hash, and the next one, on its left or right. -/
def jon (h : List (BitVec 8)) (p : List (BitVec 8) × Bool) : List (BitVec 8) := if p.2 then nd p.1 h else nd h p.1
/-- Where a path leads. -/
def ldt (leaf : List (BitVec 8)) (P : List (List (BitVec 8))) (S : List Bool) : List (BitVec 8) := (P.zip S).foldl jon leaf
theorem ldt_snoc (leaf : List (BitVec 8)) {P : List (List (BitVec 8))} {S : List Bool} (h : P.length = S.length) (x : List (BitVec 8)) (b : Bool) : ldt leaf (P ++ [x]) (S ++ [b]) = jon (ldt leaf P S) (x, b) := by
  unfold ldt
  rw [List.zip_append h, List.foldl_append]
  rfl
/-- No more than 61 of them up to 2^60. -/
theorem sds_log (n : Nat) : ∀ i j, n ≤ 2 ^ j → (sds i n).length ≤ j := by
  induction n using Nat.strongRecOn with
  | ind n ih =>
    intro i j hj
    by_cases h1 : n ≤ 1
    · rw [sds_one h1]; exact Nat.zero_le _
    · have hs := spl_lt (n := n) (by omega)
      have hp := spl_pos n
      have hg := spl_ge (n := n) (by omega)
      cases j with
      | zero => simp at hj; omega
      | succ j =>
        have hk : spl n ≤ 2 ^ j := by
          unfold spl
          apply Nat.pow_le_pow_right (by decide)
          have : Nat.log2 (n - 1) < j + 1 := (Nat.log2_lt (by omega)).2 (by omega)
          omega
        by_cases hi : i < spl n
        · have := ih (spl n) hs i j hk
          rw [sds_left (by omega) hi, List.length_append, List.length_singleton]; omega
        · have := ih (n - spl n) (by omega) (i - spl n) j (by rw [Nat.pow_succ] at hj; omega)
          rw [sds_right (by omega) hi, List.length_append, List.length_singleton]; omega
/-- Of a proof from m to n: does it begin with a hash of its own; then, step by step, does the next hash stand on the left of both roots? -/
def stp (m n : Nat) (whole : Bool) : Bool × List Bool :=
  if m = n then (!whole, [])
  else if _h : n ≤ 1 then (!whole, [])
  else if m ≤ spl n then ((stp m (spl n) whole).1, (stp m (spl n) whole).2 ++ [false])
  else ((stp (m - spl n) (n - spl n) false).1, (stp (m - spl n) (n - spl n) false).2 ++ [true])
  termination_by n
  decreasing_by
    all_goals first | exact spl_lt (by omega) | (have := spl_pos n; omega)
theorem stp_same (n : Nat) (w : Bool) : stp n n w = (!w, []) := by rw [stp, if_pos rfl]
theorem stp_left {m n : Nat} {w : Bool} (h : 2 ≤ n) (hm : m ≠ n) (hk : m ≤ spl n) : stp m n w = ((stp m (spl n) w).1, (stp m (spl n) w).2 ++ [false]) := by rw [stp, if_neg hm, dif_neg (by omega), if_pos hk]
theorem stp_right {m n : Nat} {w : Bool} (h : 2 ≤ n) (hm : m ≠ n) (hk : ¬ m ≤ spl n) : stp m n w = ((stp (m - spl n) (n - spl n) false).1, (stp (m - spl n) (n - spl n) false).2 ++ [true]) := by rw [stp, if_neg hm, dif_neg (by omega), if_neg hk]
/-- One step of both roots. -/
def bst (ab : List (BitVec 8) × List (BitVec 8)) (p : List (BitVec 8) × Bool) : List (BitVec 8) × List (BitVec 8) := (if p.2 then nd p.1 ab.1 else ab.1, jon ab.2 p)
/-- Where the hashes of a proof lead, from two roots that are one. -/
def bth (a : List (BitVec 8)) (P : List (List (BitVec 8))) (S : List Bool) : List (BitVec 8) × List (BitVec 8) := (P.zip S).foldl bst (a, a)
theorem bth_snoc (a : List (BitVec 8)) {P : List (List (BitVec 8))} {S : List Bool} (h : P.length = S.length) (x : List (BitVec 8)) (b : Bool) : bth a (P ++ [x]) (S ++ [b]) = bst (bth a P S) (x, b) := by
  unfold bth
  rw [List.zip_append h, List.foldl_append]
  rfl
theorem stp_false (n : Nat) : ∀ m, (stp m n false).1 = true := by
  induction n using Nat.strongRecOn with
  | ind n ih =>
    intro m
    by_cases hm : m = n
    · subst hm; rw [stp_same]; rfl
    · by_cases h1 : n ≤ 1
      · rw [stp, if_neg hm, dif_pos h1]; rfl
      · have hs := spl_lt (n := n) (by omega)
        have hp := spl_pos n
        by_cases hk : m ≤ spl n
        · rw [stp_left (by omega) hm hk]; exact ih _ hs _
        · rw [stp_right (by omega) hm hk]; exact ih _ (by omega) _
theorem spl_between {n m : Nat} (h : 2 ≤ n) (h1 : spl n < m) (h2 : m ≤ n) : spl m = spl n := by
  have hg := spl_ge h
  unfold spl at h1 hg ⊢
  have := spl_one (n := m) (j := Nat.log2 (n - 1)) h1 (by omega)
  unfold spl at this
  exact this
/-- What layer 7 tells leads to both roots: from a hash of its own, if there is one, else from the first one. -/
theorem sub_steps (n : Nat) : ∀ (l : List (List (BitVec 8))) (m : Nat) (w : Bool), l.length = n → 1 ≤ m → m ≤ n →
    ∃ y Q, ((stp m n w).1 = true → msub l m w = y :: Q) ∧ ((stp m n w).1 = false → y = mroot (l.take m) ∧ msub l m w = Q) ∧ Q.length = (stp m n w).2.length ∧ bth y Q (stp m n w).2 = (mroot (l.take m), mroot l) := by
  induction n using Nat.strongRecOn with
  | ind n ih =>
    intro l m w hl hm1 hmn
    by_cases hm : m = n
    · subst hm
      have e1 := msub_all l
      have e2 := msub_part l
      have ht : l.take m = l := List.take_of_length_le (by omega)
      rw [hl] at e1 e2
      rw [stp_same, ht]
      cases w
      · exact ⟨mroot l, [], fun _ => e2, fun h => by simp at h, rfl, rfl⟩
      · exact ⟨mroot l, [], fun h => by simp at h, fun _ => ⟨rfl, e1⟩, rfl, rfl⟩
    · have h2 : 2 ≤ n := by omega
      have hs := spl_lt h2
      have hp := spl_pos n
      have hll : 2 ≤ l.length := by omega
      by_cases hk : m ≤ spl n
      · obtain ⟨y, Q, q1, q2, q3, q4⟩ := ih (spl n) hs (l.take (spl n)) m w (by rw [List.length_take]; omega) hm1 hk
        rw [List.take_take, Nat.min_eq_left hk] at q2 q4
        have em := msub_left (b := w) hll (show m ≠ l.length by omega) (by rw [hl]; exact hk)
        rw [hl] at em
        rw [stp_left h2 hm hk]
        refine ⟨y, Q ++ [mroot (l.drop (spl n))], fun h => by rw [em, q1 h]; rfl, fun h => ⟨(q2 h).1, by rw [em, (q2 h).2]⟩, by rw [List.length_append, List.length_append, q3]; rfl, ?_⟩
        rw [bth_snoc _ q3, q4, mroot_two hll, hl]
        rfl
      · obtain ⟨y, Q, q1, _, q3, q4⟩ := ih (n - spl n) (by omega) (l.drop (spl n)) (m - spl n) false (by rw [List.length_drop]; omega) (by omega) (by omega)
        have q1 := q1 (stp_false _ _)
        have em := msub_right (b := w) hll (show m ≠ l.length by omega) (by rw [hl]; exact hk)
        rw [hl] at em
        rw [stp_right h2 hm hk]
        refine ⟨y, Q ++ [mroot (l.take (spl n))], fun _ => by rw [em, q1]; rfl, fun h => ?_, by rw [List.length_append, List.length_append, q3]; rfl, ?_⟩
        · rw [stp_false] at h; cases h
        · rw [bth_snoc _ q3, q4]
          have e1 : mroot (l.take m) = nd (mroot (l.take (spl n))) (mroot ((l.drop (spl n)).take (m - spl n))) := by
            have hlm : (l.take m).length = m := by rw [List.length_take]; omega
            rw [mroot_two (l := l.take m) (by rw [hlm]; omega), hlm, spl_between h2 (by omega) hmn, List.take_take, Nat.min_eq_left (by omega), List.drop_take]
          rw [e1, mroot_two hll, hl]
          rfl
end Go.Proofs.YthhnlemldpgbeaaDoor
namespace Go.Proofs.YthhnlemldpgbeaaDoor
set_option maxRecDepth 100000
open Go.RowKit
theorem jon_len (h : List (BitVec 8)) (p : List (BitVec 8) × Bool) : (jon h p).length = 32 := by unfold jon; split <;> exact nd_len _ _
/-- No more than j steps up to 2^j. -/
theorem stp_log (n : Nat) : ∀ m b j, n ≤ 2 ^ j → (stp m n b).2.length ≤ j := by
  induction n using Nat.strongRecOn with
  | ind n ih =>
    intro m b j hj
    by_cases hm : m = n
    · subst hm; rw [stp_same]; exact Nat.zero_le _
    · by_cases h1 : n ≤ 1
      · rw [stp, if_neg hm, dif_pos h1]; exact Nat.zero_le _
      · have hs := spl_lt (n := n) (by omega)
        have hp := spl_pos n
        have hg := spl_ge (n := n) (by omega)
        cases j with
        | zero => simp at hj; omega
        | succ j =>
          have hk : spl n ≤ 2 ^ j := by
            unfold spl
            apply Nat.pow_le_pow_right (by decide)
            have : Nat.log2 (n - 1) < j + 1 := (Nat.log2_lt (by omega)).2 (by omega)
            omega
          by_cases hi : m ≤ spl n
          · have := ih (spl n) hs m b j hk
            rw [stp_left (by omega) hm hi]
            simp only [List.length_append, List.length_singleton]
            omega
          · have := ih (n - spl n) (by omega) (m - spl n) false j (by rw [Nat.pow_succ] at hj; omega)
            rw [stp_right (by omega) hm hi]
            simp only [List.length_append, List.length_singleton]
            omega
end Go.Proofs.YthhnlemldpgbeaaDoor
namespace Go.Proofs.YthhnlemldpgbeaaDoor
set_option maxRecDepth 100000
open Go.RowKit
open Go.Shelf Go.Lib Go.Sort
def Tryd.laysSlE31_f26_ren : Go.Shelf.Ren := ⟨fun | 31 => 26 | 29 => 39 | n => n, fun | 22 => 33 | 23 => 4 | 4 => 4 | 3 => 3 | 0 => 0 | n => n, fun | n => n⟩
theorem Tryd.laysSlE31_f26 : Go.Proofs.SlLaysE.n31 Tryd.prog Tryd.laysSlE31_f26_ren := {
  mixed := by kernel_rfl
  f29 := ⟨Tryd.f39.name, by decide, Tryd.func39.trans (congrArg some (by kernel_rfl))⟩
  f31 := ⟨Tryd.f26.name, by decide, Tryd.func26.trans (congrArg some (by kernel_rfl))⟩
  t0 := Tryd.underlying0
  a0 := Tryd.isAgg0
  z0 := Tryd.sizeOf0
  v0 := Tryd.zeroValue0
  t3 := Tryd.underlying3
  a3 := Tryd.isAgg3
  z3 := Tryd.sizeOf3
  v3 := Tryd.zeroValue3
  t4 := Tryd.underlying4
  a4 := Tryd.isAgg4
  z4 := Tryd.sizeOf4
  v4 := Tryd.zeroValue4
  t22 := Tryd.underlying33
  a22 := Tryd.isAgg33
  z22 := Tryd.sizeOf33
  v22 := Tryd.zeroValue33
  a23 := Tryd.isAgg4
  z23 := Tryd.sizeOf4 }
theorem Tryd.slices_Contains {α : Type} [Inhabited α] (enc : α → Value) (eq : α → α → Bool) (heq : EqlAt Tryd.prog 4 enc eq) (b off n c : Nat) (zs : List α) (x : α) (w : World) (hz : n ≤ zs.length) (hbig : n ≤ 9223372036854775807) (hc : ∀ j, j < zs.length → w.cell? ⟨b, off + j, none⟩ = some (enc zs[j]!)) :
    Calls Tryd.prog 26 #[.slice (some ⟨b, off, none⟩) n c, enc x] w fun e w' => e = .returned (.bool ((zs.take n).any fun y => eq x y)) ∧ w' = w := AnyE.slices_Contains Tryd.laysSlE31_f26 enc eq heq b off n c zs x w hz hbig hc
theorem Tryd.slices_Contains_empty {α : Type} [Inhabited α] (a : Option Addr) (c : Nat) (xv : Value) (w : World) :
    Calls Tryd.prog 26 #[.slice a 0 c, xv] w fun e w' => e = .returned (.bool false) ∧ w' = w := AnyE.slices_Contains_empty Tryd.laysSlE31_f26 a c xv w
def Tryd.laysSlE35_f38_ren : Go.Shelf.Ren := ⟨fun | 35 => 38 | n => n, fun | 22 => 33 | 23 => 4 | 3 => 3 | 4 => 4 | 0 => 0 | n => n, fun | n => n⟩
theorem Tryd.laysSlE35_f38 : Go.Proofs.SlLaysE.n35 Tryd.prog Tryd.laysSlE35_f38_ren := {
  mixed := by kernel_rfl
  f35 := ⟨Tryd.f38.name, by decide, Tryd.func38.trans (congrArg some (by kernel_rfl))⟩
  t0 := Tryd.underlying0
  a0 := Tryd.isAgg0
  z0 := Tryd.sizeOf0
  v0 := Tryd.zeroValue0
  t3 := Tryd.underlying3
  a3 := Tryd.isAgg3
  z3 := Tryd.sizeOf3
  v3 := Tryd.zeroValue3
  t4 := Tryd.underlying4
  a4 := Tryd.isAgg4
  z4 := Tryd.sizeOf4
  v4 := Tryd.zeroValue4
  t22 := Tryd.underlying33
  a22 := Tryd.isAgg33
  z22 := Tryd.sizeOf33
  v22 := Tryd.zeroValue33
  a23 := Tryd.isAgg4
  z23 := Tryd.sizeOf4 }
theorem Tryd.slices_Reverse {α : Type} [Inhabited α] (enc : α → Value) (h1 : OneCell enc) (blk off cap : Nat) (zs : List α) (w : World) (hH : Holds enc w blk off zs.toArray) (hsz : zs.length ≤ 9223372036854775807) :
    Calls Tryd.prog 38 #[.slice (some ⟨blk, off, none⟩) zs.length cap] w fun e w' => e = .returned (.tuple #[]) ∧ ∃ n, w' = putRow enc (Sort.ahead w n) blk off zs.reverse.toArray := AnyE.slices_Reverse Tryd.laysSlE35_f38 enc h1 blk off cap zs w hH hsz
theorem Tryd.slices_Reverse_empty {α : Type} [Inhabited α] (a : Option Addr) (cap : Nat) (w : World) :
    Calls Tryd.prog 38 #[.slice a 0 cap] w fun e w' => e = .returned (.tuple #[]) ∧ w' = w := AnyE.slices_Reverse_empty Tryd.laysSlE35_f38 a cap w
/-- slices.Reverse turns round a slice of bools of the call's own. -/
theorem reverse_any {base : Nat} {S : List Bool} {v : Value} {w : World} (hv : (Fk.ob base S).f v w) (hl : S.length ≤ 1000000) :
    Calls Tryd.prog 38 #[v] w fun e w' => e = .returned (.tuple #[]) ∧ (Fk.ob base S.reverse).f v w' ∧ Below base w w' := by
  have ho : w.ownsRow base 4 1 v S.length (S.map Value.bool) := hv
  by_cases hn : v = .slice none 0 0
  · subst hn
    have h0 : S = [] := by
      have h1 := ho.1
      rcases ho.2 with ⟨_, h⟩ | ⟨g, cap, cur, e, _⟩
      · exact List.eq_nil_of_length_eq_zero h
      · cases e
    subst h0
    refine (Tryd.slices_Reverse_empty (α := Bool) none 0 w).mono ?_
    rintro e w' ⟨rfl, rfl⟩
    exact ⟨rfl, hv, Below.refl _ _⟩
  · obtain ⟨g, cap, rfl, hb, hg, hc, hm, hz, hH⟩ := holds_of_ownsRow ho hn
    refine (Tryd.slices_Reverse Value.bool (fun _ => rfl) g 0 cap S w hH (by omega)).mono ?_
    rintro e w' ⟨rfl, q, rfl⟩
    have h1 := ownsRow_putRow (q := q) (k := S.length) (ys := S.reverse) ho (by simp) (Nat.le_refl _)
    refine ⟨rfl, ?_, below_putRow (Below.refl _ _) hb⟩
    rw [List.take_of_length_le (by simp)] at h1
    show (putRow Value.bool (Sort.ahead w q) g 0 S.reverse.toArray).ownsRow base 4 1 _ S.reverse.length (S.reverse.map Value.bool)
    rw [List.length_reverse]
    exact h1
end Go.Proofs.YthhnlemldpgbeaaDoor
