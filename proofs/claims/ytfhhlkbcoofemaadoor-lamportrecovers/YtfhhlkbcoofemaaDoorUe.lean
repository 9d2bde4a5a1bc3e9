/- More that is told of slots, and steps over it: numbers and hashes in slices, comparisons, the calls of wots. -/
import Derived.Test.YtfhhlkbcoofemaaDoorUd
namespace Go.Proofs.YtfhhlkbcoofemaaDoor
open Go.RowKit
/-- A pointer to a number. -/
def Fk.pi (z : Int) : Fk := .inr (.inl ⟨fun v w => ∃ b o, v = .pointer (some ⟨b, o, none⟩) ∧ w.cell? ⟨b, o, none⟩ = some (.int .i64 z), by
  rintro v w w' ⟨b, o, e, h⟩ hb
  exact ⟨b, o, e, by rw [hb.cell (block_lt_of_cell h)]; exact h⟩⟩)
/-- A pointer to a hash. -/
def Fk.ph (xs : List (BitVec 8)) : Fk := .inr (.inl ⟨fun v w => ∃ b o, v = .pointer (some ⟨b, o, none⟩) ∧ xs.length = 32 ∧ b < w.heap.size ∧ HasB w b o xs, by
  rintro v w w' ⟨b, o, e, hl, hlt, h⟩ hb
  exact ⟨b, o, e, hl, Nat.lt_of_lt_of_le hlt hb.size, h.below hb hlt⟩⟩)
/-- A slice of numbers. -/
def Fk.ds (ds : List Nat) : Fk := .inr (.inl ⟨fun v w => ∃ sp c b o, v = .slice sp ds.length c ∧ Is w sp b o ds, by
  rintro v w w' ⟨sp, c, b, o, e, h⟩ hb
  exact ⟨sp, c, b, o, e, h.below hb⟩⟩)
/-- A slice of hashes. -/
def Fk.hs (hs : List (List (BitVec 8))) : Fk := .inr (.inl ⟨fun v w => ∃ A C lb lo, v = .slice A hs.length C ∧ Hl w A lb lo hs, by
  rintro v w w' ⟨A, C, lb, lo, e, h⟩ hb
  exact ⟨A, C, lb, lo, e, h.below hb⟩⟩)
/-- Two values: such a slice, and an error's number. -/
def Fk.th (hs : List (List (BitVec 8))) (n : Int) : Fk := .inr (.inl ⟨fun v w => ∃ u, v = .tuple #[u, .int .i64 n] ∧ (Fk.hs hs).f u w, by
  rintro v w w' ⟨u, e, h⟩ hb
  exact ⟨u, e, Fk.mono _ _ _ _ h hb⟩⟩)
theorem arg2 {a : Act} {x y : Operand} {u v : Value} (h : a.eval x = u) (h2 : a.eval y = v) : ((#[x, y].toList.map a.eval).toArray : Array Value) = #[u, v] := by rw [← h, ← h2]; rfl
theorem arg3 {a : Act} {x y z : Operand} {u v t : Value} (h : a.eval x = u) (h2 : a.eval y = v) (h3 : a.eval z = t) : ((#[x, y, z].toList.map a.eval).toArray : Array Value) = #[u, v, t] := by rw [← h, ← h2, ← h3]; rfl
theorem arg4 {a : Act} {x y z p : Operand} {u v t s : Value} (h : a.eval x = u) (h2 : a.eval y = v) (h3 : a.eval z = t) (h4 : a.eval p = s) : ((#[x, y, z, p].toList.map a.eval).toArray : Array Value) = #[u, v, t, s] := by rw [← h, ← h2, ← h3, ← h4]; rfl
theorem fk_of {f : FuncId} {args : Array Value} {w : World} {v : Value} (h : Calls Tryd.prog f args w fun e w' => e = .returned v ∧ Below w.heap.size w w') : Calls Tryd.prog f args w fun e w' => ∃ u, e = .returned u ∧ (Fk.eq v).f u w' ∧ Below w.heap.size w w' := by
  refine h.mono ?_
  rintro e w' ⟨rfl, hb⟩
  exact ⟨_, rfl, rfl, hb⟩
theorem Tryd.isAgg3' (w : World) : (isAgg 3).run Tryd.prog w = .ok false w := by kernel_rfl
theorem Tryd.elem44 : Tryd.prog.elem 44 = 3 := by kernel_rfl
theorem Tryd.elem27 : Tryd.prog.elem 27 = 23 := by kernel_rfl
theorem Tryd.sizeOf3 (w : World) : (sizeOf 3).run Tryd.prog w = .ok 1 w := by kernel_rfl
theorem Tryd.sizeOf23 (w : World) : (sizeOf 23).run Tryd.prog w = .ok 32 w := by kernel_rfl
theorem Tryd.under27' : Tryd.prog.underlying 27 = some (.slice 23) := by kernel_rfl
theorem Tryd.zero23 (w : World) : (Instr.build 23 #[]).run Tryd.prog w = .ok (.agg ((hsh St.first 0).map V).toArray) w := by kernel_rfl
section
variable {Q : Exit → Act → World → Prop} {o : Oper} {a : Act} {w : World} {q : Fk}
theorem st_loadi (x : Operand) (ho : o.op = .load 3 x) {z : Int} (h : (Fk.pi z).f (a.eval x) w) : o.wp Tryd.prog a w (Ends a o.dst w (Fk.eq (.int .i64 z)).f) Q := by
  obtain ⟨b, so, e, hc⟩ := h
  refine st_pure (v := .int .i64 z) ?_ rfl
  have h1 : (isAgg 3).run Tryd.prog w = .ok false w := Tryd.isAgg3' w
  unfold execOp
  rw [ho]
  simp [e, Instr.loadAt, Instr.sureAddr, loadVar, h1, run_load, hc]
theorem st_loadh (x : Operand) (ho : o.op = .load 23 x) {xs : List (BitVec 8)} (h : (Fk.ph xs).f (a.eval x) w) : o.wp Tryd.prog a w (Ends a o.dst w (Fk.eq (.agg (xs.map V).toArray)).f) Q := by
  obtain ⟨b, so, e, hl, hlt, hB⟩ := h
  refine wp_load_mid 23 x ho b so e (xs.map V) _ ?_ Tryd.under23 rfl (by rw [List.length_map, hl]; exact Tryd.size23) ⟨_, rfl, Below.refl _ _, rfl⟩
  intro j v hj
  have := hB.src xs.length j v
  rw [List.take_of_length_le (Nat.le_refl _)] at this
  have h2 := this hj
  rw [Addr.add_mid] at h2
  exact h2
theorem st_idxi (x y : Operand) (ho : o.op = .indexAddr 44 x y) {ds : List Nat} (h : (Fk.ds ds).f (a.eval x) w) (i d : Nat) (hy : a.eval y = .int .i64 (i : Int)) (hi : ds[i]? = some d) : o.wp Tryd.prog a w (Ends a o.dst w (Fk.pi (d : Int)).f) Q := by
  obtain ⟨sp, c, b, so, e, hs⟩ := h
  have hil : i < ds.length := (List.getElem?_eq_some_iff.1 hi).1
  have hp := hs.ptr (by omega)
  subst hp
  refine st_pure (v := .pointer (some ⟨b, so + i, none⟩)) ?_ ⟨b, so + i, rfl, hs.cell i d hi⟩
  have h1 := run_indexAt_slice (P := Tryd.prog) (w := w) 44 ⟨b, so, none⟩ ds.length c .i64 (i : Int) (by rw [Tryd.elem44]; exact Tryd.under44)
  rw [if_pos (by omega), Tryd.elem44, Tryd.sizeOf3] at h1
  simp only [Result.andThen_ok, Int.toNat_natCast, Nat.mul_one, Addr.add_mid] at h1
  unfold execOp
  rw [ho]
  simp [e, hy, h1]
theorem st_idxh (x y : Operand) (ho : o.op = .indexAddr 27 x y) {hs : List (List (BitVec 8))} (h : (Fk.hs hs).f (a.eval x) w) (i : Nat) (xs : List (BitVec 8)) (hy : a.eval y = .int .i64 (i : Int)) (hi : hs[i]? = some xs) : o.wp Tryd.prog a w (Ends a o.dst w (Fk.ph xs).f) Q := by
  obtain ⟨A, C, lb, lo, e, hl⟩ := h
  have hil : i < hs.length := (List.getElem?_eq_some_iff.1 hi).1
  have hp := hl.ptr (by omega)
  subst hp
  obtain ⟨h32, hB⟩ := hl.all i xs hi
  refine st_pure (v := .pointer (some ⟨lb, lo + i * 32, none⟩)) ?_ ⟨lb, lo + i * 32, rfl, h32, hl.lt (by omega), hB⟩
  have h1 := run_indexAt_slice (P := Tryd.prog) (w := w) 27 ⟨lb, lo, none⟩ hs.length C .i64 (i : Int) (by rw [Tryd.elem27]; exact Tryd.under27')
  rw [if_pos (by omega), Tryd.elem27, Tryd.sizeOf23] at h1
  simp only [Result.andThen_ok, Int.toNat_natCast, Addr.add_mid] at h1
  unfold execOp
  rw [ho]
  simp [e, hy, h1]
theorem st_zero23 (ho : o.op = .build 23 #[]) : o.wp Tryd.prog a w (Ends a o.dst w (Fk.eq (.agg ((hsh St.first 0).map V).toArray)).f) Q := by
  refine st_pure (v := .agg ((hsh St.first 0).map V).toArray) ?_ rfl
  have := Tryd.zero23 w
  unfold execOp
  rw [ho]
  simp [this]
theorem st_leni (x : Operand) (ho : o.op = .call { callee := .builtin .len, args := #[x], argTypes := #[44] }) {ds : List Nat} (h : (Fk.ds ds).f (a.eval x) w) : o.wp Tryd.prog a w (Ends a o.dst w (Fk.eq (.int .i64 (ds.length : Int))).f) Q := by
  obtain ⟨sp, c, b, so, e, hs⟩ := h
  refine st_pure (v := .int .i64 (ds.length : Int)) ?_ rfl
  have h1 := run_len_slice (P := Tryd.prog) (w := w) 44 o.type sp ds.length c (by rw [Tryd.elem44]; exact Tryd.under44)
  unfold execOp
  simp [ho, resolve, invoke, builtin, e, h1, goInt]
theorem st_lenh (x : Operand) (ho : o.op = .call { callee := .builtin .len, args := #[x], argTypes := #[27] }) {hs : List (List (BitVec 8))} (h : (Fk.hs hs).f (a.eval x) w) : o.wp Tryd.prog a w (Ends a o.dst w (Fk.eq (.int .i64 (hs.length : Int))).f) Q := by
  obtain ⟨A, C, lb, lo, e, hl⟩ := h
  refine st_pure (v := .int .i64 (hs.length : Int)) ?_ rfl
  have h1 := run_len_slice (P := Tryd.prog) (w := w) 27 o.type A hs.length C (by rw [Tryd.elem27]; exact Tryd.under27')
  unfold execOp
  simp [ho, resolve, invoke, builtin, e, h1, goInt]
theorem st_neqi (t : TypeId) (x y : Operand) (ho : o.op = .binOp .neq t x y t) (k : IntKind) (s u : Int) (hx : a.eval x = .int k s) (hy : a.eval y = .int k u) (b : Bool) (hb : b = decide (s ≠ u)) : o.wp Tryd.prog a w (Ends a o.dst w (Fk.eq (.bool b)).f) Q := by
  refine st_pure (v := .bool b) ?_ rfl
  subst hb
  unfold execOp
  rw [ho]
  simp [hx, hy, eqGuard, binOp, Op.intCmp]
  by_cases h : s = u
  · simp [h]
  · simp [h]
theorem st_lss (t : TypeId) (x y : Operand) (ho : o.op = .binOp .lss t x y t) (k : IntKind) (s u : Int) (hx : a.eval x = .int k s) (hy : a.eval y = .int k u) (b : Bool) (hb : b = decide (s < u)) : o.wp Tryd.prog a w (Ends a o.dst w (Fk.eq (.bool b)).f) Q := by
  refine st_pure (v := .bool b) ?_ rfl
  subst hb
  unfold execOp
  rw [ho]
  simp [hx, hy, eqGuard, binOp, Op.intCmp]
theorem st_gtr (t : TypeId) (x y : Operand) (ho : o.op = .binOp .gtr t x y t) (k : IntKind) (s u : Int) (hx : a.eval x = .int k s) (hy : a.eval y = .int k u) (b : Bool) (hb : b = decide (u < s)) : o.wp Tryd.prog a w (Ends a o.dst w (Fk.eq (.bool b)).f) Q := by
  refine st_pure (v := .bool b) ?_ rfl
  subst hb
  unfold execOp
  rw [ho]
  simp [hx, hy, eqGuard, binOp, Op.intCmp]
theorem st_not (x : Operand) (ho : o.op = .unOp .not 4 x) (s : Bool) (hx : a.eval x = .bool s) : o.wp Tryd.prog a w (Ends a o.dst w (Fk.eq (.bool !s)).f) Q := by
  refine st_pure (v := .bool !s) ?_ rfl
  unfold execOp
  rw [ho]
  simp [hx, Op.unary]
theorem st_eqh (x y : Operand) (ho : o.op = .binOp .eql 23 x y 23) (xs ys : List (BitVec 8)) (hl : xs.length = 32) (hl2 : ys.length = 32) (hx : a.eval x = .agg (xs.map V).toArray) (hy : a.eval y = .agg (ys.map V).toArray) (b : Bool) (hb : b = decide (xs = ys)) : o.wp Tryd.prog a w (Ends a o.dst w (Fk.eq (.bool b)).f) Q := by
  refine st_pure (v := .bool b) ?_ rfl
  subst hb
  have h1 := Tryd.noGuard23 x y (xs.map V).toArray (ys.map V).toArray w
  have h2 := run_equal23 w xs ys hl hl2
  unfold execOp
  rw [ho]
  simp [hx, hy, h1, binOp, Op.equal, Op.maxDepth, h2]
theorem st_neqh (x y : Operand) (ho : o.op = .binOp .neq 23 x y 23) (xs ys : List (BitVec 8)) (hl : xs.length = 32) (hl2 : ys.length = 32) (hx : a.eval x = .agg (xs.map V).toArray) (hy : a.eval y = .agg (ys.map V).toArray) (b : Bool) (hb : b = decide (xs ≠ ys)) : o.wp Tryd.prog a w (Ends a o.dst w (Fk.eq (.bool b)).f) Q := by
  refine st_pure (v := .bool b) ?_ rfl
  subst hb
  have h1 := Tryd.noGuard23n x y (xs.map V).toArray (ys.map V).toArray w
  have h2 := run_equal23 w xs ys hl hl2
  unfold execOp
  rw [ho]
  simp [hx, hy, h1, binOp, Op.equal, Op.maxDepth, h2]
theorem st_eqbb (x y : Operand) (ho : o.op = .binOp .eql 4 x y 4) (s t : Bool) (hx : a.eval x = .bool s) (hy : a.eval y = .bool t) (b : Bool) (hb : b = (s == t)) : o.wp Tryd.prog a w (Ends a o.dst w (Fk.eq (.bool b)).f) Q := by
  refine st_pure (v := .bool b) ?_ rfl
  subst hb
  unfold execOp
  rw [ho]
  have h2 := run_equal_bool (P := Tryd.prog) w 4 s t Tryd.under4
  simp [hx, hy, eqGuard, binOp, h2]
theorem st_ext0 (x : Operand) (ho : o.op = .extract x 0) {u v : Value} (hx : a.eval x = .tuple #[u, v]) (h : q.f u w) : o.wp Tryd.prog a w (Ends a o.dst w q.f) Q := by
  refine st_pure (v := u) ?_ h
  unfold execOp
  rw [ho]
  simp [hx, Instr.extract]
theorem st_ext1 (x : Operand) (ho : o.op = .extract x 1) {u v : Value} (hx : a.eval x = .tuple #[u, v]) (h : q.f v w) : o.wp Tryd.prog a w (Ends a o.dst w q.f) Q := by
  refine st_pure (v := v) ?_ h
  unfold execOp
  rw [ho]
  simp [hx, Instr.extract]
end
end Go.Proofs.YtfhhlkbcoofemaaDoor
