/- Steps over structs in memory: fields, boxes, whole structs; one step of a list by itself; numbers that are shifted and compared. More steps: heads of structs, tuples, lengths; each function is entered as itself. indexes, isKey, Restore. What tag's sum, Leaf, Message, File and Record hand back: the sums of just their bytes. What Node, Chain, Secret and Record hand back: the sums of just their bytes. What mss is made of, plainly; the sums as steps meet them; rows of n hashes. -/
import Derived.Test.YtnanipeapjpkfaaDoorM5
import Derived.Deep.MidRow
import Derived.Test.YtnanipeapjpkfaaDoorM3
namespace Go.Proofs.YtnanipeapjpkfaaDoor
set_option maxRecDepth 100000
open Go.RowKit
/-- Block b holds just these cells. -/
def Ob (w : World) (b : Nat) (T : TypeId) (cs : List Value) : Prop := w.heap[b]? = some (.cells cs.toArray T (0, 0))
theorem Ob.lt {w : World} {b : Nat} {T : TypeId} {cs : List Value} (h : Ob w b T cs) : b < w.heap.size := (Array.getElem?_eq_some_iff.1 h).1
theorem Ob.below {w w' : World} {b : Nat} {T : TypeId} {cs : List Value} (h : Ob w b T cs) (hb : Below w.heap.size w w') : Ob w' b T cs := by
  have := hb.block b h.lt
  unfold Ob at *
  rw [this]; exact h
theorem Ob.only {w w' : World} {b g : Nat} {T : TypeId} {cs : List Value} (h : Ob w b T cs) (hb : Only g w w') (hg : b ≠ g) : Ob w' b T cs := by
  have := hb.block b h.lt hg
  unfold Ob at *
  rw [this]; exact h
theorem Ob.cell {w : World} {b : Nat} {T : TypeId} {cs : List Value} (h : Ob w b T cs) (i : Nat) {v : Value} (hi : cs[i]? = some v) : w.cell? ⟨b, i, none⟩ = some v := by
  unfold Ob at h
  simp [World.cell?, h, hi]
theorem Ob.set {w : World} {b : Nat} {T : TypeId} {cs : List Value} (h : Ob w b T cs) (i : Nat) (v : Value) : Ob (w.setCell ⟨b, i, none⟩ v) b T (cs.set i v) := by
  unfold Ob at *
  simp [World.setCell, Array.getElem?_modify, h]
theorem Ob.alloc (w : World) (T : TypeId) (cs : List Value) : Ob (w.alloc (.cells cs.toArray T)) w.heap.size T cs := heap_alloc_new _ _
theorem Ob.range {w : World} {b : Nat} {T : TypeId} {cs : List Value} (h : Ob w b T cs) (o : Nat) (l : List Value) (hl : ∀ (j : Nat) (v : Value), l[j]? = some v → cs[o + j]? = some v) : w.rangeAt b o l := fun j v hj => h.cell (o + j) (hl j v hj)
theorem Ob.setRow {w : World} {b : Nat} {T : TypeId} {cs : List Value} (h : Ob w b T cs) (ds : List Value) : Ob (w.setRow b ds.toArray) b T ds := setRow_heap _ _ _ _ T (0, 0) h
theorem Ob.setRow_other {w : World} {b g : Nat} {T : TypeId} {cs : List Value} (h : Ob w b T cs) (ds : Array Value) (hne : b ≠ g) : Ob (w.setRow g ds) b T cs := by
  have := (Only.refl g w).setRow ds
  exact h.only this hne
/-- A pointer to a new block with these cells. -/
def Fk.nw (g0 : Nat) (T : TypeId) (cs : List Value) : Fk := .inr (.inl ⟨fun v w => ∃ g, g0 ≤ g ∧ v = .pointer (some ⟨g, 0, none⟩) ∧ Ob w g T cs, by
  rintro v w w' ⟨g, h, e, hv⟩ hb
  exact ⟨g, h, e, hv.below hb⟩⟩)
theorem fk_val {q : Fk} {a : Act} {x : Operand} {u : Value} {w : World} (h : a.eval x = u) (hq : q.f u w) : q.f (a.eval x) w := by rw [h]; exact hq
section
variable {P : Program} {Q : Exit → Act → World → Prop} {o : Oper} {a : Act} {w : World} {q : Fk} {ops : Array Oper} {rest : List Oper}
theorem st_pick_f' (c x y : Operand) (ho : o.op = .pick c x y) (hc : a.eval c = .bool false) (h : q.f (a.eval y) w) : o.wp P a w (Ends a o.dst w q.f) Q :=
  st_pure (v := a.eval y) (by unfold execOp; rw [ho]; simp [hc, asBool]) h
theorem st_field (T f : Nat) (x : Operand) (ho : o.op = .fieldAddr T x f) {p r : Addr} (hx : a.eval x = .pointer (some p)) (hr : (Instr.fieldAt T (.pointer (some p)) f).run P w = .ok (.pointer (some r)) w) : o.wp P a w (Ends a o.dst w (Fk.eq (.pointer (some r))).f) Q := by
  refine st_pure (v := .pointer (some r)) ?_ rfl
  unfold execOp
  rw [ho]
  simp [hx, hr]
theorem st_nil (x : Operand) (ho : o.op = .nilCheck x) {p : Addr} (hx : a.eval x = .pointer (some p)) : o.wp P a w (Ends a o.dst w (Fk.eq (.pointer (some p))).f) Q := by
  refine st_pure (v := .pointer (some p)) ?_ rfl
  unfold execOp
  rw [ho]
  simp [hx]
theorem st_loadc (T : TypeId) (x : Operand) (ho : o.op = .load T x) (h1 : (isAgg T).run P w = .ok false w) {p : Addr} {u : Value} (hx : a.eval x = .pointer (some p)) (hc : w.cell? p = some u) : o.wp P a w (Ends a o.dst w (Fk.eq u).f) Q := by
  refine st_pure (v := u) ?_ rfl
  unfold execOp
  rw [ho]
  simp [hx, Instr.loadAt, Instr.sureAddr, loadVar, h1, run_load, hc]
theorem st_loadm (T : TypeId) (x : Operand) (ho : o.op = .load T x) (b so : Nat) (cs : List Value) {d : TypeDesc} (hu : P.underlying T = some d) (hd : d.isRow = true) (hi : (P.info? T).map (·.size) = some cs.length) (hx : a.eval x = .pointer (some ⟨b, so, none⟩)) (hc : w.rangeAt b so cs) : o.wp P a w (Ends a o.dst w (Fk.eq (.agg cs.toArray)).f) Q :=
  wp_load_mid T x ho b so hx cs _ hc hu hd hi ⟨_, rfl, Below.refl _ _, rfl⟩
theorem st_build (T : TypeId) (ps : Array (Nat × Operand)) (ho : o.op = .build T ps) {u : Value} (hr : (Instr.build T (ps.map fun (i, x) => (i, a.eval x))).run P w = .ok u w) : o.wp P a w (Ends a o.dst w (Fk.eq u).f) Q := by
  refine st_pure (v := u) ?_ rfl
  unfold execOp
  rw [ho]
  simp only [hr, Sem.run_bind, Result.andThen_ok, Sem.run_pure]
theorem st_box (T : TypeId) (x : Operand) (ho : o.op = .box T x) (g0 : Nat) (cs : List Value) (hr : (Instr.box T (a.eval x)).run P w = .ok (.pointer (some ⟨w.heap.size, 0, none⟩)) (w.alloc (.cells cs.toArray T))) (hg : g0 ≤ w.heap.size) : o.wp P a w (Ends a o.dst w (Fk.nw g0 T cs).f) Q := by
  refine st_run (v := .pointer (some ⟨w.heap.size, 0, none⟩)) (w' := w.alloc (.cells cs.toArray T)) ?_ ((Below.refl _ _).alloc (Nat.le_refl _) _) ⟨_, hg, rfl, Ob.alloc _ _ _⟩
  unfold execOp
  rw [ho]
  simp [hr]
theorem st_alloc (T : TypeId) (ho : o.op = .alloc T) (g0 : Nat) (cs : List Value) (hr : (Instr.alloc T true (.tuple #[])).run P w = .ok (.pointer (some ⟨w.heap.size, 0, none⟩)) (w.alloc (.cells cs.toArray T))) (hg : g0 ≤ w.heap.size) : o.wp P a w (Ends a o.dst w (Fk.nw g0 T cs).f) Q := by
  refine st_run (v := .pointer (some ⟨w.heap.size, 0, none⟩)) (w' := w.alloc (.cells cs.toArray T)) ?_ ((Below.refl _ _).alloc (Nat.le_refl _) _) ⟨_, hg, rfl, Ob.alloc _ _ _⟩
  unfold execOp
  rw [ho]
  simp [hr]
theorem st_bin (op : BinOp) (t t2 : TypeId) (x y : Operand) (ho : o.op = .binOp op t x y t2) {u v r : Value} (hx : a.eval x = u) (hy : a.eval y = v) (hr : (do eqGuard op t x y u v; binOp op t u v : Sem Value).run P w = .ok r w) : o.wp P a w (Ends a o.dst w (Fk.eq r).f) Q := by
  refine st_pure (v := r) ?_ rfl
  subst hx hy
  unfold execOp
  rw [ho]
  simp only [Sem.run_bind, hr, Result.andThen_ok, Sem.run_pure]
theorem st_geq (t : TypeId) (x y : Operand) (ho : o.op = .binOp .geq t x y t) (k : IntKind) (s u : Int) (hx : a.eval x = .int k s) (hy : a.eval y = .int k u) (b : Bool) (hb : b = decide (u ≤ s)) : o.wp P a w (Ends a o.dst w (Fk.eq (.bool b)).f) Q := by
  subst hb
  exact st_bin .geq t t x y ho hx hy (by simp [eqGuard, binOp, Op.intCmp])
theorem st_leq (t : TypeId) (x y : Operand) (ho : o.op = .binOp .leq t x y t) (k : IntKind) (s u : Int) (hx : a.eval x = .int k s) (hy : a.eval y = .int k u) (b : Bool) (hb : b = decide (s ≤ u)) : o.wp P a w (Ends a o.dst w (Fk.eq (.bool b)).f) Q := by
  subst hb
  exact st_bin .leq t t x y ho hx hy (by simp [eqGuard, binOp, Op.intCmp])
theorem st_shl (t t2 : TypeId) (x y : Operand) (ho : o.op = .binOp .shl t x y t2) (m k : Nat) (hx : a.eval x = .int .i64 (m : Int)) (hy : a.eval y = .int .i64 (k : Int)) (e : Nat) (he : e = m * 2 ^ k) (hs : e ≤ 1000000) (hk : k ≤ 60) : o.wp P a w (Ends a o.dst w (Fk.eq (.int .i64 (e : Int))).f) Q := by
  refine st_bin .shl t t2 x y ho hx hy ?_
  have hw : IntKind.i64.wrap ((m : Int) * 2 ^ k) = (e : Int) := by
    have : (m : Int) * 2 ^ k = (e : Int) := by rw [he]; simp
    rw [this, IntKind.wrap_i64]; omega
  simp [eqGuard, binOp, hw]
  try omega
theorem st_shr (t t2 : TypeId) (x y : Operand) (ho : o.op = .binOp .shr t x y t2) (m k : Nat) (hx : a.eval x = .int .i64 (m : Int)) (hy : a.eval y = .int .i64 (k : Int)) (e : Nat) (he : e = m / 2 ^ k) (hk : k ≤ 60) : o.wp P a w (Ends a o.dst w (Fk.eq (.int .i64 (e : Int))).f) Q := by
  refine st_bin .shr t t2 x y ho hx hy ?_
  have hw : (m : Int) / 2 ^ k = (e : Int) := by rw [he]; simp
  simp [eqGuard, binOp, hw]
  try omega
/-- One step by itself. -/
theorem wl_one (q : Fk) (hgd : o.guard = none) (d : Nat) (hd : o.dst = some d) (hsz : d < a.tmps.size) (hs : o.wp P a w (Ends a o.dst w q.f) Q)
    (h : ∀ a2 w2, a2.defers = a.defers → a2.tmps.size = a.tmps.size → (∀ t, (t == d) = false → a2.eval (.tmp t) = a.eval (.tmp t)) → q.f (a2.eval (.tmp d)) w2 → Below w.heap.size w w2 → wpList P ops Q rest a2 w2) : wpList P ops Q (o :: rest) a w := by
  unfold wpList
  rw [if_pos (by unfold Region.wanted; rw [hgd])]
  refine .inl (Oper.wp_mono ?_ hs)
  rintro a' w' ⟨v, rfl, hb, hf⟩
  rw [hd]
  refine h _ _ (put_def _ _ _) (put_size _ _ _) (fun t ht => put_eval_other _ _ _ _ (fun e => by subst e; simp at ht)) ?_ hb
  rw [put_eval_same _ _ _ hsz]
  exact hf
/-- A call by itself, whatever it does. -/
theorem wl_call (f : FuncId) (x : Operand) (xs : Array Operand) (ts : Array TypeId) (vs : Array Value) (hgd : o.guard = none) (d : Nat) (hd : o.dst = some d) (hsz : d < a.tmps.size) (ho : o.op = .call { callee := .value x, args := xs, argTypes := ts }) (hx : a.eval x = .func (.func f) #[] #[]) (hv : (xs.toList.map a.eval).toArray = vs)
    (hf : ∀ args w, (callFunc f args).run P w = .ok (.enter f args) w) (R : Value → World → Prop) (hc : Calls P f vs w fun e w' => ∃ v, e = .returned v ∧ R v w')
    (h : ∀ a2 w2, a2.defers = a.defers → a2.tmps.size = a.tmps.size → (∀ t, (t == d) = false → a2.eval (.tmp t) = a.eval (.tmp t)) → R (a2.eval (.tmp d)) w2 → wpList P ops Q rest a2 w2) : wpList P ops Q (o :: rest) a w := by
  have hr : (execOp a.eval o).run P w = .ok (.enter f vs) w := by
    have hv' : xs.map a.eval = vs := by rw [← hv]; apply Array.toList_inj.1; simp
    unfold execOp; rw [ho]
    simp [resolve, hx, Deferred.ofValue, invoke, hv', hf]
  unfold wpList
  rw [if_pos (by unfold Region.wanted; rw [hgd])]
  refine .inl ?_
  unfold Oper.wp; rw [hr]
  refine Calls.mono hc ?_
  rintro e w' ⟨v, rfl, h1⟩
  rw [hd]
  refine h _ _ (put_def _ _ _) (put_size _ _ _) (fun t ht => put_eval_other _ _ _ _ (fun e => by subst e; simp at ht)) ?_
  rw [put_eval_same _ _ _ hsz]
  exact h1
/-- A store of one cell. -/
theorem wl_stc (T : TypeId) (hgd : o.guard = none) (x y : Operand) (ho : o.op = .store T x y) (hd : o.dst = none) (h1 : (sizeOf T).run P w = .ok 1 w) (b i : Nat) (v : Value) (hx : a.eval x = .pointer (some ⟨b, i, none⟩)) (hy : a.eval y = v) (hv : v.oneCell' = true) (hv2 : v.cells = #[v]) (ht : w.there b i 1)
    (h : wpList P ops Q rest a (w.setCell ⟨b, i, none⟩ v)) : wpList P ops Q (o :: rest) a w := by
  unfold wpList
  rw [if_pos (by unfold Region.wanted; rw [hgd])]
  refine .inl ?_
  have hs := run_storeCells_cells (P := P) b i [v] 0 w (fun j hj => by simpa using (ht j (by simpa using hj)).1) (fun j hj => by simpa using (ht j (by simpa using hj)).2) (fun u hu => by rw [List.mem_singleton.1 hu]; exact hv)
  have hr : (execOp a.eval o).run P w = .ok .skip (w.setCell ⟨b, i, none⟩ v) := by
    unfold execOp
    rw [ho]
    simp [hx, hy, Instr.storeAt, Instr.sureAddr, storeVar, h1, hv2]
    rw [hs]
    rfl
  unfold Oper.wp
  rw [hr]
  unfold Oper.upon
  rw [hd]
  exact h
end
end Go.Proofs.YtnanipeapjpkfaaDoor
namespace Go.Proofs.YtnanipeapjpkfaaDoor
set_option maxRecDepth 100000
open Go.RowKit
theorem Tryd.enter3 (args : Array Value) (w : World) : (callFunc 3 args).run Tryd.prog w = .ok (.enter 3 args) w := by kernel_rfl
theorem Tryd.enter4 (args : Array Value) (w : World) : (callFunc 4 args).run Tryd.prog w = .ok (.enter 4 args) w := by kernel_rfl
theorem Tryd.enter5 (args : Array Value) (w : World) : (callFunc 5 args).run Tryd.prog w = .ok (.enter 5 args) w := by kernel_rfl
theorem Tryd.enter6 (args : Array Value) (w : World) : (callFunc 6 args).run Tryd.prog w = .ok (.enter 6 args) w := by kernel_rfl
theorem Tryd.enter7 (args : Array Value) (w : World) : (callFunc 7 args).run Tryd.prog w = .ok (.enter 7 args) w := by kernel_rfl
theorem Tryd.enter8 (args : Array Value) (w : World) : (callFunc 8 args).run Tryd.prog w = .ok (.enter 8 args) w := by kernel_rfl
theorem Tryd.enter9 (args : Array Value) (w : World) : (callFunc 9 args).run Tryd.prog w = .ok (.enter 9 args) w := by kernel_rfl
theorem Tryd.enter10 (args : Array Value) (w : World) : (callFunc 10 args).run Tryd.prog w = .ok (.enter 10 args) w := by kernel_rfl
theorem Tryd.enter11 (args : Array Value) (w : World) : (callFunc 11 args).run Tryd.prog w = .ok (.enter 11 args) w := by kernel_rfl
theorem Tryd.enter12 (args : Array Value) (w : World) : (callFunc 12 args).run Tryd.prog w = .ok (.enter 12 args) w := by kernel_rfl
theorem Tryd.enter13 (args : Array Value) (w : World) : (callFunc 13 args).run Tryd.prog w = .ok (.enter 13 args) w := by kernel_rfl
theorem Tryd.enter14 (args : Array Value) (w : World) : (callFunc 14 args).run Tryd.prog w = .ok (.enter 14 args) w := by kernel_rfl
theorem Tryd.enter15 (args : Array Value) (w : World) : (callFunc 15 args).run Tryd.prog w = .ok (.enter 15 args) w := by kernel_rfl
theorem Tryd.enter17 (args : Array Value) (w : World) : (callFunc 17 args).run Tryd.prog w = .ok (.enter 17 args) w := by kernel_rfl
theorem Tryd.enter19 (args : Array Value) (w : World) : (callFunc 19 args).run Tryd.prog w = .ok (.enter 19 args) w := by kernel_rfl
theorem Tryd.enter20 (args : Array Value) (w : World) : (callFunc 20 args).run Tryd.prog w = .ok (.enter 20 args) w := by kernel_rfl
theorem Tryd.enter21 (args : Array Value) (w : World) : (callFunc 21 args).run Tryd.prog w = .ok (.enter 21 args) w := by kernel_rfl
theorem Tryd.enter24 (args : Array Value) (w : World) : (callFunc 24 args).run Tryd.prog w = .ok (.enter 24 args) w := by kernel_rfl
theorem Tryd.enter25 (args : Array Value) (w : World) : (callFunc 25 args).run Tryd.prog w = .ok (.enter 25 args) w := by kernel_rfl
theorem Tryd.enter26 (args : Array Value) (w : World) : (callFunc 26 args).run Tryd.prog w = .ok (.enter 26 args) w := by kernel_rfl
theorem Tryd.enter27 (args : Array Value) (w : World) : (callFunc 27 args).run Tryd.prog w = .ok (.enter 27 args) w := by kernel_rfl
theorem Tryd.enter28 (args : Array Value) (w : World) : (callFunc 28 args).run Tryd.prog w = .ok (.enter 28 args) w := by kernel_rfl
theorem Tryd.enter29 (args : Array Value) (w : World) : (callFunc 29 args).run Tryd.prog w = .ok (.enter 29 args) w := by kernel_rfl
theorem Tryd.enter30 (args : Array Value) (w : World) : (callFunc 30 args).run Tryd.prog w = .ok (.enter 30 args) w := by kernel_rfl
theorem Tryd.enter31 (args : Array Value) (w : World) : (callFunc 31 args).run Tryd.prog w = .ok (.enter 31 args) w := by kernel_rfl
theorem Tryd.enter32 (args : Array Value) (w : World) : (callFunc 32 args).run Tryd.prog w = .ok (.enter 32 args) w := by kernel_rfl
theorem Tryd.enter33 (args : Array Value) (w : World) : (callFunc 33 args).run Tryd.prog w = .ok (.enter 33 args) w := by kernel_rfl
theorem Tryd.enter34 (args : Array Value) (w : World) : (callFunc 34 args).run Tryd.prog w = .ok (.enter 34 args) w := by kernel_rfl
theorem Tryd.enter35 (args : Array Value) (w : World) : (callFunc 35 args).run Tryd.prog w = .ok (.enter 35 args) w := by kernel_rfl
theorem Tryd.enter38 (args : Array Value) (w : World) : (callFunc 38 args).run Tryd.prog w = .ok (.enter 38 args) w := by kernel_rfl
theorem Tryd.enter39 (args : Array Value) (w : World) : (callFunc 39 args).run Tryd.prog w = .ok (.enter 39 args) w := by kernel_rfl
theorem Tryd.enter40 (args : Array Value) (w : World) : (callFunc 40 args).run Tryd.prog w = .ok (.enter 40 args) w := by kernel_rfl
theorem Tryd.enter41 (args : Array Value) (w : World) : (callFunc 41 args).run Tryd.prog w = .ok (.enter 41 args) w := by kernel_rfl
theorem Tryd.enter47 (args : Array Value) (w : World) : (callFunc 47 args).run Tryd.prog w = .ok (.enter 47 args) w := by kernel_rfl
theorem Tryd.enter50 (args : Array Value) (w : World) : (callFunc 50 args).run Tryd.prog w = .ok (.enter 50 args) w := by kernel_rfl
theorem Tryd.enter51 (args : Array Value) (w : World) : (callFunc 51 args).run Tryd.prog w = .ok (.enter 51 args) w := by kernel_rfl
theorem Tryd.enter53 (args : Array Value) (w : World) : (callFunc 53 args).run Tryd.prog w = .ok (.enter 53 args) w := by kernel_rfl
theorem Tryd.enter54 (args : Array Value) (w : World) : (callFunc 54 args).run Tryd.prog w = .ok (.enter 54 args) w := by kernel_rfl
theorem Tryd.enter55 (args : Array Value) (w : World) : (callFunc 55 args).run Tryd.prog w = .ok (.enter 55 args) w := by kernel_rfl
theorem Tryd.enter56 (args : Array Value) (w : World) : (callFunc 56 args).run Tryd.prog w = .ok (.enter 56 args) w := by kernel_rfl
theorem Tryd.enter57 (args : Array Value) (w : World) : (callFunc 57 args).run Tryd.prog w = .ok (.enter 57 args) w := by kernel_rfl
theorem Tryd.enter58 (args : Array Value) (w : World) : (callFunc 58 args).run Tryd.prog w = .ok (.enter 58 args) w := by kernel_rfl
theorem Tryd.enter59 (args : Array Value) (w : World) : (callFunc 59 args).run Tryd.prog w = .ok (.enter 59 args) w := by kernel_rfl
theorem Tryd.enter60 (args : Array Value) (w : World) : (callFunc 60 args).run Tryd.prog w = .ok (.enter 60 args) w := by kernel_rfl
theorem Tryd.enter61 (args : Array Value) (w : World) : (callFunc 61 args).run Tryd.prog w = .ok (.enter 61 args) w := by kernel_rfl
theorem Tryd.enter62 (args : Array Value) (w : World) : (callFunc 62 args).run Tryd.prog w = .ok (.enter 62 args) w := by kernel_rfl
theorem Tryd.enter63 (args : Array Value) (w : World) : (callFunc 63 args).run Tryd.prog w = .ok (.enter 63 args) w := by kernel_rfl
theorem Tryd.enter68 (args : Array Value) (w : World) : (callFunc 68 args).run Tryd.prog w = .ok (.enter 68 args) w := by kernel_rfl
theorem Tryd.enter69 (args : Array Value) (w : World) : (callFunc 69 args).run Tryd.prog w = .ok (.enter 69 args) w := by kernel_rfl
theorem Tryd.enter70 (args : Array Value) (w : World) : (callFunc 70 args).run Tryd.prog w = .ok (.enter 70 args) w := by kernel_rfl
theorem Tryd.enter71 (args : Array Value) (w : World) : (callFunc 71 args).run Tryd.prog w = .ok (.enter 71 args) w := by kernel_rfl
theorem Tryd.enter72 (args : Array Value) (w : World) : (callFunc 72 args).run Tryd.prog w = .ok (.enter 72 args) w := by kernel_rfl
theorem Tryd.enter73 (args : Array Value) (w : World) : (callFunc 73 args).run Tryd.prog w = .ok (.enter 73 args) w := by kernel_rfl
theorem Tryd.enter74 (args : Array Value) (w : World) : (callFunc 74 args).run Tryd.prog w = .ok (.enter 74 args) w := by kernel_rfl
theorem Tryd.enter75 (args : Array Value) (w : World) : (callFunc 75 args).run Tryd.prog w = .ok (.enter 75 args) w := by kernel_rfl
theorem Tryd.enter77 (args : Array Value) (w : World) : (callFunc 77 args).run Tryd.prog w = .ok (.enter 77 args) w := by kernel_rfl
theorem Tryd.enter78 (args : Array Value) (w : World) : (callFunc 78 args).run Tryd.prog w = .ok (.enter 78 args) w := by kernel_rfl
theorem Tryd.enter79 (args : Array Value) (w : World) : (callFunc 79 args).run Tryd.prog w = .ok (.enter 79 args) w := by kernel_rfl
theorem Tryd.enter80 (args : Array Value) (w : World) : (callFunc 80 args).run Tryd.prog w = .ok (.enter 80 args) w := by kernel_rfl
theorem Tryd.enter81 (args : Array Value) (w : World) : (callFunc 81 args).run Tryd.prog w = .ok (.enter 81 args) w := by kernel_rfl
theorem at_head {xs : List (BitVec 8)} (hx : xs.length = 32) (j : Nat) (l : List Value) : (xs.map V ++ l)[32 + j]? = l[j]? := by
  rw [List.getElem?_append_right (by rw [List.length_map, hx]; omega), List.length_map, hx, Nat.add_sub_cancel_left]
theorem range_of_head {xs : List (BitVec 8)} (hx : xs.length = 32) (j : Nat) (l m : List Value) (hm : (l.drop j).take m.length = m) : ∀ (i : Nat) (v : Value), m[i]? = some v → (xs.map V ++ l)[32 + j + i]? = some v := by
  intro i v hi
  rw [Nat.add_assoc, at_head hx, ← List.getElem?_drop, ← hi]
  conv => rhs; rw [← hm]
  have : i < m.length := by
    rcases Nat.lt_or_ge i m.length with h | h
    · exact h
    · rw [List.getElem?_eq_none h] at hi; cases hi
  rw [List.getElem?_take, if_pos this]
theorem range_of_drop (j : Nat) (l m : List Value) (hm : (l.drop j).take m.length = m) : ∀ (i : Nat) (v : Value), m[i]? = some v → l[j + i]? = some v := by
  intro i v hi
  rw [← List.getElem?_drop, ← hi]
  conv => rhs; rw [← hm]
  have : i < m.length := by
    rcases Nat.lt_or_ge i m.length with h | h
    · exact h
    · rw [List.getElem?_eq_none h] at hi; cases hi
  rw [List.getElem?_take, if_pos this]
theorem Ob.there {w : World} {b : Nat} {T : TypeId} {cs : List Value} (h : Ob w b T cs) (i : Nat) (hi : i < cs.length) : w.there b i 1 := by
  intro j hj
  obtain rfl : j = 0 := by omega
  refine ⟨?_, frozen_of_row w b (i + 0) _ T h⟩
  rw [h.cell (i + 0) (List.getElem?_eq_getElem (by simpa using hi))]
  rfl
theorem Ob.setCell_other {w : World} {b g : Nat} {T : TypeId} {cs : List Value} (h : Ob w b T cs) (i : Nat) (v : Value) (hne : b ≠ g) : Ob (w.setCell ⟨g, i, none⟩ v) b T cs := h.only ((Only.refl g w).setCell i v) hne
theorem below_setCell (B g i : Nat) (w : World) (v : Value) (hB : B ≤ g) : Below B w (w.setCell ⟨g, i, none⟩ v) := (Below.refl _ _).setCell (by exact hB) v
theorem Ob.bytes {w : World} {b : Nat} {T : TypeId} {xs : List (BitVec 8)} {cs : List Value} (h : Ob w b T (xs.map V ++ cs)) : HasB w b 0 xs := fun i hi => by
  rw [h.cell (0 + i) (v := V (xs.getD i 0)) ?_]
  · rfl
  · rw [Nat.zero_add, List.getElem?_append_left (by simpa using hi), List.getElem?_map, List.getElem?_eq_getElem hi]
    simp [List.getD_eq_getElem?_getD, hi]
/-- A tuple of something and a value. -/
def Fk.t2 (q : Fk) (n : Value) : Fk := .inr (.inl ⟨fun v w => ∃ u, v = .tuple #[u, n] ∧ q.f u w, by
  rintro v w w' ⟨u, e, h⟩ hb
  exact ⟨u, e, Fk.mono _ _ _ _ h hb⟩⟩)
section
variable {Q : Exit → Act → World → Prop} {o : Oper} {a : Act} {w : World} {q : Fk}
theorem st_t2a (x : Operand) (ho : o.op = .extract x 0) {n : Value} (h : (Fk.t2 q n).f (a.eval x) w) : o.wp Tryd.prog a w (Ends a o.dst w q.f) Q := by
  obtain ⟨u, e, hu⟩ := h
  exact st_ext0 x ho e hu
theorem st_t2b (x : Operand) (ho : o.op = .extract x 1) {n : Value} (h : (Fk.t2 q n).f (a.eval x) w) : o.wp Tryd.prog a w (Ends a o.dst w (Fk.eq n).f) Q := by
  obtain ⟨u, e, hu⟩ := h
  exact st_ext1 x ho e rfl
theorem st_loadhd (x : Operand) (ho : o.op = .load 23 x) (b : Nat) {T : TypeId} (xs : List (BitVec 8)) {cs : List Value} (hx : a.eval x = .pointer (some ⟨b, 0, none⟩)) (hl : xs.length = 32) (h : Ob w b T (xs.map V ++ cs)) : o.wp Tryd.prog a w (Ends a o.dst w (Fk.eq (.agg (xs.map V).toArray)).f) Q :=
  st_loadh x ho ⟨b, 0, hx, hl, h.lt, h.bytes⟩
theorem Tryd.elem36b : Tryd.prog.elem 36 = 5 := by kernel_rfl
theorem st_lenb (x : Operand) (ho : o.op = .call { callee := .builtin .len, args := #[x], argTypes := #[36] }) {bs : List (BitVec 8)} (h : (Fk.sl bs).f (a.eval x) w) : o.wp Tryd.prog a w (Ends a o.dst w (Fk.eq (.int .i64 (bs.length : Int))).f) Q := by
  obtain ⟨sp, m, c, b, so, e, hs⟩ := h
  refine st_pure (v := .int .i64 (bs.length : Int)) ?_ rfl
  have h1 := run_len_slice (P := Tryd.prog) (w := w) 36 o.type sp m c (by rw [Tryd.elem36b]; exact Tryd.under36)
  rw [hs.len] at h1 e
  unfold execOp
  simp [ho, resolve, invoke, builtin, e, h1, goInt]
end
theorem wl_str {P : Program} {ops : Array Oper} {rest : List Oper} {o : Oper} {a : Act} {w : World} {Q : Exit → Act → World → Prop} (hgd : o.guard = none) (ty : TypeId) (x y : Operand) (ho : o.op = .store ty x y) (hd : o.dst = none) (g : Nat) (cells : Array Value) (hx : a.eval x = .pointer (some ⟨g, 0, none⟩)) (hy : a.eval y = .agg cells)
    (t : TypeId) (old : Array Value) (hg : w.heap[g]? = some (.cells old t (0, 0))) (hi : (P.info? ty).map (·.size) = some cells.size) (hold : old.size = cells.size) (h1 : cells.all (·.oneCell') = true)
    (h : wpList P ops Q rest a (w.setRow g cells)) : wpList P ops Q (o :: rest) a w :=
  wpList_store_row hgd ty x y ho g cells hx hy t old hg hi hold h1 (by rw [hd]; exact h)
theorem ret_two {fn : Func} {t u : Tmp} (h : fn.results = #[.tmp t, .tmp u]) (a : Act) (x y : Value) (ht : a.eval (.tmp t) = x) (hu : a.eval (.tmp u) = y) (P : Program) (w : World) : (results fn a.tmps).run P w = .ok (.tuple #[x, y]) w := by
  have h1 : a.tmps.getD t undef = x := ht
  have h2 : a.tmps.getD u undef = y := hu
  rw [← h1, ← h2]
  simp [results, h]
end Go.Proofs.YtnanipeapjpkfaaDoor
namespace Go.Proofs.YtnanipeapjpkfaaDoor
set_option maxRecDepth 100000
open Go.RowKit
theorem pow_le {k : Nat} (hk : k ≤ 8) : 2 ^ k ≤ 1000000 := Nat.le_trans (Nat.pow_le_pow_right (by omega) hk) (by decide)
theorem fk_nw {f : FuncId} {args : Array Value} {w : World} {g0 : Nat} {T : TypeId} {cs : List Value} {n : Value} (hg : g0 ≤ w.heap.size) (h : Calls Tryd.prog f args w fun e w' => ∃ g, e = .returned (.tuple #[.pointer (some ⟨g, 0, none⟩), n]) ∧ Ob w' g T cs ∧ w.heap.size ≤ g ∧ Below w.heap.size w w') :
    Calls Tryd.prog f args w fun e w' => ∃ u, e = .returned u ∧ (Fk.t2 (.nw g0 T cs) n).f u w' ∧ Below w.heap.size w w' := by
  refine h.mono ?_
  rintro e w' ⟨g, rfl, ho, hl, hb⟩
  exact ⟨_, rfl, ⟨_, rfl, g, Nat.le_trans hg hl, rfl, ho⟩, hb⟩
theorem indexes_any (k : Nat) (hk : k ≤ 8) (w : World) :
    Calls Tryd.prog 35 #[.int .i64 ((k : Nat) : Int)] w fun e w' => e = .returned (.int .i64 ((2 ^ k : Nat) : Int)) ∧ Below w.heap.size w w' := by
  go_enter Tryd.func35, Tryd.ntmps35
  refine code_both (fun f w1 => f.tmps.size = 5 ∧ f.defers = [] ∧ f.eval (.tmp 0) = .int .i64 ((k : Nat) : Int) ∧ Below w.heap.size w (w1)) ⟨rfl, rfl, rfl, Below.refl _ _⟩ ?_
  rintro f0 w0 ⟨sz, df, x0, bl⟩
  have bl0 := bl
  refine wp_seq ?_
  -- R0
  refine wp_all_seq [.eq (.int .i64 0)] (by kernel_rfl) (by kernel_rfl) (by rw [sz]; kernel_rfl) (by kernel_rfl) ⟨fun hw ac u K => ?_, trivial⟩ ?_
  · exact st_assign (.const (.int .i64 0)) rfl rfl
  intro f1 w1 A hb
  replace bl0 := bl
  replace x0 := (A.old 0 rfl).trans x0
  have x2 : f1.eval (.tmp 2) = .int .i64 0 := A.has 0 2 rfl
  replace bl := (bl.trans (Below.mono hb bl.size))
  replace sz := A.size.trans sz
  replace df := A.defs.trans df
  clear A hb
  show Code.wp _ _ _ _ _
  refine wp_seq ?_
  -- R1
  refine wp_all_seq [.eq (.int .i64 ((k : Nat) : Int)), .eq (.int .i64 ((2 ^ k : Nat) : Int)), .eq (.int .i64 ((2 ^ k : Nat) : Int))] (by kernel_rfl) (by kernel_rfl) (by rw [sz]; kernel_rfl) (by kernel_rfl) ⟨fun hw ac u K => ?_, fun hw ac u K => ?_, fun hw ac u K => ?_, trivial⟩ ?_
  · exact st_move (.tmp 0) rfl ((K.old 0 rfl).trans x0)
  · exact st_shl 3 3 (.const (.int .i64 1)) (.tmp 3) rfl (1) (k) rfl (K.dep 0 3 rfl) (2 ^ k) (by simp) (pow_le hk) (by omega)
  · exact st_assign (.tmp 4) rfl (K.dep 1 4 rfl)
  intro f2 w2 A hb
  replace bl0 := bl
  replace x0 := (A.old 0 rfl).trans x0
  clear x2
  have x2 : f2.eval (.tmp 2) = .int .i64 ((2 ^ k : Nat) : Int) := A.has 2 2 rfl
  replace bl := (bl.trans (Below.mono hb bl.size))
  replace sz := A.size.trans sz
  replace df := A.defs.trans df
  clear A hb
  clear x0
  show Code.wp _ _ _ _ _
  refine wp_ret ?_
  repeat (first | with_reducible refine then_ret ?_ | with_reducible refine block_ret ?_)
  exact bodyPost_ret (v := .int .i64 ((2 ^ k : Nat) : Int)) (ret_slot rfl f2 _ x2 _ _) df ⟨rfl, bl⟩
theorem isKey_yes (kind height : Nat) (h1 : 1 ≤ kind) (h2 : kind ≤ 2) (h3 : height ≤ 8) (w : World) :
    Calls Tryd.prog 34 #[.int .i64 ((kind : Nat) : Int), .int .i64 ((height : Nat) : Int)] w fun e w' => e = .returned (.bool true) ∧ Below w.heap.size w w' := by
  go_enter Tryd.func34, Tryd.ntmps34
  refine code_both (fun f w1 => f.tmps.size = 19 ∧ f.defers = [] ∧ f.eval (.tmp 0) = .int .i64 ((kind : Nat) : Int) ∧ f.eval (.tmp 1) = .int .i64 ((height : Nat) : Int) ∧ Below w.heap.size w (w1)) ⟨rfl, rfl, rfl, rfl, Below.refl _ _⟩ ?_
  rintro f0 w0 ⟨sz, df, x0, x1, bl⟩
  have bl0 := bl
  refine wp_seq ?_
  -- R0
  refine wp_all_seq [.eq (.bool false)] (by kernel_rfl) (by kernel_rfl) (by rw [sz]; kernel_rfl) (by kernel_rfl) ⟨fun hw ac u K => ?_, trivial⟩ ?_
  · exact st_assign (.const (.bool false)) rfl rfl
  intro f1 w1 A hb
  replace bl0 := bl
  replace x0 := (A.old 0 rfl).trans x0
  replace x1 := (A.old 1 rfl).trans x1
  have x4 : f1.eval (.tmp 4) = .bool false := A.has 0 4 rfl
  replace bl := (bl.trans (Below.mono hb bl.size))
  replace sz := A.size.trans sz
  replace df := A.defs.trans df
  clear A hb
  show Code.wp _ _ _ _ _
  refine wp_seq ?_
  -- R1
  refine wp_all_seq [.eq (.int .i64 ((kind : Nat) : Int)), .eq (.bool true), .eq (.bool true), .eq (.int .i64 ((kind : Nat) : Int)), .eq (.bool true), .eq (.bool true), .eq (.bool true), .eq (.int .i64 ((height : Nat) : Int)), .eq (.bool true), .eq (.bool true), .eq (.bool true), .eq (.int .i64 ((height : Nat) : Int)), .eq (.bool true), .eq (.bool true), .eq (.bool true)] (by kernel_rfl) (by kernel_rfl) (by rw [sz]; kernel_rfl) (by kernel_rfl) ⟨fun hw ac u K => ?_, fun hw ac u K => ?_, fun hw ac u K => ?_, fun hw ac u K => ?_, fun hw ac u K => ?_, fun hw ac u K => ?_, fun hw ac u K => ?_, fun hw ac u K => ?_, fun hw ac u K => ?_, fun hw ac u K => ?_, fun hw ac u K => ?_, fun hw ac u K => ?_, fun hw ac u K => ?_, fun hw ac u K => ?_, fun hw ac u K => ?_, trivial⟩ ?_
  · exact st_move (.tmp 0) rfl ((K.old 0 rfl).trans x0)
  · exact st_geq 3 (.tmp 5) (.const (.int .i64 1)) rfl .i64 (((kind : Nat) : Int)) (1) (K.dep 0 5 rfl) rfl _ (by first | (simp; done) | (simp; omega))
  · exact st_move (.tmp 6) rfl (K.dep 1 6 rfl)
  · exact st_move (.tmp 0) rfl ((K.old 0 rfl).trans x0)
  · exact st_leq 3 (.tmp 8) (.const (.int .i64 2)) rfl .i64 (((kind : Nat) : Int)) (2) (K.dep 3 8 rfl) rfl _ (by first | (simp; done) | (simp; omega))
  · exact st_pick_t (.tmp 7) (.tmp 9) (.const (.bool false)) rfl (K.dep 2 7 rfl) (K.dep 4 9 rfl)
  · exact st_move (.tmp 10) rfl (K.dep 5 10 rfl)
  · exact st_move (.tmp 1) rfl ((K.old 1 rfl).trans x1)
  · exact st_geq 3 (.tmp 12) (.const (.int .i64 0)) rfl .i64 (((height : Nat) : Int)) (0) (K.dep 7 12 rfl) rfl _ (by first | (simp; done) | (simp; omega))
  · exact st_pick_t (.tmp 11) (.tmp 13) (.const (.bool false)) rfl (K.dep 6 11 rfl) (K.dep 8 13 rfl)
  · exact st_move (.tmp 14) rfl (K.dep 9 14 rfl)
  · exact st_move (.tmp 1) rfl ((K.old 1 rfl).trans x1)
  · exact st_leq 3 (.tmp 16) (.const (.int .i64 8)) rfl .i64 (((height : Nat) : Int)) (8) (K.dep 11 16 rfl) rfl _ (by first | (simp; done) | (simp; omega))
  · exact st_pick_t (.tmp 15) (.tmp 17) (.const (.bool false)) rfl (K.dep 10 15 rfl) (K.dep 12 17 rfl)
  · exact st_assign (.tmp 18) rfl (K.dep 13 18 rfl)
  intro f2 w2 A hb
  replace bl0 := bl
  replace x0 := (A.old 0 rfl).trans x0
  replace x1 := (A.old 1 rfl).trans x1
  clear x4
  have x4 : f2.eval (.tmp 4) = .bool true := A.has 14 4 rfl
  replace bl := (bl.trans (Below.mono hb bl.size))
  replace sz := A.size.trans sz
  replace df := A.defs.trans df
  clear A hb
  clear x0
  clear x1
  show Code.wp _ _ _ _ _
  refine wp_ret ?_
  repeat (first | with_reducible refine then_ret ?_ | with_reducible refine block_ret ?_)
  exact bodyPost_ret (v := .bool true) (ret_slot rfl f2 _ x4 _ _) df ⟨rfl, bl⟩
theorem isKey_no (kind height : Int) (h : kind < 1 ∨ 2 < kind ∨ height < 0 ∨ 8 < height) (w : World) :
    Calls Tryd.prog 34 #[.int .i64 kind, .int .i64 height] w fun e w' => e = .returned (.bool false) ∧ Below w.heap.size w w' := by
  go_enter Tryd.func34, Tryd.ntmps34
  refine code_both (fun f w1 => f.tmps.size = 19 ∧ f.defers = [] ∧ f.eval (.tmp 0) = .int .i64 (kind) ∧ f.eval (.tmp 1) = .int .i64 (height) ∧ Below w.heap.size w (w1)) ⟨rfl, rfl, rfl, rfl, Below.refl _ _⟩ ?_
  rintro f0 w0 ⟨sz, df, x0, x1, bl⟩
  have bl0 := bl
  refine wp_seq ?_
  -- R0
  refine wp_all_seq [.eq (.bool false)] (by kernel_rfl) (by kernel_rfl) (by rw [sz]; kernel_rfl) (by kernel_rfl) ⟨fun hw ac u K => ?_, trivial⟩ ?_
  · exact st_assign (.const (.bool false)) rfl rfl
  intro f1 w1 A hb
  replace bl0 := bl
  replace x0 := (A.old 0 rfl).trans x0
  replace x1 := (A.old 1 rfl).trans x1
  have x4 : f1.eval (.tmp 4) = .bool false := A.has 0 4 rfl
  replace bl := (bl.trans (Below.mono hb bl.size))
  replace sz := A.size.trans sz
  replace df := A.defs.trans df
  clear A hb
  show Code.wp _ _ _ _ _
  refine wp_seq ?_
  have hc : kind < 1 ∨ (1 ≤ kind ∧ 2 < kind) ∨ (1 ≤ kind ∧ kind ≤ 2 ∧ height < 0) ∨ (1 ≤ kind ∧ kind ≤ 2 ∧ 0 ≤ height ∧ 8 < height) := by omega
  rcases hc with hc | hc | hc | hc
  · skip
    -- R1
    refine wp_all_seq [.eq (.int .i64 (kind)), .eq (.bool false), .eq (.bool false), .any, .any, .eq (.bool false), .eq (.bool false), .any, .any, .eq (.bool false), .eq (.bool false), .any, .any, .eq (.bool false), .eq (.bool false)] (by kernel_rfl) (by kernel_rfl) (by rw [sz]; kernel_rfl) (by kernel_rfl) ⟨fun hw ac u K => ?_, fun hw ac u K => ?_, fun hw ac u K => ?_, fun hw ac u K => ?_, fun hw ac u K => ?_, fun hw ac u K => ?_, fun hw ac u K => ?_, fun hw ac u K => ?_, fun hw ac u K => ?_, fun hw ac u K => ?_, fun hw ac u K => ?_, fun hw ac u K => ?_, fun hw ac u K => ?_, fun hw ac u K => ?_, fun hw ac u K => ?_, trivial⟩ ?_
    · exact st_move (.tmp 0) rfl ((K.old 0 rfl).trans x0)
    · exact st_geq 3 (.tmp 5) (.const (.int .i64 1)) rfl .i64 ((kind)) (1) (K.dep 0 5 rfl) rfl _ (by first | (simp; done) | (simp; omega))
    · exact st_move (.tmp 6) rfl (K.dep 1 6 rfl)
    · exact (Bool.false_ne_true hw).elim
    · exact (Bool.false_ne_true hw).elim
    · exact st_pick_f' (.tmp 7) (.tmp 9) (.const (.bool false)) rfl (K.dep 2 7 rfl) rfl
    · exact st_move (.tmp 10) rfl (K.dep 5 10 rfl)
    · exact (Bool.false_ne_true hw).elim
    · exact (Bool.false_ne_true hw).elim
    · exact st_pick_f' (.tmp 11) (.tmp 13) (.const (.bool false)) rfl (K.dep 6 11 rfl) rfl
    · exact st_move (.tmp 14) rfl (K.dep 9 14 rfl)
    · exact (Bool.false_ne_true hw).elim
    · exact (Bool.false_ne_true hw).elim
    · exact st_pick_f' (.tmp 15) (.tmp 17) (.const (.bool false)) rfl (K.dep 10 15 rfl) rfl
    · exact st_assign (.tmp 18) rfl (K.dep 13 18 rfl)
    intro f2 w2 A hb
    replace bl0 := bl
    replace x0 := (A.old 0 rfl).trans x0
    replace x1 := (A.old 1 rfl).trans x1
    clear x4
    have x4 : f2.eval (.tmp 4) = .bool false := A.has 14 4 rfl
    replace bl := (bl.trans (Below.mono hb bl.size))
    replace sz := A.size.trans sz
    replace df := A.defs.trans df
    clear A hb
    clear x0
    clear x1
    show Code.wp _ _ _ _ _
    refine wp_ret ?_
    repeat (first | with_reducible refine then_ret ?_ | with_reducible refine block_ret ?_)
    exact bodyPost_ret (v := .bool false) (ret_slot rfl f2 _ x4 _ _) df ⟨rfl, bl⟩
  · skip
    -- R1
    refine wp_all_seq [.eq (.int .i64 (kind)), .eq (.bool true), .eq (.bool true), .eq (.int .i64 (kind)), .eq (.bool false), .eq (.bool false), .eq (.bool false), .any, .any, .eq (.bool false), .eq (.bool false), .any, .any, .eq (.bool false), .eq (.bool false)] (by kernel_rfl) (by kernel_rfl) (by rw [sz]; kernel_rfl) (by kernel_rfl) ⟨fun hw ac u K => ?_, fun hw ac u K => ?_, fun hw ac u K => ?_, fun hw ac u K => ?_, fun hw ac u K => ?_, fun hw ac u K => ?_, fun hw ac u K => ?_, fun hw ac u K => ?_, fun hw ac u K => ?_, fun hw ac u K => ?_, fun hw ac u K => ?_, fun hw ac u K => ?_, fun hw ac u K => ?_, fun hw ac u K => ?_, fun hw ac u K => ?_, trivial⟩ ?_
    · exact st_move (.tmp 0) rfl ((K.old 0 rfl).trans x0)
    · exact st_geq 3 (.tmp 5) (.const (.int .i64 1)) rfl .i64 ((kind)) (1) (K.dep 0 5 rfl) rfl _ (by first | (simp; done) | (simp; omega))
    · exact st_move (.tmp 6) rfl (K.dep 1 6 rfl)
    · exact st_move (.tmp 0) rfl ((K.old 0 rfl).trans x0)
    · exact st_leq 3 (.tmp 8) (.const (.int .i64 2)) rfl .i64 ((kind)) (2) (K.dep 3 8 rfl) rfl _ (by first | (simp; done) | (simp; omega))
    · exact st_pick_t (.tmp 7) (.tmp 9) (.const (.bool false)) rfl (K.dep 2 7 rfl) (K.dep 4 9 rfl)
    · exact st_move (.tmp 10) rfl (K.dep 5 10 rfl)
    · exact (Bool.false_ne_true hw).elim
    · exact (Bool.false_ne_true hw).elim
    · exact st_pick_f' (.tmp 11) (.tmp 13) (.const (.bool false)) rfl (K.dep 6 11 rfl) rfl
    · exact st_move (.tmp 14) rfl (K.dep 9 14 rfl)
    · exact (Bool.false_ne_true hw).elim
    · exact (Bool.false_ne_true hw).elim
    · exact st_pick_f' (.tmp 15) (.tmp 17) (.const (.bool false)) rfl (K.dep 10 15 rfl) rfl
    · exact st_assign (.tmp 18) rfl (K.dep 13 18 rfl)
    intro f2 w2 A hb
    replace bl0 := bl
    replace x0 := (A.old 0 rfl).trans x0
    replace x1 := (A.old 1 rfl).trans x1
    clear x4
    have x4 : f2.eval (.tmp 4) = .bool false := A.has 14 4 rfl
    replace bl := (bl.trans (Below.mono hb bl.size))
    replace sz := A.size.trans sz
    replace df := A.defs.trans df
    clear A hb
    clear x0
    clear x1
    show Code.wp _ _ _ _ _
    refine wp_ret ?_
    repeat (first | with_reducible refine then_ret ?_ | with_reducible refine block_ret ?_)
    exact bodyPost_ret (v := .bool false) (ret_slot rfl f2 _ x4 _ _) df ⟨rfl, bl⟩
  · skip
    -- R1
    refine wp_all_seq [.eq (.int .i64 (kind)), .eq (.bool true), .eq (.bool true), .eq (.int .i64 (kind)), .eq (.bool true), .eq (.bool true), .eq (.bool true), .eq (.int .i64 (height)), .eq (.bool false), .eq (.bool false), .eq (.bool false), .any, .any, .eq (.bool false), .eq (.bool false)] (by kernel_rfl) (by kernel_rfl) (by rw [sz]; kernel_rfl) (by kernel_rfl) ⟨fun hw ac u K => ?_, fun hw ac u K => ?_, fun hw ac u K => ?_, fun hw ac u K => ?_, fun hw ac u K => ?_, fun hw ac u K => ?_, fun hw ac u K => ?_, fun hw ac u K => ?_, fun hw ac u K => ?_, fun hw ac u K => ?_, fun hw ac u K => ?_, fun hw ac u K => ?_, fun hw ac u K => ?_, fun hw ac u K => ?_, fun hw ac u K => ?_, trivial⟩ ?_
    · exact st_move (.tmp 0) rfl ((K.old 0 rfl).trans x0)
    · exact st_geq 3 (.tmp 5) (.const (.int .i64 1)) rfl .i64 ((kind)) (1) (K.dep 0 5 rfl) rfl _ (by first | (simp; done) | (simp; omega))
    · exact st_move (.tmp 6) rfl (K.dep 1 6 rfl)
    · exact st_move (.tmp 0) rfl ((K.old 0 rfl).trans x0)
    · exact st_leq 3 (.tmp 8) (.const (.int .i64 2)) rfl .i64 ((kind)) (2) (K.dep 3 8 rfl) rfl _ (by first | (simp; done) | (simp; omega))
    · exact st_pick_t (.tmp 7) (.tmp 9) (.const (.bool false)) rfl (K.dep 2 7 rfl) (K.dep 4 9 rfl)
    · exact st_move (.tmp 10) rfl (K.dep 5 10 rfl)
    · exact st_move (.tmp 1) rfl ((K.old 1 rfl).trans x1)
    · exact st_geq 3 (.tmp 12) (.const (.int .i64 0)) rfl .i64 ((height)) (0) (K.dep 7 12 rfl) rfl _ (by first | (simp; done) | (simp; omega))
    · exact st_pick_t (.tmp 11) (.tmp 13) (.const (.bool false)) rfl (K.dep 6 11 rfl) (K.dep 8 13 rfl)
    · exact st_move (.tmp 14) rfl (K.dep 9 14 rfl)
    · exact (Bool.false_ne_true hw).elim
    · exact (Bool.false_ne_true hw).elim
    · exact st_pick_f' (.tmp 15) (.tmp 17) (.const (.bool false)) rfl (K.dep 10 15 rfl) rfl
    · exact st_assign (.tmp 18) rfl (K.dep 13 18 rfl)
    intro f2 w2 A hb
    replace bl0 := bl
    replace x0 := (A.old 0 rfl).trans x0
    replace x1 := (A.old 1 rfl).trans x1
    clear x4
    have x4 : f2.eval (.tmp 4) = .bool false := A.has 14 4 rfl
    replace bl := (bl.trans (Below.mono hb bl.size))
    replace sz := A.size.trans sz
    replace df := A.defs.trans df
    clear A hb
    clear x0
    clear x1
    show Code.wp _ _ _ _ _
    refine wp_ret ?_
    repeat (first | with_reducible refine then_ret ?_ | with_reducible refine block_ret ?_)
    exact bodyPost_ret (v := .bool false) (ret_slot rfl f2 _ x4 _ _) df ⟨rfl, bl⟩
  -- R1
  refine wp_all_seq [.eq (.int .i64 (kind)), .eq (.bool true), .eq (.bool true), .eq (.int .i64 (kind)), .eq (.bool true), .eq (.bool true), .eq (.bool true), .eq (.int .i64 (height)), .eq (.bool true), .eq (.bool true), .eq (.bool true), .eq (.int .i64 (height)), .eq (.bool false), .eq (.bool false), .eq (.bool false)] (by kernel_rfl) (by kernel_rfl) (by rw [sz]; kernel_rfl) (by kernel_rfl) ⟨fun hw ac u K => ?_, fun hw ac u K => ?_, fun hw ac u K => ?_, fun hw ac u K => ?_, fun hw ac u K => ?_, fun hw ac u K => ?_, fun hw ac u K => ?_, fun hw ac u K => ?_, fun hw ac u K => ?_, fun hw ac u K => ?_, fun hw ac u K => ?_, fun hw ac u K => ?_, fun hw ac u K => ?_, fun hw ac u K => ?_, fun hw ac u K => ?_, trivial⟩ ?_
  · exact st_move (.tmp 0) rfl ((K.old 0 rfl).trans x0)
  · exact st_geq 3 (.tmp 5) (.const (.int .i64 1)) rfl .i64 ((kind)) (1) (K.dep 0 5 rfl) rfl _ (by first | (simp; done) | (simp; omega))
  · exact st_move (.tmp 6) rfl (K.dep 1 6 rfl)
  · exact st_move (.tmp 0) rfl ((K.old 0 rfl).trans x0)
  · exact st_leq 3 (.tmp 8) (.const (.int .i64 2)) rfl .i64 ((kind)) (2) (K.dep 3 8 rfl) rfl _ (by first | (simp; done) | (simp; omega))
  · exact st_pick_t (.tmp 7) (.tmp 9) (.const (.bool false)) rfl (K.dep 2 7 rfl) (K.dep 4 9 rfl)
  · exact st_move (.tmp 10) rfl (K.dep 5 10 rfl)
  · exact st_move (.tmp 1) rfl ((K.old 1 rfl).trans x1)
  · exact st_geq 3 (.tmp 12) (.const (.int .i64 0)) rfl .i64 ((height)) (0) (K.dep 7 12 rfl) rfl _ (by first | (simp; done) | (simp; omega))
  · exact st_pick_t (.tmp 11) (.tmp 13) (.const (.bool false)) rfl (K.dep 6 11 rfl) (K.dep 8 13 rfl)
  · exact st_move (.tmp 14) rfl (K.dep 9 14 rfl)
  · exact st_move (.tmp 1) rfl ((K.old 1 rfl).trans x1)
  · exact st_leq 3 (.tmp 16) (.const (.int .i64 8)) rfl .i64 ((height)) (8) (K.dep 11 16 rfl) rfl _ (by first | (simp; done) | (simp; omega))
  · exact st_pick_t (.tmp 15) (.tmp 17) (.const (.bool false)) rfl (K.dep 10 15 rfl) (K.dep 12 17 rfl)
  · exact st_assign (.tmp 18) rfl (K.dep 13 18 rfl)
  intro f2 w2 A hb
  replace bl0 := bl
  replace x0 := (A.old 0 rfl).trans x0
  replace x1 := (A.old 1 rfl).trans x1
  clear x4
  have x4 : f2.eval (.tmp 4) = .bool false := A.has 14 4 rfl
  replace bl := (bl.trans (Below.mono hb bl.size))
  replace sz := A.size.trans sz
  replace df := A.defs.trans df
  clear A hb
  clear x0
  clear x1
  show Code.wp _ _ _ _ _
  refine wp_ret ?_
  repeat (first | with_reducible refine then_ret ?_ | with_reducible refine block_ret ?_)
  exact bodyPost_ret (v := .bool false) (ret_slot rfl f2 _ x4 _ _) df ⟨rfl, bl⟩
theorem Tryd.buildKeyx (x0 x1 x2 x3 x4 x5 x6 x7 x8 x9 x10 x11 x12 x13 x14 x15 x16 x17 x18 x19 x20 x21 x22 x23 x24 x25 x26 x27 x28 x29 x30 x31 : BitVec 8) (p q r : Int) (w : World) : (Instr.build 69 #[(0, .agg ([x0, x1, x2, x3, x4, x5, x6, x7, x8, x9, x10, x11, x12, x13, x14, x15, x16, x17, x18, x19, x20, x21, x22, x23, x24, x25, x26, x27, x28, x29, x30, x31].map V).toArray), (1, .int .i64 p), (2, .int .i64 q), (3, .int .i64 r)]).run Tryd.prog w = .ok (.agg ([x0, x1, x2, x3, x4, x5, x6, x7, x8, x9, x10, x11, x12, x13, x14, x15, x16, x17, x18, x19, x20, x21, x22, x23, x24, x25, x26, x27, x28, x29, x30, x31].map V ++ ([.int .i64 p, .int .i64 q, .int .i64 r] : List Value)).toArray) w := by kernel_rfl
theorem Tryd.buildKey {seed : List (BitVec 8)} (hx : seed.length = 32) (p q r : Int) (w : World) : (Instr.build 69 #[(0, .agg (seed.map V).toArray), (1, .int .i64 p), (2, .int .i64 q), (3, .int .i64 r)]).run Tryd.prog w = .ok (.agg (seed.map V ++ ([.int .i64 p, .int .i64 q, .int .i64 r] : List Value)).toArray) w := by
  match seed, hx with
  | [x0, x1, x2, x3, x4, x5, x6, x7, x8, x9, x10, x11, x12, x13, x14, x15, x16, x17, x18, x19, x20, x21, x22, x23, x24, x25, x26, x27, x28, x29, x30, x31], _ => exact Tryd.buildKeyx x0 x1 x2 x3 x4 x5 x6 x7 x8 x9 x10 x11 x12 x13 x14 x15 x16 x17 x18 x19 x20 x21 x22 x23 x24 x25 x26 x27 x28 x29 x30 x31 p q r w
theorem build_key {seed : List (BitVec 8)} (hx : seed.length = 32) {a : Act} {s k h n : Operand} {p q r : Int} (w : World) (e0 : a.eval s = .agg (seed.map V).toArray) (e1 : a.eval k = .int .i64 p) (e2 : a.eval h = .int .i64 q) (e3 : a.eval n = .int .i64 r) :
    (Instr.build 69 (#[(0, s), (1, k), (2, h), (3, n)].map fun (i, x) => (i, a.eval x))).run Tryd.prog w = .ok (.agg (seed.map V ++ ([.int .i64 p, .int .i64 q, .int .i64 r] : List Value)).toArray) w := by
  have := Tryd.buildKey hx p q r w
  simpa [e0, e1, e2, e3] using this
theorem restore_ok (seed : List (BitVec 8)) (kind height next : Nat) (hx : seed.length = 32) (h1 : 1 ≤ kind) (h2 : kind ≤ 2) (h3 : height ≤ 8) (h4 : next ≤ 2 ^ height) (w : World) :
    Calls Tryd.prog 9 #[.agg (seed.map V).toArray, .int .i64 ((kind : Nat) : Int), .int .i64 ((height : Nat) : Int), .int .i64 ((next : Nat) : Int)] w fun e w' => ∃ g, e = .returned (.tuple #[.pointer (some ⟨g, 0, none⟩), .int .i64 0]) ∧ Ob w' g 69 ((seed).map V ++ ([.int .i64 ((kind : Nat) : Int), .int .i64 ((height : Nat) : Int), .int .i64 ((next : Nat) : Int)] : List Value)) ∧ w.heap.size ≤ g ∧ Below w.heap.size w w' := by
  go_enter Tryd.func9, Tryd.ntmps9
  refine code_both (fun f w1 => f.tmps.size = 30 ∧ f.defers = [] ∧ f.eval (.tmp 0) = .agg ((seed).map V).toArray ∧ f.eval (.tmp 1) = .int .i64 ((kind : Nat) : Int) ∧ f.eval (.tmp 2) = .int .i64 ((height : Nat) : Int) ∧ f.eval (.tmp 3) = .int .i64 ((next : Nat) : Int) ∧ Below w.heap.size w (w1)) ⟨rfl, rfl, rfl, rfl, rfl, rfl, Below.refl _ _⟩ ?_
  rintro f0 w0 ⟨sz, df, x0, x1, x2, x3, bl⟩
  have bl0 := bl
  refine wp_seq ?_
  -- R0
  refine wp_region_seq [] (by kernel_rfl) (by kernel_rfl) (by rw [sz]; kernel_rfl) (by kernel_rfl) trivial ?_
  intro f1 w1 A hb
  replace bl0 := bl
  replace x0 := (A.old 0 rfl).trans x0
  replace x1 := (A.old 1 rfl).trans x1
  replace x2 := (A.old 2 rfl).trans x2
  replace x3 := (A.old 3 rfl).trans x3
  replace bl := (bl.trans (Below.mono hb bl.size))
  replace sz := A.size.trans sz
  replace df := A.defs.trans df
  clear A hb
  refine wl_one (.nw w1.heap.size 23 ((seed).map V)) rfl 4 rfl (by rw [sz]; decide) (st_box 23 (.tmp 0) rfl _ _ (by rw [show _ = _ from x0]; kernel_rfl) (Nat.le_refl _)) ?_
  intro f2 w2 df2 sz2 old2 new2 hb
  replace bl0 := bl
  replace x0 := (old2 0 rfl).trans x0
  replace x1 := (old2 1 rfl).trans x1
  replace x2 := (old2 2 rfl).trans x2
  replace x3 := (old2 3 rfl).trans x3
  have x4 : Fk.f (.nw w1.heap.size 23 ((seed).map V)) (f2.eval (.tmp 4)) w2 := new2
  replace bl := (bl.trans (Below.mono hb bl.size))
  replace sz := sz2.trans sz
  replace df := df2.trans df
  clear df2 sz2 old2 new2 hb
  obtain ⟨g4, hg4, e4, m4⟩ := x4
  have x4 := e4
  clear e4
  have hw4 : w.heap.size ≤ g4 := Nat.le_trans bl0.size hg4
  clear x0
  refine wl_one (.eq (.pointer none)) rfl 8 rfl (by rw [sz]; decide) (st_assign (.const (.pointer none)) rfl rfl) ?_
  intro f3 w3 df2 sz2 old2 new2 hb
  replace bl0 := bl
  replace x1 := (old2 1 rfl).trans x1
  replace x2 := (old2 2 rfl).trans x2
  replace x3 := (old2 3 rfl).trans x3
  replace x4 := (old2 4 rfl).trans x4
  have x8 : f3.eval (.tmp 8) = .pointer none := new2
  have lt_m4 := Ob.lt m4
  replace m4 := Ob.below m4 hb
  replace bl := (bl.trans (Below.mono hb bl.size))
  replace sz := sz2.trans sz
  replace df := df2.trans df
  clear df2 sz2 old2 new2 hb
  refine wl_one (.eq (.int .i64 0)) rfl 9 rfl (by rw [sz]; decide) (st_assign (.const (.int .i64 0)) rfl rfl) ?_
  intro f4 w4 df2 sz2 old2 new2 hb
  replace bl0 := bl
  replace x1 := (old2 1 rfl).trans x1
  replace x2 := (old2 2 rfl).trans x2
  replace x3 := (old2 3 rfl).trans x3
  replace x4 := (old2 4 rfl).trans x4
  replace x8 := (old2 8 rfl).trans x8
  have x9 : f4.eval (.tmp 9) = .int .i64 0 := new2
  have lt_m4 := Ob.lt m4
  replace m4 := Ob.below m4 hb
  replace bl := (bl.trans (Below.mono hb bl.size))
  replace sz := sz2.trans sz
  replace df := df2.trans df
  clear df2 sz2 old2 new2 hb
  refine wpList_nil ?_
  show Code.wp _ _ _ _ _
  refine wp_seq ?_
  refine wp_seq ?_
  -- R1
  refine wp_all_seq [.eq (.int .i64 ((kind : Nat) : Int)), .eq (.int .i64 ((height : Nat) : Int)), .eq (.bool true), .eq (.bool false), .eq (.bool false), .eq (.int .i64 ((next : Nat) : Int)), .eq (.bool false), .eq (.bool false), .eq (.bool false), .eq (.int .i64 ((next : Nat) : Int)), .eq (.int .i64 ((height : Nat) : Int)), .eq (.int .i64 ((2 ^ height : Nat) : Int)), .eq (.bool false), .eq (.bool false)] (by kernel_rfl) (by kernel_rfl) (by rw [sz]; kernel_rfl) (by kernel_rfl) ⟨fun hw ac u K => ?_, fun hw ac u K => ?_, fun hw ac u K => ?_, fun hw ac u K => ?_, fun hw ac u K => ?_, fun hw ac u K => ?_, fun hw ac u K => ?_, fun hw ac u K => ?_, fun hw ac u K => ?_, fun hw ac u K => ?_, fun hw ac u K => ?_, fun hw ac u K => ?_, fun hw ac u K => ?_, fun hw ac u K => ?_, trivial⟩ ?_
  · exact st_move (.tmp 1) rfl ((K.old 1 rfl).trans x1)
  · exact st_move (.tmp 2) rfl ((K.old 2 rfl).trans x2)
  · exact st_call 34 (.func 34) _ _ #[.int .i64 ((kind : Nat) : Int), .int .i64 ((height : Nat) : Int)] rfl rfl (arg2 (K.dep 0 10 rfl) (K.dep 1 11 rfl)) Tryd.enter34 (fk_of (isKey_yes kind height h1 h2 h3 _))
  · exact st_not (.tmp 12) rfl true (K.dep 2 12 rfl)
  · exact st_move (.tmp 13) rfl (K.dep 3 13 rfl)
  · exact st_move (.tmp 3) rfl ((K.old 3 rfl).trans x3)
  · exact st_lss 3 (.tmp 15) (.const (.int .i64 0)) rfl .i64 (((next : Nat) : Int)) (0) (K.dep 5 15 rfl) rfl _ (by first | (simp; done) | (simp; omega))
  · exact st_pick_f' (.tmp 14) (.const (.bool true)) (.tmp 16) rfl (K.dep 4 14 rfl) (K.dep 6 16 rfl)
  · exact st_move (.tmp 17) rfl (K.dep 7 17 rfl)
  · exact st_move (.tmp 3) rfl ((K.old 3 rfl).trans x3)
  · exact st_move (.tmp 2) rfl ((K.old 2 rfl).trans x2)
  · exact st_call 35 (.func 35) _ _ #[.int .i64 ((height : Nat) : Int)] rfl rfl (one_arg (K.dep 10 20 rfl)) Tryd.enter35 (fk_of (indexes_any height h3 _))
  · exact st_gtr 3 (.tmp 19) (.tmp 21) rfl .i64 (((next : Nat) : Int)) (((2 ^ height : Nat) : Int)) (K.dep 9 19 rfl) (K.dep 11 21 rfl) _ (by rw [eq_comm, decide_eq_false_iff_not]; omega)
  · exact st_pick_f' (.tmp 18) (.const (.bool true)) (.tmp 22) rfl (K.dep 8 18 rfl) (K.dep 12 22 rfl)
  intro f5 w5 A hb
  replace bl0 := bl
  replace x1 := (A.old 1 rfl).trans x1
  replace x2 := (A.old 2 rfl).trans x2
  replace x3 := (A.old 3 rfl).trans x3
  replace x4 := (A.old 4 rfl).trans x4
  replace x8 := (A.old 8 rfl).trans x8
  replace x9 := (A.old 9 rfl).trans x9
  have x23 : f5.eval (.tmp 23) = .bool false := A.has 13 23 rfl
  have lt_m4 := Ob.lt m4
  replace m4 := Ob.below m4 hb
  replace bl := (bl.trans (Below.mono hb bl.size))
  replace sz := A.size.trans sz
  replace df := A.defs.trans df
  clear A hb
  show Code.wp _ _ _ _ _
  refine wp_cond_false x23 ?_
  refine wp_skip ?_
  show Code.wp _ _ _ _ _
  refine wp_seq ?_
  -- R3
  refine wp_region_seq [.eq (.agg ((seed).map V).toArray), .eq (.int .i64 ((kind : Nat) : Int)), .eq (.int .i64 ((height : Nat) : Int)), .eq (.int .i64 ((next : Nat) : Int))] (by kernel_rfl) (by kernel_rfl) (by rw [sz]; kernel_rfl) (by kernel_rfl) ⟨fun hw ac u K => ?_, fun hw ac u K => ?_, fun hw ac u K => ?_, fun hw ac u K => ?_, trivial⟩ ?_
  · exact st_load23 (.tmp 4) rfl (g4) (seed) ((K.old 4 rfl).trans x4) hx (Ob.below m4 K.grow)
  · exact st_move (.tmp 1) rfl ((K.old 1 rfl).trans x1)
  · exact st_move (.tmp 2) rfl ((K.old 2 rfl).trans x2)
  · exact st_move (.tmp 3) rfl ((K.old 3 rfl).trans x3)
  intro f6 w6 A hb
  replace bl0 := bl
  replace x1 := (A.old 1 rfl).trans x1
  replace x2 := (A.old 2 rfl).trans x2
  replace x3 := (A.old 3 rfl).trans x3
  replace x4 := (A.old 4 rfl).trans x4
  replace x8 := (A.old 8 rfl).trans x8
  replace x9 := (A.old 9 rfl).trans x9
  replace x23 := (A.old 23 rfl).trans x23
  have x24 : f6.eval (.tmp 24) = .agg ((seed).map V).toArray := A.has 0 24 rfl
  have x25 : f6.eval (.tmp 25) = .int .i64 ((kind : Nat) : Int) := A.has 1 25 rfl
  have x26 : f6.eval (.tmp 26) = .int .i64 ((height : Nat) : Int) := A.has 2 26 rfl
  have x27 : f6.eval (.tmp 27) = .int .i64 ((next : Nat) : Int) := A.has 3 27 rfl
  have lt_m4 := Ob.lt m4
  replace m4 := Ob.below m4 hb
  replace bl := (bl.trans (Below.mono hb bl.size))
  replace sz := A.size.trans sz
  replace df := A.defs.trans df
  clear A hb
  clear x4
  refine wl_one (.eq (.agg ((seed).map V ++ ([.int .i64 ((kind : Nat) : Int), .int .i64 ((height : Nat) : Int), .int .i64 ((next : Nat) : Int)] : List Value)).toArray)) rfl 28 rfl (by rw [sz]; decide) (st_build 69 _ rfl (build_key hx _ x24 x25 x26 x27)) ?_
  intro f7 w7 df2 sz2 old2 new2 hb
  replace bl0 := bl
  replace x1 := (old2 1 rfl).trans x1
  replace x2 := (old2 2 rfl).trans x2
  replace x3 := (old2 3 rfl).trans x3
  replace x8 := (old2 8 rfl).trans x8
  replace x9 := (old2 9 rfl).trans x9
  replace x23 := (old2 23 rfl).trans x23
  replace x24 := (old2 24 rfl).trans x24
  replace x25 := (old2 25 rfl).trans x25
  replace x26 := (old2 26 rfl).trans x26
  replace x27 := (old2 27 rfl).trans x27
  have x28 : f7.eval (.tmp 28) = .agg ((seed).map V ++ ([.int .i64 ((kind : Nat) : Int), .int .i64 ((height : Nat) : Int), .int .i64 ((next : Nat) : Int)] : List Value)).toArray := new2
  have lt_m4 := Ob.lt m4
  replace m4 := Ob.below m4 hb
  replace bl := (bl.trans (Below.mono hb bl.size))
  replace sz := sz2.trans sz
  replace df := df2.trans df
  clear df2 sz2 old2 new2 hb
  clear x24
  clear x25
  clear x26
  clear x27
  refine wl_one (.nw w7.heap.size 69 ((seed).map V ++ ([.int .i64 ((kind : Nat) : Int), .int .i64 ((height : Nat) : Int), .int .i64 ((next : Nat) : Int)] : List Value))) rfl 29 rfl (by rw [sz]; decide) (st_box 69 (.tmp 28) rfl _ _ (by rw [show _ = _ from x28]; kernel_rfl) (Nat.le_refl _)) ?_
  intro f8 w8 df2 sz2 old2 new2 hb
  replace bl0 := bl
  replace x1 := (old2 1 rfl).trans x1
  replace x2 := (old2 2 rfl).trans x2
  replace x3 := (old2 3 rfl).trans x3
  replace x8 := (old2 8 rfl).trans x8
  replace x9 := (old2 9 rfl).trans x9
  replace x23 := (old2 23 rfl).trans x23
  replace x28 := (old2 28 rfl).trans x28
  have x29 : Fk.f (.nw w7.heap.size 69 ((seed).map V ++ ([.int .i64 ((kind : Nat) : Int), .int .i64 ((height : Nat) : Int), .int .i64 ((next : Nat) : Int)] : List Value))) (f8.eval (.tmp 29)) w8 := new2
  have lt_m4 := Ob.lt m4
  replace m4 := Ob.below m4 hb
  replace bl := (bl.trans (Below.mono hb bl.size))
  replace sz := sz2.trans sz
  replace df := df2.trans df
  clear df2 sz2 old2 new2 hb
  obtain ⟨g29, hg29, e29, m29⟩ := x29
  have x29 := e29
  clear e29
  have nm4_29 : g4 ≠ g29 := Nat.ne_of_lt (Nat.lt_of_lt_of_le lt_m4 hg29)
  have hw29 : w.heap.size ≤ g29 := Nat.le_trans bl0.size hg29
  clear x28
  refine wl_one (.eq (.pointer (some ⟨g29, 0, none⟩))) rfl 8 rfl (by rw [sz]; decide) (st_assign (.tmp 29) rfl x29) ?_
  intro f9 w9 df2 sz2 old2 new2 hb
  replace bl0 := bl
  replace x1 := (old2 1 rfl).trans x1
  replace x2 := (old2 2 rfl).trans x2
  replace x3 := (old2 3 rfl).trans x3
  clear x8
  replace x9 := (old2 9 rfl).trans x9
  replace x23 := (old2 23 rfl).trans x23
  replace x29 := (old2 29 rfl).trans x29
  have x8 : f9.eval (.tmp 8) = .pointer (some ⟨g29, 0, none⟩) := new2
  have lt_m4 := Ob.lt m4
  replace m4 := Ob.below m4 hb
  have lt_m29 := Ob.lt m29
  replace m29 := Ob.below m29 hb
  replace bl := (bl.trans (Below.mono hb bl.size))
  replace sz := sz2.trans sz
  replace df := df2.trans df
  clear df2 sz2 old2 new2 hb
  clear x29
  refine wl_one (.eq (.int .i64 0)) rfl 9 rfl (by rw [sz]; decide) (st_assign (.const (.int .i64 0)) rfl rfl) ?_
  intro f10 w10 df2 sz2 old2 new2 hb
  replace bl0 := bl
  replace x1 := (old2 1 rfl).trans x1
  replace x2 := (old2 2 rfl).trans x2
  replace x3 := (old2 3 rfl).trans x3
  clear x9
  replace x23 := (old2 23 rfl).trans x23
  replace x8 := (old2 8 rfl).trans x8
  have x9 : f10.eval (.tmp 9) = .int .i64 0 := new2
  have lt_m4 := Ob.lt m4
  replace m4 := Ob.below m4 hb
  have lt_m29 := Ob.lt m29
  replace m29 := Ob.below m29 hb
  replace bl := (bl.trans (Below.mono hb bl.size))
  replace sz := sz2.trans sz
  replace df := df2.trans df
  clear df2 sz2 old2 new2 hb
  refine wpList_nil ?_
  show Code.wp _ _ _ _ _
  refine wp_ret ?_
  repeat (first | with_reducible refine then_ret ?_ | with_reducible refine block_ret ?_)
  exact bodyPost_ret (v := .tuple #[.pointer (some ⟨g29, 0, none⟩), .int .i64 0]) (ret_two rfl f10 _ _ x8 x9 _ _) df ⟨g29, rfl, m29, hw29, bl⟩
end Go.Proofs.YtnanipeapjpkfaaDoor
namespace Go.Proofs.YtnanipeapjpkfaaDoor
set_option maxRecDepth 100000
open Go.RowKit
set_option maxHeartbeats 400000 in
theorem leaf_any (b o : Nat) (a : Option Addr) (n c : Nat) (bs : List (BitVec 8)) (w : World) (hs : Sl w a n c bs b o) (hT : bs.length ≤ 900000) (hK : HasK w 0) (h0 : 0 < w.heap.size) :
    Calls Tryd.prog 24 #[.slice a n c] w fun e w' => e = .returned (.agg ((shaOf (kb 0 :: bs)).map V).toArray) ∧ Below w.heap.size w w' := by
  have hs' : Box (Sl w a n c bs b o) := ⟨hs⟩
  clear hs
  have hl : Box (((shaOf (kb 0 :: bs)).map V).toArray.size = 32) := ⟨by simp [shaOf_len]⟩
  obtain ⟨hh, hS⟩ : ∃ hh, Box (shaOf (kb 0 :: bs) = hh) := ⟨_, ⟨rfl⟩⟩
  rw [hS.out] at hl ⊢
  go_enter Tryd.func24, Tryd.ntmps24
  go_upto_region 1 with fail
  refine code_any (fun w1 => HasV w1 w.heap.size 23 (hsh St.first 0) ∧ Below w.heap.size w w1) ?_ ?_
  · exact ⟨heap_alloc_new _ _, (Below.refl _ _).alloc (Nat.le_refl _) _⟩
  rintro w1 ⟨hv1, hb1⟩
  go_wp2_with fail
  have hba : ∀ ob, Below w1.heap.size w1 (w1.alloc ob) := fun ob => (Below.refl _ _).alloc (Nat.le_refl _) _
  refine (tsum_any 0 _ 1 1 w1.heap.size 0 [⟨a, n, c, bs, b, o⟩] _ rfl (fun _ => rfl) (ls_new w1 36 [⟨a, n, c, bs, b, o⟩] (.cons (Pt.ok_below (p := ⟨a, n, c, bs, b, o⟩) hs'.out hb1) .nil)) (by simpa [cat] using hT) (by omega) ((hK.below hb1 h0).below (hba _) (by have := hb1.size; omega)) (by simp)).mono ?_
  rintro e w4 ⟨rfl, hb4⟩
  have hb5 := (hba _).trans (hb4.mono (by simp))
  have hv5 : w4.heap[w.heap.size]? = some (.cells ((hsh St.first 0).map V).toArray 23 (0, 0)) := hv1.below hb5 hv1.lt
  have hb6 : Below w.heap.size w w4 := hb1.trans (hb5.mono hb1.size)
  clear hv1 hb1 hb4 hb5 hs' hba
  rw [cat_one]
  rw [hS.out]
  go_wp2_with (refine wpList_store_row rfl 23 (.tmp 2) (.tmp 5) rfl w.heap.size (hh.map V).toArray rfl rfl 23 _ hv5 (by rw [hl.out]; exact Tryd.size23) (by rw [hl.out]; rfl) (V_all _) ?_)
  refine bodyPost_ret (v := .agg (hh.map V).toArray) ?_ rfl ⟨rfl, ?_⟩
  · exact results_cell_row (P := Tryd.prog) (fn := Tryd.f24) (p := 2) (ty := 23) rfl _ _ w.heap.size 23 _ (0, 0) _ rfl (setRow_heap _ _ _ _ 23 (0, 0) hv5) Tryd.under23 rfl (by rw [hl.out]; exact Tryd.size23)
  · exact hb6.trans (below_setRow _ _ _ _ (Nat.le_refl _))
set_option maxHeartbeats 400000 in
theorem message_any (b o : Nat) (a : Option Addr) (n c : Nat) (bs : List (BitVec 8)) (w : World) (hs : Sl w a n c bs b o) (hT : bs.length ≤ 900000) (hK : HasK w 0) (h0 : 0 < w.heap.size) :
    Calls Tryd.prog 17 #[.slice a n c] w fun e w' => e = .returned (.agg ((shaOf (kb 5 :: bs)).map V).toArray) ∧ Below w.heap.size w w' := by
  have hs' : Box (Sl w a n c bs b o) := ⟨hs⟩
  clear hs
  have hl : Box (((shaOf (kb 5 :: bs)).map V).toArray.size = 32) := ⟨by simp [shaOf_len]⟩
  obtain ⟨hh, hS⟩ : ∃ hh, Box (shaOf (kb 5 :: bs) = hh) := ⟨_, ⟨rfl⟩⟩
  rw [hS.out] at hl ⊢
  go_enter Tryd.func17, Tryd.ntmps17
  go_upto_region 1 with fail
  refine code_any (fun w1 => HasV w1 w.heap.size 23 (hsh St.first 0) ∧ Below w.heap.size w w1) ?_ ?_
  · exact ⟨heap_alloc_new _ _, (Below.refl _ _).alloc (Nat.le_refl _) _⟩
  rintro w1 ⟨hv1, hb1⟩
  go_wp2_with fail
  have hba : ∀ ob, Below w1.heap.size w1 (w1.alloc ob) := fun ob => (Below.refl _ _).alloc (Nat.le_refl _) _
  refine (tsum_any 5 _ 1 1 w1.heap.size 0 [⟨a, n, c, bs, b, o⟩] _ rfl (fun _ => rfl) (ls_new w1 36 [⟨a, n, c, bs, b, o⟩] (.cons (Pt.ok_below (p := ⟨a, n, c, bs, b, o⟩) hs'.out hb1) .nil)) (by simpa [cat] using hT) (by omega) ((hK.below hb1 h0).below (hba _) (by have := hb1.size; omega)) (by simp)).mono ?_
  rintro e w4 ⟨rfl, hb4⟩
  have hb5 := (hba _).trans (hb4.mono (by simp))
  have hv5 : w4.heap[w.heap.size]? = some (.cells ((hsh St.first 0).map V).toArray 23 (0, 0)) := hv1.below hb5 hv1.lt
  have hb6 : Below w.heap.size w w4 := hb1.trans (hb5.mono hb1.size)
  clear hv1 hb1 hb4 hb5 hs' hba
  rw [cat_one]
  rw [hS.out]
  go_wp2_with (refine wpList_store_row rfl 23 (.tmp 2) (.tmp 5) rfl w.heap.size (hh.map V).toArray rfl rfl 23 _ hv5 (by rw [hl.out]; exact Tryd.size23) (by rw [hl.out]; rfl) (V_all _) ?_)
  refine bodyPost_ret (v := .agg (hh.map V).toArray) ?_ rfl ⟨rfl, ?_⟩
  · exact results_cell_row (P := Tryd.prog) (fn := Tryd.f17) (p := 2) (ty := 23) rfl _ _ w.heap.size 23 _ (0, 0) _ rfl (setRow_heap _ _ _ _ 23 (0, 0) hv5) Tryd.under23 rfl (by rw [hl.out]; exact Tryd.size23)
  · exact hb6.trans (below_setRow _ _ _ _ (Nat.le_refl _))
end Go.Proofs.YtnanipeapjpkfaaDoor
namespace Go.Proofs.YtnanipeapjpkfaaDoor
set_option maxRecDepth 100000
open Go.RowKit
set_option maxHeartbeats 400000 in
theorem node_any (xs ys : List (BitVec 8)) (w : World) (hx : xs.length = 32) (hy : ys.length = 32) (hK : Tab w) :
    Calls Tryd.prog 26 #[.agg (xs.map V).toArray, .agg (ys.map V).toArray] w fun e w' => e = .returned (.agg ((shaOf (kb 1 :: (xs ++ ys))).map V).toArray) ∧ Below w.heap.size w w' := by
  have hl : Box (((shaOf (kb 1 :: (xs ++ ys))).map V).toArray.size = 32) := ⟨by simp [shaOf_len]⟩
  obtain ⟨hh, hS⟩ : ∃ hh, Box (shaOf (kb 1 :: (xs ++ ys)) = hh) := ⟨_, ⟨rfl⟩⟩
  rw [hS.out] at hl ⊢
  go_enter Tryd.func26, Tryd.ntmps26
  go_upto_region 1 with fail
  refine code_any (fun w1 => HasV w1 w.heap.size 23 xs ∧ HasV w1 (w.heap.size + 1) 23 ys ∧ HasV w1 (w.heap.size + 1 + 1) 23 (hsh St.first 0) ∧ Below w.heap.size w w1) ?_ ?_
  · refine ⟨?_, ?_, heap_alloc3_new _ _ _ _, (((Below.refl _ _).alloc (Nat.le_refl _) _).alloc (by simp) _).alloc (by simp; omega) _⟩
    · exact HasV.alloc (heap_alloc2_old _ _ _) _
    · exact HasV.alloc (heap_alloc2_new _ _ _) _
  rintro w1 ⟨hv1, hv2, hv3, hb1⟩
  have hT1 : Tab w1 := hK.below hb1
  refine wp_region_end [.sl xs, .sl ys, .ls 2 (xs ++ ys), .eq (.agg (hh.map V).toArray)] Tryd.mixed (by kernel_rfl) (by kernel_rfl) (by kernel_rfl) (by kernel_rfl) ⟨fun _ a w' K => ?_, fun _ a w' K => ?_, fun _ a w' K => ?_, fun _ a w' K => ?_, trivial⟩ ?_
  · exact st_slice23 (.tmp 2) rfl _ _ xs (K.old 2 rfl) hx (hv1.below K.grow hv1.lt).lt (hv1.below K.grow hv1.lt).bytes
  · exact st_slice23 (.tmp 3) rfl _ _ ys (K.old 3 rfl) hy (hv2.below K.grow hv2.lt).lt (hv2.below K.grow hv2.lt).bytes
  · exact st_build2 (.tmp 5) (.tmp 6) rfl (K.dep 0 5 rfl) (K.dep 1 6 rfl)
  · rw [← hS.out]
    exact st_call 45 (.func 45) _ _ #[.int .i64 1, a.eval (.tmp 7)] rfl rfl rfl Tryd.enter45 (fk_tsum 1 (by simp; omega) (by omega) (hT1.below K.grow) (K.dep 2 7 rfl))
  · intro af w4 fin hb4
    have e3 : af.eval (.tmp 8) = .agg (hh.map V).toArray := fin.has 3 8 rfl
    have hv5 : w4.heap[w.heap.size + 1 + 1]? = some (.cells ((hsh St.first 0).map V).toArray 23 (0, 0)) := hv3.below hb4 hv3.lt
    have hb6 : Below w.heap.size w w4 := hb1.trans (hb4.mono hb1.size)
    refine wpList_store_row rfl 23 (.tmp 4) (.tmp 8) rfl (w.heap.size + 1 + 1) (hh.map V).toArray (fin.old 4 rfl) e3 23 _ hv5 (by rw [hl.out]; exact Tryd.size23) (by rw [hl.out]; rfl) (V_all _) ?_
    go_wp2
    refine bodyPost_ret (v := .agg (hh.map V).toArray) ?_ fin.defs ⟨rfl, ?_⟩
    · exact results_cell_row (P := Tryd.prog) (fn := Tryd.f26) (p := 4) (ty := 23) rfl _ _ (w.heap.size + 1 + 1) 23 _ (0, 0) _ (fin.old 4 rfl) (setRow_heap _ _ _ _ 23 (0, 0) hv5) Tryd.under23 rfl (by rw [hl.out]; exact Tryd.size23)
    · exact hb6.trans (below_setRow _ _ _ _ (by omega))
end Go.Proofs.YtnanipeapjpkfaaDoor
namespace Go.Proofs.YtnanipeapjpkfaaDoor
set_option maxRecDepth 100000
open Go.RowKit
/-- The sum of a leaf, of a node, of a message. -/
def lf (bs : List (BitVec 8)) : List (BitVec 8) := shaOf (kb 0 :: bs)
def nd (xs ys : List (BitVec 8)) : List (BitVec 8) := shaOf (kb 1 :: (xs ++ ys))
def ms (bs : List (BitVec 8)) : List (BitVec 8) := shaOf (kb 5 :: bs)
theorem lf_len (bs : List (BitVec 8)) : (lf bs).length = 32 := shaOf_len _
theorem nd_len (xs ys : List (BitVec 8)) : (nd xs ys).length = 32 := shaOf_len _
theorem ms_len (bs : List (BitVec 8)) : (ms bs).length = 32 := shaOf_len _
theorem fk_leaf {bs : List (BitVec 8)} {v : Value} {w : World} (hT : bs.length ≤ 900000) (hK : Tab w) (h : (Fk.sl bs).f v w) {y : List (BitVec 8)} (hy : Box (lf bs = y)) :
    Calls Tryd.prog 24 #[v] w fun e w' => ∃ u, e = .returned u ∧ (Fk.eq (.agg (y.map V).toArray)).f u w' ∧ Below w.heap.size w w' := by
  obtain ⟨sp, m, c, b, o, rfl, hs⟩ := h
  rw [← hy.out]
  exact fk_of (leaf_any b o sp m c bs w hs hT hK.K hK.pos)
theorem fk_message {bs : List (BitVec 8)} {v : Value} {w : World} (hT : bs.length ≤ 900000) (hK : Tab w) (h : (Fk.sl bs).f v w) {y : List (BitVec 8)} (hy : Box (ms bs = y)) :
    Calls Tryd.prog 17 #[v] w fun e w' => ∃ u, e = .returned u ∧ (Fk.eq (.agg (y.map V).toArray)).f u w' ∧ Below w.heap.size w w' := by
  obtain ⟨sp, m, c, b, o, rfl, hs⟩ := h
  rw [← hy.out]
  exact fk_of (message_any b o sp m c bs w hs hT hK.K hK.pos)
theorem fk_node {xs ys : List (BitVec 8)} {w : World} (hx : xs.length = 32) (hl : ys.length = 32) (hK : Tab w) {y : List (BitVec 8)} (hy : Box (nd xs ys = y)) :
    Calls Tryd.prog 26 #[.agg (xs.map V).toArray, .agg (ys.map V).toArray] w fun e w' => ∃ u, e = .returned u ∧ (Fk.eq (.agg (y.map V).toArray)).f u w' ∧ Below w.heap.size w w' := by
  rw [← hy.out]
  exact fk_of (node_any xs ys w hx hl hK)
/-- The public key of a number, by its kind; its leaf. -/
def pk (seed : List (BitVec 8)) (kind i : Nat) : List (BitVec 8) := if kind = 1 then pub (all67 (endOf seed i)) else pub (all512 (edOf seed i))
theorem pk_len (seed : List (BitVec 8)) (kind i : Nat) : (pk seed kind i).length = 32 := by
  unfold pk
  split <;> exact pub_len _
theorem pk_one {seed : List (BitVec 8)} {kind i : Nat} {p : List (BitVec 8)} (hk : kind = 1) (h : Box (pk seed kind i = p)) : Box (pub (all67 (endOf seed i)) = p) := ⟨by rw [← h.out]; unfold pk; rw [if_pos hk]⟩
theorem pk_two {seed : List (BitVec 8)} {kind i : Nat} {p : List (BitVec 8)} (hk : kind = 2) (h : Box (pk seed kind i = p)) : Box (pub (all512 (edOf seed i)) = p) := ⟨by rw [← h.out]; unfold pk; rw [if_neg (by omega)]⟩
def lv (seed : List (BitVec 8)) (kind i : Nat) : List (BitVec 8) := lf (pk seed kind i)
theorem lv_len (seed : List (BitVec 8)) (kind i : Nat) : (lv seed kind i).length = 32 := lf_len _
/-- The root over 2^h leaves from a on. -/
def rt (L : Nat → List (BitVec 8)) (a : Nat) : Nat → List (BitVec 8)
  | 0 => L a
  | h + 1 => nd (rt L a h) (rt L (a + 2 ^ h) h)
theorem rt_len (seed : List (BitVec 8)) (kind : Nat) (a : Nat) (h : Nat) : (rt (lv seed kind) a h).length = 32 := by
  cases h with
  | zero => exact lv_len _ _ _
  | succ h => exact nd_len _ _
/-- Where the hash beside begins, at level l. -/
def bes (i l : Nat) : Nat := (i / 2 ^ l ^^^ 1) * 2 ^ l
/-- The path's hash at level l. -/
def pth (L : Nat → List (BitVec 8)) (i l : Nat) : List (BitVec 8) := rt L (bes i l) l
/-- The parts of a signature, by its kind. -/
def sgp (seed : List (BitVec 8)) (kind i : Nat) (h : List (BitVec 8)) : List (List (BitVec 8)) := if kind = 1 then all67 (sigOf seed i h) else all512 (sgOf seed i h)
theorem sgp_one {seed h : List (BitVec 8)} {kind i : Nat} {S : List (List (BitVec 8))} (hk : kind = 1) (e : Box (sgp seed kind i h = S)) : Box (all67 (sigOf seed i h) = S) := ⟨by rw [← e.out]; unfold sgp; rw [if_pos hk]⟩
theorem sgp_two {seed h : List (BitVec 8)} {kind i : Nat} {S : List (List (BitVec 8))} (hk : kind = 2) (e : Box (sgp seed kind i h = S)) : Box (all512 (sgOf seed i h) = S) := ⟨by rw [← e.out]; unfold sgp; rw [if_neg (by omega)]⟩
/-- Hashes in new memory. -/
def Fk.hn (g0 : Nat) (hs : List (List (BitVec 8))) : Fk := .inr (.inl ⟨fun v w => ∃ A C lb lo, v = .slice A hs.length C ∧ g0 ≤ lb ∧ Hl w A lb lo hs, by
  rintro v w w' ⟨A, C, lb, lo, e, hg, h⟩ hb
  exact ⟨A, C, lb, lo, e, hg, h.below hb⟩⟩)
theorem hn_hs {g0 : Nat} {hs : List (List (BitVec 8))} {v : Value} {w : World} (h : (Fk.hn g0 hs).f v w) : (Fk.hs hs).f v w := by
  obtain ⟨A, C, lb, lo, e, _, hl⟩ := h
  exact ⟨A, C, lb, lo, e, hl⟩
theorem hn_le {g0 g1 : Nat} (hg : g1 ≤ g0) {hs : List (List (BitVec 8))} {v : Value} {w : World} (h : (Fk.hn g0 hs).f v w) : (Fk.hn g1 hs).f v w := by
  obtain ⟨A, C, lb, lo, e, h1, hl⟩ := h
  exact ⟨A, C, lb, lo, e, Nat.le_trans hg h1, hl⟩
theorem fk_sign_one {seed : List (BitVec 8)} {key : Nat} {h : List (BitVec 8)} {w : World} {g0 : Nat} (hx : seed.length = 32) (hh : h.length = 32) (hk : key ≤ 2147483647) (hK : Tab w) (hg : g0 ≤ w.heap.size) {S : List (List (BitVec 8))} (hS : Box (all67 (sigOf seed key h) = S)) :
    Calls Tryd.prog 16 #[.agg (seed.map V).toArray, .int .i64 ((key : Nat) : Int), .agg (h.map V).toArray] w fun e w' => ∃ u, e = .returned u ∧ (Fk.t2 (.hn g0 S) (.int .i64 0)).f u w' ∧ Below w.heap.size w w' := by
  refine (sign_ok seed key h w hx hh hk hK).mono ?_
  rintro e w' ⟨g, rfl, hl, hle, hb⟩
  rw [hS.out] at hl
  have h67 : S.length = 67 := by rw [← hS.out]; exact all_len _
  exact ⟨_, rfl, ⟨_, rfl, _, 67, g, 0, by rw [h67], Nat.le_trans hg hle, hl⟩, hb⟩
theorem fk_sign_two {seed : List (BitVec 8)} {key : Nat} {h : List (BitVec 8)} {w : World} {g0 : Nat} (hx : seed.length = 32) (hh : h.length = 32) (hk : key ≤ 2147483647) (hK : Tab w) (hg : g0 ≤ w.heap.size) {S : List (List (BitVec 8))} (hS : Box (all512 (sgOf seed key h) = S)) :
    Calls Tryd.prog 18 #[.agg (seed.map V).toArray, .int .i64 ((key : Nat) : Int), .agg (h.map V).toArray] w fun e w' => ∃ u, e = .returned u ∧ (Fk.t2 (.hn g0 S) (.int .i64 0)).f u w' ∧ Below w.heap.size w w' := by
  refine (sign_okL seed key h w hx hh hk hK).mono ?_
  rintro e w' ⟨g, rfl, hl, hle, hb⟩
  rw [hS.out] at hl
  have h67 : S.length = 512 := by rw [← hS.out]; exact all_lenL _
  exact ⟨_, rfl, ⟨_, rfl, _, 512, g, 0, by rw [h67], Nat.le_trans hg hle, hl.hl⟩, hb⟩
/-- n hashes of noughts, in cells. -/
def mkh (n : Nat) : Array Value := madeCells ((hz.map V).toArray) (n * 32)
theorem mkh_at (n j : Nat) (h : j < n * 32) : (mkh n)[j]? = some (.int .u8 (bv (hz.getD (j % 32) 0))) := by
  have h2 : j % 32 < hz.length := by rw [hz_len]; omega
  have h3 : (mkh n).size = n * 32 := by unfold mkh; simp [size_madeCells]
  rw [Array.getElem?_eq_getElem (by rw [h3]; exact h)]
  unfold mkh
  simp only [madeCells, Array.getElem_map, Array.getElem_range, List.size_toArray, List.length_map, hz_len]
  have : (hz.map V).toArray[j % 32]? = some (V (hz.getD (j % 32) 0)) := by
    rw [List.getElem?_toArray, List.getElem?_map, List.getElem?_eq_getElem h2, Option.map_some, List.getD_eq_getElem?_getD, List.getElem?_eq_getElem h2]
    rfl
  rw [getElem!_def, this]
  rfl
theorem Tryd.makehs (n : Nat) (hn : n ≤ 1000) (w : World) : (Instr.makeSlice 32 (.int .i64 (n : Int)) (.int .i64 (n : Int))).run Tryd.prog w = .ok (.slice (some ⟨w.heap.size, 0, none⟩) n n) (w.alloc (.cells (mkh n) 23)) := by
  obtain ⟨i0, hi, hz0, hz1, hz2⟩ := info_parts Tryd.info23
  have := run_make (P := Tryd.prog) w 32 23 i0 _ Tryd.under32' hi hz0 .i64 .i64 (n : Int) (n : Int) (by omega) (by omega) (by rw [hz2]; omega) (by omega)
  rw [hz1] at this
  simp only [Int.toNat_natCast] at this
  exact this
/-- n hashes of noughts. -/
def zhs (n : Nat) : List (List (BitVec 8)) := List.replicate n hz
theorem zhs_len (n : Nat) : (zhs n).length = n := List.length_replicate
theorem rw_newh (n : Nat) (w : World) : Rw (w.alloc (.cells (mkh n) 23)) w.heap.size (zhs n) := by
  unfold zhs
  refine ⟨⟨fun _ => rfl, fun _ => by simp, fun i x hi => ?_⟩, by simp, fun j => ?_⟩
  · obtain ⟨h1, h2⟩ := List.getElem?_eq_some_iff.1 hi
    simp only [List.length_replicate] at h1
    obtain rfl : hz = x := by rw [← h2, List.getElem_replicate]
    refine ⟨hz_len, fun j hj => ?_⟩
    rw [hz_len] at hj
    rw [World.cell?_alloc_mark, mkh_at _ _ (by omega), show (0 + i * 32 + j) % 32 = j by omega]
  · have := heap_alloc_new w (.cells (mkh n) 23)
    exact frozen_of_row _ _ j _ 23 this
/-- The first k of n are told, the others are noughts. -/
def prt (n : Nat) (F : Nat → List (BitVec 8)) (k : Nat) : List (List (BitVec 8)) := (List.range n).map fun i => if i < k then F i else hz
theorem prt_len (n : Nat) (F : Nat → List (BitVec 8)) (k : Nat) : (prt n F k).length = n := by simp [prt]
theorem prt_zero (n : Nat) (F : Nat → List (BitVec 8)) : prt n F 0 = zhs n := by
  unfold zhs
  apply List.ext_getElem (by rw [prt_len, List.length_replicate])
  intro i h1 h2
  rw [List.getElem_replicate]
  simp [prt]
theorem prt_set (n : Nat) (F : Nat → List (BitVec 8)) (k : Nat) : (prt n F k).set k (F k) = prt n F (k + 1) := by
  apply List.ext_getElem (by simp [prt])
  intro i h1 h2
  rw [List.getElem_set]
  simp only [prt, List.getElem_map, List.getElem_range]
  by_cases e : k = i
  · subst e; simp
  · rw [if_neg e]
    by_cases h : i < k
    · rw [if_pos h, if_pos (by omega)]
    · rw [if_neg h, if_neg (by omega)]
theorem prt_all (n : Nat) (F : Nat → List (BitVec 8)) : prt n F n = firsts F n := by
  apply List.ext_getElem (by simp [prt, firsts])
  intro i h1 h2
  simp only [prt, List.length_map, List.length_range] at h1
  simp [prt, firsts, h1]
/-- A new row of n hashes of noughts. -/
def Fk.nz (g0 n : Nat) : Fk := .inr (.inl ⟨fun v w => ∃ g, g0 ≤ g ∧ v = .slice (some ⟨g, 0, none⟩) n n ∧ Rw w g (zhs n), by
  rintro v w w' ⟨g, h, e, hv⟩ hb
  exact ⟨g, h, e, hv.below hb⟩⟩)
section
variable {Q : Exit → Act → World → Prop} {o : Oper} {a : Act} {w : World} {ops : Array Oper} {rest : List Oper}
theorem st_makeh (x y : Operand) (ho : o.op = .makeSlice 32 x y) (n : Nat) (hn : n ≤ 1000) (hx : a.eval x = .int .i64 (n : Int)) (hy : a.eval y = .int .i64 (n : Int)) (g0 : Nat) (hg : g0 ≤ w.heap.size) : o.wp Tryd.prog a w (Ends a o.dst w (Fk.nz g0 n).f) Q := by
  refine st_run (v := .slice (some ⟨w.heap.size, 0, none⟩) n n) (w' := w.alloc (.cells (mkh n) 23)) ?_ ((Below.refl _ _).alloc (Nat.le_refl _) _) ⟨w.heap.size, hg, rfl, rw_newh n w⟩
  unfold execOp
  rw [ho]
  simp [hx, hy, Tryd.makehs n hn]
theorem st_idxr (x y : Operand) (ho : o.op = .indexAddr 32 x y) (g i n : Nat) (hx : a.eval x = .slice (some ⟨g, 0, none⟩) n n) (hy : a.eval y = .int .i64 (i : Int)) (hi : i < n) : o.wp Tryd.prog a w (Ends a o.dst w (Fk.eq (.pointer (some ⟨g, i * 32, none⟩))).f) Q := by
  refine st_pure (v := .pointer (some ⟨g, i * 32, none⟩)) ?_ rfl
  have h1 := run_indexAt_slice (P := Tryd.prog) (w := w) 32 ⟨g, 0, none⟩ n n .i64 (i : Int) (by rw [Tryd.elem32]; exact Tryd.under32')
  rw [if_pos (by omega), Tryd.elem32, Tryd.sizeOf23] at h1
  simp only [Result.andThen_ok, Int.toNat_natCast, Addr.add_mid, Nat.zero_add] at h1
  unfold execOp
  rw [ho]
  simp [hx, hy, h1]
theorem st_xor1 (x y : Operand) (ho : o.op = .binOp .xor 3 x y 3) (m : Nat) (hm : m ≤ 1000000) (hx : a.eval x = .int .i64 (m : Int)) (hy : a.eval y = .int .i64 1) : o.wp Tryd.prog a w (Ends a o.dst w (Fk.eq (.int .i64 ((m ^^^ 1 : Nat) : Int))).f) Q := by
  refine st_bin .xor 3 3 x y ho hx hy ?_
  have h1 : m ^^^ 1 < 2 ^ 20 := Nat.xor_lt_two_pow (by omega) (by omega)
  have h2 : m % 2 ^ IntKind.i64.bits = m := Nat.mod_eq_of_lt (by show m < 18446744073709551616; omega)
  have h3 : 1 % 2 ^ IntKind.i64.bits = 1 := rfl
  simp [eqGuard, binOp, Op.intBits, h2, h3]
  rw [IntKind.wrap_i64]
  omega
theorem st_and1 (x y : Operand) (ho : o.op = .binOp .and 3 x y 3) (m : Nat) (hm : m ≤ 1000000) (hx : a.eval x = .int .i64 (m : Int)) (hy : a.eval y = .int .i64 1) : o.wp Tryd.prog a w (Ends a o.dst w (Fk.eq (.int .i64 ((m % 2 : Nat) : Int))).f) Q := by
  refine st_bin .and 3 3 x y ho hx hy ?_
  have h2 : m % 2 ^ IntKind.i64.bits = m := Nat.mod_eq_of_lt (by show m < 18446744073709551616; omega)
  have h3 : 1 % 2 ^ IntKind.i64.bits = 1 := rfl
  simp [eqGuard, binOp, Op.intBits, h2, h3]
  rw [IntKind.wrap_i64]
  omega
theorem st_loadz (T : TypeId) (x : Operand) (ho : o.op = .load T x) (b so : Nat) (cs : List Value) (hr : (Tryd.prog.underlying T).map (·.isRow) = some true) (hi : (Tryd.prog.info? T).map (·.size) = some cs.length) (hx : a.eval x = .pointer (some ⟨b, so, none⟩)) (hc : w.rangeAt b so cs) : o.wp Tryd.prog a w (Ends a o.dst w (Fk.eq (.agg cs.toArray)).f) Q := by
  cases hu : Tryd.prog.underlying T with
  | none => rw [hu] at hr; cases hr
  | some d =>
    rw [hu] at hr
    exact st_loadm T x ho b so cs hu (by simpa using hr) hi hx hc
end
theorem ret_hash {fn : Func} {p : Tmp} (h : fn.results = #[.cell p 23]) (a : Act) (w : World) (g : Nat) (xs : List (BitVec 8)) (hl : xs.length = 32) (hp : a.eval (.tmp p) = .pointer (some ⟨g, 0, none⟩)) (m : Ob w g 23 (xs.map V)) : (results fn a.tmps).run Tryd.prog w = .ok (.agg (xs.map V).toArray) w :=
  results_cell_row (P := Tryd.prog) (fn := fn) (p := p) (ty := 23) h _ _ g 23 _ (0, 0) _ hp m Tryd.under23 rfl (by rw [List.size_toArray, List.length_map, hl]; exact Tryd.size23)
theorem ret_hash2 {fn : Func} {p u : Tmp} (h : fn.results = #[.cell p 23, .tmp u]) (a : Act) (w : World) (g : Nat) (xs : List (BitVec 8)) (v : Value) (hl : xs.length = 32) (hp : a.eval (.tmp p) = .pointer (some ⟨g, 0, none⟩)) (m : Ob w g 23 (xs.map V)) (hu : a.eval (.tmp u) = v) : (results fn a.tmps).run Tryd.prog w = .ok (.tuple #[.agg (xs.map V).toArray, v]) w :=
  results_row_tmp (P := Tryd.prog) h _ _ g 23 _ (0, 0) _ v hp m Tryd.under23 rfl (by rw [List.size_toArray, List.length_map, hl]; exact Tryd.size23) hu
theorem Tryd.row38 : (Tryd.prog.underlying 38).map (·.isRow) = some true := by kernel_rfl
theorem ret_sig2 {fn : Func} {p u : Tmp} (h : fn.results = #[.cell p 38, .tmp u]) (a : Act) (w : World) (g : Nat) (c0 c1 c2 c3 v : Value) (hp : a.eval (.tmp p) = .pointer (some ⟨g, 0, none⟩)) (m : Ob w g 38 [c0, c1, c2, c3]) (hu : a.eval (.tmp u) = v) : (results fn a.tmps).run Tryd.prog w = .ok (.tuple #[.agg [c0, c1, c2, c3].toArray, v]) w := by
  have hr := Tryd.row38
  have h1 : a.tmps.getD p undef = .pointer (some ⟨g, 0, none⟩) := hp
  have h2 : a.tmps.getD u undef = v := hu
  cases hd : Tryd.prog.underlying 38 with
  | none => rw [hd] at hr; cases hr
  | some d =>
    rw [hd] at hr
    have hl := run_loadVar_mid (P := Tryd.prog) w g 0 38 [c0, c1, c2, c3] d (Ob.range m 0 _ (fun j v hj => by simpa using hj)) hd (Option.some.inj hr) (by kernel_rfl)
    rw [results_cell_tmp h, h1, h2]
    simp only [asAddr, Sem.run_pure, Result.andThen_ok, hl]
end Go.Proofs.YtnanipeapjpkfaaDoor
