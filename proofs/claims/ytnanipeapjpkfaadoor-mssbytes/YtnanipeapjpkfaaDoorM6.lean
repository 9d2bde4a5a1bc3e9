/- Steps over structs in memory: fields, boxes, whole structs; one step of a list by itself; numbers that are shifted and compared. More steps: heads of structs, tuples, lengths; each function is entered as itself. Plain: a drawn region whose last store may come ahead of one operation that only takes a value out: both orders come to one end. Drawn regions with a chain of calls that turn one object: what only looks is taken first. What tag's sum, Leaf, Message, File and Record hand back: the sums of just their bytes. What Node, Chain, Secret and Record hand back: the sums of just their bytes. What mss is made of, plainly; the sums as steps meet them; rows of n hashes. An In (package wire) in memory: what take, spoil, Bad and Done do. -/
import Derived.Test.YtnanipeapjpkfaaDoorM5
import Derived.Deep.MidRow
import Derived.Deep.RegionHeld
import Derived.Test.YtnanipeapjpkfaaDoorM3
import Derived.Test.YtnanipeapjpkfaaDoorProg
import Derived.Deep.Cut
import Derived.BigRegion
import Derived.BigQuiet
import Derived.Deep.RegionWith
import Derived.Laws.BytesArg
import Derived.Laws.AppendOwnNone
import Derived.Laws.MakeOwn
import Derived.Laws.Small
import Derived.KernelRfl
import Derived.Maps.RangeWalk
import Derived.OwnWalk
namespace Go.Proofs.YtnanipeapjpkfaaDoor
set_option maxRecDepth 100000
open Go.RowKit
/-- Block b holds just these cells. -/
def Ob (w : World) (b : Nat) (T : TypeId) (cs : List Value) : Prop := w.heap[b]? = some (.cells cs.toArray T (0, 0))
theorem Ob.lt {w : World} {b : Nat} {T : TypeId} {cs : List Value} (h : Ob w b T cs) : b < w.heap.size := (Array.getElem?_eq_some_iff.1 h).1
theorem Ob.below {w w' : World} {b : Nat} {T : TypeId} {cs : List Value} (h : Ob w b T cs) (hb : Below w.heap.size w w') : Ob w' b T cs := by
  have := hb.block b h.lt
  unfold Ob at *
  rw [this]; exact h
theorem Ob.only {w w' : World} {b g : Nat} {T : TypeId} {cs : List Value} (h : Ob w b T cs) (hb : Only g w w') (hg : b ≠ g) : Ob w' b T cs := by
  have := hb.block b h.lt hg
  unfold Ob at *
  rw [this]; exact h
theorem Ob.cell {w : World} {b : Nat} {T : TypeId} {cs : List Value} (h : Ob w b T cs) (i : Nat) {v : Value} (hi : cs[i]? = some v) : w.cell? ⟨b, i, none⟩ = some v := by
  unfold Ob at h
  simp [World.cell?, h, hi]
theorem Ob.set {w : World} {b : Nat} {T : TypeId} {cs : List Value} (h : Ob w b T cs) (i : Nat) (v : Value) : Ob (w.setCell ⟨b, i, none⟩ v) b T (cs.set i v) := by
  unfold Ob at *
  simp [World.setCell, Array.getElem?_modify, h]
theorem Ob.alloc (w : World) (T : TypeId) (cs : List Value) : Ob (w.alloc (.cells cs.toArray T)) w.heap.size T cs := heap_alloc_new _ _
theorem Ob.range {w : World} {b : Nat} {T : TypeId} {cs : List Value} (h : Ob w b T cs) (o : Nat) (l : List Value) (hl : ∀ (j : Nat) (v : Value), l[j]? = some v → cs[o + j]? = some v) : w.rangeAt b o l := fun j v hj => h.cell (o + j) (hl j v hj)
theorem Ob.setRow {w : World} {b : Nat} {T : TypeId} {cs : List Value} (h : Ob w b T cs) (ds : List Value) : Ob (w.setRow b ds.toArray) b T ds := setRow_heap _ _ _ _ T (0, 0) h
theorem Ob.setRow_other {w : World} {b g : Nat} {T : TypeId} {cs : List Value} (h : Ob w b T cs) (ds : Array Value) (hne : b ≠ g) : Ob (w.setRow g ds) b T cs := by
  have := (Only.refl g w).setRow ds
  exact h.only this hne
/-- A pointer to a new block with these cells. -/
def Fk.nw (g0 : Nat) (T : TypeId) (cs : List Value) : Fk := .inr (.inl ⟨fun v w => ∃ g, g0 ≤ g ∧ v = .pointer (some ⟨g, 0, none⟩) ∧ Ob w g T cs, by
  rintro v w w' ⟨g, h, e, hv⟩ hb
  exact ⟨g, h, e, hv.below hb⟩⟩)
theorem fk_val {q : Fk} {a : Act} {x : Operand} {u : Value} {w : World} (h : a.eval x = u) (hq : q.f u w) : q.f (a.eval x) w := by rw [h]; exact hq
section
variable {P : Program} {Q : Exit → Act → World → Prop} {o : Oper} {a : Act} {w : World} {q : Fk} {ops : Array Oper} {rest : List Oper}
theorem st_pick_f' (c x y : Operand) (ho : o.op = .pick c x y) (hc : a.eval c = .bool false) (h : q.f (a.eval y) w) : o.wp P a w (Ends a o.dst w q.f) Q :=
  st_pure (v := a.eval y) (by unfold execOp; rw [ho]; simp [hc, asBool]) h
theorem st_field (T f : Nat) (x : Operand) (ho : o.op = .fieldAddr T x f) {p r : Addr} (hx : a.eval x = .pointer (some p)) (hr : (Instr.fieldAt T (.pointer (some p)) f).run P w = .ok (.pointer (some r)) w) : o.wp P a w (Ends a o.dst w (Fk.eq (.pointer (some r))).f) Q := by
  refine st_pure (v := .pointer (some r)) ?_ rfl
  unfold execOp
  rw [ho]
  simp [hx, hr]
theorem st_nil (x : Operand) (ho : o.op = .nilCheck x) {p : Addr} (hx : a.eval x = .pointer (some p)) : o.wp P a w (Ends a o.dst w (Fk.eq (.pointer (some p))).f) Q := by
  refine st_pure (v := .pointer (some p)) ?_ rfl
  unfold execOp
  rw [ho]
  simp [hx]
theorem st_loadc (T : TypeId) (x : Operand) (ho : o.op = .load T x) (h1 : (isAgg T).run P w = .ok false w) {p : Addr} {u : Value} (hx : a.eval x = .pointer (some p)) (hc : w.cell? p = some u) : o.wp P a w (Ends a o.dst w (Fk.eq u).f) Q := by
  refine st_pure (v := u) ?_ rfl
  unfold execOp
  rw [ho]
  simp [hx, Instr.loadAt, Instr.sureAddr, loadVar, h1, run_load, hc]
theorem st_loadm (T : TypeId) (x : Operand) (ho : o.op = .load T x) (b so : Nat) (cs : List Value) {d : TypeDesc} (hu : P.underlying T = some d) (hd : d.isRow = true) (hi : (P.info? T).map (·.size) = some cs.length) (hx : a.eval x = .pointer (some ⟨b, so, none⟩)) (hc : w.rangeAt b so cs) : o.wp P a w (Ends a o.dst w (Fk.eq (.agg cs.toArray)).f) Q :=
  wp_load_mid T x ho b so hx cs _ hc hu hd hi ⟨_, rfl, Below.refl _ _, rfl⟩
theorem st_build (T : TypeId) (ps : Array (Nat × Operand)) (ho : o.op = .build T ps) {u : Value} (hr : (Instr.build T (ps.map fun (i, x) => (i, a.eval x))).run P w = .ok u w) : o.wp P a w (Ends a o.dst w (Fk.eq u).f) Q := by
  refine st_pure (v := u) ?_ rfl
  unfold execOp
  rw [ho]
  simp only [hr, Sem.run_bind, Result.andThen_ok, Sem.run_pure]
theorem st_box (T : TypeId) (x : Operand) (ho : o.op = .box T x) (g0 : Nat) (cs : List Value) (hr : (Instr.box T (a.eval x)).run P w = .ok (.pointer (some ⟨w.heap.size, 0, none⟩)) (w.alloc (.cells cs.toArray T))) (hg : g0 ≤ w.heap.size) : o.wp P a w (Ends a o.dst w (Fk.nw g0 T cs).f) Q := by
  refine st_run (v := .pointer (some ⟨w.heap.size, 0, none⟩)) (w' := w.alloc (.cells cs.toArray T)) ?_ ((Below.refl _ _).alloc (Nat.le_refl _) _) ⟨_, hg, rfl, Ob.alloc _ _ _⟩
  unfold execOp
  rw [ho]
  simp [hr]
theorem st_alloc (T : TypeId) (ho : o.op = .alloc T) (g0 : Nat) (cs : List Value) (hr : (Instr.alloc T true (.tuple #[])).run P w = .ok (.pointer (some ⟨w.heap.size, 0, none⟩)) (w.alloc (.cells cs.toArray T))) (hg : g0 ≤ w.heap.size) : o.wp P a w (Ends a o.dst w (Fk.nw g0 T cs).f) Q := by
  refine st_run (v := .pointer (some ⟨w.heap.size, 0, none⟩)) (w' := w.alloc (.cells cs.toArray T)) ?_ ((Below.refl _ _).alloc (Nat.le_refl _) _) ⟨_, hg, rfl, Ob.alloc _ _ _⟩
  unfold execOp
  rw [ho]
  simp [hr]
theorem st_bin (op : BinOp) (t t2 : TypeId) (x y : Operand) (ho : o.op = .binOp op t x y t2) {u v r : Value} (hx : a.eval x = u) (hy : a.eval y = v) (hr : (do eqGuard op t x y u v; binOp op t u v : Sem Value).run P w = .ok r w) : o.wp P a w (Ends a o.dst w (Fk.eq r).f) Q := by
  refine st_pure (v := r) ?_ rfl
  subst hx hy
  unfold execOp
  rw [ho]
  simp only [Sem.run_bind, hr, Result.andThen_ok, Sem.run_pure]
theorem st_geq (t : TypeId) (x y : Operand) (ho : o.op = .binOp .geq t x y t) (k : IntKind) (s u : Int) (hx : a.eval x = .int k s) (hy : a.eval y = .int k u) (b : Bool) (hb : b = decide (u ≤ s)) : o.wp P a w (Ends a o.dst w (Fk.eq (.bool b)).f) Q := by
  subst hb
  exact st_bin .geq t t x y ho hx hy (by simp [eqGuard, binOp, Op.intCmp])
theorem st_leq (t : TypeId) (x y : Operand) (ho : o.op = .binOp .leq t x y t) (k : IntKind) (s u : Int) (hx : a.eval x = .int k s) (hy : a.eval y = .int k u) (b : Bool) (hb : b = decide (s ≤ u)) : o.wp P a w (Ends a o.dst w (Fk.eq (.bool b)).f) Q := by
  subst hb
  exact st_bin .leq t t x y ho hx hy (by simp [eqGuard, binOp, Op.intCmp])
theorem st_shl (t t2 : TypeId) (x y : Operand) (ho : o.op = .binOp .shl t x y t2) (m k : Nat) (hx : a.eval x = .int .i64 (m : Int)) (hy : a.eval y = .int .i64 (k : Int)) (e : Nat) (he : e = m * 2 ^ k) (hs : e ≤ 1000000) (hk : k ≤ 60) : o.wp P a w (Ends a o.dst w (Fk.eq (.int .i64 (e : Int))).f) Q := by
  refine st_bin .shl t t2 x y ho hx hy ?_
  have hw : IntKind.i64.wrap ((m : Int) * 2 ^ k) = (e : Int) := by
    have : (m : Int) * 2 ^ k = (e : Int) := by rw [he]; simp
    rw [this, IntKind.wrap_i64]; omega
  simp [eqGuard, binOp, hw]
  try omega
theorem st_shr (t t2 : TypeId) (x y : Operand) (ho : o.op = .binOp .shr t x y t2) (m k : Nat) (hx : a.eval x = .int .i64 (m : Int)) (hy : a.eval y = .int .i64 (k : Int)) (e : Nat) (he : e = m / 2 ^ k) (hk : k ≤ 60) : o.wp P a w (Ends a o.dst w (Fk.eq (.int .i64 (e : Int))).f) Q := by
  refine st_bin .shr t t2 x y ho hx hy ?_
  have hw : (m : Int) / 2 ^ k = (e : Int) := by rw [he]; simp
  simp [eqGuard, binOp, hw]
  try omega
/-- One step by itself. -/
theorem wl_one (q : Fk) (hgd : o.guard = none) (d : Nat) (hd : o.dst = some d) (hsz : d < a.tmps.size) (hs : o.wp P a w (Ends a o.dst w q.f) Q)
    (h : ∀ a2 w2, a2.defers = a.defers → a2.tmps.size = a.tmps.size → (∀ t, (t == d) = false → a2.eval (.tmp t) = a.eval (.tmp t)) → q.f (a2.eval (.tmp d)) w2 → Below w.heap.size w w2 → wpList P ops Q rest a2 w2) : wpList P ops Q (o :: rest) a w := by
  unfold wpList
  rw [if_pos (by unfold Region.wanted; rw [hgd])]
  refine .inl (Oper.wp_mono ?_ hs)
  rintro a' w' ⟨v, rfl, hb, hf⟩
  rw [hd]
  refine h _ _ (put_def _ _ _) (put_size _ _ _) (fun t ht => put_eval_other _ _ _ _ (fun e => by subst e; simp at ht)) ?_ hb
  rw [put_eval_same _ _ _ hsz]
  exact hf
/-- A call by itself, whatever it does. -/
theorem wl_call (f : FuncId) (x : Operand) (xs : Array Operand) (ts : Array TypeId) (vs : Array Value) (hgd : o.guard = none) (d : Nat) (hd : o.dst = some d) (hsz : d < a.tmps.size) (ho : o.op = .call { callee := .value x, args := xs, argTypes := ts }) (hx : a.eval x = .func (.func f) #[] #[]) (hv : (xs.toList.map a.eval).toArray = vs)
    (hf : ∀ args w, (callFunc f args).run P w = .ok (.enter f args) w) (R : Value → World → Prop) (hc : Calls P f vs w fun e w' => ∃ v, e = .returned v ∧ R v w')
    (h : ∀ a2 w2, a2.defers = a.defers → a2.tmps.size = a.tmps.size → (∀ t, (t == d) = false → a2.eval (.tmp t) = a.eval (.tmp t)) → R (a2.eval (.tmp d)) w2 → wpList P ops Q rest a2 w2) : wpList P ops Q (o :: rest) a w := by
  have hr : (execOp a.eval o).run P w = .ok (.enter f vs) w := by
    have hv' : xs.map a.eval = vs := by rw [← hv]; apply Array.toList_inj.1; simp
    unfold execOp; rw [ho]
    simp [resolve, hx, Deferred.ofValue, invoke, hv', hf]
  unfold wpList
  rw [if_pos (by unfold Region.wanted; rw [hgd])]
  refine .inl ?_
  unfold Oper.wp; rw [hr]
  refine Calls.mono hc ?_
  rintro e w' ⟨v, rfl, h1⟩
  rw [hd]
  refine h _ _ (put_def _ _ _) (put_size _ _ _) (fun t ht => put_eval_other _ _ _ _ (fun e => by subst e; simp at ht)) ?_
  rw [put_eval_same _ _ _ hsz]
  exact h1
/-- A store of one cell. -/
theorem wl_stc (T : TypeId) (hgd : o.guard = none) (x y : Operand) (ho : o.op = .store T x y) (hd : o.dst = none) (h1 : (sizeOf T).run P w = .ok 1 w) (b i : Nat) (v : Value) (hx : a.eval x = .pointer (some ⟨b, i, none⟩)) (hy : a.eval y = v) (hv : v.oneCell' = true) (hv2 : v.cells = #[v]) (ht : w.there b i 1)
    (h : wpList P ops Q rest a (w.setCell ⟨b, i, none⟩ v)) : wpList P ops Q (o :: rest) a w := by
  unfold wpList
  rw [if_pos (by unfold Region.wanted; rw [hgd])]
  refine .inl ?_
  have hs := run_storeCells_cells (P := P) b i [v] 0 w (fun j hj => by simpa using (ht j (by simpa using hj)).1) (fun j hj => by simpa using (ht j (by simpa using hj)).2) (fun u hu => by rw [List.mem_singleton.1 hu]; exact hv)
  have hr : (execOp a.eval o).run P w = .ok .skip (w.setCell ⟨b, i, none⟩ v) := by
    unfold execOp
    rw [ho]
    simp [hx, hy, Instr.storeAt, Instr.sureAddr, storeVar, h1, hv2]
    rw [hs]
    rfl
  unfold Oper.wp
  rw [hr]
  unfold Oper.upon
  rw [hd]
  exact h
end
end Go.Proofs.YtnanipeapjpkfaaDoor
namespace Go.Proofs.YtnanipeapjpkfaaDoor
set_option maxRecDepth 100000
open Go.RowKit
theorem Tryd.enter3 (args : Array Value) (w : World) : (callFunc 3 args).run Tryd.prog w = .ok (.enter 3 args) w := by kernel_rfl
theorem Tryd.enter4 (args : Array Value) (w : World) : (callFunc 4 args).run Tryd.prog w = .ok (.enter 4 args) w := by kernel_rfl
theorem Tryd.enter5 (args : Array Value) (w : World) : (callFunc 5 args).run Tryd.prog w = .ok (.enter 5 args) w := by kernel_rfl
theorem Tryd.enter6 (args : Array Value) (w : World) : (callFunc 6 args).run Tryd.prog w = .ok (.enter 6 args) w := by kernel_rfl
theorem Tryd.enter7 (args : Array Value) (w : World) : (callFunc 7 args).run Tryd.prog w = .ok (.enter 7 args) w := by kernel_rfl
theorem Tryd.enter8 (args : Array Value) (w : World) : (callFunc 8 args).run Tryd.prog w = .ok (.enter 8 args) w := by kernel_rfl
theorem Tryd.enter9 (args : Array Value) (w : World) : (callFunc 9 args).run Tryd.prog w = .ok (.enter 9 args) w := by kernel_rfl
theorem Tryd.enter10 (args : Array Value) (w : World) : (callFunc 10 args).run Tryd.prog w = .ok (.enter 10 args) w := by kernel_rfl
theorem Tryd.enter11 (args : Array Value) (w : World) : (callFunc 11 args).run Tryd.prog w = .ok (.enter 11 args) w := by kernel_rfl
theorem Tryd.enter12 (args : Array Value) (w : World) : (callFunc 12 args).run Tryd.prog w = .ok (.enter 12 args) w := by kernel_rfl
theorem Tryd.enter13 (args : Array Value) (w : World) : (callFunc 13 args).run Tryd.prog w = .ok (.enter 13 args) w := by kernel_rfl
theorem Tryd.enter14 (args : Array Value) (w : World) : (callFunc 14 args).run Tryd.prog w = .ok (.enter 14 args) w := by kernel_rfl
theorem Tryd.enter15 (args : Array Value) (w : World) : (callFunc 15 args).run Tryd.prog w = .ok (.enter 15 args) w := by kernel_rfl
theorem Tryd.enter17 (args : Array Value) (w : World) : (callFunc 17 args).run Tryd.prog w = .ok (.enter 17 args) w := by kernel_rfl
theorem Tryd.enter19 (args : Array Value) (w : World) : (callFunc 19 args).run Tryd.prog w = .ok (.enter 19 args) w := by kernel_rfl
theorem Tryd.enter20 (args : Array Value) (w : World) : (callFunc 20 args).run Tryd.prog w = .ok (.enter 20 args) w := by kernel_rfl
theorem Tryd.enter21 (args : Array Value) (w : World) : (callFunc 21 args).run Tryd.prog w = .ok (.enter 21 args) w := by kernel_rfl
theorem Tryd.enter24 (args : Array Value) (w : World) : (callFunc 24 args).run Tryd.prog w = .ok (.enter 24 args) w := by kernel_rfl
theorem Tryd.enter25 (args : Array Value) (w : World) : (callFunc 25 args).run Tryd.prog w = .ok (.enter 25 args) w := by kernel_rfl
theorem Tryd.enter26 (args : Array Value) (w : World) : (callFunc 26 args).run Tryd.prog w = .ok (.enter 26 args) w := by kernel_rfl
theorem Tryd.enter27 (args : Array Value) (w : World) : (callFunc 27 args).run Tryd.prog w = .ok (.enter 27 args) w := by kernel_rfl
theorem Tryd.enter28 (args : Array Value) (w : World) : (callFunc 28 args).run Tryd.prog w = .ok (.enter 28 args) w := by kernel_rfl
theorem Tryd.enter29 (args : Array Value) (w : World) : (callFunc 29 args).run Tryd.prog w = .ok (.enter 29 args) w := by kernel_rfl
theorem Tryd.enter30 (args : Array Value) (w : World) : (callFunc 30 args).run Tryd.prog w = .ok (.enter 30 args) w := by kernel_rfl
theorem Tryd.enter31 (args : Array Value) (w : World) : (callFunc 31 args).run Tryd.prog w = .ok (.enter 31 args) w := by kernel_rfl
theorem Tryd.enter32 (args : Array Value) (w : World) : (callFunc 32 args).run Tryd.prog w = .ok (.enter 32 args) w := by kernel_rfl
theorem Tryd.enter33 (args : Array Value) (w : World) : (callFunc 33 args).run Tryd.prog w = .ok (.enter 33 args) w := by kernel_rfl
theorem Tryd.enter34 (args : Array Value) (w : World) : (callFunc 34 args).run Tryd.prog w = .ok (.enter 34 args) w := by kernel_rfl
theorem Tryd.enter35 (args : Array Value) (w : World) : (callFunc 35 args).run Tryd.prog w = .ok (.enter 35 args) w := by kernel_rfl
theorem Tryd.enter38 (args : Array Value) (w : World) : (callFunc 38 args).run Tryd.prog w = .ok (.enter 38 args) w := by kernel_rfl
theorem Tryd.enter39 (args : Array Value) (w : World) : (callFunc 39 args).run Tryd.prog w = .ok (.enter 39 args) w := by kernel_rfl
theorem Tryd.enter40 (args : Array Value) (w : World) : (callFunc 40 args).run Tryd.prog w = .ok (.enter 40 args) w := by kernel_rfl
theorem Tryd.enter41 (args : Array Value) (w : World) : (callFunc 41 args).run Tryd.prog w = .ok (.enter 41 args) w := by kernel_rfl
theorem Tryd.enter47 (args : Array Value) (w : World) : (callFunc 47 args).run Tryd.prog w = .ok (.enter 47 args) w := by kernel_rfl
theorem Tryd.enter50 (args : Array Value) (w : World) : (callFunc 50 args).run Tryd.prog w = .ok (.enter 50 args) w := by kernel_rfl
theorem Tryd.enter51 (args : Array Value) (w : World) : (callFunc 51 args).run Tryd.prog w = .ok (.enter 51 args) w := by kernel_rfl
theorem Tryd.enter53 (args : Array Value) (w : World) : (callFunc 53 args).run Tryd.prog w = .ok (.enter 53 args) w := by kernel_rfl
theorem Tryd.enter54 (args : Array Value) (w : World) : (callFunc 54 args).run Tryd.prog w = .ok (.enter 54 args) w := by kernel_rfl
theorem Tryd.enter55 (args : Array Value) (w : World) : (callFunc 55 args).run Tryd.prog w = .ok (.enter 55 args) w := by kernel_rfl
theorem Tryd.enter56 (args : Array Value) (w : World) : (callFunc 56 args).run Tryd.prog w = .ok (.enter 56 args) w := by kernel_rfl
theorem Tryd.enter57 (args : Array Value) (w : World) : (callFunc 57 args).run Tryd.prog w = .ok (.enter 57 args) w := by kernel_rfl
theorem Tryd.enter58 (args : Array Value) (w : World) : (callFunc 58 args).run Tryd.prog w = .ok (.enter 58 args) w := by kernel_rfl
theorem Tryd.enter59 (args : Array Value) (w : World) : (callFunc 59 args).run Tryd.prog w = .ok (.enter 59 args) w := by kernel_rfl
theorem Tryd.enter60 (args : Array Value) (w : World) : (callFunc 60 args).run Tryd.prog w = .ok (.enter 60 args) w := by kernel_rfl
theorem Tryd.enter61 (args : Array Value) (w : World) : (callFunc 61 args).run Tryd.prog w = .ok (.enter 61 args) w := by kernel_rfl
theorem Tryd.enter62 (args : Array Value) (w : World) : (callFunc 62 args).run Tryd.prog w = .ok (.enter 62 args) w := by kernel_rfl
theorem Tryd.enter63 (args : Array Value) (w : World) : (callFunc 63 args).run Tryd.prog w = .ok (.enter 63 args) w := by kernel_rfl
theorem Tryd.enter68 (args : Array Value) (w : World) : (callFunc 68 args).run Tryd.prog w = .ok (.enter 68 args) w := by kernel_rfl
theorem Tryd.enter69 (args : Array Value) (w : World) : (callFunc 69 args).run Tryd.prog w = .ok (.enter 69 args) w := by kernel_rfl
theorem Tryd.enter70 (args : Array Value) (w : World) : (callFunc 70 args).run Tryd.prog w = .ok (.enter 70 args) w := by kernel_rfl
theorem Tryd.enter71 (args : Array Value) (w : World) : (callFunc 71 args).run Tryd.prog w = .ok (.enter 71 args) w := by kernel_rfl
theorem Tryd.enter72 (args : Array Value) (w : World) : (callFunc 72 args).run Tryd.prog w = .ok (.enter 72 args) w := by kernel_rfl
theorem Tryd.enter73 (args : Array Value) (w : World) : (callFunc 73 args).run Tryd.prog w = .ok (.enter 73 args) w := by kernel_rfl
theorem Tryd.enter74 (args : Array Value) (w : World) : (callFunc 74 args).run Tryd.prog w = .ok (.enter 74 args) w := by kernel_rfl
theorem Tryd.enter75 (args : Array Value) (w : World) : (callFunc 75 args).run Tryd.prog w = .ok (.enter 75 args) w := by kernel_rfl
theorem Tryd.enter77 (args : Array Value) (w : World) : (callFunc 77 args).run Tryd.prog w = .ok (.enter 77 args) w := by kernel_rfl
theorem Tryd.enter78 (args : Array Value) (w : World) : (callFunc 78 args).run Tryd.prog w = .ok (.enter 78 args) w := by kernel_rfl
theorem Tryd.enter79 (args : Array Value) (w : World) : (callFunc 79 args).run Tryd.prog w = .ok (.enter 79 args) w := by kernel_rfl
theorem Tryd.enter80 (args : Array Value) (w : World) : (callFunc 80 args).run Tryd.prog w = .ok (.enter 80 args) w := by kernel_rfl
theorem Tryd.enter81 (args : Array Value) (w : World) : (callFunc 81 args).run Tryd.prog w = .ok (.enter 81 args) w := by kernel_rfl
theorem at_head {xs : List (BitVec 8)} (hx : xs.length = 32) (j : Nat) (l : List Value) : (xs.map V ++ l)[32 + j]? = l[j]? := by
  rw [List.getElem?_append_right (by rw [List.length_map, hx]; omega), List.length_map, hx, Nat.add_sub_cancel_left]
theorem range_of_head {xs : List (BitVec 8)} (hx : xs.length = 32) (j : Nat) (l m : List Value) (hm : (l.drop j).take m.length = m) : ∀ (i : Nat) (v : Value), m[i]? = some v → (xs.map V ++ l)[32 + j + i]? = some v := by
  intro i v hi
  rw [Nat.add_assoc, at_head hx, ← List.getElem?_drop, ← hi]
  conv => rhs; rw [← hm]
  have : i < m.length := by
    rcases Nat.lt_or_ge i m.length with h | h
    · exact h
    · rw [List.getElem?_eq_none h] at hi; cases hi
  rw [List.getElem?_take, if_pos this]
theorem range_of_drop (j : Nat) (l m : List Value) (hm : (l.drop j).take m.length = m) : ∀ (i : Nat) (v : Value), m[i]? = some v → l[j + i]? = some v := by
  intro i v hi
  rw [← List.getElem?_drop, ← hi]
  conv => rhs; rw [← hm]
  have : i < m.length := by
    rcases Nat.lt_or_ge i m.length with h | h
    · exact h
    · rw [List.getElem?_eq_none h] at hi; cases hi
  rw [List.getElem?_take, if_pos this]
theorem Ob.there {w : World} {b : Nat} {T : TypeId} {cs : List Value} (h : Ob w b T cs) (i : Nat) (hi : i < cs.length) : w.there b i 1 := by
  intro j hj
  obtain rfl : j = 0 := by omega
  refine ⟨?_, frozen_of_row w b (i + 0) _ T h⟩
  rw [h.cell (i + 0) (List.getElem?_eq_getElem (by simpa using hi))]
  rfl
theorem Ob.setCell_other {w : World} {b g : Nat} {T : TypeId} {cs : List Value} (h : Ob w b T cs) (i : Nat) (v : Value) (hne : b ≠ g) : Ob (w.setCell ⟨g, i, none⟩ v) b T cs := h.only ((Only.refl g w).setCell i v) hne
theorem below_setCell (B g i : Nat) (w : World) (v : Value) (hB : B ≤ g) : Below B w (w.setCell ⟨g, i, none⟩ v) := (Below.refl _ _).setCell (by exact hB) v
theorem Ob.bytes {w : World} {b : Nat} {T : TypeId} {xs : List (BitVec 8)} {cs : List Value} (h : Ob w b T (xs.map V ++ cs)) : HasB w b 0 xs := fun i hi => by
  rw [h.cell (0 + i) (v := V (xs.getD i 0)) ?_]
  · rfl
  · rw [Nat.zero_add, List.getElem?_append_left (by simpa using hi), List.getElem?_map, List.getElem?_eq_getElem hi]
    simp [List.getD_eq_getElem?_getD, hi]
/-- A tuple of something and a value. -/
def Fk.t2 (q : Fk) (n : Value) : Fk := .inr (.inl ⟨fun v w => ∃ u, v = .tuple #[u, n] ∧ q.f u w, by
  rintro v w w' ⟨u, e, h⟩ hb
  exact ⟨u, e, Fk.mono _ _ _ _ h hb⟩⟩)
section
variable {Q : Exit → Act → World → Prop} {o : Oper} {a : Act} {w : World} {q : Fk}
theorem st_t2a (x : Operand) (ho : o.op = .extract x 0) {n : Value} (h : (Fk.t2 q n).f (a.eval x) w) : o.wp Tryd.prog a w (Ends a o.dst w q.f) Q := by
  obtain ⟨u, e, hu⟩ := h
  exact st_ext0 x ho e hu
theorem st_t2b (x : Operand) (ho : o.op = .extract x 1) {n : Value} (h : (Fk.t2 q n).f (a.eval x) w) : o.wp Tryd.prog a w (Ends a o.dst w (Fk.eq n).f) Q := by
  obtain ⟨u, e, hu⟩ := h
  exact st_ext1 x ho e rfl
theorem st_loadhd (x : Operand) (ho : o.op = .load 23 x) (b : Nat) {T : TypeId} (xs : List (BitVec 8)) {cs : List Value} (hx : a.eval x = .pointer (some ⟨b, 0, none⟩)) (hl : xs.length = 32) (h : Ob w b T (xs.map V ++ cs)) : o.wp Tryd.prog a w (Ends a o.dst w (Fk.eq (.agg (xs.map V).toArray)).f) Q :=
  st_loadh x ho ⟨b, 0, hx, hl, h.lt, h.bytes⟩
theorem Tryd.elem36b : Tryd.prog.elem 36 = 5 := by kernel_rfl
theorem st_lenb (x : Operand) (ho : o.op = .call { callee := .builtin .len, args := #[x], argTypes := #[36] }) {bs : List (BitVec 8)} (h : (Fk.sl bs).f (a.eval x) w) : o.wp Tryd.prog a w (Ends a o.dst w (Fk.eq (.int .i64 (bs.length : Int))).f) Q := by
  obtain ⟨sp, m, c, b, so, e, hs⟩ := h
  refine st_pure (v := .int .i64 (bs.length : Int)) ?_ rfl
  have h1 := run_len_slice (P := Tryd.prog) (w := w) 36 o.type sp m c (by rw [Tryd.elem36b]; exact Tryd.under36)
  rw [hs.len] at h1 e
  unfold execOp
  simp [ho, resolve, invoke, builtin, e, h1, goInt]
end
theorem wl_str {P : Program} {ops : Array Oper} {rest : List Oper} {o : Oper} {a : Act} {w : World} {Q : Exit → Act → World → Prop} (hgd : o.guard = none) (ty : TypeId) (x y : Operand) (ho : o.op = .store ty x y) (hd : o.dst = none) (g : Nat) (cells : Array Value) (hx : a.eval x = .pointer (some ⟨g, 0, none⟩)) (hy : a.eval y = .agg cells)
    (t : TypeId) (old : Array Value) (hg : w.heap[g]? = some (.cells old t (0, 0))) (hi : (P.info? ty).map (·.size) = some cells.size) (hold : old.size = cells.size) (h1 : cells.all (·.oneCell') = true)
    (h : wpList P ops Q rest a (w.setRow g cells)) : wpList P ops Q (o :: rest) a w :=
  wpList_store_row hgd ty x y ho g cells hx hy t old hg hi hold h1 (by rw [hd]; exact h)
theorem ret_two {fn : Func} {t u : Tmp} (h : fn.results = #[.tmp t, .tmp u]) (a : Act) (x y : Value) (ht : a.eval (.tmp t) = x) (hu : a.eval (.tmp u) = y) (P : Program) (w : World) : (results fn a.tmps).run P w = .ok (.tuple #[x, y]) w := by
  have h1 : a.tmps.getD t undef = x := ht
  have h2 : a.tmps.getD u undef = y := hu
  rw [← h1, ← h2]
  simp [results, h]
end Go.Proofs.YtnanipeapjpkfaaDoor
namespace Go.Proofs.YtnanipeapjpkfaaDoor
set_option maxRecDepth 100000
open Go.RowKit
section
variable {P : Program} {ops : Array Oper} {Q : Exit → Act → World → Prop}
/-- A store that does not look at slot d. -/
def storeFree (o : Oper) (d : Nat) : Bool := match o.op with
  | .store _ (.tmp x) (.tmp y) => (x != d) && (y != d) && o.guard.isNone && o.dst.isNone
  | _ => false
theorem storeFree_spec {o : Oper} {d : Nat} (h : storeFree o d = true) : ∃ T x y, o.op = .store T (.tmp x) (.tmp y) ∧ x ≠ d ∧ y ≠ d ∧ o.guard = none ∧ o.dst = none := by
  unfold storeFree at h
  split at h
  · rename_i T x y e
    simp only [Bool.and_eq_true, bne_iff_ne, ne_eq, Option.isNone_iff_eq_none] at h
    exact ⟨T, x, y, e, h.1.1.1, h.1.1.2, h.1.2, h.2⟩
  · cases h
theorem storeFree_guard {o : Oper} {d : Nat} (h : storeFree o d = true) : o.guard = none := by obtain ⟨_, _, _, _, _, _, h, _⟩ := storeFree_spec h; exact h
theorem storeFree_dst {o : Oper} {d : Nat} (h : storeFree o d = true) : o.dst = none := by obtain ⟨_, _, _, _, _, _, _, h⟩ := storeFree_spec h; exact h
theorem storeFree_eval {o om : Oper} {d : Nat} {v : Value} (h : storeFree o d = true) (hd : om.dst = some d) (a : Act) : execOp (a.put om.dst v).eval o = execOp a.eval o := by
  obtain ⟨T, x, y, e, hx, hy, _, _⟩ := storeFree_spec h
  rw [hd]
  unfold execOp
  rw [e]
  simp only [put_eval_other a d v x (fun h => hx h.symm), put_eval_other a d v y (fun h => hy h.symm)]
theorem wl_skip {o : Oper} {rest : List Oper} {a : Act} {w w2 : World} (hgd : o.guard = none) (hd : o.dst = none) (hr : (execOp a.eval o).run P w = .ok .skip w2) (h : wpList P ops Q rest a w2) : wpList P ops Q (o :: rest) a w := by
  unfold wpList
  rw [if_pos (by unfold Region.wanted; rw [hgd])]
  refine .inl ?_
  unfold Oper.wp
  rw [hr]
  unfold Oper.upon
  rw [hd]
  exact h
theorem wl_val {o : Oper} {rest : List Oper} {a : Act} {w w2 : World} {v : Value} (hgd : o.guard = none) (hr : (execOp a.eval o).run P w = .ok (.value v) w2) (h : wpList P ops Q rest (a.put o.dst v) w2) : wpList P ops Q (o :: rest) a w := by
  unfold wpList
  rw [if_pos (by unfold Region.wanted; rw [hgd])]
  refine .inl ?_
  unfold Oper.wp
  rw [hr]
  exact h
/-- Each from number k on waits, in the end, for all ahead of number k but for m; each behind k for m too. -/
def coverBut (ops : List Oper) (k m : Nat) : Bool := (List.range ops.length).all fun j => decide (j < k) || (((List.range k).all fun i => i == m || (clo ops 8 (tgts ops j)).contains i) && (j == k || (clo ops 8 (tgts ops j)).contains m))
def firstBut (k n m : Nat) : Array Bool := Array.ofFn (n := n) fun i => decide (i.val < k) && (i.val != m)
theorem wp_mids_late {qs : List Fk} {a0 : Act} {w0 : World} (m dm : Nat) (so om : Oper) (rest : List Nat) (hk : qs.length ≤ ops.size) (hE : backOk ops.toList = true) (hC : coverBut ops.toList qs.length m = true) (hJ : chainOk ops (firstK qs.length ops.size) (qs.length :: rest) = true)
    (hJ2 : chainOk ops ((firstBut qs.length ops.size m).setIfInBounds qs.length true) (m :: rest) = true) (hso : ops[qs.length]? = some so) (hom : ops[m]? = some om) (hsf : storeFree so dm = true) (hmd : om.dst = some dm) (hmk : decide (m < qs.length) = true) (hmg : om.guard = none)
    (hM : ∀ a w, Known ops.toList qs.length (fkAt qs) a0 w0 om a w → ∃ v, (∀ w', (execOp a.eval om).run P w' = .ok (.value v) w') ∧ fkAt qs m v w)
    (hD : dstsOk a0.tmps.size (ops.toList.take qs.length) = true) (hG : guardsOk ops.toList qs.length qs ops.toList qs = true)
    (hS : Steps P Q ops.toList qs.length qs a0 w0 ops.toList qs)
    (hF : ∀ af w', Final ops.toList qs a0 af w' → Below w0.heap.size w0 w' → ∃ w2, (execOp af.eval so).run P w' = .ok .skip w2 ∧ wpList P ops Q (rest.filterMap (ops[·]?)) af w2) :
    ∀ (fuel : Nat) (listed : Array Bool) (a : Act) (w : World), unl listed ≤ fuel → Closed ops listed → Mids ops qs.length (fkAt qs) a0 w0 listed a w → wpAny P .any ops Q fuel listed a w := by
  have hfin : ∀ (listed : Array Bool) (a : Act) (w : World), Mids ops qs.length (fkAt qs) a0 w0 listed a w → (∀ i, i < qs.length → listed.getD i false = true) → Final ops.toList qs a0 a w := by
    intro listed a w hm hall
    refine ⟨hm.defs, hm.size, fun t ht => eval_of_get (hm.old t ht), fun i d h => ?_⟩
    simp only [Bool.and_eq_true, decide_eq_true_eq, beq_iff_eq] at h
    obtain ⟨hi, hd⟩ := h
    cases ho : ops.toList[i]? with
    | none => rw [ho] at hd; simp at hd
    | some o =>
      rw [ho] at hd
      exact hm.has i o d hi (by rw [← Array.getElem?_toList]; exact ho) (by simpa using hd) (hall i hi)
  have hend : ∀ (fuel : Nat) (listed : Array Bool) (a : Act) (w : World), unl listed ≤ fuel → Mids ops qs.length (fkAt qs) a0 w0 listed a w → (∀ i, i < qs.length → listed.getD i false = true) → wpAny P .any ops Q fuel listed a w := by
    intro fuel listed a w hu hm hall
    have he : listed = firstK qs.length ops.size := by
      apply Array.ext (by simp [firstK, hm.lsize])
      intro i h1 h2
      simp only [firstK, Array.getElem_ofFn]
      by_cases hi : i < qs.length
      · have := hall i hi
        simp [h1] at this
        simp [this, hi]
      · have h3 : i < ops.size := by rw [hm.lsize] at h1; exact h1
        have := hm.last i (by omega) h3
        simp [h1] at this
        simp [this, hi]
    have hJ' : chainOk ops listed (qs.length :: rest) = true := by rw [he]; exact hJ
    have hlen := chain_len (qs.length :: rest) listed hJ'
    refine any_list (qs.length :: rest) fuel listed a w hJ' (by omega) ?_
    obtain ⟨w2, hr, hw⟩ := hF a w (hfin listed a w hm hall) hm.grow
    rw [List.filterMap_cons, hso]
    exact wl_skip (storeFree_guard hsf) (storeFree_dst hsf) hr hw
  intro fuel
  induction fuel with
  | zero =>
    intro listed a w hu hcl hm
    have hall := unl_zero (listed := listed) (by omega)
    refine hend 0 listed a w hu hm (fun i hi => ?_)
    have hil : i < listed.size := by rw [hm.lsize]; omega
    rw [← getD_tf hil]; exact hall i hil
  | succ fuel ih =>
    intro listed a w hu hcl hm
    by_cases hall : ∀ i, i < qs.length → listed.getD i false = true
    · exact hend (fuel + 1) listed a w hu hm hall
    · have hex : ∃ i0, i0 < qs.length ∧ listed.getD i0 false = false := by
        apply Classical.byContradiction
        intro hno
        apply hall
        intro i hi
        cases hq : listed.getD i false with
        | true => rfl
        | false => exact absurd ⟨i, hi, hq⟩ hno
      obtain ⟨i0, hi0, hi0u⟩ := hex
      refine ⟨fun hr => ?_, fun i hi => ?_⟩
      · exfalso
        have hu0 := ready_back hE hm.lsize hr
        have hil : i0 < listed.size := by rw [hm.lsize]; omega
        have := unl_zero hu0 i0 hil
        rw [getD_tf hil, hi0u] at this
        cases this
      · obtain ⟨hun, o, ho, hdep⟩ := mem_ready.1 hi
        have hio : i < ops.size := (Array.getElem?_eq_some_iff.1 ho).1
        have hu' := unl_set hun
        have hil : i < listed.size := by rw [hm.lsize]; exact hio
        have htg : ∀ j ∈ tgt o, listed.getD j false = true := fun j hj => by
          obtain ⟨e, he, hb, rfl⟩ := mem_tgt.1 hj
          exact hdep e he hb
        rcases Nat.lt_or_ge i qs.length with hik | hik
        case inr =>
          have hmk' : m < qs.length := of_decide_eq_true hmk
          have hcl4 : ∀ i1, i1 ∈ clo ops.toList 8 (tgts ops.toList i) → listed.getD i1 false = true := clo_listed hcl 8 (tgts ops.toList i) (fun j hj => by
            unfold tgts at hj
            rw [Array.getElem?_toList, ho] at hj
            exact htg j (by simpa using hj))
          have hcov : ∀ i1, i1 < qs.length → i1 ≠ m → listed.getD i1 false = true := by
            intro i1 h1 h2
            unfold coverBut at hC
            have h3 := List.all_eq_true.1 hC i (by simpa using hio)
            simp only [Bool.or_eq_true, decide_eq_true_eq, Bool.and_eq_true] at h3
            rcases h3 with h3 | h3
            · omega
            · have h4 := List.all_eq_true.1 h3.1 i1 (by simpa using h1)
              simp only [Bool.or_eq_true, beq_iff_eq] at h4
              rcases h4 with h4 | h4
              · exact absurd h4 h2
              · exact hcl4 i1 (by simpa using h4)
          have hum : listed.getD m false = false := by
            by_cases e : i0 = m
            · rw [← e]; exact hi0u
            · rw [hcov i0 hi0 e] at hi0u; cases hi0u
          have hiq : i = qs.length := by
            unfold coverBut at hC
            have h3 := List.all_eq_true.1 hC i (by simpa using hio)
            simp only [Bool.or_eq_true, decide_eq_true_eq, Bool.and_eq_true, beq_iff_eq] at h3
            rcases h3 with h3 | h3
            · omega
            · rcases h3.2 with h4 | h4
              · exact h4
              · have h5 := hcl4 m (by simpa using h4)
                rw [hum] at h5; cases h5
          subst hiq
          obtain rfl : o = so := Option.some.inj (ho.symm.trans hso)
          have hml : m < listed.size := by rw [hm.lsize]; omega
          have hto : (ops.toList.take qs.length)[m]? = some om := by rw [List.getElem?_take, if_pos hmk', Array.getElem?_toList]; exact hom
          obtain ⟨d, hd, hlt, hallD⟩ := dstsOk_spec hD m om hto
          obtain rfl : d = dm := Option.some.inj (hd.symm.trans hmd)
          have hKm : Known ops.toList qs.length (fkAt qs) a0 w0 om a w := by
            refine ⟨fun t ht => eval_of_get (hm.old t ht), fun j d hj => ?_, hm.grow⟩
            unfold depOk at hj
            simp only [Bool.and_eq_true, decide_eq_true_eq, beq_iff_eq, Array.getElem?_toList] at hj
            obtain ⟨⟨hjk, hany⟩, hd⟩ := hj
            obtain ⟨e, he, hb⟩ := List.any_eq_true.1 hany
            simp only [Bool.and_eq_true, beq_iff_eq] at hb
            have hjm : j ≠ m := by
              intro hjm
              unfold backOk at hE
              have h1 := List.all_eq_true.1 hE m (by simp; omega)
              simp only [Array.getElem?_toList, hom, Option.map_some, Option.getD_some] at h1
              have h2 := List.all_eq_true.1 h1 e he
              rw [hb.1, hb.2, hjm] at h2
              simp at h2
            cases hoj : ops[j]? with
            | none => rw [hoj] at hd; simp at hd
            | some oj =>
              rw [hoj] at hd
              exact hm.has j oj d hjk hoj (by simpa using hd) (hcov j hjk hjm)
          obtain ⟨v, hrun, hφ⟩ := hM a w hKm
          have hm1 : Mids ops qs.length (fkAt qs) a0 w0 (listed.setIfInBounds m true) (a.put om.dst v) w := by
            refine ⟨by rw [put_size]; exact hm.size, by rw [put_def]; exact hm.defs, by simp; exact hm.lsize, fun t ht => ?_, fun j oj dj hj hoj hdj hlj => ?_, fun j hj1 hj2 => ?_, hm.grow⟩
            · rw [put_other _ _ _ _ (freeOf_spec ht hto)]; exact hm.old t ht
            · by_cases e : j = m
              · subst e
                obtain rfl : oj = om := Option.some.inj (hoj.symm.trans hom)
                obtain rfl : dj = d := Option.some.inj (hdj.symm.trans hd)
                have hev : (a.put oj.dst v).eval (.tmp dj) = v := by
                  have := put_same a dj v (by rw [hm.size]; exact hlt)
                  rw [← hd] at this
                  simp [Act.eval, this]
                rw [hev]; exact hφ
              · have htj : (ops.toList.take qs.length)[j]? = some oj := by rw [List.getElem?_take, if_pos hj, Array.getElem?_toList]; exact hoj
                have hne : om.dst ≠ some dj := fun h => by
                  have : d = dj := Option.some.inj (hd.symm.trans h)
                  exact hallD j oj htj e (by rw [this]; exact hdj)
                rw [eval_of_get (put_other a om.dst v dj hne)]
                refine hm.has j oj dj hj hoj hdj ?_
                have hne2 : m ≠ j := fun h => e h.symm
                simpa [Array.getElem?_setIfInBounds, hne2] using hlj
            · have hne : m ≠ j := by omega
              have := hm.last j hj1 hj2
              simpa [Array.getElem?_setIfInBounds, hne] using this
          have hall1 : ∀ i, i < qs.length → (listed.setIfInBounds m true).getD i false = true := by
            intro i1 h1
            by_cases e : i1 = m
            · subst e; exact getD_set_same hml
            · have hne : m ≠ i1 := fun h => e h.symm
              have := hcov i1 h1 e
              simpa [Array.getElem?_setIfInBounds, hne] using this
          obtain ⟨w2, hr, hw⟩ := hF _ w (hfin _ _ _ hm1 hall1) hm.grow
          have he : listed = firstBut qs.length ops.size m := by
            apply Array.ext (by simp [firstBut, hm.lsize])
            intro i1 h1 h2
            simp only [firstBut, Array.getElem_ofFn]
            by_cases hi1 : i1 < qs.length
            · by_cases e : i1 = m
              · subst e
                simp [h1] at hum
                simp [hum]
              · have := hcov i1 hi1 e
                simp [h1] at this
                simp [this, hi1, e]
            · have h3 : i1 < ops.size := by rw [hm.lsize] at h1; exact h1
              have := hm.last i1 (by omega) h3
              simp [h1] at this
              simp [this, hi1]
          have hrs : (execOp a.eval o).run P w = .ok .skip w2 := by
            rw [← storeFree_eval (v := v) hsf hmd a]; exact hr
          unfold wpOp
          rw [ho]
          show if Region.wanted o (yielded ops a.tmps) = true then _ else _
          rw [if_pos (by unfold Region.wanted; rw [storeFree_guard hsf])]
          refine .inl ?_
          unfold Oper.wp
          rw [hrs]
          unfold Oper.upon
          rw [storeFree_dst hsf]
          have hJ3 : chainOk ops (listed.setIfInBounds qs.length true) (m :: rest) = true := by rw [he]; exact hJ2
          have hlen := chain_len (m :: rest) _ hJ3
          refine any_list (m :: rest) fuel _ _ w2 hJ3 (by omega) ?_
          rw [List.filterMap_cons, hom]
          exact wl_val hmg (hrun w2) hw
        case inl =>
          have hK : Known ops.toList qs.length (fkAt qs) a0 w0 o a w := by
            refine ⟨fun t ht => eval_of_get (hm.old t ht), fun j d hj => ?_, hm.grow⟩
            unfold depOk at hj
            simp only [Bool.and_eq_true, decide_eq_true_eq, beq_iff_eq, Array.getElem?_toList] at hj
            obtain ⟨⟨hjk, hany⟩, hd⟩ := hj
            obtain ⟨e, he, hb⟩ := List.any_eq_true.1 hany
            simp only [Bool.and_eq_true, beq_iff_eq] at hb
            have hl := hdep e (by simpa using he) hb.2
            rw [hb.1] at hl
            cases hoj : ops[j]? with
            | none => rw [hoj] at hd; simp at hd
            | some oj =>
              rw [hoj] at hd
              exact hm.has j oj d hjk hoj (by simpa using hd) hl
          have hto : (ops.toList.take qs.length)[i]? = some o := by rw [List.getElem?_take, if_pos hik, Array.getElem?_toList]; exact ho
          obtain ⟨d, hd, hlt, hallD⟩ := dstsOk_spec hD i o hto
          have hcl' : Closed ops (listed.setIfInBounds i true) := by
            intro m om hom hml j hj
            by_cases e : m = i
            · subst e
              obtain rfl : om = o := Option.some.inj (hom.symm.trans ho)
              have h1 := htg j hj
              by_cases e2 : j = m
              · subst e2; exact getD_set_same hil
              · have hne : m ≠ j := fun h => e2 h.symm
                simpa [Array.getElem?_setIfInBounds, hne] using h1
            · have hne : i ≠ m := fun h => e h.symm
              have hml' : listed.getD m false = true := by simpa [Array.getElem?_setIfInBounds, hne] using hml
              have h1 := hcl m om hom hml' j hj
              by_cases e2 : j = i
              · subst e2; exact getD_set_same hil
              · have hne2 : i ≠ j := fun h => e2 h.symm
                simpa [Array.getElem?_setIfInBounds, hne2] using h1
          have hnext : ∀ v w', Below w.heap.size w w' → fkAt qs i v w' → wpAny P .any ops Q fuel (listed.setIfInBounds i true) (a.put o.dst v) w' := by
            intro v w' hb hf
            refine ih _ _ _ (by omega) hcl' ⟨by rw [put_size]; exact hm.size, by rw [put_def]; exact hm.defs, by simp; exact hm.lsize, fun t ht => ?_, fun j oj dj hj hoj hdj hlj => ?_, fun j hj1 hj2 => ?_, hm.grow.trans (hb.mono hm.grow.size)⟩
            · rw [put_other _ _ _ _ (freeOf_spec ht hto)]; exact hm.old t ht
            · by_cases e : j = i
              · subst e
                obtain rfl : oj = o := Option.some.inj (hoj.symm.trans ho)
                obtain rfl : dj = d := Option.some.inj (hdj.symm.trans hd)
                have hev : (a.put oj.dst v).eval (.tmp dj) = v := by
                  have := put_same a dj v (by rw [hm.size]; exact hlt)
                  rw [← hd] at this
                  simp [Act.eval, this]
                rw [hev]; exact hf
              · have htj : (ops.toList.take qs.length)[j]? = some oj := by rw [List.getElem?_take, if_pos hj, Array.getElem?_toList]; exact hoj
                have hne : o.dst ≠ some dj := fun h => by
                  have : d = dj := Option.some.inj (hd.symm.trans h)
                  exact hallD j oj htj e (by rw [this]; exact hdj)
                rw [eval_of_get (put_other a o.dst v dj hne)]
                refine Fk.mono _ _ w w' (hm.has j oj dj hj hoj hdj ?_) hb
                have hne2 : i ≠ j := fun h => e h.symm
                simpa [Array.getElem?_setIfInBounds, hne2] using hlj
            · have hne : i ≠ j := by omega
              have := hm.last j hj1 hj2
              simpa [Array.getElem?_setIfInBounds, hne] using this
          have hyield : ∀ (j : Nat) (b c : Bool), o.guard = some (j, b) → (∃ d, depOk ops.toList qs.length o j d = true) → (∀ v w, fkAt qs j v w → v = .bool c) → yielded ops a.tmps j = some c := by
            rintro j b c hg ⟨d, hd⟩ hbool
            have hv := hbool _ _ (hK.dep j d hd)
            have hd2 : (ops[j]?).bind (·.dst) = some d := by
              unfold depOk at hd
              simp only [Bool.and_eq_true, decide_eq_true_eq, beq_iff_eq, Array.getElem?_toList] at hd
              exact hd.2
            have hget : a.tmps[d]? = some (.bool c) := by
              simp only [Act.eval, Array.getD_eq_getD_getElem?] at hv
              cases hq : a.tmps[d]? with
              | none => rw [hq] at hv; simp [undef] at hv
              | some u => rw [hq] at hv; simp at hv; rw [hv]
            unfold yielded
            rw [hd2]
            simp only [Option.bind_some, hget]
          unfold wpOp
          rw [ho]
          show if Region.wanted o (yielded ops a.tmps) = true then _ else _
          have hyes : Region.wanted o (yielded ops a.tmps) = true → wantedBy qs o = true → (if Region.wanted o (yielded ops a.tmps) = true then o.wp P a w (wpAny P .any ops Q fuel (listed.setIfInBounds i true)) Q ∨ (o.asks P a w ∧ LetsOut Q) else wpAny P .any ops Q fuel (listed.setIfInBounds i true) (a.put o.dst undef) w) := by
            intro hwant hwb
            rw [if_pos hwant]
            refine .inl (Oper.wp_mono ?_ (hS.get i o hik (by rw [Array.getElem?_toList]; exact ho) hwb a w hK))
            rintro a' w' ⟨v, rfl, hb, hf⟩
            exact hnext v w' hb hf
          cases hg : o.guard with
          | none => exact hyes (by unfold Region.wanted; rw [hg]) (by unfold wantedBy; rw [hg])
          | some jb =>
            obtain ⟨j, b⟩ := jb
            obtain ⟨hdp, h2⟩ := guardsOk_spec hG i o j b hik (by rw [Array.getElem?_toList]; exact ho) hg
            rcases h2 with h2 | h2
            · refine hyes ?_ (by unfold wantedBy; rw [hg]; exact h2)
              unfold Region.wanted
              rw [hg]
              show (yielded ops a.tmps j == some b) = true
              rw [hyield j b b hg hdp (Fk.isBool_spec h2)]; simp
            · have hno : Region.wanted o (yielded ops a.tmps) = false := by
                unfold Region.wanted
                rw [hg]
                show (yielded ops a.tmps j == some b) = false
                rw [hyield j b (!b) hg hdp (Fk.isBool_spec h2.1)]; cases b <;> rfl
              rw [if_neg (by rw [hno]; simp)]
              exact hnext undef w (Below.refl _ _) (Fk.isAny_spec h2.2 _ _)
/-- A drawn region: its first operations by steps; then a store that may come ahead of number m, which only takes a value out; then the others. -/
theorem wp_region_late {id : Nat} {a0 : Act} {w : World} (qs : List Fk) (m dm : Nat) (so om : Oper) (rest : List Nat) (hm : P.follows .mixedOrders = true) (hk : decide (qs.length ≤ ops.size) = true) (hE : backOk ops.toList = true) (hC : coverBut ops.toList qs.length m = true) (hJ : chainOk ops (firstK qs.length ops.size) (qs.length :: rest) = true)
    (hJ2 : chainOk ops ((firstBut qs.length ops.size m).setIfInBounds qs.length true) (m :: rest) = true) (hso : ops[qs.length]? = some so) (hom : ops[m]? = some om) (hsf : storeFree so dm = true) (hmd : om.dst = some dm) (hmk : decide (m < qs.length) = true) (hmg : om.guard = none)
    (hD : dstsOk a0.tmps.size (ops.toList.take qs.length) = true) (hG : guardsOk ops.toList qs.length qs ops.toList qs = true)
    (hM : ∀ a w', Known ops.toList qs.length (fkAt qs) a0 w om a w' → ∃ v, (∀ w2, (execOp a.eval om).run P w2 = .ok (.value v) w2) ∧ fkAt qs m v w')
    (hS : Steps P Q ops.toList qs.length qs a0 w ops.toList qs)
    (hF : ∀ af w', Final ops.toList qs a0 af w' → Below w.heap.size w w' → ∃ w2, (execOp af.eval so).run P w' = .ok .skip w2 ∧ wpList P ops Q (rest.filterMap (ops[·]?)) af w2) :
    (Code.region id ops true).wp P Q a0 w := by
  refine wp_region_any hm ?_
  refine wp_mids_late m dm so om rest (of_decide_eq_true hk) hE hC hJ hJ2 hso hom hsf hmd hmk hmg hM hD hG hS hF ops.size _ a0 _ ?_ ?_ ?_
  · unfold unl
    exact Nat.le_trans (Array.countP_le_size) (by simp)
  · intro i o ho hl
    have : i < ops.size := (Array.getElem?_eq_some_iff.1 ho).1
    simp [this] at hl
  · refine ⟨rfl, rfl, by simp, fun _ _ => rfl, fun i o d _ ho _ hl => ?_, fun i _ hi => ?_, (Below.refl _ _).drew⟩
    · have : i < ops.size := (Array.getElem?_eq_some_iff.1 ho).1
      simp [this] at hl
    · simp [hi]
end
/-- A value that is taken out of a tuple. -/
theorem late_ext {P : Program} {a : Act} {o : Oper} {x : Operand} {k : Nat} {vs : Array Value} {v : Value} (ho : o.op = .extract x k) (hx : a.eval x = .tuple vs) (hk : vs[k]? = some v) : ∀ w, (execOp a.eval o).run P w = .ok (.value v) w := by
  intro w
  unfold execOp
  rw [ho]
  simp [hx, Instr.extract, hk]
theorem run_str {P : Program} {o : Oper} {a : Act} {w : World} (ty : TypeId) (x y : Operand) (ho : o.op = .store ty x y) (g : Nat) (cells : Array Value) (hx : a.eval x = .pointer (some ⟨g, 0, none⟩)) (hy : a.eval y = .agg cells)
    (t : TypeId) (old : Array Value) (hg : w.heap[g]? = some (.cells old t (0, 0))) (hi : (P.info? ty).map (·.size) = some cells.size) (hold : old.size = cells.size) (h1 : cells.all (·.oneCell') = true) : (execOp a.eval o).run P w = .ok .skip (w.setRow g cells) := by
  have := run_storeVar_row (P := P) w g t ty old cells hg hi hold h1
  unfold execOp
  rw [ho]
  simp [hx, hy, Instr.storeAt, Instr.sureAddr, this]
theorem run_store23 {o : Oper} {a : Act} {w : World} (x y : Operand) (ho : o.op = .store 23 x y) (g : Nat) (zs ys : List (BitVec 8)) (hx : a.eval x = .pointer (some ⟨g, 0, none⟩)) (hy : a.eval y = .agg (zs.map V).toArray) (hv : Ob w g 23 (ys.map V)) (hl : ys.length = 32) (hz : zs.length = 32) :
    (execOp a.eval o).run Tryd.prog w = .ok .skip (w.setRow g (zs.map V).toArray) :=
  run_str 23 x y ho g _ hx hy 23 _ hv (by rw [List.size_toArray, List.length_map, hz]; exact Tryd.size23) (by simp [hl, hz]) (V_all _)
end Go.Proofs.YtnanipeapjpkfaaDoor
namespace Go.Proofs.YtnanipeapjpkfaaDoor
set_option maxRecDepth 100000
open Go.RowKit
section
variable {P : Program} {ops : Array Oper} {Q : Exit → Act → World → Prop} {S : World → Prop} {o : Oper} {a : Act}
theorem wh_take (i : Nat) (d : Nat) {v : Value} {fuel : Nat} {listed : Array Bool} {w : World} (hi : ops[i]? = some o) (hd : o.dst = some d) (hsz : d < a.tmps.size) (hg : o.guard = none)
    (hs : Region.noSelect ops = true) (hf : Region.free .any ops listed i = true) (hr : (Region.ready .any ops listed).contains i = true)
    (hQ : ∀ c a w, Q (.panic c) (a.put o.dst v) w → Q (.panic c) a w) (hy : ∀ w, S w → (execOp a.eval o).run P w = .ok (.value v) w) (hS : S w)
    (h : ∀ a2, a2.defers = a.defers → a2.tmps.size = a.tmps.size → (∀ t, (t == d) = false → a2.eval (.tmp t) = a.eval (.tmp t)) → a2.eval (.tmp d) = v → wpAnyH P .any ops Q S fuel (listed.setIfInBounds i true) a2 w) : wpAnyH P .any ops Q S (fuel + 1) listed a w := by
  refine wpAnyH_take hi hs hf hr hQ (.inl ⟨by unfold Region.wanted; rw [hg], hy⟩) hS ?_
  rw [hd]
  exact h _ (put_def _ _ _) (put_size _ _ _) (fun t ht => put_eval_other _ _ _ _ (fun e => by subst e; simp at ht)) (put_eval_same _ _ _ hsz)
theorem wh_call (i : Nat) (d : Nat) {fuel : Nat} {listed : Array Bool} {w : World} (hi : ops[i]? = some o) (hd : o.dst = some d) (hsz : d < a.tmps.size) (hg : o.guard = none) (hr : (Region.ready .any ops listed == [i]) = true)
    (f : FuncId) (x : Operand) (xs : Array Operand) (ts : Array TypeId) (vs : Array Value) (ho : o.op = .call { callee := .value x, args := xs, argTypes := ts }) (hx : a.eval x = .func (.func f) #[] #[]) (hv : (xs.toList.map a.eval).toArray = vs)
    (hf : ∀ args w, (callFunc f args).run P w = .ok (.enter f args) w) (R : Value → World → Prop) (hc : Calls P f vs w fun e w' => ∃ v, e = .returned v ∧ R v w')
    (h : ∀ a2 w2, a2.defers = a.defers → a2.tmps.size = a.tmps.size → (∀ t, (t == d) = false → a2.eval (.tmp t) = a.eval (.tmp t)) → R (a2.eval (.tmp d)) w2 → S w2 ∧ wpAnyH P .any ops Q S fuel (listed.setIfInBounds i true) a2 w2) : wpAnyH P .any ops Q S (fuel + 1) listed a w := by
  refine wpAnyH_all (eq_of_beq hr) (by simp) (fun j hj => ?_)
  obtain rfl : j = i := by simpa using hj
  have hrun : (execOp a.eval o).run P w = .ok (.enter f vs) w := by
    have hv' : xs.map a.eval = vs := by rw [← hv]; apply Array.toList_inj.1; simp
    unfold execOp; rw [ho]
    simp [resolve, hx, Deferred.ofValue, invoke, hv', hf]
  unfold wpOp
  rw [hi]
  show if Region.wanted o (yielded ops a.tmps) = true then _ else _
  rw [if_pos (by unfold Region.wanted; rw [hg])]
  refine .inl ?_
  unfold Oper.wp; rw [hrun]
  refine Calls.mono hc ?_
  rintro e w' ⟨v, rfl, h1⟩
  rw [hd]
  refine h _ _ (put_def _ _ _) (put_size _ _ _) (fun t ht => put_eval_other _ _ _ _ (fun e => by subst e; simp at ht)) ?_
  rw [put_eval_same _ _ _ hsz]
  exact h1
theorem wh_assign (i : Nat) (d : Nat) {fuel : Nat} {listed : Array Bool} {w : World} (hi : ops[i]? = some o) (hd : o.dst = some d) (hsz : d < a.tmps.size) (hg : o.guard = none) (hr : (Region.ready .any ops listed == [i]) = true) (x : Operand) (ho : o.op = .assign x) (hS : S w)
    (h : ∀ a2, a2.defers = a.defers → a2.tmps.size = a.tmps.size → (∀ t, (t == d) = false → a2.eval (.tmp t) = a.eval (.tmp t)) → a2.eval (.tmp d) = a.eval x → wpAnyH P .any ops Q S fuel (listed.setIfInBounds i true) a2 w) : wpAnyH P .any ops Q S (fuel + 1) listed a w := by
  refine wpAnyH_all (eq_of_beq hr) (by simp) (fun j hj => ?_)
  obtain rfl : j = i := by simpa using hj
  unfold wpOp
  rw [hi]
  show if Region.wanted o (yielded ops a.tmps) = true then _ else _
  rw [if_pos (by unfold Region.wanted; rw [hg])]
  refine .inl ?_
  unfold Oper.wp execOp
  rw [ho]
  show S w ∧ wpAnyH P .any ops Q S fuel _ (a.put o.dst (a.eval x)) w
  rw [hd]
  exact ⟨hS, h _ (put_def _ _ _) (put_size _ _ _) (fun t ht => put_eval_other _ _ _ _ (fun e => by subst e; simp at ht)) (put_eval_same _ _ _ hsz)⟩
theorem run_field {T f : Nat} {x : Operand} (ho : o.op = .fieldAddr T x f) {p r : Addr} (hx : a.eval x = .pointer (some p)) (hr : ∀ w, (Instr.fieldAt T (.pointer (some p)) f).run P w = .ok (.pointer (some r)) w) : ∀ w, S w → (execOp a.eval o).run P w = .ok (.value (.pointer (some r))) w := by
  intro w _
  unfold execOp
  rw [ho]
  simp [hx, hr]
theorem run_loadc {T : TypeId} {x : Operand} (ho : o.op = .load T x) (h1 : ∀ w, (isAgg T).run P w = .ok false w) {p : Addr} {u : Value} (hx : a.eval x = .pointer (some p)) (hc : ∀ w, S w → w.cell? p = some u) : ∀ w, S w → (execOp a.eval o).run P w = .ok (.value u) w := by
  intro w hS
  unfold execOp
  rw [ho]
  simp [hx, Instr.loadAt, Instr.sureAddr, loadVar, h1, run_load, hc w hS]
theorem run_mv {x : Operand} (ho : o.op = .move x) {v : Value} (hx : a.eval x = v) : ∀ w, S w → (execOp a.eval o).run P w = .ok (.value v) w := by
  intro w _
  unfold execOp
  rw [ho, ← hx]
  rfl
end
end Go.Proofs.YtnanipeapjpkfaaDoor
namespace Go.Proofs.YtnanipeapjpkfaaDoor
set_option maxRecDepth 100000
open Go.RowKit
set_option maxHeartbeats 400000 in
theorem leaf_any (b o : Nat) (a : Option Addr) (n c : Nat) (bs : List (BitVec 8)) (w : World) (hs : Sl w a n c bs b o) (hT : bs.length ≤ 900000) (hK : HasK w 0) (h0 : 0 < w.heap.size) :
    Calls Tryd.prog 24 #[.slice a n c] w fun e w' => e = .returned (.agg ((shaOf (kb 0 :: bs)).map V).toArray) ∧ Below w.heap.size w w' := by
  have hs' : Box (Sl w a n c bs b o) := ⟨hs⟩
  clear hs
  have hl : Box (((shaOf (kb 0 :: bs)).map V).toArray.size = 32) := ⟨by simp [shaOf_len]⟩
  obtain ⟨hh, hS⟩ : ∃ hh, Box (shaOf (kb 0 :: bs) = hh) := ⟨_, ⟨rfl⟩⟩
  rw [hS.out] at hl ⊢
  go_enter Tryd.func24, Tryd.ntmps24
  go_upto_region 1 with fail
  refine code_any (fun w1 => HasV w1 w.heap.size 23 (hsh St.first 0) ∧ Below w.heap.size w w1) ?_ ?_
  · exact ⟨heap_alloc_new _ _, (Below.refl _ _).alloc (Nat.le_refl _) _⟩
  rintro w1 ⟨hv1, hb1⟩
  go_wp2_with fail
  have hba : ∀ ob, Below w1.heap.size w1 (w1.alloc ob) := fun ob => (Below.refl _ _).alloc (Nat.le_refl _) _
  refine (tsum_any 0 _ 1 1 w1.heap.size 0 [⟨a, n, c, bs, b, o⟩] _ rfl (fun _ => rfl) (ls_new w1 36 [⟨a, n, c, bs, b, o⟩] (.cons (Pt.ok_below (p := ⟨a, n, c, bs, b, o⟩) hs'.out hb1) .nil)) (by simpa [cat] using hT) (by omega) ((hK.below hb1 h0).below (hba _) (by have := hb1.size; omega)) (by simp)).mono ?_
  rintro e w4 ⟨rfl, hb4⟩
  have hb5 := (hba _).trans (hb4.mono (by simp))
  have hv5 : w4.heap[w.heap.size]? = some (.cells ((hsh St.first 0).map V).toArray 23 (0, 0)) := hv1.below hb5 hv1.lt
  have hb6 : Below w.heap.size w w4 := hb1.trans (hb5.mono hb1.size)
  clear hv1 hb1 hb4 hb5 hs' hba
  rw [cat_one]
  rw [hS.out]
  go_wp2_with (refine wpList_store_row rfl 23 (.tmp 2) (.tmp 5) rfl w.heap.size (hh.map V).toArray rfl rfl 23 _ hv5 (by rw [hl.out]; exact Tryd.size23) (by rw [hl.out]; rfl) (V_all _) ?_)
  refine bodyPost_ret (v := .agg (hh.map V).toArray) ?_ rfl ⟨rfl, ?_⟩
  · exact results_cell_row (P := Tryd.prog) (fn := Tryd.f24) (p := 2) (ty := 23) rfl _ _ w.heap.size 23 _ (0, 0) _ rfl (setRow_heap _ _ _ _ 23 (0, 0) hv5) Tryd.under23 rfl (by rw [hl.out]; exact Tryd.size23)
  · exact hb6.trans (below_setRow _ _ _ _ (Nat.le_refl _))
set_option maxHeartbeats 400000 in
theorem message_any (b o : Nat) (a : Option Addr) (n c : Nat) (bs : List (BitVec 8)) (w : World) (hs : Sl w a n c bs b o) (hT : bs.length ≤ 900000) (hK : HasK w 0) (h0 : 0 < w.heap.size) :
    Calls Tryd.prog 17 #[.slice a n c] w fun e w' => e = .returned (.agg ((shaOf (kb 5 :: bs)).map V).toArray) ∧ Below w.heap.size w w' := by
  have hs' : Box (Sl w a n c bs b o) := ⟨hs⟩
  clear hs
  have hl : Box (((shaOf (kb 5 :: bs)).map V).toArray.size = 32) := ⟨by simp [shaOf_len]⟩
  obtain ⟨hh, hS⟩ : ∃ hh, Box (shaOf (kb 5 :: bs) = hh) := ⟨_, ⟨rfl⟩⟩
  rw [hS.out] at hl ⊢
  go_enter Tryd.func17, Tryd.ntmps17
  go_upto_region 1 with fail
  refine code_any (fun w1 => HasV w1 w.heap.size 23 (hsh St.first 0) ∧ Below w.heap.size w w1) ?_ ?_
  · exact ⟨heap_alloc_new _ _, (Below.refl _ _).alloc (Nat.le_refl _) _⟩
  rintro w1 ⟨hv1, hb1⟩
  go_wp2_with fail
  have hba : ∀ ob, Below w1.heap.size w1 (w1.alloc ob) := fun ob => (Below.refl _ _).alloc (Nat.le_refl _) _
  refine (tsum_any 5 _ 1 1 w1.heap.size 0 [⟨a, n, c, bs, b, o⟩] _ rfl (fun _ => rfl) (ls_new w1 36 [⟨a, n, c, bs, b, o⟩] (.cons (Pt.ok_below (p := ⟨a, n, c, bs, b, o⟩) hs'.out hb1) .nil)) (by simpa [cat] using hT) (by omega) ((hK.below hb1 h0).below (hba _) (by have := hb1.size; omega)) (by simp)).mono ?_
  rintro e w4 ⟨rfl, hb4⟩
  have hb5 := (hba _).trans (hb4.mono (by simp))
  have hv5 : w4.heap[w.heap.size]? = some (.cells ((hsh St.first 0).map V).toArray 23 (0, 0)) := hv1.below hb5 hv1.lt
  have hb6 : Below w.heap.size w w4 := hb1.trans (hb5.mono hb1.size)
  clear hv1 hb1 hb4 hb5 hs' hba
  rw [cat_one]
  rw [hS.out]
  go_wp2_with (refine wpList_store_row rfl 23 (.tmp 2) (.tmp 5) rfl w.heap.size (hh.map V).toArray rfl rfl 23 _ hv5 (by rw [hl.out]; exact Tryd.size23) (by rw [hl.out]; rfl) (V_all _) ?_)
  refine bodyPost_ret (v := .agg (hh.map V).toArray) ?_ rfl ⟨rfl, ?_⟩
  · exact results_cell_row (P := Tryd.prog) (fn := Tryd.f17) (p := 2) (ty := 23) rfl _ _ w.heap.size 23 _ (0, 0) _ rfl (setRow_heap _ _ _ _ 23 (0, 0) hv5) Tryd.under23 rfl (by rw [hl.out]; exact Tryd.size23)
  · exact hb6.trans (below_setRow _ _ _ _ (Nat.le_refl _))
end Go.Proofs.YtnanipeapjpkfaaDoor
namespace Go.Proofs.YtnanipeapjpkfaaDoor
set_option maxRecDepth 100000
open Go.RowKit
set_option maxHeartbeats 400000 in
theorem node_any (xs ys : List (BitVec 8)) (w : World) (hx : xs.length = 32) (hy : ys.length = 32) (hK : Tab w) :
    Calls Tryd.prog 26 #[.agg (xs.map V).toArray, .agg (ys.map V).toArray] w fun e w' => e = .returned (.agg ((shaOf (kb 1 :: (xs ++ ys))).map V).toArray) ∧ Below w.heap.size w w' := by
  have hl : Box (((shaOf (kb 1 :: (xs ++ ys))).map V).toArray.size = 32) := ⟨by simp [shaOf_len]⟩
  obtain ⟨hh, hS⟩ : ∃ hh, Box (shaOf (kb 1 :: (xs ++ ys)) = hh) := ⟨_, ⟨rfl⟩⟩
  rw [hS.out] at hl ⊢
  go_enter Tryd.func26, Tryd.ntmps26
  go_upto_region 1 with fail
  refine code_any (fun w1 => HasV w1 w.heap.size 23 xs ∧ HasV w1 (w.heap.size + 1) 23 ys ∧ HasV w1 (w.heap.size + 1 + 1) 23 (hsh St.first 0) ∧ Below w.heap.size w w1) ?_ ?_
  · refine ⟨?_, ?_, heap_alloc3_new _ _ _ _, (((Below.refl _ _).alloc (Nat.le_refl _) _).alloc (by simp) _).alloc (by simp; omega) _⟩
    · exact HasV.alloc (heap_alloc2_old _ _ _) _
    · exact HasV.alloc (heap_alloc2_new _ _ _) _
  rintro w1 ⟨hv1, hv2, hv3, hb1⟩
  have hT1 : Tab w1 := hK.below hb1
  refine wp_region_end [.sl xs, .sl ys, .ls 2 (xs ++ ys), .eq (.agg (hh.map V).toArray)] Tryd.mixed (by kernel_rfl) (by kernel_rfl) (by kernel_rfl) (by kernel_rfl) ⟨fun _ a w' K => ?_, fun _ a w' K => ?_, fun _ a w' K => ?_, fun _ a w' K => ?_, trivial⟩ ?_
  · exact st_slice23 (.tmp 2) rfl _ _ xs (K.old 2 rfl) hx (hv1.below K.grow hv1.lt).lt (hv1.below K.grow hv1.lt).bytes
  · exact st_slice23 (.tmp 3) rfl _ _ ys (K.old 3 rfl) hy (hv2.below K.grow hv2.lt).lt (hv2.below K.grow hv2.lt).bytes
  · exact st_build2 (.tmp 5) (.tmp 6) rfl (K.dep 0 5 rfl) (K.dep 1 6 rfl)
  · rw [← hS.out]
    exact st_call 45 (.func 45) _ _ #[.int .i64 1, a.eval (.tmp 7)] rfl rfl rfl Tryd.enter45 (fk_tsum 1 (by simp; omega) (by omega) (hT1.below K.grow) (K.dep 2 7 rfl))
  · intro af w4 fin hb4
    have e3 : af.eval (.tmp 8) = .agg (hh.map V).toArray := fin.has 3 8 rfl
    have hv5 : w4.heap[w.heap.size + 1 + 1]? = some (.cells ((hsh St.first 0).map V).toArray 23 (0, 0)) := hv3.below hb4 hv3.lt
    have hb6 : Below w.heap.size w w4 := hb1.trans (hb4.mono hb1.size)
    refine wpList_store_row rfl 23 (.tmp 4) (.tmp 8) rfl (w.heap.size + 1 + 1) (hh.map V).toArray (fin.old 4 rfl) e3 23 _ hv5 (by rw [hl.out]; exact Tryd.size23) (by rw [hl.out]; rfl) (V_all _) ?_
    go_wp2
    refine bodyPost_ret (v := .agg (hh.map V).toArray) ?_ fin.defs ⟨rfl, ?_⟩
    · exact results_cell_row (P := Tryd.prog) (fn := Tryd.f26) (p := 4) (ty := 23) rfl _ _ (w.heap.size + 1 + 1) 23 _ (0, 0) _ (fin.old 4 rfl) (setRow_heap _ _ _ _ 23 (0, 0) hv5) Tryd.under23 rfl (by rw [hl.out]; exact Tryd.size23)
    · exact hb6.trans (below_setRow _ _ _ _ (by omega))
end Go.Proofs.YtnanipeapjpkfaaDoor
namespace Go.Proofs.YtnanipeapjpkfaaDoor
set_option maxRecDepth 100000
open Go.RowKit
/-- The sum of a leaf, of a node, of a message. -/
def lf (bs : List (BitVec 8)) : List (BitVec 8) := shaOf (kb 0 :: bs)
def nd (xs ys : List (BitVec 8)) : List (BitVec 8) := shaOf (kb 1 :: (xs ++ ys))
def ms (bs : List (BitVec 8)) : List (BitVec 8) := shaOf (kb 5 :: bs)
theorem lf_len (bs : List (BitVec 8)) : (lf bs).length = 32 := shaOf_len _
theorem nd_len (xs ys : List (BitVec 8)) : (nd xs ys).length = 32 := shaOf_len _
theorem ms_len (bs : List (BitVec 8)) : (ms bs).length = 32 := shaOf_len _
theorem fk_leaf {bs : List (BitVec 8)} {v : Value} {w : World} (hT : bs.length ≤ 900000) (hK : Tab w) (h : (Fk.sl bs).f v w) {y : List (BitVec 8)} (hy : Box (lf bs = y)) :
    Calls Tryd.prog 24 #[v] w fun e w' => ∃ u, e = .returned u ∧ (Fk.eq (.agg (y.map V).toArray)).f u w' ∧ Below w.heap.size w w' := by
  obtain ⟨sp, m, c, b, o, rfl, hs⟩ := h
  rw [← hy.out]
  exact fk_of (leaf_any b o sp m c bs w hs hT hK.K hK.pos)
theorem fk_message {bs : List (BitVec 8)} {v : Value} {w : World} (hT : bs.length ≤ 900000) (hK : Tab w) (h : (Fk.sl bs).f v w) {y : List (BitVec 8)} (hy : Box (ms bs = y)) :
    Calls Tryd.prog 17 #[v] w fun e w' => ∃ u, e = .returned u ∧ (Fk.eq (.agg (y.map V).toArray)).f u w' ∧ Below w.heap.size w w' := by
  obtain ⟨sp, m, c, b, o, rfl, hs⟩ := h
  rw [← hy.out]
  exact fk_of (message_any b o sp m c bs w hs hT hK.K hK.pos)
theorem fk_node {xs ys : List (BitVec 8)} {w : World} (hx : xs.length = 32) (hl : ys.length = 32) (hK : Tab w) {y : List (BitVec 8)} (hy : Box (nd xs ys = y)) :
    Calls Tryd.prog 26 #[.agg (xs.map V).toArray, .agg (ys.map V).toArray] w fun e w' => ∃ u, e = .returned u ∧ (Fk.eq (.agg (y.map V).toArray)).f u w' ∧ Below w.heap.size w w' := by
  rw [← hy.out]
  exact fk_of (node_any xs ys w hx hl hK)
/-- The public key of a number, by its kind; its leaf. -/
def pk (seed : List (BitVec 8)) (kind i : Nat) : List (BitVec 8) := if kind = 1 then pub (all67 (endOf seed i)) else pub (all512 (edOf seed i))
theorem pk_len (seed : List (BitVec 8)) (kind i : Nat) : (pk seed kind i).length = 32 := by
  unfold pk
  split <;> exact pub_len _
theorem pk_one {seed : List (BitVec 8)} {kind i : Nat} {p : List (BitVec 8)} (hk : kind = 1) (h : Box (pk seed kind i = p)) : Box (pub (all67 (endOf seed i)) = p) := ⟨by rw [← h.out]; unfold pk; rw [if_pos hk]⟩
theorem pk_two {seed : List (BitVec 8)} {kind i : Nat} {p : List (BitVec 8)} (hk : kind = 2) (h : Box (pk seed kind i = p)) : Box (pub (all512 (edOf seed i)) = p) := ⟨by rw [← h.out]; unfold pk; rw [if_neg (by omega)]⟩
def lv (seed : List (BitVec 8)) (kind i : Nat) : List (BitVec 8) := lf (pk seed kind i)
theorem lv_len (seed : List (BitVec 8)) (kind i : Nat) : (lv seed kind i).length = 32 := lf_len _
/-- The root over 2^h leaves from a on. -/
def rt (L : Nat → List (BitVec 8)) (a : Nat) : Nat → List (BitVec 8)
  | 0 => L a
  | h + 1 => nd (rt L a h) (rt L (a + 2 ^ h) h)
theorem rt_len (seed : List (BitVec 8)) (kind : Nat) (a : Nat) (h : Nat) : (rt (lv seed kind) a h).length = 32 := by
  cases h with
  | zero => exact lv_len _ _ _
  | succ h => exact nd_len _ _
/-- Where the hash beside begins, at level l. -/
def bes (i l : Nat) : Nat := (i / 2 ^ l ^^^ 1) * 2 ^ l
/-- The path's hash at level l. -/
def pth (L : Nat → List (BitVec 8)) (i l : Nat) : List (BitVec 8) := rt L (bes i l) l
/-- The parts of a signature, by its kind. -/
def sgp (seed : List (BitVec 8)) (kind i : Nat) (h : List (BitVec 8)) : List (List (BitVec 8)) := if kind = 1 then all67 (sigOf seed i h) else all512 (sgOf seed i h)
theorem sgp_one {seed h : List (BitVec 8)} {kind i : Nat} {S : List (List (BitVec 8))} (hk : kind = 1) (e : Box (sgp seed kind i h = S)) : Box (all67 (sigOf seed i h) = S) := ⟨by rw [← e.out]; unfold sgp; rw [if_pos hk]⟩
theorem sgp_two {seed h : List (BitVec 8)} {kind i : Nat} {S : List (List (BitVec 8))} (hk : kind = 2) (e : Box (sgp seed kind i h = S)) : Box (all512 (sgOf seed i h) = S) := ⟨by rw [← e.out]; unfold sgp; rw [if_neg (by omega)]⟩
/-- Hashes in new memory. -/
def Fk.hn (g0 : Nat) (hs : List (List (BitVec 8))) : Fk := .inr (.inl ⟨fun v w => ∃ A C lb lo, v = .slice A hs.length C ∧ g0 ≤ lb ∧ Hl w A lb lo hs, by
  rintro v w w' ⟨A, C, lb, lo, e, hg, h⟩ hb
  exact ⟨A, C, lb, lo, e, hg, h.below hb⟩⟩)
theorem hn_hs {g0 : Nat} {hs : List (List (BitVec 8))} {v : Value} {w : World} (h : (Fk.hn g0 hs).f v w) : (Fk.hs hs).f v w := by
  obtain ⟨A, C, lb, lo, e, _, hl⟩ := h
  exact ⟨A, C, lb, lo, e, hl⟩
theorem hn_le {g0 g1 : Nat} (hg : g1 ≤ g0) {hs : List (List (BitVec 8))} {v : Value} {w : World} (h : (Fk.hn g0 hs).f v w) : (Fk.hn g1 hs).f v w := by
  obtain ⟨A, C, lb, lo, e, h1, hl⟩ := h
  exact ⟨A, C, lb, lo, e, Nat.le_trans hg h1, hl⟩
theorem fk_sign_one {seed : List (BitVec 8)} {key : Nat} {h : List (BitVec 8)} {w : World} {g0 : Nat} (hx : seed.length = 32) (hh : h.length = 32) (hk : key ≤ 2147483647) (hK : Tab w) (hg : g0 ≤ w.heap.size) {S : List (List (BitVec 8))} (hS : Box (all67 (sigOf seed key h) = S)) :
    Calls Tryd.prog 16 #[.agg (seed.map V).toArray, .int .i64 ((key : Nat) : Int), .agg (h.map V).toArray] w fun e w' => ∃ u, e = .returned u ∧ (Fk.t2 (.hn g0 S) (.int .i64 0)).f u w' ∧ Below w.heap.size w w' := by
  refine (sign_ok seed key h w hx hh hk hK).mono ?_
  rintro e w' ⟨g, rfl, hl, hle, hb⟩
  rw [hS.out] at hl
  have h67 : S.length = 67 := by rw [← hS.out]; exact all_len _
  exact ⟨_, rfl, ⟨_, rfl, _, 67, g, 0, by rw [h67], Nat.le_trans hg hle, hl⟩, hb⟩
theorem fk_sign_two {seed : List (BitVec 8)} {key : Nat} {h : List (BitVec 8)} {w : World} {g0 : Nat} (hx : seed.length = 32) (hh : h.length = 32) (hk : key ≤ 2147483647) (hK : Tab w) (hg : g0 ≤ w.heap.size) {S : List (List (BitVec 8))} (hS : Box (all512 (sgOf seed key h) = S)) :
    Calls Tryd.prog 18 #[.agg (seed.map V).toArray, .int .i64 ((key : Nat) : Int), .agg (h.map V).toArray] w fun e w' => ∃ u, e = .returned u ∧ (Fk.t2 (.hn g0 S) (.int .i64 0)).f u w' ∧ Below w.heap.size w w' := by
  refine (sign_okL seed key h w hx hh hk hK).mono ?_
  rintro e w' ⟨g, rfl, hl, hle, hb⟩
  rw [hS.out] at hl
  have h67 : S.length = 512 := by rw [← hS.out]; exact all_lenL _
  exact ⟨_, rfl, ⟨_, rfl, _, 512, g, 0, by rw [h67], Nat.le_trans hg hle, hl.hl⟩, hb⟩
/-- n hashes of noughts, in cells. -/
def mkh (n : Nat) : Array Value := madeCells ((hz.map V).toArray) (n * 32)
theorem mkh_at (n j : Nat) (h : j < n * 32) : (mkh n)[j]? = some (.int .u8 (bv (hz.getD (j % 32) 0))) := by
  have h2 : j % 32 < hz.length := by rw [hz_len]; omega
  have h3 : (mkh n).size = n * 32 := by unfold mkh; simp [size_madeCells]
  rw [Array.getElem?_eq_getElem (by rw [h3]; exact h)]
  unfold mkh
  simp only [madeCells, Array.getElem_map, Array.getElem_range, List.size_toArray, List.length_map, hz_len]
  have : (hz.map V).toArray[j % 32]? = some (V (hz.getD (j % 32) 0)) := by
    rw [List.getElem?_toArray, List.getElem?_map, List.getElem?_eq_getElem h2, Option.map_some, List.getD_eq_getElem?_getD, List.getElem?_eq_getElem h2]
    rfl
  rw [getElem!_def, this]
  rfl
theorem Tryd.makehs (n : Nat) (hn : n ≤ 1000) (w : World) : (Instr.makeSlice 32 (.int .i64 (n : Int)) (.int .i64 (n : Int))).run Tryd.prog w = .ok (.slice (some ⟨w.heap.size, 0, none⟩) n n) (w.alloc (.cells (mkh n) 23)) := by
  obtain ⟨i0, hi, hz0, hz1, hz2⟩ := info_parts Tryd.info23
  have := run_make (P := Tryd.prog) w 32 23 i0 _ Tryd.under32' hi hz0 .i64 .i64 (n : Int) (n : Int) (by omega) (by omega) (by rw [hz2]; omega) (by omega)
  rw [hz1] at this
  simp only [Int.toNat_natCast] at this
  exact this
/-- n hashes of noughts. -/
def zhs (n : Nat) : List (List (BitVec 8)) := List.replicate n hz
theorem zhs_len (n : Nat) : (zhs n).length = n := List.length_replicate
theorem rw_newh (n : Nat) (w : World) : Rw (w.alloc (.cells (mkh n) 23)) w.heap.size (zhs n) := by
  unfold zhs
  refine ⟨⟨fun _ => rfl, fun _ => by simp, fun i x hi => ?_⟩, by simp, fun j => ?_⟩
  · obtain ⟨h1, h2⟩ := List.getElem?_eq_some_iff.1 hi
    simp only [List.length_replicate] at h1
    obtain rfl : hz = x := by rw [← h2, List.getElem_replicate]
    refine ⟨hz_len, fun j hj => ?_⟩
    rw [hz_len] at hj
    rw [World.cell?_alloc_mark, mkh_at _ _ (by omega), show (0 + i * 32 + j) % 32 = j by omega]
  · have := heap_alloc_new w (.cells (mkh n) 23)
    exact frozen_of_row _ _ j _ 23 this
/-- The first k of n are told, the others are noughts. -/
def prt (n : Nat) (F : Nat → List (BitVec 8)) (k : Nat) : List (List (BitVec 8)) := (List.range n).map fun i => if i < k then F i else hz
theorem prt_len (n : Nat) (F : Nat → List (BitVec 8)) (k : Nat) : (prt n F k).length = n := by simp [prt]
theorem prt_zero (n : Nat) (F : Nat → List (BitVec 8)) : prt n F 0 = zhs n := by
  unfold zhs
  apply List.ext_getElem (by rw [prt_len, List.length_replicate])
  intro i h1 h2
  rw [List.getElem_replicate]
  simp [prt]
theorem prt_set (n : Nat) (F : Nat → List (BitVec 8)) (k : Nat) : (prt n F k).set k (F k) = prt n F (k + 1) := by
  apply List.ext_getElem (by simp [prt])
  intro i h1 h2
  rw [List.getElem_set]
  simp only [prt, List.getElem_map, List.getElem_range]
  by_cases e : k = i
  · subst e; simp
  · rw [if_neg e]
    by_cases h : i < k
    · rw [if_pos h, if_pos (by omega)]
    · rw [if_neg h, if_neg (by omega)]
theorem prt_all (n : Nat) (F : Nat → List (BitVec 8)) : prt n F n = firsts F n := by
  apply List.ext_getElem (by simp [prt, firsts])
  intro i h1 h2
  simp only [prt, List.length_map, List.length_range] at h1
  simp [prt, firsts, h1]
/-- A new row of n hashes of noughts. -/
def Fk.nz (g0 n : Nat) : Fk := .inr (.inl ⟨fun v w => ∃ g, g0 ≤ g ∧ v = .slice (some ⟨g, 0, none⟩) n n ∧ Rw w g (zhs n), by
  rintro v w w' ⟨g, h, e, hv⟩ hb
  exact ⟨g, h, e, hv.below hb⟩⟩)
section
variable {Q : Exit → Act → World → Prop} {o : Oper} {a : Act} {w : World} {ops : Array Oper} {rest : List Oper}
theorem st_makeh (x y : Operand) (ho : o.op = .makeSlice 32 x y) (n : Nat) (hn : n ≤ 1000) (hx : a.eval x = .int .i64 (n : Int)) (hy : a.eval y = .int .i64 (n : Int)) (g0 : Nat) (hg : g0 ≤ w.heap.size) : o.wp Tryd.prog a w (Ends a o.dst w (Fk.nz g0 n).f) Q := by
  refine st_run (v := .slice (some ⟨w.heap.size, 0, none⟩) n n) (w' := w.alloc (.cells (mkh n) 23)) ?_ ((Below.refl _ _).alloc (Nat.le_refl _) _) ⟨w.heap.size, hg, rfl, rw_newh n w⟩
  unfold execOp
  rw [ho]
  simp [hx, hy, Tryd.makehs n hn]
theorem st_idxr (x y : Operand) (ho : o.op = .indexAddr 32 x y) (g i n : Nat) (hx : a.eval x = .slice (some ⟨g, 0, none⟩) n n) (hy : a.eval y = .int .i64 (i : Int)) (hi : i < n) : o.wp Tryd.prog a w (Ends a o.dst w (Fk.eq (.pointer (some ⟨g, i * 32, none⟩))).f) Q := by
  refine st_pure (v := .pointer (some ⟨g, i * 32, none⟩)) ?_ rfl
  have h1 := run_indexAt_slice (P := Tryd.prog) (w := w) 32 ⟨g, 0, none⟩ n n .i64 (i : Int) (by rw [Tryd.elem32]; exact Tryd.under32')
  rw [if_pos (by omega), Tryd.elem32, Tryd.sizeOf23] at h1
  simp only [Result.andThen_ok, Int.toNat_natCast, Addr.add_mid, Nat.zero_add] at h1
  unfold execOp
  rw [ho]
  simp [hx, hy, h1]
theorem st_xor1 (x y : Operand) (ho : o.op = .binOp .xor 3 x y 3) (m : Nat) (hm : m ≤ 1000000) (hx : a.eval x = .int .i64 (m : Int)) (hy : a.eval y = .int .i64 1) : o.wp Tryd.prog a w (Ends a o.dst w (Fk.eq (.int .i64 ((m ^^^ 1 : Nat) : Int))).f) Q := by
  refine st_bin .xor 3 3 x y ho hx hy ?_
  have h1 : m ^^^ 1 < 2 ^ 20 := Nat.xor_lt_two_pow (by omega) (by omega)
  have h2 : m % 2 ^ IntKind.i64.bits = m := Nat.mod_eq_of_lt (by show m < 18446744073709551616; omega)
  have h3 : 1 % 2 ^ IntKind.i64.bits = 1 := rfl
  simp [eqGuard, binOp, Op.intBits, h2, h3]
  rw [IntKind.wrap_i64]
  omega
theorem st_and1 (x y : Operand) (ho : o.op = .binOp .and 3 x y 3) (m : Nat) (hm : m ≤ 1000000) (hx : a.eval x = .int .i64 (m : Int)) (hy : a.eval y = .int .i64 1) : o.wp Tryd.prog a w (Ends a o.dst w (Fk.eq (.int .i64 ((m % 2 : Nat) : Int))).f) Q := by
  refine st_bin .and 3 3 x y ho hx hy ?_
  have h2 : m % 2 ^ IntKind.i64.bits = m := Nat.mod_eq_of_lt (by show m < 18446744073709551616; omega)
  have h3 : 1 % 2 ^ IntKind.i64.bits = 1 := rfl
  simp [eqGuard, binOp, Op.intBits, h2, h3]
  rw [IntKind.wrap_i64]
  omega
theorem st_loadz (T : TypeId) (x : Operand) (ho : o.op = .load T x) (b so : Nat) (cs : List Value) (hr : (Tryd.prog.underlying T).map (·.isRow) = some true) (hi : (Tryd.prog.info? T).map (·.size) = some cs.length) (hx : a.eval x = .pointer (some ⟨b, so, none⟩)) (hc : w.rangeAt b so cs) : o.wp Tryd.prog a w (Ends a o.dst w (Fk.eq (.agg cs.toArray)).f) Q := by
  cases hu : Tryd.prog.underlying T with
  | none => rw [hu] at hr; cases hr
  | some d =>
    rw [hu] at hr
    exact st_loadm T x ho b so cs hu (by simpa using hr) hi hx hc
end
theorem ret_hash {fn : Func} {p : Tmp} (h : fn.results = #[.cell p 23]) (a : Act) (w : World) (g : Nat) (xs : List (BitVec 8)) (hl : xs.length = 32) (hp : a.eval (.tmp p) = .pointer (some ⟨g, 0, none⟩)) (m : Ob w g 23 (xs.map V)) : (results fn a.tmps).run Tryd.prog w = .ok (.agg (xs.map V).toArray) w :=
  results_cell_row (P := Tryd.prog) (fn := fn) (p := p) (ty := 23) h _ _ g 23 _ (0, 0) _ hp m Tryd.under23 rfl (by rw [List.size_toArray, List.length_map, hl]; exact Tryd.size23)
theorem ret_hash2 {fn : Func} {p u : Tmp} (h : fn.results = #[.cell p 23, .tmp u]) (a : Act) (w : World) (g : Nat) (xs : List (BitVec 8)) (v : Value) (hl : xs.length = 32) (hp : a.eval (.tmp p) = .pointer (some ⟨g, 0, none⟩)) (m : Ob w g 23 (xs.map V)) (hu : a.eval (.tmp u) = v) : (results fn a.tmps).run Tryd.prog w = .ok (.tuple #[.agg (xs.map V).toArray, v]) w :=
  results_row_tmp (P := Tryd.prog) h _ _ g 23 _ (0, 0) _ v hp m Tryd.under23 rfl (by rw [List.size_toArray, List.length_map, hl]; exact Tryd.size23) hu
theorem Tryd.row38 : (Tryd.prog.underlying 38).map (·.isRow) = some true := by kernel_rfl
theorem ret_sig2 {fn : Func} {p u : Tmp} (h : fn.results = #[.cell p 38, .tmp u]) (a : Act) (w : World) (g : Nat) (c0 c1 c2 c3 v : Value) (hp : a.eval (.tmp p) = .pointer (some ⟨g, 0, none⟩)) (m : Ob w g 38 [c0, c1, c2, c3]) (hu : a.eval (.tmp u) = v) : (results fn a.tmps).run Tryd.prog w = .ok (.tuple #[.agg [c0, c1, c2, c3].toArray, v]) w := by
  have hr := Tryd.row38
  have h1 : a.tmps.getD p undef = .pointer (some ⟨g, 0, none⟩) := hp
  have h2 : a.tmps.getD u undef = v := hu
  cases hd : Tryd.prog.underlying 38 with
  | none => rw [hd] at hr; cases hr
  | some d =>
    rw [hd] at hr
    have hl := run_loadVar_mid (P := Tryd.prog) w g 0 38 [c0, c1, c2, c3] d (Ob.range m 0 _ (fun j v hj => by simpa using hj)) hd (Option.some.inj hr) (by kernel_rfl)
    rw [results_cell_tmp h, h1, h2]
    simp only [asAddr, Sem.run_pure, Result.andThen_ok, hl]
end Go.Proofs.YtnanipeapjpkfaaDoor
namespace Go.Proofs.YtnanipeapjpkfaaDoor
set_option maxRecDepth 100000
open Go.RowKit
/-- v is a slice of bytes that has the bytes bs, in block gb (or nil). -/
def Rv (w : World) (v : Value) (bs : List (BitVec 8)) (gb : Nat) : Prop :=
  (v = .slice none 0 0 ∧ bs = []) ∨ ∃ go c, v = .slice (some ⟨gb, go, none⟩) bs.length c ∧ bs.length ≤ c ∧ gb < w.heap.size ∧ HasB w gb go bs
theorem Rv.keep {w w' : World} {v : Value} {bs : List (BitVec 8)} {gb : Nat} (h : Rv w v bs gb) (hs : w.heap.size ≤ w'.heap.size) (hk : gb < w.heap.size → w'.heap[gb]? = w.heap[gb]?) : Rv w' v bs gb := by
  rcases h with h | ⟨go, c, e, hc, hl, hB⟩
  · exact .inl h
  · exact .inr ⟨go, c, e, hc, Nat.lt_of_lt_of_le hl hs, fun i hi => by rw [World.cell?_of_block (w := w) (hk hl)]; exact hB i hi⟩
theorem Rv.only {w w' : World} {v : Value} {bs : List (BitVec 8)} {gb g : Nat} (h : Rv w v bs gb) (ho : Only g w w') (hg : gb ≠ g) : Rv w' v bs gb := h.keep ho.size fun hl => ho.block gb hl hg
theorem Rv.below {w w' : World} {v : Value} {bs : List (BitVec 8)} {gb : Nat} (h : Rv w v bs gb) (ho : Below w.heap.size w w') : Rv w' v bs gb := h.keep ho.size fun hl => ho.block gb hl
/-- In block ib lies an In that has the bytes bs left. -/
def HasIn (w : World) (ib : Nat) (bs : List (BitVec 8)) (bad : Bool) (gb : Nat) : Prop :=
  ∃ v, w.heap[ib]? = some (.cells #[v, .bool bad] 103 (0, 0)) ∧ Rv w v bs gb ∧ gb ≠ ib
theorem HasIn.lt {w : World} {ib : Nat} {bs : List (BitVec 8)} {bad : Bool} {gb : Nat} (h : HasIn w ib bs bad gb) : ib < w.heap.size := by
  obtain ⟨v, hv, _⟩ := h
  exact (Array.getElem?_eq_some_iff.1 hv).1
theorem HasIn.below {w w' : World} {ib : Nat} {bs : List (BitVec 8)} {bad : Bool} {gb : Nat} (h : HasIn w ib bs bad gb) (ho : Below w.heap.size w w') : HasIn w' ib bs bad gb := by
  have hl := h.lt
  obtain ⟨v, hv, hr, hne⟩ := h
  exact ⟨v, by rw [ho.block ib hl]; exact hv, hr.below ho, hne⟩
theorem HasIn.only {w w' : World} {ib g : Nat} {bs : List (BitVec 8)} {bad : Bool} {gb : Nat} (h : HasIn w ib bs bad gb) (ho : Only g w w') (h1 : ib ≠ g) (h2 : gb ≠ g) : HasIn w' ib bs bad gb := by
  have hl := h.lt
  obtain ⟨v, hv, hr, hne⟩ := h
  exact ⟨v, by rw [ho.block ib hl h1]; exact hv, hr.only ho h2, hne⟩
theorem cell2 {w : World} {b : Nat} {x y : Value} {T : TypeId} (h : w.heap[b]? = some (.cells #[x, y] T (0, 0))) : w.cell? ⟨b, 0, none⟩ = some x ∧ w.cell? ⟨b, 1, none⟩ = some y ∧ w.frozen? ⟨b, 0, none⟩ = false ∧ w.frozen? ⟨b, 1, none⟩ = false := by
  refine ⟨?_, ?_, ?_, ?_⟩ <;> simp [World.cell?, World.frozen?, h]
theorem set2 {w : World} {b : Nat} {x y : Value} {T : TypeId} (h : w.heap[b]? = some (.cells #[x, y] T (0, 0))) (u : Value) : (w.setCell ⟨b, 0, none⟩ u).heap[b]? = some (.cells #[u, y] T (0, 0)) ∧ (w.setCell ⟨b, 1, none⟩ u).heap[b]? = some (.cells #[x, u] T (0, 0)) := by
  constructor <;> simp [World.setCell, Array.getElem?_modify, h]
set_option maxHeartbeats 400000 in
theorem spoil_any (ib gb : Nat) (bs : List (BitVec 8)) (bad : Bool) (w : World) (h : HasIn w ib bs bad gb) :
    Calls Tryd.prog 73 #[.pointer (some ⟨ib, 0, none⟩)] w fun e w' => e = .returned (.tuple #[]) ∧ HasIn w' ib [] true gb ∧ Only ib w w' := by
  obtain ⟨v, hv, hr, hne⟩ := h
  obtain ⟨c0, c1, f0, f1⟩ := cell2 hv
  have s1 := (set2 hv (.bool true)).2
  obtain ⟨d0, d1, g0, g1⟩ := cell2 s1
  have s2 := (set2 s1 (.slice none 0 0)).1
  have hb : Box (HasIn ((w.setCell ⟨ib, 1, none⟩ (.bool true)).setCell ⟨ib, 0, none⟩ (.slice none 0 0)) ib [] true gb) := ⟨⟨_, s2, .inl ⟨rfl, rfl⟩, hne⟩⟩
  clear hv s1 s2 hr
  go_enter Tryd.func73, Tryd.ntmps73
  go_wp2
  first | go_end0 | refine bodyPost_ret (results_none rfl _ _ _) rfl ?_
  exact ⟨rfl, hb.out, ((Only.refl _ _).setCell _ _).setCell _ _⟩
def takeB (bs : List (BitVec 8)) (n : Nat) : List (BitVec 8) := if n ≤ bs.length then bs.take n else []
def dropB (bs : List (BitVec 8)) (n : Nat) : List (BitVec 8) := if n ≤ bs.length then bs.drop n else []
def badB (bs : List (BitVec 8)) (bad : Bool) (n : Nat) : Bool := if n ≤ bs.length then bad else true
theorem Rv.shape {w : World} {v : Value} {bs : List (BitVec 8)} {gb : Nat} (h : Rv w v bs gb) : ∃ a c, v = .slice a bs.length c ∧ bs.length ≤ c := by
  rcases h with ⟨rfl, rfl⟩ | ⟨go, c, rfl, hc, _⟩
  · exact ⟨none, 0, rfl, Nat.le_refl _⟩
  · exact ⟨_, c, rfl, hc⟩
theorem done_any (ib gb : Nat) (bs : List (BitVec 8)) (bad : Bool) (w : World) (h : HasIn w ib bs bad gb) :
    Calls Tryd.prog 62 #[.pointer (some ⟨ib, 0, none⟩)] w fun e w' => e = .returned (.bool (!bad && decide (bs = []))) ∧ w' = w := by
  obtain ⟨v, hv, hr, hne⟩ := h
  obtain ⟨a, c, rfl, _⟩ := hr.shape
  obtain ⟨c0, c1, f0, f1⟩ := cell2 hv
  clear hv hr
  have e : Box (((bs.length : Int) == 0) = decide (bs = [])) := ⟨by cases bs <;> simp; omega⟩
  cases bad
  · go_enter Tryd.func62, Tryd.ntmps62
    go_wp2
    go_ret
    refine ⟨?_, rfl⟩
    simp [e.out]
  · go_enter Tryd.func62, Tryd.ntmps62
    go_wp2
    go_ret
    exact ⟨rfl, rfl⟩
theorem take_no (bs : List (BitVec 8)) (bad : Bool) (n : Nat) (h : ¬ n ≤ bs.length) : takeB bs n = [] ∧ dropB bs n = [] ∧ badB bs bad n = true := by
  unfold takeB dropB badB
  rw [if_neg h, if_neg h, if_neg h]
  exact ⟨rfl, rfl, rfl⟩
theorem take_yes (bs : List (BitVec 8)) (bad : Bool) (n : Nat) (h : n ≤ bs.length) : takeB bs n = bs.take n ∧ dropB bs n = bs.drop n ∧ badB bs bad n = bad := by
  unfold takeB dropB badB
  rw [if_pos h, if_pos h, if_pos h]
  exact ⟨rfl, rfl, rfl⟩
set_option maxHeartbeats 400000 in
theorem take_any (ib gb n : Nat) (bs : List (BitVec 8)) (bad : Bool) (w : World) (h : HasIn w ib bs bad gb) (hn : n ≤ 4611686018427387904) (hbs : bs.length ≤ 4611686018427387904) :
    Calls Tryd.prog 81 #[.pointer (some ⟨ib, 0, none⟩), .int .i64 (n : Int)] w fun e w' => ∃ v, e = .returned v ∧ Rv w' v (takeB bs n) gb ∧ HasIn w' ib (dropB bs n) (badB bs bad n) gb ∧ Only ib w w' := by
  by_cases hle : n ≤ bs.length
  · obtain ⟨e1, e2, e3⟩ := take_yes bs bad n hle
    rw [e1, e2, e3]
    clear e1 e2 e3
    obtain ⟨v, hv, hr, hne⟩ := h
    obtain ⟨c0, c1, f0, f1⟩ := cell2 hv
    rcases hr with ⟨rfl, rfl⟩ | ⟨go, c, rfl, hc, hlt, hB⟩
    · have hn0 : n = 0 := by simpa using hle
      subst hn0
      have s1 := (set2 hv (.slice none 0 0)).1
      have hb : Box (HasIn (w.setCell ⟨ib, 0, none⟩ (.slice none 0 0)) ib [] bad gb) := ⟨⟨_, s1, .inl ⟨rfl, rfl⟩, hne⟩⟩
      clear hv s1
      go_enter Tryd.func81, Tryd.ntmps81
      go_wp2
      go_ret
      exact ⟨_, rfl, .inl ⟨rfl, rfl⟩, hb.out, (Only.refl _ _).setCell _ _⟩
    · have hdec : decide ((bs.length : Int) < n) = false := by simp; omega
      have hlen : (bs.take n).length = n := by simp; omega
      have hlen2 : (bs.drop n).length = bs.length - n := by simp
      by_cases hcn : c = n
      · subst hcn
        have s1 := (set2 hv (.slice (some ⟨gb, go, none⟩) 0 0)).1
        have ho : Only ib w (w.setCell ⟨ib, 0, none⟩ (.slice (some ⟨gb, go, none⟩) 0 0)) := (Only.refl _ _).setCell _ _
        have hr2 : Rv w (.slice (some ⟨gb, go, none⟩) 0 0) (bs.drop c) gb := .inr ⟨go, 0, by rw [hlen2, show bs.length - c = 0 by omega], by omega, hlt, by rw [show bs.drop c = [] from List.eq_nil_of_length_eq_zero (by omega)]; intro i hi; simp at hi⟩
        have hr1 : Rv w (.slice (some ⟨gb, go, none⟩) c c) (bs.take c) gb := .inr ⟨go, c, by rw [hlen], by omega, hlt, hB.take c⟩
        have hb : Box (HasIn _ ib (bs.drop c) bad gb) := ⟨⟨_, s1, hr2.only ho hne, hne⟩⟩
        have hb1 : Box (Rv _ _ _ _) := ⟨hr1.only ho hne⟩
        clear hv s1 hr1 hr2 hB
        go_enter Tryd.func81, Tryd.ntmps81
        go_wp2
        go_ret
        exact ⟨_, rfl, hb1.out, hb.out, ho⟩
      · have s1 := (set2 hv (.slice (some ⟨gb, go + n, none⟩) (bs.length - n) (c - n))).1
        have ho : Only ib w (w.setCell ⟨ib, 0, none⟩ (.slice (some ⟨gb, go + n, none⟩) (bs.length - n) (c - n))) := (Only.refl _ _).setCell _ _
        have hr2 : Rv w (.slice (some ⟨gb, go + n, none⟩) (bs.length - n) (c - n)) (bs.drop n) gb := .inr ⟨go + n, (c - n), by rw [hlen2], by omega, hlt, hB.drop n⟩
        have hr1 : Rv w (.slice (some ⟨gb, go, none⟩) n c) (bs.take n) gb := .inr ⟨go, c, by rw [hlen], by omega, hlt, hB.take n⟩
        have hb : Box (HasIn _ ib (bs.drop n) bad gb) := ⟨⟨_, s1, hr2.only ho hne, hne⟩⟩
        have hb1 : Box (Rv _ _ _ _) := ⟨hr1.only ho hne⟩
        clear hv s1 hr1 hr2 hB
        go_enter Tryd.func81, Tryd.ntmps81
        go_wp2
        go_ret
        exact ⟨_, rfl, hb1.out, hb.out, ho⟩
  · obtain ⟨e1, e2, e3⟩ := take_no bs bad n hle
    rw [e1, e2, e3]
    clear e1 e2 e3
    have hh : Box (HasIn w ib bs bad gb) := ⟨h⟩
    obtain ⟨v, hv, hr, hne⟩ := h
    obtain ⟨c0, c1, f0, f1⟩ := cell2 hv
    obtain ⟨a, c, rfl, _⟩ := hr.shape
    have hdec : decide ((bs.length : Int) < n) = true := by simp; omega
    clear hv hr
    go_enter Tryd.func81, Tryd.ntmps81
    go_wp2_with (refine (spoil_any ib gb bs bad w hh.out).mono ?_; rintro e w' ⟨rfl, h1, h2⟩)
    go_ret
    exact ⟨_, rfl, .inl ⟨rfl, rfl⟩, h1, h2⟩
end Go.Proofs.YtnanipeapjpkfaaDoor
