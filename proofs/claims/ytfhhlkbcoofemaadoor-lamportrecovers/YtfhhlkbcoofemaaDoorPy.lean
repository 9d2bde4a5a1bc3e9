/- Regions that end in an assignment; steps over numbers. -/
import Derived.Test.YtfhhlkbcoofemaaDoorPx
namespace Go.Proofs.YtfhhlkbcoofemaaDoor
open Go.RowKit
/-- One operation that lays slot s into slot d. -/
def lastAssign (s d : Nat) : List Oper → Bool
  | [o] => (o.dst == some d) && (match o.op with | .assign (.tmp t) => t == s | _ => false) && o.guard.isNone
  | _ => false
/-- What is told of the frame behind a region that ends in an assignment. -/
structure After (ops : List Oper) (q : Fk) (d : Nat) (a0 a2 : Act) (w : World) : Prop where
  defs : a2.defers = a0.defers
  size : a2.tmps.size = a0.tmps.size
  old : ∀ t, freeOf ops t = true → a2.eval (.tmp t) = a0.eval (.tmp t)
  new : q.f (a2.eval (.tmp d)) w
theorem put_eval_other (a : Act) (d : Nat) (v : Value) (t : Nat) (h : d ≠ t) : (a.put (some d) v).eval (.tmp t) = a.eval (.tmp t) := eval_of_get (put_other a (some d) v t (by simp [h]))
theorem put_eval_same (a : Act) (d : Nat) (v : Value) (h : d < a.tmps.size) : (a.put (some d) v).eval (.tmp d) = v := by
  have := put_same a d v h
  simp [Act.eval, this]
theorem after_of_final {P : Program} {Q : Exit → Act → World → Prop} {ops : Array Oper} {a0 : Act} {w : World} (qs : List Fk) (i s d : Nat) (hL : lastAssign s d (ops.toList.drop qs.length) = true) (hi : (decide (i < qs.length) && (((ops.toList[i]?).bind (·.dst)) == some s)) = true) (hd : decide (d < a0.tmps.size) = true)
    (hF : ∀ a2 w', After ops.toList (qs.getD i .any) d a0 a2 w' → Below w.heap.size w w' → Q .normal a2 w') :
    ∀ af w', Final ops.toList qs a0 af w' → Below w.heap.size w w' → wpList P ops Q (ops.toList.drop qs.length) af w' := by
  intro af w' fin hb
  cases hl : ops.toList.drop qs.length with
  | nil => rw [hl] at hL; simp [lastAssign] at hL
  | cons o r =>
    cases r with
    | cons _ _ => rw [hl] at hL; simp [lastAssign] at hL
    | nil =>
      rw [hl] at hL
      simp only [lastAssign, Bool.and_eq_true, beq_iff_eq, Option.isNone_iff_eq_none] at hL
      obtain ⟨⟨h1, h2⟩, h3⟩ := hL
      have hop : o.op = .assign (.tmp s) := by
        cases ho : o.op with
        | assign x =>
          cases x with
          | tmp t => rw [ho] at h2; simp at h2; rw [h2]
          | const _ => rw [ho] at h2; simp at h2
          | global _ => rw [ho] at h2; simp at h2
          | func _ => rw [ho] at h2; simp at h2
        | _ => rw [ho] at h2; simp at h2
      refine end_assign (.tmp s) hop h3 ?_
      rw [h1]
      have hsz : d < af.tmps.size := by rw [fin.size]; exact of_decide_eq_true hd
      refine hF _ _ ⟨(put_def _ _ _).trans fin.defs, (put_size _ _ _).trans fin.size, fun t ht => ?_, ?_⟩ hb
      · have hall := List.all_eq_true.1 ht
        have hne : d ≠ t := by
          have hm : o ∈ ops.toList := by
            have : o ∈ ops.toList.drop qs.length := by rw [hl]; simp
            exact List.mem_of_mem_drop this
          have := hall o hm
          rw [h1] at this
          intro e
          simp [e] at this
        rw [put_eval_other _ _ _ _ hne]
        refine fin.old t ?_
        exact List.all_eq_true.2 (fun x hx => hall x (List.mem_of_mem_take hx))
      · rw [put_eval_same _ _ _ hsz]
        exact fin.has i s hi
/-- A drawn region that ends in an assignment. -/
theorem wp_region_assign {P : Program} {Q : Exit → Act → World → Prop} {ops : Array Oper} {id : Nat} {a0 : Act} {w : World} (qs : List Fk) (i s d : Nat) (hm : P.follows .mixedOrders = true) (hL : lastAssign s d (ops.toList.drop qs.length) = true) (hi : (decide (i < qs.length) && (((ops.toList[i]?).bind (·.dst)) == some s)) = true) (hd : decide (d < a0.tmps.size) = true) (hk : decide (qs.length ≤ ops.size) = true) (hE : edgesOk ops.toList qs.length = true)
    (hD : dstsOk a0.tmps.size (ops.toList.take qs.length) = true) (hG : guardsOk ops.toList qs.length qs ops.toList qs = true)
    (hS : Steps P Q ops.toList qs.length qs a0 w ops.toList qs)
    (hF : ∀ a2 w', After ops.toList (qs.getD i .any) d a0 a2 w' → Below w.heap.size w w' → Q .normal a2 w') :
    (Code.region id ops true).wp P Q a0 w :=
  wp_region_end qs hm hk hE hD hG hS (after_of_final qs i s d hL hi hd hF)
/-- A region in the text's order that ends in an assignment. -/
theorem wp_text_assign {P : Program} {Q : Exit → Act → World → Prop} {ops : Array Oper} {id : Nat} {a0 : Act} {w : World} (qs : List Fk) (i s d : Nat) (hl : Region.linearise .any ops 0 = List.range ops.size) (hL : lastAssign s d (ops.toList.drop qs.length) = true) (hi : (decide (i < qs.length) && (((ops.toList[i]?).bind (·.dst)) == some s)) = true) (hd : decide (d < a0.tmps.size) = true) (hk : decide (qs.length ≤ ops.size) = true) (hE : edgesOk ops.toList qs.length = true)
    (hD : dstsOk a0.tmps.size (ops.toList.take qs.length) = true) (hG : guardsOk ops.toList qs.length qs ops.toList qs = true)
    (hS : Steps P Q ops.toList qs.length qs a0 w ops.toList qs)
    (hF : ∀ a2 w', After ops.toList (qs.getD i .any) d a0 a2 w' → Below w.heap.size w w' → Q .normal a2 w') :
    (Code.region id ops false).wp P Q a0 w :=
  wp_region_text qs hl hk hE hD hG hS (after_of_final qs i s d hL hi hd hF)
theorem ret_slot {fn : Func} {t : Tmp} (h : fn.results = #[.tmp t]) (a : Act) (v : Value) (ht : a.eval (.tmp t) = v) (P : Program) (w : World) : (results fn a.tmps).run P w = .ok v w := by
  rw [results_tmp h]
  have : a.tmps.getD t undef = v := ht
  rw [this]
theorem Tryd.under3 : Tryd.prog.underlying 3 = some (.int .i64) := by kernel_rfl
theorem Tryd.under58 : Tryd.prog.underlying 58 = some (.int .u32) := by kernel_rfl
theorem Tryd.isAgg3 (w : World) : (isAgg 3).run Tryd.prog w = .ok false w := by kernel_rfl
section
variable {Q : Exit → Act → World → Prop} {o : Oper} {a : Act} {w : World} {q : Fk}
theorem st_load3 (x : Operand) (ho : o.op = .load 3 x) (p i : Nat) (z : Int) (hx : a.eval x = .pointer (some ⟨p, i, none⟩)) (hc : w.cell? ⟨p, i, none⟩ = some (.int .i64 z)) : o.wp Tryd.prog a w (Ends a o.dst w (Fk.eq (.int .i64 z)).f) Q := by
  refine st_pure (v := .int .i64 z) ?_ rfl
  have h1 : (isAgg 3).run Tryd.prog w = .ok false w := Tryd.isAgg3 w
  unfold execOp
  rw [ho]
  simp [hx, Instr.loadAt, Instr.sureAddr, loadVar, h1, run_load, hc]
theorem st_conv32 (x : Operand) (ho : o.op = .convert 3 58 x) (z : Int) (hx : a.eval x = .int .i64 z) : o.wp Tryd.prog a w (Ends a o.dst w (Fk.eq (.int .u32 (z % 4294967296))).f) Q := by
  refine st_pure (v := .int .u32 (z % 4294967296)) ?_ rfl
  unfold execOp
  rw [ho]
  simp [hx, convert, run_underlying Tryd.under3, run_underlying Tryd.under58, Conv.intToInt, IntKind.wrap_u32]
theorem st_eqi (t : TypeId) (x y : Operand) (ho : o.op = .binOp .eql t x y t) (k : IntKind) (s u : Int) (hx : a.eval x = .int k s) (hy : a.eval y = .int k u) (b : Bool) (hb : b = decide (s = u)) : o.wp Tryd.prog a w (Ends a o.dst w (Fk.eq (.bool b)).f) Q := by
  refine st_pure (v := .bool b) ?_ rfl
  subst hb
  unfold execOp
  rw [ho]
  simp [hx, hy, eqGuard, binOp, Op.intCmp]
  by_cases h : s = u
  · simp [h]
  · simp [h]
theorem st_neqb (x y : Operand) (ho : o.op = .binOp .neq 4 x y 4) (s : Bool) (hx : a.eval x = .bool s) (hy : a.eval y = .bool s) : o.wp Tryd.prog a w (Ends a o.dst w (Fk.eq (.bool false)).f) Q := by
  refine st_pure (v := .bool false) ?_ rfl
  unfold execOp
  rw [ho]
  have h2 := run_equal_bool (P := Tryd.prog) w 4 s s Tryd.under4
  simp [hx, hy, eqGuard, binOp, h2]
theorem Tryd.noGuard23n (x y : Operand) (a b : Array Value) (w : World) : (eqGuard .neq 23 x y (.agg a) (.agg b)).run Tryd.prog w = .ok () w := by kernel_rfl
theorem st_neq23 (x y : Operand) (ho : o.op = .binOp .neq 23 x y 23) (hh : List (BitVec 8)) (hl : hh.length = 32) (hx : a.eval x = .agg (hh.map V).toArray) (hy : a.eval y = .agg (hh.map V).toArray) : o.wp Tryd.prog a w (Ends a o.dst w (Fk.eq (.bool false)).f) Q := by
  refine st_pure (v := .bool false) ?_ rfl
  have h1 := Tryd.noGuard23n x y (hh.map V).toArray (hh.map V).toArray w
  have h2 := run_equal25_same w hh hl
  unfold execOp
  rw [ho]
  simp [hx, hy, h1, binOp, Op.equal, Op.maxDepth, h2]
theorem st_pick_f (c x y : Operand) (ho : o.op = .pick c x y) (hc : a.eval c = .bool false) (h : q.f (a.eval y) w) : o.wp Tryd.prog a w (Ends a o.dst w q.f) Q :=
  st_pure (v := a.eval y) (by unfold execOp; rw [ho]; simp [hc, asBool]) h
end
theorem kb_eq {a b : Int} : kb a = kb b ↔ a % 256 = b % 256 := by
  constructor
  · intro h
    have := congrArg bv h
    rw [← kb_v, ← kb_v] at this
    exact this
  · intro h
    apply BitVec.eq_of_toNat_eq
    have h1 := kb_v a
    have h2 := kb_v b
    unfold bv at h1 h2
    omega
theorem four_eq (a b : Int) : four a = four b ↔ a % 4294967296 = b % 4294967296 := by
  unfold four
  simp only [List.cons.injEq, kb_eq, and_true]
  omega
theorem two_eq (a b : Int) : two a = two b ↔ a % 65536 = b % 65536 := by
  unfold two
  simp only [List.cons.injEq, kb_eq, and_true]
  omega
theorem four_len (a : Int) : (four a).length = 4 := rfl
theorem two_len (a : Int) : (two a).length = 2 := rfl
theorem secret_eq (x : BitVec 8) (seed : List (BitVec 8)) (a0 a1 b0 b1 : Int) : (decide (a0 % 4294967296 = b0 % 4294967296) && decide (a1 % 4294967296 = b1 % 4294967296)) = decide (str (x :: (seed ++ (four a0 ++ four a1))) = str (x :: (seed ++ (four b0 ++ four b1)))) := by
  have : str (x :: (seed ++ (four a0 ++ four a1))) = str (x :: (seed ++ (four b0 ++ four b1))) ↔ (a0 % 4294967296 = b0 % 4294967296 ∧ a1 % 4294967296 = b1 % 4294967296) := by
    rw [← four_eq, ← four_eq]
    constructor
    · intro h
      have := str_inj h
      simp only [List.cons.injEq, true_and, List.append_cancel_left_eq] at this
      exact List.append_inj this (by rw [four_len, four_len])
    · rintro ⟨h1, h2⟩
      rw [h1, h2]
  simp [this]
theorem chain_eq (x : BitVec 8) (seed : List (BitVec 8)) (a0 a1 b0 b1 : Int) : (decide (a0 % 65536 = b0 % 65536) && decide (a1 % 65536 = b1 % 65536)) = decide (str (x :: (seed ++ (two a0 ++ two a1))) = str (x :: (seed ++ (two b0 ++ two b1)))) := by
  have : str (x :: (seed ++ (two a0 ++ two a1))) = str (x :: (seed ++ (two b0 ++ two b1))) ↔ (a0 % 65536 = b0 % 65536 ∧ a1 % 65536 = b1 % 65536) := by
    rw [← two_eq, ← two_eq]
    constructor
    · intro h
      have := str_inj h
      simp only [List.cons.injEq, true_and, List.append_cancel_left_eq] at this
      exact List.append_inj this (by rw [two_len, two_len])
    · rintro ⟨h1, h2⟩
      rw [h1, h2]
  simp [this]
end Go.Proofs.YtfhhlkbcoofemaaDoor
