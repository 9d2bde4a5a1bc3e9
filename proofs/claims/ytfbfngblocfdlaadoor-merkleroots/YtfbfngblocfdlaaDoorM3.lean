/- Regions that end in an assignment; steps over numbers. Lists of hashes in memory, and what Public hands back. Numbers in memory, append of numbers, and the digits of a hash, plain. What wots.Digits hands back: the 67 digits, in new memory. Steps of chains: what the laws' walked and wots.Walk hand back. More that is told of slots, and steps over it: numbers and hashes in slices, comparisons, the calls of wots. Made by gen_uf.py. isKey; the digits by a pointer; what awake answers. A row of hashes that is written hash by hash. What wots.Public, Sign and Recover hand back. What wots.Sign hands back. What wots.Recover hands back. Walks over frames that are letters: the start, regions that are steps as a whole, stores and assignments behind steps. Slices of hashes of the call's own that grow by one: what is told of them, and append. Plain: a drawn region whose first operations come in any order, and whose last ones, in a chain, wait for them all. -/
import Derived.Test.YtfbfngblocfdlaaDoorM2
import Derived.Laws.OwnMore
import Derived.Deep.MidRow
import Derived.Laws.ResultCell
namespace Go.Proofs.YtfbfngblocfdlaaDoor
set_option maxRecDepth 100000
open Go.RowKit
/-- One operation that lays slot s into slot d. -/
def lastAssign (s d : Nat) : List Oper → Bool
  | [o] => (o.dst == some d) && (match o.op with | .assign (.tmp t) => t == s | _ => false) && o.guard.isNone
  | _ => false
/-- What is told of the frame behind a region that ends in an assignment. -/
structure After (ops : List Oper) (q : Fk) (d : Nat) (a0 a2 : Act) (w : World) : Prop where
  defs : a2.defers = a0.defers
  size : a2.tmps.size = a0.tmps.size
  old : ∀ t, freeOf ops t = true → a2.eval (.tmp t) = a0.eval (.tmp t)
  new : q.f (a2.eval (.tmp d)) w
theorem put_eval_other (a : Act) (d : Nat) (v : Value) (t : Nat) (h : d ≠ t) : (a.put (some d) v).eval (.tmp t) = a.eval (.tmp t) := eval_of_get (put_other a (some d) v t (by simp [h]))
theorem put_eval_same (a : Act) (d : Nat) (v : Value) (h : d < a.tmps.size) : (a.put (some d) v).eval (.tmp d) = v := by
  have := put_same a d v h
  simp [Act.eval, this]
theorem after_of_final {P : Program} {Q : Exit → Act → World → Prop} {ops : Array Oper} {a0 : Act} {w : World} (qs : List Fk) (i s d : Nat) (hL : lastAssign s d (ops.toList.drop qs.length) = true) (hi : (decide (i < qs.length) && (((ops.toList[i]?).bind (·.dst)) == some s)) = true) (hd : decide (d < a0.tmps.size) = true)
    (hF : ∀ a2 w', After ops.toList (qs.getD i .any) d a0 a2 w' → Below w.heap.size w w' → Q .normal a2 w') :
    ∀ af w', Final ops.toList qs a0 af w' → Below w.heap.size w w' → wpList P ops Q (ops.toList.drop qs.length) af w' := by
  intro af w' fin hb
  cases hl : ops.toList.drop qs.length with
  | nil => rw [hl] at hL; simp [lastAssign] at hL
  | cons o r =>
    cases r with
    | cons _ _ => rw [hl] at hL; simp [lastAssign] at hL
    | nil =>
      rw [hl] at hL
      simp only [lastAssign, Bool.and_eq_true, beq_iff_eq, Option.isNone_iff_eq_none] at hL
      obtain ⟨⟨h1, h2⟩, h3⟩ := hL
      have hop : o.op = .assign (.tmp s) := by
        cases ho : o.op with
        | assign x =>
          cases x with
          | tmp t => rw [ho] at h2; simp at h2; rw [h2]
          | const _ => rw [ho] at h2; simp at h2
          | global _ => rw [ho] at h2; simp at h2
          | func _ => rw [ho] at h2; simp at h2
        | _ => rw [ho] at h2; simp at h2
      refine end_assign (.tmp s) hop h3 ?_
      rw [h1]
      have hsz : d < af.tmps.size := by rw [fin.size]; exact of_decide_eq_true hd
      refine hF _ _ ⟨(put_def _ _ _).trans fin.defs, (put_size _ _ _).trans fin.size, fun t ht => ?_, ?_⟩ hb
      · have hall := List.all_eq_true.1 ht
        have hne : d ≠ t := by
          have hm : o ∈ ops.toList := by
            have : o ∈ ops.toList.drop qs.length := by rw [hl]; simp
            exact List.mem_of_mem_drop this
          have := hall o hm
          rw [h1] at this
          intro e
          simp [e] at this
        rw [put_eval_other _ _ _ _ hne]
        refine fin.old t ?_
        exact List.all_eq_true.2 (fun x hx => hall x (List.mem_of_mem_take hx))
      · rw [put_eval_same _ _ _ hsz]
        exact fin.has i s hi
/-- A drawn region that ends in an assignment. -/
theorem wp_region_assign {P : Program} {Q : Exit → Act → World → Prop} {ops : Array Oper} {id : Nat} {a0 : Act} {w : World} (qs : List Fk) (i s d : Nat) (hm : P.follows .mixedOrders = true) (hL : lastAssign s d (ops.toList.drop qs.length) = true) (hi : (decide (i < qs.length) && (((ops.toList[i]?).bind (·.dst)) == some s)) = true) (hd : decide (d < a0.tmps.size) = true) (hk : decide (qs.length ≤ ops.size) = true) (hE : edgesOk ops.toList qs.length = true)
    (hD : dstsOk a0.tmps.size (ops.toList.take qs.length) = true) (hG : guardsOk ops.toList qs.length qs ops.toList qs = true)
    (hS : Steps P Q ops.toList qs.length qs a0 w ops.toList qs)
    (hF : ∀ a2 w', After ops.toList (qs.getD i .any) d a0 a2 w' → Below w.heap.size w w' → Q .normal a2 w') :
    (Code.region id ops true).wp P Q a0 w :=
  wp_region_end qs hm hk hE hD hG hS (after_of_final qs i s d hL hi hd hF)
/-- A region in the text's order that ends in an assignment. -/
theorem wp_text_assign {P : Program} {Q : Exit → Act → World → Prop} {ops : Array Oper} {id : Nat} {a0 : Act} {w : World} (qs : List Fk) (i s d : Nat) (hl : Region.linearise .any ops 0 = List.range ops.size) (hL : lastAssign s d (ops.toList.drop qs.length) = true) (hi : (decide (i < qs.length) && (((ops.toList[i]?).bind (·.dst)) == some s)) = true) (hd : decide (d < a0.tmps.size) = true) (hk : decide (qs.length ≤ ops.size) = true) (hE : edgesOk ops.toList qs.length = true)
    (hD : dstsOk a0.tmps.size (ops.toList.take qs.length) = true) (hG : guardsOk ops.toList qs.length qs ops.toList qs = true)
    (hS : Steps P Q ops.toList qs.length qs a0 w ops.toList qs)
    (hF : ∀ a2 w', After ops.toList (qs.getD i .any) d a0 a2 w' → Below w.heap.size w w' → Q .normal a2 w') :
    (Code.region id ops false).wp P Q a0 w :=
  wp_region_text qs hl hk hE hD hG hS (after_of_final qs i s d hL hi hd hF)
theorem ret_slot {fn : Func} {t : Tmp} (h : fn.results = #[.tmp t]) (a : Act) (v : Value) (ht : a.eval (.tmp t) = v) (P : Program) (w : World) : (results fn a.tmps).run P w = .ok v w := by
  rw [results_tmp h]
  have : a.tmps.getD t undef = v := ht
  rw [this]
theorem Tryd.under3 : Tryd.prog.underlying 3 = some (.int .i64) := by kernel_rfl
theorem Tryd.under63 : Tryd.prog.underlying 63 = some (.int .u32) := by kernel_rfl
theorem Tryd.isAgg3 (w : World) : (isAgg 3).run Tryd.prog w = .ok false w := by kernel_rfl
section
variable {Q : Exit → Act → World → Prop} {o : Oper} {a : Act} {w : World} {q : Fk}
theorem st_load3 (x : Operand) (ho : o.op = .load 3 x) (p i : Nat) (z : Int) (hx : a.eval x = .pointer (some ⟨p, i, none⟩)) (hc : w.cell? ⟨p, i, none⟩ = some (.int .i64 z)) : o.wp Tryd.prog a w (Ends a o.dst w (Fk.eq (.int .i64 z)).f) Q := by
  refine st_pure (v := .int .i64 z) ?_ rfl
  have h1 : (isAgg 3).run Tryd.prog w = .ok false w := Tryd.isAgg3 w
  unfold execOp
  rw [ho]
  simp [hx, Instr.loadAt, Instr.sureAddr, loadVar, h1, run_load, hc]
theorem st_conv32 (x : Operand) (ho : o.op = .convert 3 63 x) (z : Int) (hx : a.eval x = .int .i64 z) : o.wp Tryd.prog a w (Ends a o.dst w (Fk.eq (.int .u32 (z % 4294967296))).f) Q := by
  refine st_pure (v := .int .u32 (z % 4294967296)) ?_ rfl
  unfold execOp
  rw [ho]
  simp [hx, convert, run_underlying Tryd.under3, run_underlying Tryd.under63, Conv.intToInt, IntKind.wrap_u32]
theorem st_eqi (t : TypeId) (x y : Operand) (ho : o.op = .binOp .eql t x y t) (k : IntKind) (s u : Int) (hx : a.eval x = .int k s) (hy : a.eval y = .int k u) (b : Bool) (hb : b = decide (s = u)) : o.wp Tryd.prog a w (Ends a o.dst w (Fk.eq (.bool b)).f) Q := by
  refine st_pure (v := .bool b) ?_ rfl
  subst hb
  unfold execOp
  rw [ho]
  simp [hx, hy, eqGuard, binOp, Op.intCmp]
  by_cases h : s = u
  · simp [h]
  · simp [h]
theorem st_neqb (x y : Operand) (ho : o.op = .binOp .neq 4 x y 4) (s : Bool) (hx : a.eval x = .bool s) (hy : a.eval y = .bool s) : o.wp Tryd.prog a w (Ends a o.dst w (Fk.eq (.bool false)).f) Q := by
  refine st_pure (v := .bool false) ?_ rfl
  unfold execOp
  rw [ho]
  have h2 := run_equal_bool (P := Tryd.prog) w 4 s s Tryd.under4
  simp [hx, hy, eqGuard, binOp, h2]
theorem Tryd.noGuard24n (x y : Operand) (a b : Array Value) (w : World) : (eqGuard .neq 24 x y (.agg a) (.agg b)).run Tryd.prog w = .ok () w := by kernel_rfl
theorem st_neq24 (x y : Operand) (ho : o.op = .binOp .neq 24 x y 24) (hh : List (BitVec 8)) (hl : hh.length = 32) (hx : a.eval x = .agg (hh.map V).toArray) (hy : a.eval y = .agg (hh.map V).toArray) : o.wp Tryd.prog a w (Ends a o.dst w (Fk.eq (.bool false)).f) Q := by
  refine st_pure (v := .bool false) ?_ rfl
  have h1 := Tryd.noGuard24n x y (hh.map V).toArray (hh.map V).toArray w
  have h2 := run_equal25_same w hh hl
  unfold execOp
  rw [ho]
  simp [hx, hy, h1, binOp, Op.equal, Op.maxDepth, h2]
theorem st_pick_f (c x y : Operand) (ho : o.op = .pick c x y) (hc : a.eval c = .bool false) (h : q.f (a.eval y) w) : o.wp Tryd.prog a w (Ends a o.dst w q.f) Q :=
  st_pure (v := a.eval y) (by unfold execOp; rw [ho]; simp [hc, asBool]) h
end
theorem kb_eq {a b : Int} : kb a = kb b ↔ a % 256 = b % 256 := by
  constructor
  · intro h
    have := congrArg bv h
    rw [← kb_v, ← kb_v] at this
    exact this
  · intro h
    apply BitVec.eq_of_toNat_eq
    have h1 := kb_v a
    have h2 := kb_v b
    unfold bv at h1 h2
    omega
theorem four_eq (a b : Int) : four a = four b ↔ a % 4294967296 = b % 4294967296 := by
  unfold four
  simp only [List.cons.injEq, kb_eq, and_true]
  omega
theorem two_eq (a b : Int) : two a = two b ↔ a % 65536 = b % 65536 := by
  unfold two
  simp only [List.cons.injEq, kb_eq, and_true]
  omega
theorem four_len (a : Int) : (four a).length = 4 := rfl
theorem two_len (a : Int) : (two a).length = 2 := rfl
theorem secret_eq (x : BitVec 8) (seed : List (BitVec 8)) (a0 a1 b0 b1 : Int) : (decide (a0 % 4294967296 = b0 % 4294967296) && decide (a1 % 4294967296 = b1 % 4294967296)) = decide (str (x :: (seed ++ (four a0 ++ four a1))) = str (x :: (seed ++ (four b0 ++ four b1)))) := by
  have : str (x :: (seed ++ (four a0 ++ four a1))) = str (x :: (seed ++ (four b0 ++ four b1))) ↔ (a0 % 4294967296 = b0 % 4294967296 ∧ a1 % 4294967296 = b1 % 4294967296) := by
    rw [← four_eq, ← four_eq]
    constructor
    · intro h
      have := str_inj h
      simp only [List.cons.injEq, true_and, List.append_cancel_left_eq] at this
      exact List.append_inj this (by rw [four_len, four_len])
    · rintro ⟨h1, h2⟩
      rw [h1, h2]
  simp [this]
theorem chain_eq (x : BitVec 8) (seed : List (BitVec 8)) (a0 a1 b0 b1 : Int) : (decide (a0 % 65536 = b0 % 65536) && decide (a1 % 65536 = b1 % 65536)) = decide (str (x :: (seed ++ (two a0 ++ two a1))) = str (x :: (seed ++ (two b0 ++ two b1)))) := by
  have : str (x :: (seed ++ (two a0 ++ two a1))) = str (x :: (seed ++ (two b0 ++ two b1))) ↔ (a0 % 65536 = b0 % 65536 ∧ a1 % 65536 = b1 % 65536) := by
    rw [← two_eq, ← two_eq]
    constructor
    · intro h
      have := str_inj h
      simp only [List.cons.injEq, true_and, List.append_cancel_left_eq] at this
      exact List.append_inj this (by rw [two_len, two_len])
    · rintro ⟨h1, h2⟩
      rw [h1, h2]
  simp [this]
end Go.Proofs.YtfbfngblocfdlaaDoor
namespace Go.Proofs.YtfbfngblocfdlaaDoor
set_option maxRecDepth 100000
open Go.RowKit
/-- A slice value that has the hashes hs, one behind the other. -/
structure Hl (w : World) (A : Option Addr) (lb lo : Nat) (hs : List (List (BitVec 8))) : Prop where
  ptr : 0 < hs.length → A = some ⟨lb, lo, none⟩
  lt : 0 < hs.length → lb < w.heap.size
  all : ∀ (i : Nat) (h : List (BitVec 8)), hs[i]? = some h → h.length = 32 ∧ HasB w lb (lo + i * 32) h
theorem Hl.below {w w' : World} {A : Option Addr} {lb lo : Nat} {hs : List (List (BitVec 8))} (h : Hl w A lb lo hs) (hb : Below w.heap.size w w') : Hl w' A lb lo hs :=
  ⟨h.ptr, fun hp => Nat.lt_of_lt_of_le (h.lt hp) hb.size, fun i x hi => ⟨(h.all i x hi).1, (h.all i x hi).2.below hb (h.lt (by have := (List.getElem?_eq_some_iff.1 hi).1; omega))⟩⟩
/-- The slice of hash number i. -/
def hp (lb lo : Nat) (hs : List (List (BitVec 8))) (i : Nat) : Pt := ⟨some ⟨lb, lo + i * 32, none⟩, 32, 32, hs.getD i [], lb, lo + i * 32⟩
def hps (lb lo : Nat) (hs : List (List (BitVec 8))) (k : Nat) : List Pt := (List.range k).map (hp lb lo hs)
theorem hps_len (lb lo : Nat) (hs : List (List (BitVec 8))) (k : Nat) : (hps lb lo hs k).length = k := by simp [hps]
theorem hps_succ (lb lo : Nat) (hs : List (List (BitVec 8))) (k : Nat) : hps lb lo hs (k + 1) = hps lb lo hs k ++ [hp lb lo hs k] := by simp [hps, List.range_succ]
theorem hps_get (lb lo : Nat) (hs : List (List (BitVec 8))) (k i : Nat) (p : Pt) (h : (hps lb lo hs k)[i]? = some p) : i < k ∧ p = hp lb lo hs i := by
  obtain ⟨h1, h2⟩ := List.getElem?_eq_some_iff.1 h
  rw [hps_len] at h1
  refine ⟨h1, ?_⟩
  rw [← h2]
  simp [hps]
theorem hp_ok {w : World} {A : Option Addr} {lb lo : Nat} {hs : List (List (BitVec 8))} (h : Hl w A lb lo hs) (i : Nat) (hi : i < hs.length) : (hp lb lo hs i).ok w := by
  have hg : hs[i]? = some (hs.getD i []) := by simp [hi]
  obtain ⟨h1, h2⟩ := h.all i _ hg
  exact ⟨h1.symm, Nat.le_refl _, fun h => by (cases h), fun _ => ⟨rfl, h.lt (by omega), h2⟩⟩
theorem hps_ok {w : World} {A : Option Addr} {lb lo : Nat} {hs : List (List (BitVec 8))} (h : Hl w A lb lo hs) (k : Nat) (hk : k ≤ hs.length) : Oks w (hps lb lo hs k) := fun i p hi => by
  obtain ⟨h1, rfl⟩ := hps_get lb lo hs k i p hi
  exact hp_ok h i (by omega)
theorem hps_cat (lb lo : Nat) (hs : List (List (BitVec 8))) (k : Nat) (hk : k ≤ hs.length) : cat (hps lb lo hs k) = (hs.take k).flatten := by
  induction k with
  | zero => rfl
  | succ k ih =>
    have : k < hs.length := by omega
    have e : (hs.take (k + 1)).flatten = (hs.take k).flatten ++ hs[k] := by
      rw [List.take_add_one, List.getElem?_eq_getElem this]
      simp only [Option.toList_some, List.flatten_append, List.flatten_cons, List.flatten_nil, List.append_nil]
    rw [hps_succ, cat_append, ih (by omega), e]
    simp [cat, hp, this]
theorem flat_len {w : World} {A : Option Addr} {lb lo : Nat} {hs : List (List (BitVec 8))} (h : Hl w A lb lo hs) : hs.flatten.length = 32 * hs.length := by
  have : ∀ (l : List (List (BitVec 8))), (∀ (i : Nat) (x : List (BitVec 8)), l[i]? = some x → x.length = 32) → l.flatten.length = 32 * l.length := by
    intro l
    induction l with
    | nil => intro _; rfl
    | cons a l ih =>
      intro hl
      have h0 := hl 0 a rfl
      have h1 := ih (fun i x hi => hl (i + 1) x (by simpa using hi))
      simp only [List.flatten_cons, List.length_append, List.length_cons]
      omega
  exact this hs (fun i x hi => (h.all i x hi).1)
/-- Block g is a row of slices. -/
def HasP (w : World) (g : Nat) (xs : List Value) : Prop := w.heap[g]? = some (.cells xs.toArray 35 (0, 0))
theorem HasP.cell {w : World} {g : Nat} {xs : List Value} (h : HasP w g xs) (i : Nat) : w.cell? ⟨g, i, none⟩ = xs[i]? := by
  unfold HasP at h
  rw [cell_of_row w g i _ 35 _ h]; simp
theorem HasP.frozen {w : World} {g : Nat} {xs : List Value} (h : HasP w g xs) (i : Nat) : w.frozen? ⟨g, i, none⟩ = false := frozen_of_row w g i _ 35 h
theorem HasP.set {w : World} {g : Nat} {xs : List Value} (h : HasP w g xs) (i : Nat) (v : Value) : HasP (w.setCell ⟨g, i, none⟩ v) g (xs.set i v) := by
  unfold HasP at *
  simp [World.setCell, Array.getElem?_modify, h]
theorem HasP.lt {w : World} {g : Nat} {xs : List Value} (h : HasP w g xs) : g < w.heap.size := (Array.getElem?_eq_some_iff.1 h).1
theorem HasP.below {w w' : World} {B g : Nat} {xs : List Value} (h : HasP w g xs) (hb : Below B w w') (hB : g < B) : HasP w' g xs := by
  unfold HasP at *
  rw [hb.block g hB]; exact h
/-- The first k are set. -/
def prow (lb lo : Nat) (hs : List (List (BitVec 8))) (n k : Nat) : List Value := (hps lb lo hs k).map Pt.val ++ List.replicate (n - k) (.slice none 0 0)
theorem prow_set (lb lo : Nat) (hs : List (List (BitVec 8))) (n k : Nat) (h : k < n) : (prow lb lo hs n k).set k (hp lb lo hs k).val = prow lb lo hs n (k + 1) := by
  unfold prow
  rw [List.set_append_right _ _ (by simp [hps_len]), List.length_map, hps_len, Nat.sub_self, show n - k = (n - (k + 1)) + 1 by omega, List.replicate_succ, List.set_cons_zero, hps_succ, List.map_append, List.append_assoc]
  rfl
theorem prow_at (lb lo : Nat) (hs : List (List (BitVec 8))) (n k : Nat) (h : k < n) : (prow lb lo hs n k)[k]? = some (.slice none 0 0) := by
  unfold prow
  rw [List.getElem?_append_right (by simp [hps_len]), List.length_map, hps_len, Nat.sub_self, List.getElem?_replicate, if_pos (by omega)]
theorem prow_ls {w : World} {A : Option Addr} {lb lo : Nat} {hs : List (List (BitVec 8))} {g n : Nat} (h : Hl w A lb lo hs) (hp : HasP w g (prow lb lo hs n n)) (hn : n ≤ hs.length) : Ls w g 0 (hps lb lo hs n) :=
  ⟨fun i p hi => by
    rw [Nat.zero_add, hp.cell]
    unfold prow
    rw [List.getElem?_append_left (by rw [List.length_map]; exact (List.getElem?_eq_some_iff.1 hi).1), List.getElem?_map, hi]
    rfl, hps_ok h n hn⟩
theorem Tryd.info35 : (Tryd.prog.info? 35).map (fun i => (i.zero, i.size, i.bytes)) = some (some (.slice none 0 0), 1, 24) := by kernel_rfl
theorem Tryd.make33 (c : Nat) (hc : c ≤ 1000) (w : World) : (Instr.makeSlice 33 (.int .i64 (c : Int)) (.int .i64 (c : Int))).run Tryd.prog w = .ok (.slice (some ⟨w.heap.size, 0, none⟩) c c) (w.alloc (.cells (prow 0 0 [] c 0).toArray 35)) := by
  obtain ⟨i0, hi, hz0, hz1, hz2⟩ := info_parts Tryd.info35
  have := run_make (P := Tryd.prog) w 33 35 i0 (.slice none 0 0) Tryd.under33 hi hz0 .i64 .i64 (c : Int) (c : Int) (by omega) (by omega) (by rw [hz2]; omega) (by omega)
  rw [hz1, Int.toNat_natCast, Nat.mul_one, show madeCells (Value.slice none 0 0).cells c = (prow 0 0 [] c 0).toArray from by
    apply Array.toList_inj.1
    rw [show (Value.slice none 0 0).cells = #[Value.slice none 0 0] from rfl, toList_madeCells_one]
    simp [prow, hps]] at this
  exact this
theorem prow_start (lb lo : Nat) (hs : List (List (BitVec 8))) (n : Nat) : prow lb lo hs n 0 = prow 0 0 [] n 0 := by simp [prow, hps]
end Go.Proofs.YtfbfngblocfdlaaDoor
namespace Go.Proofs.YtfbfngblocfdlaaDoor
set_option maxRecDepth 100000
open Go.RowKit
/-- A number in a cell. -/
def Nv (n : Nat) : Value := .int .i64 (n : Int)
theorem Nv_one (ns : List Nat) : ∀ v ∈ ns.map Nv, v.oneCell' = true := by
  intro v hv
  obtain ⟨x, _, rfl⟩ := List.mem_map.1 hv
  rfl
/-- A slice value that has the numbers ds. -/
structure Is (w : World) (sp : Option Addr) (b o : Nat) (ds : List Nat) : Prop where
  ptr : 0 < ds.length → sp = some ⟨b, o, none⟩
  cell : ∀ (i : Nat) (d : Nat), ds[i]? = some d → w.cell? ⟨b, o + i, none⟩ = some (.int .i64 (d : Int))
theorem Is.lt {w : World} {sp : Option Addr} {b o : Nat} {ds : List Nat} (h : Is w sp b o ds) {i d : Nat} (hi : ds[i]? = some d) : b < w.heap.size := block_lt_of_cell (h.cell i d hi)
theorem Is.below {w w' : World} {sp : Option Addr} {b o : Nat} {ds : List Nat} (h : Is w sp b o ds) (hb : Below w.heap.size w w') : Is w' sp b o ds :=
  ⟨h.ptr, fun i d hi => by rw [hb.cell (h.lt hi)]; exact h.cell i d hi⟩
theorem own_is {w : World} {base n : Nat} {v : Value} {xs : List Nat} (h : w.ownsRow base 3 1 v n (xs.map Nv)) : ∃ g sp c, v = .slice sp xs.length c ∧ Is w sp g 0 xs ∧ (0 < n → base ≤ g) := by
  obtain ⟨hl, h⟩ := h
  have hn : n = xs.length := by simpa using hl.symm
  rcases h with ⟨rfl, rfl⟩ | ⟨g, cap, cur, rfl, hbg, hg, hnc, _, hcs, ht⟩
  · have : xs = [] := List.eq_nil_of_length_eq_zero hn.symm
    subst this
    exact ⟨0, none, 0, rfl, ⟨fun h => by simp at h, fun i d hi => by simp at hi⟩, fun h => absurd h (by omega)⟩
  · subst hn
    refine ⟨g, some ⟨g, 0, none⟩, cap, rfl, ⟨fun _ => rfl, ?_⟩, fun _ => hbg⟩
    intro i d hi
    have hil : i < xs.length := (List.getElem?_eq_some_iff.1 hi).1
    rw [Nat.zero_add, cell_of_row _ _ _ _ _ _ hg]
    have e2 := congrArg (·[i]?) ht
    simp only [Nat.mul_one, List.getElem?_take, if_pos hil, List.getElem?_map, hi, Option.map_some, Array.getElem?_toList] at e2
    exact e2
theorem Tryd.info3 : (Tryd.prog.info? 3).map (fun i => (i.zero, i.size, i.bytes)) = some (some (.int .i64 0), 1, 8) := by kernel_rfl
theorem Tryd.under47 : Tryd.prog.underlying 47 = some (.slice 3) := by kernel_rfl
/-- append of numbers onto a slice of the call's own. -/
theorem appendI {ops : Array Oper} {rest : List Oper} {o : Oper} {a : Act} {w : World} {Q : Exit → Act → World → Prop} (hgd : o.guard = none) (s x : Operand)
    (ho : o.op = .call { callee := .builtin .append, args := #[s, x], argTypes := #[47, 47] })
    (base : Nat) (v : Value) (n : Nat) (xs : List Nat) (hs : a.eval s = v) (hown : w.ownsRow base 3 1 v n (xs.map Nv))
    (ad : Addr) (m c : Nat) (ys : List Nat) (hx : a.eval x = .slice (some ad) m c) (hl : ys.length = m) (hnews : ∀ j u, (ys.map Nv)[j]? = some u → w.cell? (ad.add j) = some u) (hb : n + m ≤ 1000000) (hbase : base ≤ w.heap.size)
    (h : ∀ v' w', w'.ownsRow base 3 1 v' (n + m) ((xs ++ ys).map Nv) → w.grownBy w' v.ownBlock → wpList Tryd.prog ops Q rest (a.put o.dst v') w') : wpList Tryd.prog ops Q (o :: rest) a w := by
  obtain ⟨i0, hi, hz0, hz1, hz2⟩ := info_parts Tryd.info3
  refine wpList_append_own w hgd s x 47 ho base 3 i0 (.int .i64 0) 1 8 Tryd.under47 hi hz0 hz1 hz2 rfl (by decide) v n (xs.map Nv) hs hown ad m c (ys.map Nv) hx (by rw [List.length_map, Nat.mul_one]; exact hl) hnews (Nv_one ys) (by unfold maxLen; omega) (by omega) hbase ?_
  intro v' w' h1 h2 _
  rw [← List.map_append] at h1
  exact h v' w' h1 h2
theorem news_new (w : World) (T : TypeId) (ys : List Nat) : ∀ j u, (ys.map Nv)[j]? = some u → (w.alloc (.cells (ys.map Nv).toArray T)).cell? ((⟨w.heap.size, 0, none⟩ : Addr).add j) = some u := by
  intro j u hj
  have hadd : (⟨w.heap.size, 0, none⟩ : Addr).add j = ⟨w.heap.size, j, none⟩ := by unfold Addr.add; split <;> simp_all
  rw [hadd, World.cell?_alloc_mark]
  simpa using hj
/- The digits. -/
/-- Digit i of the first 64. -/
def half (h : List (BitVec 8)) (i : Nat) : Nat := if i % 2 = 0 then (h.getD (i / 2) 0).toNat / 16 else (h.getD (i / 2) 0).toNat % 16
/-- The first k. -/
def hds (h : List (BitVec 8)) (k : Nat) : List Nat := (List.range k).map (half h)
/-- What is left to 15, of the first k, added. -/
def lef (h : List (BitVec 8)) : Nat → Nat
  | 0 => 0
  | k + 1 => lef h k + (15 - half h k)
/-- All 67. -/
def dig (h : List (BitVec 8)) : List Nat := hds h 64 ++ [lef h 64 / 256, lef h 64 / 16 % 16, lef h 64 % 16]
theorem half_le (h : List (BitVec 8)) (i : Nat) : half h i ≤ 15 := by
  unfold half
  have := (h.getD (i / 2) 0).isLt
  split <;> omega
theorem lef_le (h : List (BitVec 8)) (k : Nat) : lef h k ≤ 15 * k := by
  induction k with
  | zero => simp [lef]
  | succ k ih => simp only [lef]; omega
theorem hds_len (h : List (BitVec 8)) (k : Nat) : (hds h k).length = k := by simp [hds]
theorem hds_succ (h : List (BitVec 8)) (k : Nat) : hds h (k + 1) = hds h k ++ [half h k] := by simp [hds, List.range_succ]
theorem dig_len (h : List (BitVec 8)) : (dig h).length = 67 := by simp [dig, hds_len]
theorem dig_le (h : List (BitVec 8)) (i d : Nat) (hi : (dig h)[i]? = some d) : d ≤ 15 := by
  have hm := List.mem_of_getElem? hi
  unfold dig at hm
  have hl := lef_le h 64
  rcases List.mem_append.1 hm with hm | hm
  · unfold hds at hm
    obtain ⟨j, _, rfl⟩ := List.mem_map.1 hm
    exact half_le h j
  · simp at hm; omega
theorem half_even (h : List (BitVec 8)) (k : Nat) : half h (2 * k) = (h.getD k 0).toNat / 16 := by
  unfold half; rw [if_pos (by omega), show 2 * k / 2 = k by omega]
theorem half_odd (h : List (BitVec 8)) (k : Nat) : half h (2 * k + 1) = (h.getD k 0).toNat % 16 := by
  unfold half; rw [if_neg (by omega), show (2 * k + 1) / 2 = k by omega]
theorem hds_two (h : List (BitVec 8)) (k : Nat) : hds h (2 * (k + 1)) = hds h (2 * k) ++ [(h.getD k 0).toNat / 16, (h.getD k 0).toNat % 16] := by
  rw [show 2 * (k + 1) = 2 * k + 1 + 1 by omega, hds_succ, hds_succ, half_even, half_odd, List.append_assoc]
  rfl
theorem lef_two (h : List (BitVec 8)) (k : Nat) : lef h (2 * (k + 1)) = lef h (2 * k) + (15 - (h.getD k 0).toNat / 16) + (15 - (h.getD k 0).toNat % 16) := by
  rw [show 2 * (k + 1) = 2 * k + 1 + 1 by omega, lef, lef, half_even, half_odd]
end Go.Proofs.YtfbfngblocfdlaaDoor
namespace Go.Proofs.YtfbfngblocfdlaaDoor
set_option maxRecDepth 100000
open Go.RowKit
/-- So many numbers 0. -/
def zn (c : Nat) : List Nat := List.replicate c 0
theorem Tryd.make67 (w : World) : (Instr.makeSlice 47 (.int .i64 0) (.int .i64 67)).run Tryd.prog w = .ok (.slice (some ⟨w.heap.size, 0, none⟩) 0 67) (w.alloc (.cells ((zn 67).map Nv).toArray 3)) := by kernel_rfl
/-- v is a slice of the call's own that has the numbers xs. -/
def OwnI (w : World) (base : Nat) (v : Value) (n : Nat) (xs : List Nat) : Prop := w.ownsRow base 3 1 v n (xs.map Nv)
theorem own_made (w : World) (base c : Nat) (h : base ≤ w.heap.size) (hc : c ≤ maxLen) : OwnI (w.alloc (.cells ((zn c).map Nv).toArray 3)) base (.slice (some ⟨w.heap.size, 0, none⟩) 0 c) 0 [] :=
  ⟨rfl, .inr ⟨w.heap.size, c, ((zn c).map Nv).toArray, rfl, h, heap_alloc_new _ _, Nat.zero_le _, hc, by simp [zn], by simp⟩⟩
theorem OwnI.alloc {w : World} {base n : Nat} {v : Value} {xs : List Nat} (h : OwnI w base v n xs) (o : Obj) : OwnI (w.alloc o) base v n xs := World.ownsRow.alloc h o
theorem i15_all : ∀ x : Fin 1024, bits .and .i64 ((x.val : Nat) : Int) 15 = ((x.val % 16 : Nat) : Int) := by decide +kernel
theorem i15 (n : Nat) (h : n < 1024) : bits .and .i64 (n : Int) (15 : Int) = ((n % 16 : Nat) : Int) := i15_all ⟨n, h⟩
attribute [local go_sem] and15
end Go.Proofs.YtfbfngblocfdlaaDoor
namespace Go.Proofs.YtfbfngblocfdlaaDoor
set_option maxRecDepth 100000
open Go.RowKit
/-- One step of chain c, from step s. -/
def chn (c s : Int) (x : List (BitVec 8)) : List (BitVec 8) := shaOf (kb 2 :: (x ++ (two c ++ two s)))
theorem chn_len (c s : Int) (x : List (BitVec 8)) : (chn c s x).length = 32 := shaOf_len _
/-- n steps of chain c, from step f on. -/
def wk (c : Int) (f : Nat) (x : List (BitVec 8)) : Nat → List (BitVec 8)
  | 0 => x
  | n + 1 => chn c ((f + n : Nat) : Int) (wk c f x n)
theorem wk_len (c : Int) (f : Nat) (x : List (BitVec 8)) (n : Nat) (h : x.length = 32) : (wk c f x n).length = 32 := by
  cases n with
  | zero => exact h
  | succ n => exact chn_len _ _ _
theorem wk_add (c : Int) (f : Nat) (x : List (BitVec 8)) (m n : Nat) : wk c f x (m + n) = wk c (f + m) (wk c f x m) n := by
  induction n with
  | zero => rfl
  | succ n ih => rw [← Nat.add_assoc, wk, ih, wk, Nat.add_assoc]
/-- The secret of chain c. -/
def sec (seed : List (BitVec 8)) (key c : Int) : List (BitVec 8) := shaOf (kb 3 :: (seed ++ (four key ++ four c)))
theorem sec_len (seed : List (BitVec 8)) (key c : Int) : (sec seed key c).length = 32 := shaOf_len _
/-- A public key. -/
def pub (hs : List (List (BitVec 8))) : List (BitVec 8) := shaOf (kb 4 :: hs.flatten)
theorem pub_len (hs : List (List (BitVec 8))) : (pub hs).length = 32 := shaOf_len _
theorem HasV.setRow {w : World} {g : Nat} {T : TypeId} {xs ys : List (BitVec 8)} (h : HasV w g T xs) : HasV (w.setRow g (ys.map V).toArray) g T ys := setRow_heap _ _ _ _ T (0, 0) h
theorem HasV.setRow_other {w : World} {g b : Nat} {T : TypeId} {xs : List (BitVec 8)} {cs : Array Value} (h : HasV w b T xs) (hne : b ≠ g) : HasV (w.setRow g cs) b T xs := by
  have := Go.setRow_other w g b cs hne
  unfold HasV at *
  rw [this]; exact h
/-- What wots.Walk has behind k looks. -/
def lk (c f t : Int) (x : List (BitVec 8)) : Nat → List (BitVec 8)
  | 0 => x
  | k + 1 => if f ≤ (k : Int) ∧ (k : Int) < t then chn c k (lk c f t x k) else lk c f t x k
theorem lk_len (c f t : Int) (x : List (BitVec 8)) (k : Nat) (h : x.length = 32) : (lk c f t x k).length = 32 := by
  induction k with
  | zero => exact h
  | succ k ih =>
    simp only [lk]
    split
    · exact chn_len _ _ _
    · exact ih
theorem lk_wk (c : Int) (f t : Nat) (x : List (BitVec 8)) (k : Nat) : lk c f t x k = wk c f x (min k t - f) := by
  induction k with
  | zero => simp [lk, wk]
  | succ k ih =>
    simp only [lk]
    split
    · rename_i h
      have e : min (k + 1) t - f = (min k t - f) + 1 := by omega
      rw [ih, e, wk, show f + (min k t - f) = k by omega]
    · rename_i h
      rw [ih]
      congr 1
      omega
end Go.Proofs.YtfbfngblocfdlaaDoor
namespace Go.Proofs.YtfbfngblocfdlaaDoor
set_option maxRecDepth 100000
open Go.RowKit
/-- A pointer to a number. -/
def Fk.pi (z : Int) : Fk := .inr (.inl ⟨fun v w => ∃ b o, v = .pointer (some ⟨b, o, none⟩) ∧ w.cell? ⟨b, o, none⟩ = some (.int .i64 z), by
  rintro v w w' ⟨b, o, e, h⟩ hb
  exact ⟨b, o, e, by rw [hb.cell (block_lt_of_cell h)]; exact h⟩⟩)
/-- A pointer to a hash. -/
def Fk.ph (xs : List (BitVec 8)) : Fk := .inr (.inl ⟨fun v w => ∃ b o, v = .pointer (some ⟨b, o, none⟩) ∧ xs.length = 32 ∧ b < w.heap.size ∧ HasB w b o xs, by
  rintro v w w' ⟨b, o, e, hl, hlt, h⟩ hb
  exact ⟨b, o, e, hl, Nat.lt_of_lt_of_le hlt hb.size, h.below hb hlt⟩⟩)
/-- A slice of numbers. -/
def Fk.ds (ds : List Nat) : Fk := .inr (.inl ⟨fun v w => ∃ sp c b o, v = .slice sp ds.length c ∧ Is w sp b o ds, by
  rintro v w w' ⟨sp, c, b, o, e, h⟩ hb
  exact ⟨sp, c, b, o, e, h.below hb⟩⟩)
/-- A slice of hashes. -/
def Fk.hs (hs : List (List (BitVec 8))) : Fk := .inr (.inl ⟨fun v w => ∃ A C lb lo, v = .slice A hs.length C ∧ Hl w A lb lo hs, by
  rintro v w w' ⟨A, C, lb, lo, e, h⟩ hb
  exact ⟨A, C, lb, lo, e, h.below hb⟩⟩)
/-- Two values: such a slice, and an error's number. -/
def Fk.th (hs : List (List (BitVec 8))) (n : Int) : Fk := .inr (.inl ⟨fun v w => ∃ u, v = .tuple #[u, .int .i64 n] ∧ (Fk.hs hs).f u w, by
  rintro v w w' ⟨u, e, h⟩ hb
  exact ⟨u, e, Fk.mono _ _ _ _ h hb⟩⟩)
theorem arg2 {a : Act} {x y : Operand} {u v : Value} (h : a.eval x = u) (h2 : a.eval y = v) : ((#[x, y].toList.map a.eval).toArray : Array Value) = #[u, v] := by rw [← h, ← h2]; rfl
theorem arg3 {a : Act} {x y z : Operand} {u v t : Value} (h : a.eval x = u) (h2 : a.eval y = v) (h3 : a.eval z = t) : ((#[x, y, z].toList.map a.eval).toArray : Array Value) = #[u, v, t] := by rw [← h, ← h2, ← h3]; rfl
theorem arg4 {a : Act} {x y z p : Operand} {u v t s : Value} (h : a.eval x = u) (h2 : a.eval y = v) (h3 : a.eval z = t) (h4 : a.eval p = s) : ((#[x, y, z, p].toList.map a.eval).toArray : Array Value) = #[u, v, t, s] := by rw [← h, ← h2, ← h3, ← h4]; rfl
theorem fk_of {f : FuncId} {args : Array Value} {w : World} {v : Value} (h : Calls Tryd.prog f args w fun e w' => e = .returned v ∧ Below w.heap.size w w') : Calls Tryd.prog f args w fun e w' => ∃ u, e = .returned u ∧ (Fk.eq v).f u w' ∧ Below w.heap.size w w' := by
  refine h.mono ?_
  rintro e w' ⟨rfl, hb⟩
  exact ⟨_, rfl, rfl, hb⟩
theorem Tryd.isAgg3' (w : World) : (isAgg 3).run Tryd.prog w = .ok false w := by kernel_rfl
theorem Tryd.elem47 : Tryd.prog.elem 47 = 3 := by kernel_rfl
theorem Tryd.elem22 : Tryd.prog.elem 22 = 24 := by kernel_rfl
theorem Tryd.sizeOf3 (w : World) : (sizeOf 3).run Tryd.prog w = .ok 1 w := by kernel_rfl
theorem Tryd.sizeOf24 (w : World) : (sizeOf 24).run Tryd.prog w = .ok 32 w := by kernel_rfl
theorem Tryd.under22' : Tryd.prog.underlying 22 = some (.slice 24) := by kernel_rfl
theorem Tryd.zero24 (w : World) : (Instr.build 24 #[]).run Tryd.prog w = .ok (.agg ((hsh St.first 0).map V).toArray) w := by kernel_rfl
section
variable {Q : Exit → Act → World → Prop} {o : Oper} {a : Act} {w : World} {q : Fk}
theorem st_loadi (x : Operand) (ho : o.op = .load 3 x) {z : Int} (h : (Fk.pi z).f (a.eval x) w) : o.wp Tryd.prog a w (Ends a o.dst w (Fk.eq (.int .i64 z)).f) Q := by
  obtain ⟨b, so, e, hc⟩ := h
  refine st_pure (v := .int .i64 z) ?_ rfl
  have h1 : (isAgg 3).run Tryd.prog w = .ok false w := Tryd.isAgg3' w
  unfold execOp
  rw [ho]
  simp [e, Instr.loadAt, Instr.sureAddr, loadVar, h1, run_load, hc]
theorem st_loadh (x : Operand) (ho : o.op = .load 24 x) {xs : List (BitVec 8)} (h : (Fk.ph xs).f (a.eval x) w) : o.wp Tryd.prog a w (Ends a o.dst w (Fk.eq (.agg (xs.map V).toArray)).f) Q := by
  obtain ⟨b, so, e, hl, hlt, hB⟩ := h
  refine wp_load_mid 24 x ho b so e (xs.map V) _ ?_ Tryd.under24 rfl (by rw [List.length_map, hl]; exact Tryd.size24) ⟨_, rfl, Below.refl _ _, rfl⟩
  intro j v hj
  have := hB.src xs.length j v
  rw [List.take_of_length_le (Nat.le_refl _)] at this
  have h2 := this hj
  rw [Addr.add_mid] at h2
  exact h2
theorem st_idxi (x y : Operand) (ho : o.op = .indexAddr 47 x y) {ds : List Nat} (h : (Fk.ds ds).f (a.eval x) w) (i d : Nat) (hy : a.eval y = .int .i64 (i : Int)) (hi : ds[i]? = some d) : o.wp Tryd.prog a w (Ends a o.dst w (Fk.pi (d : Int)).f) Q := by
  obtain ⟨sp, c, b, so, e, hs⟩ := h
  have hil : i < ds.length := (List.getElem?_eq_some_iff.1 hi).1
  have hp := hs.ptr (by omega)
  subst hp
  refine st_pure (v := .pointer (some ⟨b, so + i, none⟩)) ?_ ⟨b, so + i, rfl, hs.cell i d hi⟩
  have h1 := run_indexAt_slice (P := Tryd.prog) (w := w) 47 ⟨b, so, none⟩ ds.length c .i64 (i : Int) (by rw [Tryd.elem47]; exact Tryd.under47)
  rw [if_pos (by omega), Tryd.elem47, Tryd.sizeOf3] at h1
  simp only [Result.andThen_ok, Int.toNat_natCast, Nat.mul_one, Addr.add_mid] at h1
  unfold execOp
  rw [ho]
  simp [e, hy, h1]
theorem st_idxh (x y : Operand) (ho : o.op = .indexAddr 22 x y) {hs : List (List (BitVec 8))} (h : (Fk.hs hs).f (a.eval x) w) (i : Nat) (xs : List (BitVec 8)) (hy : a.eval y = .int .i64 (i : Int)) (hi : hs[i]? = some xs) : o.wp Tryd.prog a w (Ends a o.dst w (Fk.ph xs).f) Q := by
  obtain ⟨A, C, lb, lo, e, hl⟩ := h
  have hil : i < hs.length := (List.getElem?_eq_some_iff.1 hi).1
  have hp := hl.ptr (by omega)
  subst hp
  obtain ⟨h32, hB⟩ := hl.all i xs hi
  refine st_pure (v := .pointer (some ⟨lb, lo + i * 32, none⟩)) ?_ ⟨lb, lo + i * 32, rfl, h32, hl.lt (by omega), hB⟩
  have h1 := run_indexAt_slice (P := Tryd.prog) (w := w) 22 ⟨lb, lo, none⟩ hs.length C .i64 (i : Int) (by rw [Tryd.elem22]; exact Tryd.under22')
  rw [if_pos (by omega), Tryd.elem22, Tryd.sizeOf24] at h1
  simp only [Result.andThen_ok, Int.toNat_natCast, Addr.add_mid] at h1
  unfold execOp
  rw [ho]
  simp [e, hy, h1]
theorem st_zero24 (ho : o.op = .build 24 #[]) : o.wp Tryd.prog a w (Ends a o.dst w (Fk.eq (.agg ((hsh St.first 0).map V).toArray)).f) Q := by
  refine st_pure (v := .agg ((hsh St.first 0).map V).toArray) ?_ rfl
  have := Tryd.zero24 w
  unfold execOp
  rw [ho]
  simp [this]
theorem st_leni (x : Operand) (ho : o.op = .call { callee := .builtin .len, args := #[x], argTypes := #[47] }) {ds : List Nat} (h : (Fk.ds ds).f (a.eval x) w) : o.wp Tryd.prog a w (Ends a o.dst w (Fk.eq (.int .i64 (ds.length : Int))).f) Q := by
  obtain ⟨sp, c, b, so, e, hs⟩ := h
  refine st_pure (v := .int .i64 (ds.length : Int)) ?_ rfl
  have h1 := run_len_slice (P := Tryd.prog) (w := w) 47 o.type sp ds.length c (by rw [Tryd.elem47]; exact Tryd.under47)
  unfold execOp
  simp [ho, resolve, invoke, builtin, e, h1, goInt]
theorem st_lenh (x : Operand) (ho : o.op = .call { callee := .builtin .len, args := #[x], argTypes := #[22] }) {hs : List (List (BitVec 8))} (h : (Fk.hs hs).f (a.eval x) w) : o.wp Tryd.prog a w (Ends a o.dst w (Fk.eq (.int .i64 (hs.length : Int))).f) Q := by
  obtain ⟨A, C, lb, lo, e, hl⟩ := h
  refine st_pure (v := .int .i64 (hs.length : Int)) ?_ rfl
  have h1 := run_len_slice (P := Tryd.prog) (w := w) 22 o.type A hs.length C (by rw [Tryd.elem22]; exact Tryd.under22')
  unfold execOp
  simp [ho, resolve, invoke, builtin, e, h1, goInt]
theorem st_neqi (t : TypeId) (x y : Operand) (ho : o.op = .binOp .neq t x y t) (k : IntKind) (s u : Int) (hx : a.eval x = .int k s) (hy : a.eval y = .int k u) (b : Bool) (hb : b = decide (s ≠ u)) : o.wp Tryd.prog a w (Ends a o.dst w (Fk.eq (.bool b)).f) Q := by
  refine st_pure (v := .bool b) ?_ rfl
  subst hb
  unfold execOp
  rw [ho]
  simp [hx, hy, eqGuard, binOp, Op.intCmp]
  by_cases h : s = u
  · simp [h]
  · simp [h]
theorem st_lss (t : TypeId) (x y : Operand) (ho : o.op = .binOp .lss t x y t) (k : IntKind) (s u : Int) (hx : a.eval x = .int k s) (hy : a.eval y = .int k u) (b : Bool) (hb : b = decide (s < u)) : o.wp Tryd.prog a w (Ends a o.dst w (Fk.eq (.bool b)).f) Q := by
  refine st_pure (v := .bool b) ?_ rfl
  subst hb
  unfold execOp
  rw [ho]
  simp [hx, hy, eqGuard, binOp, Op.intCmp]
theorem st_gtr (t : TypeId) (x y : Operand) (ho : o.op = .binOp .gtr t x y t) (k : IntKind) (s u : Int) (hx : a.eval x = .int k s) (hy : a.eval y = .int k u) (b : Bool) (hb : b = decide (u < s)) : o.wp Tryd.prog a w (Ends a o.dst w (Fk.eq (.bool b)).f) Q := by
  refine st_pure (v := .bool b) ?_ rfl
  subst hb
  unfold execOp
  rw [ho]
  simp [hx, hy, eqGuard, binOp, Op.intCmp]
theorem st_not (x : Operand) (ho : o.op = .unOp .not 4 x) (s : Bool) (hx : a.eval x = .bool s) : o.wp Tryd.prog a w (Ends a o.dst w (Fk.eq (.bool !s)).f) Q := by
  refine st_pure (v := .bool !s) ?_ rfl
  unfold execOp
  rw [ho]
  simp [hx, Op.unary]
theorem st_eqh (x y : Operand) (ho : o.op = .binOp .eql 24 x y 24) (xs ys : List (BitVec 8)) (hl : xs.length = 32) (hl2 : ys.length = 32) (hx : a.eval x = .agg (xs.map V).toArray) (hy : a.eval y = .agg (ys.map V).toArray) (b : Bool) (hb : b = decide (xs = ys)) : o.wp Tryd.prog a w (Ends a o.dst w (Fk.eq (.bool b)).f) Q := by
  refine st_pure (v := .bool b) ?_ rfl
  subst hb
  have h1 := Tryd.noGuard24 x y (xs.map V).toArray (ys.map V).toArray w
  have h2 := run_equal24 w xs ys hl hl2
  unfold execOp
  rw [ho]
  simp [hx, hy, h1, binOp, Op.equal, Op.maxDepth, h2]
theorem st_neqh (x y : Operand) (ho : o.op = .binOp .neq 24 x y 24) (xs ys : List (BitVec 8)) (hl : xs.length = 32) (hl2 : ys.length = 32) (hx : a.eval x = .agg (xs.map V).toArray) (hy : a.eval y = .agg (ys.map V).toArray) (b : Bool) (hb : b = decide (xs ≠ ys)) : o.wp Tryd.prog a w (Ends a o.dst w (Fk.eq (.bool b)).f) Q := by
  refine st_pure (v := .bool b) ?_ rfl
  subst hb
  have h1 := Tryd.noGuard24n x y (xs.map V).toArray (ys.map V).toArray w
  have h2 := run_equal24 w xs ys hl hl2
  unfold execOp
  rw [ho]
  simp [hx, hy, h1, binOp, Op.equal, Op.maxDepth, h2]
theorem st_eqbb (x y : Operand) (ho : o.op = .binOp .eql 4 x y 4) (s t : Bool) (hx : a.eval x = .bool s) (hy : a.eval y = .bool t) (b : Bool) (hb : b = (s == t)) : o.wp Tryd.prog a w (Ends a o.dst w (Fk.eq (.bool b)).f) Q := by
  refine st_pure (v := .bool b) ?_ rfl
  subst hb
  unfold execOp
  rw [ho]
  have h2 := run_equal_bool (P := Tryd.prog) w 4 s t Tryd.under4
  simp [hx, hy, eqGuard, binOp, h2]
theorem st_ext0 (x : Operand) (ho : o.op = .extract x 0) {u v : Value} (hx : a.eval x = .tuple #[u, v]) (h : q.f u w) : o.wp Tryd.prog a w (Ends a o.dst w q.f) Q := by
  refine st_pure (v := u) ?_ h
  unfold execOp
  rw [ho]
  simp [hx, Instr.extract]
theorem st_ext1 (x : Operand) (ho : o.op = .extract x 1) {u v : Value} (hx : a.eval x = .tuple #[u, v]) (h : q.f v w) : o.wp Tryd.prog a w (Ends a o.dst w q.f) Q := by
  refine st_pure (v := v) ?_ h
  unfold execOp
  rw [ho]
  simp [hx, Instr.extract]
end
end Go.Proofs.YtfbfngblocfdlaaDoor
namespace Go.Proofs.YtfbfngblocfdlaaDoor
set_option maxRecDepth 100000
open Go.RowKit
theorem Tryd.enter21 (args : Array Value) (w : World) : (callFunc 21 args).run Tryd.prog w = .ok (.enter 21 args) w := by kernel_rfl
theorem Tryd.enter40 (args : Array Value) (w : World) : (callFunc 40 args).run Tryd.prog w = .ok (.enter 40 args) w := by kernel_rfl
/-- The hash of noughts. -/
def hz : List (BitVec 8) := hsh St.first 0
theorem hz_len : hz.length = 32 := rfl
theorem hz_dig : (dig hz)[64]? = some 3 ∧ (dig hz)[65]? = some 12 ∧ (dig hz)[66]? = some 0 := by decide +kernel
theorem hz_walk : wk 1 2 hz (3 - 2) = chn 1 2 hz := rfl
end Go.Proofs.YtfbfngblocfdlaaDoor
namespace Go.Proofs.YtfbfngblocfdlaaDoor
set_option maxRecDepth 100000
open Go.RowKit
/-- Block g is a row of hashes that may be written. -/
structure Rw (w : World) (g : Nat) (hs : List (List (BitVec 8))) : Prop where
  hl : Hl w (some ⟨g, 0, none⟩) g 0 hs
  lt : g < w.heap.size
  fz : ∀ j, w.frozen? ⟨g, j, none⟩ = false
theorem Rw.below {w w' : World} {g : Nat} {hs : List (List (BitVec 8))} (h : Rw w g hs) (hb : Below w.heap.size w w') : Rw w' g hs :=
  ⟨h.hl.below hb, Nat.lt_of_lt_of_le h.lt hb.size, fun j => by rw [World.frozen?_of_block (w := w) (hb.block g h.lt)]; exact h.fz j⟩
theorem Rw.there {w : World} {g : Nat} {hs : List (List (BitVec 8))} (h : Rw w g hs) (k : Nat) (hk : k < hs.length) : w.there g (k * 32) 32 := by
  intro j hj
  obtain ⟨h1, h2⟩ := h.hl.all k hs[k] (List.getElem?_eq_getElem hk)
  have := h2 j (by rw [h1]; exact hj)
  rw [Nat.zero_add] at this
  exact ⟨by rw [this]; rfl, h.fz _⟩
theorem size_setCells (b : Nat) : ∀ (vs : List Value) (o : Nat) (w : World), (w.setCells b o vs).heap.size = w.heap.size
  | [], _, _ => rfl
  | v :: r, o, w => by rw [World.setCells, size_setCells b r]; simp [World.setCell]
theorem block_setCells (b : Nat) (i : Nat) (hne : i ≠ b) : ∀ (vs : List Value) (o : Nat) (w : World), (w.setCells b o vs).heap[i]? = w.heap[i]?
  | [], _, _ => rfl
  | v :: r, o, w => by rw [World.setCells, block_setCells b i hne r, heap_setCell_other _ _ _ _ hne]
theorem below_setCells {B g : Nat} {a : World} (hb : B ≤ g) : ∀ (vs : List Value) (o : Nat) (w : World), Below B a w → Below B a (w.setCells g o vs)
  | [], _, _, h => h
  | v :: r, o, w, h => below_setCells hb r (o + 1) _ (h.setCell (by exact hb) v)
theorem HasV.cells_other {w : World} {g b o : Nat} {T : TypeId} {xs : List (BitVec 8)} {vs : List Value} (h : HasV w b T xs) (hne : b ≠ g) : HasV (w.setCells g o vs) b T xs := by
  have := block_setCells g b hne vs o w
  unfold HasV at *
  rw [this]; exact h
theorem Rw.store {w : World} {g : Nat} {hs : List (List (BitVec 8))} (h : Rw w g hs) (k : Nat) (x : List (BitVec 8)) (hk : k < hs.length) (hx : x.length = 32) : Rw (w.setCells g (k * 32) (x.map V)) g (hs.set k x) := by
  have ht := h.there k hk
  refine ⟨⟨fun _ => rfl, fun _ => by rw [size_setCells]; exact h.lt, fun i y hi => ?_⟩, by rw [size_setCells]; exact h.lt, fun j => by rw [World.frozen?_setCells]; exact h.fz j⟩
  by_cases e : i = k
  · subst e
    rw [List.getElem?_set_self hk] at hi
    obtain rfl := Option.some.inj hi
    refine ⟨hx, fun j hj => ?_⟩
    have := World.rangeAt_setCells_same w g (i * 32) (x.map V) (by rw [List.length_map, hx]; exact ht) j (V (x.getD j 0)) (by simp [hj])
    rw [Nat.zero_add]
    exact this
  · rw [List.getElem?_set_ne (fun h => e h.symm)] at hi
    obtain ⟨h1, h2⟩ := h.hl.all i y hi
    refine ⟨h1, fun j hj => ?_⟩
    rw [World.cell?_setCells_out _ _ _ _ _ (fun _ _ => ?_)]
    · exact h2 j hj
    · show 0 + i * 32 + j < k * 32 ∨ k * 32 + (x.map V).length ≤ 0 + i * 32 + j
      rw [List.length_map, hx]
      rw [h1] at hj
      omega
/-- 67 hashes of noughts, in cells. -/
def mk67 : Array Value := madeCells ((hz.map V).toArray) (67 * 32)
theorem mk67_at (j : Nat) (h : j < 67 * 32) : mk67[j]? = some (.int .u8 (bv (hz.getD (j % 32) 0))) := by
  have h2 : j % 32 < hz.length := by rw [hz_len]; omega
  have h3 : mk67.size = 67 * 32 := by unfold mk67; simp [size_madeCells]
  rw [Array.getElem?_eq_getElem (by rw [h3]; exact h)]
  unfold mk67
  simp only [madeCells, Array.getElem_map, Array.getElem_range, List.size_toArray, List.length_map, hz_len]
  have : (hz.map V).toArray[j % 32]? = some (V (hz.getD (j % 32) 0)) := by
    rw [List.getElem?_toArray, List.getElem?_map, List.getElem?_eq_getElem h2, Option.map_some, List.getD_eq_getElem?_getD, List.getElem?_eq_getElem h2]
    rfl
  rw [getElem!_def, this]
  rfl
theorem Tryd.info24 : (Tryd.prog.info? 24).map (fun i => (i.zero, i.size, i.bytes)) = some (some (.agg (hz.map V).toArray), 32, 32) := by kernel_rfl
theorem Tryd.make22 (w : World) : (Instr.makeSlice 22 (.int .i64 67) (.int .i64 67)).run Tryd.prog w = .ok (.slice (some ⟨w.heap.size, 0, none⟩) 67 67) (w.alloc (.cells mk67 24)) := by
  obtain ⟨i0, hi, hz0, hz1, hz2⟩ := info_parts Tryd.info24
  have := run_make (P := Tryd.prog) w 22 24 i0 _ Tryd.under22' hi hz0 .i64 .i64 67 67 (by omega) (by omega) (by rw [hz2]; omega) (by omega)
  rw [hz1] at this
  exact this
/-- 67 hashes of noughts. -/
def z67 : List (List (BitVec 8)) := List.replicate 67 hz
theorem rw_new (w : World) : Rw (w.alloc (.cells mk67 24)) w.heap.size z67 := by
  unfold z67
  refine ⟨⟨fun _ => rfl, fun _ => by simp, fun i x hi => ?_⟩, by simp, fun j => ?_⟩
  · obtain ⟨h1, h2⟩ := List.getElem?_eq_some_iff.1 hi
    simp only [List.length_replicate] at h1
    obtain rfl : hz = x := by rw [← h2, List.getElem_replicate]
    refine ⟨hz_len, fun j hj => ?_⟩
    rw [hz_len] at hj
    rw [World.cell?_alloc_mark, mk67_at _ (by omega), show (0 + i * 32 + j) % 32 = j by omega]
  · have := heap_alloc_new w (.cells mk67 24)
    exact frozen_of_row _ _ j _ 24 this
/-- The first k of 67 are told, the others are noughts. -/
def part67 (F : Nat → List (BitVec 8)) (k : Nat) : List (List (BitVec 8)) := (List.range 67).map fun i => if i < k then F i else hz
theorem part_len (F : Nat → List (BitVec 8)) (k : Nat) : (part67 F k).length = 67 := by simp [part67]
theorem part_zero (F : Nat → List (BitVec 8)) : part67 F 0 = z67 := by
  unfold z67
  apply List.ext_getElem (by simp [part67])
  intro i h1 h2
  rw [List.getElem_replicate]
  simp [part67]
theorem part_set (F : Nat → List (BitVec 8)) (k : Nat) : (part67 F k).set k (F k) = part67 F (k + 1) := by
  apply List.ext_getElem (by simp [part67])
  intro i h1 h2
  rw [List.getElem_set]
  simp only [part67, List.getElem_map, List.getElem_range]
  by_cases e : k = i
  · subst e; simp
  · rw [if_neg e]
    by_cases h : i < k
    · rw [if_pos h, if_pos (by omega)]
    · rw [if_neg h, if_neg (by omega)]
/-- All 67. -/
def all67 (F : Nat → List (BitVec 8)) : List (List (BitVec 8)) := (List.range 67).map F
theorem part_all (F : Nat → List (BitVec 8)) : part67 F 67 = all67 F := by
  apply List.ext_getElem (by simp [part67, all67])
  intro i h1 h2
  simp only [part67, List.length_map, List.length_range] at h1
  simp [part67, all67, h1]
theorem all_len (F : Nat → List (BitVec 8)) : (all67 F).length = 67 := by simp [all67]
theorem all_at (F : Nat → List (BitVec 8)) (i : Nat) (h : i < 67) : (all67 F)[i]? = some (F i) := by simp [all67, h]
end Go.Proofs.YtfbfngblocfdlaaDoor
namespace Go.Proofs.YtfbfngblocfdlaaDoor
set_option maxRecDepth 100000
open Go.RowKit
/-- The end of chain i. -/
def endOf (seed : List (BitVec 8)) (key : Nat) (i : Nat) : List (BitVec 8) := wk (i : Int) 0 (sec seed key i) 15
theorem endOf_len (seed : List (BitVec 8)) (key i : Nat) : (endOf seed key i).length = 32 := wk_len _ _ _ _ (sec_len _ _ _)
theorem results_row_tmp {P : Program} {fn : Func} {p u : Tmp} {ty : TypeId} (h : fn.results = #[.cell p ty, .tmp u]) (tmps : Array Value) (w : World) (g : Nat) (t : TypeId) (cs : Array Value) (fr : Nat × Nat) (d : TypeDesc) (v : Value)
    (hp : tmps.getD p undef = .pointer (some ⟨g, 0, none⟩)) (hg : w.heap[g]? = some (.cells cs t fr))
    (hu : P.underlying ty = some d) (hd : (match d with | .struct _ | .array _ _ => true | _ => false) = true) (hi : (P.info? ty).map (·.size) = some cs.size) (hv : tmps.getD u undef = v) :
    (results fn tmps).run P w = .ok (.tuple #[.agg cs, v]) w := by
  rw [results_cell_tmp h, hp, hv]
  simp [asAddr, run_loadVar_row w g t ty cs fr d hg hu hd hi]
end Go.Proofs.YtfbfngblocfdlaaDoor
namespace Go.Proofs.YtfbfngblocfdlaaDoor
set_option maxRecDepth 100000
open Go.RowKit
/-- Digit i. -/
def dg (h : List (BitVec 8)) (i : Nat) : Nat := (dig h).getD i 0
theorem dg_at (h : List (BitVec 8)) (i : Nat) (hi : i < 67) : (dig h)[i]? = some (dg h i) := by
  have : i < (dig h).length := by rw [dig_len]; exact hi
  simp [dg, this]
theorem dg_le (h : List (BitVec 8)) (i : Nat) : dg h i ≤ 15 := by
  unfold dg
  cases e : (dig h)[i]? with
  | none => simp [e]
  | some d => simp [e]; exact dig_le h i d e
theorem Is.cells_other {w : World} {sp : Option Addr} {b o g off : Nat} {ds : List Nat} {vs : List Value} (h : Is w sp b o ds) (hne : b ≠ g) : Is (w.setCells g off vs) sp b o ds :=
  ⟨h.ptr, fun i d hi => by rw [World.cell?_setCells_out _ _ _ _ _ (fun e _ => absurd e hne)]; exact h.cell i d hi⟩
/-- What a signature has for chain i. -/
def sigOf (seed : List (BitVec 8)) (key : Nat) (h : List (BitVec 8)) (i : Nat) : List (BitVec 8) := wk (i : Int) 0 (sec seed key i) (dg h i)
theorem sigOf_len (seed : List (BitVec 8)) (key : Nat) (h : List (BitVec 8)) (i : Nat) : (sigOf seed key h i).length = 32 := wk_len _ _ _ _ (sec_len _ _ _)
end Go.Proofs.YtfbfngblocfdlaaDoor
namespace Go.Proofs.YtfbfngblocfdlaaDoor
set_option maxRecDepth 100000
open Go.RowKit
/-- The end that chain i of a signature leads to. -/
def recOf (h : List (BitVec 8)) (hs : List (List (BitVec 8))) (i : Nat) : List (BitVec 8) := wk (i : Int) (dg h i) (hs.getD i []) (15 - dg h i)
theorem Hl.range {w : World} {A : Option Addr} {lb lo : Nat} {hs : List (List (BitVec 8))} (h : Hl w A lb lo hs) (k : Nat) (x : List (BitVec 8)) (hk : hs[k]? = some x) : w.rangeAt lb (lo + k * 32) (x.map V) := by
  intro j v hj
  obtain ⟨_, hB⟩ := h.all k x hk
  have := hB.src x.length j v
  rw [List.take_of_length_le (Nat.le_refl _)] at this
  have h2 := this hj
  rw [Addr.add_mid] at h2
  exact h2
end Go.Proofs.YtfbfngblocfdlaaDoor
namespace Go.Proofs.YtfbfngblocfdlaaDoor
set_option maxRecDepth 100000
open Go.RowKit
theorem then_ret {K : Act → World → Prop} {Q : Exit → Act → World → Prop} {a : Act} {w : World} (h : Q .ret a w) : Exit.then K Q .ret a w := h
theorem block_ret {id : Nat} {Q : Exit → Act → World → Prop} {a : Act} {w : World} (h : Q .ret a w) : Exit.inBlock id Q .ret a w := h
theorem code_both {P : Program} {c : Code} {Q : Exit → Act → World → Prop} {a : Act} {w : World} (F : Act → World → Prop) (h0 : F a w) (h : ∀ f w, F f w → Code.wp P c Q f w) : Code.wp P c Q a w := h a w h0
theorem f_at {q : Fk} {a b : Act} {x y : Operand} {w : World} (h : a.eval x = b.eval y) (hq : q.f (b.eval y) w) : q.f (a.eval x) w := by rw [h]; exact hq
theorem wp_all {P : Program} {Q : Exit → Act → World → Prop} {ops : Array Oper} {id : Nat} {a0 : Act} {w : World} (qs : List Fk) (hm : P.follows .mixedOrders = true) (hn : decide (qs.length = ops.size) = true) (hE : edgesOk ops.toList qs.length = true)
    (hD : dstsOk a0.tmps.size (ops.toList.take qs.length) = true) (hG : guardsOk ops.toList qs.length qs ops.toList qs = true)
    (hS : Steps P Q ops.toList qs.length qs a0 w ops.toList qs)
    (hF : ∀ af w', Final ops.toList qs a0 af w' → Below w.heap.size w w' → Q .normal af w') :
    (Code.region id ops true).wp P Q a0 w := by
  have hn' : qs.length = ops.size := of_decide_eq_true hn
  refine wp_region_end qs hm (decide_eq_true (by omega)) hE hD hG hS ?_
  intro af w' fin hb
  rw [List.drop_of_length_le (by simp; omega)]
  exact hF af w' fin hb
theorem wp_all_seq {P : Program} {Q : Exit → Act → World → Prop} {ops : Array Oper} {id : Nat} {a0 : Act} {w : World} (qs : List Fk) (hn : decide (qs.length = ops.size) = true) (hE : backOk ops.toList = true)
    (hD : dstsOk a0.tmps.size (ops.toList.take qs.length) = true) (hG : guardsOk ops.toList qs.length qs ops.toList qs = true)
    (hS : Steps P Q ops.toList qs.length qs a0 w ops.toList qs)
    (hF : ∀ af w', Final ops.toList qs a0 af w' → Below w.heap.size w w' → Q .normal af w') :
    (Code.region id ops false).wp P Q a0 w := by
  have hn' : qs.length = ops.size := of_decide_eq_true hn
  refine wp_region_seq qs (decide_eq_true (by omega)) hE hD hG hS ?_
  intro af w' fin hb
  rw [List.drop_of_length_le (by simp; omega)]
  exact hF af w' fin hb
/-- A pointer to a hash variable that is new. -/
def Fk.pn (g0 : Nat) (xs : List (BitVec 8)) : Fk := .inr (.inl ⟨fun v w => ∃ g, g0 ≤ g ∧ v = .pointer (some ⟨g, 0, none⟩) ∧ HasV w g 24 xs, by
  rintro v w w' ⟨g, h, e, hv⟩ hb
  exact ⟨g, h, e, hv.below hb hv.lt⟩⟩)
section
variable {Q : Exit → Act → World → Prop} {o : Oper} {a : Act} {w : World} {q : Fk} {ops : Array Oper} {rest : List Oper}
theorem Tryd.alloc24 (ρ : Operand → Value) (d : Option Tmp) (ty : TypeId) (pos : String) (aft : Array Edge) (gd : Option (Nat × Bool)) (w : World) : (execOp ρ ⟨d, .alloc 24, ty, pos, aft, gd⟩).run Tryd.prog w = .ok (.value (.pointer (some ⟨w.heap.size, 0, none⟩))) (w.alloc (.cells (hz.map V).toArray 24)) := by kernel_rfl
theorem st_alloc24 (ho : o.op = .alloc 24) (g0 : Nat) (hg : g0 ≤ w.heap.size) : o.wp Tryd.prog a w (Ends a o.dst w (Fk.pn g0 hz).f) Q := by
  refine st_run (v := .pointer (some ⟨w.heap.size, 0, none⟩)) (w' := w.alloc (.cells (hz.map V).toArray 24)) ?_ ((Below.refl _ _).alloc (Nat.le_refl _) _) ⟨w.heap.size, hg, rfl, heap_alloc_new _ _⟩
  obtain ⟨d, op, ty, pos, aft, gd⟩ := o
  subst ho
  exact Tryd.alloc24 _ _ _ _ _ _ _
theorem wl_store (hgd : o.guard = none) (x y : Operand) (ho : o.op = .store 24 x y) (hd : o.dst = none) (g : Nat) (zs ys : List (BitVec 8)) (hx : a.eval x = .pointer (some ⟨g, 0, none⟩)) (hy : a.eval y = .agg (zs.map V).toArray) (hv : HasV w g 24 ys) (hl : ys.length = 32) (hz : zs.length = 32)
    (h : wpList Tryd.prog ops Q rest a (w.setRow g (zs.map V).toArray)) : wpList Tryd.prog ops Q (o :: rest) a w := by
  refine wpList_store_row hgd 24 x y ho g (zs.map V).toArray hx hy 24 _ hv (by rw [List.size_toArray, List.length_map, hz]; exact Tryd.size24) (by simp [hl, hz]) (V_all _) ?_
  rw [hd]
  exact h
theorem wl_assign {P : Program} (hgd : o.guard = none) (x : Operand) (ho : o.op = .assign x) (d : Nat) (hd : o.dst = some d) (hsz : d < a.tmps.size)
    (h : ∀ a2, a2.defers = a.defers → a2.tmps.size = a.tmps.size → (∀ t, (t == d) = false → a2.eval (.tmp t) = a.eval (.tmp t)) → a2.eval (.tmp d) = a.eval x → wpList P ops Q rest a2 w) : wpList P ops Q (o :: rest) a w := by
  unfold wpList
  rw [if_pos (by unfold Region.wanted; rw [hgd])]
  refine .inl ?_
  unfold Oper.wp execOp
  rw [ho]
  refine h _ (put_def _ _ _) (put_size _ _ _) (fun t ht => ?_) ?_
  · rw [hd]
    exact put_eval_other _ _ _ _ (fun e => by subst e; simp at ht)
  · rw [hd]
    exact put_eval_same _ _ _ hsz
end
end Go.Proofs.YtfbfngblocfdlaaDoor
namespace Go.Proofs.YtfbfngblocfdlaaDoor
set_option maxRecDepth 100000
open Go.RowKit
theorem Tryd.build22x (x0 x1 x2 x3 x4 x5 x6 x7 x8 x9 x10 x11 x12 x13 x14 x15 x16 x17 x18 x19 x20 x21 x22 x23 x24 x25 x26 x27 x28 x29 x30 x31 : BitVec 8) (w : World) : (Instr.buildSlice 22 1 #[(0, .agg ([x0, x1, x2, x3, x4, x5, x6, x7, x8, x9, x10, x11, x12, x13, x14, x15, x16, x17, x18, x19, x20, x21, x22, x23, x24, x25, x26, x27, x28, x29, x30, x31].map V).toArray)]).run Tryd.prog w = .ok (.slice (some ⟨w.heap.size, 0, none⟩) 1 1) (w.alloc (.cells ([x0, x1, x2, x3, x4, x5, x6, x7, x8, x9, x10, x11, x12, x13, x14, x15, x16, x17, x18, x19, x20, x21, x22, x23, x24, x25, x26, x27, x28, x29, x30, x31].map V).toArray 24)) := by kernel_rfl
theorem Tryd.build22 (hh : List (BitVec 8)) (h : hh.length = 32) (w : World) : (Instr.buildSlice 22 1 #[(0, .agg (hh.map V).toArray)]).run Tryd.prog w = .ok (.slice (some ⟨w.heap.size, 0, none⟩) 1 1) (w.alloc (.cells (hh.map V).toArray 24)) := by
  match hh, h with
  | [x0, x1, x2, x3, x4, x5, x6, x7, x8, x9, x10, x11, x12, x13, x14, x15, x16, x17, x18, x19, x20, x21, x22, x23, x24, x25, x26, x27, x28, x29, x30, x31], _ => exact Tryd.build22x x0 x1 x2 x3 x4 x5 x6 x7 x8 x9 x10 x11 x12 x13 x14 x15 x16 x17 x18 x19 x20 x21 x22 x23 x24 x25 x26 x27 x28 x29 x30 x31 w
theorem hl_one {w : World} {g : Nat} {hh : List (BitVec 8)} (hv : HasV w g 24 hh) (h : hh.length = 32) : Hl w (some ⟨g, 0, none⟩) g 0 [hh] :=
  ⟨fun _ => rfl, fun _ => hv.lt, fun i x hi => by
    cases i with
    | zero =>
      obtain rfl : hh = x := by simpa using hi
      exact ⟨h, hv.bytes⟩
    | succ i => simp at hi⟩
/-- A slice of the call's own that has the hashes hs; its row lies at base or behind it. -/
def Fk.ow (base : Nat) (hs : List (List (BitVec 8))) : Fk := .inr (.inl ⟨fun v w => w.ownsRow base 24 32 v hs.length (hs.flatten.map V) ∧ ∀ (i : Nat) (x : List (BitVec 8)), hs[i]? = some x → x.length = 32, by
  rintro v w w' ⟨⟨h1, h2⟩, h3⟩ hb
  refine ⟨⟨h1, ?_⟩, h3⟩
  rcases h2 with h2 | ⟨g, cap, cur, e, hbg, hg, r⟩
  · exact .inl h2
  · exact .inr ⟨g, cap, cur, e, hbg, by rw [hb.block g (Array.getElem?_eq_some_iff.1 hg).1]; exact hg, r⟩⟩)
theorem flat_at : ∀ (hs : List (List (BitVec 8))), (∀ (i : Nat) (x : List (BitVec 8)), hs[i]? = some x → x.length = 32) → ∀ (i : Nat) (x : List (BitVec 8)), hs[i]? = some x → ∀ j, j < 32 → hs.flatten[i * 32 + j]? = x[j]?
  | [], _, i, x, hi, _, _ => by simp at hi
  | y :: r, hl, i, x, hi, j, hj => by
    have hy := hl 0 y rfl
    rw [List.flatten_cons]
    cases i with
    | zero =>
      obtain rfl : y = x := by simpa using hi
      rw [List.getElem?_append_left (by omega), Nat.zero_mul, Nat.zero_add]
    | succ i =>
      rw [List.getElem?_append_right (by omega), hy, show (i + 1) * 32 + j - 32 = i * 32 + j by omega]
      exact flat_at r (fun i x h => hl (i + 1) x (by simpa using h)) i x (by simpa using hi) j hj
theorem ow_hs {base : Nat} {hs : List (List (BitVec 8))} {v : Value} {w : World} (h : (Fk.ow base hs).f v w) : (Fk.hs hs).f v w := by
  obtain ⟨⟨h1, h2⟩, h3⟩ := h
  rcases h2 with ⟨rfl, hn⟩ | ⟨g, cap, cur, rfl, hbg, hg, hnc, _, hcs, ht⟩
  · have : hs = [] := List.eq_nil_of_length_eq_zero hn
    subst this
    exact ⟨none, 0, 0, 0, rfl, fun h => by simp at h, fun h => by simp at h, fun i x hi => by simp at hi⟩
  · refine ⟨_, cap, g, 0, rfl, fun _ => rfl, fun _ => (Array.getElem?_eq_some_iff.1 hg).1, fun i x hi => ⟨h3 i x hi, fun j hj => ?_⟩⟩
    have hil : i < hs.length := (List.getElem?_eq_some_iff.1 hi).1
    rw [h3 i x hi] at hj
    rw [cell_of_row _ _ _ _ _ _ hg, Nat.zero_add]
    have e := congrArg (·[i * 32 + j]?) ht
    simp only [List.getElem?_take, List.getElem?_map, flat_at hs h3 i x hi j hj] at e
    rw [if_pos (by omega), Array.getElem?_toList] at e
    rw [e]
    have : j < x.length := by rw [h3 i x hi]; exact hj
    simp [this, V]
theorem ow_nil (base : Nat) (w : World) : (Fk.ow base []).f (.slice none 0 0) w := ⟨World.ownsRow_nil _ _ _ _, fun i x hi => by simp at hi⟩
section
variable {Q : Exit → Act → World → Prop} {o : Oper} {a : Act} {w : World} {q : Fk} {ops : Array Oper} {rest : List Oper}
theorem st_bh1 (x : Operand) (ho : o.op = .buildSlice 22 1 #[(0, x)]) {hh : List (BitVec 8)} (hl : hh.length = 32) (hx : a.eval x = .agg (hh.map V).toArray) : o.wp Tryd.prog a w (Ends a o.dst w (Fk.hs [hh]).f) Q := by
  refine st_run (v := .slice (some ⟨w.heap.size, 0, none⟩) 1 1) (w' := w.alloc (.cells (hh.map V).toArray 24)) ?_ ((Below.refl _ _).alloc (Nat.le_refl _) _) ⟨_, 1, w.heap.size, 0, rfl, hl_one (heap_alloc_new _ _) hl⟩
  have := Tryd.build22 hh hl w
  unfold execOp
  rw [ho]
  simp [hx, this]
theorem wl_append (hgd : o.guard = none) (s x : Operand) (ho : o.op = .call { callee := .builtin .append, args := #[s, x], argTypes := #[22, 22] }) (d : Nat) (hd : o.dst = some d) (hsz : d < a.tmps.size)
    {wL : World} {hs : List (List (BitVec 8))} {hh : List (BitVec 8)} (hs1 : (Fk.ow wL.heap.size hs).f (a.eval s) w) (hx : (Fk.hs [hh]).f (a.eval x) w) (hL : Below wL.heap.size wL w) (hN : hs.length ≤ 1000)
    (h : ∀ a2 w2, a2.defers = a.defers → a2.tmps.size = a.tmps.size → (∀ t, (t == d) = false → a2.eval (.tmp t) = a.eval (.tmp t)) → (Fk.ow wL.heap.size (hs ++ [hh])).f (a2.eval (.tmp d)) w2 → Below wL.heap.size wL w2 → wpList Tryd.prog ops Q rest a2 w2) : wpList Tryd.prog ops Q (o :: rest) a w := by
  obtain ⟨i0, hi, hz0, hz1, hz2⟩ := info_parts Tryd.info24
  obtain ⟨A, C, lb, lo, e, hl⟩ := hx
  obtain ⟨hown, h32⟩ := hs1
  obtain ⟨hhl, hB⟩ := hl.all 0 hh rfl
  have hp := hl.ptr (by simp)
  subst hp
  refine wpList_append_own w hgd s x 22 ho wL.heap.size 24 i0 _ 32 32 Tryd.under22' hi hz0 hz1 hz2 (by simp [Value.cells, hz_len]) (by decide) _ hs.length _ rfl hown ⟨lb, lo, none⟩ 1 C (hh.map V) (by simpa using e) (by simp [hhl]) ?_ (V_one hh) (by unfold maxLen; omega) (by omega) hL.size ?_
  · intro j u hj
    have := hB.src hh.length j u
    rw [List.take_of_length_le (Nat.le_refl _), Nat.zero_mul, Nat.add_zero] at this
    exact this hj
  · intro v' w' h1 h2 _
    refine h _ _ (put_def _ _ _) (put_size _ _ _) (fun t ht => ?_) ?_ (hL.grown h2 hL.size (fun k e => (World.ownsRow.lt hown k e).1))
    · rw [hd]
      exact put_eval_other _ _ _ _ (fun e => by subst e; simp at ht)
    · rw [hd, put_eval_same _ _ _ hsz]
      refine ⟨?_, fun i y hi => ?_⟩
      · rw [List.length_append, List.flatten_append, List.map_append]
        simpa using h1
      · by_cases hil : i < hs.length
        · exact h32 i y (by rw [List.getElem?_append_left hil] at hi; exact hi)
        · rw [List.getElem?_append_right (by omega)] at hi
          cases hq : i - hs.length with
          | zero =>
            rw [hq] at hi
            obtain rfl : hh = y := by simpa using hi
            exact hhl
          | succ n => rw [hq] at hi; simp at hi
end
section
variable {Q : Exit → Act → World → Prop} {o : Oper} {a : Act} {w : World} {ops : Array Oper} {rest : List Oper}
theorem wl_move {P : Program} (hgd : o.guard = none) (x : Operand) (ho : o.op = .move x) (d : Nat) (hd : o.dst = some d) (hsz : d < a.tmps.size)
    (h : ∀ a2, a2.defers = a.defers → a2.tmps.size = a.tmps.size → (∀ t, (t == d) = false → a2.eval (.tmp t) = a.eval (.tmp t)) → a2.eval (.tmp d) = a.eval x → wpList P ops Q rest a2 w) : wpList P ops Q (o :: rest) a w := by
  unfold wpList
  rw [if_pos (by unfold Region.wanted; rw [hgd])]
  refine .inl ?_
  unfold Oper.wp execOp
  rw [ho]
  refine h _ (put_def _ _ _) (put_size _ _ _) (fun t ht => ?_) ?_
  · rw [hd]
    exact put_eval_other _ _ _ _ (fun e => by subst e; simp at ht)
  · rw [hd]
    exact put_eval_same _ _ _ hsz
theorem st_add1 (x : Operand) (ho : o.op = .binOp .add 3 x (.const (.int .i64 1)) 3) (k : Nat) (hk : k ≤ 1000000) (hx : a.eval x = .int .i64 (k : Int)) : o.wp Tryd.prog a w (Ends a o.dst w (Fk.eq (.int .i64 ((k + 1 : Nat) : Int))).f) Q := by
  refine st_pure (v := .int .i64 ((k + 1 : Nat) : Int)) ?_ rfl
  have he : a.eval (.const (.int .i64 1)) = .int .i64 1 := rfl
  unfold execOp
  rw [ho]
  have hw : IntKind.i64.wrap ((k : Int) + 1) = ((k + 1 : Nat) : Int) := by rw [IntKind.wrap_i64]; omega
  simp [hx, he, eqGuard, binOp, Op.intArith, hw]
end
/-- The first k. -/
def firsts (F : Nat → List (BitVec 8)) (k : Nat) : List (List (BitVec 8)) := (List.range k).map F
theorem firsts_succ (F : Nat → List (BitVec 8)) (k : Nat) : firsts F (k + 1) = firsts F k ++ [F k] := by simp [firsts, List.range_succ]
theorem firsts_len (F : Nat → List (BitVec 8)) (k : Nat) : (firsts F k).length = k := by simp [firsts]
theorem firsts_all (F : Nat → List (BitVec 8)) : firsts F 67 = all67 F := rfl
end Go.Proofs.YtfbfngblocfdlaaDoor
namespace Go.Proofs.YtfbfngblocfdlaaDoor
set_option maxRecDepth 100000
open Go.RowKit
section
variable {P : Program} {ops : Array Oper} {Q : Exit → Act → World → Prop}
/-- From here on just these come up, one behind the other. -/
def chainOk (ops : Array Oper) : Array Bool → List Nat → Bool
  | listed, [] => (Region.ready .any ops listed).isEmpty
  | listed, j :: r => (Region.ready .any ops listed == [j]) && chainOk ops (listed.setIfInBounds j true) r
theorem any_list : ∀ (js : List Nat) (fuel : Nat) (listed : Array Bool) (a : Act) (w : World), chainOk ops listed js = true → js.length ≤ fuel → wpList P ops Q (js.filterMap (ops[·]?)) a w → wpAny P .any ops Q fuel listed a w
  | [], fuel, listed, a, w, hc, _, h => by
    have hr : Region.ready .any ops listed = [] := by simpa [chainOk] using hc
    exact wpAny_nil hr h
  | j :: r, 0, _, _, _, _, hl, _ => by simp at hl
  | j :: r, fuel + 1, listed, a, w, hc, hl, h => by
    simp only [chainOk, Bool.and_eq_true, beq_iff_eq] at hc
    obtain ⟨hr, hc⟩ := hc
    have ih := any_list r fuel (listed.setIfInBounds j true)
    refine ⟨fun h0 => (by rw [hr] at h0; cases h0), fun i hi => ?_⟩
    rw [hr] at hi
    obtain rfl : i = j := by simpa using hi
    have hm : i ∈ Region.ready .any ops listed := by rw [hr]; exact List.mem_cons_self
    obtain ⟨_, o, ho, _⟩ := mem_ready.1 hm
    rw [List.filterMap_cons, ho] at h
    unfold wpOp
    rw [ho]
    show if Region.wanted o (yielded ops a.tmps) = true then _ else _
    simp only [wpList] at h
    by_cases hw : Region.wanted o (yielded ops a.tmps) = true
    · rw [if_pos hw] at h ⊢
      rcases h with h | h
      · exact .inl (Oper.wp_mono (fun a' w' h' => ih a' w' hc (by simpa using hl) h') h)
      · exact .inr h
    · rw [if_neg hw] at h ⊢
      exact ih _ _ hc (by simpa using hl) h
/-- What an operation waits for. -/
def tgt (o : Oper) : List Nat := (o.after.toList.filter fun e => Region.binds .any e).map (·.on)
def tgts (ops : List Oper) (i : Nat) : List Nat := ((ops[i]?).map tgt).getD []
/-- And what these wait for, n times over. -/
def clo (ops : List Oper) : Nat → List Nat → List Nat
  | 0, L => L
  | n + 1, L => clo ops n (L ++ L.flatMap (tgts ops)).eraseDups
/-- Each from number k on waits, in the end, for all ahead of number k. -/
def coverOk (ops : List Oper) (k : Nat) : Bool := (List.range ops.length).all fun j => decide (j < k) || (List.range k).all fun i => (clo ops 8 (tgts ops j)).contains i
theorem mem_tgt {o : Oper} {i : Nat} : i ∈ tgt o ↔ ∃ e ∈ o.after, Region.binds .any e = true ∧ e.on = i := by
  unfold tgt
  simp only [List.mem_map, List.mem_filter, Array.mem_toList_iff]
  constructor
  · rintro ⟨e, ⟨h1, h2⟩, h3⟩; exact ⟨e, h1, h2, h3⟩
  · rintro ⟨e, h1, h2, h3⟩; exact ⟨e, ⟨h1, h2⟩, h3⟩
/-- What is listed is closed. -/
def Closed (ops : Array Oper) (listed : Array Bool) : Prop := ∀ (i : Nat) (o : Oper), ops[i]? = some o → listed.getD i false = true → ∀ j ∈ tgt o, listed.getD j false = true
theorem clo_listed {listed : Array Bool} (hc : Closed ops listed) : ∀ (n : Nat) (L : List Nat), (∀ i ∈ L, listed.getD i false = true) → ∀ i ∈ clo ops.toList n L, listed.getD i false = true
  | 0, L, h, i, hi => h i hi
  | n + 1, L, h, i, hi => by
    refine clo_listed hc n _ (fun j hj => ?_) i hi
    rw [List.mem_eraseDups] at hj
    rcases List.mem_append.1 hj with hj | hj
    · exact h j hj
    · obtain ⟨m, hm, hj⟩ := List.mem_flatMap.1 hj
      unfold tgts at hj
      rw [Array.getElem?_toList] at hj
      cases ho : ops[m]? with
      | none => rw [ho] at hj; simp at hj
      | some o =>
        rw [ho] at hj
        exact hc m o ho (h m hm) j (by simpa using hj)
theorem ready_back (hE : backOk ops.toList = true) {listed : Array Bool} (hs : listed.size = ops.size) (h : Region.ready .any ops listed = []) : unl listed = 0 := by
  unfold backOk at hE
  have hback := List.all_eq_true.1 hE
  have key : ∀ n i, i < n → i < listed.size → listed.getD i true = true := by
    intro n
    induction n with
    | zero => intro i h; omega
    | succ n ih =>
      intro i hi hl
      cases hc : listed.getD i true with
      | true => rfl
      | false =>
        exfalso
        have hio : i < ops.size := by omega
        have hm : i ∈ Region.ready .any ops listed := by
          refine mem_ready.2 ⟨hc, ops[i], Array.getElem?_eq_getElem hio, fun e he hbd => ?_⟩
          have hb := hback i (by simp; exact hio)
          simp only [Array.getElem?_toList, Array.getElem?_eq_getElem hio, Option.map_some, Option.getD_some] at hb
          have hb2 : e.on < i := by
            have := List.all_eq_true.1 hb e (by simpa using he)
            simpa [hbd] using this
          have := ih e.on (by omega) (by omega)
          rw [← getD_tf (by omega)]; exact this
        rw [h] at hm
        cases hm
  unfold unl
  rw [Array.countP_eq_zero]
  intro b hb
  obtain ⟨i, hi, rfl⟩ := Array.mem_iff_getElem.1 hb
  have := key (i + 1) i (by omega) hi
  simpa [hi] using this
theorem chain_len : ∀ (js : List Nat) (listed : Array Bool), chainOk ops listed js = true → js.length ≤ unl listed
  | [], _, _ => Nat.zero_le _
  | j :: r, listed, hc => by
    simp only [chainOk, Bool.and_eq_true, beq_iff_eq] at hc
    obtain ⟨hr, hc⟩ := hc
    have hm : j ∈ Region.ready .any ops listed := by rw [hr]; exact List.mem_cons_self
    obtain ⟨hun, _, _, _⟩ := mem_ready.1 hm
    have h1 := chain_len r _ hc
    have h2 := unl_set hun
    rw [List.length_cons]
    omega
/-- The first k are listed. -/
def firstK (k n : Nat) : Array Bool := Array.ofFn (n := n) fun i => decide (i.val < k)
theorem wp_mids_tail {qs : List Fk} {a0 : Act} {w0 : World} (js : List Nat) (hk : qs.length ≤ ops.size) (hE : backOk ops.toList = true) (hC : coverOk ops.toList qs.length = true) (hJ : chainOk ops (firstK qs.length ops.size) js = true)
    (hD : dstsOk a0.tmps.size (ops.toList.take qs.length) = true) (hG : guardsOk ops.toList qs.length qs ops.toList qs = true)
    (hS : Steps P Q ops.toList qs.length qs a0 w0 ops.toList qs)
    (hF : ∀ af w', Final ops.toList qs a0 af w' → Below w0.heap.size w0 w' → wpList P ops Q (js.filterMap (ops[·]?)) af w') :
    ∀ (fuel : Nat) (listed : Array Bool) (a : Act) (w : World), unl listed ≤ fuel → Closed ops listed → Mids ops qs.length (fkAt qs) a0 w0 listed a w → wpAny P .any ops Q fuel listed a w := by
  have hend : ∀ (fuel : Nat) (listed : Array Bool) (a : Act) (w : World), unl listed ≤ fuel → Mids ops qs.length (fkAt qs) a0 w0 listed a w → (∀ i, i < qs.length → listed.getD i false = true) → wpAny P .any ops Q fuel listed a w := by
    intro fuel listed a w hu hm hall
    have he : listed = firstK qs.length ops.size := by
      apply Array.ext (by simp [firstK, hm.lsize])
      intro i h1 h2
      simp only [firstK, Array.getElem_ofFn]
      by_cases hi : i < qs.length
      · have := hall i hi
        simp [h1] at this
        simp [this, hi]
      · have h3 : i < ops.size := by rw [hm.lsize] at h1; exact h1
        have := hm.last i (by omega) h3
        simp [h1] at this
        simp [this, hi]
    have hJ' : chainOk ops listed js = true := by rw [he]; exact hJ
    have hlen := chain_len js listed hJ'
    refine any_list js fuel listed a w hJ' (by omega) ?_
    refine hF a w ⟨hm.defs, hm.size, fun t ht => eval_of_get (hm.old t ht), fun i d h => ?_⟩ hm.grow
    simp only [Bool.and_eq_true, decide_eq_true_eq, beq_iff_eq] at h
    obtain ⟨hi, hd⟩ := h
    cases ho : ops.toList[i]? with
    | none => rw [ho] at hd; simp at hd
    | some o =>
      rw [ho] at hd
      exact hm.has i o d hi (by rw [← Array.getElem?_toList]; exact ho) (by simpa using hd) (hall i hi)
  intro fuel
  induction fuel with
  | zero =>
    intro listed a w hu hcl hm
    have hall := unl_zero (listed := listed) (by omega)
    refine hend 0 listed a w hu hm (fun i hi => ?_)
    have hil : i < listed.size := by rw [hm.lsize]; omega
    rw [← getD_tf hil]; exact hall i hil
  | succ fuel ih =>
    intro listed a w hu hcl hm
    by_cases hall : ∀ i, i < qs.length → listed.getD i false = true
    · exact hend (fuel + 1) listed a w hu hm hall
    · have hex : ∃ i0, i0 < qs.length ∧ listed.getD i0 false = false := by
        apply Classical.byContradiction
        intro hno
        apply hall
        intro i hi
        cases hq : listed.getD i false with
        | true => rfl
        | false => exact absurd ⟨i, hi, hq⟩ hno
      obtain ⟨i0, hi0, hi0u⟩ := hex
      refine ⟨fun hr => ?_, fun i hi => ?_⟩
      · exfalso
        have hu0 := ready_back hE hm.lsize hr
        have hil : i0 < listed.size := by rw [hm.lsize]; omega
        have := unl_zero hu0 i0 hil
        rw [getD_tf hil, hi0u] at this
        cases this
      · obtain ⟨hun, o, ho, hdep⟩ := mem_ready.1 hi
        have hio : i < ops.size := (Array.getElem?_eq_some_iff.1 ho).1
        have hu' := unl_set hun
        have hil : i < listed.size := by rw [hm.lsize]; exact hio
        have htg : ∀ j ∈ tgt o, listed.getD j false = true := fun j hj => by
          obtain ⟨e, he, hb, rfl⟩ := mem_tgt.1 hj
          exact hdep e he hb
        have hik : i < qs.length := by
          rcases Nat.lt_or_ge i qs.length with h | h
          · exact h
          · exfalso
            unfold coverOk at hC
            have h1 := List.all_eq_true.1 hC i (by simpa using hio)
            simp only [Bool.or_eq_true, decide_eq_true_eq] at h1
            rcases h1 with h1 | h1
            · omega
            · have h2 := List.all_eq_true.1 h1 i0 (by simpa using hi0)
              have h3 : i0 ∈ clo ops.toList 8 (tgts ops.toList i) := by simpa using h2
              have h4 := clo_listed hcl 8 (tgts ops.toList i) (fun j hj => by
                unfold tgts at hj
                rw [Array.getElem?_toList, ho] at hj
                exact htg j (by simpa using hj)) i0 h3
              rw [hi0u] at h4
              cases h4
        have hK : Known ops.toList qs.length (fkAt qs) a0 w0 o a w := by
          refine ⟨fun t ht => eval_of_get (hm.old t ht), fun j d hj => ?_, hm.grow⟩
          unfold depOk at hj
          simp only [Bool.and_eq_true, decide_eq_true_eq, beq_iff_eq, Array.getElem?_toList] at hj
          obtain ⟨⟨hjk, hany⟩, hd⟩ := hj
          obtain ⟨e, he, hb⟩ := List.any_eq_true.1 hany
          simp only [Bool.and_eq_true, beq_iff_eq] at hb
          have hl := hdep e (by simpa using he) hb.2
          rw [hb.1] at hl
          cases hoj : ops[j]? with
          | none => rw [hoj] at hd; simp at hd
          | some oj =>
            rw [hoj] at hd
            exact hm.has j oj d hjk hoj (by simpa using hd) hl
        have hto : (ops.toList.take qs.length)[i]? = some o := by rw [List.getElem?_take, if_pos hik, Array.getElem?_toList]; exact ho
        obtain ⟨d, hd, hlt, hallD⟩ := dstsOk_spec hD i o hto
        have hcl' : Closed ops (listed.setIfInBounds i true) := by
          intro m om hom hml j hj
          by_cases e : m = i
          · subst e
            obtain rfl : om = o := Option.some.inj (hom.symm.trans ho)
            have h1 := htg j hj
            by_cases e2 : j = m
            · subst e2; exact getD_set_same hil
            · have hne : m ≠ j := fun h => e2 h.symm
              simpa [Array.getElem?_setIfInBounds, hne] using h1
          · have hne : i ≠ m := fun h => e h.symm
            have hml' : listed.getD m false = true := by simpa [Array.getElem?_setIfInBounds, hne] using hml
            have h1 := hcl m om hom hml' j hj
            by_cases e2 : j = i
            · subst e2; exact getD_set_same hil
            · have hne2 : i ≠ j := fun h => e2 h.symm
              simpa [Array.getElem?_setIfInBounds, hne2] using h1
        have hnext : ∀ v w', Below w.heap.size w w' → fkAt qs i v w' → wpAny P .any ops Q fuel (listed.setIfInBounds i true) (a.put o.dst v) w' := by
          intro v w' hb hf
          refine ih _ _ _ (by omega) hcl' ⟨by rw [put_size]; exact hm.size, by rw [put_def]; exact hm.defs, by simp; exact hm.lsize, fun t ht => ?_, fun j oj dj hj hoj hdj hlj => ?_, fun j hj1 hj2 => ?_, hm.grow.trans (hb.mono hm.grow.size)⟩
          · rw [put_other _ _ _ _ (freeOf_spec ht hto)]; exact hm.old t ht
          · by_cases e : j = i
            · subst e
              obtain rfl : oj = o := Option.some.inj (hoj.symm.trans ho)
              obtain rfl : dj = d := Option.some.inj (hdj.symm.trans hd)
              have hev : (a.put oj.dst v).eval (.tmp dj) = v := by
                have := put_same a dj v (by rw [hm.size]; exact hlt)
                rw [← hd] at this
                simp [Act.eval, this]
              rw [hev]; exact hf
            · have htj : (ops.toList.take qs.length)[j]? = some oj := by rw [List.getElem?_take, if_pos hj, Array.getElem?_toList]; exact hoj
              have hne : o.dst ≠ some dj := fun h => by
                have : d = dj := Option.some.inj (hd.symm.trans h)
                exact hallD j oj htj e (by rw [this]; exact hdj)
              rw [eval_of_get (put_other a o.dst v dj hne)]
              refine Fk.mono _ _ w w' (hm.has j oj dj hj hoj hdj ?_) hb
              have hne2 : i ≠ j := fun h => e h.symm
              simpa [Array.getElem?_setIfInBounds, hne2] using hlj
          · have hne : i ≠ j := by omega
            have := hm.last j hj1 hj2
            simpa [Array.getElem?_setIfInBounds, hne] using this
        have hyield : ∀ (j : Nat) (b c : Bool), o.guard = some (j, b) → (∃ d, depOk ops.toList qs.length o j d = true) → (∀ v w, fkAt qs j v w → v = .bool c) → yielded ops a.tmps j = some c := by
          rintro j b c hg ⟨d, hd⟩ hbool
          have hv := hbool _ _ (hK.dep j d hd)
          have hd2 : (ops[j]?).bind (·.dst) = some d := by
            unfold depOk at hd
            simp only [Bool.and_eq_true, decide_eq_true_eq, beq_iff_eq, Array.getElem?_toList] at hd
            exact hd.2
          have hget : a.tmps[d]? = some (.bool c) := by
            simp only [Act.eval, Array.getD_eq_getD_getElem?] at hv
            cases hq : a.tmps[d]? with
            | none => rw [hq] at hv; simp [undef] at hv
            | some u => rw [hq] at hv; simp at hv; rw [hv]
          unfold yielded
          rw [hd2]
          simp only [Option.bind_some, hget]
        unfold wpOp
        rw [ho]
        show if Region.wanted o (yielded ops a.tmps) = true then _ else _
        have hyes : Region.wanted o (yielded ops a.tmps) = true → wantedBy qs o = true → (if Region.wanted o (yielded ops a.tmps) = true then o.wp P a w (wpAny P .any ops Q fuel (listed.setIfInBounds i true)) Q ∨ (o.asks P a w ∧ LetsOut Q) else wpAny P .any ops Q fuel (listed.setIfInBounds i true) (a.put o.dst undef) w) := by
          intro hwant hwb
          rw [if_pos hwant]
          refine .inl (Oper.wp_mono ?_ (hS.get i o hik (by rw [Array.getElem?_toList]; exact ho) hwb a w hK))
          rintro a' w' ⟨v, rfl, hb, hf⟩
          exact hnext v w' hb hf
        cases hg : o.guard with
        | none => exact hyes (by unfold Region.wanted; rw [hg]) (by unfold wantedBy; rw [hg])
        | some jb =>
          obtain ⟨j, b⟩ := jb
          obtain ⟨hdp, h2⟩ := guardsOk_spec hG i o j b hik (by rw [Array.getElem?_toList]; exact ho) hg
          rcases h2 with h2 | h2
          · refine hyes ?_ (by unfold wantedBy; rw [hg]; exact h2)
            unfold Region.wanted
            rw [hg]
            show (yielded ops a.tmps j == some b) = true
            rw [hyield j b b hg hdp (Fk.isBool_spec h2)]; simp
          · have hno : Region.wanted o (yielded ops a.tmps) = false := by
              unfold Region.wanted
              rw [hg]
              show (yielded ops a.tmps j == some b) = false
              rw [hyield j b (!b) hg hdp (Fk.isBool_spec h2.1)]; cases b <;> rfl
            rw [if_neg (by rw [hno]; simp)]
            exact hnext undef w (Below.refl _ _) (Fk.isAny_spec h2.2 _ _)
/-- A drawn region: its first operations by steps, whatever order is picked; the others, in the order js, behind them. -/
theorem wp_region_tail {id : Nat} {a0 : Act} {w : World} (qs : List Fk) (js : List Nat) (hm : P.follows .mixedOrders = true) (hk : decide (qs.length ≤ ops.size) = true) (hE : backOk ops.toList = true) (hC : coverOk ops.toList qs.length = true) (hJ : chainOk ops (firstK qs.length ops.size) js = true)
    (hD : dstsOk a0.tmps.size (ops.toList.take qs.length) = true) (hG : guardsOk ops.toList qs.length qs ops.toList qs = true)
    (hS : Steps P Q ops.toList qs.length qs a0 w ops.toList qs)
    (hF : ∀ af w', Final ops.toList qs a0 af w' → Below w.heap.size w w' → wpList P ops Q (js.filterMap (ops[·]?)) af w') :
    (Code.region id ops true).wp P Q a0 w := by
  refine wp_region_any hm ?_
  refine wp_mids_tail js (of_decide_eq_true hk) hE hC hJ hD hG hS hF ops.size _ a0 _ ?_ ?_ ?_
  · unfold unl
    exact Nat.le_trans (Array.countP_le_size) (by simp)
  · intro i o ho hl
    have : i < ops.size := (Array.getElem?_eq_some_iff.1 ho).1
    simp [this] at hl
  · refine ⟨rfl, rfl, by simp, fun _ _ => rfl, fun i o d _ ho _ hl => ?_, fun i _ hi => ?_, (Below.refl _ _).drew⟩
    · have : i < ops.size := (Array.getElem?_eq_some_iff.1 ho).1
      simp [this] at hl
    · simp [hi]
end
end Go.Proofs.YtfbfngblocfdlaaDoor
