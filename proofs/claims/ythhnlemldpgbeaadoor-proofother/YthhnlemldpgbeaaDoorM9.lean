/- The sides of a leaf's path, reckoned upwards by halving its place and the last one's. A drawn region in which two variables are made, beside looks; a hash of a list is looked at. -/
import Derived.Test.YthhnlemldpgbeaaDoorM5
import Derived.Test.YthhnlemldpgbeaaDoorM6
namespace Go.Proofs.YthhnlemldpgbeaaDoor
set_option maxRecDepth 100000
/-- As sds, with so many parts at most. -/
def sdf : Nat → Nat → Nat → List Bool
  | 0, _, _ => []
  | f + 1, i, n => if n ≤ 1 then [] else if i < spl n then sdf f i (spl n) ++ [false] else sdf f (i - spl n) (n - spl n) ++ [true]
theorem sdf_eq (f : Nat) : ∀ i n, n ≤ 2 ^ f → sdf f i n = sds i n := by
  induction f with
  | zero =>
    intro i n h
    rw [sds_one (by simpa using h)]
    rfl
  | succ f ih =>
    intro i n h
    unfold sdf
    by_cases h1 : n ≤ 1
    · rw [if_pos h1, sds_one h1]
    · have hs := spl_lt (n := n) (by omega)
      have hp := spl_pos n
      have hk : spl n ≤ 2 ^ f := by
        unfold spl
        apply Nat.pow_le_pow_right (by decide)
        have : Nat.log2 (n - 1) < f + 1 := (Nat.log2_lt (by omega)).2 (by omega)
        omega
      rw [if_neg h1]
      by_cases hi : i < spl n
      · rw [if_pos hi, sds_left (by omega) hi, ih _ _ hk]
      · have hg := spl_ge (n := n) (by omega)
        rw [if_neg hi, sds_right (by omega) hi, ih _ _ (by omega)]
/-- Does the hash beside stand on the left? -/
def rgt (s : Nat × Nat) : Bool := s.1 % 2 == 1 || s.1 == s.2
/-- One halving, where the place is even and not the first. -/
def skp : Nat → Nat × Nat → Nat × Nat
  | 0, s => s
  | f + 1, s => if s.1 % 2 = 0 ∧ 0 < s.1 then skp f (s.1 / 2, s.2 / 2) else s
/-- One step up. -/
def stA (s : Nat × Nat) : Nat × Nat := ((if rgt s then skp 8 s else s).1 / 2, (if rgt s then skp 8 s else s).2 / 2)
def itA : Nat → Nat × Nat → Nat × Nat
  | 0, s => s
  | k + 1, s => stA (itA k s)
theorem alg_all : ∀ n : Fin 71, ∀ i : Fin 71, i.val < n.val → (List.range (sdf 7 i.val n.val).length).map (fun k => rgt (itA k (i.val, n.val - 1))) = sdf 7 i.val n.val := by decide +kernel
/-- The side at step k, for lists of up to 70. -/
theorem alg_sides {i n k : Nat} (hi : i < n) (hn : n ≤ 70) (hk : k < (sds i n).length) : (sds i n)[k]? = some (rgt (itA k (i, n - 1))) := by
  have h := alg_all ⟨n, by omega⟩ ⟨i, by omega⟩ hi
  dsimp only at h
  rw [sdf_eq 7 i n (by omega)] at h
  rw [← h, List.getElem?_map, List.getElem?_range hk]
  rfl
end Go.Proofs.YthhnlemldpgbeaaDoor
namespace Go.Proofs.YthhnlemldpgbeaaDoor
set_option maxRecDepth 100000
open Go.RowKit
theorem hc_nth {P : List (List (BitVec 8))} {A : Option Addr} {C : Nat} {w : World} {st : List (BitVec 8)} {i : Nat} (h : (Fk.hc P).f (.slice A P.length C) w) (h0 : P[i]? = some st) : ∃ lb lo, A = some ⟨lb, lo, none⟩ ∧ lb < w.heap.size ∧ w.rangeAt lb (lo + i * 32) (st.map V) ∧ st.length = 32 := by
  obtain ⟨A', C', lb, lo, e, hc, hl⟩ := h
  cases e
  have hp : 0 < P.length := by have := (List.getElem?_eq_some_iff.1 h0).1; omega
  obtain ⟨h1, h2⟩ := hl.all i st h0
  refine ⟨lb, lo, hl.ptr hp, hl.lt hp, fun j v hj => ?_, h1⟩
  have hjl : j < st.length := by have := (List.getElem?_eq_some_iff.1 hj).1; simpa using this
  have := h2 j hjl
  rw [this]
  rw [List.getElem?_map, List.getElem?_eq_getElem hjl] at hj
  simp only [Option.map_some, Option.some.injEq] at hj
  rw [← hj]
  simp [V, hjl]
section
variable {S : World → Prop} {o p : Oper} {a : Act} {Q : Exit → Act → World → Prop} {ops : Array Oper} {w : World}
theorem run_idxn {x y : Operand} (ho : o.op = .indexAddr 24 x y) {A : Option Addr} {m C lb lo : Nat} (hx : a.eval x = .slice A m C) (hA : A = some ⟨lb, lo, none⟩) (i : Nat) (hy : a.eval y = .int .i64 (i : Int)) (hm : i < m) : ∀ w, S w → (execOp a.eval o).run Tryd.prog w = .ok (.value (.pointer (some ⟨lb, lo + i * 32, none⟩))) w := by
  intro w _
  subst hA
  have h1 := run_indexAt_slice (P := Tryd.prog) (w := w) 24 ⟨lb, lo, none⟩ m C .i64 (i : Int) (by rw [Tryd.elem24]; exact Tryd.under24')
  rw [if_pos (by omega), Tryd.elem24, Tryd.sizeOf23] at h1
  simp only [Result.andThen_ok, Int.toNat_natCast] at h1
  have h2 : (⟨lb, lo, none⟩ : Addr).add (i * 32) = ⟨lb, lo + i * 32, none⟩ := by simp [Addr.add]
  rw [h2] at h1
  unfold execOp
  rw [ho]
  simp [hx, hy, h1]
/-- One variable of a hash is made, when number i comes up. -/
theorem op_alloc {i d : Nat} {w : World} {K : Act → World → Prop} (hi : ops[i]? = some o) (hd : o.dst = some d) (hg : o.guard = none) (ho : o.op = .alloc 23) (h : K (a.put (some d) (.pointer (some ⟨w.heap.size, 0, none⟩))) (w.alloc (.cells (hz.map V).toArray 23))) : wpOp Tryd.prog ops Q i K a w := by
  have hrun : (execOp a.eval o).run Tryd.prog w = .ok (.value (.pointer (some ⟨w.heap.size, 0, none⟩))) (w.alloc (.cells (hz.map V).toArray 23)) := by
    have h1 : (Instr.alloc 23 true (.tuple #[])).run Tryd.prog w = .ok (.pointer (some ⟨w.heap.size, 0, none⟩)) (w.alloc (.cells (hz.map V).toArray 23)) := by kernel_rfl
    unfold execOp
    rw [ho]
    simp [h1]
  unfold wpOp
  rw [hi]
  show if Region.wanted o (yielded ops a.tmps) = true then _ else _
  rw [if_pos (by unfold Region.wanted; rw [hg])]
  refine .inl ?_
  unfold Oper.wp
  rw [hrun]
  show K (a.put o.dst _) _
  rw [hd]
  exact h
theorem alloc_size (w : World) (o : Obj) : (w.alloc o).heap.size = w.heap.size + 1 := by
  show (w.heap.push o).size = _
  exact Array.size_push _
/-- Two variables of hashes are made, in whatever order. -/
theorem wh_alloc2 (i j d e : Nat) {fuel : Nat} {listed : Array Bool} (hi : ops[i]? = some o) (hj : ops[j]? = some p) (hd : o.dst = some d) (he : p.dst = some e) (hsd : d < a.tmps.size) (hse : e < a.tmps.size) (hde : d ≠ e) (hg : o.guard = none) (hgp : p.guard = none) (ho : o.op = .alloc 23) (hp : p.op = .alloc 23)
    (hr : (Region.ready .any ops listed == [i, j]) = true) (hri : (Region.ready .any ops (listed.setIfInBounds i true) == [j]) = true) (hrj : (Region.ready .any ops (listed.setIfInBounds j true) == [i]) = true) (hij : i ≠ j)
    (hS : ∀ w2, Below w.heap.size w w2 → S w2)
    (h : ∀ a2 w2 g k, a2.defers = a.defers → a2.tmps.size = a.tmps.size → (∀ t, (t == d) = false → (t == e) = false → a2.eval (.tmp t) = a.eval (.tmp t)) → a2.eval (.tmp d) = .pointer (some ⟨g, 0, none⟩) → a2.eval (.tmp e) = .pointer (some ⟨k, 0, none⟩) → g ≠ k → w.heap.size ≤ g → w.heap.size ≤ k → Ob w2 g 23 (hz.map V) → Ob w2 k 23 (hz.map V) → Below w.heap.size w w2 → wpAnyH Tryd.prog .any ops Q S fuel ((listed.setIfInBounds i true).setIfInBounds j true) a2 w2) : wpAnyH Tryd.prog .any ops Q S (fuel + 2) listed a w := by
  have hb1 : Below w.heap.size w (w.alloc (.cells (hz.map V).toArray 23)) := (Below.refl _ _).alloc (Nat.le_refl _) _
  have hb2 : Below w.heap.size w ((w.alloc (.cells (hz.map V).toArray 23)).alloc (.cells (hz.map V).toArray 23)) := hb1.alloc hb1.size _
  have hsz := alloc_size w (.cells (hz.map V).toArray 23)
  have m1 : Ob ((w.alloc (.cells (hz.map V).toArray 23)).alloc (.cells (hz.map V).toArray 23)) w.heap.size 23 (hz.map V) := Ob.below (Ob.alloc _ _ _) ((Below.refl _ _).alloc (Nat.le_refl _) _)
  have m2 : Ob ((w.alloc (.cells (hz.map V).toArray 23)).alloc (.cells (hz.map V).toArray 23)) (w.alloc (.cells (hz.map V).toArray 23)).heap.size 23 (hz.map V) := Ob.alloc _ _ _
  refine wpAnyH_all (eq_of_beq hr) (by simp) (fun q hq => ?_)
  have hq' : q = i ∨ q = j := by simpa using hq
  rcases hq' with rfl | rfl
  · refine op_alloc hi hd hg ho ⟨hS _ hb1, ?_⟩
    refine wpAnyH_all (eq_of_beq hri) (by simp) (fun q2 hq2 => ?_)
    obtain rfl : q2 = j := by simpa using hq2
    refine op_alloc hj he hgp hp ⟨hS _ hb2, ?_⟩
    refine h _ _ w.heap.size _ ?_ ?_ (fun t h1 h2 => ?_) ?_ (put_eval_same _ _ _ (by rw [put_size]; exact hse)) (by omega) (Nat.le_refl _) (by omega) m1 m2 hb2
    · rw [put_def, put_def]
    · rw [put_size, put_size]
    · rw [put_eval_other _ _ _ _ (fun e => by subst e; simp at h2), put_eval_other _ _ _ _ (fun e => by subst e; simp at h1)]
    · rw [put_eval_other _ _ _ _ hde.symm, put_eval_same _ _ _ hsd]
  · refine op_alloc hj he hgp hp ⟨hS _ hb1, ?_⟩
    refine wpAnyH_all (eq_of_beq hrj) (by simp) (fun q2 hq2 => ?_)
    obtain rfl : q2 = i := by simpa using hq2
    refine op_alloc hi hd hg ho ⟨hS _ hb2, ?_⟩
    rw [Array.setIfInBounds_comm _ _ hij.symm]
    refine h _ _ _ w.heap.size ?_ ?_ (fun t h1 h2 => ?_) (put_eval_same _ _ _ (by rw [put_size]; exact hsd)) ?_ (by omega) (by omega) (Nat.le_refl _) m2 m1 hb2
    · rw [put_def, put_def]
    · rw [put_size, put_size]
    · rw [put_eval_other _ _ _ _ (fun e => by subst e; simp at h1), put_eval_other _ _ _ _ (fun e => by subst e; simp at h2)]
    · rw [put_eval_other _ _ _ _ hde, put_eval_same _ _ _ hse]
theorem st_rem2 (x y : Operand) (ho : o.op = .binOp .rem 3 x y 3) (m : Nat) (hx : a.eval x = .int .i64 (m : Int)) (hy : a.eval y = .int .i64 2) : o.wp Tryd.prog a w (Ends a o.dst w (Fk.eq (.int .i64 ((m % 2 : Nat) : Int))).f) Q := by
  refine st_bin .rem 3 3 x y ho hx hy ?_
  have h1 : Int.tmod (m : Int) 2 = ((m % 2 : Nat) : Int) := by
    rw [Int.tmod_eq_emod_of_nonneg (by omega)]
    omega
  simp only [eqGuard, binOp, Op.intDiv]
  simp [h1]
end
/-- Halving goes on: one step. -/
theorem skp_go {f : Nat} {a l : Nat} (h0 : a % 2 = 0) (h1 : 0 < a) : skp (f + 1) (a, l) = skp f (a / 2, l / 2) := by
  rw [skp]
  exact if_pos ⟨h0, h1⟩
theorem skp_end {f : Nat} {a l : Nat} (h : ¬ (a % 2 = 0 ∧ 0 < a)) : skp f (a, l) = (a, l) := by
  cases f with
  | zero => rfl
  | succ f => rw [skp]; exact if_neg h
theorem skp_le (f : Nat) : ∀ s, (skp f s).1 ≤ s.1 ∧ (skp f s).2 ≤ s.2 := by
  induction f with
  | zero => intro s; exact ⟨Nat.le_refl _, Nat.le_refl _⟩
  | succ f ih =>
    intro s
    rw [skp]
    split
    · obtain ⟨h1, h2⟩ := ih (s.1 / 2, s.2 / 2)
      dsimp only at h1 h2
      exact ⟨by omega, by omega⟩
    · exact ⟨Nat.le_refl _, Nat.le_refl _⟩
theorem itA_le (s : Nat × Nat) : ∀ k, (itA k s).1 ≤ s.1 ∧ (itA k s).2 ≤ s.2
  | 0 => ⟨Nat.le_refl _, Nat.le_refl _⟩
  | k + 1 => by
    obtain ⟨h1, h2⟩ := itA_le s k
    show (stA (itA k s)).1 ≤ _ ∧ (stA (itA k s)).2 ≤ _
    unfold stA
    dsimp only
    split
    · obtain ⟨h3, h4⟩ := skp_le 8 (itA k s)
      exact ⟨by omega, by omega⟩
    · exact ⟨by omega, by omega⟩
end Go.Proofs.YthhnlemldpgbeaaDoor
