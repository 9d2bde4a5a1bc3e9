/- Two slices of bytes of the call's own, apart; more steps. -/
import Derived.Test.YthnaomkkaodbkaaDoorQa
import Derived.Maps.AppendAt
import Derived.RegionTactic
namespace Go.Proofs.YthnaomkkaodbkaaDoor
open Go.RowKit
/-- u and v are slices of bytes of the call's own, with rows of their own. -/
structure Tw (base : Nat) (u v : Value) (xs ys : List (BitVec 8)) (w : World) : Prop where
  one : w.ownsRow base 5 1 u xs.length (xs.map V)
  two : w.ownsRow base 5 1 v ys.length (ys.map V)
  apart : ∀ g, u.ownBlock = some g → v.ownBlock ≠ some g
theorem own_grown {w w' : World} {base n s : Nat} {e : TypeId} {v : Value} {xs : List Value} {row : Option Nat} (h : w.ownsRow base e s v n xs) (hg : w.grownBy w' row) (hr : ∀ g, v.ownBlock = some g → row ≠ some g) : w'.ownsRow base e s v n xs := by
  refine ⟨h.1, ?_⟩
  rcases h.2 with h2 | ⟨g, cap, cur, rfl, hb, hg1, r⟩
  · exact .inl h2
  · exact .inr ⟨g, cap, cur, rfl, hb, by rw [hg.block g (Array.getElem?_eq_some_iff.1 hg1).1 (fun e => hr g rfl e.symm)]; exact hg1, r⟩
theorem own_below {w w' : World} {base n s : Nat} {e : TypeId} {v : Value} {xs : List Value} (h : w.ownsRow base e s v n xs) (hb : Below w.heap.size w w') : w'.ownsRow base e s v n xs := by
  refine ⟨h.1, ?_⟩
  rcases h.2 with h2 | ⟨g, cap, cur, rfl, hbg, hg1, r⟩
  · exact .inl h2
  · exact .inr ⟨g, cap, cur, rfl, hbg, by rw [hb.block g (Array.getElem?_eq_some_iff.1 hg1).1]; exact hg1, r⟩
theorem Tw.below {base : Nat} {u v : Value} {xs ys : List (BitVec 8)} {w w' : World} (h : Tw base u v xs ys w) (hb : Below w.heap.size w w') : Tw base u v xs ys w' := ⟨own_below h.one hb, own_below h.two hb, h.apart⟩
theorem own_not23 {w : World} {base n g : Nat} {v : Value} {xs : List Value} {ys : List (BitVec 8)} (h : w.ownsRow base 5 1 v n xs) (hv : HasV w g 23 ys) : v.ownBlock ≠ some g := by
  intro e
  rcases h.2 with ⟨rfl, _⟩ | ⟨g', cap, cur, rfl, hbg, hg1, r⟩
  · simp [Value.ownBlock] at e
  · have : g' = g := by simpa [Value.ownBlock] using e
    subst this
    unfold HasV at hv
    rw [hv] at hg1
    have := Option.some.inj hg1
    simp at this
theorem Tw.nil (base : Nat) (w : World) : Tw base (.slice none 0 0) (.slice none 0 0) [] [] w := ⟨World.ownsRow_nil _ _ _ _, World.ownsRow_nil _ _ _ _, fun g h => by simp [Value.ownBlock] at h⟩
theorem own_sl {w : World} {base n : Nat} {v : Value} {xs : List (BitVec 8)} (h : w.ownsRow base 5 1 v n (xs.map V)) : (Fk.sl xs).f v w := by
  obtain ⟨g, sp, c, rfl, hs, _⟩ := own_slice h
  exact ⟨sp, n, c, g, 0, rfl, hs⟩
section
variable {Q : Exit → Act → World → Prop} {o : Oper} {a : Act} {w : World} {q : Fk} {ops : Array Oper} {rest : List Oper}
theorem wl_appb (hgd : o.guard = none) (s x : Operand) (ho : o.op = .call { callee := .builtin .append, args := #[s, x], argTypes := #[49, 49] }) (d : Nat) (hd : o.dst = some d) (hsz : d < a.tmps.size)
    {base : Nat} {u : Value} {xs ys : List (BitVec 8)} {b : Nat} (hs : a.eval s = u) (hown : w.ownsRow base 5 1 u xs.length (xs.map V)) (hx : a.eval x = .slice (some ⟨b, 0, none⟩) 32 32) (hv : HasV w b 23 ys) (hl : ys.length = 32) (hN : xs.length ≤ 100000) (hbase : base ≤ w.heap.size)
    (h : ∀ a2 w2, a2.defers = a.defers → a2.tmps.size = a.tmps.size → (∀ t, (t == d) = false → a2.eval (.tmp t) = a.eval (.tmp t)) → w2.ownsRow base 5 1 (a2.eval (.tmp d)) (xs ++ ys).length ((xs ++ ys).map V) → ((a2.eval (.tmp d)).ownBlock = u.ownBlock ∨ (a2.eval (.tmp d)).ownBlock = some w.heap.size) → w.grownBy w2 u.ownBlock → wpList Tryd.prog ops Q rest a2 w2) : wpList Tryd.prog ops Q (o :: rest) a w := by
  obtain ⟨i0, hi, hz0, hz1, hz2⟩ := info_parts Tryd.info5
  refine wpList_append_own_at w hgd s x 49 ho base 5 i0 (.int .u8 0) 1 1 Tryd.under49 hi hz0 hz1 hz2 rfl (by decide) u xs.length (xs.map V) hs hown ⟨b, 0, none⟩ 32 32 (ys.map V) hx (by rw [List.length_map, hl]) ?_ (V_one ys) (by unfold maxLen; omega) (by omega) hbase ?_
  · intro j t hj
    have := hv.bytes.src ys.length j t
    rw [List.take_of_length_le (Nat.le_refl _)] at this
    exact this hj
  · intro v' w' h1 h2 _ h4
    have he : (a.put o.dst v').eval (.tmp d) = v' := by rw [hd]; exact put_eval_same _ _ _ hsz
    refine h _ _ (put_def _ _ _) (put_size _ _ _) (fun t ht => ?_) ?_ ?_ h2
    · rw [hd]
      exact put_eval_other _ _ _ _ (fun e => by subst e; simp at ht)
    · rw [he, List.length_append, hl, List.map_append]
      exact h1
    · rw [he]; exact h4
theorem any_take {P : Program} {i : Nat} {oi : Oper} {v : Value} {fuel : Nat} {listed : Array Bool} (d : Nat) (hi : ops[i]? = some oi) (hd : oi.dst = some d) (hsz : d < a.tmps.size) (hs : Region.noSelect ops = true) (hf : Region.free .any ops listed i = true) (hr : (Region.ready .any ops listed).contains i = true)
    (hQ : ∀ c a w, Q (.panic c) (a.put oi.dst v) w → Q (.panic c) a w) (hg : oi.guard = none) (hy : ∀ w, (execOp a.eval oi).run P w = .ok (.value v) w)
    (h : ∀ a2, a2.defers = a.defers → a2.tmps.size = a.tmps.size → (∀ t, (t == d) = false → a2.eval (.tmp t) = a.eval (.tmp t)) → a2.eval (.tmp d) = v → wpAny P .any ops Q fuel (listed.setIfInBounds i true) a2 w) : wpAny P .any ops Q (fuel + 1) listed a w := by
  refine wpAny_take hi hs hf hr hQ (.inl ⟨by unfold Region.wanted; rw [hg], hy⟩) ?_
  refine h _ (put_def _ _ _) (put_size _ _ _) (fun t ht => ?_) ?_
  · rw [hd]
    exact put_eval_other _ _ _ _ (fun e => by subst e; simp at ht)
  · rw [hd]
    exact put_eval_same _ _ _ hsz
theorem run_move {P : Program} (x : Operand) (ho : o.op = .move x) {v : Value} (hx : a.eval x = v) : ∀ w, (execOp a.eval o).run P w = .ok (.value v) w := by
  intro w
  unfold execOp
  rw [ho]
  simp [hx]
theorem run_slice23 (x : Operand) (ho : o.op = .slice 23 x none none none) (b : Nat) (hx : a.eval x = .pointer (some ⟨b, 0, none⟩)) : ∀ w, (execOp a.eval o).run Tryd.prog w = .ok (.value (.slice (some ⟨b, 0, none⟩) 32 32)) w := by
  intro w
  unfold execOp
  rw [ho]
  simp [hx, Tryd.slice23]
theorem st_neqs (x y : Operand) (ho : o.op = .binOp .neq 9 x y 9) (s t : ByteArray) (hx : a.eval x = .string s) (hy : a.eval y = .string t) (b : Bool) (hb : b = decide (s ≠ t)) : o.wp Tryd.prog a w (Ends a o.dst w (Fk.eq (.bool b)).f) Q := by
  refine st_pure (v := .bool b) ?_ rfl
  unfold execOp
  rw [ho]
  subst hb
  simp [hx, hy, eqGuard, binOp, Op.stringOp, str_beq]
theorem st_max (x y : Operand) (ho : o.op = .call { callee := .builtin .max, args := #[x, y], argTypes := #[3, 3] }) (m n : Nat) (hx : a.eval x = .int .i64 ((m : Nat) : Int)) (hy : a.eval y = .int .i64 ((n : Nat) : Int)) : o.wp Tryd.prog a w (Ends a o.dst w (Fk.eq (.int .i64 ((max m n : Nat) : Int))).f) Q := by
  refine st_pure (v := .int .i64 ((max m n : Nat) : Int)) ?_ rfl
  have h1 := run_max_int2 (P := Tryd.prog) (w := w) #[3, 3] o.type .i64 .i64 (m : Int) (n : Int)
  have h2 : (if (n : Int) > (m : Int) then (n : Int) else (m : Int)) = ((max m n : Nat) : Int) := by split <;> omega
  rw [h2] at h1
  unfold execOp
  simp [ho, resolve, invoke, builtin, hx, hy, h1]
theorem st_geq (t : TypeId) (x y : Operand) (ho : o.op = .binOp .geq t x y t) (k : IntKind) (s u : Int) (hx : a.eval x = .int k s) (hy : a.eval y = .int k u) (b : Bool) (hb : b = decide (u ≤ s)) : o.wp Tryd.prog a w (Ends a o.dst w (Fk.eq (.bool b)).f) Q := by
  refine st_pure (v := .bool b) ?_ rfl
  subst hb
  unfold execOp
  rw [ho]
  simp [hx, hy, eqGuard, binOp, Op.intCmp]
theorem st_sub1 (x : Operand) (ho : o.op = .binOp .sub 3 x (.const (.int .i64 1)) 3) (k : Nat) (hk : k ≤ 1000000) (h1 : 1 ≤ k) (hx : a.eval x = .int .i64 (k : Int)) : o.wp Tryd.prog a w (Ends a o.dst w (Fk.eq (.int .i64 ((k - 1 : Nat) : Int))).f) Q := by
  refine st_pure (v := .int .i64 ((k - 1 : Nat) : Int)) ?_ rfl
  have he : a.eval (.const (.int .i64 1)) = .int .i64 1 := rfl
  unfold execOp
  rw [ho]
  have hw : IntKind.i64.wrap ((k : Int) - 1) = ((k - 1 : Nat) : Int) := by rw [IntKind.wrap_i64]; omega
  simp [hx, he, eqGuard, binOp, Op.intArith, hw]
end
/- Lists of hashes, one behind the other. -/
theorem flat_inj : ∀ (xs ys : List (List (BitVec 8))), xs.length = ys.length → (∀ x ∈ xs, x.length = 32) → (∀ y ∈ ys, y.length = 32) → xs.flatten = ys.flatten → xs = ys
  | [], [], _, _, _, _ => rfl
  | x :: xs, y :: ys, hl, h1, h2, h => by
    rw [List.flatten_cons, List.flatten_cons] at h
    have hx := h1 x (by simp)
    have hy := h2 y (by simp)
    obtain ⟨e1, e2⟩ := List.append_inj h (by omega)
    rw [e1, flat_inj xs ys (by simpa using hl) (fun z hz => h1 z (by simp [hz])) (fun z hz => h2 z (by simp [hz])) e2]
  | [], y :: ys, hl, _, _, _ => by simp at hl
  | x :: xs, [], hl, _, _, _ => by simp at hl
theorem rec_len {h : List (BitVec 8)} {S : List (List (BitVec 8))} (hS : S.length = 67) (h32 : ∀ (i : Nat) (x : List (BitVec 8)), S[i]? = some x → x.length = 32) (i : Nat) (hi : i < 67) : (recOf h S i).length = 32 := by
  unfold recOf
  refine wk_len _ _ _ _ ?_
  have : i < S.length := by omega
  have e : S.getD i [] = S[i] := by simp [this]
  rw [e]
  exact h32 i _ (List.getElem?_eq_getElem this)
theorem rec_all_len {h : List (BitVec 8)} {S : List (List (BitVec 8))} (hS : S.length = 67) (h32 : ∀ (i : Nat) (x : List (BitVec 8)), S[i]? = some x → x.length = 32) : ∀ x ∈ all67 (recOf h S), x.length = 32 := by
  intro x hx
  unfold all67 at hx
  obtain ⟨i, hi, rfl⟩ := List.mem_map.1 hx
  exact rec_len hS h32 i (by simpa using hi)
theorem firsts_flat_len {h : List (BitVec 8)} {S : List (List (BitVec 8))} (hS : S.length = 67) (h32 : ∀ (i : Nat) (x : List (BitVec 8)), S[i]? = some x → x.length = 32) : ∀ k, k ≤ 67 → (firsts (recOf h S) k).flatten.length = 32 * k
  | 0, _ => rfl
  | k + 1, hk => by
    rw [firsts_succ, List.flatten_append, List.length_append, firsts_flat_len hS h32 k (by omega)]
    have := rec_len (h := h) hS h32 k (by omega)
    simp [this]
    omega
theorem rec_eq {h o : List (BitVec 8)} {S : List (List (BitVec 8))} (hS : S.length = 67) (h32 : ∀ (i : Nat) (x : List (BitVec 8)), S[i]? = some x → x.length = 32) (he : (all67 (recOf h S)).flatten = (all67 (recOf o S)).flatten) (i : Nat) (hi : i < 67) : recOf h S i = recOf o S i := by
  have := flat_inj _ _ (by rw [all_len, all_len]) (rec_all_len hS h32) (rec_all_len hS h32) he
  have h1 := all_at (recOf h S) i hi
  rw [this, all_at _ i hi] at h1
  exact (Option.some.inj h1).symm
end Go.Proofs.YthnaomkkaodbkaaDoor
