/- append of any slice of hashes to a slice of the call's own; a store into such a slice. slices.Grow, slices.Concat of two slices of hashes, withPart. -/
import Derived.Test.YtfmeeimhfdnjpaaDoorM5
import Derived.Test.YtfmeeimhfdnjpaaDoorM3
import Derived.Laws.AppendOwnNone
import Derived.Test.YtfmeeimhfdnjpaaDoorM12
import Derived.Lib.AppendZeros
namespace Go.Proofs.YtfmeeimhfdnjpaaDoor
set_option maxRecDepth 100000
open Go.RowKit
section
variable {Q : Exit → Act → World → Prop} {o : Oper} {a : Act} {w : World} {ops : Array Oper} {rest : List Oper}
theorem flat_len3 : ∀ (hs : List (List (BitVec 8))), (∀ (i : Nat) (x : List (BitVec 8)), hs[i]? = some x → x.length = 32) → hs.flatten.length = 32 * hs.length
  | [], _ => rfl
  | y :: r, h => by
    rw [List.flatten_cons, List.length_append, h 0 y rfl, flat_len3 r (fun i x hi => h (i + 1) x (by simpa using hi)), List.length_cons]
    omega
theorem V_mem (l : List (BitVec 8)) : ∀ u ∈ l.map V, u.oneCell' = true := by
  intro u hu
  obtain ⟨x, _, rfl⟩ := List.mem_map.1 hu
  rfl
theorem wl_appendM (hgd : o.guard = none) (s x : Operand) (ho : o.op = .call { callee := .builtin .append, args := #[s, x], argTypes := #[35, 35] }) (d : Nat) (hd : o.dst = some d) (hsz : d < a.tmps.size)
    {wL : World} {hs M : List (List (BitVec 8))} {A : Option Addr} {C : Nat} (hs1 : (Fk.ow wL.heap.size hs).f (a.eval s) w) (e : a.eval x = .slice A M.length C) (hx : (Fk.hc M).f (.slice A M.length C) w) (hA : A = none → C = 0) (hL : Below wL.heap.size wL w) (hN : hs.length + M.length ≤ 1000)
    (h : ∀ a2 w2, a2.defers = a.defers → a2.tmps.size = a.tmps.size → (∀ t, (t == d) = false → a2.eval (.tmp t) = a.eval (.tmp t)) → (Fk.ow wL.heap.size (hs ++ M)).f (a2.eval (.tmp d)) w2 → Below wL.heap.size wL w2 → wpList Tryd.prog ops Q rest a2 w2) : wpList Tryd.prog ops Q (o :: rest) a w := by
  obtain ⟨i0, hi, hz0, hz1, hz2⟩ := info_parts Tryd.info33
  obtain ⟨hown, h32⟩ := hs1
  obtain ⟨A', C', lb, lo, e', hc, hl⟩ := hx
  cases e'
  have hM32 : ∀ (i : Nat) (x : List (BitVec 8)), M[i]? = some x → x.length = 32 := fun i x hi => (hl.all i x hi).1
  cases hA2 : A with
  | none =>
    have hC := hA hA2
    have hM : M = [] := by
      cases M with
      | nil => rfl
      | cons p r => have := hl.ptr (by simp); rw [hA2] at this; cases this
    subst hM hC
    rw [hA2] at e
    refine wpList_append_own_none hgd s x 35 ho wL.heap.size 33 i0 32 Tryd.under35' hi _ hs.length _ rfl hown e ?_
    refine h _ _ (put_def _ _ _) (put_size _ _ _) (fun t ht => ?_) ?_ hL
    · rw [hd]
      exact put_eval_other _ _ _ _ (fun e => by subst e; simp at ht)
    · rw [hd, put_eval_same _ _ _ hsz, List.append_nil]
      exact ⟨hown, h32⟩
  | some ad =>
    rw [hA2] at e
    have hcell : ∀ j u, (M.flatten.map V)[j]? = some u → w.cell? (ad.add j) = some u := by
      intro j u hj
      have hjl : j < M.flatten.length := by have := (List.getElem?_eq_some_iff.1 hj).1; rw [List.length_map] at this; exact this
      have hfl := flat_len3 M hM32
      have hp : 0 < M.length := by omega
      have had : ad = ⟨lb, lo, none⟩ := by have := hl.ptr hp; rw [hA2] at this; exact Option.some.inj this
      subst had
      obtain ⟨y, hy⟩ : ∃ y, M[j / 32]? = some y := ⟨_, List.getElem?_eq_getElem (by omega)⟩
      obtain ⟨hy1, hB⟩ := hl.all (j / 32) y hy
      have hat := flat_at M hM32 (j / 32) y hy (j % 32) (Nat.mod_lt _ (by decide))
      rw [show j / 32 * 32 + j % 32 = j by omega] at hat
      have hb := hB (j % 32) (by rw [hy1]; exact Nat.mod_lt _ (by decide))
      rw [Addr.add_mid, show lo + j = lo + j / 32 * 32 + j % 32 by omega, hb]
      rw [List.getElem?_map, hat, List.getElem?_eq_getElem (by rw [hy1]; exact Nat.mod_lt _ (by decide))] at hj
      simp only [Option.map_some, Option.some.injEq] at hj
      rw [← hj]
      simp [V, List.getD_eq_getElem?_getD, List.getElem?_eq_getElem (show j % 32 < y.length by rw [hy1]; exact Nat.mod_lt _ (by decide))]
    refine wpList_append_own w hgd s x 35 ho wL.heap.size 33 i0 _ 32 32 Tryd.under35' hi hz0 hz1 hz2 (by simp [Value.cells, hz_len]) (by decide) _ hs.length _ rfl hown ad M.length C (M.flatten.map V) e (by rw [List.length_map, flat_len3 M hM32]; omega) hcell (V_mem _) (by unfold maxLen; omega) (by omega) hL.size ?_
    intro v' w' h1 h2 _
    refine h _ _ (put_def _ _ _) (put_size _ _ _) (fun t ht => ?_) ?_ (hL.grown h2 hL.size (fun k e => (World.ownsRow.lt hown k e).1))
    · rw [hd]
      exact put_eval_other _ _ _ _ (fun e => by subst e; simp at ht)
    · rw [hd, put_eval_same _ _ _ hsz]
      refine ⟨?_, fun i y hi => ?_⟩
      · rw [List.length_append, List.flatten_append, List.map_append]
        exact h1
      · by_cases hil : i < hs.length
        · exact h32 i y (by rw [List.getElem?_append_left hil] at hi; exact hi)
        · rw [List.getElem?_append_right (by omega)] at hi
          exact hM32 _ y hi
end
/-- A slice of so many hashes, whatever they are, whose row (if there is one) is the call's own: it lies at s or behind it. -/
def OwnP (s m : Nat) (v : Value) (w : World) : Prop := (∃ A C, v = .slice A m C) ∧ (0 < m → ∃ g cap ys, v = .slice (some ⟨g, 0, none⟩) m cap ∧ s ≤ g ∧ ys.length = m ∧ Rw w g ys)
theorem OwnP.mono {s m : Nat} {v : Value} {w w' : World} (h : OwnP s m v w) (hb : Below w.heap.size w w') : OwnP s m v w' := ⟨h.1, fun hm => by
  obtain ⟨g, cap, ys, e, h1, h2, h3⟩ := h.2 hm
  exact ⟨g, cap, ys, e, h1, h2, h3.below hb⟩⟩
section
variable {Q : Exit → Act → World → Prop} {o : Oper} {a : Act} {w : World}
end
end Go.Proofs.YtfmeeimhfdnjpaaDoor
namespace Go.Proofs.YtfmeeimhfdnjpaaDoor
set_option maxRecDepth 100000
open Go.RowKit
theorem run_append_owned_empty {P : Program} {w : World} (base : Nat) (t ty e : TypeId) (i : TypeInfo) (size : Nat) (ht : P.underlying t = some (.slice e)) (hi : P.info? e = some i)
    (v : Value) (n : Nat) (xs : List Value) (hown : w.ownsRow base e size v n xs) (C : Nat) :
    (Builtin.append_ #[t, t] ty #[v, .slice none 0 C]).run P w = .ok v w := by
  rcases hown.2 with ⟨rfl, rfl⟩ | ⟨g, cap, cur, rfl, _, _, hnc, _⟩
  · simp [Builtin.append_, run_underlying ht, sizeOf, typeInfo, hi, Builtin.lenOf, Builtin.firstCells]
  · simp [Builtin.append_, run_underlying ht, sizeOf, typeInfo, hi, Builtin.lenOf, Builtin.firstCells, hnc, storeCells]
theorem wl_appendN {Q : Exit → Act → World → Prop} {o : Oper} {a : Act} {w : World} {ops : Array Oper} {rest : List Oper} (hgd : o.guard = none) (s x : Operand) (ho : o.op = .call { callee := .builtin .append, args := #[s, x], argTypes := #[35, 35] }) (d : Nat) (hd : o.dst = some d) (hsz : d < a.tmps.size)
    {wL : World} {hs M : List (List (BitVec 8))} {A : Option Addr} {C : Nat} (hs1 : (Fk.ow wL.heap.size hs).f (a.eval s) w) (e : a.eval x = .slice A M.length C) (hx : (Fk.hc M).f (.slice A M.length C) w) (hL : Below wL.heap.size wL w) (hN : hs.length + M.length ≤ 1000)
    (h : ∀ a2 w2, a2.defers = a.defers → a2.tmps.size = a.tmps.size → (∀ t, (t == d) = false → a2.eval (.tmp t) = a.eval (.tmp t)) → (Fk.ow wL.heap.size (hs ++ M)).f (a2.eval (.tmp d)) w2 → Below wL.heap.size wL w2 → wpList Tryd.prog ops Q rest a2 w2) : wpList Tryd.prog ops Q (o :: rest) a w := by
  cases A with
  | some ad => exact wl_appendM hgd s x ho d hd hsz hs1 e hx (fun h => by cases h) hL hN h
  | none =>
    obtain ⟨i0, hi, hz0, hz1, hz2⟩ := info_parts Tryd.info33
    obtain ⟨hown, h32⟩ := hs1
    obtain ⟨A', C', lb, lo, e', hc, hl⟩ := hx
    cases e'
    have hM : M = [] := by
      cases M with
      | nil => rfl
      | cons p r => have := hl.ptr (by simp); cases this
    subst hM
    refine wpList_plain hgd fun K hK => ?_
    have hrun := run_append_owned_empty (P := Tryd.prog) (w := w) wL.heap.size 35 o.type 33 i0 32 Tryd.under35' hi (a.eval s) hs.length _ hown C
    unfold Oper.wp
    have e2 : a.eval x = .slice none 0 C := e
    simp [execOp, ho, resolve, invoke, builtin, e2, hrun, Result.andThen]
    refine hK _ _ (h _ _ (put_def _ _ _) (put_size _ _ _) (fun t ht => ?_) ?_ hL)
    · rw [hd]
      exact put_eval_other _ _ _ _ (fun e => by subst e; simp at ht)
    · rw [hd, put_eval_same _ _ _ hsz, List.append_nil]
      exact ⟨hown, h32⟩
/-- A new row of n elements, and room behind them. -/
def Fk.zr (base n : Nat) : Fk := .inr (.inl ⟨fun v w => ∃ g cap cur, v = .slice (some ⟨g, 0, none⟩) n cap ∧ base ≤ g ∧ w.heap[g]? = some (.cells cur 33 (0, 0)) ∧ n ≤ cap ∧ cap ≤ maxLen ∧ cur.size = cap * 32, by
  rintro v w w' ⟨g, cap, cur, e, hbg, hg, r⟩ hb
  exact ⟨g, cap, cur, e, hbg, by rw [hb.block g (Array.getElem?_eq_some_iff.1 hg).1]; exact hg, r⟩⟩)
section
variable {Q : Exit → Act → World → Prop} {o : Oper} {a : Act} {w : World}
theorem st_capn (x : Operand) (ho : o.op = .call { callee := .builtin .cap, args := #[x], argTypes := #[35] }) (hx : a.eval x = .slice none 0 0) : o.wp Tryd.prog a w (Ends a o.dst w (Fk.eq (.int .i64 0)).f) Q := by
  refine st_pure (v := .int .i64 0) ?_ rfl
  have h1 : ∀ ty, (Builtin.cap_ #[35] ty #[.slice none 0 0]).run Tryd.prog w = .ok (.int .i64 0) w := fun ty => by kernel_rfl
  unfold execOp
  simp [ho, resolve, invoke, builtin, hx, h1]
theorem st_cutn (x y : Operand) (ho : o.op = .slice 35 x none (some y) none) (hx : a.eval x = .slice none 0 0) (hy : a.eval y = .int .i64 0) : o.wp Tryd.prog a w (Ends a o.dst w (Fk.eq (.slice none 0 0)).f) Q :=
  st_pure (v := sliced none 0 0 0 32) (run_cutv (S := fun _ => True) ho hx 0 hy (Nat.le_refl _) w trivial) (by show sliced none 0 0 0 32 = .slice none 0 0; simp [sliced])
theorem st_grown (x y : Operand) (ho : o.op = .call { callee := .builtin .append, args := #[x, y], argTypes := #[35, 3] }) (hx : a.eval x = .slice none 0 0) {n : Nat} (hy : a.eval y = .int .i64 (n : Int)) (h1 : 1 ≤ n) (h2 : n ≤ 1000) (base : Nat) (hb : base ≤ w.heap.size) : o.wp Tryd.prog a w (Ends a o.dst w (Fk.zr base n).f) Q := by
  obtain ⟨i0, hi, hz0, hz1, hz2⟩ := info_parts Tryd.info33
  have hge := grownCap_ge w n 0 33
  have hm := grownCap_le_maxLen w n 0 33 (by unfold maxLen; omega)
  have hr := Go.Lib.run_append_nil_zeros (P := Tryd.prog) w 35 3 o.type 33 i0 (.agg (hz.map V).toArray) .i64 .i64 Tryd.under35' Tryd.under3 hi hz0 n (by omega) (by rw [hz1]; decide) (by omega) (by rw [hz2]; omega)
  obtain ⟨cs, hcs⟩ : ∃ cs, Builtin.zeroCells (Value.agg (hz.map V).toArray).cells n ++ Builtin.zeroCells (Value.agg (hz.map V).toArray).cells (grownCap w n 0 33 - n) = cs := ⟨_, rfl⟩
  have hsz : cs.size = grownCap w n 0 33 * 32 := by
    rw [← hcs, Array.size_append, Go.size_zeroCells, Go.size_zeroCells]
    have : (Value.cells (.agg (hz.map V).toArray)).size = 32 := by simp [Value.cells, hz_len]
    rw [this, ← Nat.add_mul]
    congr 1
    omega
  rw [hcs] at hr
  have hE : (execOp a.eval o).run Tryd.prog w = .ok (.value (.slice (some ⟨w.heap.size, 0, none⟩) n (grownCap w n 0 33))) (w.drew.alloc (.cells cs 33)) := by
    unfold execOp
    simp only [ho, resolve, invoke, builtin, Sem.run_bind, Sem.run_pure, Result.andThen_ok, List.map_toArray, List.map_cons, List.map_nil, hx, hy, hr]
  exact st_run hE (((Below.refl _ _).drew).alloc (Nat.le_refl _) _) ⟨w.heap.size, _, cs, rfl, hb, heap_alloc_new _ _, hge, hm, hsz⟩
theorem st_cutz (x y : Operand) (ho : o.op = .slice 35 x none (some y) none) {base n : Nat} (hx : (Fk.zr base n).f (a.eval x) w) (hy : a.eval y = .int .i64 0) : o.wp Tryd.prog a w (Ends a o.dst w (Fk.ow base []).f) Q := by
  obtain ⟨g, cap, cur, e, hb, hg, hn, hm, hs⟩ := hx
  refine st_pure (v := sliced (some ⟨g, 0, none⟩) 0 0 cap 32) (run_cutv (S := fun _ => True) ho e 0 hy (Nat.zero_le _) w trivial) ⟨⟨by simp, .inr ⟨g, cap, cur, ?_, hb, hg, Nat.zero_le _, hm, hs, by simp⟩⟩, fun i x hi => by simp at hi⟩
  unfold sliced
  by_cases h0 : cap = 0
  · simp [h0]
  · simp [h0, Addr.add]
theorem st_andg (x y : Operand) (ho : o.op = .binOp .and 3 x y 3) (m n : Nat) (hm : m ≤ 1000000) (hn : n ≤ 1000000) (hx : a.eval x = .int .i64 (m : Int)) (hy : a.eval y = .int .i64 (n : Int)) : o.wp Tryd.prog a w (Ends a o.dst w (Fk.eq (.int .i64 ((m &&& n : Nat) : Int))).f) Q := by
  refine st_bin .and 3 3 x y ho hx hy ?_
  have h2 : m % 2 ^ IntKind.i64.bits = m := Nat.mod_eq_of_lt (by show m < 18446744073709551616; omega)
  have h3 : n % 2 ^ IntKind.i64.bits = n := Nat.mod_eq_of_lt (by show n < 18446744073709551616; omega)
  have h4 : m &&& n ≤ m := Nat.and_le_left
  have h5 : IntKind.i64.wrap ((m &&& n : Nat) : Int) = ((m &&& n : Nat) : Int) := by rw [IntKind.wrap_i64]; omega
  simp [eqGuard, binOp, Op.intBits, h2, h3, h5]
end
/-- A list of two slices of hashes: one hash, and P. -/
def Fk.tw2 (h : List (BitVec 8)) (P : List (List (BitVec 8))) : Fk := .inr (.inl ⟨fun v w => ∃ gb A1 C1 A2 C2, v = .slice (some ⟨gb, 0, none⟩) 2 2 ∧ Ob w gb 35 [.slice A1 [h].length C1, .slice A2 P.length C2] ∧ (Fk.hc [h]).f (.slice A1 [h].length C1) w ∧ (Fk.hc P).f (.slice A2 P.length C2) w, by
  rintro v w w' ⟨gb, A1, C1, A2, C2, e, m, h1, h2⟩ hb
  exact ⟨gb, A1, C1, A2, C2, e, Ob.below m hb, Fk.mono _ _ _ _ h1 hb, Fk.mono _ _ _ _ h2 hb⟩⟩)
theorem Tryd.bldl (A1 A2 : Option Addr) (n1 c1 n2 c2 : Nat) (w : World) : (Instr.buildSlice 105 2 #[(0, .slice A1 n1 c1), (1, .slice A2 n2 c2)]).run Tryd.prog w = .ok (.slice (some ⟨w.heap.size, 0, none⟩) 2 2) (w.alloc (.cells #[.slice A1 n1 c1, .slice A2 n2 c2] 35)) := by kernel_rfl
theorem st_bldl {Q : Exit → Act → World → Prop} {o : Oper} {a : Act} {w : World} (x y : Operand) (ho : o.op = .buildSlice 105 2 #[(0, x), (1, y)]) {h : List (BitVec 8)} {P : List (List (BitVec 8))} (hx : (Fk.hc [h]).f (a.eval x) w) (hy : (Fk.hc P).f (a.eval y) w) : o.wp Tryd.prog a w (Ends a o.dst w (Fk.tw2 h P).f) Q := by
  obtain ⟨A1, C1, e1, _, h1⟩ := hc_val hx
  obtain ⟨A2, C2, e2, _, h2⟩ := hc_val hy
  have hb : Below w.heap.size w (w.alloc (.cells #[.slice A1 [h].length C1, .slice A2 P.length C2] 35)) := (Below.refl _ _).alloc (Nat.le_refl _) _
  refine st_run (v := .slice (some ⟨w.heap.size, 0, none⟩) 2 2) (w' := _) ?_ hb ⟨w.heap.size, A1, C1, A2, C2, rfl, heap_alloc_new _ _, Fk.mono _ _ _ _ h1 hb, Fk.mono _ _ _ _ h2 hb⟩
  have := Tryd.bldl A1 A2 [h].length C1 P.length C2 w
  unfold execOp
  rw [ho]
  simp only [List.map_toArray, List.map_cons, List.map_nil, e1, e2, this, Sem.run_bind, Result.andThen_ok, Sem.run_pure]
theorem Tryd.elem105l : Tryd.prog.elem 105 = 35 := by kernel_rfl
theorem Tryd.under105l : Tryd.prog.underlying 105 = some (.slice 35) := by kernel_rfl
theorem Tryd.size35l (w : World) : (sizeOf 35).run Tryd.prog w = .ok 1 w := by kernel_rfl
theorem st_idxl {Q : Exit → Act → World → Prop} {o : Oper} {a : Act} {w : World} (x y : Operand) (ho : o.op = .indexAddr 105 x y) {gb : Nat} (hx : a.eval x = .slice (some ⟨gb, 0, none⟩) 2 2) (k : Nat) (hk : k < 2) (hy : a.eval y = .int .i64 (k : Int)) : o.wp Tryd.prog a w (Ends a o.dst w (Fk.eq (.pointer (some ⟨gb, k, none⟩))).f) Q := by
  refine st_pure (v := .pointer (some ⟨gb, k, none⟩)) ?_ rfl
  have h1 := run_indexAt_slice (P := Tryd.prog) (w := w) 105 ⟨gb, 0, none⟩ 2 2 .i64 (k : Int) (by rw [Tryd.elem105l]; exact Tryd.under105l)
  rw [if_pos (by omega), Tryd.elem105l, Tryd.size35l] at h1
  simp only [Result.andThen_ok, Int.toNat_natCast, Nat.mul_one, Addr.add, Nat.zero_add] at h1
  unfold execOp
  rw [ho]
  simp [hx, hy, h1]
  exact fun h => h.symm
theorem st_lenl {Q : Exit → Act → World → Prop} {o : Oper} {a : Act} {w : World} (x : Operand) (ho : o.op = .call { callee := .builtin .len, args := #[x], argTypes := #[105] }) {A : Option Addr} {n C : Nat} (hx : a.eval x = .slice A n C) : o.wp Tryd.prog a w (Ends a o.dst w (Fk.eq (.int .i64 (n : Int))).f) Q :=
  st_pure (v := .int .i64 (n : Int)) (run_lenT (S := fun _ => True) Tryd.under105l Tryd.elem105l ho hx w trivial) rfl
/-- How many hashes the first k of both slices have; which. -/
def szz (p k : Nat) : Nat := if k = 0 then 0 else if k = 1 then 1 else 1 + p
def acz (h : List (BitVec 8)) (P : List (List (BitVec 8))) (k : Nat) : List (List (BitVec 8)) := if k = 0 then [] else if k = 1 then [h] else h :: P
theorem fk_grow {n : Nat} (h1 : 1 ≤ n) (h2 : n ≤ 1000) (w : World) :
    Calls Tryd.prog 65 #[.slice none 0 0, .int .i64 (n : Int)] w fun e w' => ∃ u, e = .returned u ∧ (Fk.ow w.heap.size []).f u w' ∧ Below w.heap.size w w' := by
  have hnil := hc_nil w
  go_enter Tryd.func65, Tryd.ntmps65
  refine code_both (fun f w1 => f.tmps.size = 27 ∧ f.defers = [] ∧ f.eval (.tmp 0) = .slice none 0 0 ∧ f.eval (.tmp 1) = .int .i64 (n : Int) ∧ Below w.heap.size w (w1)) ⟨rfl, rfl, rfl, rfl, Below.refl _ _⟩ ?_
  rintro f0 w0 ⟨sz, df, x0, x1, bl⟩
  have sd := And.intro sz df
  clear sz df
  have bl0 := bl
  refine wp_seq ?_
  refine wr_a [.eq (.slice none 0 0)] (by rw [sd.1]; kernel_rfl) ⟨fun hw ac u K => ?_, trivial⟩ ?_
  · exact st_assign (.const (.slice none 0 0)) rfl rfl
  intro f1 w1 A hb
  replace x0 := A.t x0 rfl
  replace x1 := A.t x1 rfl
  replace bl := bgo bl hb
  replace sd := A.sd sd
  clear A hb
  show Code.wp _ _ _ _ _
  refine wp_seq ?_
  refine wp_seq ?_
  refine wr_a [.eq (.int .i64 (n : Int)), .eq (.bool false)] (by rw [sd.1]; kernel_rfl) ⟨fun hw ac u K => ?_, fun hw ac u K => ?_, trivial⟩ ?_
  · exact st_move (.tmp 1) rfl (K.t x1 rfl)
  · exact st_lss 3 (.tmp 5) (.const (.int .i64 0)) rfl .i64 ((n : Int)) (0) (K.dep 0 5 rfl) rfl _ (by rw [eq_comm, decide_eq_false_iff_not]; omega)
  intro f2 w2 A hb
  replace x0 := A.t x0 rfl
  replace x1 := A.t x1 rfl
  have x6 := A.e 1 6 rfl rfl
  replace bl := bgo bl hb
  replace sd := A.sd sd
  clear A hb
  show Code.wp _ _ _ _ _
  refine wp_cond_false x6 ?_
  refine wp_skip ?_
  show Code.wp _ _ _ _ _
  refine wp_seq ?_
  refine wp_seq ?_
  refine wr_s [.eq (.int .i64 (n : Int)), .eq (.slice none 0 0), .eq (.int .i64 0), .eq (.slice none 0 0), .eq (.int .i64 0), .eq (.int .i64 0), .eq (.int .i64 (n : Int))] (by rw [sd.1]; kernel_rfl) ⟨fun hw ac u K => ?_, fun hw ac u K => ?_, fun hw ac u K => ?_, fun hw ac u K => ?_, fun hw ac u K => ?_, fun hw ac u K => ?_, fun hw ac u K => ?_, trivial⟩ ?_
  · exact st_move (.tmp 1) rfl (K.t x1 rfl)
  · exact st_move (.tmp 0) rfl (K.t x0 rfl)
  · exact st_capn (.tmp 9) rfl (K.dep 1 9 rfl)
  · exact st_move (.tmp 0) rfl (K.t x0 rfl)
  · exact st_lenc (.tmp 11) rfl 0 rfl (fk_val (K.dep 3 11 rfl) (Fk.mono _ _ _ _ hnil (bgo bl K.grow)))
  · exact st_subz (.tmp 10) (.tmp 12) rfl (0) (0) (0) (K.dep 2 10 rfl) (K.dep 4 12 rfl) (by omega) (by omega) (by omega)
  · exact st_subz (.tmp 8) (.tmp 13) rfl ((n : Int)) (0) ((n : Int)) (K.dep 0 8 rfl) (K.dep 5 13 rfl) (by omega) (by omega) (by omega)
  intro f3 w3 A hb
  replace x0 := A.t x0 rfl
  replace x1 := A.t x1 rfl
  replace x6 := A.t x6 rfl
  have x14 := A.e 6 14 rfl rfl
  replace bl := bgo bl hb
  replace sd := A.sd sd
  clear A hb
  clear x6
  refine wl_one (.eq (.int .i64 (n : Int))) rfl 1 rfl (by rw [sd.1]; decide) (st_assign (.tmp 14) rfl x14) ?_
  intro f4 w4 df2 sz2 old2 new2 hb
  replace x0 := tr old2 x0 rfl
  clear x1
  replace x14 := tr old2 x14 rfl
  have x1 := Fk.e new2
  replace bl := bgo bl hb
  replace sd := sd2 sz2 df2 sd
  clear df2 sz2 old2 new2 hb
  refine wpList_nil ?_
  clear x14
  show Code.wp _ _ _ _ _
  refine wp_seq ?_
  refine wr_a [.eq (.int .i64 (n : Int)), .eq (.bool true)] (by rw [sd.1]; kernel_rfl) ⟨fun hw ac u K => ?_, fun hw ac u K => ?_, trivial⟩ ?_
  · exact st_move (.tmp 1) rfl (K.t x1 rfl)
  · exact st_gtr 3 (.tmp 15) (.const (.int .i64 0)) rfl .i64 ((n : Int)) (0) (K.dep 0 15 rfl) rfl _ (by rw [eq_comm, decide_eq_true_iff]; omega)
  intro f5 w5 A hb
  replace x0 := A.t x0 rfl
  replace x1 := A.t x1 rfl
  have x16 := A.e 1 16 rfl rfl
  replace bl := bgo bl hb
  replace sd := A.sd sd
  clear A hb
  show Code.wp _ _ _ _ _
  refine wp_cond_true x16 ?_
  refine wr_s [.eq (.slice none 0 0), .eq (.slice none 0 0), .eq (.int .i64 0), .eq (.slice none 0 0), .eq (.int .i64 (n : Int)), .zr w.heap.size n, .eq (.slice none 0 0), .eq (.int .i64 0), .ow w.heap.size ([])] (by rw [sd.1]; kernel_rfl) ⟨fun hw ac u K => ?_, fun hw ac u K => ?_, fun hw ac u K => ?_, fun hw ac u K => ?_, fun hw ac u K => ?_, fun hw ac u K => ?_, fun hw ac u K => ?_, fun hw ac u K => ?_, fun hw ac u K => ?_, trivial⟩ ?_
  · exact st_move (.tmp 0) rfl (K.t x0 rfl)
  · exact st_move (.tmp 0) rfl (K.t x0 rfl)
  · exact st_capn (.tmp 18) rfl (K.dep 1 18 rfl)
  · exact st_cutn (.tmp 17) (.tmp 19) rfl (K.dep 0 17 rfl) (K.dep 2 19 rfl)
  · exact st_move (.tmp 1) rfl (K.t x1 rfl)
  · exact st_grown (.tmp 20) (.tmp 21) rfl (K.dep 3 20 rfl) (K.dep 4 21 rfl) h1 h2 _ (bgo bl K.grow).size
  · exact st_move (.tmp 0) rfl (K.t x0 rfl)
  · exact st_lenc (.tmp 23) rfl 0 rfl (fk_val (K.dep 6 23 rfl) (Fk.mono _ _ _ _ hnil (bgo bl K.grow)))
  · exact st_cutz (.tmp 22) (.tmp 24) rfl (K.dep 5 22 rfl) (K.dep 7 24 rfl)
  intro f6 w6 A hb
  replace x0 := A.t x0 rfl
  replace x1 := A.t x1 rfl
  replace x16 := A.t x16 rfl
  have x25 : Fk.f (.ow w.heap.size ([])) (f6.eval (.tmp 25)) w6 := A.has 8 25 rfl
  replace bl := bgo bl hb
  replace sd := A.sd sd
  clear A hb
  clear x1
  clear x16
  refine wl_one (.ow w.heap.size ([])) rfl 0 rfl (by rw [sd.1]; decide) (st_assign (.tmp 25) rfl x25) ?_
  intro f7 w7 df2 sz2 old2 new2 hb
  clear x0
  replace x25 := f_at (old2 25 rfl) (Fk.mono _ _ _ _ x25 hb)
  have x0 : Fk.f (.ow w.heap.size ([])) (f7.eval (.tmp 0)) w7 := new2
  replace bl := bgo bl hb
  replace sd := sd2 sz2 df2 sd
  clear df2 sz2 old2 new2 hb
  refine wpList_nil ?_
  clear x25
  show Code.wp _ _ _ _ _
  refine wp_seq ?_
  refine wr_a [.ow w.heap.size ([]), .ow w.heap.size ([])] (by rw [sd.1]; kernel_rfl) ⟨fun hw ac u K => ?_, fun hw ac u K => ?_, trivial⟩ ?_
  · exact st_move (.tmp 0) rfl (f_at (K.old 0 rfl) (Fk.mono _ _ _ _ x0 K.grow))
  · exact st_assign (.tmp 26) rfl (K.dep 0 26 rfl)
  intro f8 w8 A hb
  replace x0 := f_at (A.old 0 rfl) (Fk.mono _ _ _ _ x0 hb)
  have x4 : Fk.f (.ow w.heap.size ([])) (f8.eval (.tmp 4)) w8 := A.has 1 4 rfl
  replace bl := bgo bl hb
  replace sd := A.sd sd
  clear A hb
  clear x0
  show Code.wp _ _ _ _ _
  refine wp_ret ?_
  repeat (first | with_reducible refine then_ret ?_ | with_reducible refine block_ret ?_)
  exact bodyPost_ret (v := f8.eval (.tmp 4)) (ret_slot rfl f8 _ rfl _ _) sd.2 ⟨_, rfl, x4, bl⟩
theorem concat_in {h : List (BitVec 8)} {P : List (List (BitVec 8))} {gb C1 C2 : Nat} {A1 A2 : Option Addr} (hP : P.length ≤ 900) {w : World} (mb : Ob w gb 35 [.slice A1 [h].length C1, .slice A2 P.length C2]) (h1 : (Fk.hc [h]).f (.slice A1 [h].length C1) w) (h2 : (Fk.hc P).f (.slice A2 P.length C2) w) :
    Calls Tryd.prog 52 #[.slice (some ⟨gb, 0, none⟩) 2 2] w fun e w' => ∃ u, e = .returned u ∧ (Fk.hc (h :: P)).f u w' ∧ Below w.heap.size w w' := by
  go_enter Tryd.func52, Tryd.ntmps52
  refine code_both (fun f w1 => f.tmps.size = 36 ∧ f.defers = [] ∧ f.eval (.tmp 0) = .slice (some ⟨gb, 0, none⟩) 2 2 ∧ Below w.heap.size w (w1)) ⟨rfl, rfl, rfl, Below.refl _ _⟩ ?_
  rintro f0 w0 ⟨sz, df, x0, bl⟩
  have sd := And.intro sz df
  clear sz df
  have bl0 := bl
  refine wp_seq ?_
  refine wr_a [.eq (.slice none 0 0)] (by rw [sd.1]; kernel_rfl) ⟨fun hw ac u K => ?_, trivial⟩ ?_
  · exact st_assign (.const (.slice none 0 0)) rfl rfl
  intro f1 w1 A hb
  replace x0 := A.t x0 rfl
  replace bl := bgo bl hb
  replace sd := A.sd sd
  clear A hb
  show Code.wp _ _ _ _ _
  refine wp_seq ?_
  refine wr_a [.eq (.int .i64 0)] (by rw [sd.1]; kernel_rfl) ⟨fun hw ac u K => ?_, trivial⟩ ?_
  · exact st_assign (.const (.int .i64 0)) rfl rfl
  intro f2 w2 A hb
  replace x0 := A.t x0 rfl
  have x3 := A.e 0 3 rfl rfl
  replace bl := bgo bl hb
  replace sd := A.sd sd
  clear A hb
  show Code.wp _ _ _ _ _
  refine wp_seq ?_
  refine wp_seq ?_
  refine wr_a [.eq (.slice (some ⟨gb, 0, none⟩) 2 2), .eq (.int .i64 ((2 : Nat) : Int)), .eq (.int .i64 0)] (by rw [sd.1]; kernel_rfl) ⟨fun hw ac u K => ?_, fun hw ac u K => ?_, fun hw ac u K => ?_, trivial⟩ ?_
  · exact st_move (.tmp 0) rfl (K.t x0 rfl)
  · exact st_lenl (.tmp 9) rfl (K.dep 0 9 rfl)
  · exact st_move (.const (.int .i64 0)) rfl rfl
  intro f3 w3 A hb
  replace x0 := A.t x0 rfl
  replace x3 := A.t x3 rfl
  have x9 := A.e 0 9 rfl rfl
  have x10 := A.e 1 10 rfl rfl
  have x11 := A.e 2 11 rfl rfl
  replace bl := bgo bl hb
  replace sd := A.sd sd
  clear A hb
  show Code.wp _ _ _ _ _
  refine wp_block ?_
  refine wp_loop (fun f v1 => ∃ k : Nat, k ≤ 2 ∧ f.tmps.size = 36 ∧ f.defers = [] ∧ f.eval (.tmp 0) = .slice (some ⟨gb, 0, none⟩) 2 2 ∧ f.eval (.tmp 9) = .slice (some ⟨gb, 0, none⟩) 2 2 ∧ f.eval (.tmp 10) = .int .i64 ((2 : Nat) : Int) ∧ f.eval (.tmp 11) = .int .i64 (k : Int) ∧ f.eval (.tmp 3) = .int .i64 ((szz P.length k : Nat) : Int) ∧ Below w.heap.size w (v1)) (fun f _ => 2 - (intOf (f.eval (.tmp 11))).toNat) ⟨0, Nat.zero_le _, sd.1, sd.2, x0, x9, x10, x11, x3, bl⟩ ?_
  intro f4 w4 hI
  clear sd bl bl0 x0 x3 x9 x10 x11
  obtain ⟨k, hk8, sz, df, x0, x9, x10, x11, x3, bl⟩ := hI
  have sd := And.intro sz df
  clear sz df
  have bl0 := bl
  have hcnt := x11
  refine wp_seq ?_
  rcases (show k = 0 ∨ k = 1 ∨ k = 2 by omega) with rfl | rfl | rfl
  · skip
    refine wr_a [.eq (.bool true)] (by rw [sd.1]; kernel_rfl) ⟨fun hw ac u K => ?_, trivial⟩ ?_
    · exact st_lss 3 (.tmp 11) (.tmp 10) rfl .i64 (((0 : Nat) : Int)) (((2 : Nat) : Int)) (K.t x11 rfl) (K.t x10 rfl) _ (by decide)
    intro f5 w5 A hb
    replace x0 := A.t x0 rfl
    replace x3 := A.t x3 rfl
    replace x9 := A.t x9 rfl
    replace x10 := A.t x10 rfl
    replace x11 := A.t x11 rfl
    have x12 := A.e 0 12 rfl rfl
    replace bl := bgo bl hb
    replace sd := A.sd sd
    clear A hb
    show Code.wp _ _ _ _ _
    refine wp_seq ?_
    refine wp_cond_true x12 ?_
    refine wp_skip ?_
    show Code.wp _ _ _ _ _
    refine wp_seq ?_
    refine wp_block ?_
    refine wp_seq ?_
    refine wr_a [.eq (.pointer (some ⟨gb, 0, none⟩)), .eq (.slice A1 [h].length C1), .eq (.slice A1 [h].length C1)] (by rw [sd.1]; kernel_rfl) ⟨fun hw ac u K => ?_, fun hw ac u K => ?_, fun hw ac u K => ?_, trivial⟩ ?_
    · exact st_idxl (.tmp 9) (.tmp 11) rfl (K.t x9 rfl) 0 (by decide) (K.t x11 rfl)
    · exact st_loadc 35 (.tmp 13) rfl (by kernel_rfl) (K.dep 0 13 rfl) (Ob.cell (Ob.below mb (bgo bl K.grow)) 0 rfl)
    · exact st_assign (.tmp 14) rfl (K.dep 1 14 rfl)
    intro f6 w6 A hb
    replace x0 := A.t x0 rfl
    replace x3 := A.t x3 rfl
    replace x9 := A.t x9 rfl
    replace x10 := A.t x10 rfl
    replace x11 := A.t x11 rfl
    replace x12 := A.t x12 rfl
    have x5 := A.e 2 5 rfl rfl
    replace bl := bgo bl hb
    replace sd := A.sd sd
    clear A hb
    clear x12
    show Code.wp _ _ _ _ _
    refine wp_seq ?_
    refine wr_s [.eq (.int .i64 ((szz P.length 0 : Nat) : Int)), .eq (.slice A1 [h].length C1), .eq (.int .i64 ((([h]).length : Nat) : Int)), .eq (.int .i64 ((szz P.length 1 : Nat) : Int))] (by rw [sd.1]; kernel_rfl) ⟨fun hw ac u K => ?_, fun hw ac u K => ?_, fun hw ac u K => ?_, fun hw ac u K => ?_, trivial⟩ ?_
    · exact st_move (.tmp 3) rfl (K.t x3 rfl)
    · exact st_move (.tmp 5) rfl (K.t x5 rfl)
    · exact st_lenc (.tmp 16) rfl (([h]).length) rfl (fk_val (K.dep 1 16 rfl) (Fk.mono _ _ _ _ h1 (bgo bl K.grow)))
    · exact st_addz (.tmp 15) (.tmp 17) rfl _ _ _ (K.dep 0 15 rfl) (K.dep 2 17 rfl) (by simp [szz]) (by simp [szz]; try omega) (by simp [szz]; try omega)
    intro f7 w7 A hb
    replace x0 := A.t x0 rfl
    replace x3 := A.t x3 rfl
    replace x9 := A.t x9 rfl
    replace x10 := A.t x10 rfl
    replace x11 := A.t x11 rfl
    replace x5 := A.t x5 rfl
    have x18 := A.e 3 18 rfl rfl
    replace bl := bgo bl hb
    replace sd := A.sd sd
    clear A hb
    clear x5
    refine wl_one (.eq (.int .i64 ((szz P.length 1 : Nat) : Int))) rfl 3 rfl (by rw [sd.1]; decide) (st_assign (.tmp 18) rfl x18) ?_
    intro f8 w8 df2 sz2 old2 new2 hb
    replace x0 := tr old2 x0 rfl
    clear x3
    replace x9 := tr old2 x9 rfl
    replace x10 := tr old2 x10 rfl
    replace x11 := tr old2 x11 rfl
    replace x18 := tr old2 x18 rfl
    have x3 := Fk.e new2
    replace bl := bgo bl hb
    replace sd := sd2 sz2 df2 sd
    clear df2 sz2 old2 new2 hb
    refine wpList_nil ?_
    clear x18
    show Code.wp _ _ _ _ _
    refine wp_seq ?_
    refine wr_a [.eq (.int .i64 ((szz P.length 1 : Nat) : Int)), .eq (.bool false)] (by rw [sd.1]; kernel_rfl) ⟨fun hw ac u K => ?_, fun hw ac u K => ?_, trivial⟩ ?_
    · exact st_move (.tmp 3) rfl (K.t x3 rfl)
    · exact st_lss 3 (.tmp 19) (.const (.int .i64 0)) rfl .i64 (((szz P.length 1 : Nat) : Int)) (0) (K.dep 0 19 rfl) rfl _ (by symm; rw [decide_eq_false_iff_not]; omega)
    intro f9 w9 A hb
    replace x0 := A.t x0 rfl
    replace x9 := A.t x9 rfl
    replace x10 := A.t x10 rfl
    replace x11 := A.t x11 rfl
    replace x3 := A.t x3 rfl
    have x20 := A.e 1 20 rfl rfl
    replace bl := bgo bl hb
    replace sd := A.sd sd
    clear A hb
    show Code.wp _ _ _ _ _
    refine wp_cond_false x20 ?_
    refine wp_skip ?_
    show Code.wp _ _ _ _ _
    refine wr_s [.eq (.int .i64 ((1 : Nat) : Int))] (by rw [sd.1]; kernel_rfl) ⟨fun hw ac u K => ?_, trivial⟩ ?_
    · exact st_addz (.tmp 11) (.const (.int .i64 1)) rfl _ 1 _ (K.t x11 rfl) rfl (by decide) (by decide) (by decide)
    intro f10 w10 A hb
    replace x0 := A.t x0 rfl
    replace x9 := A.t x9 rfl
    replace x10 := A.t x10 rfl
    replace x11 := A.t x11 rfl
    replace x3 := A.t x3 rfl
    replace x20 := A.t x20 rfl
    have x22 := A.e 0 22 rfl rfl
    replace bl := bgo bl hb
    replace sd := A.sd sd
    clear A hb
    clear x20
    refine wl_one (.eq (.int .i64 ((1 : Nat) : Int))) rfl 11 rfl (by rw [sd.1]; decide) (st_move (.tmp 22) rfl x22) ?_
    intro f11 w11 df2 sz2 old2 new2 hb
    replace x0 := tr old2 x0 rfl
    replace x9 := tr old2 x9 rfl
    replace x10 := tr old2 x10 rfl
    clear x11
    replace x3 := tr old2 x3 rfl
    replace x22 := tr old2 x22 rfl
    have x11 := Fk.e new2
    replace bl := bgo bl hb
    replace sd := sd2 sz2 df2 sd
    clear df2 sz2 old2 new2 hb
    refine wpList_nil ?_
    clear x22
    show (∃ _, _) ∧ _
    refine ⟨⟨1, by decide, sd.1, sd.2, x0, x9, x10, x11, x3, bl⟩, ?_⟩
    rw [show f11.eval (.tmp 11) = _ from x11, show _ = _ from hcnt]
    first | (simp [intOf]; done) | (simp [intOf]; omega)
  · skip
    refine wr_a [.eq (.bool true)] (by rw [sd.1]; kernel_rfl) ⟨fun hw ac u K => ?_, trivial⟩ ?_
    · exact st_lss 3 (.tmp 11) (.tmp 10) rfl .i64 (((1 : Nat) : Int)) (((2 : Nat) : Int)) (K.t x11 rfl) (K.t x10 rfl) _ (by decide)
    intro f5 w5 A hb
    replace x0 := A.t x0 rfl
    replace x3 := A.t x3 rfl
    replace x9 := A.t x9 rfl
    replace x10 := A.t x10 rfl
    replace x11 := A.t x11 rfl
    have x12 := A.e 0 12 rfl rfl
    replace bl := bgo bl hb
    replace sd := A.sd sd
    clear A hb
    show Code.wp _ _ _ _ _
    refine wp_seq ?_
    refine wp_cond_true x12 ?_
    refine wp_skip ?_
    show Code.wp _ _ _ _ _
    refine wp_seq ?_
    refine wp_block ?_
    refine wp_seq ?_
    refine wr_a [.eq (.pointer (some ⟨gb, 1, none⟩)), .eq (.slice A2 P.length C2), .eq (.slice A2 P.length C2)] (by rw [sd.1]; kernel_rfl) ⟨fun hw ac u K => ?_, fun hw ac u K => ?_, fun hw ac u K => ?_, trivial⟩ ?_
    · exact st_idxl (.tmp 9) (.tmp 11) rfl (K.t x9 rfl) 1 (by decide) (K.t x11 rfl)
    · exact st_loadc 35 (.tmp 13) rfl (by kernel_rfl) (K.dep 0 13 rfl) (Ob.cell (Ob.below mb (bgo bl K.grow)) 1 rfl)
    · exact st_assign (.tmp 14) rfl (K.dep 1 14 rfl)
    intro f6 w6 A hb
    replace x0 := A.t x0 rfl
    replace x3 := A.t x3 rfl
    replace x9 := A.t x9 rfl
    replace x10 := A.t x10 rfl
    replace x11 := A.t x11 rfl
    replace x12 := A.t x12 rfl
    have x5 := A.e 2 5 rfl rfl
    replace bl := bgo bl hb
    replace sd := A.sd sd
    clear A hb
    clear x12
    show Code.wp _ _ _ _ _
    refine wp_seq ?_
    refine wr_s [.eq (.int .i64 ((szz P.length 1 : Nat) : Int)), .eq (.slice A2 P.length C2), .eq (.int .i64 (((P).length : Nat) : Int)), .eq (.int .i64 ((szz P.length 2 : Nat) : Int))] (by rw [sd.1]; kernel_rfl) ⟨fun hw ac u K => ?_, fun hw ac u K => ?_, fun hw ac u K => ?_, fun hw ac u K => ?_, trivial⟩ ?_
    · exact st_move (.tmp 3) rfl (K.t x3 rfl)
    · exact st_move (.tmp 5) rfl (K.t x5 rfl)
    · exact st_lenc (.tmp 16) rfl ((P).length) rfl (fk_val (K.dep 1 16 rfl) (Fk.mono _ _ _ _ h2 (bgo bl K.grow)))
    · exact st_addz (.tmp 15) (.tmp 17) rfl _ _ _ (K.dep 0 15 rfl) (K.dep 2 17 rfl) (by simp [szz]) (by simp [szz]; try omega) (by simp [szz]; try omega)
    intro f7 w7 A hb
    replace x0 := A.t x0 rfl
    replace x3 := A.t x3 rfl
    replace x9 := A.t x9 rfl
    replace x10 := A.t x10 rfl
    replace x11 := A.t x11 rfl
    replace x5 := A.t x5 rfl
    have x18 := A.e 3 18 rfl rfl
    replace bl := bgo bl hb
    replace sd := A.sd sd
    clear A hb
    clear x5
    refine wl_one (.eq (.int .i64 ((szz P.length 2 : Nat) : Int))) rfl 3 rfl (by rw [sd.1]; decide) (st_assign (.tmp 18) rfl x18) ?_
    intro f8 w8 df2 sz2 old2 new2 hb
    replace x0 := tr old2 x0 rfl
    clear x3
    replace x9 := tr old2 x9 rfl
    replace x10 := tr old2 x10 rfl
    replace x11 := tr old2 x11 rfl
    replace x18 := tr old2 x18 rfl
    have x3 := Fk.e new2
    replace bl := bgo bl hb
    replace sd := sd2 sz2 df2 sd
    clear df2 sz2 old2 new2 hb
    refine wpList_nil ?_
    clear x18
    show Code.wp _ _ _ _ _
    refine wp_seq ?_
    refine wr_a [.eq (.int .i64 ((szz P.length 2 : Nat) : Int)), .eq (.bool false)] (by rw [sd.1]; kernel_rfl) ⟨fun hw ac u K => ?_, fun hw ac u K => ?_, trivial⟩ ?_
    · exact st_move (.tmp 3) rfl (K.t x3 rfl)
    · exact st_lss 3 (.tmp 19) (.const (.int .i64 0)) rfl .i64 (((szz P.length 2 : Nat) : Int)) (0) (K.dep 0 19 rfl) rfl _ (by symm; rw [decide_eq_false_iff_not]; omega)
    intro f9 w9 A hb
    replace x0 := A.t x0 rfl
    replace x9 := A.t x9 rfl
    replace x10 := A.t x10 rfl
    replace x11 := A.t x11 rfl
    replace x3 := A.t x3 rfl
    have x20 := A.e 1 20 rfl rfl
    replace bl := bgo bl hb
    replace sd := A.sd sd
    clear A hb
    show Code.wp _ _ _ _ _
    refine wp_cond_false x20 ?_
    refine wp_skip ?_
    show Code.wp _ _ _ _ _
    refine wr_s [.eq (.int .i64 ((2 : Nat) : Int))] (by rw [sd.1]; kernel_rfl) ⟨fun hw ac u K => ?_, trivial⟩ ?_
    · exact st_addz (.tmp 11) (.const (.int .i64 1)) rfl _ 1 _ (K.t x11 rfl) rfl (by decide) (by decide) (by decide)
    intro f10 w10 A hb
    replace x0 := A.t x0 rfl
    replace x9 := A.t x9 rfl
    replace x10 := A.t x10 rfl
    replace x11 := A.t x11 rfl
    replace x3 := A.t x3 rfl
    replace x20 := A.t x20 rfl
    have x22 := A.e 0 22 rfl rfl
    replace bl := bgo bl hb
    replace sd := A.sd sd
    clear A hb
    clear x20
    refine wl_one (.eq (.int .i64 ((2 : Nat) : Int))) rfl 11 rfl (by rw [sd.1]; decide) (st_move (.tmp 22) rfl x22) ?_
    intro f11 w11 df2 sz2 old2 new2 hb
    replace x0 := tr old2 x0 rfl
    replace x9 := tr old2 x9 rfl
    replace x10 := tr old2 x10 rfl
    clear x11
    replace x3 := tr old2 x3 rfl
    replace x22 := tr old2 x22 rfl
    have x11 := Fk.e new2
    replace bl := bgo bl hb
    replace sd := sd2 sz2 df2 sd
    clear df2 sz2 old2 new2 hb
    refine wpList_nil ?_
    clear x22
    show (∃ _, _) ∧ _
    refine ⟨⟨2, by decide, sd.1, sd.2, x0, x9, x10, x11, x3, bl⟩, ?_⟩
    rw [show f11.eval (.tmp 11) = _ from x11, show _ = _ from hcnt]
    first | (simp [intOf]; done) | (simp [intOf]; omega)
  refine wr_a [.eq (.bool false)] (by rw [sd.1]; kernel_rfl) ⟨fun hw ac u K => ?_, trivial⟩ ?_
  · exact st_lss 3 (.tmp 11) (.tmp 10) rfl .i64 (((2 : Nat) : Int)) (((2 : Nat) : Int)) (K.t x11 rfl) (K.t x10 rfl) _ (by decide)
  intro f5 w5 A hb
  replace x0 := A.t x0 rfl
  replace x3 := A.t x3 rfl
  replace x9 := A.t x9 rfl
  replace x10 := A.t x10 rfl
  replace x11 := A.t x11 rfl
  have x12 := A.e 0 12 rfl rfl
  replace bl := bgo bl hb
  replace sd := A.sd sd
  clear A hb
  show Code.wp _ _ _ _ _
  refine wp_seq ?_
  refine wp_cond_false x12 ?_
  refine wp_exit ?_
  show Code.wp _ _ _ _ _
  refine wp_seq ?_
  refine wr_a [.eq (.int .i64 ((szz P.length 2 : Nat) : Int)), .ow w.heap.size ([]), .ow w.heap.size ([])] (by rw [sd.1]; kernel_rfl) ⟨fun hw ac u K => ?_, fun hw ac u K => ?_, fun hw ac u K => ?_, trivial⟩ ?_
  · exact st_move (.tmp 3) rfl (K.t x3 rfl)
  · exact st_call 65 (.func 65) _ _ _ rfl rfl (arg2 rfl (K.dep 0 23 rfl)) Tryd.enter65 (fk_ow (bgo bl K.grow).size (fk_grow (n := szz P.length 2) (by simp [szz]; try omega) (by simp [szz]; try omega) _))
  · exact st_assign (.tmp 24) rfl (K.dep 1 24 rfl)
  intro f6 w6 A hb
  replace x0 := A.t x0 rfl
  replace x3 := A.t x3 rfl
  replace x9 := A.t x9 rfl
  replace x10 := A.t x10 rfl
  replace x11 := A.t x11 rfl
  replace x12 := A.t x12 rfl
  have x6 : Fk.f (.ow w.heap.size ([])) (f6.eval (.tmp 6)) w6 := A.has 2 6 rfl
  replace bl := bgo bl hb
  replace sd := A.sd sd
  clear A hb
  clear x12
  show Code.wp _ _ _ _ _
  refine wp_seq ?_
  refine wp_seq ?_
  refine wr_a [.eq (.slice (some ⟨gb, 0, none⟩) 2 2), .eq (.int .i64 ((2 : Nat) : Int)), .eq (.int .i64 0)] (by rw [sd.1]; kernel_rfl) ⟨fun hw ac u K => ?_, fun hw ac u K => ?_, fun hw ac u K => ?_, trivial⟩ ?_
  · exact st_move (.tmp 0) rfl (K.t x0 rfl)
  · exact st_lenl (.tmp 25) rfl (K.dep 0 25 rfl)
  · exact st_move (.const (.int .i64 0)) rfl rfl
  intro f7 w7 A hb
  replace x0 := A.t x0 rfl
  replace x3 := A.t x3 rfl
  replace x9 := A.t x9 rfl
  replace x10 := A.t x10 rfl
  replace x11 := A.t x11 rfl
  replace x6 := f_at (A.old 6 rfl) (Fk.mono _ _ _ _ x6 hb)
  have x25 := A.e 0 25 rfl rfl
  have x26 := A.e 1 26 rfl rfl
  have x27 := A.e 2 27 rfl rfl
  replace bl := bgo bl hb
  replace sd := A.sd sd
  clear A hb
  show Code.wp _ _ _ _ _
  refine wp_block ?_
  refine wp_loop (fun f v1 => ∃ k : Nat, k ≤ 2 ∧ f.tmps.size = 36 ∧ f.defers = [] ∧ f.eval (.tmp 0) = .slice (some ⟨gb, 0, none⟩) 2 2 ∧ f.eval (.tmp 3) = .int .i64 ((szz P.length 2 : Nat) : Int) ∧ f.eval (.tmp 9) = .slice (some ⟨gb, 0, none⟩) 2 2 ∧ f.eval (.tmp 10) = .int .i64 ((2 : Nat) : Int) ∧ f.eval (.tmp 11) = .int .i64 ((2 : Nat) : Int) ∧ f.eval (.tmp 25) = .slice (some ⟨gb, 0, none⟩) 2 2 ∧ f.eval (.tmp 26) = .int .i64 ((2 : Nat) : Int) ∧ f.eval (.tmp 27) = .int .i64 (k : Int) ∧ Fk.f (.ow w.heap.size (acz h P k)) (f.eval (.tmp 6)) v1 ∧ Below w.heap.size w (v1)) (fun f _ => 2 - (intOf (f.eval (.tmp 27))).toNat) ⟨0, Nat.zero_le _, sd.1, sd.2, x0, x3, x9, x10, x11, x25, x26, x27, x6, bl⟩ ?_
  intro f8 w8 hI
  clear sd bl bl0 x0 x3 x9 x10 x11 x6 x25 x26 x27
  obtain ⟨k, hk8, sz, df, x0, x3, x9, x10, x11, x25, x26, x27, x6, bl⟩ := hI
  have sd := And.intro sz df
  clear sz df
  have bl0 := bl
  have hcnt := x27
  refine wp_seq ?_
  rcases (show k = 0 ∨ k = 1 ∨ k = 2 by omega) with rfl | rfl | rfl
  · skip
    refine wr_a [.eq (.bool true)] (by rw [sd.1]; kernel_rfl) ⟨fun hw ac u K => ?_, trivial⟩ ?_
    · exact st_lss 3 (.tmp 27) (.tmp 26) rfl .i64 (((0 : Nat) : Int)) (((2 : Nat) : Int)) (K.t x27 rfl) (K.t x26 rfl) _ (by decide)
    intro f9 w9 A hb
    replace x0 := A.t x0 rfl
    replace x3 := A.t x3 rfl
    replace x9 := A.t x9 rfl
    replace x10 := A.t x10 rfl
    replace x11 := A.t x11 rfl
    replace x6 := f_at (A.old 6 rfl) (Fk.mono _ _ _ _ x6 hb)
    replace x25 := A.t x25 rfl
    replace x26 := A.t x26 rfl
    replace x27 := A.t x27 rfl
    have x28 := A.e 0 28 rfl rfl
    replace bl := bgo bl hb
    replace sd := A.sd sd
    clear A hb
    show Code.wp _ _ _ _ _
    refine wp_seq ?_
    refine wp_cond_true x28 ?_
    refine wp_skip ?_
    show Code.wp _ _ _ _ _
    refine wp_seq ?_
    refine wp_block ?_
    refine wp_seq ?_
    refine wr_a [.eq (.pointer (some ⟨gb, 0, none⟩)), .eq (.slice A1 [h].length C1), .eq (.slice A1 [h].length C1)] (by rw [sd.1]; kernel_rfl) ⟨fun hw ac u K => ?_, fun hw ac u K => ?_, fun hw ac u K => ?_, trivial⟩ ?_
    · exact st_idxl (.tmp 25) (.tmp 27) rfl (K.t x25 rfl) 0 (by decide) (K.t x27 rfl)
    · exact st_loadc 35 (.tmp 29) rfl (by kernel_rfl) (K.dep 0 29 rfl) (Ob.cell (Ob.below mb (bgo bl K.grow)) 0 rfl)
    · exact st_assign (.tmp 30) rfl (K.dep 1 30 rfl)
    intro f10 w10 A hb
    replace x0 := A.t x0 rfl
    replace x3 := A.t x3 rfl
    replace x9 := A.t x9 rfl
    replace x10 := A.t x10 rfl
    replace x11 := A.t x11 rfl
    replace x6 := f_at (A.old 6 rfl) (Fk.mono _ _ _ _ x6 hb)
    replace x25 := A.t x25 rfl
    replace x26 := A.t x26 rfl
    replace x27 := A.t x27 rfl
    replace x28 := A.t x28 rfl
    have x8 := A.e 2 8 rfl rfl
    replace bl := bgo bl hb
    replace sd := A.sd sd
    clear A hb
    clear x28
    show Code.wp _ _ _ _ _
    refine wr_s [.ow w.heap.size (acz h P 0), .eq (.slice A1 [h].length C1)] (by rw [sd.1]; kernel_rfl) ⟨fun hw ac u K => ?_, fun hw ac u K => ?_, trivial⟩ ?_
    · exact st_move (.tmp 6) rfl (f_at (K.old 6 rfl) (Fk.mono _ _ _ _ x6 K.grow))
    · exact st_move (.tmp 8) rfl (K.t x8 rfl)
    intro f11 w11 A hb
    replace x0 := A.t x0 rfl
    replace x3 := A.t x3 rfl
    replace x9 := A.t x9 rfl
    replace x10 := A.t x10 rfl
    replace x11 := A.t x11 rfl
    replace x6 := f_at (A.old 6 rfl) (Fk.mono _ _ _ _ x6 hb)
    replace x25 := A.t x25 rfl
    replace x26 := A.t x26 rfl
    replace x27 := A.t x27 rfl
    replace x8 := A.t x8 rfl
    have x31 : Fk.f (.ow w.heap.size (acz h P 0)) (f11.eval (.tmp 31)) w11 := A.has 0 31 rfl
    have x32 := A.e 1 32 rfl rfl
    replace bl := bgo bl hb
    replace sd := A.sd sd
    clear A hb
    clear x8
    refine wl_appendN rfl (.tmp 31) (.tmp 32) rfl 33 rfl (by rw [sd.1]; decide) x31 x32 (Fk.mono _ _ _ _ h1 bl) bl (by simp [acz]; try omega) ?_
    intro f12 w12 df2 sz2 old2 new2 bl2
    clear x6
    clear x31
    replace x0 := tr old2 x0 rfl
    replace x3 := tr old2 x3 rfl
    replace x9 := tr old2 x9 rfl
    replace x10 := tr old2 x10 rfl
    replace x11 := tr old2 x11 rfl
    replace x25 := tr old2 x25 rfl
    replace x26 := tr old2 x26 rfl
    replace x27 := tr old2 x27 rfl
    replace x32 := tr old2 x32 rfl
    have x33 : Fk.f (.ow w.heap.size (acz h P 1)) (f12.eval (.tmp 33)) w12 := by rw [← (show acz h P 0 ++ [h] = acz h P 1 by simp [acz])]; exact new2
    replace bl := bl2
    replace bl0 := bl
    replace sd := sd2 sz2 df2 sd
    clear df2 sz2 old2 new2 bl2
    clear x32
    refine wl_one (.ow w.heap.size (acz h P 1)) rfl 6 rfl (by rw [sd.1]; decide) (st_assign (.tmp 33) rfl x33) ?_
    intro f13 w13 df2 sz2 old2 new2 hb
    replace x0 := tr old2 x0 rfl
    replace x3 := tr old2 x3 rfl
    replace x9 := tr old2 x9 rfl
    replace x10 := tr old2 x10 rfl
    replace x11 := tr old2 x11 rfl
    replace x25 := tr old2 x25 rfl
    replace x26 := tr old2 x26 rfl
    replace x27 := tr old2 x27 rfl
    replace x33 := f_at (old2 33 rfl) (Fk.mono _ _ _ _ x33 hb)
    have x6 : Fk.f (.ow w.heap.size (acz h P 1)) (f13.eval (.tmp 6)) w13 := new2
    replace bl := bgo bl hb
    replace sd := sd2 sz2 df2 sd
    clear df2 sz2 old2 new2 hb
    refine wpList_nil ?_
    clear x33
    show Code.wp _ _ _ _ _
    refine wr_s [.eq (.int .i64 ((1 : Nat) : Int))] (by rw [sd.1]; kernel_rfl) ⟨fun hw ac u K => ?_, trivial⟩ ?_
    · exact st_addz (.tmp 27) (.const (.int .i64 1)) rfl _ 1 _ (K.t x27 rfl) rfl (by decide) (by decide) (by decide)
    intro f14 w14 A hb
    replace x0 := A.t x0 rfl
    replace x3 := A.t x3 rfl
    replace x9 := A.t x9 rfl
    replace x10 := A.t x10 rfl
    replace x11 := A.t x11 rfl
    replace x25 := A.t x25 rfl
    replace x26 := A.t x26 rfl
    replace x27 := A.t x27 rfl
    replace x6 := f_at (A.old 6 rfl) (Fk.mono _ _ _ _ x6 hb)
    have x34 := A.e 0 34 rfl rfl
    replace bl := bgo bl hb
    replace sd := A.sd sd
    clear A hb
    refine wl_one (.eq (.int .i64 ((1 : Nat) : Int))) rfl 27 rfl (by rw [sd.1]; decide) (st_move (.tmp 34) rfl x34) ?_
    intro f15 w15 df2 sz2 old2 new2 hb
    replace x0 := tr old2 x0 rfl
    replace x3 := tr old2 x3 rfl
    replace x9 := tr old2 x9 rfl
    replace x10 := tr old2 x10 rfl
    replace x11 := tr old2 x11 rfl
    replace x25 := tr old2 x25 rfl
    replace x26 := tr old2 x26 rfl
    clear x27
    replace x6 := f_at (old2 6 rfl) (Fk.mono _ _ _ _ x6 hb)
    replace x34 := tr old2 x34 rfl
    have x27 := Fk.e new2
    replace bl := bgo bl hb
    replace sd := sd2 sz2 df2 sd
    clear df2 sz2 old2 new2 hb
    refine wpList_nil ?_
    clear x34
    show (∃ _, _) ∧ _
    refine ⟨⟨1, by decide, sd.1, sd.2, x0, x3, x9, x10, x11, x25, x26, x27, x6, bl⟩, ?_⟩
    rw [show f15.eval (.tmp 27) = _ from x27, show _ = _ from hcnt]
    first | (simp [intOf]; done) | (simp [intOf]; omega)
  · skip
    refine wr_a [.eq (.bool true)] (by rw [sd.1]; kernel_rfl) ⟨fun hw ac u K => ?_, trivial⟩ ?_
    · exact st_lss 3 (.tmp 27) (.tmp 26) rfl .i64 (((1 : Nat) : Int)) (((2 : Nat) : Int)) (K.t x27 rfl) (K.t x26 rfl) _ (by decide)
    intro f9 w9 A hb
    replace x0 := A.t x0 rfl
    replace x3 := A.t x3 rfl
    replace x9 := A.t x9 rfl
    replace x10 := A.t x10 rfl
    replace x11 := A.t x11 rfl
    replace x6 := f_at (A.old 6 rfl) (Fk.mono _ _ _ _ x6 hb)
    replace x25 := A.t x25 rfl
    replace x26 := A.t x26 rfl
    replace x27 := A.t x27 rfl
    have x28 := A.e 0 28 rfl rfl
    replace bl := bgo bl hb
    replace sd := A.sd sd
    clear A hb
    show Code.wp _ _ _ _ _
    refine wp_seq ?_
    refine wp_cond_true x28 ?_
    refine wp_skip ?_
    show Code.wp _ _ _ _ _
    refine wp_seq ?_
    refine wp_block ?_
    refine wp_seq ?_
    refine wr_a [.eq (.pointer (some ⟨gb, 1, none⟩)), .eq (.slice A2 P.length C2), .eq (.slice A2 P.length C2)] (by rw [sd.1]; kernel_rfl) ⟨fun hw ac u K => ?_, fun hw ac u K => ?_, fun hw ac u K => ?_, trivial⟩ ?_
    · exact st_idxl (.tmp 25) (.tmp 27) rfl (K.t x25 rfl) 1 (by decide) (K.t x27 rfl)
    · exact st_loadc 35 (.tmp 29) rfl (by kernel_rfl) (K.dep 0 29 rfl) (Ob.cell (Ob.below mb (bgo bl K.grow)) 1 rfl)
    · exact st_assign (.tmp 30) rfl (K.dep 1 30 rfl)
    intro f10 w10 A hb
    replace x0 := A.t x0 rfl
    replace x3 := A.t x3 rfl
    replace x9 := A.t x9 rfl
    replace x10 := A.t x10 rfl
    replace x11 := A.t x11 rfl
    replace x6 := f_at (A.old 6 rfl) (Fk.mono _ _ _ _ x6 hb)
    replace x25 := A.t x25 rfl
    replace x26 := A.t x26 rfl
    replace x27 := A.t x27 rfl
    replace x28 := A.t x28 rfl
    have x8 := A.e 2 8 rfl rfl
    replace bl := bgo bl hb
    replace sd := A.sd sd
    clear A hb
    clear x28
    show Code.wp _ _ _ _ _
    refine wr_s [.ow w.heap.size (acz h P 1), .eq (.slice A2 P.length C2)] (by rw [sd.1]; kernel_rfl) ⟨fun hw ac u K => ?_, fun hw ac u K => ?_, trivial⟩ ?_
    · exact st_move (.tmp 6) rfl (f_at (K.old 6 rfl) (Fk.mono _ _ _ _ x6 K.grow))
    · exact st_move (.tmp 8) rfl (K.t x8 rfl)
    intro f11 w11 A hb
    replace x0 := A.t x0 rfl
    replace x3 := A.t x3 rfl
    replace x9 := A.t x9 rfl
    replace x10 := A.t x10 rfl
    replace x11 := A.t x11 rfl
    replace x6 := f_at (A.old 6 rfl) (Fk.mono _ _ _ _ x6 hb)
    replace x25 := A.t x25 rfl
    replace x26 := A.t x26 rfl
    replace x27 := A.t x27 rfl
    replace x8 := A.t x8 rfl
    have x31 : Fk.f (.ow w.heap.size (acz h P 1)) (f11.eval (.tmp 31)) w11 := A.has 0 31 rfl
    have x32 := A.e 1 32 rfl rfl
    replace bl := bgo bl hb
    replace sd := A.sd sd
    clear A hb
    clear x8
    refine wl_appendN rfl (.tmp 31) (.tmp 32) rfl 33 rfl (by rw [sd.1]; decide) x31 x32 (Fk.mono _ _ _ _ h2 bl) bl (by simp [acz]; try omega) ?_
    intro f12 w12 df2 sz2 old2 new2 bl2
    clear x6
    clear x31
    replace x0 := tr old2 x0 rfl
    replace x3 := tr old2 x3 rfl
    replace x9 := tr old2 x9 rfl
    replace x10 := tr old2 x10 rfl
    replace x11 := tr old2 x11 rfl
    replace x25 := tr old2 x25 rfl
    replace x26 := tr old2 x26 rfl
    replace x27 := tr old2 x27 rfl
    replace x32 := tr old2 x32 rfl
    have x33 : Fk.f (.ow w.heap.size (acz h P 2)) (f12.eval (.tmp 33)) w12 := by rw [← (show acz h P 1 ++ P = acz h P 2 by simp [acz])]; exact new2
    replace bl := bl2
    replace bl0 := bl
    replace sd := sd2 sz2 df2 sd
    clear df2 sz2 old2 new2 bl2
    clear x32
    refine wl_one (.ow w.heap.size (acz h P 2)) rfl 6 rfl (by rw [sd.1]; decide) (st_assign (.tmp 33) rfl x33) ?_
    intro f13 w13 df2 sz2 old2 new2 hb
    replace x0 := tr old2 x0 rfl
    replace x3 := tr old2 x3 rfl
    replace x9 := tr old2 x9 rfl
    replace x10 := tr old2 x10 rfl
    replace x11 := tr old2 x11 rfl
    replace x25 := tr old2 x25 rfl
    replace x26 := tr old2 x26 rfl
    replace x27 := tr old2 x27 rfl
    replace x33 := f_at (old2 33 rfl) (Fk.mono _ _ _ _ x33 hb)
    have x6 : Fk.f (.ow w.heap.size (acz h P 2)) (f13.eval (.tmp 6)) w13 := new2
    replace bl := bgo bl hb
    replace sd := sd2 sz2 df2 sd
    clear df2 sz2 old2 new2 hb
    refine wpList_nil ?_
    clear x33
    show Code.wp _ _ _ _ _
    refine wr_s [.eq (.int .i64 ((2 : Nat) : Int))] (by rw [sd.1]; kernel_rfl) ⟨fun hw ac u K => ?_, trivial⟩ ?_
    · exact st_addz (.tmp 27) (.const (.int .i64 1)) rfl _ 1 _ (K.t x27 rfl) rfl (by decide) (by decide) (by decide)
    intro f14 w14 A hb
    replace x0 := A.t x0 rfl
    replace x3 := A.t x3 rfl
    replace x9 := A.t x9 rfl
    replace x10 := A.t x10 rfl
    replace x11 := A.t x11 rfl
    replace x25 := A.t x25 rfl
    replace x26 := A.t x26 rfl
    replace x27 := A.t x27 rfl
    replace x6 := f_at (A.old 6 rfl) (Fk.mono _ _ _ _ x6 hb)
    have x34 := A.e 0 34 rfl rfl
    replace bl := bgo bl hb
    replace sd := A.sd sd
    clear A hb
    refine wl_one (.eq (.int .i64 ((2 : Nat) : Int))) rfl 27 rfl (by rw [sd.1]; decide) (st_move (.tmp 34) rfl x34) ?_
    intro f15 w15 df2 sz2 old2 new2 hb
    replace x0 := tr old2 x0 rfl
    replace x3 := tr old2 x3 rfl
    replace x9 := tr old2 x9 rfl
    replace x10 := tr old2 x10 rfl
    replace x11 := tr old2 x11 rfl
    replace x25 := tr old2 x25 rfl
    replace x26 := tr old2 x26 rfl
    clear x27
    replace x6 := f_at (old2 6 rfl) (Fk.mono _ _ _ _ x6 hb)
    replace x34 := tr old2 x34 rfl
    have x27 := Fk.e new2
    replace bl := bgo bl hb
    replace sd := sd2 sz2 df2 sd
    clear df2 sz2 old2 new2 hb
    refine wpList_nil ?_
    clear x34
    show (∃ _, _) ∧ _
    refine ⟨⟨2, by decide, sd.1, sd.2, x0, x3, x9, x10, x11, x25, x26, x27, x6, bl⟩, ?_⟩
    rw [show f15.eval (.tmp 27) = _ from x27, show _ = _ from hcnt]
    first | (simp [intOf]; done) | (simp [intOf]; omega)
  refine wr_a [.eq (.bool false)] (by rw [sd.1]; kernel_rfl) ⟨fun hw ac u K => ?_, trivial⟩ ?_
  · exact st_lss 3 (.tmp 27) (.tmp 26) rfl .i64 (((2 : Nat) : Int)) (((2 : Nat) : Int)) (K.t x27 rfl) (K.t x26 rfl) _ (by decide)
  intro f9 w9 A hb
  replace x0 := A.t x0 rfl
  replace x3 := A.t x3 rfl
  replace x9 := A.t x9 rfl
  replace x10 := A.t x10 rfl
  replace x11 := A.t x11 rfl
  replace x6 := f_at (A.old 6 rfl) (Fk.mono _ _ _ _ x6 hb)
  replace x25 := A.t x25 rfl
  replace x26 := A.t x26 rfl
  replace x27 := A.t x27 rfl
  have x28 := A.e 0 28 rfl rfl
  replace bl := bgo bl hb
  replace sd := A.sd sd
  clear A hb
  show Code.wp _ _ _ _ _
  refine wp_seq ?_
  refine wp_cond_false x28 ?_
  refine wp_exit ?_
  show Code.wp _ _ _ _ _
  refine wp_seq ?_
  refine wr_a [.ow w.heap.size (acz h P 2), .ow w.heap.size (acz h P 2)] (by rw [sd.1]; kernel_rfl) ⟨fun hw ac u K => ?_, fun hw ac u K => ?_, trivial⟩ ?_
  · exact st_move (.tmp 6) rfl (f_at (K.old 6 rfl) (Fk.mono _ _ _ _ x6 K.grow))
  · exact st_assign (.tmp 35) rfl (K.dep 0 35 rfl)
  intro f10 w10 A hb
  replace x0 := A.t x0 rfl
  replace x3 := A.t x3 rfl
  replace x9 := A.t x9 rfl
  replace x10 := A.t x10 rfl
  replace x11 := A.t x11 rfl
  replace x6 := f_at (A.old 6 rfl) (Fk.mono _ _ _ _ x6 hb)
  replace x25 := A.t x25 rfl
  replace x26 := A.t x26 rfl
  replace x27 := A.t x27 rfl
  replace x28 := A.t x28 rfl
  have x2 : Fk.f (.ow w.heap.size (acz h P 2)) (f10.eval (.tmp 2)) w10 := A.has 1 2 rfl
  replace bl := bgo bl hb
  replace sd := A.sd sd
  clear A hb
  clear x28
  show Code.wp _ _ _ _ _
  refine wp_ret ?_
  repeat (first | with_reducible refine then_ret ?_ | with_reducible refine block_ret ?_)
  exact bodyPost_ret (v := f10.eval (.tmp 2)) (ret_slot rfl f10 _ rfl _ _) sd.2 ⟨_, rfl, ow_hc x2, bl⟩
theorem fk_concat {h : List (BitVec 8)} {P : List (List (BitVec 8))} (hP : P.length ≤ 900) {w : World} {v : Value} (hv : (Fk.tw2 h P).f v w) :
    Calls Tryd.prog 52 #[v] w fun e w' => ∃ u, e = .returned u ∧ (Fk.hc (h :: P)).f u w' ∧ Below w.heap.size w w' := by
  obtain ⟨gb, A1, C1, A2, C2, rfl, m, h1, h2⟩ := hv
  exact concat_in hP m h1 h2
theorem with_same {m n : Nat} (_hm1 : 1 ≤ m) (_hmn : m ≤ n) (_hn : n ≤ 60) {old : List (BitVec 8)} (hold : old.length = 32) {P : List (List (BitVec 8))} (hP : P.length ≤ 900) {w : World} {v : Value} (hv : (Fk.hc P).f v w) (h : m = n) :
    Calls Tryd.prog 37 #[.int .i64 (m : Int), .int .i64 (n : Int), .agg ((old).map V).toArray, v] w fun e w' => ∃ u, e = .returned u ∧ (Fk.hc (old :: P)).f u w' ∧ Below w.heap.size w w' := by
  go_enter Tryd.func37, Tryd.ntmps37
  refine code_both (fun f w1 => f.tmps.size = 25 ∧ f.defers = [] ∧ f.eval (.tmp 0) = .int .i64 (m : Int) ∧ f.eval (.tmp 1) = .int .i64 (n : Int) ∧ f.eval (.tmp 2) = .agg ((old).map V).toArray ∧ f.eval (.tmp 3) = v ∧ Below w.heap.size w (w1)) ⟨rfl, rfl, rfl, rfl, rfl, rfl, Below.refl _ _⟩ ?_
  rintro f0 w0 ⟨sz, df, x0, x1, x2, x3, bl⟩
  have sd := And.intro sz df
  clear sz df
  have bl0 := bl
  refine wp_seq ?_
  refine wr_a [.nw w0.heap.size 33 ((old).map V), .eq (.slice none 0 0)] (by rw [sd.1]; kernel_rfl) ⟨fun hw ac u K => ?_, fun hw ac u K => ?_, trivial⟩ ?_
  · exact st_box 33 (.tmp 2) rfl _ _ (by rw [show _ = _ from (K.t x2 rfl)]; kernel_rfl) K.grow.size
  · exact st_assign (.const (.slice none 0 0)) rfl rfl
  intro f1 w1 A hb
  replace bl0 := bl
  replace x0 := A.t x0 rfl
  replace x1 := A.t x1 rfl
  replace x2 := A.t x2 rfl
  replace x3 := A.t x3 rfl
  have x6 : Fk.f (.nw w0.heap.size 33 ((old).map V)) (f1.eval (.tmp 6)) w1 := A.has 0 6 rfl
  replace bl := bgo bl hb
  replace sd := A.sd sd
  clear A hb
  clear x2
  obtain ⟨g6, hg6, e6, m6⟩ := x6
  have x6 := e6
  clear e6
  have hw6 : w.heap.size ≤ g6 := Nat.le_trans bl0.size hg6
  show Code.wp _ _ _ _ _
  refine wp_seq ?_
  refine wp_seq ?_
  refine wr_a [.eq (.int .i64 (m : Int)), .eq (.int .i64 (n : Int)), .eq (.bool true), .eq (.bool true), .any, .any, .any, .any, .any, .eq (.bool true)] (by rw [sd.1]; kernel_rfl) ⟨fun hw ac u K => ?_, fun hw ac u K => ?_, fun hw ac u K => ?_, fun hw ac u K => ?_, fun hw ac u K => ?_, fun hw ac u K => ?_, fun hw ac u K => ?_, fun hw ac u K => ?_, fun hw ac u K => ?_, fun hw ac u K => ?_, trivial⟩ ?_
  · exact st_move (.tmp 0) rfl (K.t x0 rfl)
  · exact st_move (.tmp 1) rfl (K.t x1 rfl)
  · exact st_eqi 3 (.tmp 9) (.tmp 10) rfl .i64 ((m : Int)) ((n : Int)) (K.dep 0 9 rfl) (K.dep 1 10 rfl) _ (by symm; rw [decide_eq_true_iff]; exact (by omega))
  · exact st_move (.tmp 11) rfl (K.dep 2 11 rfl)
  · exact (Bool.false_ne_true hw).elim
  · exact (Bool.false_ne_true hw).elim
  · exact (Bool.false_ne_true hw).elim
  · exact (Bool.false_ne_true hw).elim
  · exact (Bool.false_ne_true hw).elim
  · exact st_pick_t (.tmp 12) (.const (.bool true)) (.tmp 17) rfl (K.dep 3 12 rfl) rfl
  intro f2 w2 A hb
  replace x0 := A.t x0 rfl
  replace x1 := A.t x1 rfl
  replace x3 := A.t x3 rfl
  replace x6 := A.t x6 rfl
  have x18 := A.e 9 18 rfl rfl
  replace m6 := Ob.below m6 hb
  replace bl := bgo bl hb
  replace sd := A.sd sd
  clear A hb
  clear x0
  clear x1
  show Code.wp _ _ _ _ _
  refine wp_cond_true x18 ?_
  refine wp_seq ?_
  refine wr_a [.eq (.agg ((old).map V).toArray), .hc ([old]), .eq (v), .tw2 old P, .hc (old :: P), .hc (old :: P)] (by rw [sd.1]; kernel_rfl) ⟨fun hw ac u K => ?_, fun hw ac u K => ?_, fun hw ac u K => ?_, fun hw ac u K => ?_, fun hw ac u K => ?_, fun hw ac u K => ?_, trivial⟩ ?_
  · exact st_load33 (.tmp 6) rfl (g6) (old) (K.t x6 rfl) hold (Ob.below m6 K.grow)
  · exact st_bh1c (.tmp 19) rfl hold (K.dep 0 19 rfl)
  · exact st_move (.tmp 3) rfl (K.t x3 rfl)
  · exact st_bldl (.tmp 20) (.tmp 21) rfl (K.dep 1 20 rfl) (fk_val (K.dep 2 21 rfl) (Fk.mono _ _ _ _ hv (bgo bl K.grow)))
  · exact st_call 52 (.func 52) _ _ _ rfl rfl (one_arg rfl) Tryd.enter52 (fk_concat (by omega) (K.dep 3 22 rfl))
  · exact st_assign (.tmp 23) rfl (K.dep 4 23 rfl)
  intro f3 w3 A hb
  replace x3 := A.t x3 rfl
  replace x6 := A.t x6 rfl
  replace x18 := A.t x18 rfl
  have x8 : Fk.f (.hc (old :: P)) (f3.eval (.tmp 8)) w3 := A.has 5 8 rfl
  replace m6 := Ob.below m6 hb
  replace bl := bgo bl hb
  replace sd := A.sd sd
  clear A hb
  clear x3
  clear x6
  clear x18
  clear m6
  show Code.wp _ _ _ _ _
  refine wp_ret ?_
  repeat (first | with_reducible refine then_ret ?_ | with_reducible refine block_ret ?_)
  exact bodyPost_ret (v := f3.eval (.tmp 8)) (ret_slot rfl f3 _ rfl _ _) sd.2 ⟨_, rfl, x8, bl⟩
theorem with_pow {m n : Nat} (hm1 : 1 ≤ m) (hmn : m ≤ n) (hn : n ≤ 60) {old : List (BitVec 8)} (hold : old.length = 32) {P : List (List (BitVec 8))} (hP : P.length ≤ 900) {w : World} {v : Value} (hv : (Fk.hc P).f v w) (h : m ≠ n) (hp : m &&& (m - 1) = 0) :
    Calls Tryd.prog 37 #[.int .i64 (m : Int), .int .i64 (n : Int), .agg ((old).map V).toArray, v] w fun e w' => ∃ u, e = .returned u ∧ (Fk.hc (old :: P)).f u w' ∧ Below w.heap.size w w' := by
  go_enter Tryd.func37, Tryd.ntmps37
  refine code_both (fun f w1 => f.tmps.size = 25 ∧ f.defers = [] ∧ f.eval (.tmp 0) = .int .i64 (m : Int) ∧ f.eval (.tmp 1) = .int .i64 (n : Int) ∧ f.eval (.tmp 2) = .agg ((old).map V).toArray ∧ f.eval (.tmp 3) = v ∧ Below w.heap.size w (w1)) ⟨rfl, rfl, rfl, rfl, rfl, rfl, Below.refl _ _⟩ ?_
  rintro f0 w0 ⟨sz, df, x0, x1, x2, x3, bl⟩
  have sd := And.intro sz df
  clear sz df
  have bl0 := bl
  refine wp_seq ?_
  refine wr_a [.nw w0.heap.size 33 ((old).map V), .eq (.slice none 0 0)] (by rw [sd.1]; kernel_rfl) ⟨fun hw ac u K => ?_, fun hw ac u K => ?_, trivial⟩ ?_
  · exact st_box 33 (.tmp 2) rfl _ _ (by rw [show _ = _ from (K.t x2 rfl)]; kernel_rfl) K.grow.size
  · exact st_assign (.const (.slice none 0 0)) rfl rfl
  intro f1 w1 A hb
  replace bl0 := bl
  replace x0 := A.t x0 rfl
  replace x1 := A.t x1 rfl
  replace x2 := A.t x2 rfl
  replace x3 := A.t x3 rfl
  have x6 : Fk.f (.nw w0.heap.size 33 ((old).map V)) (f1.eval (.tmp 6)) w1 := A.has 0 6 rfl
  replace bl := bgo bl hb
  replace sd := A.sd sd
  clear A hb
  clear x2
  obtain ⟨g6, hg6, e6, m6⟩ := x6
  have x6 := e6
  clear e6
  have hw6 : w.heap.size ≤ g6 := Nat.le_trans bl0.size hg6
  show Code.wp _ _ _ _ _
  refine wp_seq ?_
  refine wp_seq ?_
  refine wr_a [.eq (.int .i64 (m : Int)), .eq (.int .i64 (n : Int)), .eq (.bool false), .eq (.bool false), .eq (.int .i64 (m : Int)), .eq (.int .i64 (m : Int)), .eq (.int .i64 ((m - 1 : Nat) : Int)), .eq (.int .i64 ((m &&& (m - 1) : Nat) : Int)), .eq (.bool true), .eq (.bool true)] (by rw [sd.1]; kernel_rfl) ⟨fun hw ac u K => ?_, fun hw ac u K => ?_, fun hw ac u K => ?_, fun hw ac u K => ?_, fun hw ac u K => ?_, fun hw ac u K => ?_, fun hw ac u K => ?_, fun hw ac u K => ?_, fun hw ac u K => ?_, fun hw ac u K => ?_, trivial⟩ ?_
  · exact st_move (.tmp 0) rfl (K.t x0 rfl)
  · exact st_move (.tmp 1) rfl (K.t x1 rfl)
  · exact st_eqi 3 (.tmp 9) (.tmp 10) rfl .i64 ((m : Int)) ((n : Int)) (K.dep 0 9 rfl) (K.dep 1 10 rfl) _ (by symm; rw [decide_eq_false_iff_not]; exact (by omega))
  · exact st_move (.tmp 11) rfl (K.dep 2 11 rfl)
  · exact st_move (.tmp 0) rfl (K.t x0 rfl)
  · exact st_move (.tmp 0) rfl (K.t x0 rfl)
  · exact st_subz (.tmp 14) (.const (.int .i64 1)) rfl _ 1 _ (K.dep 5 14 rfl) rfl (by omega) (by omega) (by omega)
  · exact st_andg (.tmp 13) (.tmp 15) rfl m (m - 1) (by omega) (by omega) (K.dep 4 13 rfl) (K.dep 6 15 rfl)
  · exact st_eqi 3 (.tmp 16) (.const (.int .i64 0)) rfl .i64 (((m &&& (m - 1) : Nat) : Int)) (0) (K.dep 7 16 rfl) rfl _ (by symm; rw [decide_eq_true_iff]; exact (by rw [hp]; rfl))
  · exact st_pick_f' (.tmp 12) (.const (.bool true)) (.tmp 17) rfl (K.dep 3 12 rfl) (K.dep 8 17 rfl)
  intro f2 w2 A hb
  replace x0 := A.t x0 rfl
  replace x1 := A.t x1 rfl
  replace x3 := A.t x3 rfl
  replace x6 := A.t x6 rfl
  have x18 := A.e 9 18 rfl rfl
  replace m6 := Ob.below m6 hb
  replace bl := bgo bl hb
  replace sd := A.sd sd
  clear A hb
  clear x0
  clear x1
  show Code.wp _ _ _ _ _
  refine wp_cond_true x18 ?_
  refine wp_seq ?_
  refine wr_a [.eq (.agg ((old).map V).toArray), .hc ([old]), .eq (v), .tw2 old P, .hc (old :: P), .hc (old :: P)] (by rw [sd.1]; kernel_rfl) ⟨fun hw ac u K => ?_, fun hw ac u K => ?_, fun hw ac u K => ?_, fun hw ac u K => ?_, fun hw ac u K => ?_, fun hw ac u K => ?_, trivial⟩ ?_
  · exact st_load33 (.tmp 6) rfl (g6) (old) (K.t x6 rfl) hold (Ob.below m6 K.grow)
  · exact st_bh1c (.tmp 19) rfl hold (K.dep 0 19 rfl)
  · exact st_move (.tmp 3) rfl (K.t x3 rfl)
  · exact st_bldl (.tmp 20) (.tmp 21) rfl (K.dep 1 20 rfl) (fk_val (K.dep 2 21 rfl) (Fk.mono _ _ _ _ hv (bgo bl K.grow)))
  · exact st_call 52 (.func 52) _ _ _ rfl rfl (one_arg rfl) Tryd.enter52 (fk_concat (by omega) (K.dep 3 22 rfl))
  · exact st_assign (.tmp 23) rfl (K.dep 4 23 rfl)
  intro f3 w3 A hb
  replace x3 := A.t x3 rfl
  replace x6 := A.t x6 rfl
  replace x18 := A.t x18 rfl
  have x8 : Fk.f (.hc (old :: P)) (f3.eval (.tmp 8)) w3 := A.has 5 8 rfl
  replace m6 := Ob.below m6 hb
  replace bl := bgo bl hb
  replace sd := A.sd sd
  clear A hb
  clear x3
  clear x6
  clear x18
  clear m6
  show Code.wp _ _ _ _ _
  refine wp_ret ?_
  repeat (first | with_reducible refine then_ret ?_ | with_reducible refine block_ret ?_)
  exact bodyPost_ret (v := f3.eval (.tmp 8)) (ret_slot rfl f3 _ rfl _ _) sd.2 ⟨_, rfl, x8, bl⟩
theorem with_other {m n : Nat} (hm1 : 1 ≤ m) (hmn : m ≤ n) (hn : n ≤ 60) {old : List (BitVec 8)} (_hold : old.length = 32) {P : List (List (BitVec 8))} (_hP : P.length ≤ 900) {w : World} {v : Value} (hv : (Fk.hc P).f v w) (h : m ≠ n) (hp : ¬ m &&& (m - 1) = 0) :
    Calls Tryd.prog 37 #[.int .i64 (m : Int), .int .i64 (n : Int), .agg ((old).map V).toArray, v] w fun e w' => ∃ u, e = .returned u ∧ (Fk.hc P).f u w' ∧ Below w.heap.size w w' := by
  go_enter Tryd.func37, Tryd.ntmps37
  refine code_both (fun f w1 => f.tmps.size = 25 ∧ f.defers = [] ∧ f.eval (.tmp 0) = .int .i64 (m : Int) ∧ f.eval (.tmp 1) = .int .i64 (n : Int) ∧ f.eval (.tmp 2) = .agg ((old).map V).toArray ∧ f.eval (.tmp 3) = v ∧ Below w.heap.size w (w1)) ⟨rfl, rfl, rfl, rfl, rfl, rfl, Below.refl _ _⟩ ?_
  rintro f0 w0 ⟨sz, df, x0, x1, x2, x3, bl⟩
  have sd := And.intro sz df
  clear sz df
  have bl0 := bl
  refine wp_seq ?_
  refine wr_a [.nw w0.heap.size 33 ((old).map V), .eq (.slice none 0 0)] (by rw [sd.1]; kernel_rfl) ⟨fun hw ac u K => ?_, fun hw ac u K => ?_, trivial⟩ ?_
  · exact st_box 33 (.tmp 2) rfl _ _ (by rw [show _ = _ from (K.t x2 rfl)]; kernel_rfl) K.grow.size
  · exact st_assign (.const (.slice none 0 0)) rfl rfl
  intro f1 w1 A hb
  replace bl0 := bl
  replace x0 := A.t x0 rfl
  replace x1 := A.t x1 rfl
  replace x2 := A.t x2 rfl
  replace x3 := A.t x3 rfl
  have x6 : Fk.f (.nw w0.heap.size 33 ((old).map V)) (f1.eval (.tmp 6)) w1 := A.has 0 6 rfl
  replace bl := bgo bl hb
  replace sd := A.sd sd
  clear A hb
  clear x2
  obtain ⟨g6, hg6, e6, m6⟩ := x6
  have x6 := e6
  clear e6
  have hw6 : w.heap.size ≤ g6 := Nat.le_trans bl0.size hg6
  show Code.wp _ _ _ _ _
  refine wp_seq ?_
  refine wp_seq ?_
  refine wr_a [.eq (.int .i64 (m : Int)), .eq (.int .i64 (n : Int)), .eq (.bool false), .eq (.bool false), .eq (.int .i64 (m : Int)), .eq (.int .i64 (m : Int)), .eq (.int .i64 ((m - 1 : Nat) : Int)), .eq (.int .i64 ((m &&& (m - 1) : Nat) : Int)), .eq (.bool false), .eq (.bool false)] (by rw [sd.1]; kernel_rfl) ⟨fun hw ac u K => ?_, fun hw ac u K => ?_, fun hw ac u K => ?_, fun hw ac u K => ?_, fun hw ac u K => ?_, fun hw ac u K => ?_, fun hw ac u K => ?_, fun hw ac u K => ?_, fun hw ac u K => ?_, fun hw ac u K => ?_, trivial⟩ ?_
  · exact st_move (.tmp 0) rfl (K.t x0 rfl)
  · exact st_move (.tmp 1) rfl (K.t x1 rfl)
  · exact st_eqi 3 (.tmp 9) (.tmp 10) rfl .i64 ((m : Int)) ((n : Int)) (K.dep 0 9 rfl) (K.dep 1 10 rfl) _ (by symm; rw [decide_eq_false_iff_not]; exact (by omega))
  · exact st_move (.tmp 11) rfl (K.dep 2 11 rfl)
  · exact st_move (.tmp 0) rfl (K.t x0 rfl)
  · exact st_move (.tmp 0) rfl (K.t x0 rfl)
  · exact st_subz (.tmp 14) (.const (.int .i64 1)) rfl _ 1 _ (K.dep 5 14 rfl) rfl (by omega) (by omega) (by omega)
  · exact st_andg (.tmp 13) (.tmp 15) rfl m (m - 1) (by omega) (by omega) (K.dep 4 13 rfl) (K.dep 6 15 rfl)
  · exact st_eqi 3 (.tmp 16) (.const (.int .i64 0)) rfl .i64 (((m &&& (m - 1) : Nat) : Int)) (0) (K.dep 7 16 rfl) rfl _ (by symm; rw [decide_eq_false_iff_not]; exact (fun h => hp (Int.ofNat.inj h)))
  · exact st_pick_f' (.tmp 12) (.const (.bool true)) (.tmp 17) rfl (K.dep 3 12 rfl) (K.dep 8 17 rfl)
  intro f2 w2 A hb
  replace x0 := A.t x0 rfl
  replace x1 := A.t x1 rfl
  replace x3 := A.t x3 rfl
  replace x6 := A.t x6 rfl
  have x18 := A.e 9 18 rfl rfl
  replace m6 := Ob.below m6 hb
  replace bl := bgo bl hb
  replace sd := A.sd sd
  clear A hb
  clear x0
  clear x1
  show Code.wp _ _ _ _ _
  refine wp_cond_false x18 ?_
  refine wp_skip ?_
  show Code.wp _ _ _ _ _
  refine wp_seq ?_
  refine wr_a [.eq (v), .eq (v)] (by rw [sd.1]; kernel_rfl) ⟨fun hw ac u K => ?_, fun hw ac u K => ?_, trivial⟩ ?_
  · exact st_move (.tmp 3) rfl (K.t x3 rfl)
  · exact st_assign (.tmp 24) rfl (K.dep 0 24 rfl)
  intro f3 w3 A hb
  replace x3 := A.t x3 rfl
  replace x6 := A.t x6 rfl
  replace x18 := A.t x18 rfl
  have x8 := A.e 1 8 rfl rfl
  replace m6 := Ob.below m6 hb
  replace bl := bgo bl hb
  replace sd := A.sd sd
  clear A hb
  clear x3
  clear x6
  clear x18
  clear m6
  show Code.wp _ _ _ _ _
  refine wp_ret ?_
  repeat (first | with_reducible refine then_ret ?_ | with_reducible refine block_ret ?_)
  exact bodyPost_ret (v := v) (ret_slot rfl f3 _ x8 _ _) sd.2 ⟨_, rfl, Fk.mono _ _ _ _ hv bl, bl⟩
theorem fk_with {m n : Nat} (hm1 : 1 ≤ m) (hmn : m ≤ n) (hn : n ≤ 60) {old : List (BitVec 8)} (hold : old.length = 32) {P : List (List (BitVec 8))} (hP : P.length ≤ 900) {w : World} {v : Value} (hv : (Fk.hc P).f v w) {Q : List (List (BitVec 8))} (hQ : Q = if (stp m n true).1 then P else old :: P) :
    Calls Tryd.prog 37 #[.int .i64 (m : Int), .int .i64 (n : Int), .agg ((old).map V).toArray, v] w fun e w' => ∃ u, e = .returned u ∧ (Fk.hc Q).f u w' ∧ Below w.heap.size w w' := by
  have h1 := stp_1 n m hm1 hmn hn
  by_cases h : m = n
  · rw [hQ, h1.2 (.inl h)]
    exact with_same hm1 hmn hn hold hP hv h
  · by_cases hp : m &&& (m - 1) = 0
    · rw [hQ, h1.2 (.inr hp)]
      exact with_pow hm1 hmn hn hold hP hv h hp
    · have h2 : (stp m n true).1 = true := by
        cases h3 : (stp m n true).1 with
        | true => rfl
        | false => rcases h1.1 h3 with h4 | h4; exact absurd h4 h; exact absurd h4 hp
      rw [hQ, h2]
      exact with_other hm1 hmn hn hold hP hv h hp
end Go.Proofs.YtfmeeimhfdnjpaaDoor
