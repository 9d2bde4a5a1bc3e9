/- Lists of calls of layer 11 that came in, opened. The laws' own functions over calls that came in: small. Own bytes written byte by byte; the law's full. Maps with numbers as keys that the call itself turns: what they hold, as a list; what becomes of it. The program's disk in memory. Drawn regions with a chain of calls that turn one object: what only looks is taken first. A drawn region in which a store does not wait for what is read beside it: looks at hashes and slices, and the store. Drawn regions with guards, a call that turns an object in their midst: operations one by one, each guard told. -/
import Derived.Test.YtjdpomilifnlaaaM2
import Derived.Test.YtjdpomilifnlaaaM1
import Derived.Maps.RangeRun
import Derived.Maps.Own
import Derived.Carry
import Derived.Deep.RegionHeld
namespace Go.Proofs.Ytjdpomilifnlaaa
set_option maxRecDepth 100000
set_option maxRecDepth 100000
open Go.ChangeShapes Go.WideShapes Go.ChangeAt Go.RowKit
/-- One call that came in. -/
structure Opn where
  k : Int
  s : Int
  n : Int
  bs : List (BitVec 8)
  ls : List Int
  ab : Option Addr
  nb : Nat
  cb : Nat
  al : Option Addr
  cl : Nat
def Opn.vb (o : Opn) : Value := .slice o.ab o.nb o.cb
def Opn.vl (o : Opn) : Value := .slice o.al o.ls.length o.cl
def Opn.cells (o : Opn) : List Value := [.int .i64 o.k, .int .i64 o.s, .int .i64 o.n, o.vb, o.vl]
def Opn.val (o : Opn) : Value := .agg o.cells.toArray
structure Opn.ok (W : World) (o : Opn) : Prop where
  b : (Fk.sl o.bs).f o.vb W
  l : (Fk.is o.ls).f o.vl W
  n : o.n ≤ 9223372036854775807
  w : ∀ z ∈ o.ls, (Lit.int .i64 z).wf = true
theorem Opn.ok.below {w w' : World} {o : Opn} (h : o.ok w) (hb : Below w.heap.size w w') : o.ok w' := ⟨Fk.mono _ _ _ _ h.b hb, Fk.mono _ _ _ _ h.l hb, h.n, h.w⟩
/-- A slice that holds these calls. -/
def Fk.ol (l : List Opn) : Fk := .inr (.inl ⟨fun v w => ∃ A C lb lo, v = .slice A l.length C ∧ (0 < l.length → A = some ⟨lb, lo, none⟩) ∧ ∀ (i : Nat) (o : Opn), l[i]? = some o → o.ok w ∧ ∀ (j : Nat) (u : Value), o.cells[j]? = some u → w.cell? ⟨lb, lo + i * 5 + j, none⟩ = some u, by
  rintro v w w' ⟨A, C, lb, lo, e, h1, h2⟩ hb
  exact ⟨A, C, lb, lo, e, h1, fun i o hi => ⟨(h2 i o hi).1.below hb, fun j u hj => by have := (h2 i o hi).2 j u hj; rw [hb.cell (block_lt_of_cell this)]; exact this⟩⟩⟩)
theorem list_ofA {α : Type} {P : Nat → α → Prop} (n : Nat) (h : ∀ k, k < n → ∃ p, P k p) : ∃ ps : List α, ps.length = n ∧ ∀ k p, ps[k]? = some p → P k p := by
  induction n with
  | zero => exact ⟨[], rfl, fun k p hk => by simp at hk⟩
  | succ n ih =>
    obtain ⟨ps, hl, hp⟩ := ih (fun k hk => h k (by omega))
    obtain ⟨q, hq⟩ := h n (by omega)
    refine ⟨ps ++ [q], by simp [hl], fun k p hk => ?_⟩
    rw [List.getElem?_append] at hk
    split at hk
    · exact hp k p hk
    · rename_i hge
      have hkn : k - ps.length = 0 := by
        by_cases h0 : k - ps.length = 0
        · exact h0
        · rw [List.getElem?_eq_none (by simp; omega)] at hk
          cases hk
      rw [hkn] at hk
      obtain rfl : q = p := by simpa using hk
      obtain rfl : k = n := by omega
      exact hq
variable {H : Type} {enc : TypeId × Value → H} {W : World}
theorem is_part {n : Nat} {cs : List Value} {y : DataW H × List MemPlace} (hf : DataW.trod enc Try.prog W 0 (fun _ => true) true n 30 cs = some y) : ∃ (xs : List Int) (A : Option Addr) (C : Nat), cs = [.slice A xs.length C] ∧ (Fk.is xs).f (.slice A xs.length C) W ∧ ∀ z ∈ xs, (Lit.int .i64 z).wf = true := by
  rcases open_ints Try.under30z Try.under3 (by kernel_rfl) hf with ⟨hcs, _⟩ | ⟨x, l, c, zs, hcs, _, hl, hm, hz, _, hcell, hwz⟩
  · exact ⟨[], none, 0, hcs, ⟨none, 0, 0, 0, rfl, fun h => absurd h (by simp), rfl, fun j v hj => by simp [zv] at hj⟩, fun z hz => by cases hz⟩
  · have hlen : zs.length = c := by simpa using hz
    have hN : (zs.take l).length = l := by rw [List.length_take]; omega
    refine ⟨zs.take l, some x, c, by rw [hcs, hN], ?_, fun z hz => hwz z (List.mem_of_mem_take hz)⟩
    by_cases h0 : l = 0
    · subst h0
      exact ⟨some x, c, 0, 0, rfl, fun h => absurd h (by simp), rfl, fun j v hj => by simp [zv] at hj⟩
    · have hspot : x.spot = none := by
        have := hcell 0 (by omega)
        simp only [Addr.add, if_true] at this
        unfold World.cell? at this
        split at this
        · split at this
          · cases this
          · rename_i h; simpa using h
        · cases this
      have hx : x = ⟨x.block, x.off, none⟩ := by rw [← hspot]
      have hadd : ∀ i, x.add i = ⟨x.block, x.off + i, none⟩ := fun i => by
        unfold Addr.add
        split
        · rename_i h; subst h; rw [Nat.add_zero]; exact hx
        · rfl
      refine ⟨some x, c, x.block, x.off, rfl, fun _ => by rw [← hx], by rw [zv_len, Nat.mul_one], fun j u hj => ?_⟩
      unfold zv at hj
      rw [List.getElem?_map, List.getElem?_take] at hj
      split at hj
      · rename_i hjN
        have hjl : j < zs.length := by omega
        rw [List.getElem?_eq_getElem hjl] at hj
        obtain rfl := Option.some.inj hj
        rw [← hadd, hcell j hjl]
        simp [hjl]
      · simp at hj
theorem cut_next (l : List Value) (i n : Nat) : l.drop i = (l.drop i).take n ++ l.drop (i + n) := by
  conv => lhs; rw [← List.take_append_drop n (l.drop i)]
  rw [List.drop_drop]
theorem cut_last (l : List Value) (i n : Nat) (h : l.length = i + n) : l.drop i = (l.drop i).take n := (List.take_of_length_le (by rw [List.length_drop]; omega)).symm
theorem cells32 : Try.prog.cellsOf 32 = 5 := by kernel_rfl
theorem cellsI : Try.prog.cellsOf 30 = 1 := by kernel_rfl
theorem fld32 : fldS Try.prog 32 = some [(3, 0), (3, 1), (3, 2), (29, 3), (30, 4)] := by kernel_rfl
theorem under22 : Try.prog.underlying 22 = some (.slice 32) := by kernel_rfl
theorem op_part {n : Nat} {cs : List Value} {y : DataW H × List MemPlace} (h : DataW.trod enc Try.prog W 0 (fun _ => true) true n 32 cs = some y) : ∃ o : Opn, cs = o.cells ∧ o.ok W := by
  obtain ⟨hl, hp⟩ := parts_of fld32 h
  rw [cells32] at hl
  obtain ⟨_, _, p0⟩ := hp 0 3 0 rfl
  obtain ⟨_, _, p1⟩ := hp 1 3 1 rfl
  obtain ⟨_, _, p2⟩ := hp 2 3 2 rfl
  obtain ⟨_, _, p3⟩ := hp 3 29 3 rfl
  obtain ⟨_, _, p4⟩ := hp 4 30 4 rfl
  rw [cells3] at p0 p1 p2
  rw [cells29] at p3
  rw [cellsI] at p4
  obtain ⟨k, e0, _⟩ := int_part p0
  obtain ⟨s, e1, _⟩ := int_part p1
  obtain ⟨m, e2, _, hm9⟩ := int_part p2
  obtain ⟨vb, bs, e3, v3⟩ := sl_part p3
  obtain ⟨ls, A, C, e4, v4, w4⟩ := is_part p4
  obtain ⟨ab, nb, cb, _, _, rfl, _⟩ := id v3
  refine ⟨⟨k, s, m, bs, ls, ab, nb, cb, A, C⟩, ?_, v3, v4, hm9, w4⟩
  have hsp : cs = (cs.drop 0).take 1 ++ ((cs.drop 1).take 1 ++ ((cs.drop 2).take 1 ++ ((cs.drop 3).take 1 ++ (cs.drop 4).take 1))) := by
    generalize cs = l at hl ⊢
    rw [← cut_last l 4 1 hl, ← cut_next l 3 1, ← cut_next l 2 1, ← cut_next l 1 1, ← cut_next l 0 1]
    rfl
  rw [hsp, e0, e1, e2, e3, e4]
  rfl
theorem open_ops {r : Reach} {b0 : Nat} {v : Value} {d : DataW H} {p : List MemPlace} (hv : Value.okWide Try.prog W r b0 22 v) (h : DataW.Trod enc Try.prog W 0 (fun _ => true) true 22 v d p) : ∃ (l : List Opn) (A : Option Addr) (C : Nat), v = .slice A l.length C ∧ (Fk.ol l).f (.slice A l.length C) W ∧ l.length ≤ maxLen := by
  obtain ⟨A, N, C, rfl⟩ := okWide_slice under22 hv
  obtain ⟨fuel, hf⟩ := h
  rcases Deep.open_slice under22 hf with ⟨hcs, _⟩ | ⟨a, len, cap, m, n', D, Pl, hcs, _, hl, hm, hmm, _, hel⟩
  · have e : Value.slice A N C = .slice none 0 0 := by simpa [Value.cells] using hcs
    exact ⟨[], none, 0, e, ⟨none, 0, 0, 0, rfl, fun h => absurd h (by simp), fun i o hi => by simp at hi⟩, Nat.zero_le _⟩
  · have e : Value.slice A N C = .slice (some a) len cap := by simpa [Value.cells] using hcs
    have hmc : m = cap := by simpa using hmm
    subst hmc
    have hE : ∀ k, k < len → ∃ o : Opn, o.ok W ∧ ∀ (j : Nat) (u : Value), o.cells[j]? = some u → W.cell? ⟨a.block, a.off + k * 5 + j, none⟩ = some u := by
      intro k hk
      obtain ⟨c0, h0, _⟩ := hel 0 (by omega)
      obtain ⟨ck, hck, ht⟩ := hel k (by omega)
      rw [cells32] at h0 hck
      obtain ⟨o, rfl, hok⟩ := op_part ht
      refine ⟨o, hok, fun j u hj => ?_⟩
      have e0 : a.add (0 * 5) = a := by simp [Addr.add]
      rw [e0] at h0
      obtain ⟨_, hl0, g0⟩ := World.cells?_some h0
      obtain ⟨_, _, gk⟩ := World.cells?_some hck
      have hc0 : W.cell? a = some c0[0] := by
        have := g0 0 (by omega)
        rw [show a.add 0 = a by simp [Addr.add]] at this
        rw [this]
        exact List.getElem?_eq_getElem _
      have hj5 : j < 5 := (List.getElem?_eq_some_iff.1 hj).1
      have h9 := gk j hj5
      rw [add_plain hc0 (k * 5), Addr.add_mid, hj] at h9
      exact h9
    obtain ⟨l, hlen, hp⟩ := list_ofA len hE
    subst hlen
    refine ⟨l, some a, m, e, ⟨some a, m, a.block, a.off, rfl, fun h0 => ?_, hp⟩, by omega⟩
    obtain ⟨c0, h1, _⟩ := hel 0 (by omega)
    rw [cells32] at h1
    have e0 : a.add (0 * 5) = a := by simp [Addr.add]
    rw [e0] at h1
    obtain ⟨_, hl0, g0⟩ := World.cells?_some h1
    have hc0 : W.cell? a = some c0[0] := by
      have := g0 0 (by omega)
      rw [show a.add 0 = a by simp [Addr.add]] at this
      rw [this]
      exact List.getElem?_eq_getElem _
    have := add_plain hc0 0
    rw [show a.add 0 = a by simp [Addr.add], Nat.add_zero] at this
    rw [← this]
end Go.Proofs.Ytjdpomilifnlaaa
namespace Go.Proofs.Ytjdpomilifnlaaa
set_option maxRecDepth 100000
open Go.RowKit
theorem take_one {α : Type} {l : List α} {k : Nat} {x : α} (h : l[k]? = some x) : l.take (k + 1) = l.take k ++ [x] := by rw [List.take_add_one, h]; rfl
/-- A list of calls that the laws go through. -/
def smallO (l : List Opn) (n : Int) : Prop := (∀ o ∈ l, o.bs.length ≤ 200 ∧ o.ls.length ≤ 40) ∧ (l.length : Int) ≤ n
instance (l : List Opn) (n : Int) : Decidable (smallO l n) := by unfold smallO; infer_instance
theorem o_small {l : List Opn} {n : Int} (hs : smallO l n) {i : Nat} {o : Opn} (h : l[i]? = some o) : o.bs.length ≤ 200 ∧ o.ls.length ≤ 40 := hs.1 o (List.mem_of_getElem? h)
/-- Where a call lies. -/
def Fk.oq (o : Opn) : Fk := .inr (.inl ⟨fun v w => ∃ b i, v = .pointer (some ⟨b, i, none⟩) ∧ ∀ (j : Nat) (u : Value), o.cells[j]? = some u → w.cell? ⟨b, i + j, none⟩ = some u, by
  rintro v w w' ⟨b, i, e, h⟩ hb
  exact ⟨b, i, e, fun j u hj => by have := h j u hj; rw [hb.cell (block_lt_of_cell this)]; exact this⟩⟩)
theorem ol_ok {l : List Opn} {v : Value} {w : World} (h : (Fk.ol l).f v w) {i : Nat} {o : Opn} (hi : l[i]? = some o) : o.ok w := by
  obtain ⟨_, _, _, _, _, _, h2⟩ := h
  exact (h2 i o hi).1
section
variable {Q : Exit → Act → World → Prop} {o : Oper} {a : Act} {w : World}
theorem st_leno (x : Operand) (ho : o.op = .call { callee := .builtin .len, args := #[x], argTypes := #[22] }) {l : List Opn} (h : (Fk.ol l).f (a.eval x) w) : o.wp Try.prog a w (Ends a o.dst w (Fk.eq (.int .i64 (l.length : Int))).f) Q := by
  obtain ⟨A, C, lb, lo, e, _⟩ := h
  refine st_pure (v := .int .i64 (l.length : Int)) ?_ rfl
  have h1 := run_len_slice (P := Try.prog) (w := w) 22 o.type A l.length C (by rw [show Try.prog.elem 22 = 32 by kernel_rfl]; kernel_rfl)
  unfold execOp
  simp [ho, resolve, invoke, builtin, e, h1, goInt]
theorem st_idxo (x y : Operand) (ho : o.op = .indexAddr 22 x y) {l : List Opn} (h : (Fk.ol l).f (a.eval x) w) (i : Nat) (q : Opn) (hy : a.eval y = .int .i64 (i : Int)) (hq : l[i]? = some q) : o.wp Try.prog a w (Ends a o.dst w (Fk.oq q).f) Q := by
  obtain ⟨A, C, lb, lo, e, hp, h2⟩ := h
  have hi := (List.getElem?_eq_some_iff.1 hq).1
  obtain rfl := hp (by omega)
  refine st_pure (v := .pointer (some ⟨lb, lo + i * 5, none⟩)) ?_ ⟨lb, lo + i * 5, rfl, (h2 i q hq).2⟩
  have h1 := run_indexAt_slice (P := Try.prog) (w := w) 22 ⟨lb, lo, none⟩ l.length C .i64 (i : Int) (by rw [show Try.prog.elem 22 = 32 by kernel_rfl]; kernel_rfl)
  rw [if_pos (by omega), show Try.prog.elem 22 = 32 by kernel_rfl, show (sizeOf 32).run Try.prog w = .ok 5 w by kernel_rfl] at h1
  simp only [Result.andThen_ok, Int.toNat_natCast, Addr.add_mid] at h1
  unfold execOp
  rw [ho]
  simp [e, hy, h1]
theorem st_loado (x : Operand) (ho : o.op = .load 32 x) {q : Opn} (h : (Fk.oq q).f (a.eval x) w) : o.wp Try.prog a w (Ends a o.dst w (Fk.eq (.agg ([.int .i64 q.k, .int .i64 q.s, .int .i64 q.n, q.vb, q.vl] : List Value).toArray)).f) Q := by
  obtain ⟨b, i, e, h⟩ := h
  exact st_loadz 32 x ho b i [.int .i64 q.k, .int .i64 q.s, .int .i64 q.n, q.vb, q.vl] (by kernel_rfl) (by kernel_rfl) e (fun j v hj => h j v hj)
end
theorem fk_smallo {l : List Opn} (hln : l.length ≤ maxLen) {n : Int} {w : World} {v : Value} (hv : (Fk.ol l).f v w) {b : Bool} (hb : b = decide (smallO l n)) :
    Calls Try.prog 10 #[v, .int .i64 n] w fun e w' => ∃ u, e = .returned u ∧ (Fk.eq (.bool b)).f u w' ∧ Below w.heap.size w w' := by
  unfold maxLen at hln
  go_enter Try.func10, Try.ntmps10
  refine code_both (fun f w1 => f.tmps.size = 28 ∧ f.defers = [] ∧ f.eval (.tmp 0) = v ∧ f.eval (.tmp 1) = .int .i64 n ∧ Below w.heap.size w (w1)) ⟨rfl, rfl, rfl, rfl, Below.refl _ _⟩ ?_
  rintro f0 w0 ⟨sz, df, x0, x1, bl⟩
  have sd := And.intro sz df
  clear sz df
  have bl0 := bl
  refine wp_seq ?_
  refine wr_a [.eq (.bool false)] (by rw [sd.1]; kernel_rfl) ⟨fun hw ac u K => ?_, trivial⟩ ?_
  · exact st_assign (.const (.bool false)) rfl rfl
  intro f1 w1 A hb
  replace x0 := A.t x0 rfl
  replace x1 := A.t x1 rfl
  replace bl := bgo bl hb
  replace sd := A.sd sd
  clear A hb
  show Code.wp _ _ _ _ _
  refine wp_seq ?_
  refine wp_seq ?_
  refine wr_a [.eq (v), .eq (.int .i64 (((l).length : Nat) : Int)), .eq (.int .i64 0)] (by rw [sd.1]; kernel_rfl) ⟨fun hw ac u K => ?_, fun hw ac u K => ?_, fun hw ac u K => ?_, trivial⟩ ?_
  · exact st_move (.tmp 0) rfl (K.t x0 rfl)
  · exact st_leno (.tmp 7) rfl (fk_val (K.dep 0 7 rfl) (Fk.mono _ _ _ _ hv (bgo bl K.grow)))
  · exact st_move (.const (.int .i64 0)) rfl rfl
  intro f2 w2 A hb
  replace x0 := A.t x0 rfl
  replace x1 := A.t x1 rfl
  have x7 := A.e 0 7 rfl rfl
  have x8 := A.e 1 8 rfl rfl
  have x9 := A.e 2 9 rfl rfl
  replace bl := bgo bl hb
  replace sd := A.sd sd
  clear A hb
  show Code.wp _ _ _ _ _
  refine wp_block ?_
  refine wp_loop (fun f v1 => ∃ k : Nat, k ≤ l.length ∧ (∀ o ∈ l.take k, o.bs.length ≤ 200 ∧ o.ls.length ≤ 40) ∧ f.tmps.size = 28 ∧ f.defers = [] ∧ f.eval (.tmp 0) = v ∧ f.eval (.tmp 1) = .int .i64 n ∧ f.eval (.tmp 7) = v ∧ f.eval (.tmp 8) = .int .i64 (((l).length : Nat) : Int) ∧ f.eval (.tmp 9) = .int .i64 (k : Int) ∧ Below w.heap.size w (v1)) (fun f _ => l.length - (intOf (f.eval (.tmp 9))).toNat) ⟨0, Nat.zero_le _, (by simp), sd.1, sd.2, x0, x1, x7, x8, x9, bl⟩ ?_
  intro f3 w3 hI
  clear sd bl bl0 x0 x1 x7 x8 x9
  obtain ⟨k, hk8, hall, sz, df, x0, x1, x7, x8, x9, bl⟩ := hI
  have sd := And.intro sz df
  clear sz df
  have bl0 := bl
  have hcnt := x9
  refine wp_seq ?_
  by_cases hlt : k < l.length
  rotate_left
  · skip
    refine wr_a [.eq (.bool false)] (by rw [sd.1]; kernel_rfl) ⟨fun hw ac u K => ?_, trivial⟩ ?_
    · exact st_lss 3 (.tmp 9) (.tmp 8) rfl .i64 ((k : Int)) ((((l).length : Nat) : Int)) (K.t x9 rfl) (K.t x8 rfl) _ (by rw [eq_comm, decide_eq_false_iff_not]; exact fun h => hlt (Int.ofNat_lt.1 h))
    intro f4 w4 A hb
    replace x0 := A.t x0 rfl
    replace x1 := A.t x1 rfl
    replace x7 := A.t x7 rfl
    replace x8 := A.t x8 rfl
    replace x9 := A.t x9 rfl
    have x10 := A.e 0 10 rfl rfl
    replace bl := bgo bl hb
    replace sd := A.sd sd
    clear A hb
    show Code.wp _ _ _ _ _
    refine wp_seq ?_
    refine wp_cond_false x10 ?_
    refine wp_exit ?_
    show Code.wp _ _ _ _ _
    refine wp_seq ?_
    rw [List.take_of_length_le (by omega)] at hall
    by_cases h40 : (l.length : Int) ≤ n
    rotate_left
    · skip
      have hbf : false = b := by rw [hb]; symm; rw [decide_eq_false_iff_not]; exact fun h => h40 h.2
      refine wr_a [.eq (v), .eq (.int .i64 (((l).length : Nat) : Int)), .eq (.int .i64 n), .eq (.bool false), .eq (.bool false)] (by rw [sd.1]; kernel_rfl) ⟨fun hw ac u K => ?_, fun hw ac u K => ?_, fun hw ac u K => ?_, fun hw ac u K => ?_, fun hw ac u K => ?_, trivial⟩ ?_
      · exact st_move (.tmp 0) rfl (K.t x0 rfl)
      · exact st_leno (.tmp 24) rfl (fk_val (K.dep 0 24 rfl) (Fk.mono _ _ _ _ hv (bgo bl K.grow)))
      · exact st_move (.tmp 1) rfl (K.t x1 rfl)
      · exact st_leq 3 (.tmp 25) (.tmp 26) rfl .i64 ((((l).length : Nat) : Int)) (n) (K.dep 1 25 rfl) (K.dep 2 26 rfl) _ (by rw [eq_comm, decide_eq_false_iff_not]; exact h40)
      · exact st_assign (.tmp 27) rfl (K.dep 3 27 rfl)
      intro f5 w5 A hb
      replace x0 := A.t x0 rfl
      replace x1 := A.t x1 rfl
      replace x7 := A.t x7 rfl
      replace x8 := A.t x8 rfl
      replace x9 := A.t x9 rfl
      replace x10 := A.t x10 rfl
      have x4 := A.e 4 4 rfl rfl
      replace bl := bgo bl hb
      replace sd := A.sd sd
      clear A hb
      clear x10
      show Code.wp _ _ _ _ _
      refine wp_ret ?_
      repeat (first | with_reducible refine then_ret ?_ | with_reducible refine block_ret ?_)
      exact bodyPost_ret (v := .bool false) (ret_slot rfl f5 _ x4 _ _) sd.2 ⟨_, rfl, by rw [← hbf]; rfl, bl⟩
    have hbf : true = b := by rw [hb]; symm; rw [decide_eq_true_iff]; exact ⟨hall, h40⟩
    refine wr_a [.eq (v), .eq (.int .i64 (((l).length : Nat) : Int)), .eq (.int .i64 n), .eq (.bool true), .eq (.bool true)] (by rw [sd.1]; kernel_rfl) ⟨fun hw ac u K => ?_, fun hw ac u K => ?_, fun hw ac u K => ?_, fun hw ac u K => ?_, fun hw ac u K => ?_, trivial⟩ ?_
    · exact st_move (.tmp 0) rfl (K.t x0 rfl)
    · exact st_leno (.tmp 24) rfl (fk_val (K.dep 0 24 rfl) (Fk.mono _ _ _ _ hv (bgo bl K.grow)))
    · exact st_move (.tmp 1) rfl (K.t x1 rfl)
    · exact st_leq 3 (.tmp 25) (.tmp 26) rfl .i64 ((((l).length : Nat) : Int)) (n) (K.dep 1 25 rfl) (K.dep 2 26 rfl) _ (by rw [eq_comm, decide_eq_true_iff]; exact h40)
    · exact st_assign (.tmp 27) rfl (K.dep 3 27 rfl)
    intro f5 w5 A hb
    replace x0 := A.t x0 rfl
    replace x1 := A.t x1 rfl
    replace x7 := A.t x7 rfl
    replace x8 := A.t x8 rfl
    replace x9 := A.t x9 rfl
    replace x10 := A.t x10 rfl
    have x4 := A.e 4 4 rfl rfl
    replace bl := bgo bl hb
    replace sd := A.sd sd
    clear A hb
    clear x10
    show Code.wp _ _ _ _ _
    refine wp_ret ?_
    repeat (first | with_reducible refine then_ret ?_ | with_reducible refine block_ret ?_)
    exact bodyPost_ret (v := .bool true) (ret_slot rfl f5 _ x4 _ _) sd.2 ⟨_, rfl, by rw [← hbf]; rfl, bl⟩
  obtain ⟨oo, hook⟩ : ∃ p, l[k]? = some p := ⟨_, List.getElem?_eq_getElem hlt⟩
  have hboo : (Fk.sl oo.bs).f oo.vb w := (ol_ok hv hook).b
  have hloo : (Fk.is oo.ls).f oo.vl w := (ol_ok hv hook).l
  refine wr_a [.eq (.bool true)] (by rw [sd.1]; kernel_rfl) ⟨fun hw ac u K => ?_, trivial⟩ ?_
  · exact st_lss 3 (.tmp 9) (.tmp 8) rfl .i64 ((k : Int)) ((((l).length : Nat) : Int)) (K.t x9 rfl) (K.t x8 rfl) _ (by rw [eq_comm, decide_eq_true_iff]; exact Int.ofNat_lt.2 hlt)
  intro f4 w4 A hb
  replace x0 := A.t x0 rfl
  replace x1 := A.t x1 rfl
  replace x7 := A.t x7 rfl
  replace x8 := A.t x8 rfl
  replace x9 := A.t x9 rfl
  have x10 := A.e 0 10 rfl rfl
  replace bl := bgo bl hb
  replace sd := A.sd sd
  clear A hb
  show Code.wp _ _ _ _ _
  refine wp_seq ?_
  refine wp_cond_true x10 ?_
  refine wp_skip ?_
  show Code.wp _ _ _ _ _
  refine wp_seq ?_
  refine wp_block ?_
  refine wp_seq ?_
  refine wr_s [.oq oo, .eq (.agg ([.int .i64 oo.k, .int .i64 oo.s, .int .i64 oo.n, oo.vb, oo.vl] : List Value).toArray), .nw w4.heap.size 32 [.int .i64 0, .int .i64 0, .int .i64 0, .slice none 0 0, .slice none 0 0]] (by rw [sd.1]; kernel_rfl) ⟨fun hw ac u K => ?_, fun hw ac u K => ?_, fun hw ac u K => ?_, trivial⟩ ?_
  · exact st_idxo (.tmp 7) (.tmp 9) rfl (fk_val (K.t x7 rfl) (Fk.mono _ _ _ _ hv (bgo bl K.grow))) k oo (K.t x9 rfl) hook
  · exact st_loado (.tmp 11) rfl (K.dep 0 11 rfl)
  · exact st_alloc 32 rfl _ _ (by kernel_rfl) K.grow.size
  intro f5 w5 A hb
  replace bl0 := bl
  replace x0 := A.t x0 rfl
  replace x1 := A.t x1 rfl
  replace x7 := A.t x7 rfl
  replace x8 := A.t x8 rfl
  replace x9 := A.t x9 rfl
  replace x10 := A.t x10 rfl
  have x6 : Fk.f (.nw w4.heap.size 32 [.int .i64 0, .int .i64 0, .int .i64 0, .slice none 0 0, .slice none 0 0]) (f5.eval (.tmp 6)) w5 := A.has 2 6 rfl
  have x12 := A.e 1 12 rfl rfl
  replace bl := bgo bl hb
  replace sd := A.sd sd
  clear A hb
  clear x10
  obtain ⟨g6, hg6, e6, m6⟩ := x6
  have x6 := e6
  clear e6
  have hw6 : w.heap.size ≤ g6 := Nat.le_trans bl0.size hg6
  refine wl_str rfl 32 (.tmp 6) (.tmp 12) rfl rfl (g6) ([.int .i64 oo.k, .int .i64 oo.s, .int .i64 oo.n, oo.vb, oo.vl] : List Value).toArray x6 x12 32 _ m6 (by kernel_rfl) (by kernel_rfl) (by kernel_rfl) ?_
  replace m6 : Ob (w5.setRow g6 ([.int .i64 oo.k, .int .i64 oo.s, .int .i64 oo.n, oo.vb, oo.vl] : List Value).toArray) (g6) 32 ([.int .i64 oo.k, .int .i64 oo.s, .int .i64 oo.n, oo.vb, oo.vl]) := Ob.setRow m6 ([.int .i64 oo.k, .int .i64 oo.s, .int .i64 oo.n, oo.vb, oo.vl])
  replace bl : Below w.heap.size w (w5.setRow g6 ([.int .i64 oo.k, .int .i64 oo.s, .int .i64 oo.n, oo.vb, oo.vl] : List Value).toArray) := bl.trans (below_setRow _ _ _ _ hw6)
  generalize w5.setRow g6 ([.int .i64 oo.k, .int .i64 oo.s, .int .i64 oo.n, oo.vb, oo.vl] : List Value).toArray = w6b at bl m6 ⊢
  refine wpList_nil ?_
  clear x12
  show Code.wp _ _ _ _ _
  refine wp_seq ?_
  have h3 : 200 < oo.bs.length ∨ (oo.bs.length ≤ 200 ∧ 40 < oo.ls.length) ∨ (oo.bs.length ≤ 200 ∧ oo.ls.length ≤ 40) := by omega
  rcases h3 with h3 | h3 | h3
  · skip
    have hbf : false = b := by rw [hb]; symm; rw [decide_eq_false_iff_not]; exact fun h => by have := o_small h hook; omega
    refine wr_a [.eq (.pointer (some ⟨g6, 3, none⟩)), .eq (oo.vb), .eq (.int .i64 (((oo.bs).length : Nat) : Int)), .eq (.bool true), .eq (.bool true), .any, .any, .any, .any, .eq (.bool true)] (by rw [sd.1]; kernel_rfl) ⟨fun hw ac u K => ?_, fun hw ac u K => ?_, fun hw ac u K => ?_, fun hw ac u K => ?_, fun hw ac u K => ?_, fun hw ac u K => ?_, fun hw ac u K => ?_, fun hw ac u K => ?_, fun hw ac u K => ?_, fun hw ac u K => ?_, trivial⟩ ?_
    · exact st_field 32 3 (.tmp 6) rfl (K.t x6 rfl) (by kernel_rfl)
    · exact st_loadc 29 (.tmp 13) rfl (by kernel_rfl) (K.dep 0 13 rfl) (Ob.cell (Ob.below m6 K.grow) 3 rfl)
    · exact st_lenb (.tmp 14) rfl (fk_val (K.dep 1 14 rfl) (Fk.mono _ _ _ _ hboo (bgo bl K.grow)))
    · exact st_gtr 3 (.tmp 15) (.const (.int .i64 200)) rfl .i64 ((((oo.bs).length : Nat) : Int)) (200) (K.dep 2 15 rfl) rfl _ (by rw [eq_comm, decide_eq_true_iff]; omega)
    · exact st_move (.tmp 16) rfl (K.dep 3 16 rfl)
    · exact (Bool.false_ne_true hw).elim
    · exact (Bool.false_ne_true hw).elim
    · exact (Bool.false_ne_true hw).elim
    · exact (Bool.false_ne_true hw).elim
    · exact st_pick_t (.tmp 17) (.const (.bool true)) (.tmp 21) rfl (K.dep 4 17 rfl) rfl
    intro f7 w7 A hb
    replace x0 := A.t x0 rfl
    replace x1 := A.t x1 rfl
    replace x7 := A.t x7 rfl
    replace x8 := A.t x8 rfl
    replace x9 := A.t x9 rfl
    replace x6 := A.t x6 rfl
    have x22 := A.e 9 22 rfl rfl
    replace m6 := Ob.below m6 hb
    replace bl := bgo bl hb
    replace sd := A.sd sd
    clear A hb
    clear x6
    clear m6
    show Code.wp _ _ _ _ _
    refine wp_cond_true x22 ?_
    refine wp_seq ?_
    refine wr_a [.eq (.bool false)] (by rw [sd.1]; kernel_rfl) ⟨fun hw ac u K => ?_, trivial⟩ ?_
    · exact st_assign (.const (.bool false)) rfl rfl
    intro f8 w8 A hb
    replace x0 := A.t x0 rfl
    replace x1 := A.t x1 rfl
    replace x7 := A.t x7 rfl
    replace x8 := A.t x8 rfl
    replace x9 := A.t x9 rfl
    replace x22 := A.t x22 rfl
    have x4 := A.e 0 4 rfl rfl
    replace bl := bgo bl hb
    replace sd := A.sd sd
    clear A hb
    clear x22
    show Code.wp _ _ _ _ _
    refine wp_ret ?_
    repeat (first | with_reducible refine then_ret ?_ | with_reducible refine block_ret ?_)
    exact bodyPost_ret (v := .bool false) (ret_slot rfl f8 _ x4 _ _) sd.2 ⟨_, rfl, by rw [← hbf]; rfl, bl⟩
  · skip
    have hbf : false = b := by rw [hb]; symm; rw [decide_eq_false_iff_not]; exact fun h => by have := o_small h hook; omega
    refine wr_a [.eq (.pointer (some ⟨g6, 3, none⟩)), .eq (oo.vb), .eq (.int .i64 (((oo.bs).length : Nat) : Int)), .eq (.bool false), .eq (.bool false), .eq (.pointer (some ⟨g6, 4, none⟩)), .eq (oo.vl), .eq (.int .i64 (((oo.ls).length : Nat) : Int)), .eq (.bool true), .eq (.bool true)] (by rw [sd.1]; kernel_rfl) ⟨fun hw ac u K => ?_, fun hw ac u K => ?_, fun hw ac u K => ?_, fun hw ac u K => ?_, fun hw ac u K => ?_, fun hw ac u K => ?_, fun hw ac u K => ?_, fun hw ac u K => ?_, fun hw ac u K => ?_, fun hw ac u K => ?_, trivial⟩ ?_
    · exact st_field 32 3 (.tmp 6) rfl (K.t x6 rfl) (by kernel_rfl)
    · exact st_loadc 29 (.tmp 13) rfl (by kernel_rfl) (K.dep 0 13 rfl) (Ob.cell (Ob.below m6 K.grow) 3 rfl)
    · exact st_lenb (.tmp 14) rfl (fk_val (K.dep 1 14 rfl) (Fk.mono _ _ _ _ hboo (bgo bl K.grow)))
    · exact st_gtr 3 (.tmp 15) (.const (.int .i64 200)) rfl .i64 ((((oo.bs).length : Nat) : Int)) (200) (K.dep 2 15 rfl) rfl _ (by rw [eq_comm, decide_eq_false_iff_not]; omega)
    · exact st_move (.tmp 16) rfl (K.dep 3 16 rfl)
    · exact st_field 32 4 (.tmp 6) rfl (K.t x6 rfl) (by kernel_rfl)
    · exact st_loadc 30 (.tmp 18) rfl (by kernel_rfl) (K.dep 5 18 rfl) (Ob.cell (Ob.below m6 K.grow) 4 rfl)
    · exact st_lenis (.tmp 19) rfl (fk_val (K.dep 6 19 rfl) (Fk.mono _ _ _ _ hloo (bgo bl K.grow)))
    · exact st_gtr 3 (.tmp 20) (.const (.int .i64 40)) rfl .i64 ((((oo.ls).length : Nat) : Int)) (40) (K.dep 7 20 rfl) rfl _ (by rw [eq_comm, decide_eq_true_iff]; omega)
    · exact st_pick_f' (.tmp 17) (.const (.bool true)) (.tmp 21) rfl (K.dep 4 17 rfl) (K.dep 8 21 rfl)
    intro f7 w7 A hb
    replace x0 := A.t x0 rfl
    replace x1 := A.t x1 rfl
    replace x7 := A.t x7 rfl
    replace x8 := A.t x8 rfl
    replace x9 := A.t x9 rfl
    replace x6 := A.t x6 rfl
    have x22 := A.e 9 22 rfl rfl
    replace m6 := Ob.below m6 hb
    replace bl := bgo bl hb
    replace sd := A.sd sd
    clear A hb
    clear x6
    clear m6
    show Code.wp _ _ _ _ _
    refine wp_cond_true x22 ?_
    refine wp_seq ?_
    refine wr_a [.eq (.bool false)] (by rw [sd.1]; kernel_rfl) ⟨fun hw ac u K => ?_, trivial⟩ ?_
    · exact st_assign (.const (.bool false)) rfl rfl
    intro f8 w8 A hb
    replace x0 := A.t x0 rfl
    replace x1 := A.t x1 rfl
    replace x7 := A.t x7 rfl
    replace x8 := A.t x8 rfl
    replace x9 := A.t x9 rfl
    replace x22 := A.t x22 rfl
    have x4 := A.e 0 4 rfl rfl
    replace bl := bgo bl hb
    replace sd := A.sd sd
    clear A hb
    clear x22
    show Code.wp _ _ _ _ _
    refine wp_ret ?_
    repeat (first | with_reducible refine then_ret ?_ | with_reducible refine block_ret ?_)
    exact bodyPost_ret (v := .bool false) (ret_slot rfl f8 _ x4 _ _) sd.2 ⟨_, rfl, by rw [← hbf]; rfl, bl⟩
  refine wr_a [.eq (.pointer (some ⟨g6, 3, none⟩)), .eq (oo.vb), .eq (.int .i64 (((oo.bs).length : Nat) : Int)), .eq (.bool false), .eq (.bool false), .eq (.pointer (some ⟨g6, 4, none⟩)), .eq (oo.vl), .eq (.int .i64 (((oo.ls).length : Nat) : Int)), .eq (.bool false), .eq (.bool false)] (by rw [sd.1]; kernel_rfl) ⟨fun hw ac u K => ?_, fun hw ac u K => ?_, fun hw ac u K => ?_, fun hw ac u K => ?_, fun hw ac u K => ?_, fun hw ac u K => ?_, fun hw ac u K => ?_, fun hw ac u K => ?_, fun hw ac u K => ?_, fun hw ac u K => ?_, trivial⟩ ?_
  · exact st_field 32 3 (.tmp 6) rfl (K.t x6 rfl) (by kernel_rfl)
  · exact st_loadc 29 (.tmp 13) rfl (by kernel_rfl) (K.dep 0 13 rfl) (Ob.cell (Ob.below m6 K.grow) 3 rfl)
  · exact st_lenb (.tmp 14) rfl (fk_val (K.dep 1 14 rfl) (Fk.mono _ _ _ _ hboo (bgo bl K.grow)))
  · exact st_gtr 3 (.tmp 15) (.const (.int .i64 200)) rfl .i64 ((((oo.bs).length : Nat) : Int)) (200) (K.dep 2 15 rfl) rfl _ (by rw [eq_comm, decide_eq_false_iff_not]; omega)
  · exact st_move (.tmp 16) rfl (K.dep 3 16 rfl)
  · exact st_field 32 4 (.tmp 6) rfl (K.t x6 rfl) (by kernel_rfl)
  · exact st_loadc 30 (.tmp 18) rfl (by kernel_rfl) (K.dep 5 18 rfl) (Ob.cell (Ob.below m6 K.grow) 4 rfl)
  · exact st_lenis (.tmp 19) rfl (fk_val (K.dep 6 19 rfl) (Fk.mono _ _ _ _ hloo (bgo bl K.grow)))
  · exact st_gtr 3 (.tmp 20) (.const (.int .i64 40)) rfl .i64 ((((oo.ls).length : Nat) : Int)) (40) (K.dep 7 20 rfl) rfl _ (by rw [eq_comm, decide_eq_false_iff_not]; omega)
  · exact st_pick_f' (.tmp 17) (.const (.bool true)) (.tmp 21) rfl (K.dep 4 17 rfl) (K.dep 8 21 rfl)
  intro f7 w7 A hb
  replace x0 := A.t x0 rfl
  replace x1 := A.t x1 rfl
  replace x7 := A.t x7 rfl
  replace x8 := A.t x8 rfl
  replace x9 := A.t x9 rfl
  replace x6 := A.t x6 rfl
  have x22 := A.e 9 22 rfl rfl
  replace m6 := Ob.below m6 hb
  replace bl := bgo bl hb
  replace sd := A.sd sd
  clear A hb
  clear x6
  clear m6
  show Code.wp _ _ _ _ _
  refine wp_cond_false x22 ?_
  refine wp_skip ?_
  show Code.wp _ _ _ _ _
  refine wr_s [.eq (.int .i64 ((k + 1 : Nat) : Int))] (by rw [sd.1]; kernel_rfl) ⟨fun hw ac u K => ?_, trivial⟩ ?_
  · exact st_addz (.tmp 9) (.const (.int .i64 1)) rfl _ _ _ (K.t x9 rfl) rfl (by omega) (by omega) (by omega)
  intro f8 w8 A hb
  replace x0 := A.t x0 rfl
  replace x1 := A.t x1 rfl
  replace x7 := A.t x7 rfl
  replace x8 := A.t x8 rfl
  replace x9 := A.t x9 rfl
  replace x22 := A.t x22 rfl
  have x23 := A.e 0 23 rfl rfl
  replace bl := bgo bl hb
  replace sd := A.sd sd
  clear A hb
  clear x22
  refine wl_one (.eq (.int .i64 ((k + 1 : Nat) : Int))) rfl 9 rfl (by rw [sd.1]; decide) (st_move (.tmp 23) rfl x23) ?_
  intro f9 w9 df2 sz2 old2 new2 hb
  replace x0 := tr old2 x0 rfl
  replace x1 := tr old2 x1 rfl
  replace x7 := tr old2 x7 rfl
  replace x8 := tr old2 x8 rfl
  clear x9
  replace x23 := tr old2 x23 rfl
  have x9 := Fk.e new2
  replace bl := bgo bl hb
  replace sd := sd2 sz2 df2 sd
  clear df2 sz2 old2 new2 hb
  refine wpList_nil ?_
  clear x23
  show (∃ _, _) ∧ _
  refine ⟨⟨k + 1, by omega, (by rw [take_one hook]; intro q hq; rcases List.mem_append.1 hq with hq | hq; exact hall q hq; obtain rfl := List.mem_singleton.1 hq; exact ⟨by omega, by omega⟩), sd.1, sd.2, x0, x1, x7, x8, x9, bl⟩, ?_⟩
  rw [show f9.eval (.tmp 9) = _ from x9, show _ = _ from hcnt]
  first | (simp [intOf]; done) | (simp [intOf]; omega)
end Go.Proofs.Ytjdpomilifnlaaa
namespace Go.Proofs.Ytjdpomilifnlaaa
set_option maxRecDepth 100000
open Go.RowKit
/-- Bytes, the first ones written anew. -/
def fr8 (c : BitVec 8) (k : Nat) : List (BitVec 8) := List.replicate k c ++ List.replicate (16 - k) 0
theorem fr8_len (c : BitVec 8) {k : Nat} (h : k ≤ 16) : (fr8 c k).length = 16 := by
  unfold fr8
  rw [List.length_append, List.length_replicate, List.length_replicate]
  omega
theorem fr8_zero (c : BitVec 8) : fr8 c 0 = zs 16 := rfl
theorem fr8_all (c : BitVec 8) : fr8 c 16 = List.replicate 16 c := by unfold fr8; simp
theorem fr8_set (c : BitVec 8) {k : Nat} (h : k < 16) : (fr8 c k).set k c = fr8 c (k + 1) := by
  unfold fr8
  rw [List.set_append_right _ _ (by simp), List.length_replicate, Nat.sub_self]
  obtain ⟨m, hm⟩ : ∃ m, 16 - k = m + 1 := ⟨15 - k, by omega⟩
  rw [hm, show 16 - (k + 1) = m by omega, List.replicate_succ, List.set_cons_zero, List.replicate_succ', List.append_assoc]
  rfl
theorem map_setV (xs : List (BitVec 8)) (k : Nat) (c : BitVec 8) : (xs.map V).set k (V c) = (xs.set k c).map V := by rw [List.map_set]
section
variable {Q : Exit → Act → World → Prop} {o : Oper} {a : Act} {w : World} {ops : Array Oper} {rest : List Oper}
theorem st_idxB (x y : Operand) (ho : o.op = .indexAddr 29 x y) {g n C : Nat} (hx : a.eval x = .slice (some ⟨g, 0, none⟩) n C) (i : Nat) (hy : a.eval y = .int .i64 (i : Int)) (hi : i < n) : o.wp Try.prog a w (Ends a o.dst w (Fk.eq (.pointer (some ⟨g, i, none⟩))).f) Q := by
  refine st_pure (v := .pointer (some ⟨g, i, none⟩)) ?_ rfl
  have h1 := run_indexAt_slice (P := Try.prog) (w := w) 29 ⟨g, 0, none⟩ n C .i64 (i : Int) (by rw [show Try.prog.elem 29 = 5 by kernel_rfl]; kernel_rfl)
  rw [if_pos (by omega), show Try.prog.elem 29 = 5 by kernel_rfl, show (sizeOf 5).run Try.prog w = .ok 1 w by kernel_rfl] at h1
  simp only [Result.andThen_ok, Int.toNat_natCast, Addr.add_mid, Nat.mul_one, Nat.zero_add] at h1
  unfold execOp
  rw [ho]
  simp [hx, hy, h1]
theorem st_lenB (x : Operand) (ho : o.op = .call { callee := .builtin .len, args := #[x], argTypes := #[29] }) {p : Option Addr} {n C : Nat} (hx : a.eval x = .slice p n C) : o.wp Try.prog a w (Ends a o.dst w (Fk.eq (.int .i64 (n : Int))).f) Q := by
  refine st_pure (v := .int .i64 (n : Int)) ?_ rfl
  have h1 := run_len_slice (P := Try.prog) (w := w) 29 o.type p n C (by rw [show Try.prog.elem 29 = 5 by kernel_rfl]; kernel_rfl)
  unfold execOp
  simp [ho, resolve, invoke, builtin, hx, h1, goInt]
theorem wl_makeB (hgd : o.guard = none) (x y : Operand) (ho : o.op = .makeSlice 29 x y) (d : Nat) (hd : o.dst = some d) (hsz : d < a.tmps.size) (n : Nat) (hn : n ≤ 100000) (hx : a.eval x = .int .i64 (n : Int)) (hy : a.eval y = .int .i64 (n : Int))
    (h : ∀ a2 w2 g, a2.defers = a.defers → a2.tmps.size = a.tmps.size → (∀ t, (t == d) = false → a2.eval (.tmp t) = a.eval (.tmp t)) → a2.eval (.tmp d) = .slice (some ⟨g, 0, none⟩) n n → w.heap.size ≤ g → Ob w2 g 5 ((zs n).map V) → Below w.heap.size w w2 → wpList Try.prog ops Q rest a2 w2) : wpList Try.prog ops Q (o :: rest) a w := by
  have hr : (Instr.makeSlice 29 (.int .i64 (n : Int)) (.int .i64 (n : Int))).run Try.prog w = .ok (.slice (some ⟨w.heap.size, 0, none⟩) n n) (w.alloc (.cells ((zs n).map V).toArray 5)) := by
    obtain ⟨i0, hi, hz0, hz1, hz2⟩ := info_parts Try.info5
    have := run_make (P := Try.prog) w 29 5 i0 (.int .u8 0) Try.under29 hi hz0 .i64 .i64 (n : Int) (n : Int) (by omega) (by omega) (by rw [hz2]; omega) (by omega)
    rw [hz1, Int.toNat_natCast, Nat.mul_one, made_eq] at this
    exact this
  unfold wpList
  rw [if_pos (by unfold Region.wanted; rw [hgd])]
  refine .inl ?_
  unfold Oper.wp execOp
  simp only [ho, Sem.run_bind, Sem.run_pure, Result.andThen_ok, hx, hy, hr]
  refine h _ _ w.heap.size (put_def _ _ _) (put_size _ _ _) (fun t ht => ?_) ?_ (Nat.le_refl _) (heap_alloc_new _ _) ((Below.refl _ _).alloc (Nat.le_refl _) _)
  · rw [hd]
    exact put_eval_other _ _ _ _ (fun e => by subst e; simp at ht)
  · rw [hd, put_eval_same _ _ _ hsz]
end
theorem fk_full (c : BitVec 8) (w : World) :
    Calls Try.prog 29 #[V c] w fun e w' => ∃ g, e = .returned (.slice (some ⟨g, 0, none⟩) 16 16) ∧ w.heap.size ≤ g ∧ Ob w' g 5 ((List.replicate 16 c).map V) ∧ Below w.heap.size w w' := by
  go_enter Try.func29, Try.ntmps29
  refine code_both (fun f w1 => f.tmps.size = 17 ∧ f.defers = [] ∧ f.eval (.tmp 0) = V c ∧ Below w.heap.size w (w1)) ⟨rfl, rfl, rfl, Below.refl _ _⟩ ?_
  rintro f0 w0 ⟨sz, df, x0, bl⟩
  have sd := And.intro sz df
  clear sz df
  have bl0 := bl
  refine wp_seq ?_
  refine wr_a [.eq (.slice none 0 0)] (by rw [sd.1]; kernel_rfl) ⟨fun hw ac u K => ?_, trivial⟩ ?_
  · exact st_assign (.const (.slice none 0 0)) rfl rfl
  intro f1 w1 A hb
  replace x0 := A.t x0 rfl
  replace bl := bgo bl hb
  replace sd := A.sd sd
  clear A hb
  show Code.wp _ _ _ _ _
  refine wp_seq ?_
  refine wr_s [] (by rw [sd.1]; kernel_rfl) trivial ?_
  intro f2 w2 A hb
  replace x0 := A.t x0 rfl
  replace bl := bgo bl hb
  replace sd := A.sd sd
  clear A hb
  refine wl_makeB rfl _ _ rfl 5 rfl (by rw [sd.1]; decide) 16 (by omega) rfl rfl ?_
  intro f3 w3 g df2 sz2 old2 x5 hgg mg hb
  replace x0 := tr old2 x0 rfl
  have hwg : w.heap.size ≤ g := Nat.le_trans bl.size hgg
  replace bl := bgo bl hb
  replace bl0 := bl
  replace sd := sd2 sz2 df2 sd
  clear df2 sz2 old2 hb
  refine wl_one (.eq (.slice (some ⟨g, 0, none⟩) 16 16)) rfl 3 rfl (by rw [sd.1]; decide) (st_assign (.tmp 5) rfl x5) ?_
  intro f4 w4 df2 sz2 old2 new2 hb
  replace x0 := tr old2 x0 rfl
  replace x5 := tr old2 x5 rfl
  have x3 := Fk.e new2
  replace mg := Ob.below mg hb
  replace bl := bgo bl hb
  replace sd := sd2 sz2 df2 sd
  clear df2 sz2 old2 new2 hb
  refine wpList_nil ?_
  clear x5
  show Code.wp _ _ _ _ _
  refine wp_seq ?_
  refine wp_seq ?_
  refine wr_a [.eq (.slice (some ⟨g, 0, none⟩) 16 16), .eq (.int .i64 ((16 : Nat) : Int)), .eq (.int .i64 0)] (by rw [sd.1]; kernel_rfl) ⟨fun hw ac u K => ?_, fun hw ac u K => ?_, fun hw ac u K => ?_, trivial⟩ ?_
  · exact st_move (.tmp 3) rfl (K.t x3 rfl)
  · exact st_lenB (.tmp 6) rfl (K.dep 0 6 rfl)
  · exact st_move (.const (.int .i64 0)) rfl rfl
  intro f5 w5 A hb
  replace x0 := A.t x0 rfl
  replace x3 := A.t x3 rfl
  have x7 := A.e 1 7 rfl rfl
  have x8 := A.e 2 8 rfl rfl
  replace mg := Ob.below mg hb
  replace bl := bgo bl hb
  replace sd := A.sd sd
  clear A hb
  show Code.wp _ _ _ _ _
  refine wp_block ?_
  refine wp_loop (fun f v1 => ∃ k : Nat, k ≤ 16 ∧ f.tmps.size = 17 ∧ f.defers = [] ∧ f.eval (.tmp 0) = V c ∧ f.eval (.tmp 3) = .slice (some ⟨g, 0, none⟩) 16 16 ∧ f.eval (.tmp 7) = .int .i64 ((16 : Nat) : Int) ∧ f.eval (.tmp 8) = .int .i64 (k : Int) ∧ Ob v1 g 5 ((fr8 c k).map V) ∧ Below w.heap.size w (v1)) (fun f _ => 16 - (intOf (f.eval (.tmp 8))).toNat) ⟨0, Nat.zero_le _, sd.1, sd.2, x0, x3, x7, x8, (by rw [fr8_zero]; exact mg), bl⟩ ?_
  intro f6 w6 hI
  clear sd bl bl0 x0 x3 x7 x8 mg
  obtain ⟨k, hk8, sz, df, x0, x3, x7, x8, mg, bl⟩ := hI
  have sd := And.intro sz df
  clear sz df
  have bl0 := bl
  have hcnt := x8
  refine wp_seq ?_
  by_cases hlt : k < 16
  rotate_left
  · skip
    refine wr_a [.eq (.bool false)] (by rw [sd.1]; kernel_rfl) ⟨fun hw ac u K => ?_, trivial⟩ ?_
    · exact st_lss 3 (.tmp 8) (.tmp 7) rfl .i64 ((k : Int)) (((16 : Nat) : Int)) (K.t x8 rfl) (K.t x7 rfl) _ (by rw [eq_comm, decide_eq_false_iff_not]; omega)
    intro f7 w7 A hb
    replace x0 := A.t x0 rfl
    replace x3 := A.t x3 rfl
    replace x7 := A.t x7 rfl
    replace x8 := A.t x8 rfl
    have x9 := A.e 0 9 rfl rfl
    replace mg := Ob.below mg hb
    replace bl := bgo bl hb
    replace sd := A.sd sd
    clear A hb
    show Code.wp _ _ _ _ _
    refine wp_seq ?_
    refine wp_cond_false x9 ?_
    refine wp_exit ?_
    show Code.wp _ _ _ _ _
    refine wp_seq ?_
    refine wr_a [.eq (.slice (some ⟨g, 0, none⟩) 16 16), .eq (.slice (some ⟨g, 0, none⟩) 16 16)] (by rw [sd.1]; kernel_rfl) ⟨fun hw ac u K => ?_, fun hw ac u K => ?_, trivial⟩ ?_
    · exact st_move (.tmp 3) rfl (K.t x3 rfl)
    · exact st_assign (.tmp 16) rfl (K.dep 0 16 rfl)
    intro f8 w8 A hb
    replace x0 := A.t x0 rfl
    replace x3 := A.t x3 rfl
    replace x7 := A.t x7 rfl
    replace x8 := A.t x8 rfl
    replace x9 := A.t x9 rfl
    have x2 := A.e 1 2 rfl rfl
    replace mg := Ob.below mg hb
    replace bl := bgo bl hb
    replace sd := A.sd sd
    clear A hb
    clear x9
    show Code.wp _ _ _ _ _
    refine wp_ret ?_
    repeat (first | with_reducible refine then_ret ?_ | with_reducible refine block_ret ?_)
    obtain rfl : k = 16 := by omega
    rw [fr8_all] at mg
    exact bodyPost_ret (v := .slice (some ⟨g, 0, none⟩) 16 16) (ret_slot rfl f8 _ x2 _ _) sd.2 ⟨g, rfl, hwg, mg, bl⟩
  refine wr_a [.eq (.bool true)] (by rw [sd.1]; kernel_rfl) ⟨fun hw ac u K => ?_, trivial⟩ ?_
  · exact st_lss 3 (.tmp 8) (.tmp 7) rfl .i64 ((k : Int)) (((16 : Nat) : Int)) (K.t x8 rfl) (K.t x7 rfl) _ (by rw [eq_comm, decide_eq_true_iff]; omega)
  intro f7 w7 A hb
  replace x0 := A.t x0 rfl
  replace x3 := A.t x3 rfl
  replace x7 := A.t x7 rfl
  replace x8 := A.t x8 rfl
  have x9 := A.e 0 9 rfl rfl
  replace mg := Ob.below mg hb
  replace bl := bgo bl hb
  replace sd := A.sd sd
  clear A hb
  show Code.wp _ _ _ _ _
  refine wp_seq ?_
  refine wp_cond_true x9 ?_
  refine wp_skip ?_
  show Code.wp _ _ _ _ _
  refine wp_seq ?_
  refine wp_block ?_
  refine wp_seq ?_
  refine wr_a [.eq (.int .i64 (k : Int)), .eq (.int .i64 (k : Int))] (by rw [sd.1]; kernel_rfl) ⟨fun hw ac u K => ?_, fun hw ac u K => ?_, trivial⟩ ?_
  · exact st_move (.tmp 8) rfl (K.t x8 rfl)
  · exact st_assign (.tmp 10) rfl (K.dep 0 10 rfl)
  intro f8 w8 A hb
  replace x0 := A.t x0 rfl
  replace x3 := A.t x3 rfl
  replace x7 := A.t x7 rfl
  replace x8 := A.t x8 rfl
  replace x9 := A.t x9 rfl
  have x4 := A.e 1 4 rfl rfl
  replace mg := Ob.below mg hb
  replace bl := bgo bl hb
  replace sd := A.sd sd
  clear A hb
  clear x9
  show Code.wp _ _ _ _ _
  refine wr_s [.eq (.slice (some ⟨g, 0, none⟩) 16 16), .eq (.int .i64 (k : Int)), .eq (V c), .eq (.pointer (some ⟨g, k, none⟩))] (by rw [sd.1]; kernel_rfl) ⟨fun hw ac u K => ?_, fun hw ac u K => ?_, fun hw ac u K => ?_, fun hw ac u K => ?_, trivial⟩ ?_
  · exact st_move (.tmp 3) rfl (K.t x3 rfl)
  · exact st_move (.tmp 4) rfl (K.t x4 rfl)
  · exact st_move (.tmp 0) rfl (K.t x0 rfl)
  · exact st_idxB (.tmp 11) (.tmp 12) rfl (K.dep 0 11 rfl) (k) (K.dep 1 12 rfl) (by omega)
  intro f9 w9 A hb
  replace x0 := A.t x0 rfl
  replace x3 := A.t x3 rfl
  replace x7 := A.t x7 rfl
  replace x8 := A.t x8 rfl
  replace x4 := A.t x4 rfl
  have x13 := A.e 2 13 rfl rfl
  have x14 := A.e 3 14 rfl rfl
  replace mg := Ob.below mg hb
  replace bl := bgo bl hb
  replace sd := A.sd sd
  clear A hb
  clear x4
  refine wl_stc 5 rfl (.tmp 14) (.tmp 13) rfl rfl (by kernel_rfl) g (k) (V (c)) x14 x13 rfl rfl (Ob.there mg (k) (by rw [List.length_map, fr8_len c hk8]; omega)) ?_
  replace mg : Ob (w9.setCell ⟨g, k, none⟩ (V (c))) g 5 ((fr8 c (k + 1)).map V) := by
    have := Ob.set mg (k) (V (c))
    rw [map_setV, fr8_set c hlt] at this
    exact this
  replace bl : Below w.heap.size w (w9.setCell ⟨g, k, none⟩ (V (c))) := bl.trans (below_setCell _ _ _ _ _ hwg)
  generalize w9.setCell ⟨g, k, none⟩ (V (c)) = w10b at bl mg ⊢
  replace bl0 := bl
  refine wpList_nil ?_
  clear x13
  clear x14
  show Code.wp _ _ _ _ _
  refine wr_s [.eq (.int .i64 ((k + 1 : Nat) : Int))] (by rw [sd.1]; kernel_rfl) ⟨fun hw ac u K => ?_, trivial⟩ ?_
  · exact st_add (.tmp 8) (.const (.int .i64 1)) rfl (k) (1) (k + 1) (K.t x8 rfl) rfl (by omega) (by omega)
  intro f11 w11 A hb
  replace x0 := A.t x0 rfl
  replace x3 := A.t x3 rfl
  replace x7 := A.t x7 rfl
  replace x8 := A.t x8 rfl
  have x15 := A.e 0 15 rfl rfl
  replace mg := Ob.below mg hb
  replace bl := bgo bl hb
  replace sd := A.sd sd
  clear A hb
  refine wl_one (.eq (.int .i64 ((k + 1 : Nat) : Int))) rfl 8 rfl (by rw [sd.1]; decide) (st_move (.tmp 15) rfl x15) ?_
  intro f12 w12 df2 sz2 old2 new2 hb
  replace x0 := tr old2 x0 rfl
  replace x3 := tr old2 x3 rfl
  replace x7 := tr old2 x7 rfl
  clear x8
  replace x15 := tr old2 x15 rfl
  have x8 := Fk.e new2
  replace mg := Ob.below mg hb
  replace bl := bgo bl hb
  replace sd := sd2 sz2 df2 sd
  clear df2 sz2 old2 new2 hb
  refine wpList_nil ?_
  clear x15
  show (∃ _, _) ∧ _
  refine ⟨⟨k + 1, by omega, sd.1, sd.2, x0, x3, x7, x8, mg, bl⟩, ?_⟩
  rw [show f12.eval (.tmp 8) = _ from x8, show _ = _ from hcnt]
  first | (simp [intOf]; done) | (simp [intOf]; omega)
end Go.Proofs.Ytjdpomilifnlaaa
namespace Go.Proofs.Ytjdpomilifnlaaa
set_option maxRecDepth 100000
open Go.RowKit
open Go.ChangeMaps (setBlock)
/-- What a list of keys and values has at a key. -/
def mget : List (Int × Value) → Int → Option Value
  | [], _ => none
  | p :: r, k => if p.1 = k then some p.2 else mget r k
def mput (l : List (Int × Value)) (k : Int) (v : Value) : List (Int × Value) := if (mget l k).isSome then l.map (fun p => if p.1 = k then (k, v) else p) else l ++ [(k, v)]
def mdel (l : List (Int × Value)) (k : Int) : List (Int × Value) := l.filter fun p => decide (p.1 ≠ k)
theorem mget_none {l : List (Int × Value)} {k : Int} : mget l k = none ↔ ∀ p ∈ l, p.1 ≠ k := by
  induction l with
  | nil => simp [mget]
  | cons p r ih =>
    unfold mget
    by_cases h : p.1 = k
    · simp [h]
    · simp [h, ih]
theorem mget_mem {l : List (Int × Value)} {k : Int} {v : Value} (h : mget l k = some v) : (k, v) ∈ l := by
  induction l with
  | nil => cases h
  | cons p r ih =>
    unfold mget at h
    by_cases h1 : p.1 = k
    · rw [if_pos h1] at h
      have : p = (k, v) := by rw [← h1, ← Option.some.inj h]
      rw [this]; exact List.mem_cons_self
    · rw [if_neg h1] at h
      exact List.mem_cons_of_mem _ (ih h)
theorem mget_of_mem {l : List (Int × Value)} (hn : (l.map (·.1)).Nodup) {k : Int} {v : Value} (h : (k, v) ∈ l) : mget l k = some v := by
  induction l with
  | nil => cases h
  | cons p r ih =>
    rw [List.map_cons, List.nodup_cons] at hn
    unfold mget
    rcases List.mem_cons.1 h with h1 | h1
    · rw [← h1]; simp
    · have h2 : p.1 ≠ k := fun e => hn.1 (by rw [e]; exact List.mem_map.2 ⟨(k, v), h1, rfl⟩)
      rw [if_neg h2]
      exact ih hn.2 h1
theorem mget_append {l : List (Int × Value)} {k : Int} {v : Value} (h : mget l k = none) (j : Int) : mget (l ++ [(k, v)]) j = if j = k then some v else mget l j := by
  induction l with
  | nil =>
    simp only [List.nil_append, mget]
    by_cases e : j = k
    · simp [e]
    · rw [if_neg e, if_neg (fun h => e h.symm)]
  | cons p r ih =>
    have hr : mget r k = none := by
      unfold mget at h
      by_cases h1 : p.1 = k
      · rw [if_pos h1] at h; cases h
      · rw [if_neg h1] at h; exact h
    have hp : p.1 ≠ k := mget_none.1 h p List.mem_cons_self
    rw [List.cons_append, mget, ih hr, mget]
    by_cases e : p.1 = j
    · rw [if_pos e, if_pos e, if_neg (fun e2 => hp (e.trans e2))]
    · rw [if_neg e, if_neg e]
theorem mget_over {l : List (Int × Value)} {k : Int} {v : Value} (h : (mget l k).isSome = true) (j : Int) : mget (l.map (fun p => if p.1 = k then (k, v) else p)) j = if j = k then some v else mget l j := by
  induction l with
  | nil => cases h
  | cons p r ih =>
    rw [List.map_cons, mget, mget]
    by_cases h1 : p.1 = k
    · rw [if_pos h1]
      dsimp only
      by_cases e : j = k
      · rw [if_pos e.symm, if_pos e]
      · rw [if_neg (fun e2 => e e2.symm), if_neg e, if_neg (fun e2 => e (e2.symm.trans h1))]
        have : ∀ r : List (Int × Value), mget (r.map (fun p => if p.1 = k then (k, v) else p)) j = mget r j := by
          intro r
          induction r with
          | nil => rfl
          | cons q r ih =>
            rw [List.map_cons, mget, mget, ih]
            by_cases h3 : q.1 = k
            · rw [if_pos h3]
              dsimp only
              rw [if_neg (fun e2 => e e2.symm), if_neg (fun e2 => e (e2.symm.trans h3))]
            · rw [if_neg h3]
        exact this r
    · rw [if_neg h1]
      have hr : (mget r k).isSome = true := by unfold mget at h; rw [if_neg h1] at h; exact h
      rw [ih hr]
      by_cases e : p.1 = j
      · rw [if_pos e, if_pos e, if_neg (fun e2 => h1 (e.trans e2))]
      · rw [if_neg e, if_neg e]
theorem mget_put (l : List (Int × Value)) (k : Int) (v : Value) (j : Int) : mget (mput l k v) j = if j = k then some v else mget l j := by
  unfold mput
  by_cases h : (mget l k).isSome = true
  · rw [if_pos h]; exact mget_over h j
  · rw [if_neg h]; exact mget_append (by simpa using h) j
theorem mget_del (l : List (Int × Value)) (k j : Int) : mget (mdel l k) j = if j = k then none else mget l j := by
  unfold mdel
  induction l with
  | nil => simp [mget]
  | cons p r ih =>
    rw [List.filter_cons]
    by_cases h1 : p.1 = k
    · rw [if_neg (by simp [h1]), ih, mget]
      by_cases e : j = k
      · rw [if_pos e, if_pos e]
      · rw [if_neg e, if_neg e, if_neg (fun e2 => e (e2.symm.trans h1))]
    · rw [if_pos (by simp [h1]), mget, mget, ih]
      by_cases e : p.1 = j
      · rw [if_pos e, if_pos e, if_neg (fun e2 => h1 (e.trans e2))]
      · rw [if_neg e, if_neg e]
/-- No key comes twice, and each is a number of int. -/
structure Mok (l : List (Int × Value)) : Prop where
  keys : (l.map (·.1)).Nodup
  fits : ∀ p ∈ l, (Lit.int .i64 p.1).wf = true
theorem Mok.nil : Mok [] := ⟨List.nodup_nil, fun p hp => by cases hp⟩
theorem over_keys (l : List (Int × Value)) (k : Int) (v : Value) : (l.map (fun p => if p.1 = k then (k, v) else p)).map (·.1) = l.map (·.1) := by
  rw [List.map_map]
  refine List.map_congr_left fun p _ => ?_
  show (if p.1 = k then (k, v) else p).1 = p.1
  by_cases h : p.1 = k
  · rw [if_pos h]; exact h.symm
  · rw [if_neg h]
theorem Mok.put {l : List (Int × Value)} (h : Mok l) {k : Int} (hk : (Lit.int .i64 k).wf = true) (v : Value) : Mok (mput l k v) := by
  unfold mput
  by_cases h1 : (mget l k).isSome = true
  · rw [if_pos h1]
    refine ⟨by rw [over_keys]; exact h.keys, fun p hp => ?_⟩
    obtain ⟨q, hq, rfl⟩ := List.mem_map.1 hp
    by_cases h2 : q.1 = k
    · rw [if_pos h2]; exact hk
    · rw [if_neg h2]; exact h.fits q hq
  · rw [if_neg h1]
    have h2 := mget_none.1 (show mget l k = none by simpa using h1)
    refine ⟨?_, fun p hp => ?_⟩
    · rw [List.map_append, List.nodup_append]
      refine ⟨h.keys, by simp, fun a ha b hb => ?_⟩
      obtain ⟨p, hp, rfl⟩ := List.mem_map.1 ha
      have : b = k := by simpa using hb
      rw [this]; exact h2 p hp
    · rcases List.mem_append.1 hp with h3 | h3
      · exact h.fits p h3
      · have : p = (k, v) := by simpa using h3
        rw [this]; exact hk
theorem Mok.del {l : List (Int × Value)} (h : Mok l) (k : Int) : Mok (mdel l k) := ⟨(List.filter_sublist.map _).nodup h.keys, fun p hp => h.fits p (List.mem_filter.1 hp).1⟩
/-- The entries of a map are this list. -/
def Ents (es : Array MapEntry) (clock : Nat) (l : List (Int × Value)) : Prop := es.toList.map (fun e => (e.key, e.val)) = l.map (fun p => (Value.int .i64 p.1, p.2)) ∧ (es.toList.map (·.born)).Nodup ∧ ∀ e ∈ es.toList, e.born < clock
/-- Block b is a map that has these. -/
def Im (w : World) (b : Nat) (l : List (Int × Value)) : Prop := Mok l ∧ ∃ es clock, w.heap[b]? = some (.map es clock) ∧ Ents es clock l
theorem Im.ok {w : World} {b : Nat} {l : List (Int × Value)} (h : Im w b l) : Mok l := h.1
theorem Im.lt {w : World} {b : Nat} {l : List (Int × Value)} (h : Im w b l) : b < w.heap.size := by
  obtain ⟨_, es, clock, hb, _⟩ := h
  exact (Array.getElem?_eq_some_iff.1 hb).1
theorem Im.keep {w w' : World} {b : Nat} {l : List (Int × Value)} (h : Im w b l) (hb : w'.heap[b]? = w.heap[b]?) : Im w' b l := by
  obtain ⟨ho, es, clock, h1, h2⟩ := h
  exact ⟨ho, es, clock, by rw [hb]; exact h1, h2⟩
theorem Im.below {w w' : World} {b : Nat} {l : List (Int × Value)} (h : Im w b l) (hb : Below w.heap.size w w') : Im w' b l := h.keep (hb.block b h.lt)
theorem Im.only {w w' : World} {b g : Nat} {l : List (Int × Value)} (h : Im w b l) (hb : Only g w w') (hne : b ≠ g) : Im w' b l := h.keep (hb.block b h.lt hne)
theorem only_setBlock (w : World) (b : Nat) (o : Obj) : Only b w (setBlock w b o) := ⟨rfl, rfl, rfl, by simp [setBlock], fun k _ hk => by simp [setBlock, Ne.symm hk]⟩
theorem get_setBlock {w : World} {b : Nat} (hlt : b < w.heap.size) (o : Obj) : (setBlock w b o).heap[b]? = some o := by simp [setBlock, hlt]
theorem Ents.at {es : Array MapEntry} {clock : Nat} {l : List (Int × Value)} (h : Ents es clock l) {j : Nat} {e : MapEntry} (hj : es.toList[j]? = some e) : ∃ k, e.key = .int .i64 k ∧ l[j]? = some (k, e.val) := by
  have h1 := congrArg (fun x => x[j]?) h.1
  simp only [List.getElem?_map, hj, Option.map_some] at h1
  cases hl : l[j]? with
  | none => rw [hl] at h1; cases h1
  | some p =>
    rw [hl] at h1
    simp only [Option.map_some, Option.some.injEq, Prod.mk.injEq] at h1
    exact ⟨p.1, h1.1, by rw [h1.2]⟩
theorem Ents.mem {es : Array MapEntry} {clock : Nat} {l : List (Int × Value)} (h : Ents es clock l) {e : MapEntry} (he : e ∈ es.toList) : ∃ k, e.key = .int .i64 k ∧ (k, e.val) ∈ l := by
  obtain ⟨j, hj⟩ := List.mem_iff_getElem?.1 he
  obtain ⟨k, h1, h2⟩ := h.at hj
  exact ⟨k, h1, List.mem_of_getElem? h2⟩
theorem Ents.of_mem {es : Array MapEntry} {clock : Nat} {l : List (Int × Value)} (h : Ents es clock l) {k : Int} {v : Value} (hk : (k, v) ∈ l) : ∃ e ∈ es.toList, e.key = .int .i64 k ∧ e.val = v := by
  have h1 : (Value.int .i64 k, v) ∈ l.map (fun p => (Value.int .i64 p.1, p.2)) := List.mem_map.2 ⟨(k, v), hk, rfl⟩
  rw [← h.1] at h1
  obtain ⟨e, he, e2⟩ := List.mem_map.1 h1
  simp only [Prod.mk.injEq] at e2
  exact ⟨e, he, e2.1, e2.2⟩
section
variable {P : Program} {t e : TypeId}
theorem key3 (h3 : P.underlying 3 = some (.int .i64)) {k : Int} (hk : (Lit.int .i64 k).wf = true) : keyOf P 3 (.int .i64 k) = some (.int .i64 k) := Maps.keyOf_int_mk h3 hk
theorem ents_keys (h3 : P.underlying 3 = some (.int .i64)) {es : Array MapEntry} {clock : Nat} {l : List (Int × Value)} (h : Ents es clock l) (ho : Mok l) : ∀ e ∈ es.toList, ∃ x, keyOf P 3 e.key = some x := fun e he => by
  obtain ⟨k, h1, h2⟩ := h.mem he
  rw [h1]
  exact ⟨_, key3 h3 (ho.fits _ h2)⟩
/-- Looking for a key. -/
theorem im_find (h3 : P.underlying 3 = some (.int .i64)) {w : World} {es : Array MapEntry} {clock : Nat} {l : List (Int × Value)} (h : Ents es clock l) (ho : Mok l) {k : Int} (hk : (Lit.int .i64 k).wf = true) :
    ((Instr.findKey 3 (.int .i64 k) es.toList).run P w = .ok none w ∧ mget l k = none) ∨ ∃ j e, (Instr.findKey 3 (.int .i64 k) es.toList).run P w = .ok (some (j, e.val)) w ∧ es.toList[j]? = some e ∧ e.key = .int .i64 k ∧ mget l k = some e.val := by
  rcases (Maps.int_keyed h3).find w (key3 h3 hk) es.toList (ents_keys h3 h ho) with ⟨h1, h2⟩ | ⟨j, e, h1, h2, h4⟩
  · refine .inl ⟨h1, mget_none.2 fun p hp e => ?_⟩
    obtain ⟨x, hx, e1, _⟩ := h.of_mem (k := p.1) (v := p.2) hp
    exact h2 x hx (by rw [e1, e])
  · refine .inr ⟨j, e, h1, h2, h4, ?_⟩
    obtain ⟨k', e1, e2⟩ := h.at h2
    rw [h4] at e1
    obtain rfl : k = k' := by injection e1
    exact mget_of_mem ho.keys (List.mem_of_getElem? e2)
/-- m[k] with ok. -/
theorem run_lookupI (h3 : P.underlying 3 = some (.int .i64)) (ht : P.underlying t = some (.map 3 e)) {w : World} {z : Value} (hz : (zeroValue e).run P w = .ok z w) {b : Nat} {l : List (Int × Value)} (h : Im w b l) {k : Int} (hk : (Lit.int .i64 k).wf = true) :
    (Instr.lookup t (.map (some b)) (.int .i64 k) true).run P w = .ok (.tuple #[(mget l k).getD z, .bool (mget l k).isSome]) w := by
  obtain ⟨ho, es, clock, hb, hE⟩ := h
  have hc := (Maps.int_keyed h3).check w es.isEmpty (key3 h3 hk)
  have hg := MapKept.run_getObj_map (P := P) hb
  rcases im_find (w := w) h3 hE ho hk with ⟨h1, h2⟩ | ⟨j, e0, h1, _, _, h2⟩
  · rw [h2]
    simp [Instr.lookup, run_underlying ht, hg, hc, h1, hz, Result.andThen]
  · rw [h2]
    simp [Instr.lookup, run_underlying ht, hg, hc, h1, Result.andThen]
/-- m[k] = v. -/
theorem run_updateI (h3 : P.underlying 3 = some (.int .i64)) (ht : P.underlying t = some (.map 3 e)) {w : World} {b : Nat} {l : List (Int × Value)} (h : Im w b l) {k : Int} (hk : (Lit.int .i64 k).wf = true) (v : Value) :
    ∃ w', (Instr.mapUpdate t (.map (some b)) (.int .i64 k) v).run P w = .ok () w' ∧ Im w' b (mput l k v) ∧ Only b w w' := by
  obtain ⟨ho, es, clock, hb, hE⟩ := h
  have hc := (Maps.int_keyed h3).check w false (key3 h3 hk)
  have hs := (Maps.int_keyed h3).stays w (key3 h3 hk)
  have hg := MapKept.run_getObj_map (P := P) hb
  have hlt := (Array.getElem?_eq_some_iff.1 hb).1
  rcases im_find (w := w) h3 hE ho hk with ⟨h1, h2⟩ | ⟨j, e0, h1, h4, h5, h2⟩
  · refine ⟨setBlock w b (.map (es.push ⟨.int .i64 k, v, clock⟩) (clock + 1)), ?_, ⟨ho.put hk v, es.push ⟨.int .i64 k, v, clock⟩, clock + 1, get_setBlock hlt _, ?_, ?_, ?_⟩, only_setBlock _ _ _⟩
    · simp [Instr.mapUpdate, run_underlying ht, hg, hc, h1, MapKept.run_setObj_map _ hb, Result.andThen, setBlock]
    · unfold mput
      rw [h2]
      simp [hE.1]
    · rw [Array.toList_push, List.map_append, List.nodup_append]
      refine ⟨hE.2.1, by simp, fun a ha b hb => ?_⟩
      obtain ⟨x, hx, rfl⟩ := List.mem_map.1 ha
      have : b = clock := by simpa using hb
      have := hE.2.2 x hx
      omega
    · intro x hx
      rw [Array.toList_push] at hx
      rcases List.mem_append.1 hx with h6 | h6
      · have := hE.2.2 x h6; omega
      · have : x = ⟨.int .i64 k, v, clock⟩ := by simpa using h6
        rw [this]; exact Nat.lt_succ_self _
  · have hj : es[j]? = some e0 := by rw [← Array.getElem?_toList]; exact h4
    have hjl : j < es.size := (Array.getElem?_eq_some_iff.1 hj).1
    have hl2 : (es.modify j fun e => { e with key := .int .i64 k, val := v }).toList = es.toList.modify j fun e => { e with key := .int .i64 k, val := v } := by simp
    refine ⟨setBlock w b (.map (es.modify j fun e => { e with key := .int .i64 k, val := v }) clock), ?_, ⟨ho.put hk v, es.modify j fun e => { e with key := .int .i64 k, val := v }, clock, get_setBlock hlt _, ?_, ?_, ?_⟩, only_setBlock _ _ _⟩
    · have h6 : ((es[j]?).map (·.key)).getD (.int .i64 k) = .int .i64 k := by rw [hj]; simp [h5]
      simp [Instr.mapUpdate, run_underlying ht, hg, hc, h1, h6, hs, MapKept.run_setObj_map _ hb, Result.andThen, setBlock]
    · rw [hl2]
      unfold mput
      rw [h2]
      simp only [Option.isSome_some, if_true]
      apply List.ext_getElem?
      intro i
      rw [List.getElem?_map, List.getElem?_map, List.getElem?_map, List.getElem?_modify]
      have h7 := congrArg (fun x => x[i]?) hE.1
      simp only [List.getElem?_map] at h7
      by_cases hij : j = i
      · subst hij
        obtain ⟨k', e1, e2⟩ := hE.at h4
        rw [h5] at e1
        obtain rfl : k = k' := by injection e1
        simp [h4, e2]
      · cases hl : l[i]? with
        | none =>
          rw [hl] at h7
          cases hx : es.toList[i]? with
          | none => simp
          | some x => rw [hx] at h7; cases h7
        | some p =>
          rw [hl] at h7
          cases hx : es.toList[i]? with
          | none => rw [hx] at h7; cases h7
          | some x =>
            rw [hx] at h7
            have hpk : p.1 ≠ k := by
              obtain ⟨k', e1, e2⟩ := hE.at h4
              rw [h5] at e1
              obtain rfl : k = k' := by injection e1
              intro e
              have h8 : (l.map (·.1))[i]? = some k := by rw [List.getElem?_map, hl]; simp [e]
              have h9 : (l.map (·.1))[j]? = some k := by rw [List.getElem?_map, e2]; rfl
              have hi9 := (List.getElem?_eq_some_iff.1 h8)
              have hj9 := (List.getElem?_eq_some_iff.1 h9)
              obtain ⟨hi1, hi2⟩ := hi9
              obtain ⟨hj1, hj2⟩ := hj9
              have hp9 := List.pairwise_iff_getElem.1 ho.keys
              rcases Nat.lt_or_gt_of_ne hij with h10 | h10
              · exact hp9 j i hj1 hi1 h10 (hj2.trans hi2.symm)
              · exact hp9 i j hi1 hj1 h10 (hi2.trans hj2.symm)
            simp only [Option.map_some, Option.some.injEq] at h7
            simp [hij, hpk, h7]
    · rw [hl2]
      have : (es.toList.modify j fun e => { e with key := .int .i64 k, val := v }).map (·.born) = es.toList.map (·.born) := by
        apply List.ext_getElem?
        intro i
        rw [List.getElem?_map, List.getElem?_map, List.getElem?_modify]
        cases es.toList[i]? with
        | none => simp
        | some x => by_cases hij : j = i <;> simp [hij]
      rw [this]
      exact hE.2.1
    · intro x hx
      rw [hl2] at hx
      obtain ⟨i, hi⟩ := List.mem_iff_getElem?.1 hx
      rw [List.getElem?_modify] at hi
      cases hy : es.toList[i]? with
      | none => rw [hy] at hi; simp at hi
      | some y =>
        rw [hy] at hi
        have := hE.2.2 y (List.mem_of_getElem? hy)
        by_cases hij : j = i
        · simp [hij] at hi; rw [← hi]; exact this
        · simp [hij] at hi; rw [← hi]; exact this
theorem filter_erase : ∀ {l : List (Int × Value)}, (l.map (·.1)).Nodup → ∀ {j : Nat} {k : Int} {v : Value}, l[j]? = some (k, v) → l.eraseIdx j = mdel l k
  | [], _, j, k, v, h => by simp at h
  | p :: r, hn, 0, k, v, h => by
    rw [List.map_cons, List.nodup_cons] at hn
    obtain rfl : p = (k, v) := by simpa using h
    show r = mdel ((k, v) :: r) k
    unfold mdel
    rw [List.filter_cons, if_neg (by simp)]
    refine (List.filter_eq_self.2 fun q hq => ?_).symm
    rw [decide_eq_true_iff]
    exact fun e => hn.1 (by rw [← e]; exact List.mem_map.2 ⟨q, hq, rfl⟩)
  | p :: r, hn, j + 1, k, v, h => by
    rw [List.map_cons, List.nodup_cons] at hn
    have h1 : r[j]? = some (k, v) := by simpa using h
    have hpk : p.1 ≠ k := fun e => hn.1 (by rw [e]; exact List.mem_map.2 ⟨(k, v), List.mem_of_getElem? h1, rfl⟩)
    have ih := filter_erase hn.2 h1
    unfold mdel at ih ⊢
    rw [List.filter_cons, if_pos (by simp [hpk]), List.eraseIdx_cons_succ, ih]
theorem mdel_none {l : List (Int × Value)} {k : Int} (h : mget l k = none) : mdel l k = l := List.filter_eq_self.2 fun q hq => by rw [decide_eq_true_iff]; exact mget_none.1 h q hq
/-- delete(m, k). -/
theorem run_deleteI (h3 : P.underlying 3 = some (.int .i64)) (ht : P.underlying t = some (.map 3 e)) {w : World} {b : Nat} {l : List (Int × Value)} (h : Im w b l) {k : Int} (hk : (Lit.int .i64 k).wf = true) (t2 ty : TypeId) :
    ∃ w', (Builtin.delete_ #[t, t2] ty #[.map (some b), .int .i64 k]).run P w = .ok (.tuple #[]) w' ∧ Im w' b (mdel l k) ∧ Only b w w' := by
  obtain ⟨ho, es, clock, hb, hE⟩ := h
  have hc := (Maps.int_keyed h3).check w es.isEmpty (key3 h3 hk)
  have hg := MapKept.run_getObj_map (P := P) hb
  have hlt := (Array.getElem?_eq_some_iff.1 hb).1
  rcases im_find (w := w) h3 hE ho hk with ⟨h1, h2⟩ | ⟨j, e0, h1, h4, h5, h2⟩
  · refine ⟨setBlock w b (.map es clock), ?_, ⟨ho.del k, es, clock, get_setBlock hlt _, by rw [mdel_none h2]; exact hE⟩, only_setBlock _ _ _⟩
    simp [Builtin.delete_, run_underlying ht, hg, hc, h1, MapKept.run_setObj_map _ hb, Result.andThen, setBlock]
  · obtain ⟨k', e1, e2⟩ := hE.at h4
    rw [h5] at e1
    obtain rfl : k = k' := by injection e1
    have hl2 : (es.eraseIdxIfInBounds j).toList = es.toList.eraseIdx j := by simp
    refine ⟨setBlock w b (.map (es.eraseIdxIfInBounds j) clock), ?_, ⟨ho.del k, es.eraseIdxIfInBounds j, clock, get_setBlock hlt _, ?_, ?_, ?_⟩, only_setBlock _ _ _⟩
    · simp [Builtin.delete_, run_underlying ht, hg, hc, h1, MapKept.run_setObj_map _ hb, Result.andThen, setBlock]
    · rw [hl2, ← filter_erase ho.keys e2, ChangeMaps.map_eraseIdx, hE.1, ChangeMaps.map_eraseIdx]
    · rw [hl2, ChangeMaps.map_eraseIdx]
      exact (List.eraseIdx_sublist _ _).nodup hE.2.1
    · intro x hx
      rw [hl2] at hx
      exact hE.2.2 x ((List.eraseIdx_sublist _ _).subset hx)
/-- clear(m). -/
theorem run_clearI (ht : P.underlying t = some (.map 3 e)) {w : World} {b : Nat} {l : List (Int × Value)} (h : Im w b l) (ty : TypeId) :
    ∃ w', (Builtin.clear_ #[t] ty #[.map (some b)]).run P w = .ok (.tuple #[]) w' ∧ Im w' b [] ∧ Only b w w' := by
  obtain ⟨ho, es, clock, hb, hE⟩ := h
  have hg := MapKept.run_getObj_map (P := P) hb
  have hlt := (Array.getElem?_eq_some_iff.1 hb).1
  refine ⟨setBlock w b (.map #[] clock), ?_, ⟨Mok.nil, #[], clock, get_setBlock hlt _, ⟨rfl, by simp, fun x hx => by simp at hx⟩⟩, only_setBlock _ _ _⟩
  simp [Builtin.clear_, run_underlying ht, hg, MapKept.run_setObj_map _ hb, Result.andThen, setBlock]
/-- make(map[int]T). -/
theorem run_makeI (w : World) : (Instr.makeMap t none).run P w = .ok (.map (some w.heap.size)) (w.alloc (.map #[] 0)) ∧ Im (w.alloc (.map #[] 0)) w.heap.size [] := by
  exact ⟨run_makeMap t w, Mok.nil, #[], 0, (MapKept.heap_alloc w _).1, ⟨rfl, by simp, fun x hx => by simp at hx⟩⟩
/-- Block r goes through the map at b, which has the list l; V has come. -/
def It (w : World) (r b : Nat) (l V : List (Int × Value)) : Prop := Mok l ∧ ∃ (es : Array MapEntry) (clock since : Nat) (seen : Array Nat) (vs : List MapEntry), w.heap[b]? = some (.map es clock) ∧ Ents es clock l ∧ w.heap[r]? = some (.mapIter (some b) since seen clock) ∧ since = clock ∧
  seen.toList = vs.map (·.born) ∧ (∀ x ∈ vs, x ∈ es.toList) ∧ (vs.map (·.born)).Nodup ∧ vs.map (fun e => (e.key, e.val)) = V.map (fun p => (Value.int .i64 p.1, p.2))
theorem It.im {w : World} {r b : Nat} {l V : List (Int × Value)} (h : It w r b l V) : Im w b l := by
  obtain ⟨ho, es, clock, since, seen, vs, hb, hE, _⟩ := h
  exact ⟨ho, es, clock, hb, hE⟩
theorem It.lt {w : World} {r b : Nat} {l V : List (Int × Value)} (h : It w r b l V) : r < w.heap.size ∧ b < w.heap.size ∧ r ≠ b := by
  obtain ⟨ho, es, clock, since, seen, vs, hb, hE, hr, _⟩ := h
  exact ⟨(Array.getElem?_eq_some_iff.1 hr).1, (Array.getElem?_eq_some_iff.1 hb).1, fun e => by rw [e, hb] at hr; cases hr⟩
theorem It.keep {w w' : World} {r b : Nat} {l V : List (Int × Value)} (h : It w r b l V) (h1 : w'.heap[r]? = w.heap[r]?) (h2 : w'.heap[b]? = w.heap[b]?) : It w' r b l V := by
  obtain ⟨ho, es, clock, since, seen, vs, hb, hE, hr, rest⟩ := h
  exact ⟨ho, es, clock, since, seen, vs, by rw [h2]; exact hb, hE, by rw [h1]; exact hr, rest⟩
theorem It.sub {w : World} {r b : Nat} {l V : List (Int × Value)} (h : It w r b l V) : ∀ p ∈ V, p ∈ l := by
  obtain ⟨ho, es, clock, since, seen, vs, hb, hE, hr, _, _, hvs, _, hV⟩ := h
  intro p hp
  have : (Value.int .i64 p.1, p.2) ∈ V.map (fun p => (Value.int .i64 p.1, p.2)) := List.mem_map.2 ⟨p, hp, rfl⟩
  rw [← hV] at this
  obtain ⟨x, hx, e⟩ := List.mem_map.1 this
  obtain ⟨k, h1, h2⟩ := hE.mem (hvs x hx)
  simp only [Prod.mk.injEq] at e
  rw [e.1] at h1
  have hk : p.1 = k := by injection h1
  rw [← hk, e.2] at h2
  exact h2
/-- for .. range m: the iterator is made. -/
theorem run_rangeI (ht : P.underlying t = some (.map 3 e)) {w : World} {b : Nat} {l : List (Int × Value)} (h : Im w b l) :
    ∃ w', (Instr.range t (.map (some b))).run P w = .ok (.pointer (some ⟨w.heap.size, 0, none⟩)) w' ∧ It w' w.heap.size b l [] ∧ Below w.heap.size w w' := by
  obtain ⟨ho, es, clock, hb, hE⟩ := h
  have hg := MapKept.run_getObj_map (P := P) hb
  have hlt := (Array.getElem?_eq_some_iff.1 hb).1
  refine ⟨w.alloc (.mapIter (some b) clock #[] clock), ?_, ⟨ho, es, clock, clock, #[], [], ?_, hE, (MapKept.heap_alloc w _).1, rfl, rfl, fun x hx => by (cases hx), List.nodup_nil, rfl⟩, (Below.refl _ _).alloc (Nat.le_refl _) _⟩
  · exact run_range_map w t 3 e b es clock ht hb
  · have := ((Below.refl w.heap.size w).alloc (Nat.le_refl _) (.mapIter (some b) clock #[] clock)).block b hlt
    rw [this]; exact hb
/-- One step: nothing is left, or one that has not come comes. -/
theorem run_nextI {w : World} {r b : Nat} {l V : List (Int × Value)} (h : It w r b l V) (ty : TypeId) :
    ((∀ p ∈ l, p ∈ V) ∧ (Instr.next (.pointer (some ⟨r, 0, none⟩)) false ty).run P w = .ok (.tuple #[.bool false]) w) ∨
    ∃ p w', p ∈ l ∧ p ∉ V ∧ (Instr.next (.pointer (some ⟨r, 0, none⟩)) false ty).run P w = .ok (.tuple #[.bool true, .int .i64 p.1, p.2]) w' ∧ It w' r b l (V ++ [p]) ∧ Only r w w' := by
  have hlt := h.lt
  obtain ⟨ho, es, clock, since, seen, vs, hb, hE, hr, hsc, hseen, hvs, hvn, hV⟩ := h
  subst hsc
  have hmem : ∀ x ∈ es.toList, (x ∈ (leftOf es seen).toList ↔ x ∉ vs) := by
    intro x hx
    unfold leftOf
    rw [Array.toList_filter, List.mem_filter]
    have hc : seen.contains x.born = true ↔ x ∈ vs := by
      rw [Array.contains_iff_mem, ← Array.mem_toList_iff, hseen, List.mem_map]
      constructor
      · rintro ⟨y, hy, e⟩
        have hp := List.pairwise_iff_getElem.1 hE.2.1
        obtain ⟨i, hi⟩ := List.mem_iff_getElem?.1 hx
        obtain ⟨j, hj⟩ := List.mem_iff_getElem?.1 (hvs y hy)
        by_cases hij : i = j
        · subst hij
          rw [hi] at hj
          rw [Option.some.inj hj]
          exact hy
        · obtain ⟨i1, i2⟩ := List.getElem?_eq_some_iff.1 hi
          obtain ⟨j1, j2⟩ := List.getElem?_eq_some_iff.1 hj
          exfalso
          rcases Nat.lt_or_gt_of_ne hij with h10 | h10
          · exact hp i j (by simpa using i1) (by simpa using j1) h10 (by rw [List.getElem_map, List.getElem_map, i2, j2, e])
          · exact hp j i (by simpa using j1) (by simpa using i1) h10 (by rw [List.getElem_map, List.getElem_map, i2, j2, e])
      · intro h1
        exact ⟨x, h1, rfl⟩
    constructor
    · rintro ⟨_, h1⟩ h2
      rw [hc.2 h2] at h1
      cases h1
    · intro h1
      refine ⟨hx, ?_⟩
      cases h2 : seen.contains x.born with
      | false => rfl
      | true => exact absurd (hc.1 h2) h1
  have hkv : ∀ x ∈ es.toList, ∀ k, x.key = .int .i64 k → (x ∈ vs ↔ (k, x.val) ∈ V) := by
    intro x hx k hk
    constructor
    · intro h1
      have h2 : (x.key, x.val) ∈ vs.map (fun e => (e.key, e.val)) := List.mem_map.2 ⟨x, h1, rfl⟩
      rw [hV] at h2
      obtain ⟨p, hp, e⟩ := List.mem_map.1 h2
      simp only [Prod.mk.injEq] at e
      rw [hk] at e
      have e1 : p.1 = k := by have := e.1; injection this
      have : p = (k, x.val) := by rw [← e1, ← e.2]
      rw [← this]; exact hp
    · intro h1
      have h2 : (Value.int .i64 k, x.val) ∈ V.map (fun p => (Value.int .i64 p.1, p.2)) := List.mem_map.2 ⟨(k, x.val), h1, rfl⟩
      rw [← hV] at h2
      obtain ⟨y, hy, e⟩ := List.mem_map.1 h2
      simp only [Prod.mk.injEq] at e
      -- x and y have one key, so they are one
      obtain ⟨i, hi⟩ := List.mem_iff_getElem?.1 hx
      obtain ⟨j, hj⟩ := List.mem_iff_getElem?.1 (hvs y hy)
      obtain ⟨k1, a1, a2⟩ := hE.at hi
      obtain ⟨k2, b1, b2⟩ := hE.at hj
      rw [hk] at a1
      rw [e.1] at b1
      obtain rfl : k = k1 := by injection a1
      obtain rfl : k = k2 := by injection b1
      have hp := List.pairwise_iff_getElem.1 ho.keys
      by_cases hij : i = j
      · subst hij
        rw [hi] at hj
        rw [Option.some.inj hj]
        exact hy
      · exfalso
        obtain ⟨i1, i2⟩ := List.getElem?_eq_some_iff.1 a2
        obtain ⟨j1, j2⟩ := List.getElem?_eq_some_iff.1 b2
        rcases Nat.lt_or_gt_of_ne hij with h10 | h10
        · exact hp i j (by simpa using i1) (by simpa using j1) h10 (by rw [List.getElem_map, List.getElem_map, i2, j2])
        · exact hp j i (by simpa using j1) (by simpa using i1) h10 (by rw [List.getElem_map, List.getElem_map, i2, j2])
  rcases run_next_at (P := P) w ty r b since since seen es since hr hb hE.2.2 (Nat.le_refl _) with ⟨h0, hrun⟩ | ⟨x, hx, w1, hw1, hrun⟩
  · refine .inl ⟨fun p hp => ?_, hrun⟩
    obtain ⟨x, hx, e1, e2⟩ := hE.of_mem (k := p.1) (v := p.2) hp
    have h1 : x ∈ vs := by
      refine Classical.byContradiction fun h2 => ?_
      have h3 := (hmem x hx).2 h2
      have h4 : (leftOf es seen).toList = [] := List.eq_nil_of_length_eq_zero (by simpa using h0)
      rw [h4] at h3
      cases h3
    have := (hkv x hx p.1 e1).1 h1
    rw [e2] at this
    exact this
  · have hxe : x ∈ es.toList := by
      unfold leftOf at hx
      rw [Array.toList_filter] at hx
      exact (List.mem_filter.1 hx).1
    have hxv := (hmem x hxe).1 hx
    obtain ⟨k, e1, e2⟩ := hE.mem hxe
    have hw : w1.heap = w.heap ∧ w1.os = w.os ∧ w1.tape = w.tape ∧ w1.output = w.output := by rcases hw1 with rfl | rfl <;> exact ⟨rfl, rfl, rfl, rfl⟩
    refine .inr ⟨(k, x.val), setBlock w1 r (.mapIter (some b) since (seen.push x.born) since), e2, fun h1 => hxv ((hkv x hxe k e1).2 h1), ?_, ⟨ho, es, since, since, seen.push x.born, vs ++ [x], ?_, hE, ?_, rfl, ?_, ?_, ?_, ?_⟩, ?_⟩
    · rw [hrun, e1]
    · have := (only_setBlock w1 r (.mapIter (some b) since (seen.push x.born) since)).block b (by rw [hw.1]; exact hlt.2.1) hlt.2.2.symm
      rw [this, hw.1]
      exact hb
    · exact get_setBlock (by rw [hw.1]; exact hlt.1) _
    · simp [hseen]
    · intro y hy
      rcases List.mem_append.1 hy with h1 | h1
      · exact hvs y h1
      · have : y = x := by simpa using h1
        rw [this]; exact hxe
    · rw [List.map_append, List.nodup_append]
      refine ⟨hvn, by simp, fun a ha c hc => ?_⟩
      have hcx : c = x.born := by simpa using hc
      obtain ⟨y, hy, rfl⟩ := List.mem_map.1 ha
      rw [hcx]
      intro e
      have hp := List.pairwise_iff_getElem.1 hE.2.1
      obtain ⟨i, hi⟩ := List.mem_iff_getElem?.1 hxe
      obtain ⟨j, hj⟩ := List.mem_iff_getElem?.1 (hvs y hy)
      by_cases hij : i = j
      · subst hij
        rw [hi] at hj
        exact hxv (by rw [Option.some.inj hj]; exact hy)
      · obtain ⟨i1, i2⟩ := List.getElem?_eq_some_iff.1 hi
        obtain ⟨j1, j2⟩ := List.getElem?_eq_some_iff.1 hj
        rcases Nat.lt_or_gt_of_ne hij with h10 | h10
        · exact hp i j (by simpa using i1) (by simpa using j1) h10 (by rw [List.getElem_map, List.getElem_map, i2, j2, e])
        · exact hp j i (by simpa using j1) (by simpa using i1) h10 (by rw [List.getElem_map, List.getElem_map, i2, j2, e])
    · simp [hV, e1]
    · have := only_setBlock w1 r (.mapIter (some b) since (seen.push x.born) since)
      exact ⟨this.os.trans hw.2.1, this.tape.trans hw.2.2.1, this.output.trans hw.2.2.2, by rw [← hw.1]; exact this.size, fun j hj hne => by rw [this.block j (by rw [hw.1]; exact hj) hne, hw.1]⟩
/-- The entry that has come, asked again. -/
theorem run_entryI {w : World} {r b : Nat} {l V : List (Int × Value)} {p : Int × Value} (h : It w r b l (V ++ [p])) : (Instr.entry (.pointer (some ⟨r, 0, none⟩))).run P w = .ok (.tuple #[.int .i64 p.1, p.2]) w := by
  obtain ⟨ho, es, clock, since, seen, vs, hb, hE, hr, hsc, hseen, hvs, hvn, hV⟩ := h
  rcases List.eq_nil_or_concat vs with h1 | ⟨vs0, x, h1⟩
  · rw [h1] at hV; simp at hV
  · rw [List.concat_eq_append] at h1
    subst h1
    rw [List.map_append, List.map_append] at hV
    have h2 := List.append_inj_right' hV (by simp)
    simp only [List.map_cons, List.map_nil, List.cons.injEq, Prod.mk.injEq, and_true] at h2
    have h3 : seen = (vs0.map (·.born)).toArray.push x.born := by
      apply Array.toList_inj.1
      rw [hseen]; simp
    rw [h3] at hr
    rw [run_entry_at w r b since _ es clock x hr hb (hvs x (by simp)) hE.2.1, h2.1, h2.2]
end
end Go.Proofs.Ytjdpomilifnlaaa
namespace Go.Proofs.Ytjdpomilifnlaaa
set_option maxRecDepth 100000
open Go.RowKit
theorem Fr.mono {S T : Nat → Prop} {w w1 : World} (h : Fr S w w1) (hT : ∀ j, S j → T j) : Fr T w w1 := ⟨h.os, h.tape, h.output, h.size, fun j hj h1 => h.block j hj (fun q => h1 (hT j q))⟩
/-- A slice of bytes, not empty, in a block of its kind. -/
def Fz (w : World) (N : Nat → Prop) (v : Value) (bs : List (BitVec 8)) : Prop := ∃ b c o, v = .slice (some ⟨b, o, none⟩) bs.length c ∧ bs.length ≤ c ∧ 0 < bs.length ∧ N b ∧ b < w.heap.size ∧ HasB w b o bs
theorem Fz.keep {w w' : World} {N N' : Nat → Prop} {v : Value} {bs : List (BitVec 8)} (h : Fz w N v bs) (hk : ∀ j, N j → j < w.heap.size → w'.heap[j]? = w.heap[j]?) (hz : w.heap.size ≤ w'.heap.size) (hN : ∀ j, N j → j < w.heap.size → N' j) : Fz w' N' v bs := by
  obtain ⟨b, c, o, e, h1, h2, h3, h4, h5⟩ := h
  exact ⟨b, c, o, e, h1, h2, hN b h3 h4, Nat.lt_of_lt_of_le h4 hz, fun i hi => by have := h5 i hi; simp only [World.cell?, hk b h3 h4] at this ⊢; exact this⟩
theorem Fz.sl {w : World} {N : Nat → Prop} {v : Value} {bs : List (BitVec 8)} (h : Fz w N v bs) : (Fk.sl bs).f v w := by
  obtain ⟨b, c, o, e, h1, h2, h3, h4, h5⟩ := h
  exact ⟨_, _, c, b, o, e, rfl, h1, (fun q => by cases q), fun _ => ⟨rfl, h4, h5⟩⟩
theorem Fz.one {w : World} {N : Nat → Prop} {v : Value} {bs : List (BitVec 8)} (h : Fz w N v bs) : v.oneCell' = true := by
  obtain ⟨b, c, o, rfl, _⟩ := h
  rfl
theorem Fz.pos {w : World} {N : Nat → Prop} {v : Value} {bs : List (BitVec 8)} (h : Fz w N v bs) : 0 < bs.length := by
  obtain ⟨b, c, o, e, h1, h2, _⟩ := h
  exact h2
/-- What the program keeps of the power. -/
def Pl (s : Dst) (pl : Int) : Prop := s.armed = decide (0 ≤ pl) ∧ (0 ≤ pl → s.left = pl) ∧ pl ≤ 9223372036854775807
/-- The program's disk in memory: its struct at g, its row of sectors at sb, its map at cb. -/
structure Dk (w : World) (g sb cb C : Nat) (pl : Int) (vs : Array Value) (l : List (Int × Value)) (M D : Nat → Prop) (s : Dst) : Prop where
  hM : ∀ j, M j ↔ (j = g ∨ j = sb ∨ j = cb)
  n1 : g ≠ sb
  n2 : g ≠ cb
  n3 : sb ≠ cb
  sub : ∀ j, M j → D j
  lt : ∀ j, D j → j < w.heap.size
  ob : Ob w g 63 [.int .i64 (s.size : Int), .slice (some ⟨sb, 0, none⟩) s.has.length C, .map (some cb), .int .i64 pl, .bool s.down, .int .i64 (s.done : Int)]
  row : w.heap[sb]? = some (.cells vs 29 (0, 0))
  im : Im w cb l
  pw : Pl s pl
  pos : 0 < s.size
  zmax : s.size ≤ 4096
  nmax : 0 < s.has.length ∧ s.has.length ≤ 65536
  cl : s.cch.length = s.has.length
  sec : ∀ (i : Nat) (bs : List (BitVec 8)), s.has[i]? = some bs → bs.length = s.size ∧ ∃ v, vs[i]? = some v ∧ Fz w (fun b => D b ∧ ¬ M b) v bs
  key : ∀ (k : Int) (v : Value), mget l k = some v → ∃ (i : Nat) (bs : List (BitVec 8)), k = i ∧ i < s.has.length ∧ s.cch[i]? = some bs ∧ bs.length = s.size ∧ Fz w (fun b => D b ∧ ¬ M b) v bs
  cch : ∀ (i : Nat) (bs : List (BitVec 8)), s.cch[i]? = some bs → bs ≠ [] → ∃ v, mget l (i : Int) = some v
/-- The program's disk: its struct's block, the blocks that it turns, all that are its own, what it holds. -/
def HD (w : World) (g : Nat) (M D : Nat → Prop) (s : Dst) : Prop := ∃ sb cb C pl vs l, Dk w g sb cb C pl vs l M D s
section
variable {w w' : World} {g sb cb C : Nat} {pl : Int} {vs : Array Value} {l : List (Int × Value)} {M D D' : Nat → Prop} {s : Dst}
theorem Dk.mg (r : Dk w g sb cb C pl vs l M D s) : M g := (r.hM g).2 (.inl rfl)
theorem Dk.ms (r : Dk w g sb cb C pl vs l M D s) : M sb := (r.hM sb).2 (.inr (.inl rfl))
theorem Dk.mc (r : Dk w g sb cb C pl vs l M D s) : M cb := (r.hM cb).2 (.inr (.inr rfl))
theorem Dk.keep (r : Dk w g sb cb C pl vs l M D s) (h : ∀ j, D j → w'.heap[j]? = w.heap[j]?) (hz : w.heap.size ≤ w'.heap.size) : Dk w' g sb cb C pl vs l M D s := by
  refine ⟨r.hM, r.n1, r.n2, r.n3, r.sub, fun j q => Nat.lt_of_lt_of_le (r.lt j q) hz, ?_, by rw [h _ (r.sub _ r.ms)]; exact r.row, r.im.keep (h _ (r.sub _ r.mc)), r.pw, r.pos, r.zmax, r.nmax, r.cl, fun i bs q => ?_, fun k v q => ?_, r.cch⟩
  · have := r.ob
    unfold Ob at *
    rw [h _ (r.sub _ r.mg)]
    exact this
  · obtain ⟨h1, v, h2, h3⟩ := r.sec i bs q
    exact ⟨h1, v, h2, h3.keep (fun j q _ => h j q.1) hz (fun _ q _ => q)⟩
  · obtain ⟨i, bs, h1, h2, h3, h4, h5⟩ := r.key k v q
    exact ⟨i, bs, h1, h2, h3, h4, h5.keep (fun j q _ => h j q.1) hz (fun _ q _ => q)⟩
theorem Dk.none_iff (r : Dk w g sb cb C pl vs l M D s) {i : Nat} {bs : List (BitVec 8)} (hb : s.cch[i]? = some bs) : bs = [] ↔ mget l (i : Int) = none := by
  constructor
  · intro e
    cases hq : mget l (i : Int) with
    | none => rfl
    | some v =>
      obtain ⟨i', bs', h1, _, h3, h4, _⟩ := r.key _ v hq
      obtain rfl : i = i' := by omega
      rw [hb] at h3
      cases h3
      rw [e] at h4
      have := r.pos
      simp at h4
      omega
  · intro e
    by_cases h : bs = []
    · exact h
    · obtain ⟨v, hv⟩ := r.cch i bs hb h
      rw [hv] at e
      cases e
theorem Dk.got (r : Dk w g sb cb C pl vs l M D s) {i : Nat} {bs : List (BitVec 8)} (hb : s.cch[i]? = some bs) {v : Value} (hv : mget l (i : Int) = some v) : bs ≠ [] ∧ Fz w (fun b => D b ∧ ¬ M b) v bs := by
  obtain ⟨i', bs', h1, _, h3, h4, h5⟩ := r.key _ v hv
  obtain rfl : i = i' := by omega
  rw [hb] at h3
  cases h3
  refine ⟨fun e => ?_, h5⟩
  rw [e] at h4
  have := r.pos
  simp at h4
  omega
theorem Dk.vsn (r : Dk w g sb cb C pl vs l M D s) {i : Nat} (hi : i < s.has.length) : i < vs.size := by
  obtain ⟨_, v, h2, _⟩ := r.sec i _ (List.getElem?_eq_getElem hi)
  exact (Array.getElem?_eq_some_iff.1 h2).1
theorem HD.lt (r : HD w g M D s) : ∀ j, D j → j < w.heap.size := by
  obtain ⟨_, _, _, _, _, _, r⟩ := r
  exact r.lt
theorem HD.sub (r : HD w g M D s) : ∀ j, M j → D j := by
  obtain ⟨_, _, _, _, _, _, r⟩ := r
  exact r.sub
theorem HD.keep (r : HD w g M D s) (h : ∀ j, D j → w'.heap[j]? = w.heap[j]?) (hz : w.heap.size ≤ w'.heap.size) : HD w' g M D s := by
  obtain ⟨_, _, _, _, _, _, r⟩ := r
  exact ⟨_, _, _, _, _, _, r.keep h hz⟩
theorem HD.below (r : HD w g M D s) (hb : Below w.heap.size w w') : HD w' g M D s := r.keep (fun j hj => hb.block j (r.lt j hj)) hb.size
end
end Go.Proofs.Ytjdpomilifnlaaa
namespace Go.Proofs.Ytjdpomilifnlaaa
set_option maxRecDepth 100000
open Go.RowKit
section
variable {P : Program} {ops : Array Oper} {Q : Exit → Act → World → Prop} {S : World → Prop} {o : Oper} {a : Act}
theorem wh_take (i : Nat) (d : Nat) {v : Value} {fuel : Nat} {listed : Array Bool} {w : World} (hi : ops[i]? = some o) (hd : o.dst = some d) (hsz : d < a.tmps.size) (hg : o.guard = none)
    (hs : Region.noSelect ops = true) (hf : Region.free .any ops listed i = true) (hr : (Region.ready .any ops listed).contains i = true)
    (hQ : ∀ c a w, Q (.panic c) (a.put o.dst v) w → Q (.panic c) a w) (hy : ∀ w, S w → (execOp a.eval o).run P w = .ok (.value v) w) (hS : S w)
    (h : ∀ a2, a2.defers = a.defers → a2.tmps.size = a.tmps.size → (∀ t, (t == d) = false → a2.eval (.tmp t) = a.eval (.tmp t)) → a2.eval (.tmp d) = v → wpAnyH P .any ops Q S fuel (listed.setIfInBounds i true) a2 w) : wpAnyH P .any ops Q S (fuel + 1) listed a w := by
  refine wpAnyH_take hi hs hf hr hQ (.inl ⟨by unfold Region.wanted; rw [hg], hy⟩) hS ?_
  rw [hd]
  exact h _ (put_def _ _ _) (put_size _ _ _) (fun t ht => put_eval_other _ _ _ _ (fun e => by subst e; simp at ht)) (put_eval_same _ _ _ hsz)
theorem run_field {T f : Nat} {x : Operand} (ho : o.op = .fieldAddr T x f) {p r : Addr} (hx : a.eval x = .pointer (some p)) (hr : ∀ w, (Instr.fieldAt T (.pointer (some p)) f).run P w = .ok (.pointer (some r)) w) : ∀ w, S w → (execOp a.eval o).run P w = .ok (.value (.pointer (some r))) w := by
  intro w _
  unfold execOp
  rw [ho]
  simp [hx, hr]
theorem run_loadc {T : TypeId} {x : Operand} (ho : o.op = .load T x) (h1 : ∀ w, (isAgg T).run P w = .ok false w) {p : Addr} {u : Value} (hx : a.eval x = .pointer (some p)) (hc : ∀ w, S w → w.cell? p = some u) : ∀ w, S w → (execOp a.eval o).run P w = .ok (.value u) w := by
  intro w hS
  unfold execOp
  rw [ho]
  simp [hx, Instr.loadAt, Instr.sureAddr, loadVar, h1, run_load, hc w hS]
theorem run_mv {x : Operand} (ho : o.op = .move x) {v : Value} (hx : a.eval x = v) : ∀ w, S w → (execOp a.eval o).run P w = .ok (.value v) w := by
  intro w _
  unfold execOp
  rw [ho, ← hx]
  rfl
end
end Go.Proofs.Ytjdpomilifnlaaa
namespace Go.Proofs.Ytjdpomilifnlaaa
set_option maxRecDepth 100000
open Go.RowKit
section
variable {S : World → Prop} {o : Oper} {a : Act} {Q : Exit → Act → World → Prop} {ops : Array Oper}
end
end Go.Proofs.Ytjdpomilifnlaaa
namespace Go.Proofs.Ytjdpomilifnlaaa
set_option maxRecDepth 100000
open Go.RowKit
section
variable {P : Program} {ops : Array Oper} {Q : Exit → Act → World → Prop} {S : World → Prop} {o : Oper} {a : Act}
theorem yield_of {j d : Nat} {b : Bool} (hj : (ops[j]?).bind (·.dst) = some d) (h : a.eval (.tmp d) = .bool b) : yielded ops a.tmps j = some b := by
  simp only [Act.eval, Array.getD_eq_getD_getElem?] at h
  unfold yielded
  rw [hj]
  simp only [Option.bind_some]
  cases hq : a.tmps[d]? with
  | none => rw [hq] at h; simp [undef] at h
  | some u => rw [hq] at h; simp at h; rw [h]
theorem want_of {j d : Nat} {b : Bool} (hg : o.guard = some (j, b)) (hj : (ops[j]?).bind (·.dst) = some d) (h : a.eval (.tmp d) = .bool b) : Region.wanted o (yielded ops a.tmps) = true := by
  unfold Region.wanted
  rw [hg]
  show (yielded ops a.tmps j == some b) = true
  rw [yield_of hj h]
  simp
variable {rest : List Oper} {w : World}
/-- A step in a chain, wanted. -/
theorem wl_onew (q : Fk) (hw : Region.wanted o (yielded ops a.tmps) = true) (d : Nat) (hd : o.dst = some d) (hsz : d < a.tmps.size) (hs2 : o.wp P a w (Ends a o.dst w q.f) Q)
    (h : ∀ a2 w2, a2.defers = a.defers → a2.tmps.size = a.tmps.size → (∀ t, (t == d) = false → a2.eval (.tmp t) = a.eval (.tmp t)) → q.f (a2.eval (.tmp d)) w2 → Below w.heap.size w w2 → wpList P ops Q rest a2 w2) : wpList P ops Q (o :: rest) a w := by
  unfold wpList
  rw [if_pos hw]
  refine .inl (Oper.wp_mono ?_ hs2)
  rintro a2 w2 ⟨v, rfl, hb, hq⟩
  rw [hd]
  refine h _ _ (put_def _ _ _) (put_size _ _ _) (fun t ht => put_eval_other _ _ _ _ (fun e => by subst e; simp at ht)) ?_ hb
  rw [put_eval_same _ _ _ hsz]
  exact hq
/-- A call in a chain, wanted; it may turn old blocks. -/
theorem wl_callw (f : FuncId) (x : Operand) (xs : Array Operand) (ts : Array TypeId) (vs : Array Value) (hw : Region.wanted o (yielded ops a.tmps) = true) (d : Nat) (hd : o.dst = some d) (hsz : d < a.tmps.size) (ho : o.op = .call { callee := .value x, args := xs, argTypes := ts }) (hx : a.eval x = .func (.func f) #[] #[]) (hv : (xs.toList.map a.eval).toArray = vs)
    (hf : ∀ args w, (callFunc f args).run P w = .ok (.enter f args) w) (R : Value → World → Prop) (hc : Calls P f vs w fun e w' => ∃ v, e = .returned v ∧ R v w')
    (h : ∀ a2 w2, a2.defers = a.defers → a2.tmps.size = a.tmps.size → (∀ t, (t == d) = false → a2.eval (.tmp t) = a.eval (.tmp t)) → R (a2.eval (.tmp d)) w2 → wpList P ops Q rest a2 w2) : wpList P ops Q (o :: rest) a w := by
  have hr : (execOp a.eval o).run P w = .ok (.enter f vs) w := by
    have hv' : xs.map a.eval = vs := by rw [← hv]; apply Array.toList_inj.1; simp
    unfold execOp; rw [ho]
    simp [resolve, hx, Deferred.ofValue, invoke, hv', hf]
  unfold wpList
  rw [if_pos hw]
  refine .inl ?_
  unfold Oper.wp; rw [hr]
  refine Calls.mono hc ?_
  rintro e w' ⟨v, rfl, h1⟩
  rw [hd]
  refine h _ _ (put_def _ _ _) (put_size _ _ _) (fun t ht => put_eval_other _ _ _ _ (fun e => by subst e; simp at ht)) ?_
  rw [put_eval_same _ _ _ hsz]
  exact h1
end
end Go.Proofs.Ytjdpomilifnlaaa
