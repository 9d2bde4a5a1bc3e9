/- Words and steps that the contracts and the laws share. Contracts: what looks at a disk. Contracts: Read; the power. -/
import Derived.Test.YtakdpkoigijonaaGreatM3
import Derived.Laws.AppendOwnNone
namespace Go.Proofs.YtakdpkoigijonaaGreat
set_option maxRecDepth 100000
open Go.RowKit
theorem Fr.next {S D : Nat → Prop} {w w1 w2 : World} (h : Fr S w w1) (h2 : Fr D w1 w2) (hD : ∀ j, D j → S j ∨ w.heap.size ≤ j) : Fr S w w2 := ⟨h2.os.trans h.os, h2.tape.trans h.tape, h2.output.trans h.output, Nat.le_trans h.size h2.size, fun j hj h1 => (h2.block j (Nat.lt_of_lt_of_le hj h.size) (fun h3 => by rcases hD j h3 with h4 | h4; exact h1 h4; omega)).trans (h.block j hj h1)⟩
theorem Fr.ob {S : Nat → Prop} {w w1 : World} {b : Nat} {T : TypeId} {cs : List Value} (h : Fr S w w1) (m : Ob w b T cs) (hb : ¬ S b) : Ob w1 b T cs := by
  have := h.block b (Ob.lt m) hb
  unfold Ob at *
  rw [this]
  exact m
theorem two_arg {a : Act} {x y : Operand} {u v : Value} (h : a.eval x = u) (h2 : a.eval y = v) : ((#[x, y].toList.map a.eval).toArray : Array Value) = #[u, v] := by rw [← h, ← h2]; rfl
theorem three_arg {a : Act} {x y z : Operand} {u v t : Value} (h : a.eval x = u) (h2 : a.eval y = v) (h3 : a.eval z = t) : ((#[x, y, z].toList.map a.eval).toArray : Array Value) = #[u, v, t] := by rw [← h, ← h2, ← h3]; rfl
/-- What a read tells. -/
def rd (s : Dst) (i : Int) : Int × List (BitVec 8) := if s.down = true then (30, []) else if i < 0 ∨ (s.has.length : Int) ≤ i then (11, []) else (0, nowd s i.toNat)
/-- Bytes that may be written: n of them, in block g. -/
def Wb (w : World) (g n : Nat) : Prop := ∃ cs, w.heap[g]? = some (.cells cs 5 (0, 0)) ∧ n ≤ cs.size ∧ ∀ i, i < n → ∃ x : BitVec 8, cs[i]? = some (V x)
theorem Wb.lt {w : World} {g n : Nat} (h : Wb w g n) : g < w.heap.size := by
  obtain ⟨cs, h1, _⟩ := h
  exact (Array.getElem?_eq_some_iff.1 h1).1
theorem Wb.keep {w w' : World} {g n : Nat} (h : Wb w g n) (hb : w'.heap[g]? = w.heap[g]?) : Wb w' g n := by
  obtain ⟨cs, h1, r⟩ := h
  exact ⟨cs, by rw [hb]; exact h1, r⟩
theorem Wb.below {w w' : World} {g n : Nat} (h : Wb w g n) (hb : Below w.heap.size w w') : Wb w' g n := h.keep (hb.block g h.lt)
theorem Wb.at {w : World} {g n k : Nat} (h : Wb w g n) (hk : k < n) : ∃ x : BitVec 8, w.cell? ⟨g, k, none⟩ = some (V x) := by
  obtain ⟨cs, h1, _, h3⟩ := h
  obtain ⟨x, hx⟩ := h3 k hk
  exact ⟨x, by simp only [World.cell?, h1]; exact hx⟩
theorem Wb.there {w : World} {g n k : Nat} (h : Wb w g n) (hk : k < n) : w.there g k 1 := by
  obtain ⟨x, hx⟩ := h.at hk
  obtain ⟨cs, h1, _, _⟩ := h
  intro j hj
  obtain rfl : j = 0 := by omega
  refine ⟨?_, frozen_of_row w g (k + 0) _ 5 h1⟩
  show (w.cell? ⟨g, k + 0, none⟩).isSome = true
  rw [Nat.add_zero, hx]
  rfl
theorem Wb.set {w : World} {g n k : Nat} (h : Wb w g n) (y : BitVec 8) : Wb (w.setCell ⟨g, k, none⟩ (V y)) g n := by
  obtain ⟨cs, h1, h2, h3⟩ := h
  refine ⟨cs.setIfInBounds k (V y), ?_, by simpa using h2, fun i hi => ?_⟩
  · simp [World.setCell, Array.getElem?_modify, h1]
  · rw [Array.getElem?_setIfInBounds]
    by_cases e : k = i
    · subst e
      rw [if_pos rfl, if_pos (by omega)]
      exact ⟨y, rfl⟩
    · rw [if_neg e]
      exact h3 i hi
section
variable {S : World → Prop} {Q : Exit → Act → World → Prop} {o : Oper} {a : Act} {w : World}
section
variable {ops : Array Oper}
end
theorem run_nilq {P : Program} {x : Operand} (ho : o.op = .nilCheck x) {p : Addr} (hx : a.eval x = .pointer (some p)) : ∀ w, S w → (execOp a.eval o).run P w = .ok (.value (.pointer (some p))) w := by
  intro w _
  unfold execOp
  rw [ho]
  simp [hx]
end
theorem cell_grow {w w' : World} {p : Addr} {v : Value} (h : w.cell? p = some v) (hb : Below w.heap.size w w') : w'.cell? p = some v := by
  rw [hb.cell (block_lt_of_cell h)]
  exact h
/-- Bytes of its own that a call told: where they lie, and what they are apart from. -/
def Rd (w0 : Nat) (D X : Nat → Prop) (A : Option Addr) (n : Nat) (w : World) : Prop := 0 < n → ∃ g, A = some ⟨g, 0, none⟩ ∧ w0 ≤ g ∧ ¬ X g ∧ ¬ D g ∧ Wb w g n
theorem Rd.below {w0 n : Nat} {D X : Nat → Prop} {A : Option Addr} {w w' : World} (r : Rd w0 D X A n w) (hb : Below w.heap.size w w') : Rd w0 D X A n w' := fun h => by
  obtain ⟨g, h1, h2, h3, h4, h5⟩ := r h
  exact ⟨g, h1, h2, h3, h4, h5.below hb⟩
theorem rd_down {t : Dst} (h : t.down = true) (i : Int) : rd t i = (30, []) := by unfold rd; rw [if_pos h]
theorem rd_range {t : Dst} (h : t.down = false) {i : Int} (hi : i < 0 ∨ (t.has.length : Int) ≤ i) : rd t i = (11, []) := by unfold rd; rw [if_neg (by simp [h]), if_pos hi]
theorem rd_ok {t : Dst} (h : t.down = false) {i : Int} {j : Nat} (hj : i = j) (hi : j < t.has.length) {yh yc : List (BitVec 8)} (hyh : t.has[j]? = some yh) (hyc : t.cch[j]? = some yc) : rd t i = (0, nowv yh yc) := by
  unfold rd
  rw [if_neg (by simp [h]), if_neg (by omega)]
  subst hj
  unfold nowd nowv
  rw [Int.toNat_natCast, List.getD_eq_getElem?_getD, List.getD_eq_getElem?_getD, hyh, hyc]
  rfl
section
variable {Q : Exit → Act → World → Prop} {o : Oper} {a : Act} {w : World}
end
theorem run_empty8 (w : World) : (Instr.buildSlice 22 0 #[]).run Tryz.prog w = .ok (.slice (some ⟨w.heap.size, 0, none⟩) 0 0) (w.alloc (.cells #[] 5)) := by kernel_rfl
section
variable {Q : Exit → Act → World → Prop} {o : Oper} {a : Act} {w : World} {ops : Array Oper} {rest : List Oper}
theorem st_empty8 (ho : o.op = .buildSlice 22 0 #[]) (g0 : Nat) (hg : g0 ≤ w.heap.size) : o.wp Tryz.prog a w (Ends a o.dst w (Fk.orw g0 5 1 0 []).f) Q := by
  refine st_run (v := .slice (some ⟨w.heap.size, 0, none⟩) 0 0) (w' := w.alloc (.cells #[] 5)) ?_ ((Below.refl _ _).alloc (Nat.le_refl _) _) ⟨by simp, .inr ⟨w.heap.size, 0, #[], rfl, hg, heap_alloc_new _ _, Nat.le_refl _, by unfold maxLen; omega, by simp, by simp⟩⟩
  unfold execOp
  rw [ho]
  simp [run_empty8]
theorem wl_app8 (hgd : o.guard = none) (s x : Operand) (ho : o.op = .call { callee := .builtin .append, args := #[s, x], argTypes := #[22, 22] }) (d : Nat) (hd : o.dst = some d) (hsz : d < a.tmps.size)
    {wL : World} {bs : List (BitVec 8)} {vb : Value} (hs1 : (Fk.orw wL.heap.size 5 1 0 []).f (a.eval s) w) (hxv : a.eval x = vb) (hx : (Fk.sl bs).f vb w) (hL : Below wL.heap.size wL w) (hN : bs.length ≤ 100000)
    (h : ∀ a2 w2, a2.defers = a.defers → a2.tmps.size = a.tmps.size → (∀ t, (t == d) = false → a2.eval (.tmp t) = a.eval (.tmp t)) → (Fk.orw wL.heap.size 5 1 bs.length (bs.map V)).f (a2.eval (.tmp d)) w2 → Below wL.heap.size wL w2 → wpList Tryz.prog ops Q rest a2 w2) : wpList Tryz.prog ops Q (o :: rest) a w := by
  obtain ⟨i0, hi, hz0, hz1, hz2⟩ := info_parts Tryz.info5
  obtain ⟨sp, m, c, b, so, e, hsl⟩ := hx
  have hown : w.ownsRow wL.heap.size 5 1 (a.eval s) 0 [] := hs1
  have hm := hsl.len
  cases sp with
  | none =>
    obtain ⟨h1, h2⟩ := hsl.nil rfl
    subst h1 h2
    obtain rfl : bs = [] := List.eq_nil_of_length_eq_zero hm.symm
    refine wpList_append_own_none hgd s x 22 ho wL.heap.size 5 i0 1 Tryz.under22 hi _ 0 [] rfl hown (by rw [hxv, e]) ?_
    refine h _ _ (put_def _ _ _) (put_size _ _ _) (fun t ht => ?_) ?_ hL
    · rw [hd]
      exact put_eval_other _ _ _ _ (fun e => by subst e; simp at ht)
    · rw [hd, put_eval_same _ _ _ hsz]
      exact hs1
  | some ad =>
    refine wpList_append_own w hgd s x 22 ho wL.heap.size 5 i0 (.int .u8 0) 1 1 Tryz.under22 hi hz0 hz1 hz2 rfl (by decide) _ 0 [] rfl hown ad m c (bs.map V) (by rw [hxv, e]) (by rw [List.length_map, hm, Nat.mul_one]) (fun j u hj => ?_) (fun u hu => ?_) (by unfold maxLen; omega) (by omega) hL.size ?_
    · rw [List.getElem?_map] at hj
      obtain ⟨y, hy, rfl⟩ := Option.map_eq_some_iff.1 hj
      have hjl := (List.getElem?_eq_some_iff.1 hy).1
      obtain ⟨e1, _, e3⟩ := hsl.src (by omega)
      injection e1 with e1
      subst e1
      rw [Addr.add_mid, e3 j hjl, List.getD_eq_getElem?_getD, hy]
      rfl
    · obtain ⟨y, _, rfl⟩ := List.mem_map.1 hu
      rfl
    · intro v' w' h1 h2 _
      refine h _ _ (put_def _ _ _) (put_size _ _ _) (fun t ht => ?_) ?_ (hL.grown h2 hL.size (fun k e => (World.ownsRow.lt hown k e).1))
      · rw [hd]
        exact put_eval_other _ _ _ _ (fun e => by subst e; simp at ht)
      · rw [hd, put_eval_same _ _ _ hsz]
        rw [hm, Nat.zero_add] at h1
        exact h1
end
/-- Bytes of its own: where they lie, what they are, what they are apart from. -/
def Ob8 (w0 : Nat) (D X : Nat → Prop) (bs : List (BitVec 8)) (A : Option Addr) (C : Nat) (w : World) : Prop := (Fk.sl bs).f (.slice A bs.length C) w ∧ Rd w0 D X A bs.length w
theorem Ob8.keep {w0 C : Nat} {D D2 X S : Nat → Prop} {bs : List (BitVec 8)} {A : Option Addr} {w w' : World} (r : Ob8 w0 D X bs A C w) (O : Fr S w w') (hS : ∀ j, S j → D j ∨ X j) (hD : ∀ j, D2 j → D j ∨ w.heap.size ≤ j) : Ob8 w0 D2 X bs A C w' := by
  obtain ⟨⟨sp, m, c, b, o, e, h⟩, r⟩ := r
  injection e with e1 e2 e3
  subst e1 e2 e3
  refine ⟨⟨A, bs.length, C, b, o, rfl, h.len, h.cap, h.nil, fun hm => ?_⟩, fun hm => ?_⟩
  · obtain ⟨h1, h2, h3⟩ := h.src hm
    obtain ⟨g, g1, g2, g3, g4, g5⟩ := r hm
    rw [h1] at g1
    injection g1 with g1
    injection g1 with g1 _ _
    subst g1
    have hk := O.block b h2 (fun q => (hS _ q).elim g4 g3)
    exact ⟨h1, Nat.lt_of_lt_of_le h2 O.size, fun i hi => by have := h3 i hi; simp only [World.cell?, hk] at this ⊢; exact this⟩
  · obtain ⟨g, g1, g2, g3, g4, g5⟩ := r hm
    have hk := O.block g g5.lt (fun q => (hS _ q).elim g4 g3)
    exact ⟨g, g1, g2, g3, fun q => (hD _ q).elim g4 (fun q => by have := g5.lt; omega), g5.keep hk⟩
theorem Ob8.below {w0 C : Nat} {D X : Nat → Prop} {bs : List (BitVec 8)} {A : Option Addr} {w w' : World} (r : Ob8 w0 D X bs A C w) (hb : Below w.heap.size w w') : Ob8 w0 D X bs A C w' := ⟨Fk.mono _ _ _ _ r.1 hb, r.2.below hb⟩
/-- The numbers below k of the sectors that the cache has something of, rising. -/
def clp (c : List (List (BitVec 8))) (k : Nat) : List Int := (List.range k).filterMap fun i => if c.getD i [] = [] then none else some (i : Int)
theorem clp_succ (c : List (List (BitVec 8))) (k : Nat) : clp c (k + 1) = clp c k ++ (if c.getD k [] = [] then [] else [(k : Int)]) := by
  unfold clp
  rw [List.range_succ, List.filterMap_append]
  congr 1
  by_cases h : c.getD k [] = []
  · simp only [List.filterMap_cons, h, if_true, List.filterMap_nil]
  · simp only [List.filterMap_cons, h, if_false, List.filterMap_nil]
theorem clp_le (c : List (List (BitVec 8))) (k : Nat) : (clp c k).length ≤ k := by
  unfold clp
  exact Nat.le_trans (List.length_filterMap_le _ _) (by simp)
/-- A new disk. -/
def newd (n z : Nat) : Dst := ⟨List.replicate n (zs z), List.replicate n [], z, 0, 0, false, false⟩
end Go.Proofs.YtakdpkoigijonaaGreat
namespace Go.Proofs.YtakdpkoigijonaaGreat
set_option maxRecDepth 100000
open Go.RowKit
theorem Tryz.under23q : Tryz.prog.underlying 23 = some (.slice 22) := by kernel_rfl
theorem Tryz.elem23q : Tryz.prog.elem 23 = 22 := by kernel_rfl
theorem Tryz.mapq : Tryz.prog.underlying 46 = some (.map 3 22) := by kernel_rfl
theorem Tryz.zeroq (w : World) : (zeroValue 22).run Tryz.prog w = .ok (.slice none 0 0) w := by kernel_rfl
section
variable {Q : Exit → Act → World → Prop} {o : Oper} {a : Act} {w : World}
theorem st_lenrr (x : Operand) (ho : o.op = .call { callee := .builtin .len, args := #[x], argTypes := #[23] }) {p : Option Addr} {n C : Nat} (hx : a.eval x = .slice p n C) : o.wp Tryz.prog a w (Ends a o.dst w (Fk.eq (.int .i64 (n : Int))).f) Q := by
  refine st_pure (v := .int .i64 (n : Int)) ?_ rfl
  have h1 := run_len_slice (P := Tryz.prog) (w := w) 23 o.type p n C (by rw [Tryz.elem23q]; kernel_rfl)
  unfold execOp
  simp [ho, resolve, invoke, builtin, hx, h1, goInt]
theorem st_idxr (x y : Operand) (ho : o.op = .indexAddr 23 x y) {h n C : Nat} (hx : a.eval x = .slice (some ⟨h, 0, none⟩) n C) (i : Nat) (hy : a.eval y = .int .i64 (i : Int)) (hi : i < n) : o.wp Tryz.prog a w (Ends a o.dst w (Fk.eq (.pointer (some ⟨h, i, none⟩))).f) Q := by
  refine st_pure (v := .pointer (some ⟨h, i, none⟩)) ?_ rfl
  have h1 := run_indexAt_slice (P := Tryz.prog) (w := w) 23 ⟨h, 0, none⟩ n C .i64 (i : Int) (by rw [Tryz.elem23q]; kernel_rfl)
  rw [if_pos (by omega), Tryz.elem23q, show (sizeOf 22).run Tryz.prog w = .ok 1 w by kernel_rfl] at h1
  simp only [Result.andThen_ok, Int.toNat_natCast, Addr.add_mid, Nat.mul_one, Nat.zero_add] at h1
  unfold execOp
  rw [ho]
  simp [hx, hy, h1]
theorem wf_nat {i : Nat} (h : i ≤ 9223372036854775807) : (Lit.int .i64 (i : Int)).wf = true := by
  show (decide ((-9223372036854775808 : Int) ≤ (i : Int)) && decide ((i : Int) ≤ 9223372036854775807)) = true
  rw [Bool.and_eq_true, decide_eq_true_iff, decide_eq_true_iff]
  omega
theorem st_look (x y : Operand) (ho : o.op = .lookup 46 x y true) {cb : Nat} {l : List (Int × Value)} (hx : a.eval x = .map (some cb)) (hm : Im w cb l) {i : Int} (hy : a.eval y = .int .i64 i) (hi : (Lit.int .i64 i).wf = true) : o.wp Tryz.prog a w (Ends a o.dst w (Fk.eq (.tuple #[(mget l i).getD (.slice none 0 0), .bool (mget l i).isSome])).f) Q := by
  refine st_pure ?_ rfl
  have h1 := run_lookupI (P := Tryz.prog) (t := 46) Tryz.under3 Tryz.mapq (Tryz.zeroq w) hm hi
  unfold execOp
  rw [ho]
  simp [hx, hy, h1]
end
/-- What fits. -/
def ft (s : Dst) (i : Int) (b : List (BitVec 8)) : Int := if i < 0 ∨ (s.has.length : Int) ≤ i then 11 else if b.length ≠ s.size then 10 else 0
theorem fk_ddown {w : World} {gd : Nat} {M D : Nat → Prop} {s : Dst} (hd : HD w gd M D s) :
    Calls Tryz.prog 29 #[.pointer (some ⟨gd, 0, none⟩)] w fun e w' => ∃ v, e = .returned v ∧ (Fk.eq (.bool s.down)).f v w' ∧ Below w.heap.size w w' := by
  obtain ⟨sb, cb, C, pl, vs, l, r⟩ := hd
  have m0 := r.ob
  have hnm := r.nmax
  go_enter Tryz.func29, Tryz.ntmps29
  refine code_both (fun f w1 => f.tmps.size = 8 ∧ f.defers = [] ∧ f.eval (.tmp 0) = .pointer (some ⟨gd, 0, none⟩) ∧ Below w.heap.size w (w1)) ⟨rfl, rfl, rfl, Below.refl _ _⟩ ?_
  rintro f0 w0 ⟨sz, df, x0, bl⟩
  have sd := And.intro sz df
  clear sz df
  have bl0 := bl
  refine wp_seq ?_
  refine wr_a [.eq (.bool false)] (by rw [sd.1]; kernel_rfl) ⟨fun hw ac u K => ?_, trivial⟩ ?_
  · exact st_assign (.const (.bool false)) rfl rfl
  intro f1 w1 A hb
  replace x0 := A.t x0 rfl
  replace bl := bgo bl hb
  replace sd := A.sd sd
  clear A hb
  show Code.wp _ _ _ _ _
  refine wp_seq ?_
  refine wr_a [.eq (.pointer (some ⟨gd, 0, none⟩)), .eq (.pointer (some ⟨gd, 0, none⟩)), .eq (.pointer (some ⟨gd, 3, none⟩)), .eq (.pointer (some ⟨gd, 4, none⟩)), .eq (.bool s.down), .eq (.bool s.down)] (by rw [sd.1]; kernel_rfl) ⟨fun hw ac u K => ?_, fun hw ac u K => ?_, fun hw ac u K => ?_, fun hw ac u K => ?_, fun hw ac u K => ?_, fun hw ac u K => ?_, trivial⟩ ?_
  · exact st_move (.tmp 0) rfl (K.t x0 rfl)
  · exact st_nil (.tmp 3) rfl (K.dep 0 3 rfl)
  · exact st_field 51 3 (.tmp 4) rfl (K.dep 1 4 rfl) (by kernel_rfl)
  · exact st_field 48 1 (.tmp 5) rfl (K.dep 2 5 rfl) (by kernel_rfl)
  · exact st_loadc 4 (.tmp 6) rfl (by kernel_rfl) (K.dep 3 6 rfl) (Ob.cell (Ob.below m0 (bgo bl K.grow)) 4 rfl)
  · exact st_assign (.tmp 7) rfl (K.dep 4 7 rfl)
  intro f2 w2 A hb
  replace x0 := A.t x0 rfl
  have x2 := A.e 5 2 rfl rfl
  replace bl := bgo bl hb
  replace sd := A.sd sd
  clear A hb
  clear x0
  show Code.wp _ _ _ _ _
  refine wp_ret ?_
  repeat (first | with_reducible refine then_ret ?_ | with_reducible refine block_ret ?_)
  exact bodyPost_ret (v := .bool s.down) (ret_slot rfl f2 _ x2 _ _) sd.2 ⟨_, rfl, rfl, bl⟩
theorem fk_dsize {w : World} {gd : Nat} {M D : Nat → Prop} {s : Dst} (hd : HD w gd M D s) :
    Calls Tryz.prog 27 #[.pointer (some ⟨gd, 0, none⟩)] w fun e w' => ∃ v, e = .returned v ∧ (Fk.eq (.int .i64 (s.size : Int))).f v w' ∧ Below w.heap.size w w' := by
  obtain ⟨sb, cb, C, pl, vs, l, r⟩ := hd
  have m0 := r.ob
  have hnm := r.nmax
  go_enter Tryz.func27, Tryz.ntmps27
  refine code_both (fun f w1 => f.tmps.size = 7 ∧ f.defers = [] ∧ f.eval (.tmp 0) = .pointer (some ⟨gd, 0, none⟩) ∧ Below w.heap.size w (w1)) ⟨rfl, rfl, rfl, Below.refl _ _⟩ ?_
  rintro f0 w0 ⟨sz, df, x0, bl⟩
  have sd := And.intro sz df
  clear sz df
  have bl0 := bl
  refine wp_seq ?_
  refine wr_a [.eq (.int .i64 0)] (by rw [sd.1]; kernel_rfl) ⟨fun hw ac u K => ?_, trivial⟩ ?_
  · exact st_assign (.const (.int .i64 0)) rfl rfl
  intro f1 w1 A hb
  replace x0 := A.t x0 rfl
  replace bl := bgo bl hb
  replace sd := A.sd sd
  clear A hb
  show Code.wp _ _ _ _ _
  refine wp_seq ?_
  refine wr_a [.eq (.pointer (some ⟨gd, 0, none⟩)), .eq (.pointer (some ⟨gd, 0, none⟩)), .eq (.pointer (some ⟨gd, 0, none⟩)), .eq (.int .i64 (s.size : Int)), .eq (.int .i64 (s.size : Int))] (by rw [sd.1]; kernel_rfl) ⟨fun hw ac u K => ?_, fun hw ac u K => ?_, fun hw ac u K => ?_, fun hw ac u K => ?_, fun hw ac u K => ?_, trivial⟩ ?_
  · exact st_move (.tmp 0) rfl (K.t x0 rfl)
  · exact st_nil (.tmp 3) rfl (K.dep 0 3 rfl)
  · exact st_field 51 0 (.tmp 4) rfl (K.dep 1 4 rfl) (by kernel_rfl)
  · exact st_loadc 3 (.tmp 5) rfl (by kernel_rfl) (K.dep 2 5 rfl) (Ob.cell (Ob.below m0 (bgo bl K.grow)) 0 rfl)
  · exact st_assign (.tmp 6) rfl (K.dep 3 6 rfl)
  intro f2 w2 A hb
  replace x0 := A.t x0 rfl
  have x2 := A.e 4 2 rfl rfl
  replace bl := bgo bl hb
  replace sd := A.sd sd
  clear A hb
  clear x0
  show Code.wp _ _ _ _ _
  refine wp_ret ?_
  repeat (first | with_reducible refine then_ret ?_ | with_reducible refine block_ret ?_)
  exact bodyPost_ret (v := .int .i64 (s.size : Int)) (ret_slot rfl f2 _ x2 _ _) sd.2 ⟨_, rfl, rfl, bl⟩
theorem fk_dsectors {w : World} {gd : Nat} {M D : Nat → Prop} {s : Dst} (hd : HD w gd M D s) :
    Calls Tryz.prog 26 #[.pointer (some ⟨gd, 0, none⟩)] w fun e w' => ∃ v, e = .returned v ∧ (Fk.eq (.int .i64 (s.has.length : Int))).f v w' ∧ Below w.heap.size w w' := by
  obtain ⟨sb, cb, C, pl, vs, l, r⟩ := hd
  have m0 := r.ob
  have hnm := r.nmax
  go_enter Tryz.func26, Tryz.ntmps26
  refine code_both (fun f w1 => f.tmps.size = 8 ∧ f.defers = [] ∧ f.eval (.tmp 0) = .pointer (some ⟨gd, 0, none⟩) ∧ Below w.heap.size w (w1)) ⟨rfl, rfl, rfl, Below.refl _ _⟩ ?_
  rintro f0 w0 ⟨sz, df, x0, bl⟩
  have sd := And.intro sz df
  clear sz df
  have bl0 := bl
  refine wp_seq ?_
  refine wr_a [.eq (.int .i64 0)] (by rw [sd.1]; kernel_rfl) ⟨fun hw ac u K => ?_, trivial⟩ ?_
  · exact st_assign (.const (.int .i64 0)) rfl rfl
  intro f1 w1 A hb
  replace x0 := A.t x0 rfl
  replace bl := bgo bl hb
  replace sd := A.sd sd
  clear A hb
  show Code.wp _ _ _ _ _
  refine wp_seq ?_
  refine wr_a [.eq (.pointer (some ⟨gd, 0, none⟩)), .eq (.pointer (some ⟨gd, 0, none⟩)), .eq (.pointer (some ⟨gd, 1, none⟩)), .eq (.slice (some ⟨sb, 0, none⟩) s.has.length C), .eq (.int .i64 (s.has.length : Int)), .eq (.int .i64 (s.has.length : Int))] (by rw [sd.1]; kernel_rfl) ⟨fun hw ac u K => ?_, fun hw ac u K => ?_, fun hw ac u K => ?_, fun hw ac u K => ?_, fun hw ac u K => ?_, fun hw ac u K => ?_, trivial⟩ ?_
  · exact st_move (.tmp 0) rfl (K.t x0 rfl)
  · exact st_nil (.tmp 3) rfl (K.dep 0 3 rfl)
  · exact st_field 51 1 (.tmp 4) rfl (K.dep 1 4 rfl) (by kernel_rfl)
  · exact st_loadc 23 (.tmp 5) rfl (by kernel_rfl) (K.dep 2 5 rfl) (Ob.cell (Ob.below m0 (bgo bl K.grow)) 1 rfl)
  · exact st_lenrr (.tmp 6) rfl (K.dep 3 6 rfl)
  · exact st_assign (.tmp 7) rfl (K.dep 4 7 rfl)
  intro f2 w2 A hb
  replace x0 := A.t x0 rfl
  have x2 := A.e 5 2 rfl rfl
  replace bl := bgo bl hb
  replace sd := A.sd sd
  clear A hb
  clear x0
  show Code.wp _ _ _ _ _
  refine wp_ret ?_
  repeat (first | with_reducible refine then_ret ?_ | with_reducible refine block_ret ?_)
  exact bodyPost_ret (v := .int .i64 (s.has.length : Int)) (ret_slot rfl f2 _ x2 _ _) sd.2 ⟨_, rfl, rfl, bl⟩
theorem fk_dhas {w : World} {gd : Nat} {M D : Nat → Prop} {s : Dst} (hd : HD w gd M D s) (i : Int) :
    Calls Tryz.prog 30 #[.pointer (some ⟨gd, 0, none⟩), .int .i64 i] w fun e w' => ∃ v, e = .returned v ∧ (Fk.eq (.bool (decide (0 ≤ i ∧ i < (s.has.length : Int))))).f v w' ∧ Below w.heap.size w w' := by
  obtain ⟨sb, cb, C, pl, vs, l, r⟩ := hd
  have m0 := r.ob
  have hnm := r.nmax
  go_enter Tryz.func30, Tryz.ntmps30
  refine code_both (fun f w1 => f.tmps.size = 16 ∧ f.defers = [] ∧ f.eval (.tmp 0) = .pointer (some ⟨gd, 0, none⟩) ∧ f.eval (.tmp 1) = .int .i64 i ∧ Below w.heap.size w (w1)) ⟨rfl, rfl, rfl, rfl, Below.refl _ _⟩ ?_
  rintro f0 w0 ⟨sz, df, x0, x1, bl⟩
  have sd := And.intro sz df
  clear sz df
  have bl0 := bl
  refine wp_seq ?_
  refine wr_a [.eq (.bool false)] (by rw [sd.1]; kernel_rfl) ⟨fun hw ac u K => ?_, trivial⟩ ?_
  · exact st_assign (.const (.bool false)) rfl rfl
  intro f1 w1 A hb
  replace x0 := A.t x0 rfl
  replace x1 := A.t x1 rfl
  replace bl := bgo bl hb
  replace sd := A.sd sd
  clear A hb
  show Code.wp _ _ _ _ _
  refine wp_seq ?_
  by_cases h0 : 0 ≤ i
  rotate_left
  · skip
    refine wr_a [.eq (.int .i64 i), .eq (.bool false), .eq (.bool false), .any, .any, .any, .any, .any, .any, .any, .eq (.bool false), .eq (.bool false)] (by rw [sd.1]; kernel_rfl) ⟨fun hw ac u K => ?_, fun hw ac u K => ?_, fun hw ac u K => ?_, fun hw ac u K => ?_, fun hw ac u K => ?_, fun hw ac u K => ?_, fun hw ac u K => ?_, fun hw ac u K => ?_, fun hw ac u K => ?_, fun hw ac u K => ?_, fun hw ac u K => ?_, fun hw ac u K => ?_, trivial⟩ ?_
    · exact st_move (.tmp 1) rfl (K.t x1 rfl)
    · exact st_geq 3 (.tmp 5) (.const (.int .i64 0)) rfl .i64 (i) (0) (K.dep 0 5 rfl) rfl _ (by symm; rw [decide_eq_false_iff_not]; exact h0)
    · exact st_move (.tmp 6) rfl (K.dep 1 6 rfl)
    · exact (Bool.false_ne_true hw).elim
    · exact (Bool.false_ne_true hw).elim
    · exact (Bool.false_ne_true hw).elim
    · exact (Bool.false_ne_true hw).elim
    · exact (Bool.false_ne_true hw).elim
    · exact (Bool.false_ne_true hw).elim
    · exact (Bool.false_ne_true hw).elim
    · exact st_pick_f' (.tmp 7) (.tmp 14) (.const (.bool false)) rfl (K.dep 2 7 rfl) rfl
    · exact st_assign (.tmp 15) rfl (K.dep 10 15 rfl)
    intro f2 w2 A hb
    replace x0 := A.t x0 rfl
    replace x1 := A.t x1 rfl
    have x4 := A.e 11 4 rfl rfl
    replace bl := bgo bl hb
    replace sd := A.sd sd
    clear A hb
    clear x0
    clear x1
    show Code.wp _ _ _ _ _
    refine wp_ret ?_
    repeat (first | with_reducible refine then_ret ?_ | with_reducible refine block_ret ?_)
    exact bodyPost_ret (v := .bool false) (ret_slot rfl f2 _ x4 _ _) sd.2 ⟨_, rfl, by show Value.bool false = Value.bool (decide (0 ≤ i ∧ i < (s.has.length : Int))); congr 1; rw [eq_comm, decide_eq_false_iff_not]; exact fun h => h0 h.1, bl⟩
  by_cases h1 : i < (s.has.length : Int)
  rotate_left
  · skip
    refine wr_a [.eq (.int .i64 i), .eq (.bool true), .eq (.bool true), .eq (.int .i64 i), .eq (.pointer (some ⟨gd, 0, none⟩)), .eq (.pointer (some ⟨gd, 0, none⟩)), .eq (.pointer (some ⟨gd, 1, none⟩)), .eq (.slice (some ⟨sb, 0, none⟩) s.has.length C), .eq (.int .i64 (s.has.length : Int)), .eq (.bool false), .eq (.bool false), .eq (.bool false)] (by rw [sd.1]; kernel_rfl) ⟨fun hw ac u K => ?_, fun hw ac u K => ?_, fun hw ac u K => ?_, fun hw ac u K => ?_, fun hw ac u K => ?_, fun hw ac u K => ?_, fun hw ac u K => ?_, fun hw ac u K => ?_, fun hw ac u K => ?_, fun hw ac u K => ?_, fun hw ac u K => ?_, fun hw ac u K => ?_, trivial⟩ ?_
    · exact st_move (.tmp 1) rfl (K.t x1 rfl)
    · exact st_geq 3 (.tmp 5) (.const (.int .i64 0)) rfl .i64 (i) (0) (K.dep 0 5 rfl) rfl _ (by symm; rw [decide_eq_true_iff]; exact h0)
    · exact st_move (.tmp 6) rfl (K.dep 1 6 rfl)
    · exact st_move (.tmp 1) rfl (K.t x1 rfl)
    · exact st_move (.tmp 0) rfl (K.t x0 rfl)
    · exact st_nil (.tmp 9) rfl (K.dep 4 9 rfl)
    · exact st_field 51 1 (.tmp 10) rfl (K.dep 5 10 rfl) (by kernel_rfl)
    · exact st_loadc 23 (.tmp 11) rfl (by kernel_rfl) (K.dep 6 11 rfl) (Ob.cell (Ob.below m0 (bgo bl K.grow)) 1 rfl)
    · exact st_lenrr (.tmp 12) rfl (K.dep 7 12 rfl)
    · exact st_lss 3 (.tmp 8) (.tmp 13) rfl .i64 (i) ((s.has.length : Int)) (K.dep 3 8 rfl) (K.dep 8 13 rfl) _ (by symm; rw [decide_eq_false_iff_not]; exact h1)
    · exact st_pick_t (.tmp 7) (.tmp 14) (.const (.bool false)) rfl (K.dep 2 7 rfl) (K.dep 9 14 rfl)
    · exact st_assign (.tmp 15) rfl (K.dep 10 15 rfl)
    intro f2 w2 A hb
    replace x0 := A.t x0 rfl
    replace x1 := A.t x1 rfl
    have x4 := A.e 11 4 rfl rfl
    replace bl := bgo bl hb
    replace sd := A.sd sd
    clear A hb
    clear x0
    clear x1
    show Code.wp _ _ _ _ _
    refine wp_ret ?_
    repeat (first | with_reducible refine then_ret ?_ | with_reducible refine block_ret ?_)
    exact bodyPost_ret (v := .bool false) (ret_slot rfl f2 _ x4 _ _) sd.2 ⟨_, rfl, by show Value.bool false = Value.bool (decide (0 ≤ i ∧ i < (s.has.length : Int))); congr 1; rw [eq_comm, decide_eq_false_iff_not]; exact fun h => h1 h.2, bl⟩
  refine wr_a [.eq (.int .i64 i), .eq (.bool true), .eq (.bool true), .eq (.int .i64 i), .eq (.pointer (some ⟨gd, 0, none⟩)), .eq (.pointer (some ⟨gd, 0, none⟩)), .eq (.pointer (some ⟨gd, 1, none⟩)), .eq (.slice (some ⟨sb, 0, none⟩) s.has.length C), .eq (.int .i64 (s.has.length : Int)), .eq (.bool true), .eq (.bool true), .eq (.bool true)] (by rw [sd.1]; kernel_rfl) ⟨fun hw ac u K => ?_, fun hw ac u K => ?_, fun hw ac u K => ?_, fun hw ac u K => ?_, fun hw ac u K => ?_, fun hw ac u K => ?_, fun hw ac u K => ?_, fun hw ac u K => ?_, fun hw ac u K => ?_, fun hw ac u K => ?_, fun hw ac u K => ?_, fun hw ac u K => ?_, trivial⟩ ?_
  · exact st_move (.tmp 1) rfl (K.t x1 rfl)
  · exact st_geq 3 (.tmp 5) (.const (.int .i64 0)) rfl .i64 (i) (0) (K.dep 0 5 rfl) rfl _ (by symm; rw [decide_eq_true_iff]; exact h0)
  · exact st_move (.tmp 6) rfl (K.dep 1 6 rfl)
  · exact st_move (.tmp 1) rfl (K.t x1 rfl)
  · exact st_move (.tmp 0) rfl (K.t x0 rfl)
  · exact st_nil (.tmp 9) rfl (K.dep 4 9 rfl)
  · exact st_field 51 1 (.tmp 10) rfl (K.dep 5 10 rfl) (by kernel_rfl)
  · exact st_loadc 23 (.tmp 11) rfl (by kernel_rfl) (K.dep 6 11 rfl) (Ob.cell (Ob.below m0 (bgo bl K.grow)) 1 rfl)
  · exact st_lenrr (.tmp 12) rfl (K.dep 7 12 rfl)
  · exact st_lss 3 (.tmp 8) (.tmp 13) rfl .i64 (i) ((s.has.length : Int)) (K.dep 3 8 rfl) (K.dep 8 13 rfl) _ (by symm; rw [decide_eq_true_iff]; exact h1)
  · exact st_pick_t (.tmp 7) (.tmp 14) (.const (.bool false)) rfl (K.dep 2 7 rfl) (K.dep 9 14 rfl)
  · exact st_assign (.tmp 15) rfl (K.dep 10 15 rfl)
  intro f2 w2 A hb
  replace x0 := A.t x0 rfl
  replace x1 := A.t x1 rfl
  have x4 := A.e 11 4 rfl rfl
  replace bl := bgo bl hb
  replace sd := A.sd sd
  clear A hb
  clear x0
  clear x1
  show Code.wp _ _ _ _ _
  refine wp_ret ?_
  repeat (first | with_reducible refine then_ret ?_ | with_reducible refine block_ret ?_)
  exact bodyPost_ret (v := .bool true) (ret_slot rfl f2 _ x4 _ _) sd.2 ⟨_, rfl, by show Value.bool true = Value.bool (decide (0 ≤ i ∧ i < (s.has.length : Int))); congr 1; rw [eq_comm, decide_eq_true_iff]; exact ⟨h0, h1⟩, bl⟩
theorem fk_dfits {w : World} {gd : Nat} {M D : Nat → Prop} {s : Dst} (hd : HD w gd M D s) (i : Int) {b : List (BitVec 8)} {vb : Value} (hb : (Fk.sl b).f vb w) :
    Calls Tryz.prog 21 #[.pointer (some ⟨gd, 0, none⟩), .int .i64 i, vb] w fun e w' => ∃ v, e = .returned v ∧ (Fk.eq (.int .i64 (ft s i b))).f v w' ∧ Below w.heap.size w w' := by
  have hd0 := hd
  obtain ⟨sb, cb, C, pl, vs, l, r⟩ := hd
  have m0 := r.ob
  have hnm := r.nmax
  go_enter Tryz.func21, Tryz.ntmps21
  refine code_both (fun f w1 => f.tmps.size = 18 ∧ f.defers = [] ∧ f.eval (.tmp 0) = .pointer (some ⟨gd, 0, none⟩) ∧ f.eval (.tmp 1) = .int .i64 i ∧ f.eval (.tmp 2) = vb ∧ Below w.heap.size w (w1)) ⟨rfl, rfl, rfl, rfl, rfl, Below.refl _ _⟩ ?_
  rintro f0 w0 ⟨sz, df, x0, x1, x2, bl⟩
  have sd := And.intro sz df
  clear sz df
  have bl0 := bl
  refine wp_seq ?_
  refine wr_a [.eq (.int .i64 0)] (by rw [sd.1]; kernel_rfl) ⟨fun hw ac u K => ?_, trivial⟩ ?_
  · exact st_assign (.const (.int .i64 0)) rfl rfl
  intro f1 w1 A hb
  replace x0 := A.t x0 rfl
  replace x1 := A.t x1 rfl
  replace x2 := A.t x2 rfl
  replace bl := bgo bl hb
  replace sd := A.sd sd
  clear A hb
  show Code.wp _ _ _ _ _
  refine wp_seq ?_
  refine wp_seq ?_
  by_cases h0 : i < 0 ∨ (s.has.length : Int) ≤ i
  rotate_left
  · skip
    by_cases h1 : b.length = s.size
    rotate_left
    · skip
      refine wr_a [.eq (.pointer (some ⟨gd, 0, none⟩)), .eq (.int .i64 i), .eq (.bool true), .eq (.bool false)] (by rw [sd.1]; kernel_rfl) ⟨fun hw ac u K => ?_, fun hw ac u K => ?_, fun hw ac u K => ?_, fun hw ac u K => ?_, trivial⟩ ?_
      · exact st_move (.tmp 0) rfl (K.t x0 rfl)
      · exact st_move (.tmp 1) rfl (K.t x1 rfl)
      · exact st_call 30 (.func 30) _ _ _ rfl rfl (arg2 (K.dep 0 7 rfl) (K.dep 1 8 rfl)) Tryz.enter30 ((show Calls Tryz.prog 30 #[.pointer (some ⟨gd, 0, none⟩), .int .i64 i] u (fun e w' => ∃ v, e = .returned v ∧ (Fk.eq (.bool true)).f v w' ∧ Below u.heap.size u w') from by have := fk_dhas (HD.below hd0 (bgo bl K.grow)) i; rw [show (decide (0 ≤ i ∧ i < (s.has.length : Int))) = true from by rw [decide_eq_true_iff]; omega] at this; exact this))
      · exact st_not (.tmp 9) rfl true (K.dep 2 9 rfl)
      intro f2 w2 A hb
      replace x0 := A.t x0 rfl
      replace x1 := A.t x1 rfl
      replace x2 := A.t x2 rfl
      have x10 := A.e 3 10 rfl rfl
      replace bl := bgo bl hb
      replace sd := A.sd sd
      clear A hb
      clear x1
      show Code.wp _ _ _ _ _
      refine wp_cond_false x10 ?_
      refine wp_skip ?_
      show Code.wp _ _ _ _ _
      refine wp_seq ?_
      refine wp_seq ?_
      refine wr_a [.eq (vb), .eq (.int .i64 (b.length : Int)), .eq (.pointer (some ⟨gd, 0, none⟩)), .eq (.pointer (some ⟨gd, 0, none⟩)), .eq (.pointer (some ⟨gd, 0, none⟩)), .eq (.int .i64 (s.size : Int)), .eq (.bool true)] (by rw [sd.1]; kernel_rfl) ⟨fun hw ac u K => ?_, fun hw ac u K => ?_, fun hw ac u K => ?_, fun hw ac u K => ?_, fun hw ac u K => ?_, fun hw ac u K => ?_, fun hw ac u K => ?_, trivial⟩ ?_
      · exact st_move (.tmp 2) rfl (K.t x2 rfl)
      · exact st_lenb (.tmp 11) rfl (fk_val (K.dep 0 11 rfl) (Fk.mono _ _ _ _ hb (bgo bl K.grow)))
      · exact st_move (.tmp 0) rfl (K.t x0 rfl)
      · exact st_nil (.tmp 13) rfl (K.dep 2 13 rfl)
      · exact st_field 51 0 (.tmp 14) rfl (K.dep 3 14 rfl) (by kernel_rfl)
      · exact st_loadc 3 (.tmp 15) rfl (by kernel_rfl) (K.dep 4 15 rfl) (Ob.cell (Ob.below m0 (bgo bl K.grow)) 0 rfl)
      · exact st_neqi 3 (.tmp 12) (.tmp 16) rfl .i64 ((b.length : Int)) ((s.size : Int)) (K.dep 1 12 rfl) (K.dep 5 16 rfl) _ (by rw [eq_comm, decide_eq_true_iff]; omega)
      intro f3 w3 A hb
      replace x0 := A.t x0 rfl
      replace x2 := A.t x2 rfl
      replace x10 := A.t x10 rfl
      have x17 := A.e 6 17 rfl rfl
      replace bl := bgo bl hb
      replace sd := A.sd sd
      clear A hb
      clear x0
      clear x2
      clear x10
      show Code.wp _ _ _ _ _
      refine wp_cond_true x17 ?_
      refine wp_seq ?_
      refine wr_a [.eq (.int .i64 10)] (by rw [sd.1]; kernel_rfl) ⟨fun hw ac u K => ?_, trivial⟩ ?_
      · exact st_assign (.const (.int .i64 10)) rfl rfl
      intro f4 w4 A hb
      replace x17 := A.t x17 rfl
      have x6 := A.e 0 6 rfl rfl
      replace bl := bgo bl hb
      replace sd := A.sd sd
      clear A hb
      clear x17
      show Code.wp _ _ _ _ _
      refine wp_ret ?_
      repeat (first | with_reducible refine then_ret ?_ | with_reducible refine block_ret ?_)
      exact bodyPost_ret (v := .int .i64 10) (ret_slot rfl f4 _ x6 _ _) sd.2 ⟨_, rfl, by show Value.int .i64 10 = Value.int .i64 (ft s i b); congr 1; unfold ft; rw [if_neg h0, if_pos h1], bl⟩
    refine wr_a [.eq (.pointer (some ⟨gd, 0, none⟩)), .eq (.int .i64 i), .eq (.bool true), .eq (.bool false)] (by rw [sd.1]; kernel_rfl) ⟨fun hw ac u K => ?_, fun hw ac u K => ?_, fun hw ac u K => ?_, fun hw ac u K => ?_, trivial⟩ ?_
    · exact st_move (.tmp 0) rfl (K.t x0 rfl)
    · exact st_move (.tmp 1) rfl (K.t x1 rfl)
    · exact st_call 30 (.func 30) _ _ _ rfl rfl (arg2 (K.dep 0 7 rfl) (K.dep 1 8 rfl)) Tryz.enter30 ((show Calls Tryz.prog 30 #[.pointer (some ⟨gd, 0, none⟩), .int .i64 i] u (fun e w' => ∃ v, e = .returned v ∧ (Fk.eq (.bool true)).f v w' ∧ Below u.heap.size u w') from by have := fk_dhas (HD.below hd0 (bgo bl K.grow)) i; rw [show (decide (0 ≤ i ∧ i < (s.has.length : Int))) = true from by rw [decide_eq_true_iff]; omega] at this; exact this))
    · exact st_not (.tmp 9) rfl true (K.dep 2 9 rfl)
    intro f2 w2 A hb
    replace x0 := A.t x0 rfl
    replace x1 := A.t x1 rfl
    replace x2 := A.t x2 rfl
    have x10 := A.e 3 10 rfl rfl
    replace bl := bgo bl hb
    replace sd := A.sd sd
    clear A hb
    clear x1
    show Code.wp _ _ _ _ _
    refine wp_cond_false x10 ?_
    refine wp_skip ?_
    show Code.wp _ _ _ _ _
    refine wp_seq ?_
    refine wp_seq ?_
    refine wr_a [.eq (vb), .eq (.int .i64 (b.length : Int)), .eq (.pointer (some ⟨gd, 0, none⟩)), .eq (.pointer (some ⟨gd, 0, none⟩)), .eq (.pointer (some ⟨gd, 0, none⟩)), .eq (.int .i64 (s.size : Int)), .eq (.bool false)] (by rw [sd.1]; kernel_rfl) ⟨fun hw ac u K => ?_, fun hw ac u K => ?_, fun hw ac u K => ?_, fun hw ac u K => ?_, fun hw ac u K => ?_, fun hw ac u K => ?_, fun hw ac u K => ?_, trivial⟩ ?_
    · exact st_move (.tmp 2) rfl (K.t x2 rfl)
    · exact st_lenb (.tmp 11) rfl (fk_val (K.dep 0 11 rfl) (Fk.mono _ _ _ _ hb (bgo bl K.grow)))
    · exact st_move (.tmp 0) rfl (K.t x0 rfl)
    · exact st_nil (.tmp 13) rfl (K.dep 2 13 rfl)
    · exact st_field 51 0 (.tmp 14) rfl (K.dep 3 14 rfl) (by kernel_rfl)
    · exact st_loadc 3 (.tmp 15) rfl (by kernel_rfl) (K.dep 4 15 rfl) (Ob.cell (Ob.below m0 (bgo bl K.grow)) 0 rfl)
    · exact st_neqi 3 (.tmp 12) (.tmp 16) rfl .i64 ((b.length : Int)) ((s.size : Int)) (K.dep 1 12 rfl) (K.dep 5 16 rfl) _ (by rw [h1]; simp)
    intro f3 w3 A hb
    replace x0 := A.t x0 rfl
    replace x2 := A.t x2 rfl
    replace x10 := A.t x10 rfl
    have x17 := A.e 6 17 rfl rfl
    replace bl := bgo bl hb
    replace sd := A.sd sd
    clear A hb
    clear x0
    clear x2
    clear x10
    show Code.wp _ _ _ _ _
    refine wp_cond_false x17 ?_
    refine wp_skip ?_
    show Code.wp _ _ _ _ _
    refine wp_seq ?_
    refine wr_a [.eq (.int .i64 0)] (by rw [sd.1]; kernel_rfl) ⟨fun hw ac u K => ?_, trivial⟩ ?_
    · exact st_assign (.const (.int .i64 0)) rfl rfl
    intro f4 w4 A hb
    replace x17 := A.t x17 rfl
    have x6 := A.e 0 6 rfl rfl
    replace bl := bgo bl hb
    replace sd := A.sd sd
    clear A hb
    clear x17
    show Code.wp _ _ _ _ _
    refine wp_ret ?_
    repeat (first | with_reducible refine then_ret ?_ | with_reducible refine block_ret ?_)
    exact bodyPost_ret (v := .int .i64 0) (ret_slot rfl f4 _ x6 _ _) sd.2 ⟨_, rfl, by show Value.int .i64 0 = Value.int .i64 (ft s i b); congr 1; unfold ft; rw [if_neg h0, if_neg (fun h => h h1)], bl⟩
  refine wr_a [.eq (.pointer (some ⟨gd, 0, none⟩)), .eq (.int .i64 i), .eq (.bool false), .eq (.bool true)] (by rw [sd.1]; kernel_rfl) ⟨fun hw ac u K => ?_, fun hw ac u K => ?_, fun hw ac u K => ?_, fun hw ac u K => ?_, trivial⟩ ?_
  · exact st_move (.tmp 0) rfl (K.t x0 rfl)
  · exact st_move (.tmp 1) rfl (K.t x1 rfl)
  · exact st_call 30 (.func 30) _ _ _ rfl rfl (arg2 (K.dep 0 7 rfl) (K.dep 1 8 rfl)) Tryz.enter30 ((show Calls Tryz.prog 30 #[.pointer (some ⟨gd, 0, none⟩), .int .i64 i] u (fun e w' => ∃ v, e = .returned v ∧ (Fk.eq (.bool false)).f v w' ∧ Below u.heap.size u w') from by have := fk_dhas (HD.below hd0 (bgo bl K.grow)) i; rw [show (decide (0 ≤ i ∧ i < (s.has.length : Int))) = false from by rw [decide_eq_false_iff_not]; omega] at this; exact this))
  · exact st_not (.tmp 9) rfl false (K.dep 2 9 rfl)
  intro f2 w2 A hb
  replace x0 := A.t x0 rfl
  replace x1 := A.t x1 rfl
  replace x2 := A.t x2 rfl
  have x10 := A.e 3 10 rfl rfl
  replace bl := bgo bl hb
  replace sd := A.sd sd
  clear A hb
  clear x1
  show Code.wp _ _ _ _ _
  refine wp_cond_true x10 ?_
  refine wp_seq ?_
  refine wr_a [.eq (.int .i64 11)] (by rw [sd.1]; kernel_rfl) ⟨fun hw ac u K => ?_, trivial⟩ ?_
  · exact st_assign (.const (.int .i64 11)) rfl rfl
  intro f3 w3 A hb
  replace x0 := A.t x0 rfl
  replace x2 := A.t x2 rfl
  replace x10 := A.t x10 rfl
  have x6 := A.e 0 6 rfl rfl
  replace bl := bgo bl hb
  replace sd := A.sd sd
  clear A hb
  clear x0
  clear x2
  clear x10
  show Code.wp _ _ _ _ _
  refine wp_ret ?_
  repeat (first | with_reducible refine then_ret ?_ | with_reducible refine block_ret ?_)
  exact bodyPost_ret (v := .int .i64 11) (ret_slot rfl f3 _ x6 _ _) sd.2 ⟨_, rfl, by show Value.int .i64 11 = Value.int .i64 (ft s i b); congr 1; unfold ft; rw [if_pos h0], bl⟩
section
variable {Q : Exit → Act → World → Prop} {o : Oper} {a : Act} {w : World}
theorem st_lookv {x y : Operand} (ho : o.op = .lookup 46 x y true) {cb : Nat} {l : List (Int × Value)} (hx : a.eval x = .map (some cb)) (hm : Im w cb l) {i : Int} (hy : a.eval y = .int .i64 i) (hi : (Lit.int .i64 i).wf = true) {u : Value} (hu : Value.tuple #[(mget l i).getD (.slice none 0 0), .bool (mget l i).isSome] = u) : o.wp Tryz.prog a w (Ends a o.dst w (Fk.eq u).f) Q := by
  subst hu
  exact st_look x y ho hx hm hy hi
end
theorem fk_dat {w : World} {gd : Nat} {M D : Nat → Prop} {s : Dst} (hd : HD w gd M D s) {j : Nat} (hj : j < s.has.length) :
    Calls Tryz.prog 31 #[.pointer (some ⟨gd, 0, none⟩), .int .i64 (j : Int)] w fun e w' => ∃ v, e = .returned v ∧ (Fk.sl (nowd s j)).f v w' ∧ Below w.heap.size w w' := by
  obtain ⟨sb, cb, C, pl, vs, l, r⟩ := hd
  have m0 := r.ob
  have hnm := r.nmax
  go_enter Tryz.func31, Tryz.ntmps31
  refine code_both (fun f w1 => f.tmps.size = 25 ∧ f.defers = [] ∧ f.eval (.tmp 0) = .pointer (some ⟨gd, 0, none⟩) ∧ f.eval (.tmp 1) = .int .i64 (j : Int) ∧ Below w.heap.size w (w1)) ⟨rfl, rfl, rfl, rfl, Below.refl _ _⟩ ?_
  rintro f0 w0 ⟨sz, df, x0, x1, bl⟩
  have sd := And.intro sz df
  clear sz df
  have bl0 := bl
  refine wp_seq ?_
  refine wr_a [.eq (.slice none 0 0)] (by rw [sd.1]; kernel_rfl) ⟨fun hw ac u K => ?_, trivial⟩ ?_
  · exact st_assign (.const (.slice none 0 0)) rfl rfl
  intro f1 w1 A hb
  replace x0 := A.t x0 rfl
  replace x1 := A.t x1 rfl
  replace bl := bgo bl hb
  replace sd := A.sd sd
  clear A hb
  show Code.wp _ _ _ _ _
  refine wp_seq ?_
  refine wp_seq ?_
  cases hq : mget l (j : Int)
  rotate_left
  · skip
    rename_i v
    obtain ⟨bs, hbs⟩ : ∃ y, s.has[j]? = some y := ⟨_, List.getElem?_eq_getElem hj⟩
    obtain ⟨bc, hbc⟩ : ∃ y, s.cch[j]? = some y := ⟨_, List.getElem?_eq_getElem (by rw [r.cl]; exact hj)⟩
    obtain ⟨hbe, hz⟩ := r.got hbc hq
    refine wr_a [.eq (.pointer (some ⟨gd, 0, none⟩)), .eq (.pointer (some ⟨gd, 0, none⟩)), .eq (.pointer (some ⟨gd, 2, none⟩)), .eq (.map (some cb)), .eq (.int .i64 (j : Int)), .eq (.tuple #[v, .bool true]), .eq (.tuple #[v, .bool true]), .eq (v), .eq (.bool true), .eq (v), .eq (.bool true)] (by rw [sd.1]; kernel_rfl) ⟨fun hw ac u K => ?_, fun hw ac u K => ?_, fun hw ac u K => ?_, fun hw ac u K => ?_, fun hw ac u K => ?_, fun hw ac u K => ?_, fun hw ac u K => ?_, fun hw ac u K => ?_, fun hw ac u K => ?_, fun hw ac u K => ?_, fun hw ac u K => ?_, trivial⟩ ?_
    · exact st_move (.tmp 0) rfl (K.t x0 rfl)
    · exact st_nil (.tmp 8) rfl (K.dep 0 8 rfl)
    · exact st_field 51 2 (.tmp 9) rfl (K.dep 1 9 rfl) (by kernel_rfl)
    · exact st_loadc 46 (.tmp 10) rfl (by kernel_rfl) (K.dep 2 10 rfl) (Ob.cell (Ob.below m0 (bgo bl K.grow)) 2 rfl)
    · exact st_move (.tmp 1) rfl (K.t x1 rfl)
    · exact st_lookv rfl (K.dep 3 11 rfl) (Im.below r.im (bgo bl K.grow)) (K.dep 4 12 rfl) (wf_nat (by omega)) (by rw [hq]; rfl)
    · exact st_move (.tmp 13) rfl (K.dep 5 13 rfl)
    · exact st_ext0 (.tmp 7) rfl (K.dep 6 7 rfl) rfl
    · exact st_ext1 (.tmp 7) rfl (K.dep 6 7 rfl) rfl
    · exact st_assign (.tmp 14) rfl (K.dep 7 14 rfl)
    · exact st_assign (.tmp 15) rfl (K.dep 8 15 rfl)
    intro f2 w2 A hb
    replace x0 := A.t x0 rfl
    replace x1 := A.t x1 rfl
    have x5 := A.e 9 5 rfl rfl
    have x6 := A.e 10 6 rfl rfl
    replace bl := bgo bl hb
    replace sd := A.sd sd
    clear A hb
    show Code.wp _ _ _ _ _
    refine wp_seq ?_
    refine wr_a [.eq (.bool true)] (by rw [sd.1]; kernel_rfl) ⟨fun hw ac u K => ?_, trivial⟩ ?_
    · exact st_move (.tmp 6) rfl (K.t x6 rfl)
    intro f3 w3 A hb
    replace x0 := A.t x0 rfl
    replace x1 := A.t x1 rfl
    replace x5 := A.t x5 rfl
    replace x6 := A.t x6 rfl
    have x16 := A.e 0 16 rfl rfl
    replace bl := bgo bl hb
    replace sd := A.sd sd
    clear A hb
    clear x6
    show Code.wp _ _ _ _ _
    refine wp_cond_true x16 ?_
    refine wp_seq ?_
    refine wr_a [.eq (v), .eq (v)] (by rw [sd.1]; kernel_rfl) ⟨fun hw ac u K => ?_, fun hw ac u K => ?_, trivial⟩ ?_
    · exact st_move (.tmp 5) rfl (K.t x5 rfl)
    · exact st_assign (.tmp 17) rfl (K.dep 0 17 rfl)
    intro f4 w4 A hb
    replace x0 := A.t x0 rfl
    replace x1 := A.t x1 rfl
    replace x5 := A.t x5 rfl
    replace x16 := A.t x16 rfl
    have x4 := A.e 1 4 rfl rfl
    replace bl := bgo bl hb
    replace sd := A.sd sd
    clear A hb
    clear x0
    clear x1
    clear x5
    clear x16
    show Code.wp _ _ _ _ _
    refine wp_ret ?_
    repeat (first | with_reducible refine then_ret ?_ | with_reducible refine block_ret ?_)
    refine bodyPost_ret (v := v) (ret_slot rfl f4 _ x4 _ _) sd.2 ⟨_, rfl, ?_, bl⟩
    have : nowd s j = bc := by unfold nowd; rw [List.getD_eq_getElem?_getD, List.getD_eq_getElem?_getD, hbs, hbc]; show (if bc = [] then bs else bc) = bc; rw [if_neg hbe]
    rw [this]; exact Fk.mono _ _ _ _ hz.sl bl
  obtain ⟨bs, hbs⟩ : ∃ y, s.has[j]? = some y := ⟨_, List.getElem?_eq_getElem hj⟩
  obtain ⟨bc, hbc⟩ : ∃ y, s.cch[j]? = some y := ⟨_, List.getElem?_eq_getElem (by rw [r.cl]; exact hj)⟩
  obtain ⟨_, v, hv, hz⟩ := r.sec j bs hbs
  have hbe := (r.none_iff hbc).2 hq
  refine wr_a [.eq (.pointer (some ⟨gd, 0, none⟩)), .eq (.pointer (some ⟨gd, 0, none⟩)), .eq (.pointer (some ⟨gd, 2, none⟩)), .eq (.map (some cb)), .eq (.int .i64 (j : Int)), .eq (.tuple #[.slice none 0 0, .bool false]), .eq (.tuple #[.slice none 0 0, .bool false]), .eq (.slice none 0 0), .eq (.bool false), .eq (.slice none 0 0), .eq (.bool false)] (by rw [sd.1]; kernel_rfl) ⟨fun hw ac u K => ?_, fun hw ac u K => ?_, fun hw ac u K => ?_, fun hw ac u K => ?_, fun hw ac u K => ?_, fun hw ac u K => ?_, fun hw ac u K => ?_, fun hw ac u K => ?_, fun hw ac u K => ?_, fun hw ac u K => ?_, fun hw ac u K => ?_, trivial⟩ ?_
  · exact st_move (.tmp 0) rfl (K.t x0 rfl)
  · exact st_nil (.tmp 8) rfl (K.dep 0 8 rfl)
  · exact st_field 51 2 (.tmp 9) rfl (K.dep 1 9 rfl) (by kernel_rfl)
  · exact st_loadc 46 (.tmp 10) rfl (by kernel_rfl) (K.dep 2 10 rfl) (Ob.cell (Ob.below m0 (bgo bl K.grow)) 2 rfl)
  · exact st_move (.tmp 1) rfl (K.t x1 rfl)
  · exact st_lookv rfl (K.dep 3 11 rfl) (Im.below r.im (bgo bl K.grow)) (K.dep 4 12 rfl) (wf_nat (by omega)) (by rw [hq]; rfl)
  · exact st_move (.tmp 13) rfl (K.dep 5 13 rfl)
  · exact st_ext0 (.tmp 7) rfl (K.dep 6 7 rfl) rfl
  · exact st_ext1 (.tmp 7) rfl (K.dep 6 7 rfl) rfl
  · exact st_assign (.tmp 14) rfl (K.dep 7 14 rfl)
  · exact st_assign (.tmp 15) rfl (K.dep 8 15 rfl)
  intro f2 w2 A hb
  replace x0 := A.t x0 rfl
  replace x1 := A.t x1 rfl
  have x5 := A.e 9 5 rfl rfl
  have x6 := A.e 10 6 rfl rfl
  replace bl := bgo bl hb
  replace sd := A.sd sd
  clear A hb
  show Code.wp _ _ _ _ _
  refine wp_seq ?_
  refine wr_a [.eq (.bool false)] (by rw [sd.1]; kernel_rfl) ⟨fun hw ac u K => ?_, trivial⟩ ?_
  · exact st_move (.tmp 6) rfl (K.t x6 rfl)
  intro f3 w3 A hb
  replace x0 := A.t x0 rfl
  replace x1 := A.t x1 rfl
  replace x5 := A.t x5 rfl
  replace x6 := A.t x6 rfl
  have x16 := A.e 0 16 rfl rfl
  replace bl := bgo bl hb
  replace sd := A.sd sd
  clear A hb
  clear x6
  show Code.wp _ _ _ _ _
  refine wp_cond_false x16 ?_
  refine wp_skip ?_
  show Code.wp _ _ _ _ _
  refine wp_seq ?_
  refine wr_a [.eq (.pointer (some ⟨gd, 0, none⟩)), .eq (.pointer (some ⟨gd, 0, none⟩)), .eq (.pointer (some ⟨gd, 1, none⟩)), .eq (.slice (some ⟨sb, 0, none⟩) s.has.length C), .eq (.int .i64 (j : Int)), .eq (.pointer (some ⟨sb, j, none⟩)), .eq (v), .eq (v)] (by rw [sd.1]; kernel_rfl) ⟨fun hw ac u K => ?_, fun hw ac u K => ?_, fun hw ac u K => ?_, fun hw ac u K => ?_, fun hw ac u K => ?_, fun hw ac u K => ?_, fun hw ac u K => ?_, fun hw ac u K => ?_, trivial⟩ ?_
  · exact st_move (.tmp 0) rfl (K.t x0 rfl)
  · exact st_nil (.tmp 18) rfl (K.dep 0 18 rfl)
  · exact st_field 51 1 (.tmp 19) rfl (K.dep 1 19 rfl) (by kernel_rfl)
  · exact st_loadc 23 (.tmp 20) rfl (by kernel_rfl) (K.dep 2 20 rfl) (Ob.cell (Ob.below m0 (bgo bl K.grow)) 1 rfl)
  · exact st_move (.tmp 1) rfl (K.t x1 rfl)
  · exact st_idxr (.tmp 21) (.tmp 22) rfl (K.dep 3 21 rfl) j (K.dep 4 22 rfl) hj
  · exact st_loadc 22 (.tmp 23) rfl (by kernel_rfl) (K.dep 5 23 rfl) (cell_grow (by simp only [World.cell?, r.row]; exact hv) (bgo bl K.grow))
  · exact st_assign (.tmp 24) rfl (K.dep 6 24 rfl)
  intro f4 w4 A hb
  replace x0 := A.t x0 rfl
  replace x1 := A.t x1 rfl
  replace x5 := A.t x5 rfl
  replace x16 := A.t x16 rfl
  have x4 := A.e 7 4 rfl rfl
  replace bl := bgo bl hb
  replace sd := A.sd sd
  clear A hb
  clear x0
  clear x1
  clear x5
  clear x16
  show Code.wp _ _ _ _ _
  refine wp_ret ?_
  repeat (first | with_reducible refine then_ret ?_ | with_reducible refine block_ret ?_)
  refine bodyPost_ret (v := v) (ret_slot rfl f4 _ x4 _ _) sd.2 ⟨_, rfl, ?_, bl⟩
  have : nowd s j = bs := by unfold nowd; rw [List.getD_eq_getElem?_getD, List.getD_eq_getElem?_getD, hbs, hbc]; show (if bc = [] then bs else bc) = bs; rw [if_pos hbe]
  rw [this]; exact Fk.mono _ _ _ _ hz.sl bl
end Go.Proofs.YtakdpkoigijonaaGreat
namespace Go.Proofs.YtakdpkoigijonaaGreat
set_option maxRecDepth 100000
open Go.RowKit
theorem nil_no8 (ad : Addr) (n C : Nat) (w : World) {x y : Operand} : (do eqGuard .eql 22 x y (.slice (some ad) n C) (.slice none 0 0); binOp .eql 22 (.slice (some ad) n C) (.slice none 0 0) : Sem Value).run Tryz.prog w = .ok (.bool false) w := by
  have h := Lib.run_eql_slice_nil (P := Tryz.prog) w 22 5 (some ad) n C 0 0 Tryz.under22
  simp only [eqGuard, Sem.run_bind]
  exact h
/-- Bytes of its own, not none: where they lie. -/
theorem orw_fz {B : Nat} {bs : List (BitVec 8)} {v : Value} {w : World} (h : (Fk.orw B 5 1 bs.length (bs.map V)).f v w) (hp : 0 < bs.length) : ∃ g C, v = .slice (some ⟨g, 0, none⟩) bs.length C ∧ B ≤ g ∧ Wb w g bs.length ∧ Fz w (fun b => b = g) v bs := by
  obtain ⟨h1, h2⟩ := h
  rcases h2 with ⟨rfl, h2⟩ | ⟨g, cap, cur, rfl, hB, hg, hcap, _, hcs, ht⟩
  · omega
  · have hcell : ∀ i, i < bs.length → cur[i]? = some (V (bs.getD i 0)) := fun i hi => by
      have e := congrArg (·[i]?) ht
      simp only [List.getElem?_take, if_pos (show i < bs.length * 1 by omega), Array.getElem?_toList, List.getElem?_map, List.getElem?_eq_getElem hi] at e
      rw [e, List.getD_eq_getElem?_getD, List.getElem?_eq_getElem hi]
      rfl
    refine ⟨g, cap, rfl, hB, ⟨cur, hg, by rw [hcs]; omega, fun i hi => ⟨_, hcell i hi⟩⟩, g, cap, 0, rfl, hcap, hp, rfl, (Array.getElem?_eq_some_iff.1 hg).1, fun i hi => ?_⟩
    simp only [World.cell?, hg, Nat.zero_add]
    exact hcell i hi
theorem Fr.of_below {S : Nat → Prop} {w w' : World} (h : Below w.heap.size w w') : Fr S w w' := ⟨h.os, h.tape, h.output, h.size, fun j hj _ => h.block j hj⟩
theorem clone8_some {bs : List (BitVec 8)} {ad : Addr} {n C : Nat} (hp : 0 < bs.length) (hN : bs.length ≤ 100000) (w : World) (hv : (Fk.sl bs).f (.slice (some ad) n C) w) :
    Calls Tryz.prog 22 #[.slice (some ad) n C] w fun e w' => ∃ g C9, e = .returned (.slice (some ⟨g, 0, none⟩) bs.length C9) ∧ w.heap.size ≤ g ∧ Wb w' g bs.length ∧ Fz w' (fun b => b = g) (.slice (some ⟨g, 0, none⟩) bs.length C9) bs ∧ Below w.heap.size w w' := by
  go_enter Tryz.func22, Tryz.ntmps22
  refine code_both (fun f w1 => f.tmps.size = 8 ∧ f.defers = [] ∧ f.eval (.tmp 0) = .slice (some ad) n C ∧ Below w.heap.size w (w1)) ⟨rfl, rfl, rfl, Below.refl _ _⟩ ?_
  rintro f0 w0 ⟨sz, df, x0, bl⟩
  have sd := And.intro sz df
  clear sz df
  have bl0 := bl
  refine wp_seq ?_
  refine wr_a [.eq (.slice none 0 0)] (by rw [sd.1]; kernel_rfl) ⟨fun hw ac u K => ?_, trivial⟩ ?_
  · exact st_assign (.const (.slice none 0 0)) rfl rfl
  intro f1 w1 A hb
  replace x0 := A.t x0 rfl
  replace bl := bgo bl hb
  replace sd := A.sd sd
  clear A hb
  show Code.wp _ _ _ _ _
  refine wp_seq ?_
  refine wp_seq ?_
  refine wr_a [.eq (.slice (some ad) n C), .eq (.bool false)] (by rw [sd.1]; kernel_rfl) ⟨fun hw ac u K => ?_, fun hw ac u K => ?_, trivial⟩ ?_
  · exact st_move (.tmp 0) rfl (K.t x0 rfl)
  · exact st_bin .eql 22 22 (.tmp 3) _ rfl (K.dep 0 3 rfl) rfl (nil_no8 _ _ _ _)
  intro f2 w2 A hb
  replace x0 := A.t x0 rfl
  have x4 := A.e 1 4 rfl rfl
  replace bl := bgo bl hb
  replace sd := A.sd sd
  clear A hb
  show Code.wp _ _ _ _ _
  refine wp_cond_false x4 ?_
  refine wp_skip ?_
  show Code.wp _ _ _ _ _
  refine wp_seq ?_
  refine wr_s [.orw w.heap.size 5 1 0 [], .eq (.slice (some ad) n C)] (by rw [sd.1]; kernel_rfl) ⟨fun hw ac u K => ?_, fun hw ac u K => ?_, trivial⟩ ?_
  · exact st_empty8 rfl _ (bgo bl K.grow).size
  · exact st_move (.tmp 0) rfl (K.t x0 rfl)
  intro f3 w3 A hb
  replace x0 := A.t x0 rfl
  replace x4 := A.t x4 rfl
  have x5 : Fk.f (.orw w.heap.size 5 1 0 []) (f3.eval (.tmp 5)) w3 := A.has 0 5 rfl
  have x6 := A.e 1 6 rfl rfl
  replace bl := bgo bl hb
  replace sd := A.sd sd
  clear A hb
  clear x0
  clear x4
  refine wl_app8 rfl (.tmp 5) (.tmp 6) rfl 7 rfl (by rw [sd.1]; decide) x5 x6 (Fk.mono _ _ _ _ hv bl) bl hN ?_
  intro f4 w4 df2 sz2 old2 new2 bl2
  clear x5
  replace x6 := tr old2 x6 rfl
  have x7 : Fk.f (.orw w.heap.size 5 1 bs.length (bs.map V)) (f4.eval (.tmp 7)) w4 := new2
  replace bl := bl2
  replace bl0 := bl
  replace sd := sd2 sz2 df2 sd
  clear df2 sz2 old2 new2 bl2
  clear x6
  refine wl_one (.orw w.heap.size 5 1 bs.length (bs.map V)) rfl 2 rfl (by rw [sd.1]; decide) (st_assign (.tmp 7) rfl x7) ?_
  intro f5 w5 df2 sz2 old2 new2 hb
  replace x7 := f_at (old2 7 rfl) (Fk.mono _ _ _ _ x7 hb)
  have x2 : Fk.f (.orw w.heap.size 5 1 bs.length (bs.map V)) (f5.eval (.tmp 2)) w5 := new2
  replace bl := bgo bl hb
  replace sd := sd2 sz2 df2 sd
  clear df2 sz2 old2 new2 hb
  refine wpList_nil ?_
  clear x7
  show Code.wp _ _ _ _ _
  refine wp_ret ?_
  repeat (first | with_reducible refine then_ret ?_ | with_reducible refine block_ret ?_)
  obtain ⟨g, C9, e9, q1, q2, q3⟩ := orw_fz x2 hp
  rw [e9] at q3
  exact bodyPost_ret (v := f5.eval (.tmp 2)) (ret_slot rfl f5 _ rfl _ _) sd.2 ⟨g, C9, by rw [e9], q1, q2, q3, bl⟩
theorem fk_clone8 {bs : List (BitVec 8)} {v : Value} (hp : 0 < bs.length) (hN : bs.length ≤ 100000) {w : World} (hv : (Fk.sl bs).f v w) : Calls Tryz.prog 22 #[v] w fun e w' => ∃ g C9, e = .returned (.slice (some ⟨g, 0, none⟩) bs.length C9) ∧ w.heap.size ≤ g ∧ Wb w' g bs.length ∧ Fz w' (fun b => b = g) (.slice (some ⟨g, 0, none⟩) bs.length C9) bs ∧ Below w.heap.size w w' := by
  obtain ⟨sp, m, c, b, so, e, hs⟩ := id hv
  have hm := hs.len
  obtain ⟨e1, _⟩ := hs.src (by omega)
  rw [e1] at e
  subst e
  exact clone8_some hp hN w hv
/-- New bytes, not none. -/
def Fk.n8 (B : Nat) (bs : List (BitVec 8)) : Fk := .inr (.inl ⟨fun v w => ∃ g C, v = .slice (some ⟨g, 0, none⟩) bs.length C ∧ B ≤ g ∧ Wb w g bs.length ∧ Fz w (fun b => b = g) v bs, by
  rintro v w w' ⟨g, C, e, h1, h2, h3⟩ hb
  refine ⟨g, C, e, h1, h2.below hb, h3.keep (fun j _ h => hb.block j h) hb.size (fun _ h _ => h)⟩⟩)
theorem clone8_own {bs : List (BitVec 8)} {v : Value} (hp : 0 < bs.length) (hN : bs.length ≤ 100000) {w : World} (hv : (Fk.sl bs).f v w) {B : Nat} (hB : B ≤ w.heap.size) : Calls Tryz.prog 22 #[v] w fun e w' => ∃ u, e = .returned u ∧ (Fk.n8 B bs).f u w' ∧ Below w.heap.size w w' := by
  refine (fk_clone8 hp hN hv).mono ?_
  rintro e w' ⟨g, C, rfl, h1, h2, h3, h4⟩
  exact ⟨_, rfl, ⟨g, C, rfl, Nat.le_trans hB h1, h2, h3⟩, h4⟩
theorem Dk.now_len {w : World} {g sb cb C : Nat} {pl : Int} {vs : Array Value} {l : List (Int × Value)} {M D : Nat → Prop} {s : Dst} (r : Dk w g sb cb C pl vs l M D s) {j : Nat} (hj : j < s.has.length) : (nowd s j).length = s.size := by
  obtain ⟨yh, hyh⟩ : ∃ y, s.has[j]? = some y := ⟨_, List.getElem?_eq_getElem hj⟩
  obtain ⟨yc, hyc⟩ : ∃ y, s.cch[j]? = some y := ⟨_, List.getElem?_eq_getElem (by rw [r.cl]; exact hj)⟩
  unfold nowd
  rw [List.getD_eq_getElem?_getD, List.getD_eq_getElem?_getD, hyh, hyc]
  show (if yc = [] then yh else yc).length = s.size
  split
  · exact (r.sec j yh hyh).1
  · rename_i h
    obtain ⟨v, hv⟩ := r.cch j yc hyc h
    obtain ⟨i', bs', h1, _, h3, h4, _⟩ := r.key _ v hv
    obtain rfl : j = i' := by omega
    rw [hyc] at h3
    cases h3
    exact h4
theorem fk_dread {w : World} {gd : Nat} {M D : Nat → Prop} {s : Dst} (hd : HD w gd M D s) (i : Int) :
    Calls Tryz.prog 11 #[.pointer (some ⟨gd, 0, none⟩), .int .i64 i] w fun e w' => ∃ D' A C, e = .returned (.tuple #[.slice A (rd s i).2.length C, .int .i64 (rd s i).1]) ∧ (Fk.sl (rd s i).2).f (.slice A (rd s i).2.length C) w' ∧ (0 < (rd s i).2.length → ∃ g, A = some ⟨g, 0, none⟩ ∧ w.heap.size ≤ g ∧ ¬ D' g ∧ Wb w' g (rd s i).2.length) ∧ HD w' gd M D' s ∧ (∀ j, D' j → D j ∨ w.heap.size ≤ j) ∧ Fr M w w' := by
  have hd0 := hd
  obtain ⟨sb, cb, C, pl, vs, l, r⟩ := hd
  have m0 := r.ob
  have hnm := r.nmax
  go_enter Tryz.func11, Tryz.ntmps11
  refine code_both (fun f w1 => f.tmps.size = 16 ∧ f.defers = [] ∧ f.eval (.tmp 0) = .pointer (some ⟨gd, 0, none⟩) ∧ f.eval (.tmp 1) = .int .i64 i ∧ Below w.heap.size w (w1)) ⟨rfl, rfl, rfl, rfl, Below.refl _ _⟩ ?_
  rintro f0 w0 ⟨sz, df, x0, x1, bl⟩
  have sd := And.intro sz df
  clear sz df
  have bl0 := bl
  refine wp_seq ?_
  refine wr_a [.eq (.slice none 0 0), .eq (.int .i64 0)] (by rw [sd.1]; kernel_rfl) ⟨fun hw ac u K => ?_, fun hw ac u K => ?_, trivial⟩ ?_
  · exact st_assign (.const (.slice none 0 0)) rfl rfl
  · exact st_assign (.const (.int .i64 0)) rfl rfl
  intro f1 w1 A hb
  replace x0 := A.t x0 rfl
  replace x1 := A.t x1 rfl
  replace bl := bgo bl hb
  replace sd := A.sd sd
  clear A hb
  show Code.wp _ _ _ _ _
  refine wp_seq ?_
  refine wp_seq ?_
  by_cases hdn : s.down = true
  rotate_left
  · skip
    replace hdn : s.down = false := by simpa using hdn
    by_cases h0 : i < 0 ∨ (s.has.length : Int) ≤ i
    rotate_left
    · skip
      obtain ⟨j, rfl⟩ : ∃ j : Nat, i = (j : Int) := ⟨i.toNat, by omega⟩
      have hj : j < s.has.length := by omega
      obtain ⟨yh, hyh⟩ : ∃ y, s.has[j]? = some y := ⟨_, List.getElem?_eq_getElem hj⟩
      obtain ⟨yc, hyc⟩ : ∃ y, s.cch[j]? = some y := ⟨_, List.getElem?_eq_getElem (by rw [r.cl]; exact hj)⟩
      have hrd : rd s (j : Int) = (0, nowd s j) := (rd_ok hdn rfl hj hyh hyc).trans (by rw [show nowd s j = nowv yh yc from by unfold nowd nowv; rw [List.getD_eq_getElem?_getD, List.getD_eq_getElem?_getD, hyh, hyc]; rfl])
      have hnl := r.now_len hj
      refine wr_a [.eq (.pointer (some ⟨gd, 0, none⟩)), .eq (.bool false)] (by rw [sd.1]; kernel_rfl) ⟨fun hw ac u K => ?_, fun hw ac u K => ?_, trivial⟩ ?_
      · exact st_move (.tmp 0) rfl (K.t x0 rfl)
      · exact st_call 29 (.func 29) _ _ _ rfl rfl (one_arg (K.dep 0 6 rfl)) Tryz.enter29 ((show Calls Tryz.prog 29 #[.pointer (some ⟨gd, 0, none⟩)] u (fun e w' => ∃ v, e = .returned v ∧ (Fk.eq (.bool false)).f v w' ∧ Below u.heap.size u w') from by have := fk_ddown (HD.below hd0 (bgo bl K.grow)); rw [hdn] at this; exact this))
      intro f2 w2 A hb
      replace x0 := A.t x0 rfl
      replace x1 := A.t x1 rfl
      have x7 := A.e 1 7 rfl rfl
      replace bl := bgo bl hb
      replace sd := A.sd sd
      clear A hb
      show Code.wp _ _ _ _ _
      refine wp_cond_false x7 ?_
      refine wp_skip ?_
      show Code.wp _ _ _ _ _
      refine wp_seq ?_
      refine wp_seq ?_
      refine wr_a [.eq (.pointer (some ⟨gd, 0, none⟩)), .eq (.int .i64 (j : Int)), .eq (.bool true), .eq (.bool false)] (by rw [sd.1]; kernel_rfl) ⟨fun hw ac u K => ?_, fun hw ac u K => ?_, fun hw ac u K => ?_, fun hw ac u K => ?_, trivial⟩ ?_
      · exact st_move (.tmp 0) rfl (K.t x0 rfl)
      · exact st_move (.tmp 1) rfl (K.t x1 rfl)
      · exact st_call 30 (.func 30) _ _ _ rfl rfl (arg2 (K.dep 0 8 rfl) (K.dep 1 9 rfl)) Tryz.enter30 ((show Calls Tryz.prog 30 #[.pointer (some ⟨gd, 0, none⟩), .int .i64 (j : Int)] u (fun e w' => ∃ v, e = .returned v ∧ (Fk.eq (.bool true)).f v w' ∧ Below u.heap.size u w') from by have := fk_dhas (HD.below hd0 (bgo bl K.grow)) (j : Int); rw [show (decide (0 ≤ (j : Int) ∧ (j : Int) < (s.has.length : Int))) = true from by rw [decide_eq_true_iff]; omega] at this; exact this))
      · exact st_not (.tmp 10) rfl true (K.dep 2 10 rfl)
      intro f3 w3 A hb
      replace x0 := A.t x0 rfl
      replace x1 := A.t x1 rfl
      replace x7 := A.t x7 rfl
      have x11 := A.e 3 11 rfl rfl
      replace bl := bgo bl hb
      replace sd := A.sd sd
      clear A hb
      clear x7
      show Code.wp _ _ _ _ _
      refine wp_cond_false x11 ?_
      refine wp_skip ?_
      show Code.wp _ _ _ _ _
      refine wp_seq ?_
      refine wr_a [.eq (.pointer (some ⟨gd, 0, none⟩)), .eq (.int .i64 (j : Int)), .sl (nowd s j), .n8 w.heap.size (nowd s j), .n8 w.heap.size (nowd s j), .eq (.int .i64 0)] (by rw [sd.1]; kernel_rfl) ⟨fun hw ac u K => ?_, fun hw ac u K => ?_, fun hw ac u K => ?_, fun hw ac u K => ?_, fun hw ac u K => ?_, fun hw ac u K => ?_, trivial⟩ ?_
      · exact st_move (.tmp 0) rfl (K.t x0 rfl)
      · exact st_move (.tmp 1) rfl (K.t x1 rfl)
      · exact st_call 31 (.func 31) _ _ _ rfl rfl (arg2 (K.dep 0 12 rfl) (K.dep 1 13 rfl)) Tryz.enter31 (fk_dat (HD.below hd0 (bgo bl K.grow)) hj)
      · exact st_call 22 (.func 22) _ _ _ rfl rfl (one_arg rfl) Tryz.enter22 (clone8_own (by have := r.pos; omega) (by have := r.zmax; omega) (K.dep 2 14 rfl) (bgo bl K.grow).size)
      · exact st_assign (.tmp 15) rfl (K.dep 3 15 rfl)
      · exact st_assign (.const (.int .i64 0)) rfl rfl
      intro f4 w4 A hb
      replace x0 := A.t x0 rfl
      replace x1 := A.t x1 rfl
      replace x11 := A.t x11 rfl
      have x4 : Fk.f (.n8 w.heap.size (nowd s j)) (f4.eval (.tmp 4)) w4 := A.has 4 4 rfl
      have x5 := A.e 5 5 rfl rfl
      replace bl := bgo bl hb
      replace sd := A.sd sd
      clear A hb
      clear x0
      clear x1
      clear x11
      show Code.wp _ _ _ _ _
      refine wp_ret ?_
      repeat (first | with_reducible refine then_ret ?_ | with_reducible refine block_ret ?_)
      have hlt9 := hd0.lt
      obtain ⟨g, C9, e9, q1, q2, q3⟩ := x4
      exact bodyPost_ret (v := .tuple #[.slice (some ⟨g, 0, none⟩) (nowd s j).length C9, .int .i64 0]) (ret_two rfl f4 _ _ e9 x5 _ _) sd.2 (by rw [hrd]; exact ⟨D, some ⟨g, 0, none⟩, C9, rfl, by rw [e9] at q3; exact q3.sl, fun _ => ⟨g, rfl, q1, fun q => by have := hlt9 g q; omega, q2⟩, HD.below hd0 bl, fun j q => .inl q, Fr.of_below bl⟩)
    refine wr_a [.eq (.pointer (some ⟨gd, 0, none⟩)), .eq (.bool false)] (by rw [sd.1]; kernel_rfl) ⟨fun hw ac u K => ?_, fun hw ac u K => ?_, trivial⟩ ?_
    · exact st_move (.tmp 0) rfl (K.t x0 rfl)
    · exact st_call 29 (.func 29) _ _ _ rfl rfl (one_arg (K.dep 0 6 rfl)) Tryz.enter29 ((show Calls Tryz.prog 29 #[.pointer (some ⟨gd, 0, none⟩)] u (fun e w' => ∃ v, e = .returned v ∧ (Fk.eq (.bool false)).f v w' ∧ Below u.heap.size u w') from by have := fk_ddown (HD.below hd0 (bgo bl K.grow)); rw [hdn] at this; exact this))
    intro f2 w2 A hb
    replace x0 := A.t x0 rfl
    replace x1 := A.t x1 rfl
    have x7 := A.e 1 7 rfl rfl
    replace bl := bgo bl hb
    replace sd := A.sd sd
    clear A hb
    show Code.wp _ _ _ _ _
    refine wp_cond_false x7 ?_
    refine wp_skip ?_
    show Code.wp _ _ _ _ _
    refine wp_seq ?_
    refine wp_seq ?_
    refine wr_a [.eq (.pointer (some ⟨gd, 0, none⟩)), .eq (.int .i64 i), .eq (.bool false), .eq (.bool true)] (by rw [sd.1]; kernel_rfl) ⟨fun hw ac u K => ?_, fun hw ac u K => ?_, fun hw ac u K => ?_, fun hw ac u K => ?_, trivial⟩ ?_
    · exact st_move (.tmp 0) rfl (K.t x0 rfl)
    · exact st_move (.tmp 1) rfl (K.t x1 rfl)
    · exact st_call 30 (.func 30) _ _ _ rfl rfl (arg2 (K.dep 0 8 rfl) (K.dep 1 9 rfl)) Tryz.enter30 ((show Calls Tryz.prog 30 #[.pointer (some ⟨gd, 0, none⟩), .int .i64 i] u (fun e w' => ∃ v, e = .returned v ∧ (Fk.eq (.bool false)).f v w' ∧ Below u.heap.size u w') from by have := fk_dhas (HD.below hd0 (bgo bl K.grow)) i; rw [show (decide (0 ≤ i ∧ i < (s.has.length : Int))) = false from by rw [decide_eq_false_iff_not]; omega] at this; exact this))
    · exact st_not (.tmp 10) rfl false (K.dep 2 10 rfl)
    intro f3 w3 A hb
    replace x0 := A.t x0 rfl
    replace x1 := A.t x1 rfl
    replace x7 := A.t x7 rfl
    have x11 := A.e 3 11 rfl rfl
    replace bl := bgo bl hb
    replace sd := A.sd sd
    clear A hb
    clear x7
    show Code.wp _ _ _ _ _
    refine wp_cond_true x11 ?_
    refine wp_seq ?_
    refine wr_a [.eq (.slice none 0 0), .eq (.int .i64 11)] (by rw [sd.1]; kernel_rfl) ⟨fun hw ac u K => ?_, fun hw ac u K => ?_, trivial⟩ ?_
    · exact st_assign (.const (.slice none 0 0)) rfl rfl
    · exact st_assign (.const (.int .i64 11)) rfl rfl
    intro f4 w4 A hb
    replace x0 := A.t x0 rfl
    replace x1 := A.t x1 rfl
    replace x11 := A.t x11 rfl
    have x4 := A.e 0 4 rfl rfl
    have x5 := A.e 1 5 rfl rfl
    replace bl := bgo bl hb
    replace sd := A.sd sd
    clear A hb
    clear x0
    clear x1
    clear x11
    show Code.wp _ _ _ _ _
    refine wp_ret ?_
    repeat (first | with_reducible refine then_ret ?_ | with_reducible refine block_ret ?_)
    exact bodyPost_ret (v := .tuple #[.slice none 0 0, .int .i64 11]) (ret_two rfl f4 _ _ x4 x5 _ _) sd.2 (by rw [rd_range hdn h0]; exact ⟨D, none, 0, rfl, ⟨none, 0, 0, 0, 0, rfl, rfl, Nat.le_refl _, fun _ => ⟨rfl, rfl⟩, fun hm => by omega⟩, fun hm => absurd hm (by decide), HD.below hd0 bl, fun j q => .inl q, Fr.of_below bl⟩)
  refine wr_a [.eq (.pointer (some ⟨gd, 0, none⟩)), .eq (.bool true)] (by rw [sd.1]; kernel_rfl) ⟨fun hw ac u K => ?_, fun hw ac u K => ?_, trivial⟩ ?_
  · exact st_move (.tmp 0) rfl (K.t x0 rfl)
  · exact st_call 29 (.func 29) _ _ _ rfl rfl (one_arg (K.dep 0 6 rfl)) Tryz.enter29 ((show Calls Tryz.prog 29 #[.pointer (some ⟨gd, 0, none⟩)] u (fun e w' => ∃ v, e = .returned v ∧ (Fk.eq (.bool true)).f v w' ∧ Below u.heap.size u w') from by have := fk_ddown (HD.below hd0 (bgo bl K.grow)); rw [hdn] at this; exact this))
  intro f2 w2 A hb
  replace x0 := A.t x0 rfl
  replace x1 := A.t x1 rfl
  have x7 := A.e 1 7 rfl rfl
  replace bl := bgo bl hb
  replace sd := A.sd sd
  clear A hb
  show Code.wp _ _ _ _ _
  refine wp_cond_true x7 ?_
  refine wp_seq ?_
  refine wr_a [.eq (.slice none 0 0), .eq (.int .i64 30)] (by rw [sd.1]; kernel_rfl) ⟨fun hw ac u K => ?_, fun hw ac u K => ?_, trivial⟩ ?_
  · exact st_assign (.const (.slice none 0 0)) rfl rfl
  · exact st_assign (.const (.int .i64 30)) rfl rfl
  intro f3 w3 A hb
  replace x0 := A.t x0 rfl
  replace x1 := A.t x1 rfl
  replace x7 := A.t x7 rfl
  have x4 := A.e 0 4 rfl rfl
  have x5 := A.e 1 5 rfl rfl
  replace bl := bgo bl hb
  replace sd := A.sd sd
  clear A hb
  clear x0
  clear x1
  clear x7
  show Code.wp _ _ _ _ _
  refine wp_ret ?_
  repeat (first | with_reducible refine then_ret ?_ | with_reducible refine block_ret ?_)
  exact bodyPost_ret (v := .tuple #[.slice none 0 0, .int .i64 30]) (ret_two rfl f3 _ _ x4 x5 _ _) sd.2 (by rw [rd_down hdn i]; exact ⟨D, none, 0, rfl, ⟨none, 0, 0, 0, 0, rfl, rfl, Nat.le_refl _, fun _ => ⟨rfl, rfl⟩, fun hm => by omega⟩, fun hm => absurd hm (by decide), HD.below hd0 bl, fun j q => .inl q, Fr.of_below bl⟩)
theorem use_out {w : World} {gd : Nat} {dn : Bool} {u1 u2 u3 u4 : Value} (m0 : Ob w gd 51 [u1, u2, u3, .int .i64 0, .bool dn, u4])  :
    Calls Tryz.prog 91 #[.pointer (some ⟨gd, 3, none⟩)] w fun e w' => e = .returned (.int .i64 30) ∧ Ob w' gd 51 [u1, u2, u3, .int .i64 0, .bool true, u4] ∧ Only gd w w' := by
  go_enter Tryz.func91, Tryz.ntmps91
  refine code_both (fun f w1 => f.tmps.size = 23 ∧ f.defers = [] ∧ f.eval (.tmp 0) = .pointer (some ⟨gd, 3, none⟩) ∧ Ob w1 (gd) 51 ([u1, u2, u3, .int .i64 0, .bool dn, u4]) ∧ Only gd w (w1)) ⟨rfl, rfl, rfl, m0, Only.refl _ _⟩ ?_
  clear m0
  rintro f0 w0 ⟨sz, df, x0, m0, bl⟩
  have sd := And.intro sz df
  clear sz df
  have bl0 := bl
  refine wp_seq ?_
  refine wr_a [.eq (.int .i64 0)] (by rw [sd.1]; kernel_rfl) ⟨fun hw ac u K => ?_, trivial⟩ ?_
  · exact st_assign (.const (.int .i64 0)) rfl rfl
  intro f1 w1 A hb
  replace x0 := A.t x0 rfl
  replace m0 := Ob.below m0 hb
  replace bl := (only_below bl (Below.mono hb bl.size))
  replace sd := A.sd sd
  clear A hb
  show Code.wp _ _ _ _ _
  refine wp_seq ?_
  refine wp_seq ?_
  refine wr_a [.eq (.pointer (some ⟨gd, 3, none⟩)), .eq (.pointer (some ⟨gd, 3, none⟩)), .eq (.pointer (some ⟨gd, 3, none⟩)), .eq (.int .i64 0), .eq (.bool true)] (by rw [sd.1]; kernel_rfl) ⟨fun hw ac u K => ?_, fun hw ac u K => ?_, fun hw ac u K => ?_, fun hw ac u K => ?_, fun hw ac u K => ?_, trivial⟩ ?_
  · exact st_move (.tmp 0) rfl (K.t x0 rfl)
  · exact st_nil (.tmp 3) rfl (K.dep 0 3 rfl)
  · exact st_field 48 0 (.tmp 4) rfl (K.dep 1 4 rfl) (by kernel_rfl)
  · exact st_loadc 3 (.tmp 5) rfl (by kernel_rfl) (K.dep 2 5 rfl) (Ob.cell (Ob.below m0 K.grow) 3 rfl)
  · exact st_eqi 3 (.tmp 6) (.const (.int .i64 0)) rfl .i64 (0) (0) (K.dep 3 6 rfl) rfl _ (by rfl)
  intro f2 w2 A hb
  replace x0 := A.t x0 rfl
  have x7 := A.e 4 7 rfl rfl
  replace m0 := Ob.below m0 hb
  replace bl := (only_below bl (Below.mono hb bl.size))
  replace sd := A.sd sd
  clear A hb
  show Code.wp _ _ _ _ _
  refine wp_cond_true x7 ?_
  refine wp_seq ?_
  refine wr_s [.eq (.pointer (some ⟨gd, 3, none⟩)), .eq (.pointer (some ⟨gd, 3, none⟩)), .eq (.pointer (some ⟨gd, 4, none⟩))] (by rw [sd.1]; kernel_rfl) ⟨fun hw ac u K => ?_, fun hw ac u K => ?_, fun hw ac u K => ?_, trivial⟩ ?_
  · exact st_move (.tmp 0) rfl (K.t x0 rfl)
  · exact st_nil (.tmp 8) rfl (K.dep 0 8 rfl)
  · exact st_field 48 1 (.tmp 9) rfl (K.dep 1 9 rfl) (by kernel_rfl)
  intro f3 w3 A hb
  replace x0 := A.t x0 rfl
  replace x7 := A.t x7 rfl
  have x10 := A.e 2 10 rfl rfl
  replace m0 := Ob.below m0 hb
  replace bl := (only_below bl (Below.mono hb bl.size))
  replace sd := A.sd sd
  clear A hb
  clear x0
  clear x7
  refine wl_stc 4 rfl (.tmp 10) (.const (.bool true)) rfl rfl (by kernel_rfl) (gd) 4 (.bool true) x10 rfl rfl rfl (Ob.there m0 4 (by simp)) ?_
  replace m0 : Ob (w3.setCell ⟨gd, 4, none⟩ (.bool true)) (gd) 51 ([u1, u2, u3, .int .i64 0, .bool true, u4]) := Ob.set m0 4 (.bool true)
  replace bl : Only gd w (w3.setCell ⟨gd, 4, none⟩ (.bool true)) := bl.setCell _ _
  generalize w3.setCell ⟨gd, 4, none⟩ (.bool true) = w4b at bl m0 ⊢
  refine wpList_nil ?_
  clear x10
  show Code.wp _ _ _ _ _
  refine wp_seq ?_
  refine wr_a [.eq (.int .i64 30)] (by rw [sd.1]; kernel_rfl) ⟨fun hw ac u K => ?_, trivial⟩ ?_
  · exact st_assign (.const (.int .i64 30)) rfl rfl
  intro f5 w5 A hb
  have x2 := A.e 0 2 rfl rfl
  replace m0 := Ob.below m0 hb
  replace bl := (only_below bl (Below.mono hb bl.size))
  replace sd := A.sd sd
  clear A hb
  show Code.wp _ _ _ _ _
  refine wp_ret ?_
  repeat (first | with_reducible refine then_ret ?_ | with_reducible refine block_ret ?_)
  exact bodyPost_ret (v := .int .i64 30) (ret_slot rfl f5 _ x2 _ _) sd.2 ⟨rfl, m0, bl⟩
theorem use_free {w : World} {gd : Nat} {pl : Int} {dn : Bool} {u1 u2 u3 u4 : Value} (m0 : Ob w gd 51 [u1, u2, u3, .int .i64 (pl), .bool dn, u4]) (h : pl < 0) :
    Calls Tryz.prog 91 #[.pointer (some ⟨gd, 3, none⟩)] w fun e w' => e = .returned (.int .i64 0) ∧ Ob w' gd 51 [u1, u2, u3, .int .i64 (pl), .bool dn, u4] ∧ Only gd w w' := by
  go_enter Tryz.func91, Tryz.ntmps91
  refine code_both (fun f w1 => f.tmps.size = 23 ∧ f.defers = [] ∧ f.eval (.tmp 0) = .pointer (some ⟨gd, 3, none⟩) ∧ Ob w1 (gd) 51 ([u1, u2, u3, .int .i64 (pl), .bool dn, u4]) ∧ Only gd w (w1)) ⟨rfl, rfl, rfl, m0, Only.refl _ _⟩ ?_
  clear m0
  rintro f0 w0 ⟨sz, df, x0, m0, bl⟩
  have sd := And.intro sz df
  clear sz df
  have bl0 := bl
  refine wp_seq ?_
  refine wr_a [.eq (.int .i64 0)] (by rw [sd.1]; kernel_rfl) ⟨fun hw ac u K => ?_, trivial⟩ ?_
  · exact st_assign (.const (.int .i64 0)) rfl rfl
  intro f1 w1 A hb
  replace x0 := A.t x0 rfl
  replace m0 := Ob.below m0 hb
  replace bl := (only_below bl (Below.mono hb bl.size))
  replace sd := A.sd sd
  clear A hb
  show Code.wp _ _ _ _ _
  refine wp_seq ?_
  refine wp_seq ?_
  refine wr_a [.eq (.pointer (some ⟨gd, 3, none⟩)), .eq (.pointer (some ⟨gd, 3, none⟩)), .eq (.pointer (some ⟨gd, 3, none⟩)), .eq (.int .i64 (pl)), .eq (.bool false)] (by rw [sd.1]; kernel_rfl) ⟨fun hw ac u K => ?_, fun hw ac u K => ?_, fun hw ac u K => ?_, fun hw ac u K => ?_, fun hw ac u K => ?_, trivial⟩ ?_
  · exact st_move (.tmp 0) rfl (K.t x0 rfl)
  · exact st_nil (.tmp 3) rfl (K.dep 0 3 rfl)
  · exact st_field 48 0 (.tmp 4) rfl (K.dep 1 4 rfl) (by kernel_rfl)
  · exact st_loadc 3 (.tmp 5) rfl (by kernel_rfl) (K.dep 2 5 rfl) (Ob.cell (Ob.below m0 K.grow) 3 rfl)
  · exact st_eqi 3 (.tmp 6) (.const (.int .i64 0)) rfl .i64 ((pl)) (0) (K.dep 3 6 rfl) rfl _ (by rw [eq_comm, decide_eq_false_iff_not]; omega)
  intro f2 w2 A hb
  replace x0 := A.t x0 rfl
  have x7 := A.e 4 7 rfl rfl
  replace m0 := Ob.below m0 hb
  replace bl := (only_below bl (Below.mono hb bl.size))
  replace sd := A.sd sd
  clear A hb
  show Code.wp _ _ _ _ _
  refine wp_cond_false x7 ?_
  refine wp_skip ?_
  show Code.wp _ _ _ _ _
  refine wp_seq ?_
  refine wp_seq ?_
  refine wr_a [.eq (.pointer (some ⟨gd, 3, none⟩)), .eq (.pointer (some ⟨gd, 3, none⟩)), .eq (.pointer (some ⟨gd, 3, none⟩)), .eq (.int .i64 (pl)), .eq (.bool false)] (by rw [sd.1]; kernel_rfl) ⟨fun hw ac u K => ?_, fun hw ac u K => ?_, fun hw ac u K => ?_, fun hw ac u K => ?_, fun hw ac u K => ?_, trivial⟩ ?_
  · exact st_move (.tmp 0) rfl (K.t x0 rfl)
  · exact st_nil (.tmp 11) rfl (K.dep 0 11 rfl)
  · exact st_field 48 0 (.tmp 12) rfl (K.dep 1 12 rfl) (by kernel_rfl)
  · exact st_loadc 3 (.tmp 13) rfl (by kernel_rfl) (K.dep 2 13 rfl) (Ob.cell (Ob.below m0 K.grow) 3 rfl)
  · exact st_gtr 3 (.tmp 14) (.const (.int .i64 0)) rfl .i64 ((pl)) (0) (K.dep 3 14 rfl) rfl _ (by rw [eq_comm, decide_eq_false_iff_not]; omega)
  intro f3 w3 A hb
  replace x0 := A.t x0 rfl
  replace x7 := A.t x7 rfl
  have x15 := A.e 4 15 rfl rfl
  replace m0 := Ob.below m0 hb
  replace bl := (only_below bl (Below.mono hb bl.size))
  replace sd := A.sd sd
  clear A hb
  clear x7
  show Code.wp _ _ _ _ _
  refine wp_cond_false x15 ?_
  refine wp_skip ?_
  show Code.wp _ _ _ _ _
  refine wp_seq ?_
  refine wr_a [.eq (.int .i64 0)] (by rw [sd.1]; kernel_rfl) ⟨fun hw ac u K => ?_, trivial⟩ ?_
  · exact st_assign (.const (.int .i64 0)) rfl rfl
  intro f4 w4 A hb
  replace x0 := A.t x0 rfl
  replace x15 := A.t x15 rfl
  have x2 := A.e 0 2 rfl rfl
  replace m0 := Ob.below m0 hb
  replace bl := (only_below bl (Below.mono hb bl.size))
  replace sd := A.sd sd
  clear A hb
  clear x0
  clear x15
  show Code.wp _ _ _ _ _
  refine wp_ret ?_
  repeat (first | with_reducible refine then_ret ?_ | with_reducible refine block_ret ?_)
  exact bodyPost_ret (v := .int .i64 0) (ret_slot rfl f4 _ x2 _ _) sd.2 ⟨rfl, m0, bl⟩
theorem use_left {w : World} {gd : Nat} {pl : Int} {dn : Bool} {u1 u2 u3 u4 : Value} (m0 : Ob w gd 51 [u1, u2, u3, .int .i64 (pl), .bool dn, u4]) (h : 0 < pl) (hm : pl ≤ 9223372036854775807) :
    Calls Tryz.prog 91 #[.pointer (some ⟨gd, 3, none⟩)] w fun e w' => e = .returned (.int .i64 0) ∧ Ob w' gd 51 [u1, u2, u3, .int .i64 (pl - 1), .bool dn, u4] ∧ Only gd w w' := by
  go_enter Tryz.func91, Tryz.ntmps91
  refine code_both (fun f w1 => f.tmps.size = 23 ∧ f.defers = [] ∧ f.eval (.tmp 0) = .pointer (some ⟨gd, 3, none⟩) ∧ Ob w1 (gd) 51 ([u1, u2, u3, .int .i64 (pl), .bool dn, u4]) ∧ Only gd w (w1)) ⟨rfl, rfl, rfl, m0, Only.refl _ _⟩ ?_
  clear m0
  rintro f0 w0 ⟨sz, df, x0, m0, bl⟩
  have sd := And.intro sz df
  clear sz df
  have bl0 := bl
  refine wp_seq ?_
  refine wr_a [.eq (.int .i64 0)] (by rw [sd.1]; kernel_rfl) ⟨fun hw ac u K => ?_, trivial⟩ ?_
  · exact st_assign (.const (.int .i64 0)) rfl rfl
  intro f1 w1 A hb
  replace x0 := A.t x0 rfl
  replace m0 := Ob.below m0 hb
  replace bl := (only_below bl (Below.mono hb bl.size))
  replace sd := A.sd sd
  clear A hb
  show Code.wp _ _ _ _ _
  refine wp_seq ?_
  refine wp_seq ?_
  refine wr_a [.eq (.pointer (some ⟨gd, 3, none⟩)), .eq (.pointer (some ⟨gd, 3, none⟩)), .eq (.pointer (some ⟨gd, 3, none⟩)), .eq (.int .i64 (pl)), .eq (.bool false)] (by rw [sd.1]; kernel_rfl) ⟨fun hw ac u K => ?_, fun hw ac u K => ?_, fun hw ac u K => ?_, fun hw ac u K => ?_, fun hw ac u K => ?_, trivial⟩ ?_
  · exact st_move (.tmp 0) rfl (K.t x0 rfl)
  · exact st_nil (.tmp 3) rfl (K.dep 0 3 rfl)
  · exact st_field 48 0 (.tmp 4) rfl (K.dep 1 4 rfl) (by kernel_rfl)
  · exact st_loadc 3 (.tmp 5) rfl (by kernel_rfl) (K.dep 2 5 rfl) (Ob.cell (Ob.below m0 K.grow) 3 rfl)
  · exact st_eqi 3 (.tmp 6) (.const (.int .i64 0)) rfl .i64 ((pl)) (0) (K.dep 3 6 rfl) rfl _ (by rw [eq_comm, decide_eq_false_iff_not]; omega)
  intro f2 w2 A hb
  replace x0 := A.t x0 rfl
  have x7 := A.e 4 7 rfl rfl
  replace m0 := Ob.below m0 hb
  replace bl := (only_below bl (Below.mono hb bl.size))
  replace sd := A.sd sd
  clear A hb
  show Code.wp _ _ _ _ _
  refine wp_cond_false x7 ?_
  refine wp_skip ?_
  show Code.wp _ _ _ _ _
  refine wp_seq ?_
  refine wp_seq ?_
  refine wr_a [.eq (.pointer (some ⟨gd, 3, none⟩)), .eq (.pointer (some ⟨gd, 3, none⟩)), .eq (.pointer (some ⟨gd, 3, none⟩)), .eq (.int .i64 (pl)), .eq (.bool true)] (by rw [sd.1]; kernel_rfl) ⟨fun hw ac u K => ?_, fun hw ac u K => ?_, fun hw ac u K => ?_, fun hw ac u K => ?_, fun hw ac u K => ?_, trivial⟩ ?_
  · exact st_move (.tmp 0) rfl (K.t x0 rfl)
  · exact st_nil (.tmp 11) rfl (K.dep 0 11 rfl)
  · exact st_field 48 0 (.tmp 12) rfl (K.dep 1 12 rfl) (by kernel_rfl)
  · exact st_loadc 3 (.tmp 13) rfl (by kernel_rfl) (K.dep 2 13 rfl) (Ob.cell (Ob.below m0 K.grow) 3 rfl)
  · exact st_gtr 3 (.tmp 14) (.const (.int .i64 0)) rfl .i64 ((pl)) (0) (K.dep 3 14 rfl) rfl _ (by rw [eq_comm, decide_eq_true_iff]; omega)
  intro f3 w3 A hb
  replace x0 := A.t x0 rfl
  replace x7 := A.t x7 rfl
  have x15 := A.e 4 15 rfl rfl
  replace m0 := Ob.below m0 hb
  replace bl := (only_below bl (Below.mono hb bl.size))
  replace sd := A.sd sd
  clear A hb
  clear x7
  show Code.wp _ _ _ _ _
  refine wp_cond_true x15 ?_
  refine wr_s [.eq (.pointer (some ⟨gd, 3, none⟩)), .eq (.pointer (some ⟨gd, 3, none⟩)), .eq (.pointer (some ⟨gd, 3, none⟩)), .eq (.int .i64 (pl)), .eq (.int .i64 (pl - 1)), .eq (.pointer (some ⟨gd, 3, none⟩)), .eq (.pointer (some ⟨gd, 3, none⟩))] (by rw [sd.1]; kernel_rfl) ⟨fun hw ac u K => ?_, fun hw ac u K => ?_, fun hw ac u K => ?_, fun hw ac u K => ?_, fun hw ac u K => ?_, fun hw ac u K => ?_, fun hw ac u K => ?_, trivial⟩ ?_
  · exact st_move (.tmp 0) rfl (K.t x0 rfl)
  · exact st_nil (.tmp 16) rfl (K.dep 0 16 rfl)
  · exact st_field 48 0 (.tmp 17) rfl (K.dep 1 17 rfl) (by kernel_rfl)
  · exact st_loadc 3 (.tmp 18) rfl (by kernel_rfl) (K.dep 2 18 rfl) (Ob.cell (Ob.below m0 K.grow) 3 rfl)
  · exact st_subz (.tmp 19) (.const (.int .i64 1)) rfl _ _ _ (K.dep 3 19 rfl) rfl (by omega) (by omega) (by omega)
  · exact st_nil (.tmp 16) rfl (K.dep 0 16 rfl)
  · exact st_field 48 0 (.tmp 21) rfl (K.dep 5 21 rfl) (by kernel_rfl)
  intro f4 w4 A hb
  replace x0 := A.t x0 rfl
  replace x15 := A.t x15 rfl
  have x20 := A.e 4 20 rfl rfl
  have x22 := A.e 6 22 rfl rfl
  replace m0 := Ob.below m0 hb
  replace bl := (only_below bl (Below.mono hb bl.size))
  replace sd := A.sd sd
  clear A hb
  clear x0
  clear x15
  refine wl_stc 3 rfl (.tmp 22) (.tmp 20) rfl rfl (by kernel_rfl) (gd) 3 (.int .i64 (pl - 1)) x22 x20 rfl rfl (Ob.there m0 3 (by simp)) ?_
  replace m0 : Ob (w4.setCell ⟨gd, 3, none⟩ (.int .i64 (pl - 1))) (gd) 51 ([u1, u2, u3, .int .i64 (pl - 1), .bool dn, u4]) := Ob.set m0 3 (.int .i64 (pl - 1))
  replace bl : Only gd w (w4.setCell ⟨gd, 3, none⟩ (.int .i64 (pl - 1))) := bl.setCell _ _
  generalize w4.setCell ⟨gd, 3, none⟩ (.int .i64 (pl - 1)) = w5b at bl m0 ⊢
  refine wpList_nil ?_
  clear x20
  clear x22
  show Code.wp _ _ _ _ _
  refine wp_seq ?_
  refine wr_a [.eq (.int .i64 0)] (by rw [sd.1]; kernel_rfl) ⟨fun hw ac u K => ?_, trivial⟩ ?_
  · exact st_assign (.const (.int .i64 0)) rfl rfl
  intro f6 w6 A hb
  have x2 := A.e 0 2 rfl rfl
  replace m0 := Ob.below m0 hb
  replace bl := (only_below bl (Below.mono hb bl.size))
  replace sd := A.sd sd
  clear A hb
  show Code.wp _ _ _ _ _
  refine wp_ret ?_
  repeat (first | with_reducible refine then_ret ?_ | with_reducible refine block_ret ?_)
  exact bodyPost_ret (v := .int .i64 0) (ret_slot rfl f6 _ x2 _ _) sd.2 ⟨rfl, m0, bl⟩
end Go.Proofs.YtakdpkoigijonaaGreat
