/- The landed wal: steps, in order; naming, writing. The landed wal: making, commit. -/
import Derived.Test.YtakdpkoigijonaaGreatM12
namespace Go.Proofs.YtakdpkoigijonaaGreat
set_option maxRecDepth 100000
open Go.RowKit
/-- What is done in order, up to the first error. -/
def ino (ops : List (Dst → Int × Dst)) (s : Dst) : Int × Dst := ops.foldl (fun r op => thn r op) (0, s)
theorem ino_snoc {ops : List (Dst → Int × Dst)} {k : Nat} {op : Dst → Int × Dst} (h : ops[k]? = some op) (s : Dst) : ino (ops.take (k + 1)) s = thn (ino (ops.take k) s) op := by
  unfold ino
  rw [take_one12 h, List.foldl_append]
  rfl
theorem thn_stop {r : Int × Dst} (h : r.1 ≠ 0) (l : List (Dst → Int × Dst)) : l.foldl (fun r op => thn r op) r = r := by
  induction l with
  | nil => rfl
  | cons op l ih =>
    rw [List.foldl_cons, show thn r op = r from by unfold thn; rw [if_neg h]]
    exact ih
theorem ino_stop {ops : List (Dst → Int × Dst)} {k : Nat} {s : Dst} (h : (ino (ops.take k) s).1 ≠ 0) : ino ops s = ino (ops.take k) s := by
  conv => lhs; rw [← List.take_append_drop k ops]
  unfold ino
  rw [List.foldl_append]
  exact thn_stop h _
theorem thn_ok {r : Int × Dst} (h : r.1 = 0) (f : Dst → Int × Dst) : thn r f = f r.2 := by unfold thn; rw [if_pos h]
theorem thn_thn (r : Int × Dst) (f g : Dst → Int × Dst) : thn (thn r f) g = thn r (fun s => thn (f s) g) := by
  unfold thn
  by_cases h : r.1 = 0
  · rw [if_pos h, if_pos h]
  · rw [if_neg h, if_neg h, if_neg h]
theorem thn_id (r : Int × Dst) : thn r (fun s => (0, s)) = r := by
  unfold thn
  split
  · rename_i h
    rw [← h]
  · rfl
theorem wrs_app (a b : List (Nat × Byt)) : ∀ s, wrs s (a ++ b) = thn (wrs s a) (fun t => wrs t b) := by
  induction a with
  | nil => exact fun s => rfl
  | cons c a ih =>
    intro s
    show thn (wrt s (c.1 : Int) c.2) (fun t => wrs t (a ++ b)) = thn (thn (wrt s (c.1 : Int) c.2) (fun t => wrs t a)) (fun t => wrs t b)
    rw [thn_thn]
    congr 1
    exact funext ih
theorem wrs_snoc {L : List (Nat × Byt)} {k : Nat} {c : Nat × Byt} (h : L[k]? = some c) (s : Dst) : wrs s (L.take (k + 1)) = thn (wrs s (L.take k)) (fun t => wrt t (c.1 : Int) c.2) := by
  rw [take_one12 h, wrs_app]
  congr 1
  exact funext fun t => thn_id _
theorem wrs_stop {L : List (Nat × Byt)} {k : Nat} {s : Dst} (h : (wrs s (L.take k)).1 ≠ 0) : wrs s L = wrs s (L.take k) := by
  conv => lhs; rw [← List.take_append_drop k L]
  rw [wrs_app]
  unfold thn
  rw [if_neg h]
/-- A step: a function value that does this on the disk. -/
def Stp (gd n z c : Nat) (M : Nat → Prop) (op : Dst → Int × Dst) (v : Value) (w : World) : Prop := ∀ (W : World) (D : Nat → Prop) (s : Dst) (k : Nat), Fr M w W → HD W gd M D s → Gd s n z k → k + c ≤ 1000000 → CV v #[] W fun e W' => ∃ D', e = .returned (.int .i64 (op s).1) ∧ HD W' gd M D' (op s).2 ∧ Gd (op s).2 n z (k + c) ∧ (∀ j, D' j → D j ∨ W.heap.size ≤ j) ∧ Fr M W W'
theorem Stp.fr {gd n z c : Nat} {M : Nat → Prop} {op : Dst → Int × Dst} {v : Value} {w w' : World} (h : Stp gd n z c M op v w) (hf : Fr M w w') : Stp gd n z c M op v w' := fun W D s k h1 h2 h3 h4 => h W D s k (hf.trans h1) h2 h3 h4
theorem Stp.more {gd n z c c' : Nat} {M : Nat → Prop} {op : Dst → Int × Dst} {v : Value} {w : World} (h : Stp gd n z c M op v w) (hc : c ≤ c') : Stp gd n z c' M op v w := fun W D s k h1 h2 h3 h4 => by
  obtain ⟨f, a, b, e, q1, q2⟩ := h W D s k h1 h2 h3 (by omega)
  refine ⟨f, a, b, e, q1, q2.mono ?_⟩
  rintro e w' ⟨D', r1, r2, r3, r4, r5⟩
  exact ⟨D', r1, r2, r3.le (by omega), r4, r5⟩
theorem Fr.setRow {S : Nat → Prop} {w w1 : World} (h : Fr S w w1) {b : Nat} (hb : S b ∨ w.heap.size ≤ b) (cs : Array Value) : Fr S w (w1.setRow b cs) := by
  refine ⟨h.os, h.tape, h.output, by simpa [World.setRow] using h.size, fun j hj h1 => ?_⟩
  have hne : j ≠ b := fun e => hb.elim (fun q => h1 (e ▸ q)) (fun q => by omega)
  rw [setRow_other w1 b j cs hne]
  exact h.block j hj h1
def isF (v : Value) : Prop := ∃ f a c, v = .func f a c
def Fk.stp (gd n z c : Nat) (M : Nat → Prop) (op : Dst → Int × Dst) : Fk := .inr (.inl ⟨fun v w => isF v ∧ Stp gd n z c M op v w, fun _ _ _ h hb => ⟨h.1, h.2.fr (Fr.of_below hb)⟩⟩)
/-- A function of places: what sector each one has. -/
def Jf (gd n z m : Nat) (M : Nat → Prop) (g : Nat → Nat) (v : Value) (w : World) : Prop := ∀ (W : World) (D : Nat → Prop) (s : Dst) (k i : Nat), Fr M w W → HD W gd M D s → Gd s n z k → i < m → CV v #[.int .i64 (i : Int)] W fun e W' => ∃ u, e = .returned u ∧ (Fk.eq (.int .i64 ((g i : Nat) : Int))).f u W' ∧ Below W.heap.size W W'
theorem Jf.fr {gd n z m : Nat} {M : Nat → Prop} {g : Nat → Nat} {v : Value} {w w' : World} (h : Jf gd n z m M g v w) (hf : Fr M w w') : Jf gd n z m M g v w' := fun W D s k i h1 h2 h3 h4 => h W D s k i (hf.trans h1) h2 h3 h4
/-- A slice of steps. -/
def Fk.fs (B gd n z c : Nat) (M : Nat → Prop) (ops : List (Dst → Int × Dst)) : Fk := .inr (.inl ⟨fun v w => ∃ g vs, v = .slice (some ⟨g, 0, none⟩) ops.length ops.length ∧ B ≤ g ∧ w.heap[g]? = some (.cells vs 80 (0, 0)) ∧ ∀ (i : Nat) (op : Dst → Int × Dst), ops[i]? = some op → ∃ u, vs[i]? = some u ∧ Stp gd n z c M op u w, by
  rintro v w w' ⟨g, vs, e, h1, h2, h3⟩ hb
  refine ⟨g, vs, e, h1, row_below h2 hb, fun i op hi => ?_⟩
  obtain ⟨u, q1, q2⟩ := h3 i op hi
  exact ⟨u, q1, q2.fr (Fr.of_below hb)⟩⟩)
section
variable {Q : Exit → Act → World → Prop} {o : Oper} {a : Act} {w : World}
theorem st_idxF (x y : Operand) (ho : o.op = .indexAddr 96 x y) {g n C : Nat} (hx : a.eval x = .slice (some ⟨g, 0, none⟩) n C) (i : Nat) (hy : a.eval y = .int .i64 (i : Int)) (hi : i < n) : o.wp Tryz.prog a w (Ends a o.dst w (Fk.eq (.pointer (some ⟨g, i, none⟩))).f) Q := by
  refine st_pure (v := .pointer (some ⟨g, i, none⟩)) ?_ rfl
  have h1 := run_indexAt_slice (P := Tryz.prog) (w := w) 96 ⟨g, 0, none⟩ n C .i64 (i : Int) (by rw [show Tryz.prog.elem 96 = 80 by kernel_rfl]; kernel_rfl)
  rw [if_pos (by omega), show Tryz.prog.elem 96 = 80 by kernel_rfl, show (sizeOf 80).run Tryz.prog w = .ok 1 w by kernel_rfl] at h1
  simp only [Result.andThen_ok, Int.toNat_natCast, Addr.add_mid, Nat.mul_one, Nat.zero_add] at h1
  unfold execOp
  rw [ho]
  simp [hx, hy, h1]
theorem st_lenF (x : Operand) (ho : o.op = .call { callee := .builtin .len, args := #[x], argTypes := #[96] }) {p : Option Addr} {n C : Nat} (hx : a.eval x = .slice p n C) : o.wp Tryz.prog a w (Ends a o.dst w (Fk.eq (.int .i64 (n : Int))).f) Q := by
  refine st_pure (v := .int .i64 (n : Int)) ?_ rfl
  have h1 := run_len_slice (P := Tryz.prog) (w := w) 96 o.type p n C (by rw [show Tryz.prog.elem 96 = 80 by kernel_rfl]; kernel_rfl)
  unfold execOp
  simp [ho, resolve, invoke, builtin, hx, h1, goInt]
end
theorem run_bld1 (f1 : Fn) (a1 c1 : Array Value) (w : World) : (Instr.buildSlice 96 1 #[(0, .func f1 a1 c1)]).run Tryz.prog w = .ok (.slice (some ⟨w.heap.size, 0, none⟩) 1 1) (w.alloc (.cells #[.func f1 a1 c1] 80)) := by kernel_rfl
theorem run_bld4 (f1 f2 f3 f4 : Fn) (a1 c1 a2 c2 a3 c3 a4 c4 : Array Value) (w : World) : (Instr.buildSlice 96 4 #[(0, .func f1 a1 c1), (1, .func f2 a2 c2), (2, .func f3 a3 c3), (3, .func f4 a4 c4)]).run Tryz.prog w = .ok (.slice (some ⟨w.heap.size, 0, none⟩) 4 4) (w.alloc (.cells #[.func f1 a1 c1, .func f2 a2 c2, .func f3 a3 c3, .func f4 a4 c4] 80)) := by kernel_rfl
theorem run_bld5 (f1 f2 f3 f4 f5 : Fn) (a1 c1 a2 c2 a3 c3 a4 c4 a5 c5 : Array Value) (w : World) : (Instr.buildSlice 96 5 #[(0, .func f1 a1 c1), (1, .func f2 a2 c2), (2, .func f3 a3 c3), (3, .func f4 a4 c4), (4, .func f5 a5 c5)]).run Tryz.prog w = .ok (.slice (some ⟨w.heap.size, 0, none⟩) 5 5) (w.alloc (.cells #[.func f1 a1 c1, .func f2 a2 c2, .func f3 a3 c3, .func f4 a4 c4, .func f5 a5 c5] 80)) := by kernel_rfl
section
variable {Q : Exit → Act → World → Prop} {o : Oper} {a : Act} {w : World} {B gd n z c : Nat} {M : Nat → Prop}
theorem st_bld1 (x1 : Operand) (ho : o.op = .buildSlice 96 1 #[(0, x1)]) {o1 : Dst → Int × Dst} (h1 : (Fk.stp gd n z c M o1).f (a.eval x1) w) (hB : B ≤ w.heap.size) : o.wp Tryz.prog a w (Ends a o.dst w (Fk.fs B gd n z c M [o1]).f) Q := by
  obtain ⟨⟨f1, a1, c1, e1⟩, s1⟩ := h1
  have hb : Below w.heap.size w (w.alloc (.cells #[.func f1 a1 c1] 80)) := (Below.refl _ _).alloc (Nat.le_refl _) _
  refine st_run (v := .slice (some ⟨w.heap.size, 0, none⟩) 1 1) (w' := w.alloc (.cells #[.func f1 a1 c1] 80)) (by unfold execOp; rw [ho]; simp [e1, run_bld1]) hb ⟨w.heap.size, _, rfl, hB, heap_alloc_new _ _, fun i op hi => ?_⟩
  rw [e1] at s1
  obtain _ | i := i
  · cases hi; exact ⟨_, rfl, s1.fr (Fr.of_below hb)⟩
  · cases hi
theorem st_bld4 (x1 x2 x3 x4 : Operand) (ho : o.op = .buildSlice 96 4 #[(0, x1), (1, x2), (2, x3), (3, x4)]) {o1 o2 o3 o4 : Dst → Int × Dst} (h1 : (Fk.stp gd n z c M o1).f (a.eval x1) w) (h2 : (Fk.stp gd n z c M o2).f (a.eval x2) w) (h3 : (Fk.stp gd n z c M o3).f (a.eval x3) w) (h4 : (Fk.stp gd n z c M o4).f (a.eval x4) w) (hB : B ≤ w.heap.size) : o.wp Tryz.prog a w (Ends a o.dst w (Fk.fs B gd n z c M [o1, o2, o3, o4]).f) Q := by
  obtain ⟨⟨f1, a1, c1, e1⟩, s1⟩ := h1
  obtain ⟨⟨f2, a2, c2, e2⟩, s2⟩ := h2
  obtain ⟨⟨f3, a3, c3, e3⟩, s3⟩ := h3
  obtain ⟨⟨f4, a4, c4, e4⟩, s4⟩ := h4
  have hb : Below w.heap.size w (w.alloc (.cells #[.func f1 a1 c1, .func f2 a2 c2, .func f3 a3 c3, .func f4 a4 c4] 80)) := (Below.refl _ _).alloc (Nat.le_refl _) _
  refine st_run (v := .slice (some ⟨w.heap.size, 0, none⟩) 4 4) (w' := w.alloc (.cells #[.func f1 a1 c1, .func f2 a2 c2, .func f3 a3 c3, .func f4 a4 c4] 80)) (by unfold execOp; rw [ho]; simp [e1, e2, e3, e4, run_bld4]) hb ⟨w.heap.size, _, rfl, hB, heap_alloc_new _ _, fun i op hi => ?_⟩
  rw [e1] at s1
  rw [e2] at s2
  rw [e3] at s3
  rw [e4] at s4
  obtain _ | _ | _ | _ | i := i
  · cases hi; exact ⟨_, rfl, s1.fr (Fr.of_below hb)⟩
  · cases hi; exact ⟨_, rfl, s2.fr (Fr.of_below hb)⟩
  · cases hi; exact ⟨_, rfl, s3.fr (Fr.of_below hb)⟩
  · cases hi; exact ⟨_, rfl, s4.fr (Fr.of_below hb)⟩
  · cases hi
theorem st_bld5 (x1 x2 x3 x4 x5 : Operand) (ho : o.op = .buildSlice 96 5 #[(0, x1), (1, x2), (2, x3), (3, x4), (4, x5)]) {o1 o2 o3 o4 o5 : Dst → Int × Dst} (h1 : (Fk.stp gd n z c M o1).f (a.eval x1) w) (h2 : (Fk.stp gd n z c M o2).f (a.eval x2) w) (h3 : (Fk.stp gd n z c M o3).f (a.eval x3) w) (h4 : (Fk.stp gd n z c M o4).f (a.eval x4) w) (h5 : (Fk.stp gd n z c M o5).f (a.eval x5) w) (hB : B ≤ w.heap.size) : o.wp Tryz.prog a w (Ends a o.dst w (Fk.fs B gd n z c M [o1, o2, o3, o4, o5]).f) Q := by
  obtain ⟨⟨f1, a1, c1, e1⟩, s1⟩ := h1
  obtain ⟨⟨f2, a2, c2, e2⟩, s2⟩ := h2
  obtain ⟨⟨f3, a3, c3, e3⟩, s3⟩ := h3
  obtain ⟨⟨f4, a4, c4, e4⟩, s4⟩ := h4
  obtain ⟨⟨f5, a5, c5, e5⟩, s5⟩ := h5
  have hb : Below w.heap.size w (w.alloc (.cells #[.func f1 a1 c1, .func f2 a2 c2, .func f3 a3 c3, .func f4 a4 c4, .func f5 a5 c5] 80)) := (Below.refl _ _).alloc (Nat.le_refl _) _
  refine st_run (v := .slice (some ⟨w.heap.size, 0, none⟩) 5 5) (w' := w.alloc (.cells #[.func f1 a1 c1, .func f2 a2 c2, .func f3 a3 c3, .func f4 a4 c4, .func f5 a5 c5] 80)) (by unfold execOp; rw [ho]; simp [e1, e2, e3, e4, e5, run_bld5]) hb ⟨w.heap.size, _, rfl, hB, heap_alloc_new _ _, fun i op hi => ?_⟩
  rw [e1] at s1
  rw [e2] at s2
  rw [e3] at s3
  rw [e4] at s4
  rw [e5] at s5
  obtain _ | _ | _ | _ | _ | i := i
  · cases hi; exact ⟨_, rfl, s1.fr (Fr.of_below hb)⟩
  · cases hi; exact ⟨_, rfl, s2.fr (Fr.of_below hb)⟩
  · cases hi; exact ⟨_, rfl, s3.fr (Fr.of_below hb)⟩
  · cases hi; exact ⟨_, rfl, s4.fr (Fr.of_below hb)⟩
  · cases hi; exact ⟨_, rfl, s5.fr (Fr.of_below hb)⟩
  · cases hi
end
theorem stp_flush {gd n z c : Nat} {M : Nat → Prop} {v : Value} {w : World} (hc : 1 ≤ c) (e : v = .func (.func 59) #[.pointer (some ⟨gd, 0, none⟩)] #[]) : (Fk.stp gd n z c M flu).f v w := by
  refine ⟨⟨_, _, _, e⟩, Stp.more (c := 1) (fun W D s k h1 h2 h3 h4 => ⟨59, #[.pointer (some ⟨gd, 0, none⟩)], #[], e, Tryz.enter59, ?_⟩) hc⟩
  have hnz := HD.nz h2 h3
  refine (fk_dflush h2 (by have := h3.done; omega) (by rw [h3.has]; omega)).mono ?_
  rintro e w' ⟨D', q1, q2, q3, q4⟩
  exact ⟨D', q1, q2, gd_flu h3, q3, q4⟩
theorem fk_xnamesI {l : List Cng} (hl : l.length ≤ 100000) {w : World} {vl : Value} (hvl : (Fk.sr RC l).f vl w) : Calls Tryz.prog 68 #[vl] w fun e w' => ∃ u, e = .returned u ∧ (Fk.is (l.map (·.p))).f u w' ∧ Below w.heap.size w w' := by
  refine (fk_xnames hl hvl).mono ?_
  rintro e w' ⟨g, rfl, h1, h2, h3⟩
  exact ⟨_, rfl, obI_is h2 (by rw [List.length_map]), h3⟩
theorem fk_xnaming1 {w : World} {gw gd bw bL n z k9 : Nat} {M D : Nat → Prop} {dn : Bool} {s : Dst} {l : List Cng} {vl : Value} (mw : Ob w gw 62 [.pointer (some ⟨gd, 0, none⟩), .bool dn]) (mbw : Ob w bw 34 [.pointer (some ⟨gw, 0, none⟩)]) (mbl : Ob w bL 74 [vl]) (hgM : ¬ M gw) (hbM : ¬ M bw) (hlM : ¬ M bL) (hd : HD w gd M D s) (gs : Gd s n z k9) (hk : k9 ≤ 1000000) (hln : l.length ≤ 100000) (hz9 : 16 + 8 * l.length ≤ z) (hvF : ∀ {W : World}, Fr M w W → (Fk.sr RC l).f vl W) :
    Calls Tryz.prog 74 #[.pointer (some ⟨bw, 0, none⟩), .pointer (some ⟨bL, 0, none⟩)] w fun e w' => ∃ D', e = .returned (.int .i64 ((wrt s 0 (hdb z (l.map (·.p))))).1) ∧ HD w' gd M D' ((wrt s 0 (hdb z (l.map (·.p))))).2 ∧ (∀ j, D' j → D j ∨ w.heap.size ≤ j) ∧ Fr M w w' := by
  obtain ⟨⟨hn1, hn2⟩, hz1, hz2⟩ := HD.nz hd gs
  have hMlt : ∀ j, M j → j < w.heap.size := fun j q => hd.lt j (hd.sub j q)
  obtain ⟨DD, hD9⟩ : ∃ E, E = D := ⟨_, rfl⟩
  rw [← hD9] at hd
  have hDD : ∀ j, DD j → D j ∨ w.heap.size ≤ j := fun j q => .inl (hD9 ▸ q)
  clear hD9
  go_enter Tryz.func74, Tryz.ntmps74
  refine code_both (fun f w1 => f.tmps.size = 13 ∧ f.defers = [] ∧ f.eval (.tmp 0) = .pointer (some ⟨bw, 0, none⟩) ∧ f.eval (.tmp 1) = .pointer (some ⟨bL, 0, none⟩) ∧ HD w1 gd M DD s ∧ Fr (M) w (w1)) ⟨rfl, rfl, rfl, rfl, hd, Fr.refl _ _⟩ ?_
  clear hd
  rintro f0 w0 ⟨sz, df, x0, x1, hd, bl⟩
  have sd := And.intro sz df
  clear sz df
  have bl0 := bl
  refine wp_seq ?_
  refine wr_a [.eq (.int .i64 0)] (by rw [sd.1]; kernel_rfl) ⟨fun hw ac u K => ?_, trivial⟩ ?_
  · exact st_assign (.const (.int .i64 0)) rfl rfl
  intro f1 w1 A hb
  replace x0 := A.t x0 rfl
  replace x1 := A.t x1 rfl
  replace hd := HD.below hd hb
  replace bl := (Fr.grow bl hb)
  replace sd := A.sd sd
  clear A hb
  show Code.wp _ _ _ _ _
  refine wp_seq ?_
  refine wr_t [.eq (.pointer (some ⟨gw, 0, none⟩)), .eq (.pointer (some ⟨gw, 0, none⟩)), .eq (.pointer (some ⟨gw, 0, none⟩)), .eq (.pointer (some ⟨gd, 0, none⟩)), .eq (vl), .is (l.map (·.p)), .eq (.pointer (some ⟨gw, 0, none⟩)), .eq (.int .i64 (z : Int)), .sl (hdb z (l.map (·.p)))] [9, 10] Tryz.mixed (by rw [sd.1]; kernel_rfl) ⟨fun hw ac u K => ?_, fun hw ac u K => ?_, fun hw ac u K => ?_, fun hw ac u K => ?_, fun hw ac u K => ?_, fun hw ac u K => ?_, fun hw ac u K => ?_, fun hw ac u K => ?_, fun hw ac u K => ?_, trivial⟩ ?_
  · exact st_loadc 34 (.tmp 0) rfl (by kernel_rfl) (K.t x0 rfl) (Ob.cell (Ob.keep mbw ((Fr.grow bl K.grow).block _ (Ob.lt mbw) hbM)) 0 rfl)
  · exact st_nil (.tmp 3) rfl (K.dep 0 3 rfl)
  · exact st_field 62 0 (.tmp 4) rfl (K.dep 1 4 rfl) (by kernel_rfl)
  · exact st_loadc 24 (.tmp 5) rfl (by kernel_rfl) (K.dep 2 5 rfl) (Ob.cell (Ob.keep mw ((Fr.grow bl K.grow).block _ (Ob.lt mw) hgM)) 0 rfl)
  · exact st_loadc 74 (.tmp 1) rfl (by kernel_rfl) (K.t x1 rfl) (Ob.cell (Ob.keep mbl ((Fr.grow bl K.grow).block _ (Ob.lt mbl) hlM)) 0 rfl)
  · exact st_call 68 (.func 68) _ _ _ rfl rfl (one_arg (K.dep 4 7 rfl)) Tryz.enter68 (fk_xnamesI hln (hvF (Fr.grow bl K.grow)))
  · exact st_loadc 34 (.tmp 0) rfl (by kernel_rfl) (K.t x0 rfl) (Ob.cell (Ob.keep mbw ((Fr.grow bl K.grow).block _ (Ob.lt mbw) hbM)) 0 rfl)
  · exact st_call 39 (.func 39) _ _ _ rfl rfl (one_arg (K.dep 6 9 rfl)) Tryz.enter39 (fk_xsize (Ob.keep mw ((Fr.grow bl K.grow).block _ (Ob.lt mw) hgM)) (HD.below hd K.grow) gs)
  · exact st_call 75 (.func 75) _ _ _ rfl rfl (arg2 rfl (K.dep 7 10 rfl)) Tryz.enter75 (fk_xheadOf (by rw [List.length_map]; exact hz9) (by omega) (K.dep 5 8 rfl))
  intro f2 w2 A hb
  replace x0 := A.t x0 rfl
  replace x1 := A.t x1 rfl
  have x6 := A.e 3 6 rfl rfl
  have x11 : Fk.f (.sl (hdb z (l.map (·.p)))) (f2.eval (.tmp 11)) w2 := A.has 8 11 rfl
  replace hd := HD.below hd hb
  replace bl := (Fr.grow bl hb)
  replace sd := A.sd sd
  clear A hb
  clear x0
  clear x1
  refine wl_call 71 (.func 71) _ _ #[.pointer (some ⟨gd, 0, none⟩), .int .i64 0, f2.eval (.tmp 11)] rfl 12 rfl (by rw [sd.1]; decide) rfl rfl (three_arg x6 rfl rfl) Tryz.enter71 (fun u W' => ∃ D2 : Nat → Prop, u = .int .i64 (wrt s 0 (hdb z (l.map (·.p)))).1 ∧ HD W' gd M D2 (wrt s 0 (hdb z (l.map (·.p)))).2 ∧ (∀ j, D2 j → DD j ∨ w2.heap.size ≤ j) ∧ Fr M w2 W') ((fk_dwrite hd (by have := gs.done; omega) (by rw [gs.has]; omega) 0 x11).mono (by rintro e w' ⟨D', rfl, q1, q2, q3⟩; exact ⟨_, rfl, D', rfl, q1, q2, q3⟩)) ?_
  rintro f3 w3 df2 sz2 old2 ⟨D2, x12, hd2, hD2, O⟩
  replace hd := hd2
  clear hd2
  replace x6 := tr old2 x6 rfl
  clear x11
  obtain ⟨r12, hr12⟩ : ∃ r, r = (wrt s 0 (hdb z (l.map (·.p)))).1 := ⟨_, rfl⟩
  rw [← hr12] at x12
  replace hDD : ∀ j, D2 j → D j ∨ w.heap.size ≤ j := fun j q => (hD2 j q).elim (hDD j) (fun q => .inr (Nat.le_trans bl.size q))
  replace bl := bl.trans O
  replace bl0 := bl
  clear hD2 O
  obtain ⟨DD, rfl⟩ : ∃ E, E = D2 := ⟨_, rfl⟩
  replace sd := sd2 sz2 df2 sd
  clear df2 sz2 old2
  clear x6
  refine wl_one (.eq (.int .i64 r12)) rfl 2 rfl (by rw [sd.1]; decide) (st_assign (.tmp 12) rfl x12) ?_
  intro f4 w4 df2 sz2 old2 new2 hb
  replace x12 := tr old2 x12 rfl
  have x2 := Fk.e new2
  replace hd := HD.below hd hb
  replace bl := (Fr.grow bl hb)
  replace sd := sd2 sz2 df2 sd
  clear df2 sz2 old2 new2 hb
  refine wpList_nil ?_
  clear x12
  show Code.wp _ _ _ _ _
  refine wp_ret ?_
  repeat (first | with_reducible refine then_ret ?_ | with_reducible refine block_ret ?_)
  exact bodyPost_ret (v := .int .i64 r12) (ret_slot rfl f4 _ x2 _ _) sd.2 ⟨DD, by rw [hr12], hd, hDD, bl⟩
theorem fk_xnaming {w : World} {gw gd n z : Nat} {M : Nat → Prop} {dn : Bool} {l : List Cng} {vl : Value} (mw : Ob w gw 62 [.pointer (some ⟨gd, 0, none⟩), .bool dn]) (hgM : ¬ M gw) (hMlt : ∀ j, M j → j < w.heap.size) (hln : l.length ≤ 100000) (hz9 : 16 + 8 * l.length ≤ z) (hvF : ∀ {W : World}, Fr M w W → (Fk.sr RC l).f vl W) :
    Calls Tryz.prog 60 #[.pointer (some ⟨gw, 0, none⟩), vl] w fun e w' => ∃ u, e = .returned u ∧ (Fk.stp gd n z 1 M (fun s => wrt s 0 (hdb z (l.map (·.p))))).f u w' ∧ Below w.heap.size w w' := by
  obtain ⟨aL, cL, lb, lo, rfl, _⟩ := id (hvF (Fr.refl M w))
  go_enter Tryz.func60, Tryz.ntmps60
  refine code_both (fun f w1 => f.tmps.size = 6 ∧ f.defers = [] ∧ f.eval (.tmp 0) = .pointer (some ⟨gw, 0, none⟩) ∧ f.eval (.tmp 1) = .slice aL l.length cL ∧ Below w.heap.size w (w1)) ⟨rfl, rfl, rfl, rfl, Below.refl _ _⟩ ?_
  rintro f0 w0 ⟨sz, df, x0, x1, bl⟩
  have sd := And.intro sz df
  clear sz df
  have bl0 := bl
  refine wp_seq ?_
  refine wr_a [.nw w0.heap.size 34 [.pointer (some ⟨gw, 0, none⟩)], .nw w0.heap.size 74 [.slice aL l.length cL], .eq (.nilFunc)] (by rw [sd.1]; kernel_rfl) ⟨fun hw ac u K => ?_, fun hw ac u K => ?_, fun hw ac u K => ?_, trivial⟩ ?_
  · exact st_box 34 (.tmp 0) rfl _ _ (by rw [show _ = _ from (K.t x0 rfl)]; kernel_rfl) K.grow.size
  · exact st_box 74 (.tmp 1) rfl _ _ (by rw [show _ = _ from (K.t x1 rfl)]; kernel_rfl) K.grow.size
  · exact st_assign (.const .nilFunc) rfl rfl
  intro f1 w1 A hb
  replace bl0 := bl
  replace x0 := A.t x0 rfl
  replace x1 := A.t x1 rfl
  have x2 : Fk.f (.nw w0.heap.size 34 [.pointer (some ⟨gw, 0, none⟩)]) (f1.eval (.tmp 2)) w1 := A.has 0 2 rfl
  have x3 : Fk.f (.nw w0.heap.size 74 [.slice aL l.length cL]) (f1.eval (.tmp 3)) w1 := A.has 1 3 rfl
  replace bl := bgo bl hb
  replace sd := A.sd sd
  clear A hb
  clear x0
  clear x1
  obtain ⟨g2, hg2, e2, m2⟩ := x2
  have x2 := e2
  clear e2
  have hw2 : w.heap.size ≤ g2 := Nat.le_trans bl0.size hg2
  obtain ⟨g3, hg3, e3, m3⟩ := x3
  have x3 := e3
  clear e3
  have hw3 : w.heap.size ≤ g3 := Nat.le_trans bl0.size hg3
  show Code.wp _ _ _ _ _
  refine wp_seq ?_
  refine wr_a [.eq (.func (.func 74) #[] #[.pointer (some ⟨g2, 0, none⟩), .pointer (some ⟨g3, 0, none⟩)]), .eq (.func (.func 74) #[] #[.pointer (some ⟨g2, 0, none⟩), .pointer (some ⟨g3, 0, none⟩)])] (by rw [sd.1]; kernel_rfl) ⟨fun hw ac u K => ?_, fun hw ac u K => ?_, trivial⟩ ?_
  · exact st_mkf rfl rfl (two_arg (K.t x2 rfl) (K.t x3 rfl))
  · exact st_assign (.tmp 5) rfl (K.dep 0 5 rfl)
  intro f2 w2 A hb
  replace x2 := A.t x2 rfl
  replace x3 := A.t x3 rfl
  have x4 := A.e 1 4 rfl rfl
  replace m2 := Ob.below m2 hb
  replace m3 := Ob.below m3 hb
  replace bl := bgo bl hb
  replace sd := A.sd sd
  clear A hb
  clear x2
  clear x3
  show Code.wp _ _ _ _ _
  refine wp_ret ?_
  repeat (first | with_reducible refine then_ret ?_ | with_reducible refine block_ret ?_)
  refine bodyPost_ret (v := .func (.func 74) #[] #[.pointer (some ⟨g2, 0, none⟩), .pointer (some ⟨g3, 0, none⟩)]) (ret_slot rfl f2 _ x4 _ _) sd.2 ⟨_, rfl, ⟨⟨_, _, _, rfl⟩, fun W D' s' k h1 h2 h3 h4 => ⟨74, #[], #[.pointer (some ⟨g2, 0, none⟩), .pointer (some ⟨g3, 0, none⟩)], rfl, Tryz.enter74, ?_⟩⟩, bl⟩
  have hF : Fr M w W := (Fr.of_below bl).trans h1
  refine (fk_xnaming1 (mw.keep (hF.block _ (Ob.lt mw) hgM)) (m2.keep (h1.block _ (Ob.lt m2) (fun q => by have := hMlt _ q; omega))) (m3.keep (h1.block _ (Ob.lt m3) (fun q => by have := hMlt _ q; omega))) hgM (fun q => by have := hMlt _ q; omega) (fun q => by have := hMlt _ q; omega) h2 h3 (by omega) hln hz9 (fun q => hvF (hF.trans q))).mono ?_
  rintro e w' ⟨D2, q1, q2, q3, q4⟩
  exact ⟨D2, q1, q2, gd_wrt h3 _ _, q3, q4⟩
theorem fk_xwriting1 {w : World} {gw gd bw bL bs n z k9 : Nat} {M D : Nat → Prop} {dn : Bool} {s : Dst} {l : List Cng} {aL : Option Addr} {cL : Nat} {sv : Value} {g : Nat → Nat} {L : List (Nat × Byt)} (mw : Ob w gw 62 [.pointer (some ⟨gd, 0, none⟩), .bool dn]) (mbw : Ob w bw 34 [.pointer (some ⟨gw, 0, none⟩)]) (mbl : Ob w bL 74 [.slice aL l.length cL]) (mbs : Ob w bs 60 [sv]) (hgM : ¬ M gw) (hbM : ¬ M bw) (hlM : ¬ M bL) (hsM : ¬ M bs) (hd : HD w gd M D s) (gs : Gd s n z k9) (hk : k9 + l.length ≤ 1000000) (hln : l.length ≤ 100000) (hvF : ∀ {W : World}, Fr M w W → (Fk.sr RC l).f (.slice aL l.length cL) W) (hsv : Jf gd n z l.length M g sv w) (hLl : L.length = l.length) (hL : ∀ (k : Nat) (c : Cng), l[k]? = some c → L[k]? = some (g k, c.bs)) :
    Calls Tryz.prog 70 #[.pointer (some ⟨bL, 0, none⟩), .pointer (some ⟨bw, 0, none⟩), .pointer (some ⟨bs, 0, none⟩)] w fun e w' => ∃ D', e = .returned (.int .i64 (wrs s L).1) ∧ HD w' gd M D' (wrs s L).2 ∧ Gd (wrs s L).2 n z (k9 + l.length) ∧ (∀ j, D' j → D j ∨ w.heap.size ≤ j) ∧ Fr M w w' := by
  obtain ⟨⟨hn1, hn2⟩, hz1, hz2⟩ := HD.nz hd gs
  have hMlt : ∀ j, M j → j < w.heap.size := fun j q => hd.lt j (hd.sub j q)
  obtain ⟨DD, hD9⟩ : ∃ E, E = D := ⟨_, rfl⟩
  rw [← hD9] at hd
  have hDD : ∀ j, DD j → D j ∨ w.heap.size ≤ j := fun j q => .inl (hD9 ▸ q)
  clear hD9
  go_enter Tryz.func70, Tryz.ntmps70
  refine code_both (fun f w1 => f.tmps.size = 28 ∧ f.defers = [] ∧ f.eval (.tmp 0) = .pointer (some ⟨bL, 0, none⟩) ∧ f.eval (.tmp 1) = .pointer (some ⟨bw, 0, none⟩) ∧ f.eval (.tmp 2) = .pointer (some ⟨bs, 0, none⟩) ∧ HD w1 gd M DD s ∧ Fr (M) w (w1)) ⟨rfl, rfl, rfl, rfl, rfl, hd, Fr.refl _ _⟩ ?_
  clear hd
  rintro f0 w0 ⟨sz, df, x0, x1, x2, hd, bl⟩
  have sd := And.intro sz df
  clear sz df
  have bl0 := bl
  refine wp_seq ?_
  refine wr_a [.eq (.int .i64 0)] (by rw [sd.1]; kernel_rfl) ⟨fun hw ac u K => ?_, trivial⟩ ?_
  · exact st_assign (.const (.int .i64 0)) rfl rfl
  intro f1 w1 A hb
  replace x0 := A.t x0 rfl
  replace x1 := A.t x1 rfl
  replace x2 := A.t x2 rfl
  replace hd := HD.below hd hb
  replace bl := (Fr.grow bl hb)
  replace sd := A.sd sd
  clear A hb
  show Code.wp _ _ _ _ _
  refine wp_seq ?_
  refine wp_seq ?_
  refine wr_a [.eq (.slice aL l.length cL), .eq (.int .i64 (l.length : Int)), .eq (.int .i64 0)] (by rw [sd.1]; kernel_rfl) ⟨fun hw ac u K => ?_, fun hw ac u K => ?_, fun hw ac u K => ?_, trivial⟩ ?_
  · exact st_loadc 74 (.tmp 0) rfl (by kernel_rfl) (K.t x0 rfl) (Ob.cell (Ob.keep mbl ((Fr.grow bl K.grow).block _ (Ob.lt mbl) hlM)) 0 rfl)
  · exact st_lensc (.tmp 7) rfl (fk_val (K.dep 0 7 rfl) (hvF (Fr.grow bl K.grow)))
  · exact st_move (.const (.int .i64 0)) rfl rfl
  intro f2 w2 A hb
  replace x0 := A.t x0 rfl
  replace x1 := A.t x1 rfl
  replace x2 := A.t x2 rfl
  have x7 := A.e 0 7 rfl rfl
  have x8 := A.e 1 8 rfl rfl
  have x9 := A.e 2 9 rfl rfl
  replace hd := HD.below hd hb
  replace bl := (Fr.grow bl hb)
  replace sd := A.sd sd
  clear A hb
  clear x0
  show Code.wp _ _ _ _ _
  refine wp_block ?_
  refine wp_loop (fun f v1 => ∃ (k : Nat) (DD : Nat → Prop), k ≤ l.length ∧ (wrs s (L.take k)).1 = 0 ∧ (∀ j, DD j → D j ∨ w.heap.size ≤ j) ∧ Gd (wrs s (L.take k)).2 n z (k9 + k) ∧ f.tmps.size = 28 ∧ f.defers = [] ∧ f.eval (.tmp 1) = .pointer (some ⟨bw, 0, none⟩) ∧ f.eval (.tmp 2) = .pointer (some ⟨bs, 0, none⟩) ∧ f.eval (.tmp 7) = .slice aL l.length cL ∧ f.eval (.tmp 8) = .int .i64 (l.length : Int) ∧ f.eval (.tmp 9) = .int .i64 (k : Int) ∧ HD v1 gd M DD (wrs s (L.take k)).2 ∧ Fr (M) w (v1)) (fun f _ => l.length - (intOf (f.eval (.tmp 9))).toNat) ⟨0, DD, Nat.zero_le _, (by rw [List.take_zero]; rfl), hDD, (by rw [List.take_zero]; exact gs), sd.1, sd.2, x1, x2, x7, x8, x9, (by rw [List.take_zero]; exact hd), bl⟩ ?_
  intro f3 w3 hI
  clear sd bl bl0 x1 x2 x7 x8 x9 hd
  obtain ⟨k, DD, hk8, hok, hDD, gs, sz, df, x1, x2, x7, x8, x9, hd, bl⟩ := hI
  have sd := And.intro sz df
  clear sz df
  have bl0 := bl
  have hcnt := x9
  refine wp_seq ?_
  by_cases hlt : k < l.length
  rotate_left
  · skip
    refine wr_a [.eq (.bool false)] (by rw [sd.1]; kernel_rfl) ⟨fun hw ac u K => ?_, trivial⟩ ?_
    · exact st_lss 3 (.tmp 9) (.tmp 8) rfl .i64 ((k : Int)) ((l.length : Int)) (K.t x9 rfl) (K.t x8 rfl) _ (by rw [eq_comm, decide_eq_false_iff_not]; exact fun h => hlt (Int.ofNat_lt.1 h))
    intro f4 w4 A hb
    replace x1 := A.t x1 rfl
    replace x2 := A.t x2 rfl
    replace x7 := A.t x7 rfl
    replace x8 := A.t x8 rfl
    replace x9 := A.t x9 rfl
    have x10 := A.e 0 10 rfl rfl
    replace hd := HD.below hd hb
    replace bl := (Fr.grow bl hb)
    replace sd := A.sd sd
    clear A hb
    show Code.wp _ _ _ _ _
    refine wp_seq ?_
    refine wp_cond_false x10 ?_
    refine wp_exit ?_
    show Code.wp _ _ _ _ _
    refine wp_seq ?_
    refine wr_a [.eq (.int .i64 0)] (by rw [sd.1]; kernel_rfl) ⟨fun hw ac u K => ?_, trivial⟩ ?_
    · exact st_assign (.const (.int .i64 0)) rfl rfl
    intro f5 w5 A hb
    replace x1 := A.t x1 rfl
    replace x2 := A.t x2 rfl
    replace x7 := A.t x7 rfl
    replace x8 := A.t x8 rfl
    replace x9 := A.t x9 rfl
    replace x10 := A.t x10 rfl
    have x3 := A.e 0 3 rfl rfl
    replace hd := HD.below hd hb
    replace bl := (Fr.grow bl hb)
    replace sd := A.sd sd
    clear A hb
    clear x10
    show Code.wp _ _ _ _ _
    refine wp_ret ?_
    repeat (first | with_reducible refine then_ret ?_ | with_reducible refine block_ret ?_)
    have hkl : k = l.length := by omega
    have hall : L.take k = L := List.take_of_length_le (by omega)
    rw [hall] at hok hd gs
    exact bodyPost_ret (v := .int .i64 0) (ret_slot rfl f5 _ x3 _ _) sd.2 ⟨DD, by rw [hok], hd, gs.le (by omega), hDD, bl⟩
  obtain ⟨cc, hcck⟩ : ∃ p, l[k]? = some p := ⟨_, List.getElem?_eq_getElem hlt⟩
  have hLk : L[k]? = some (g k, cc.bs) := hL k cc hcck
  refine wr_a [.eq (.bool true)] (by rw [sd.1]; kernel_rfl) ⟨fun hw ac u K => ?_, trivial⟩ ?_
  · exact st_lss 3 (.tmp 9) (.tmp 8) rfl .i64 ((k : Int)) ((l.length : Int)) (K.t x9 rfl) (K.t x8 rfl) _ (by rw [eq_comm, decide_eq_true_iff]; exact Int.ofNat_lt.2 hlt)
  intro f4 w4 A hb
  replace x1 := A.t x1 rfl
  replace x2 := A.t x2 rfl
  replace x7 := A.t x7 rfl
  replace x8 := A.t x8 rfl
  replace x9 := A.t x9 rfl
  have x10 := A.e 0 10 rfl rfl
  replace hd := HD.below hd hb
  replace bl := (Fr.grow bl hb)
  replace sd := A.sd sd
  clear A hb
  show Code.wp _ _ _ _ _
  refine wp_seq ?_
  refine wp_cond_true x10 ?_
  refine wp_skip ?_
  show Code.wp _ _ _ _ _
  refine wp_seq ?_
  refine wp_block ?_
  refine wp_seq ?_
  refine wr_s [.eq (.int .i64 (k : Int)), .sq RC cc, .eq (.agg ([.int .i64 cc.p, cc.vb] : List Value).toArray)] (by rw [sd.1]; kernel_rfl) ⟨fun hw ac u K => ?_, fun hw ac u K => ?_, fun hw ac u K => ?_, trivial⟩ ?_
  · exact st_move (.tmp 9) rfl (K.t x9 rfl)
  · exact st_idxsc (.tmp 7) (.tmp 9) rfl (fk_val (K.t x7 rfl) (hvF (Fr.grow bl K.grow))) k cc (K.t x9 rfl) hcck
  · exact st_loadsc (.tmp 12) rfl (K.dep 1 12 rfl)
  intro f5 w5 A hb
  have S_hd := hd
  have hbS0 := Below.refl w4.heap.size w4
  have hbS := hb
  replace x1 := A.t x1 rfl
  replace x2 := A.t x2 rfl
  replace x7 := A.t x7 rfl
  replace x8 := A.t x8 rfl
  replace x9 := A.t x9 rfl
  replace x10 := A.t x10 rfl
  have x11 := A.e 0 11 rfl rfl
  have x13 := A.e 2 13 rfl rfl
  replace hd := HD.below hd hb
  replace bl := (Fr.grow bl hb)
  replace sd := A.sd sd
  clear A hb
  clear x10
  refine wl_one (.nw w5.heap.size 55 [.int .i64 0, .slice none 0 0]) rfl 5 rfl (by rw [sd.1]; decide) (st_alloc 55 rfl _ _ (by kernel_rfl) (Nat.le_refl _)) ?_
  intro f6 w6 df2 sz2 old2 new2 hb
  replace hbS0 := hbS
  replace hbS := hbS.trans (Below.mono hb hbS.size)
  replace bl0 := bl
  replace x1 := tr old2 x1 rfl
  replace x2 := tr old2 x2 rfl
  replace x7 := tr old2 x7 rfl
  replace x8 := tr old2 x8 rfl
  replace x9 := tr old2 x9 rfl
  replace x11 := tr old2 x11 rfl
  replace x13 := tr old2 x13 rfl
  have x5 : Fk.f (.nw w5.heap.size 55 [.int .i64 0, .slice none 0 0]) (f6.eval (.tmp 5)) w6 := new2
  replace hd := HD.below hd hb
  replace bl := (Fr.grow bl hb)
  replace sd := sd2 sz2 df2 sd
  clear df2 sz2 old2 new2 hb
  obtain ⟨g5, hg5, e5, m5⟩ := x5
  have x5 := e5
  clear e5
  have nmw_5 : gw ≠ g5 := Nat.ne_of_lt (Nat.lt_of_lt_of_le (Ob.lt mw) (Nat.le_trans bl0.size hg5))
  have nmbw_5 : bw ≠ g5 := Nat.ne_of_lt (Nat.lt_of_lt_of_le (Ob.lt mbw) (Nat.le_trans bl0.size hg5))
  have nmbl_5 : bL ≠ g5 := Nat.ne_of_lt (Nat.lt_of_lt_of_le (Ob.lt mbl) (Nat.le_trans bl0.size hg5))
  have nmbs_5 : bs ≠ g5 := Nat.ne_of_lt (Nat.lt_of_lt_of_le (Ob.lt mbs) (Nat.le_trans bl0.size hg5))
  have hw5 : w.heap.size ≤ g5 := Nat.le_trans bl0.size hg5
  have hs5 := Nat.le_trans hbS0.size hg5
  refine wl_one (.eq (.int .i64 (k : Int))) rfl 4 rfl (by rw [sd.1]; decide) (st_assign (.tmp 11) rfl x11) ?_
  intro f7 w7 df2 sz2 old2 new2 hb
  replace hbS0 := hbS
  replace hbS := hbS.trans (Below.mono hb hbS.size)
  replace x1 := tr old2 x1 rfl
  replace x2 := tr old2 x2 rfl
  replace x7 := tr old2 x7 rfl
  replace x8 := tr old2 x8 rfl
  replace x9 := tr old2 x9 rfl
  replace x11 := tr old2 x11 rfl
  replace x13 := tr old2 x13 rfl
  replace x5 := tr old2 x5 rfl
  have x4 := Fk.e new2
  replace m5 := Ob.below m5 hb
  replace hd := HD.below hd hb
  replace bl := (Fr.grow bl hb)
  replace sd := sd2 sz2 df2 sd
  clear df2 sz2 old2 new2 hb
  clear x11
  refine wl_str rfl 55 (.tmp 5) (.tmp 13) rfl rfl (g5) ([.int .i64 cc.p, cc.vb] : List Value).toArray x5 x13 55 _ m5 (by kernel_rfl) (by kernel_rfl) (by kernel_rfl) ?_
  replace m5 : Ob (w7.setRow g5 ([.int .i64 cc.p, cc.vb] : List Value).toArray) (g5) 55 ([.int .i64 cc.p, cc.vb]) := Ob.setRow m5 ([.int .i64 cc.p, cc.vb])
  replace hbS : Below _ _ (w7.setRow g5 ([.int .i64 cc.p, cc.vb] : List Value).toArray) := hbS.trans (below_setRow _ _ _ _ hs5)
  replace hd := HD.below S_hd hbS
  replace bl : Fr (M) w (w7.setRow g5 ([.int .i64 cc.p, cc.vb] : List Value).toArray) := Fr.setRow bl (.inr hw5) _
  generalize w7.setRow g5 ([.int .i64 cc.p, cc.vb] : List Value).toArray = w8b at bl m5 hd hbS ⊢
  refine wpList_nil ?_
  clear hbS hbS0 S_hd
  clear x13
  show Code.wp _ _ _ _ _
  refine wp_seq ?_
  refine wr_t [.eq (.pointer (some ⟨gw, 0, none⟩)), .eq (.pointer (some ⟨gw, 0, none⟩)), .eq (.pointer (some ⟨gw, 0, none⟩)), .eq (.pointer (some ⟨gd, 0, none⟩)), .eq (sv), .eq (.int .i64 (k : Int)), .eq (.int .i64 ((g k : Nat) : Int)), .eq (.pointer (some ⟨g5, 1, none⟩)), .eq (cc.vb)] [9, 10] Tryz.mixed (by rw [sd.1]; kernel_rfl) ⟨fun hw ac u K => ?_, fun hw ac u K => ?_, fun hw ac u K => ?_, fun hw ac u K => ?_, fun hw ac u K => ?_, fun hw ac u K => ?_, fun hw ac u K => ?_, fun hw ac u K => ?_, fun hw ac u K => ?_, trivial⟩ ?_
  · exact st_loadc 34 (.tmp 1) rfl (by kernel_rfl) (K.t x1 rfl) (Ob.cell (Ob.keep mbw ((Fr.grow bl K.grow).block _ (Ob.lt mbw) hbM)) 0 rfl)
  · exact st_nil (.tmp 14) rfl (K.dep 0 14 rfl)
  · exact st_field 62 0 (.tmp 15) rfl (K.dep 1 15 rfl) (by kernel_rfl)
  · exact st_loadc 24 (.tmp 16) rfl (by kernel_rfl) (K.dep 2 16 rfl) (Ob.cell (Ob.keep mw ((Fr.grow bl K.grow).block _ (Ob.lt mw) hgM)) 0 rfl)
  · exact st_loadc 60 (.tmp 2) rfl (by kernel_rfl) (K.t x2 rfl) (Ob.cell (Ob.keep mbs ((Fr.grow bl K.grow).block _ (Ob.lt mbs) hsM)) 0 rfl)
  · exact st_move (.tmp 4) rfl (K.t x4 rfl)
  · exact st_callv (.tmp 18) _ _ _ rfl (K.dep 4 18 rfl) (one_arg (K.dep 5 19 rfl)) (hsv _ _ _ _ k (Fr.grow bl K.grow) (HD.below hd K.grow) gs hlt)
  · exact st_field 55 1 (.tmp 5) rfl (K.t x5 rfl) (by kernel_rfl)
  · exact st_loadc 22 (.tmp 21) rfl (by kernel_rfl) (K.dep 7 21 rfl) (Ob.cell (Ob.below m5 K.grow) 1 rfl)
  intro f9 w9 A hb
  replace x1 := A.t x1 rfl
  replace x2 := A.t x2 rfl
  replace x7 := A.t x7 rfl
  replace x8 := A.t x8 rfl
  replace x9 := A.t x9 rfl
  replace x5 := A.t x5 rfl
  replace x4 := A.t x4 rfl
  have x17 := A.e 3 17 rfl rfl
  have x20 := A.e 6 20 rfl rfl
  have x22 := A.e 8 22 rfl rfl
  replace m5 := Ob.below m5 hb
  replace hd := HD.below hd hb
  replace bl := (Fr.grow bl hb)
  replace sd := A.sd sd
  clear A hb
  clear x5
  clear x4
  refine wl_call 71 (.func 71) _ _ #[.pointer (some ⟨gd, 0, none⟩), .int .i64 ((g k : Nat) : Int), cc.vb] rfl 23 rfl (by rw [sd.1]; decide) rfl rfl (three_arg x17 x20 x22) Tryz.enter71 (fun u W' => ∃ D2 : Nat → Prop, u = .int .i64 (wrt (wrs s (L.take k)).2 ((g k : Nat) : Int) cc.bs).1 ∧ HD W' gd M D2 (wrt (wrs s (L.take k)).2 ((g k : Nat) : Int) cc.bs).2 ∧ (∀ j, D2 j → DD j ∨ w9.heap.size ≤ j) ∧ Fr M w9 W') ((fk_dwrite hd (by have := gs.done; omega) (by rw [gs.has]; omega) ((g k : Nat) : Int) (sr_ok (hvF bl) hcck).1).mono (by rintro e w' ⟨D', rfl, q1, q2, q3⟩; exact ⟨_, rfl, D', rfl, q1, q2, q3⟩)) ?_
  rintro f10 w10 df2 sz2 old2 ⟨D2, x23, hd2, hD2, O⟩
  replace hd := hd2
  clear hd2
  replace x1 := tr old2 x1 rfl
  replace x2 := tr old2 x2 rfl
  replace x7 := tr old2 x7 rfl
  replace x8 := tr old2 x8 rfl
  replace x9 := tr old2 x9 rfl
  replace x17 := tr old2 x17 rfl
  replace x20 := tr old2 x20 rfl
  replace x22 := tr old2 x22 rfl
  obtain ⟨r23, hr23⟩ : ∃ r, r = (wrt (wrs s (L.take k)).2 ((g k : Nat) : Int) cc.bs).1 := ⟨_, rfl⟩
  rw [← hr23] at x23
  replace m5 := Ob.keep m5 (O.block _ (Ob.lt m5) (fun q => by have := hMlt _ q; omega))
  replace hDD : ∀ j, D2 j → D j ∨ w.heap.size ≤ j := fun j q => (hD2 j q).elim (hDD j) (fun q => .inr (Nat.le_trans bl.size q))
  replace bl := bl.trans O
  replace bl0 := bl
  clear hD2 O
  obtain ⟨DD, rfl⟩ : ∃ E, E = D2 := ⟨_, rfl⟩
  replace sd := sd2 sz2 df2 sd
  clear df2 sz2 old2
  clear x17
  clear x20
  clear x22
  refine wl_one (.eq (.int .i64 r23)) rfl 6 rfl (by rw [sd.1]; decide) (st_assign (.tmp 23) rfl x23) ?_
  intro f11 w11 df2 sz2 old2 new2 hb
  replace x1 := tr old2 x1 rfl
  replace x2 := tr old2 x2 rfl
  replace x7 := tr old2 x7 rfl
  replace x8 := tr old2 x8 rfl
  replace x9 := tr old2 x9 rfl
  replace x23 := tr old2 x23 rfl
  have x6 := Fk.e new2
  replace m5 := Ob.below m5 hb
  replace hd := HD.below hd hb
  replace bl := (Fr.grow bl hb)
  replace sd := sd2 sz2 df2 sd
  clear df2 sz2 old2 new2 hb
  refine wpList_nil ?_
  clear x23
  clear m5
  show Code.wp _ _ _ _ _
  refine wp_seq ?_
  have hsn : wrs s (L.take (k + 1)) = wrt (wrs s (L.take k)).2 ((g k : Nat) : Int) cc.bs := by
    rw [wrs_snoc hLk, thn_ok hok]
  rw [← hsn] at hd hr23
  have gs2 : Gd (wrs s (L.take (k + 1))).2 n z (k9 + (k + 1)) := by
    rw [hsn]
    exact gd_wrt gs _ _
  by_cases hok2 : (wrs s (L.take (k + 1))).1 = 0
  rotate_left
  · skip
    refine wr_a [.eq (.int .i64 r23), .eq (.bool true)] (by rw [sd.1]; kernel_rfl) ⟨fun hw ac u K => ?_, fun hw ac u K => ?_, trivial⟩ ?_
    · exact st_move (.tmp 6) rfl (K.t x6 rfl)
    · exact st_neqi 27 (.tmp 24) (.const (.int .i64 0)) rfl .i64 (r23) (0) (K.dep 0 24 rfl) rfl _ (by rw [hr23, eq_comm, decide_eq_true_iff]; exact hok2)
    intro f12 w12 A hb
    replace x1 := A.t x1 rfl
    replace x2 := A.t x2 rfl
    replace x7 := A.t x7 rfl
    replace x8 := A.t x8 rfl
    replace x9 := A.t x9 rfl
    replace x6 := A.t x6 rfl
    have x25 := A.e 1 25 rfl rfl
    replace hd := HD.below hd hb
    replace bl := (Fr.grow bl hb)
    replace sd := A.sd sd
    clear A hb
    show Code.wp _ _ _ _ _
    refine wp_cond_true x25 ?_
    refine wp_seq ?_
    refine wr_a [.eq (.int .i64 r23), .eq (.int .i64 r23)] (by rw [sd.1]; kernel_rfl) ⟨fun hw ac u K => ?_, fun hw ac u K => ?_, trivial⟩ ?_
    · exact st_move (.tmp 6) rfl (K.t x6 rfl)
    · exact st_assign (.tmp 26) rfl (K.dep 0 26 rfl)
    intro f13 w13 A hb
    replace x1 := A.t x1 rfl
    replace x2 := A.t x2 rfl
    replace x7 := A.t x7 rfl
    replace x8 := A.t x8 rfl
    replace x9 := A.t x9 rfl
    replace x6 := A.t x6 rfl
    replace x25 := A.t x25 rfl
    have x3 := A.e 1 3 rfl rfl
    replace hd := HD.below hd hb
    replace bl := (Fr.grow bl hb)
    replace sd := A.sd sd
    clear A hb
    clear x6
    clear x25
    show Code.wp _ _ _ _ _
    refine wp_ret ?_
    repeat (first | with_reducible refine then_ret ?_ | with_reducible refine block_ret ?_)
    have hst := wrs_stop hok2
    exact bodyPost_ret (v := .int .i64 r23) (ret_slot rfl f13 _ x3 _ _) sd.2 ⟨DD, by rw [hst, hr23], by rw [hst]; exact hd, by rw [hst]; exact gs2.le (by omega), hDD, bl⟩
  refine wr_a [.eq (.int .i64 r23), .eq (.bool false)] (by rw [sd.1]; kernel_rfl) ⟨fun hw ac u K => ?_, fun hw ac u K => ?_, trivial⟩ ?_
  · exact st_move (.tmp 6) rfl (K.t x6 rfl)
  · exact st_neqi 27 (.tmp 24) (.const (.int .i64 0)) rfl .i64 (r23) (0) (K.dep 0 24 rfl) rfl _ (by rw [hr23, hok2]; simp)
  intro f12 w12 A hb
  replace x1 := A.t x1 rfl
  replace x2 := A.t x2 rfl
  replace x7 := A.t x7 rfl
  replace x8 := A.t x8 rfl
  replace x9 := A.t x9 rfl
  replace x6 := A.t x6 rfl
  have x25 := A.e 1 25 rfl rfl
  replace hd := HD.below hd hb
  replace bl := (Fr.grow bl hb)
  replace sd := A.sd sd
  clear A hb
  show Code.wp _ _ _ _ _
  refine wp_cond_false x25 ?_
  refine wp_skip ?_
  show Code.wp _ _ _ _ _
  refine wr_s [.eq (.int .i64 ((k + 1 : Nat) : Int))] (by rw [sd.1]; kernel_rfl) ⟨fun hw ac u K => ?_, trivial⟩ ?_
  · exact st_addz (.tmp 9) (.const (.int .i64 1)) rfl _ _ _ (K.t x9 rfl) rfl (by omega) (by omega) (by omega)
  intro f13 w13 A hb
  replace x1 := A.t x1 rfl
  replace x2 := A.t x2 rfl
  replace x7 := A.t x7 rfl
  replace x8 := A.t x8 rfl
  replace x9 := A.t x9 rfl
  replace x6 := A.t x6 rfl
  replace x25 := A.t x25 rfl
  have x27 := A.e 0 27 rfl rfl
  replace hd := HD.below hd hb
  replace bl := (Fr.grow bl hb)
  replace sd := A.sd sd
  clear A hb
  clear x6
  clear x25
  refine wl_one (.eq (.int .i64 ((k + 1 : Nat) : Int))) rfl 9 rfl (by rw [sd.1]; decide) (st_move (.tmp 27) rfl x27) ?_
  intro f14 w14 df2 sz2 old2 new2 hb
  replace x1 := tr old2 x1 rfl
  replace x2 := tr old2 x2 rfl
  replace x7 := tr old2 x7 rfl
  replace x8 := tr old2 x8 rfl
  clear x9
  replace x27 := tr old2 x27 rfl
  have x9 := Fk.e new2
  replace hd := HD.below hd hb
  replace bl := (Fr.grow bl hb)
  replace sd := sd2 sz2 df2 sd
  clear df2 sz2 old2 new2 hb
  refine wpList_nil ?_
  clear x27
  show (∃ _, _) ∧ _
  refine ⟨⟨k + 1, DD, by omega, hok2, hDD, gs2, sd.1, sd.2, x1, x2, x7, x8, x9, hd, bl⟩, ?_⟩
  rw [show f14.eval (.tmp 9) = _ from x9, show _ = _ from hcnt]
  first | (simp [intOf]; done) | (simp [intOf]; omega)
theorem fk_xwriting {w : World} {gw gd n z : Nat} {M : Nat → Prop} {dn : Bool} {l : List Cng} {vl : Value} (mw : Ob w gw 62 [.pointer (some ⟨gd, 0, none⟩), .bool dn]) (hgM : ¬ M gw) (hMlt : ∀ j, M j → j < w.heap.size) (hln : l.length ≤ 100000) (hvF : ∀ {W : World}, Fr M w W → (Fk.sr RC l).f vl W) {sv : Value} {g : Nat → Nat} {L : List (Nat × Byt)} (hsf : isF sv) (hsv : Jf gd n z l.length M g sv w) (hLl : L.length = l.length) (hL : ∀ (k : Nat) (c : Cng), l[k]? = some c → L[k]? = some (g k, c.bs)) :
    Calls Tryz.prog 58 #[.pointer (some ⟨gw, 0, none⟩), vl, sv] w fun e w' => ∃ u, e = .returned u ∧ (Fk.stp gd n z l.length M (fun s => wrs s L)).f u w' ∧ Below w.heap.size w w' := by
  obtain ⟨aL, cL, lb, lo, rfl, _⟩ := id (hvF (Fr.refl M w))
  obtain ⟨f9, a9, c9, rfl⟩ := hsf
  go_enter Tryz.func58, Tryz.ntmps58
  refine code_both (fun f w1 => f.tmps.size = 8 ∧ f.defers = [] ∧ f.eval (.tmp 0) = .pointer (some ⟨gw, 0, none⟩) ∧ f.eval (.tmp 1) = .slice aL l.length cL ∧ f.eval (.tmp 2) = .func f9 a9 c9 ∧ Below w.heap.size w (w1)) ⟨rfl, rfl, rfl, rfl, rfl, Below.refl _ _⟩ ?_
  rintro f0 w0 ⟨sz, df, x0, x1, x2, bl⟩
  have sd := And.intro sz df
  clear sz df
  have bl0 := bl
  refine wp_seq ?_
  refine wr_a [.nw w0.heap.size 34 [.pointer (some ⟨gw, 0, none⟩)], .nw w0.heap.size 74 [.slice aL l.length cL], .nw w0.heap.size 60 [.func f9 a9 c9], .eq (.nilFunc)] (by rw [sd.1]; kernel_rfl) ⟨fun hw ac u K => ?_, fun hw ac u K => ?_, fun hw ac u K => ?_, fun hw ac u K => ?_, trivial⟩ ?_
  · exact st_box 34 (.tmp 0) rfl _ _ (by rw [show _ = _ from (K.t x0 rfl)]; kernel_rfl) K.grow.size
  · exact st_box 74 (.tmp 1) rfl _ _ (by rw [show _ = _ from (K.t x1 rfl)]; kernel_rfl) K.grow.size
  · exact st_box 60 (.tmp 2) rfl _ _ (by rw [show _ = _ from (K.t x2 rfl)]; kernel_rfl) K.grow.size
  · exact st_assign (.const .nilFunc) rfl rfl
  intro f1 w1 A hb
  replace bl0 := bl
  replace x0 := A.t x0 rfl
  replace x1 := A.t x1 rfl
  replace x2 := A.t x2 rfl
  have x3 : Fk.f (.nw w0.heap.size 34 [.pointer (some ⟨gw, 0, none⟩)]) (f1.eval (.tmp 3)) w1 := A.has 0 3 rfl
  have x4 : Fk.f (.nw w0.heap.size 74 [.slice aL l.length cL]) (f1.eval (.tmp 4)) w1 := A.has 1 4 rfl
  have x5 : Fk.f (.nw w0.heap.size 60 [.func f9 a9 c9]) (f1.eval (.tmp 5)) w1 := A.has 2 5 rfl
  replace bl := bgo bl hb
  replace sd := A.sd sd
  clear A hb
  clear x0
  clear x1
  clear x2
  obtain ⟨g3, hg3, e3, m3⟩ := x3
  have x3 := e3
  clear e3
  have hw3 : w.heap.size ≤ g3 := Nat.le_trans bl0.size hg3
  obtain ⟨g4, hg4, e4, m4⟩ := x4
  have x4 := e4
  clear e4
  have hw4 : w.heap.size ≤ g4 := Nat.le_trans bl0.size hg4
  obtain ⟨g5, hg5, e5, m5⟩ := x5
  have x5 := e5
  clear e5
  have hw5 : w.heap.size ≤ g5 := Nat.le_trans bl0.size hg5
  show Code.wp _ _ _ _ _
  refine wp_seq ?_
  refine wr_a [.eq (.func (.func 70) #[] #[.pointer (some ⟨g4, 0, none⟩), .pointer (some ⟨g3, 0, none⟩), .pointer (some ⟨g5, 0, none⟩)]), .eq (.func (.func 70) #[] #[.pointer (some ⟨g4, 0, none⟩), .pointer (some ⟨g3, 0, none⟩), .pointer (some ⟨g5, 0, none⟩)])] (by rw [sd.1]; kernel_rfl) ⟨fun hw ac u K => ?_, fun hw ac u K => ?_, trivial⟩ ?_
  · exact st_mkf rfl rfl (three_arg (K.t x4 rfl) (K.t x3 rfl) (K.t x5 rfl))
  · exact st_assign (.tmp 7) rfl (K.dep 0 7 rfl)
  intro f2 w2 A hb
  replace x3 := A.t x3 rfl
  replace x4 := A.t x4 rfl
  replace x5 := A.t x5 rfl
  have x6 := A.e 1 6 rfl rfl
  replace m3 := Ob.below m3 hb
  replace m4 := Ob.below m4 hb
  replace m5 := Ob.below m5 hb
  replace bl := bgo bl hb
  replace sd := A.sd sd
  clear A hb
  clear x3
  clear x4
  clear x5
  show Code.wp _ _ _ _ _
  refine wp_ret ?_
  repeat (first | with_reducible refine then_ret ?_ | with_reducible refine block_ret ?_)
  refine bodyPost_ret (v := .func (.func 70) #[] #[.pointer (some ⟨g4, 0, none⟩), .pointer (some ⟨g3, 0, none⟩), .pointer (some ⟨g5, 0, none⟩)]) (ret_slot rfl f2 _ x6 _ _) sd.2 ⟨_, rfl, ⟨⟨_, _, _, rfl⟩, fun W D' s' k h1 h2 h3 h4 => ⟨70, #[], #[.pointer (some ⟨g4, 0, none⟩), .pointer (some ⟨g3, 0, none⟩), .pointer (some ⟨g5, 0, none⟩)], rfl, Tryz.enter70, ?_⟩⟩, bl⟩
  have hF : Fr M w W := (Fr.of_below bl).trans h1
  exact fk_xwriting1 (mw.keep (hF.block _ (Ob.lt mw) hgM)) (m3.keep (h1.block _ (Ob.lt m3) (fun q => by have := hMlt _ q; omega))) (m4.keep (h1.block _ (Ob.lt m4) (fun q => by have := hMlt _ q; omega))) (m5.keep (h1.block _ (Ob.lt m5) (fun q => by have := hMlt _ q; omega))) hgM (fun q => by have := hMlt _ q; omega) (fun q => by have := hMlt _ q; omega) (fun q => by have := hMlt _ q; omega) h2 h3 (by omega) hln (fun q => hvF (hF.trans q)) (hsv.fr hF) hLl hL
theorem inOrder_raw {w : World} {gd g n z k9 c : Nat} {M D : Nat → Prop} {s : Dst} {ops : List (Dst → Int × Dst)} {vs : Array Value} (hrow : w.heap[g]? = some (.cells vs 80 (0, 0))) (hgM : ¬ M g) (hstp : ∀ (i : Nat) (op : Dst → Int × Dst), ops[i]? = some op → ∃ u, vs[i]? = some u ∧ Stp gd n z c M op u w) (hd : HD w gd M D s) (gs : Gd s n z k9) (hk : k9 + ops.length * c ≤ 1000000) (hol : ops.length ≤ 1000) :
    Calls Tryz.prog 46 #[.slice (some ⟨g, 0, none⟩) ops.length ops.length] w fun e w' => ∃ D', e = .returned (.int .i64 (ino ops s).1) ∧ HD w' gd M D' (ino ops s).2 ∧ Gd (ino ops s).2 n z (k9 + ops.length * c) ∧ (∀ j, D' j → D j ∨ w.heap.size ≤ j) ∧ Fr M w w' := by
  have hMlt : ∀ j, M j → j < w.heap.size := fun j q => hd.lt j (hd.sub j q)
  obtain ⟨DD, hD9⟩ : ∃ E, E = D := ⟨_, rfl⟩
  rw [← hD9] at hd
  have hDD : ∀ j, DD j → D j ∨ w.heap.size ≤ j := fun j q => .inl (hD9 ▸ q)
  clear hD9
  go_enter Tryz.func46, Tryz.ntmps46
  refine code_both (fun f w1 => f.tmps.size = 18 ∧ f.defers = [] ∧ f.eval (.tmp 0) = .slice (some ⟨g, 0, none⟩) ops.length ops.length ∧ HD w1 gd M DD s ∧ Fr (M) w (w1)) ⟨rfl, rfl, rfl, hd, Fr.refl _ _⟩ ?_
  clear hd
  rintro f0 w0 ⟨sz, df, x0, hd, bl⟩
  have sd := And.intro sz df
  clear sz df
  have bl0 := bl
  refine wp_seq ?_
  refine wr_a [.eq (.int .i64 0)] (by rw [sd.1]; kernel_rfl) ⟨fun hw ac u K => ?_, trivial⟩ ?_
  · exact st_assign (.const (.int .i64 0)) rfl rfl
  intro f1 w1 A hb
  replace x0 := A.t x0 rfl
  replace hd := HD.below hd hb
  replace bl := (Fr.grow bl hb)
  replace sd := A.sd sd
  clear A hb
  show Code.wp _ _ _ _ _
  refine wp_seq ?_
  refine wp_seq ?_
  refine wr_a [.eq (.slice (some ⟨g, 0, none⟩) ops.length ops.length), .eq (.int .i64 (ops.length : Int)), .eq (.int .i64 0)] (by rw [sd.1]; kernel_rfl) ⟨fun hw ac u K => ?_, fun hw ac u K => ?_, fun hw ac u K => ?_, trivial⟩ ?_
  · exact st_move (.tmp 0) rfl (K.t x0 rfl)
  · exact st_lenF (.tmp 6) rfl (K.dep 0 6 rfl)
  · exact st_move (.const (.int .i64 0)) rfl rfl
  intro f2 w2 A hb
  replace x0 := A.t x0 rfl
  have x6 := A.e 0 6 rfl rfl
  have x7 := A.e 1 7 rfl rfl
  have x8 := A.e 2 8 rfl rfl
  replace hd := HD.below hd hb
  replace bl := (Fr.grow bl hb)
  replace sd := A.sd sd
  clear A hb
  clear x0
  show Code.wp _ _ _ _ _
  refine wp_block ?_
  refine wp_loop (fun f v1 => ∃ (k : Nat) (DD : Nat → Prop), k ≤ ops.length ∧ (ino (ops.take k) s).1 = 0 ∧ (∀ j, DD j → D j ∨ w.heap.size ≤ j) ∧ Gd (ino (ops.take k) s).2 n z (k9 + k * c) ∧ f.tmps.size = 18 ∧ f.defers = [] ∧ f.eval (.tmp 6) = .slice (some ⟨g, 0, none⟩) ops.length ops.length ∧ f.eval (.tmp 7) = .int .i64 (ops.length : Int) ∧ f.eval (.tmp 8) = .int .i64 (k : Int) ∧ HD v1 gd M DD (ino (ops.take k) s).2 ∧ Fr (M) w (v1)) (fun f _ => ops.length - (intOf (f.eval (.tmp 8))).toNat) ⟨0, DD, Nat.zero_le _, (by rw [List.take_zero]; rfl), hDD, (by rw [List.take_zero, Nat.zero_mul]; exact gs), sd.1, sd.2, x6, x7, x8, (by rw [List.take_zero]; exact hd), bl⟩ ?_
  intro f3 w3 hI
  clear sd bl bl0 x6 x7 x8 hd
  obtain ⟨k, DD, hk8, hok, hDD, gs, sz, df, x6, x7, x8, hd, bl⟩ := hI
  have sd := And.intro sz df
  clear sz df
  have bl0 := bl
  have hcnt := x8
  refine wp_seq ?_
  by_cases hlt : k < ops.length
  rotate_left
  · skip
    refine wr_a [.eq (.bool false)] (by rw [sd.1]; kernel_rfl) ⟨fun hw ac u K => ?_, trivial⟩ ?_
    · exact st_lss 3 (.tmp 8) (.tmp 7) rfl .i64 ((k : Int)) ((ops.length : Int)) (K.t x8 rfl) (K.t x7 rfl) _ (by rw [eq_comm, decide_eq_false_iff_not]; exact fun h => hlt (Int.ofNat_lt.1 h))
    intro f4 w4 A hb
    replace x6 := A.t x6 rfl
    replace x7 := A.t x7 rfl
    replace x8 := A.t x8 rfl
    have x9 := A.e 0 9 rfl rfl
    replace hd := HD.below hd hb
    replace bl := (Fr.grow bl hb)
    replace sd := A.sd sd
    clear A hb
    show Code.wp _ _ _ _ _
    refine wp_seq ?_
    refine wp_cond_false x9 ?_
    refine wp_exit ?_
    show Code.wp _ _ _ _ _
    refine wp_seq ?_
    refine wr_a [.eq (.int .i64 0)] (by rw [sd.1]; kernel_rfl) ⟨fun hw ac u K => ?_, trivial⟩ ?_
    · exact st_assign (.const (.int .i64 0)) rfl rfl
    intro f5 w5 A hb
    replace x6 := A.t x6 rfl
    replace x7 := A.t x7 rfl
    replace x8 := A.t x8 rfl
    replace x9 := A.t x9 rfl
    have x2 := A.e 0 2 rfl rfl
    replace hd := HD.below hd hb
    replace bl := (Fr.grow bl hb)
    replace sd := A.sd sd
    clear A hb
    clear x9
    show Code.wp _ _ _ _ _
    refine wp_ret ?_
    repeat (first | with_reducible refine then_ret ?_ | with_reducible refine block_ret ?_)
    have hkl : k = ops.length := by omega
    have hall : ops.take k = ops := List.take_of_length_le (by omega)
    rw [hall] at hok hd gs
    rw [hkl] at gs
    exact bodyPost_ret (v := .int .i64 0) (ret_slot rfl f5 _ x2 _ _) sd.2 ⟨DD, by rw [hok], hd, gs, hDD, bl⟩
  obtain ⟨op, hop⟩ : ∃ p, ops[k]? = some p := ⟨_, List.getElem?_eq_getElem hlt⟩
  obtain ⟨u9, hu9, hst⟩ := hstp k op hop
  have hcell : ∀ {W : World}, Fr M w W → W.cell? ⟨g, k, none⟩ = some u9 := fun {W} hF => by
    have h9 := (hF.block g (Array.getElem?_eq_some_iff.1 hrow).1 hgM).trans hrow
    simp only [World.cell?, h9]
    exact hu9
  have hkc : k9 + (k + 1) * c ≤ k9 + ops.length * c := Nat.add_le_add_left (Nat.mul_le_mul_right c hlt) k9
  have hkc2 : (k + 1) * c = k * c + c := Nat.succ_mul k c
  refine wr_a [.eq (.bool true)] (by rw [sd.1]; kernel_rfl) ⟨fun hw ac u K => ?_, trivial⟩ ?_
  · exact st_lss 3 (.tmp 8) (.tmp 7) rfl .i64 ((k : Int)) ((ops.length : Int)) (K.t x8 rfl) (K.t x7 rfl) _ (by rw [eq_comm, decide_eq_true_iff]; exact Int.ofNat_lt.2 hlt)
  intro f4 w4 A hb
  replace x6 := A.t x6 rfl
  replace x7 := A.t x7 rfl
  replace x8 := A.t x8 rfl
  have x9 := A.e 0 9 rfl rfl
  replace hd := HD.below hd hb
  replace bl := (Fr.grow bl hb)
  replace sd := A.sd sd
  clear A hb
  show Code.wp _ _ _ _ _
  refine wp_seq ?_
  refine wp_cond_true x9 ?_
  refine wp_skip ?_
  show Code.wp _ _ _ _ _
  refine wp_seq ?_
  refine wp_block ?_
  refine wp_seq ?_
  refine wr_a [.eq (.pointer (some ⟨g, k, none⟩)), .eq (u9), .eq (u9)] (by rw [sd.1]; kernel_rfl) ⟨fun hw ac u K => ?_, fun hw ac u K => ?_, fun hw ac u K => ?_, trivial⟩ ?_
  · exact st_idxF (.tmp 6) (.tmp 8) rfl (K.t x6 rfl) k (K.t x8 rfl) hlt
  · exact st_loadc 80 (.tmp 10) rfl (by kernel_rfl) (K.dep 0 10 rfl) (hcell (Fr.grow bl K.grow))
  · exact st_assign (.tmp 11) rfl (K.dep 1 11 rfl)
  intro f5 w5 A hb
  replace x6 := A.t x6 rfl
  replace x7 := A.t x7 rfl
  replace x8 := A.t x8 rfl
  replace x9 := A.t x9 rfl
  have x4 := A.e 2 4 rfl rfl
  replace hd := HD.below hd hb
  replace bl := (Fr.grow bl hb)
  replace sd := A.sd sd
  clear A hb
  clear x9
  show Code.wp _ _ _ _ _
  refine wp_seq ?_
  refine wr_s [.eq (u9)] (by rw [sd.1]; kernel_rfl) ⟨fun hw ac u K => ?_, trivial⟩ ?_
  · exact st_move (.tmp 4) rfl (K.t x4 rfl)
  intro f6 w6 A hb
  replace x6 := A.t x6 rfl
  replace x7 := A.t x7 rfl
  replace x8 := A.t x8 rfl
  replace x4 := A.t x4 rfl
  have x12 := A.e 0 12 rfl rfl
  replace hd := HD.below hd hb
  replace bl := (Fr.grow bl hb)
  replace sd := A.sd sd
  clear A hb
  clear x4
  refine wl_callv (.tmp 12) _ _ #[] rfl 13 rfl (by rw [sd.1]; decide) rfl x12 rfl (fun u W' => ∃ D2 : Nat → Prop, u = .int .i64 (op (ino (ops.take k) s).2).1 ∧ HD W' gd M D2 (op (ino (ops.take k) s).2).2 ∧ Gd (op (ino (ops.take k) s).2).2 n z (k9 + k * c + c) ∧ (∀ j, D2 j → DD j ∨ w6.heap.size ≤ j) ∧ Fr M w6 W') (by
    obtain ⟨f9, a9, b9, e9, q1, q2⟩ := hst _ DD _ (k9 + k * c) bl hd gs (by omega)
    refine ⟨f9, a9, b9, e9, q1, q2.mono ?_⟩
    rintro e w' ⟨D', rfl, r1, r2, r3, r4⟩
    exact ⟨_, rfl, D', rfl, r1, r2, r3, r4⟩) ?_
  rintro f7 w7 df2 sz2 old2 ⟨D2, x13, hd2, gs2, hD2, O⟩
  replace hd := hd2
  clear hd2
  replace x6 := tr old2 x6 rfl
  replace x7 := tr old2 x7 rfl
  replace x8 := tr old2 x8 rfl
  replace x12 := tr old2 x12 rfl
  obtain ⟨r13, hr13⟩ : ∃ r, r = (op (ino (ops.take k) s).2).1 := ⟨_, rfl⟩
  rw [← hr13] at x13
  replace hDD : ∀ j, D2 j → D j ∨ w.heap.size ≤ j := fun j q => (hD2 j q).elim (hDD j) (fun q => .inr (Nat.le_trans bl.size q))
  replace bl := bl.trans O
  replace bl0 := bl
  clear hD2 O
  obtain ⟨DD, rfl⟩ : ∃ E, E = D2 := ⟨_, rfl⟩
  replace sd := sd2 sz2 df2 sd
  clear df2 sz2 old2
  clear x12
  refine wl_one (.eq (.int .i64 r13)) rfl 5 rfl (by rw [sd.1]; decide) (st_assign (.tmp 13) rfl x13) ?_
  intro f8 w8 df2 sz2 old2 new2 hb
  replace x6 := tr old2 x6 rfl
  replace x7 := tr old2 x7 rfl
  replace x8 := tr old2 x8 rfl
  replace x13 := tr old2 x13 rfl
  have x5 := Fk.e new2
  replace hd := HD.below hd hb
  replace bl := (Fr.grow bl hb)
  replace sd := sd2 sz2 df2 sd
  clear df2 sz2 old2 new2 hb
  refine wpList_nil ?_
  clear x13
  show Code.wp _ _ _ _ _
  refine wp_seq ?_
  have hsn : ino (ops.take (k + 1)) s = op (ino (ops.take k) s).2 := by
    rw [ino_snoc hop, thn_ok hok]
  rw [← hsn] at hd hr13 gs2
  have gs3 : Gd (ino (ops.take (k + 1)) s).2 n z (k9 + (k + 1) * c) := gs2.le (by omega)
  clear gs2
  by_cases hok2 : (ino (ops.take (k + 1)) s).1 = 0
  rotate_left
  · skip
    refine wr_a [.eq (.int .i64 r13), .eq (.bool true)] (by rw [sd.1]; kernel_rfl) ⟨fun hw ac u K => ?_, fun hw ac u K => ?_, trivial⟩ ?_
    · exact st_move (.tmp 5) rfl (K.t x5 rfl)
    · exact st_neqi 27 (.tmp 14) (.const (.int .i64 0)) rfl .i64 (r13) (0) (K.dep 0 14 rfl) rfl _ (by rw [hr13, eq_comm, decide_eq_true_iff]; exact hok2)
    intro f9 w9 A hb
    replace x6 := A.t x6 rfl
    replace x7 := A.t x7 rfl
    replace x8 := A.t x8 rfl
    replace x5 := A.t x5 rfl
    have x15 := A.e 1 15 rfl rfl
    replace hd := HD.below hd hb
    replace bl := (Fr.grow bl hb)
    replace sd := A.sd sd
    clear A hb
    show Code.wp _ _ _ _ _
    refine wp_cond_true x15 ?_
    refine wp_seq ?_
    refine wr_a [.eq (.int .i64 r13), .eq (.int .i64 r13)] (by rw [sd.1]; kernel_rfl) ⟨fun hw ac u K => ?_, fun hw ac u K => ?_, trivial⟩ ?_
    · exact st_move (.tmp 5) rfl (K.t x5 rfl)
    · exact st_assign (.tmp 16) rfl (K.dep 0 16 rfl)
    intro f10 w10 A hb
    replace x6 := A.t x6 rfl
    replace x7 := A.t x7 rfl
    replace x8 := A.t x8 rfl
    replace x5 := A.t x5 rfl
    replace x15 := A.t x15 rfl
    have x2 := A.e 1 2 rfl rfl
    replace hd := HD.below hd hb
    replace bl := (Fr.grow bl hb)
    replace sd := A.sd sd
    clear A hb
    clear x5
    clear x15
    show Code.wp _ _ _ _ _
    refine wp_ret ?_
    repeat (first | with_reducible refine then_ret ?_ | with_reducible refine block_ret ?_)
    have hst := ino_stop hok2
    exact bodyPost_ret (v := .int .i64 r13) (ret_slot rfl f10 _ x2 _ _) sd.2 ⟨DD, by rw [hst, hr13], by rw [hst]; exact hd, by rw [hst]; exact gs3.le hkc, hDD, bl⟩
  refine wr_a [.eq (.int .i64 r13), .eq (.bool false)] (by rw [sd.1]; kernel_rfl) ⟨fun hw ac u K => ?_, fun hw ac u K => ?_, trivial⟩ ?_
  · exact st_move (.tmp 5) rfl (K.t x5 rfl)
  · exact st_neqi 27 (.tmp 14) (.const (.int .i64 0)) rfl .i64 (r13) (0) (K.dep 0 14 rfl) rfl _ (by rw [hr13, hok2]; simp)
  intro f9 w9 A hb
  replace x6 := A.t x6 rfl
  replace x7 := A.t x7 rfl
  replace x8 := A.t x8 rfl
  replace x5 := A.t x5 rfl
  have x15 := A.e 1 15 rfl rfl
  replace hd := HD.below hd hb
  replace bl := (Fr.grow bl hb)
  replace sd := A.sd sd
  clear A hb
  show Code.wp _ _ _ _ _
  refine wp_cond_false x15 ?_
  refine wp_skip ?_
  show Code.wp _ _ _ _ _
  refine wr_s [.eq (.int .i64 ((k + 1 : Nat) : Int))] (by rw [sd.1]; kernel_rfl) ⟨fun hw ac u K => ?_, trivial⟩ ?_
  · exact st_addz (.tmp 8) (.const (.int .i64 1)) rfl _ _ _ (K.t x8 rfl) rfl (by omega) (by omega) (by omega)
  intro f10 w10 A hb
  replace x6 := A.t x6 rfl
  replace x7 := A.t x7 rfl
  replace x8 := A.t x8 rfl
  replace x5 := A.t x5 rfl
  replace x15 := A.t x15 rfl
  have x17 := A.e 0 17 rfl rfl
  replace hd := HD.below hd hb
  replace bl := (Fr.grow bl hb)
  replace sd := A.sd sd
  clear A hb
  clear x5
  clear x15
  refine wl_one (.eq (.int .i64 ((k + 1 : Nat) : Int))) rfl 8 rfl (by rw [sd.1]; decide) (st_move (.tmp 17) rfl x17) ?_
  intro f11 w11 df2 sz2 old2 new2 hb
  replace x6 := tr old2 x6 rfl
  replace x7 := tr old2 x7 rfl
  clear x8
  replace x17 := tr old2 x17 rfl
  have x8 := Fk.e new2
  replace hd := HD.below hd hb
  replace bl := (Fr.grow bl hb)
  replace sd := sd2 sz2 df2 sd
  clear df2 sz2 old2 new2 hb
  refine wpList_nil ?_
  clear x17
  show (∃ _, _) ∧ _
  refine ⟨⟨k + 1, DD, by omega, hok2, hDD, gs3, sd.1, sd.2, x6, x7, x8, hd, bl⟩, ?_⟩
  rw [show f11.eval (.tmp 8) = _ from x8, show _ = _ from hcnt]
  first | (simp [intOf]; done) | (simp [intOf]; omega)
theorem fk_inOrder {w : World} {gd B n z k9 c : Nat} {M D : Nat → Prop} {s : Dst} {ops : List (Dst → Int × Dst)} {v : Value} (hv : (Fk.fs B gd n z c M ops).f v w) (hB : ∀ j, M j → j < B) (hd : HD w gd M D s) (gs : Gd s n z k9) (hk : k9 + ops.length * c ≤ 1000000) (hol : ops.length ≤ 1000) :
    Calls Tryz.prog 46 #[v] w fun e w' => ∃ D', e = .returned (.int .i64 (ino ops s).1) ∧ HD w' gd M D' (ino ops s).2 ∧ Gd (ino ops s).2 n z (k9 + ops.length * c) ∧ (∀ j, D' j → D j ∨ w.heap.size ≤ j) ∧ Fr M w w' := by
  obtain ⟨g, vs, rfl, h1, h2, h3⟩ := hv
  exact inOrder_raw h2 (fun q => by have := hB g q; omega) h3 hd gs hk hol
end Go.Proofs.YtakdpkoigijonaaGreat
namespace Go.Proofs.YtakdpkoigijonaaGreat
set_option maxRecDepth 100000
open Go.RowKit
/-- Where a change goes home. -/
def gh (l : List Cng) (k : Nat) : Nat := 1 + ((l.map Cng.p).getD k 0).toNat
theorem gh_eq {l : List Cng} {k : Nat} {c : Cng} (h : l[k]? = some c) : gh l k = 1 + c.p.toNat := by
  unfold gh
  rw [List.getD_eq_getElem?_getD, List.getElem?_map, h]
  rfl
theorem prc_len (l : List Cng) : (prc l).length = l.length := by unfold prc; rw [List.length_map]
theorem prc_get {l : List Cng} {k : Nat} {c : Cng} (h : l[k]? = some c) : (prc l)[k]? = some (c.p.toNat, c.bs) := by
  unfold prc
  rw [List.getElem?_map, h]
  rfl
theorem hmo_get {l : List Cng} (k : Nat) (c : Cng) (h : l[k]? = some c) : ((prc l).map hmo)[k]? = some (gh l k, c.bs) := by
  rw [List.getElem?_map, prc_get h, gh_eq h]
  rfl
theorem jnl_len (l : List Byt) : ∀ p, (jnl p l).length = l.length := by
  induction l with
  | nil => exact fun p => rfl
  | cons b l ih => exact fun p => by show (jnl (p + 1) l).length + 1 = _; rw [ih]; rfl
theorem jnl_get (l : List Byt) : ∀ (p k : Nat) (b : Byt), l[k]? = some b → (jnl p l)[k]? = some (p + k, b) := by
  induction l with
  | nil => exact fun p k b h => by cases h
  | cons b' l ih =>
    intro p k b h
    cases k with
    | zero => cases h; rfl
    | succ k =>
      show (jnl (p + 1) l)[k]? = _
      rw [ih (p + 1) k b h, show p + 1 + k = p + (k + 1) by omega]
theorem jou_get {h0 : Nat} {l : List Cng} (k : Nat) (c : Cng) (h : l[k]? = some c) : (jnl (1 + h0) ((prc l).map (·.2)))[k]? = some (1 + h0 + k, c.bs) := by
  refine jnl_get _ _ _ _ ?_
  rw [List.getElem?_map, prc_get h]
  rfl
theorem hdz_ats {z : Nat} {l : List Cng} (hp : ∀ c ∈ l, 0 ≤ c.p) : hdb z (l.map (·.p)) = hdz z ((prc l).map (·.1)) := by
  unfold hdz prc
  rw [List.map_map, List.map_map]
  congr 1
  refine List.map_congr_left (fun c hc => ?_)
  have := hp c hc
  show c.p = (c.p.toNat : Int)
  omega
theorem ino_home (z : Nat) (s : Dst) (l : List (Nat × Byt)) : ino [fun s => wrs s (l.map hmo), flu, fun s => wrt s 0 (hdb z []), flu] s = whome (hdz z) s l := rfl
theorem ino_com (h z : Nat) (s : Dst) (l : List (Nat × Byt)) : ino [fun s => wrs s (jnl (1 + h) (l.map (·.2))), flu, fun s => wrt s 0 (hdz z (l.map (·.1))), flu, fun s => whome (hdz z) s l] s = wcom h (hdz z) s l := rfl
section
variable {Q : Exit → Act → World → Prop} {o : Oper} {a : Act} {w : World}
theorem st_fsq (x : Operand) (ho : o.op = .fieldAddr 55 x 0) {q : Cng} (h : (Fk.sq RC q).f (a.eval x) w) : o.wp Tryz.prog a w (Ends a o.dst w (Fk.prg [.int .i64 q.p]).f) Q := by
  obtain ⟨b, i, e, h⟩ := h
  have h1 : (Instr.fieldAt 55 (.pointer (some ⟨b, i, none⟩)) 0).run Tryz.prog w = .ok (.pointer (some ⟨b, i, none⟩)) w := by kernel_rfl
  refine st_pure (v := .pointer (some ⟨b, i, none⟩)) ?_ ⟨b, i, rfl, fun j u hj => ?_⟩
  · unfold execOp
    rw [ho]
    simp [e, h1]
  · obtain _ | j := j
    · exact h 0 u hj
    · cases hj
theorem st_fsqn (x : Operand) (ho : o.op = .fieldAddr 55 x 0) {q : Cng} (h : (Fk.sq RC q).f (a.eval x) w) {m : Nat} (hm : q.p = (m : Int)) : o.wp Tryz.prog a w (Ends a o.dst w (Fk.prg [.int .i64 (m : Int)]).f) Q := by
  rw [← hm]
  exact st_fsq x ho h
end
theorem fk_xmk1 {w : World} {bL k : Nat} {l : List Cng} {vl : Value} {cc : Cng} (mbl : Ob w bL 74 [vl]) (hvl : (Fk.sr RC l).f vl w) (hk : l[k]? = some cc) (hpc : 0 ≤ cc.p ∧ cc.p ≤ 100000) :
    Calls Tryz.prog 62 #[.int .i64 (k : Int), .pointer (some ⟨bL, 0, none⟩)] w fun e w' => ∃ u, e = .returned u ∧ (Fk.eq (.int .i64 ((1 + cc.p.toNat : Nat) : Int))).f u w' ∧ Below w.heap.size w w' := by
  have hpn : cc.p = (cc.p.toNat : Int) := by omega
  go_enter Tryz.func62, Tryz.ntmps62
  refine code_both (fun f w1 => f.tmps.size = 10 ∧ f.defers = [] ∧ f.eval (.tmp 0) = .int .i64 (k : Int) ∧ f.eval (.tmp 1) = .pointer (some ⟨bL, 0, none⟩) ∧ Below w.heap.size w (w1)) ⟨rfl, rfl, rfl, rfl, Below.refl _ _⟩ ?_
  rintro f0 w0 ⟨sz, df, x0, x1, bl⟩
  have sd := And.intro sz df
  clear sz df
  have bl0 := bl
  refine wp_seq ?_
  refine wr_a [.eq (.int .i64 0)] (by rw [sd.1]; kernel_rfl) ⟨fun hw ac u K => ?_, trivial⟩ ?_
  · exact st_assign (.const (.int .i64 0)) rfl rfl
  intro f1 w1 A hb
  replace x0 := A.t x0 rfl
  replace x1 := A.t x1 rfl
  replace bl := bgo bl hb
  replace sd := A.sd sd
  clear A hb
  show Code.wp _ _ _ _ _
  refine wp_seq ?_
  refine wr_a [.eq (vl), .eq (.int .i64 (k : Int)), .sq RC cc, .prg [.int .i64 (cc.p.toNat : Int)], .eq (.int .i64 (cc.p.toNat : Int)), .eq (.int .i64 ((1 + cc.p.toNat : Nat) : Int)), .eq (.int .i64 ((1 + cc.p.toNat : Nat) : Int))] (by rw [sd.1]; kernel_rfl) ⟨fun hw ac u K => ?_, fun hw ac u K => ?_, fun hw ac u K => ?_, fun hw ac u K => ?_, fun hw ac u K => ?_, fun hw ac u K => ?_, fun hw ac u K => ?_, trivial⟩ ?_
  · exact st_loadc 74 (.tmp 1) rfl (by kernel_rfl) (K.t x1 rfl) (Ob.cell (Ob.below mbl (bgo bl K.grow)) 0 rfl)
  · exact st_move (.tmp 0) rfl (K.t x0 rfl)
  · exact st_idxsc (.tmp 4) (.tmp 5) rfl (fk_val (K.dep 0 4 rfl) (Fk.mono _ _ _ _ hvl (bgo bl K.grow))) k cc (K.dep 1 5 rfl) hk
  · exact by have h9 := (K.dep 2 6 rfl); exact st_fsqn (.tmp 6) rfl h9 hpn
  · exact st_loadr1 3 (.tmp 7) rfl (by kernel_rfl) (K.dep 3 7 rfl)
  · exact st_call 44 (.func 44) _ _ _ rfl rfl (one_arg (K.dep 4 8 rfl)) Tryz.enter44 (fk_whs (by omega) _)
  · exact st_assign (.tmp 9) rfl (K.dep 5 9 rfl)
  intro f2 w2 A hb
  replace x0 := A.t x0 rfl
  replace x1 := A.t x1 rfl
  have x3 := A.e 6 3 rfl rfl
  replace bl := bgo bl hb
  replace sd := A.sd sd
  clear A hb
  clear x0
  clear x1
  show Code.wp _ _ _ _ _
  refine wp_ret ?_
  repeat (first | with_reducible refine then_ret ?_ | with_reducible refine block_ret ?_)
  exact bodyPost_ret (v := .int .i64 ((1 + cc.p.toNat : Nat) : Int)) (ret_slot rfl f2 _ x3 _ _) sd.2 ⟨_, rfl, rfl, bl⟩
theorem stp_more {gd n z c c9 : Nat} {M : Nat → Prop} {op : Dst → Int × Dst} {v : Value} {w : World} (h : (Fk.stp gd n z c M op).f v w) (hc : c ≤ c9) : (Fk.stp gd n z c9 M op).f v w := ⟨h.1, h.2.more hc⟩
theorem fk_xmk2 {w : World} {gw gd bw bL bh n z k9 : Nat} {M D : Nat → Prop} {dn : Bool} {s : Dst} {l : List Cng} {vl : Value} (mw : Ob w gw 62 [.pointer (some ⟨gd, 0, none⟩), .bool dn]) (mbw : Ob w bw 34 [.pointer (some ⟨gw, 0, none⟩)]) (mbl : Ob w bL 74 [vl]) (mbh : Ob w bh 60 [.func (.func 62) #[] #[.pointer (some ⟨bL, 0, none⟩)]]) (hgM : ¬ M gw) (hbM : ¬ M bw) (hlM : ¬ M bL) (hsM : ¬ M bh) (hd : HD w gd M D s) (gs : Gd s n z k9) (h16 : 16 ≤ z) (hk : k9 + 4 * (l.length + 1) ≤ 1000000) (hln : l.length ≤ 100000) (hvF : ∀ {W : World}, Fr M w W → (Fk.sr RC l).f vl W) (hp : ∀ c ∈ l, 0 ≤ c.p ∧ c.p ≤ 100000) :
    Calls Tryz.prog 63 #[.pointer (some ⟨bw, 0, none⟩), .pointer (some ⟨bL, 0, none⟩), .pointer (some ⟨bh, 0, none⟩)] w fun e w' => ∃ D', e = .returned (.int .i64 (whome (hdz z) s (prc l)).1) ∧ HD w' gd M D' (whome (hdz z) s (prc l)).2 ∧ Gd (whome (hdz z) s (prc l)).2 n z (k9 + 4 * (l.length + 1)) ∧ (∀ j, D' j → D j ∨ w.heap.size ≤ j) ∧ Fr M w w' := by
  have hMlt : ∀ j, M j → j < w.heap.size := fun j q => hd.lt j (hd.sub j q)
  obtain ⟨DD, hD9⟩ : ∃ E, E = D := ⟨_, rfl⟩
  rw [← hD9] at hd
  have hDD : ∀ j, DD j → D j ∨ w.heap.size ≤ j := fun j q => .inl (hD9 ▸ q)
  clear hD9
  go_enter Tryz.func63, Tryz.ntmps63
  refine code_both (fun f w1 => f.tmps.size = 22 ∧ f.defers = [] ∧ f.eval (.tmp 0) = .pointer (some ⟨bw, 0, none⟩) ∧ f.eval (.tmp 1) = .pointer (some ⟨bL, 0, none⟩) ∧ f.eval (.tmp 2) = .pointer (some ⟨bh, 0, none⟩) ∧ HD w1 gd M DD s ∧ Fr (M) w (w1)) ⟨rfl, rfl, rfl, rfl, rfl, hd, Fr.refl _ _⟩ ?_
  clear hd
  rintro f0 w0 ⟨sz, df, x0, x1, x2, hd, bl⟩
  have sd := And.intro sz df
  clear sz df
  have bl0 := bl
  refine wp_seq ?_
  refine wr_a [.eq (.int .i64 0)] (by rw [sd.1]; kernel_rfl) ⟨fun hw ac u K => ?_, trivial⟩ ?_
  · exact st_assign (.const (.int .i64 0)) rfl rfl
  intro f1 w1 A hb
  replace x0 := A.t x0 rfl
  replace x1 := A.t x1 rfl
  replace x2 := A.t x2 rfl
  replace hd := HD.below hd hb
  replace bl := (Fr.grow bl hb)
  replace sd := A.sd sd
  clear A hb
  show Code.wp _ _ _ _ _
  refine wp_seq ?_
  refine wr_t [.eq (.pointer (some ⟨gw, 0, none⟩)), .eq (vl), .eq (.func (.func 62) #[] #[.pointer (some ⟨bL, 0, none⟩)]), .stp gd n z l.length M (fun s => wrs s ((prc l).map hmo)), .eq (.pointer (some ⟨gw, 0, none⟩)), .eq (.pointer (some ⟨gw, 0, none⟩)), .eq (.pointer (some ⟨gw, 0, none⟩)), .eq (.pointer (some ⟨gd, 0, none⟩)), .eq (.func (.func 59) #[.pointer (some ⟨gd, 0, none⟩)] #[]), .eq (.pointer (some ⟨gw, 0, none⟩)), .stp gd n z 1 M (fun s => wrt s 0 (hdb z [])), .eq (.pointer (some ⟨gw, 0, none⟩)), .eq (.pointer (some ⟨gw, 0, none⟩)), .eq (.pointer (some ⟨gw, 0, none⟩)), .eq (.pointer (some ⟨gd, 0, none⟩)), .eq (.func (.func 59) #[.pointer (some ⟨gd, 0, none⟩)] #[]), .fs w.heap.size gd n z (l.length + 1) M [fun s => wrs s ((prc l).map hmo), flu, fun s => wrt s 0 (hdb z []), flu]] [17, 18] Tryz.mixed (by rw [sd.1]; kernel_rfl) ⟨fun hw ac u K => ?_, fun hw ac u K => ?_, fun hw ac u K => ?_, fun hw ac u K => ?_, fun hw ac u K => ?_, fun hw ac u K => ?_, fun hw ac u K => ?_, fun hw ac u K => ?_, fun hw ac u K => ?_, fun hw ac u K => ?_, fun hw ac u K => ?_, fun hw ac u K => ?_, fun hw ac u K => ?_, fun hw ac u K => ?_, fun hw ac u K => ?_, fun hw ac u K => ?_, fun hw ac u K => ?_, trivial⟩ ?_
  · exact st_loadc 34 (.tmp 0) rfl (by kernel_rfl) (K.t x0 rfl) (Ob.cell (Ob.keep mbw ((Fr.grow bl K.grow).block _ (Ob.lt mbw) hbM)) 0 rfl)
  · exact st_loadc 74 (.tmp 1) rfl (by kernel_rfl) (K.t x1 rfl) (Ob.cell (Ob.keep mbl ((Fr.grow bl K.grow).block _ (Ob.lt mbl) hlM)) 0 rfl)
  · exact st_loadc 60 (.tmp 2) rfl (by kernel_rfl) (K.t x2 rfl) (Ob.cell (Ob.keep mbh ((Fr.grow bl K.grow).block _ (Ob.lt mbh) hsM)) 0 rfl)
  · exact st_call 58 (.func 58) _ _ _ rfl rfl (arg3 (K.dep 0 4 rfl) (K.dep 1 5 rfl) (K.dep 2 6 rfl)) Tryz.enter58 (fk_xwriting (Ob.keep mw ((Fr.grow bl K.grow).block _ (Ob.lt mw) hgM)) hgM (fun j q => by have := hMlt j q; have := (Fr.grow bl K.grow).size; omega) hln (fun q => hvF ((Fr.grow bl K.grow).trans q)) ⟨_, _, _, rfl⟩ (fun W D s k i h1 h2 h3 h4 => ⟨62, #[], #[.pointer (some ⟨bL, 0, none⟩)], rfl, Tryz.enter62, by obtain ⟨cc, hcc⟩ : ∃ p, l[i]? = some p := ⟨_, List.getElem?_eq_getElem h4⟩; rw [gh_eq hcc]; exact fk_xmk1 (Ob.keep mbl (((Fr.grow bl K.grow).trans h1).block _ (Ob.lt mbl) hlM)) (hvF ((Fr.grow bl K.grow).trans h1)) hcc (hp cc (List.mem_of_getElem? hcc))⟩) (by rw [List.length_map, prc_len]) hmo_get)
  · exact st_loadc 34 (.tmp 0) rfl (by kernel_rfl) (K.t x0 rfl) (Ob.cell (Ob.keep mbw ((Fr.grow bl K.grow).block _ (Ob.lt mbw) hbM)) 0 rfl)
  · exact st_nil (.tmp 8) rfl (K.dep 4 8 rfl)
  · exact st_field 62 0 (.tmp 9) rfl (K.dep 5 9 rfl) (by kernel_rfl)
  · exact st_loadc 24 (.tmp 10) rfl (by kernel_rfl) (K.dep 6 10 rfl) (Ob.cell (Ob.keep mw ((Fr.grow bl K.grow).block _ (Ob.lt mw) hgM)) 0 rfl)
  · exact st_mkf rfl (one_arg (K.dep 7 11 rfl)) rfl
  · exact st_loadc 34 (.tmp 0) rfl (by kernel_rfl) (K.t x0 rfl) (Ob.cell (Ob.keep mbw ((Fr.grow bl K.grow).block _ (Ob.lt mbw) hbM)) 0 rfl)
  · exact st_call 60 (.func 60) _ _ _ rfl rfl (arg2 (K.dep 9 13 rfl) rfl) Tryz.enter60 (fk_xnaming (l := []) (Ob.keep mw ((Fr.grow bl K.grow).block _ (Ob.lt mw) hgM)) hgM (fun j q => by have := hMlt j q; have := (Fr.grow bl K.grow).size; omega) (by simp) (by simpa using h16) (fun _ => sr_nil RC _))
  · exact st_loadc 34 (.tmp 0) rfl (by kernel_rfl) (K.t x0 rfl) (Ob.cell (Ob.keep mbw ((Fr.grow bl K.grow).block _ (Ob.lt mbw) hbM)) 0 rfl)
  · exact st_nil (.tmp 15) rfl (K.dep 11 15 rfl)
  · exact st_field 62 0 (.tmp 16) rfl (K.dep 12 16 rfl) (by kernel_rfl)
  · exact st_loadc 24 (.tmp 17) rfl (by kernel_rfl) (K.dep 13 17 rfl) (Ob.cell (Ob.keep mw ((Fr.grow bl K.grow).block _ (Ob.lt mw) hgM)) 0 rfl)
  · exact st_mkf rfl (one_arg (K.dep 14 18 rfl)) rfl
  · exact st_bld4 (.tmp 7) (.tmp 12) (.tmp 14) (.tmp 19) rfl (stp_more (K.dep 3 7 rfl) (by omega)) (stp_flush (by omega) (K.dep 8 12 rfl)) (stp_more (K.dep 10 14 rfl) (by omega)) (stp_flush (by omega) (K.dep 15 19 rfl)) (Fr.grow bl K.grow).size
  intro f2 w2 A hb
  replace x0 := A.t x0 rfl
  replace x1 := A.t x1 rfl
  replace x2 := A.t x2 rfl
  have x20 : Fk.f (.fs w.heap.size gd n z (l.length + 1) M [fun s => wrs s ((prc l).map hmo), flu, fun s => wrt s 0 (hdb z []), flu]) (f2.eval (.tmp 20)) w2 := A.has 16 20 rfl
  replace hd := HD.below hd hb
  replace bl := (Fr.grow bl hb)
  replace sd := A.sd sd
  clear A hb
  clear x0
  clear x1
  clear x2
  refine wl_call 46 (.func 46) _ _ #[f2.eval (.tmp 20)] rfl 21 rfl (by rw [sd.1]; decide) rfl rfl (one_arg rfl) Tryz.enter46 (fun u W' => ∃ D2 : Nat → Prop, u = .int .i64 (ino [fun s => wrs s ((prc l).map hmo), flu, fun s => wrt s 0 (hdb z []), flu] s).1 ∧ HD W' gd M D2 (ino [fun s => wrs s ((prc l).map hmo), flu, fun s => wrt s 0 (hdb z []), flu] s).2 ∧ Gd (ino [fun s => wrs s ((prc l).map hmo), flu, fun s => wrt s 0 (hdb z []), flu] s).2 n z (k9 + 4 * (l.length + 1)) ∧ (∀ j, D2 j → DD j ∨ w2.heap.size ≤ j) ∧ Fr M w2 W') ((fk_inOrder x20 hMlt hd gs (by show k9 + 4 * (l.length + 1) ≤ 1000000; omega) (by show 4 ≤ 1000; omega)).mono (by rintro e w' ⟨D', rfl, q1, q9, q2, q3⟩; exact ⟨_, rfl, D', rfl, q1, q9, q2, q3⟩)) ?_
  rintro f3 w3 df2 sz2 old2 ⟨D2, x21, hd2, gs2, hD2, O⟩
  replace hd := hd2
  clear hd2
  clear x20
  obtain ⟨r21, hr21⟩ : ∃ r, r = (ino [fun s => wrs s ((prc l).map hmo), flu, fun s => wrt s 0 (hdb z []), flu] s).1 := ⟨_, rfl⟩
  rw [← hr21] at x21
  replace hDD : ∀ j, D2 j → D j ∨ w.heap.size ≤ j := fun j q => (hD2 j q).elim (hDD j) (fun q => .inr (Nat.le_trans bl.size q))
  replace bl := bl.trans O
  replace bl0 := bl
  clear hD2 O
  obtain ⟨DD, rfl⟩ : ∃ E, E = D2 := ⟨_, rfl⟩
  replace sd := sd2 sz2 df2 sd
  clear df2 sz2 old2
  refine wl_one (.eq (.int .i64 r21)) rfl 3 rfl (by rw [sd.1]; decide) (st_assign (.tmp 21) rfl x21) ?_
  intro f4 w4 df2 sz2 old2 new2 hb
  replace x21 := tr old2 x21 rfl
  have x3 := Fk.e new2
  replace hd := HD.below hd hb
  replace bl := (Fr.grow bl hb)
  replace sd := sd2 sz2 df2 sd
  clear df2 sz2 old2 new2 hb
  refine wpList_nil ?_
  clear x21
  show Code.wp _ _ _ _ _
  refine wp_ret ?_
  repeat (first | with_reducible refine then_ret ?_ | with_reducible refine block_ret ?_)
  rw [ino_home] at hr21 hd gs2
  exact bodyPost_ret (v := .int .i64 r21) (ret_slot rfl f4 _ x3 _ _) sd.2 ⟨DD, by rw [hr21], hd, gs2, hDD, bl⟩
theorem fk_xmaking {w : World} {gw gd n z : Nat} {M : Nat → Prop} {dn : Bool} {l : List Cng} {vl : Value} (mw : Ob w gw 62 [.pointer (some ⟨gd, 0, none⟩), .bool dn]) (hgM : ¬ M gw) (hMlt : ∀ j, M j → j < w.heap.size) (hln : l.length ≤ 100000) (h16 : 16 ≤ z) (hvF : ∀ {W : World}, Fr M w W → (Fk.sr RC l).f vl W) (hp : ∀ c ∈ l, 0 ≤ c.p ∧ c.p ≤ 100000) :
    Calls Tryz.prog 47 #[.pointer (some ⟨gw, 0, none⟩), vl] w fun e w' => ∃ u, e = .returned u ∧ (Fk.stp gd n z (4 * (l.length + 1)) M (fun s => whome (hdz z) s (prc l))).f u w' ∧ Below w.heap.size w w' := by
  obtain ⟨aL, cL, lb, lo, rfl, _⟩ := id (hvF (Fr.refl M w))
  go_enter Tryz.func47, Tryz.ntmps47
  refine code_both (fun f w1 => f.tmps.size = 8 ∧ f.defers = [] ∧ f.eval (.tmp 0) = .pointer (some ⟨gw, 0, none⟩) ∧ f.eval (.tmp 1) = .slice aL l.length cL ∧ Below w.heap.size w (w1)) ⟨rfl, rfl, rfl, rfl, Below.refl _ _⟩ ?_
  rintro f0 w0 ⟨sz, df, x0, x1, bl⟩
  have sd := And.intro sz df
  clear sz df
  have bl0 := bl
  refine wp_seq ?_
  refine wr_a [.nw w0.heap.size 34 [.pointer (some ⟨gw, 0, none⟩)], .nw w0.heap.size 74 [.slice aL l.length cL], .eq (.nilFunc)] (by rw [sd.1]; kernel_rfl) ⟨fun hw ac u K => ?_, fun hw ac u K => ?_, fun hw ac u K => ?_, trivial⟩ ?_
  · exact st_box 34 (.tmp 0) rfl _ _ (by rw [show _ = _ from (K.t x0 rfl)]; kernel_rfl) K.grow.size
  · exact st_box 74 (.tmp 1) rfl _ _ (by rw [show _ = _ from (K.t x1 rfl)]; kernel_rfl) K.grow.size
  · exact st_assign (.const .nilFunc) rfl rfl
  intro f1 w1 A hb
  replace bl0 := bl
  replace x0 := A.t x0 rfl
  replace x1 := A.t x1 rfl
  have x2 : Fk.f (.nw w0.heap.size 34 [.pointer (some ⟨gw, 0, none⟩)]) (f1.eval (.tmp 2)) w1 := A.has 0 2 rfl
  have x3 : Fk.f (.nw w0.heap.size 74 [.slice aL l.length cL]) (f1.eval (.tmp 3)) w1 := A.has 1 3 rfl
  replace bl := bgo bl hb
  replace sd := A.sd sd
  clear A hb
  clear x0
  clear x1
  obtain ⟨g2, hg2, e2, m2⟩ := x2
  have x2 := e2
  clear e2
  have hw2 : w.heap.size ≤ g2 := Nat.le_trans bl0.size hg2
  obtain ⟨g3, hg3, e3, m3⟩ := x3
  have x3 := e3
  clear e3
  have hw3 : w.heap.size ≤ g3 := Nat.le_trans bl0.size hg3
  show Code.wp _ _ _ _ _
  refine wp_seq ?_
  refine wr_s [.eq (.func (.func 62) #[] #[.pointer (some ⟨g3, 0, none⟩)]), .nw w1.heap.size 60 [.nilFunc]] (by rw [sd.1]; kernel_rfl) ⟨fun hw ac u K => ?_, fun hw ac u K => ?_, trivial⟩ ?_
  · exact st_mkf rfl rfl (one_arg (K.t x3 rfl))
  · exact st_alloc 60 rfl _ _ (by kernel_rfl) K.grow.size
  intro f2 w2 A hb
  replace bl0 := bl
  replace x2 := A.t x2 rfl
  replace x3 := A.t x3 rfl
  have x5 : Fk.f (.nw w1.heap.size 60 [.nilFunc]) (f2.eval (.tmp 5)) w2 := A.has 1 5 rfl
  have x6 := A.e 0 6 rfl rfl
  have lt_m2 := Ob.lt m2
  replace m2 := Ob.below m2 hb
  have lt_m3 := Ob.lt m3
  replace m3 := Ob.below m3 hb
  replace bl := bgo bl hb
  replace sd := A.sd sd
  clear A hb
  obtain ⟨g5, hg5, e5, m5⟩ := x5
  have x5 := e5
  clear e5
  have nm2_5 : g2 ≠ g5 := Nat.ne_of_lt (Nat.lt_of_lt_of_le lt_m2 hg5)
  have nm3_5 : g3 ≠ g5 := Nat.ne_of_lt (Nat.lt_of_lt_of_le lt_m3 hg5)
  have hw5 : w.heap.size ≤ g5 := Nat.le_trans bl0.size hg5
  refine wl_stc 60 rfl (.tmp 5) (.tmp 6) rfl rfl (by kernel_rfl) (g5) 0 (.func (.func 62) #[] #[.pointer (some ⟨g3, 0, none⟩)]) x5 x6 rfl rfl (Ob.there m5 0 (by simp)) ?_
  replace m2 : Ob (w2.setCell ⟨g5, 0, none⟩ (.func (.func 62) #[] #[.pointer (some ⟨g3, 0, none⟩)])) (g2) 34 ([.pointer (some ⟨gw, 0, none⟩)]) := Ob.setCell_other m2 _ _ nm2_5
  replace m3 : Ob (w2.setCell ⟨g5, 0, none⟩ (.func (.func 62) #[] #[.pointer (some ⟨g3, 0, none⟩)])) (g3) 74 ([.slice aL l.length cL]) := Ob.setCell_other m3 _ _ nm3_5
  replace m5 : Ob (w2.setCell ⟨g5, 0, none⟩ (.func (.func 62) #[] #[.pointer (some ⟨g3, 0, none⟩)])) (g5) 60 ([.func (.func 62) #[] #[.pointer (some ⟨g3, 0, none⟩)]]) := Ob.set m5 0 (.func (.func 62) #[] #[.pointer (some ⟨g3, 0, none⟩)])
  replace bl : Below w.heap.size w (w2.setCell ⟨g5, 0, none⟩ (.func (.func 62) #[] #[.pointer (some ⟨g3, 0, none⟩)])) := bl.trans (below_setCell _ _ _ _ _ hw5)
  generalize w2.setCell ⟨g5, 0, none⟩ (.func (.func 62) #[] #[.pointer (some ⟨g3, 0, none⟩)]) = w3b at bl m2 m3 m5 ⊢
  refine wpList_nil ?_
  clear x6
  show Code.wp _ _ _ _ _
  refine wp_seq ?_
  refine wr_a [.eq (.func (.func 63) #[] #[.pointer (some ⟨g2, 0, none⟩), .pointer (some ⟨g3, 0, none⟩), .pointer (some ⟨g5, 0, none⟩)]), .eq (.func (.func 63) #[] #[.pointer (some ⟨g2, 0, none⟩), .pointer (some ⟨g3, 0, none⟩), .pointer (some ⟨g5, 0, none⟩)])] (by rw [sd.1]; kernel_rfl) ⟨fun hw ac u K => ?_, fun hw ac u K => ?_, trivial⟩ ?_
  · exact st_mkf rfl rfl (three_arg (K.t x2 rfl) (K.t x3 rfl) (K.t x5 rfl))
  · exact st_assign (.tmp 7) rfl (K.dep 0 7 rfl)
  intro f4 w4 A hb
  replace x2 := A.t x2 rfl
  replace x3 := A.t x3 rfl
  replace x5 := A.t x5 rfl
  have x4 := A.e 1 4 rfl rfl
  replace m2 := Ob.below m2 hb
  replace m3 := Ob.below m3 hb
  replace m5 := Ob.below m5 hb
  replace bl := bgo bl hb
  replace sd := A.sd sd
  clear A hb
  clear x2
  clear x3
  clear x5
  show Code.wp _ _ _ _ _
  refine wp_ret ?_
  repeat (first | with_reducible refine then_ret ?_ | with_reducible refine block_ret ?_)
  refine bodyPost_ret (v := .func (.func 63) #[] #[.pointer (some ⟨g2, 0, none⟩), .pointer (some ⟨g3, 0, none⟩), .pointer (some ⟨g5, 0, none⟩)]) (ret_slot rfl f4 _ x4 _ _) sd.2 ⟨_, rfl, ⟨⟨_, _, _, rfl⟩, fun W D' s' k h1 h2 h3 h4 => ⟨63, #[], #[.pointer (some ⟨g2, 0, none⟩), .pointer (some ⟨g3, 0, none⟩), .pointer (some ⟨g5, 0, none⟩)], rfl, Tryz.enter63, ?_⟩⟩, bl⟩
  have hF : Fr M w W := (Fr.of_below bl).trans h1
  exact fk_xmk2 (mw.keep (hF.block _ (Ob.lt mw) hgM)) (m2.keep (h1.block _ (Ob.lt m2) (fun q => by have := hMlt _ q; omega))) (m3.keep (h1.block _ (Ob.lt m3) (fun q => by have := hMlt _ q; omega))) (m5.keep (h1.block _ (Ob.lt m5) (fun q => by have := hMlt _ q; omega))) hgM (fun q => by have := hMlt _ q; omega) (fun q => by have := hMlt _ q; omega) (fun q => by have := hMlt _ q; omega) h2 h3 h16 (by omega) hln (fun q => hvF (hF.trans q)) hp
theorem fk_xcommit {w : World} {gw gd n z k9 : Nat} {M D : Nat → Prop} {dn : Bool} {s : Dst} (mw : Ob w gw 62 [.pointer (some ⟨gd, 0, none⟩), .bool dn]) (hd : HD w gd M D s) (gs : Gd s n z k9) (hgM : ¬ M gw) (h16 : 16 ≤ z) {l : List Cng} {vl : Value} (hk : k9 + 20 * (l.length + 1) ≤ 1000000) (hln : l.length ≤ 100000) (hz9 : 16 + 8 * l.length ≤ z) (hvF : ∀ {W : World}, Fr M w W → (Fk.sr RC l).f vl W) (hp : ∀ c ∈ l, 0 ≤ c.p ∧ c.p ≤ 100000) :
    Calls Tryz.prog 42 #[.pointer (some ⟨gw, 0, none⟩), vl] w fun e w' => ∃ D', e = .returned (.int .i64 (wcom (homN n) (hdz z) s (prc l)).1) ∧ HD w' gd M D' (wcom (homN n) (hdz z) s (prc l)).2 ∧ Gd (wcom (homN n) (hdz z) s (prc l)).2 n z (k9 + 5 * (4 * (l.length + 1))) ∧ (∀ j, D' j → D j ∨ w.heap.size ≤ j) ∧ Fr M w w' := by
  obtain ⟨⟨hn1, hn2⟩, hz1, hz2⟩ := HD.nz hd gs
  have hho := homN_le hn1
  have hMlt : ∀ j, M j → j < w.heap.size := fun j q => hd.lt j (hd.sub j q)
  obtain ⟨DD, hD9⟩ : ∃ E, E = D := ⟨_, rfl⟩
  rw [← hD9] at hd
  have hDD : ∀ j, DD j → D j ∨ w.heap.size ≤ j := fun j q => .inl (hD9 ▸ q)
  clear hD9
  go_enter Tryz.func42, Tryz.ntmps42
  refine code_both (fun f w1 => f.tmps.size = 28 ∧ f.defers = [] ∧ f.eval (.tmp 0) = .pointer (some ⟨gw, 0, none⟩) ∧ f.eval (.tmp 1) = vl ∧ HD w1 gd M DD s ∧ Fr (M) w (w1)) ⟨rfl, rfl, rfl, rfl, hd, Fr.refl _ _⟩ ?_
  clear hd
  rintro f0 w0 ⟨sz, df, x0, x1, hd, bl⟩
  have sd := And.intro sz df
  clear sz df
  have bl0 := bl
  refine wp_seq ?_
  refine wr_a [.eq (.int .i64 0)] (by rw [sd.1]; kernel_rfl) ⟨fun hw ac u K => ?_, trivial⟩ ?_
  · exact st_assign (.const (.int .i64 0)) rfl rfl
  intro f1 w1 A hb
  replace x0 := A.t x0 rfl
  replace x1 := A.t x1 rfl
  replace hd := HD.below hd hb
  replace bl := (Fr.grow bl hb)
  replace sd := A.sd sd
  clear A hb
  show Code.wp _ _ _ _ _
  refine wp_seq ?_
  refine wr_t [.eq (.pointer (some ⟨gw, 0, none⟩)), .eq (vl), .eq (.pointer (some ⟨gw, 0, none⟩)), .eq (.func (.func 37) #[.pointer (some ⟨gw, 0, none⟩)] #[]), .stp gd n z l.length M (fun s => wrs s (jnl (1 + homN n) ((prc l).map (·.2)))), .eq (.pointer (some ⟨gw, 0, none⟩)), .eq (.pointer (some ⟨gw, 0, none⟩)), .eq (.pointer (some ⟨gw, 0, none⟩)), .eq (.pointer (some ⟨gd, 0, none⟩)), .eq (.func (.func 59) #[.pointer (some ⟨gd, 0, none⟩)] #[]), .eq (.pointer (some ⟨gw, 0, none⟩)), .eq (vl), .stp gd n z 1 M (fun s => wrt s 0 (hdz z ((prc l).map (·.1)))), .eq (.pointer (some ⟨gw, 0, none⟩)), .eq (.pointer (some ⟨gw, 0, none⟩)), .eq (.pointer (some ⟨gw, 0, none⟩)), .eq (.pointer (some ⟨gd, 0, none⟩)), .eq (.func (.func 59) #[.pointer (some ⟨gd, 0, none⟩)] #[]), .eq (.pointer (some ⟨gw, 0, none⟩)), .eq (vl), .stp gd n z (4 * (l.length + 1)) M (fun s => whome (hdz z) s (prc l)), .fs w.heap.size gd n z (4 * (l.length + 1)) M [fun s => wrs s (jnl (1 + homN n) ((prc l).map (·.2))), flu, fun s => wrt s 0 (hdz z ((prc l).map (·.1))), flu, fun s => whome (hdz z) s (prc l)]] [22, 23] Tryz.mixed (by rw [sd.1]; kernel_rfl) ⟨fun hw ac u K => ?_, fun hw ac u K => ?_, fun hw ac u K => ?_, fun hw ac u K => ?_, fun hw ac u K => ?_, fun hw ac u K => ?_, fun hw ac u K => ?_, fun hw ac u K => ?_, fun hw ac u K => ?_, fun hw ac u K => ?_, fun hw ac u K => ?_, fun hw ac u K => ?_, fun hw ac u K => ?_, fun hw ac u K => ?_, fun hw ac u K => ?_, fun hw ac u K => ?_, fun hw ac u K => ?_, fun hw ac u K => ?_, fun hw ac u K => ?_, fun hw ac u K => ?_, fun hw ac u K => ?_, fun hw ac u K => ?_, trivial⟩ ?_
  · exact st_move (.tmp 0) rfl (K.t x0 rfl)
  · exact st_move (.tmp 1) rfl (K.t x1 rfl)
  · exact st_move (.tmp 0) rfl (K.t x0 rfl)
  · exact st_mkf rfl (one_arg (K.dep 2 7 rfl)) rfl
  · exact st_call 58 (.func 58) _ _ _ rfl rfl (arg3 (K.dep 0 5 rfl) (K.dep 1 6 rfl) (K.dep 3 8 rfl)) Tryz.enter58 (fk_xwriting (g := fun k => 1 + homN n + k) (Ob.keep mw ((Fr.grow bl K.grow).block _ (Ob.lt mw) hgM)) hgM (fun j q => by have := hMlt j q; have := (Fr.grow bl K.grow).size; omega) hln (fun q => hvF ((Fr.grow bl K.grow).trans q)) ⟨_, _, _, rfl⟩ (fun W D s k i h1 h2 h3 h4 => ⟨37, #[.pointer (some ⟨gw, 0, none⟩)], #[], rfl, Tryz.enter37, fk_xjs (Ob.keep mw (((Fr.grow bl K.grow).trans h1).block _ (Ob.lt mw) hgM)) h2 h3 (by omega)⟩) (by rw [jnl_len, List.length_map, prc_len]) jou_get)
  · exact st_move (.tmp 0) rfl (K.t x0 rfl)
  · exact st_nil (.tmp 10) rfl (K.dep 5 10 rfl)
  · exact st_field 62 0 (.tmp 11) rfl (K.dep 6 11 rfl) (by kernel_rfl)
  · exact st_loadc 24 (.tmp 12) rfl (by kernel_rfl) (K.dep 7 12 rfl) (Ob.cell (Ob.keep mw ((Fr.grow bl K.grow).block _ (Ob.lt mw) hgM)) 0 rfl)
  · exact st_mkf rfl (one_arg (K.dep 8 13 rfl)) rfl
  · exact st_move (.tmp 0) rfl (K.t x0 rfl)
  · exact st_move (.tmp 1) rfl (K.t x1 rfl)
  · exact st_call 60 (.func 60) _ _ _ rfl rfl (arg2 (K.dep 10 15 rfl) (K.dep 11 16 rfl)) Tryz.enter60 (by rw [← hdz_ats (fun c hc => (hp c hc).1)]; exact fk_xnaming (Ob.keep mw ((Fr.grow bl K.grow).block _ (Ob.lt mw) hgM)) hgM (fun j q => by have := hMlt j q; have := (Fr.grow bl K.grow).size; omega) hln hz9 (fun q => hvF ((Fr.grow bl K.grow).trans q)))
  · exact st_move (.tmp 0) rfl (K.t x0 rfl)
  · exact st_nil (.tmp 18) rfl (K.dep 13 18 rfl)
  · exact st_field 62 0 (.tmp 19) rfl (K.dep 14 19 rfl) (by kernel_rfl)
  · exact st_loadc 24 (.tmp 20) rfl (by kernel_rfl) (K.dep 15 20 rfl) (Ob.cell (Ob.keep mw ((Fr.grow bl K.grow).block _ (Ob.lt mw) hgM)) 0 rfl)
  · exact st_mkf rfl (one_arg (K.dep 16 21 rfl)) rfl
  · exact st_move (.tmp 0) rfl (K.t x0 rfl)
  · exact st_move (.tmp 1) rfl (K.t x1 rfl)
  · exact st_call 47 (.func 47) _ _ _ rfl rfl (arg2 (K.dep 18 23 rfl) (K.dep 19 24 rfl)) Tryz.enter47 (fk_xmaking (Ob.keep mw ((Fr.grow bl K.grow).block _ (Ob.lt mw) hgM)) hgM (fun j q => by have := hMlt j q; have := (Fr.grow bl K.grow).size; omega) hln h16 (fun q => hvF ((Fr.grow bl K.grow).trans q)) hp)
  · exact st_bld5 (.tmp 9) (.tmp 14) (.tmp 17) (.tmp 22) (.tmp 25) rfl (stp_more (K.dep 4 9 rfl) (by omega)) (stp_flush (by omega) (K.dep 9 14 rfl)) (stp_more (K.dep 12 17 rfl) (by omega)) (stp_flush (by omega) (K.dep 17 22 rfl)) (K.dep 20 25 rfl) (Fr.grow bl K.grow).size
  intro f2 w2 A hb
  replace x0 := A.t x0 rfl
  replace x1 := A.t x1 rfl
  have x26 : Fk.f (.fs w.heap.size gd n z (4 * (l.length + 1)) M [fun s => wrs s (jnl (1 + homN n) ((prc l).map (·.2))), flu, fun s => wrt s 0 (hdz z ((prc l).map (·.1))), flu, fun s => whome (hdz z) s (prc l)]) (f2.eval (.tmp 26)) w2 := A.has 21 26 rfl
  replace hd := HD.below hd hb
  replace bl := (Fr.grow bl hb)
  replace sd := A.sd sd
  clear A hb
  clear x0
  clear x1
  refine wl_call 46 (.func 46) _ _ #[f2.eval (.tmp 26)] rfl 27 rfl (by rw [sd.1]; decide) rfl rfl (one_arg rfl) Tryz.enter46 (fun u W' => ∃ D2 : Nat → Prop, u = .int .i64 (ino [fun s => wrs s (jnl (1 + homN n) ((prc l).map (·.2))), flu, fun s => wrt s 0 (hdz z ((prc l).map (·.1))), flu, fun s => whome (hdz z) s (prc l)] s).1 ∧ HD W' gd M D2 (ino [fun s => wrs s (jnl (1 + homN n) ((prc l).map (·.2))), flu, fun s => wrt s 0 (hdz z ((prc l).map (·.1))), flu, fun s => whome (hdz z) s (prc l)] s).2 ∧ Gd (ino [fun s => wrs s (jnl (1 + homN n) ((prc l).map (·.2))), flu, fun s => wrt s 0 (hdz z ((prc l).map (·.1))), flu, fun s => whome (hdz z) s (prc l)] s).2 n z (k9 + 5 * (4 * (l.length + 1))) ∧ (∀ j, D2 j → DD j ∨ w2.heap.size ≤ j) ∧ Fr M w2 W') ((fk_inOrder x26 hMlt hd gs (by show k9 + 5 * (4 * (l.length + 1)) ≤ 1000000; omega) (by show 5 ≤ 1000; omega)).mono (by rintro e w' ⟨D', rfl, q1, q9, q2, q3⟩; exact ⟨_, rfl, D', rfl, q1, q9, q2, q3⟩)) ?_
  rintro f3 w3 df2 sz2 old2 ⟨D2, x27, hd2, gs2, hD2, O⟩
  replace hd := hd2
  clear hd2
  clear x26
  obtain ⟨r27, hr27⟩ : ∃ r, r = (ino [fun s => wrs s (jnl (1 + homN n) ((prc l).map (·.2))), flu, fun s => wrt s 0 (hdz z ((prc l).map (·.1))), flu, fun s => whome (hdz z) s (prc l)] s).1 := ⟨_, rfl⟩
  rw [← hr27] at x27
  replace hDD : ∀ j, D2 j → D j ∨ w.heap.size ≤ j := fun j q => (hD2 j q).elim (hDD j) (fun q => .inr (Nat.le_trans bl.size q))
  replace bl := bl.trans O
  replace bl0 := bl
  clear hD2 O
  obtain ⟨DD, rfl⟩ : ∃ E, E = D2 := ⟨_, rfl⟩
  replace sd := sd2 sz2 df2 sd
  clear df2 sz2 old2
  refine wl_one (.eq (.int .i64 r27)) rfl 4 rfl (by rw [sd.1]; decide) (st_assign (.tmp 27) rfl x27) ?_
  intro f4 w4 df2 sz2 old2 new2 hb
  replace x27 := tr old2 x27 rfl
  have x4 := Fk.e new2
  replace hd := HD.below hd hb
  replace bl := (Fr.grow bl hb)
  replace sd := sd2 sz2 df2 sd
  clear df2 sz2 old2 new2 hb
  refine wpList_nil ?_
  clear x27
  show Code.wp _ _ _ _ _
  refine wp_ret ?_
  repeat (first | with_reducible refine then_ret ?_ | with_reducible refine block_ret ?_)
  rw [ino_com] at hr27 hd gs2
  exact bodyPost_ret (v := .int .i64 r27) (ret_slot rfl f4 _ x4 _ _) sd.2 ⟨DD, by rw [hr27], hd, gs2, hDD, bl⟩
end Go.Proofs.YtakdpkoigijonaaGreat
