/- Contracts: what looks at a disk. Contracts: Read; the power. -/
import Derived.Test.YtakdpkoigijonaaM3
namespace Go.Proofs.Ytakdpkoigijonaa
set_option maxRecDepth 100000
open Go.RowKit
theorem Try.under57q : Try.prog.underlying 57 = some (.slice 35) := by kernel_rfl
theorem Try.elem57q : Try.prog.elem 57 = 35 := by kernel_rfl
theorem Try.mapq : Try.prog.underlying 59 = some (.map 3 35) := by kernel_rfl
theorem Try.zeroq (w : World) : (zeroValue 35).run Try.prog w = .ok (.slice none 0 0) w := by kernel_rfl
section
variable {Q : Exit → Act → World → Prop} {o : Oper} {a : Act} {w : World}
theorem st_lenrr (x : Operand) (ho : o.op = .call { callee := .builtin .len, args := #[x], argTypes := #[57] }) {p : Option Addr} {n C : Nat} (hx : a.eval x = .slice p n C) : o.wp Try.prog a w (Ends a o.dst w (Fk.eq (.int .i64 (n : Int))).f) Q := by
  refine st_pure (v := .int .i64 (n : Int)) ?_ rfl
  have h1 := run_len_slice (P := Try.prog) (w := w) 57 o.type p n C (by rw [Try.elem57q]; kernel_rfl)
  unfold execOp
  simp [ho, resolve, invoke, builtin, hx, h1, goInt]
theorem st_idxr (x y : Operand) (ho : o.op = .indexAddr 57 x y) {h n C : Nat} (hx : a.eval x = .slice (some ⟨h, 0, none⟩) n C) (i : Nat) (hy : a.eval y = .int .i64 (i : Int)) (hi : i < n) : o.wp Try.prog a w (Ends a o.dst w (Fk.eq (.pointer (some ⟨h, i, none⟩))).f) Q := by
  refine st_pure (v := .pointer (some ⟨h, i, none⟩)) ?_ rfl
  have h1 := run_indexAt_slice (P := Try.prog) (w := w) 57 ⟨h, 0, none⟩ n C .i64 (i : Int) (by rw [Try.elem57q]; kernel_rfl)
  rw [if_pos (by omega), Try.elem57q, show (sizeOf 35).run Try.prog w = .ok 1 w by kernel_rfl] at h1
  simp only [Result.andThen_ok, Int.toNat_natCast, Addr.add_mid, Nat.mul_one, Nat.zero_add] at h1
  unfold execOp
  rw [ho]
  simp [hx, hy, h1]
theorem wf_nat {i : Nat} (h : i ≤ 9223372036854775807) : (Lit.int .i64 (i : Int)).wf = true := by
  show (decide ((-9223372036854775808 : Int) ≤ (i : Int)) && decide ((i : Int) ≤ 9223372036854775807)) = true
  rw [Bool.and_eq_true, decide_eq_true_iff, decide_eq_true_iff]
  omega
theorem st_look (x y : Operand) (ho : o.op = .lookup 59 x y true) {cb : Nat} {l : List (Int × Value)} (hx : a.eval x = .map (some cb)) (hm : Im w cb l) {i : Int} (hy : a.eval y = .int .i64 i) (hi : (Lit.int .i64 i).wf = true) : o.wp Try.prog a w (Ends a o.dst w (Fk.eq (.tuple #[(mget l i).getD (.slice none 0 0), .bool (mget l i).isSome])).f) Q := by
  refine st_pure ?_ rfl
  have h1 := run_lookupI (P := Try.prog) (t := 59) Try.under3 Try.mapq (Try.zeroq w) hm hi
  unfold execOp
  rw [ho]
  simp [hx, hy, h1]
end
/-- What fits. -/
def ft (s : Dst) (i : Int) (b : List (BitVec 8)) : Int := if i < 0 ∨ (s.has.length : Int) ≤ i then 11 else if b.length ≠ s.size then 10 else 0
theorem fk_ddown {w : World} {gd : Nat} {M D : Nat → Prop} {s : Dst} (hd : HD w gd M D s) :
    Calls Try.prog 53 #[.pointer (some ⟨gd, 0, none⟩)] w fun e w' => ∃ v, e = .returned v ∧ (Fk.eq (.bool s.down)).f v w' ∧ Below w.heap.size w w' := by
  obtain ⟨sb, cb, C, pl, vs, l, r⟩ := hd
  have m0 := r.ob
  have hnm := r.nmax
  go_enter Try.func53, Try.ntmps53
  refine code_both (fun f w1 => f.tmps.size = 8 ∧ f.defers = [] ∧ f.eval (.tmp 0) = .pointer (some ⟨gd, 0, none⟩) ∧ Below w.heap.size w (w1)) ⟨rfl, rfl, rfl, Below.refl _ _⟩ ?_
  rintro f0 w0 ⟨sz, df, x0, bl⟩
  have sd := And.intro sz df
  clear sz df
  have bl0 := bl
  refine wp_seq ?_
  refine wr_a [.eq (.bool false)] (by rw [sd.1]; kernel_rfl) ⟨fun hw ac u K => ?_, trivial⟩ ?_
  · exact st_assign (.const (.bool false)) rfl rfl
  intro f1 w1 A hb
  replace x0 := A.t x0 rfl
  replace bl := bgo bl hb
  replace sd := A.sd sd
  clear A hb
  show Code.wp _ _ _ _ _
  refine wp_seq ?_
  refine wr_a [.eq (.pointer (some ⟨gd, 0, none⟩)), .eq (.pointer (some ⟨gd, 0, none⟩)), .eq (.pointer (some ⟨gd, 3, none⟩)), .eq (.pointer (some ⟨gd, 4, none⟩)), .eq (.bool s.down), .eq (.bool s.down)] (by rw [sd.1]; kernel_rfl) ⟨fun hw ac u K => ?_, fun hw ac u K => ?_, fun hw ac u K => ?_, fun hw ac u K => ?_, fun hw ac u K => ?_, fun hw ac u K => ?_, trivial⟩ ?_
  · exact st_move (.tmp 0) rfl (K.t x0 rfl)
  · exact st_nil (.tmp 3) rfl (K.dep 0 3 rfl)
  · exact st_field 64 3 (.tmp 4) rfl (K.dep 1 4 rfl) (by kernel_rfl)
  · exact st_field 61 1 (.tmp 5) rfl (K.dep 2 5 rfl) (by kernel_rfl)
  · exact st_loadc 4 (.tmp 6) rfl (by kernel_rfl) (K.dep 3 6 rfl) (Ob.cell (Ob.below m0 (bgo bl K.grow)) 4 rfl)
  · exact st_assign (.tmp 7) rfl (K.dep 4 7 rfl)
  intro f2 w2 A hb
  replace x0 := A.t x0 rfl
  have x2 := A.e 5 2 rfl rfl
  replace bl := bgo bl hb
  replace sd := A.sd sd
  clear A hb
  clear x0
  show Code.wp _ _ _ _ _
  refine wp_ret ?_
  repeat (first | with_reducible refine then_ret ?_ | with_reducible refine block_ret ?_)
  exact bodyPost_ret (v := .bool s.down) (ret_slot rfl f2 _ x2 _ _) sd.2 ⟨_, rfl, rfl, bl⟩
theorem fk_dsize {w : World} {gd : Nat} {M D : Nat → Prop} {s : Dst} (hd : HD w gd M D s) :
    Calls Try.prog 29 #[.pointer (some ⟨gd, 0, none⟩)] w fun e w' => ∃ v, e = .returned v ∧ (Fk.eq (.int .i64 (s.size : Int))).f v w' ∧ Below w.heap.size w w' := by
  obtain ⟨sb, cb, C, pl, vs, l, r⟩ := hd
  have m0 := r.ob
  have hnm := r.nmax
  go_enter Try.func29, Try.ntmps29
  refine code_both (fun f w1 => f.tmps.size = 7 ∧ f.defers = [] ∧ f.eval (.tmp 0) = .pointer (some ⟨gd, 0, none⟩) ∧ Below w.heap.size w (w1)) ⟨rfl, rfl, rfl, Below.refl _ _⟩ ?_
  rintro f0 w0 ⟨sz, df, x0, bl⟩
  have sd := And.intro sz df
  clear sz df
  have bl0 := bl
  refine wp_seq ?_
  refine wr_a [.eq (.int .i64 0)] (by rw [sd.1]; kernel_rfl) ⟨fun hw ac u K => ?_, trivial⟩ ?_
  · exact st_assign (.const (.int .i64 0)) rfl rfl
  intro f1 w1 A hb
  replace x0 := A.t x0 rfl
  replace bl := bgo bl hb
  replace sd := A.sd sd
  clear A hb
  show Code.wp _ _ _ _ _
  refine wp_seq ?_
  refine wr_a [.eq (.pointer (some ⟨gd, 0, none⟩)), .eq (.pointer (some ⟨gd, 0, none⟩)), .eq (.pointer (some ⟨gd, 0, none⟩)), .eq (.int .i64 (s.size : Int)), .eq (.int .i64 (s.size : Int))] (by rw [sd.1]; kernel_rfl) ⟨fun hw ac u K => ?_, fun hw ac u K => ?_, fun hw ac u K => ?_, fun hw ac u K => ?_, fun hw ac u K => ?_, trivial⟩ ?_
  · exact st_move (.tmp 0) rfl (K.t x0 rfl)
  · exact st_nil (.tmp 3) rfl (K.dep 0 3 rfl)
  · exact st_field 64 0 (.tmp 4) rfl (K.dep 1 4 rfl) (by kernel_rfl)
  · exact st_loadc 3 (.tmp 5) rfl (by kernel_rfl) (K.dep 2 5 rfl) (Ob.cell (Ob.below m0 (bgo bl K.grow)) 0 rfl)
  · exact st_assign (.tmp 6) rfl (K.dep 3 6 rfl)
  intro f2 w2 A hb
  replace x0 := A.t x0 rfl
  have x2 := A.e 4 2 rfl rfl
  replace bl := bgo bl hb
  replace sd := A.sd sd
  clear A hb
  clear x0
  show Code.wp _ _ _ _ _
  refine wp_ret ?_
  repeat (first | with_reducible refine then_ret ?_ | with_reducible refine block_ret ?_)
  exact bodyPost_ret (v := .int .i64 (s.size : Int)) (ret_slot rfl f2 _ x2 _ _) sd.2 ⟨_, rfl, rfl, bl⟩
theorem fk_dsectors {w : World} {gd : Nat} {M D : Nat → Prop} {s : Dst} (hd : HD w gd M D s) :
    Calls Try.prog 28 #[.pointer (some ⟨gd, 0, none⟩)] w fun e w' => ∃ v, e = .returned v ∧ (Fk.eq (.int .i64 (s.has.length : Int))).f v w' ∧ Below w.heap.size w w' := by
  obtain ⟨sb, cb, C, pl, vs, l, r⟩ := hd
  have m0 := r.ob
  have hnm := r.nmax
  go_enter Try.func28, Try.ntmps28
  refine code_both (fun f w1 => f.tmps.size = 8 ∧ f.defers = [] ∧ f.eval (.tmp 0) = .pointer (some ⟨gd, 0, none⟩) ∧ Below w.heap.size w (w1)) ⟨rfl, rfl, rfl, Below.refl _ _⟩ ?_
  rintro f0 w0 ⟨sz, df, x0, bl⟩
  have sd := And.intro sz df
  clear sz df
  have bl0 := bl
  refine wp_seq ?_
  refine wr_a [.eq (.int .i64 0)] (by rw [sd.1]; kernel_rfl) ⟨fun hw ac u K => ?_, trivial⟩ ?_
  · exact st_assign (.const (.int .i64 0)) rfl rfl
  intro f1 w1 A hb
  replace x0 := A.t x0 rfl
  replace bl := bgo bl hb
  replace sd := A.sd sd
  clear A hb
  show Code.wp _ _ _ _ _
  refine wp_seq ?_
  refine wr_a [.eq (.pointer (some ⟨gd, 0, none⟩)), .eq (.pointer (some ⟨gd, 0, none⟩)), .eq (.pointer (some ⟨gd, 1, none⟩)), .eq (.slice (some ⟨sb, 0, none⟩) s.has.length C), .eq (.int .i64 (s.has.length : Int)), .eq (.int .i64 (s.has.length : Int))] (by rw [sd.1]; kernel_rfl) ⟨fun hw ac u K => ?_, fun hw ac u K => ?_, fun hw ac u K => ?_, fun hw ac u K => ?_, fun hw ac u K => ?_, fun hw ac u K => ?_, trivial⟩ ?_
  · exact st_move (.tmp 0) rfl (K.t x0 rfl)
  · exact st_nil (.tmp 3) rfl (K.dep 0 3 rfl)
  · exact st_field 64 1 (.tmp 4) rfl (K.dep 1 4 rfl) (by kernel_rfl)
  · exact st_loadc 57 (.tmp 5) rfl (by kernel_rfl) (K.dep 2 5 rfl) (Ob.cell (Ob.below m0 (bgo bl K.grow)) 1 rfl)
  · exact st_lenrr (.tmp 6) rfl (K.dep 3 6 rfl)
  · exact st_assign (.tmp 7) rfl (K.dep 4 7 rfl)
  intro f2 w2 A hb
  replace x0 := A.t x0 rfl
  have x2 := A.e 5 2 rfl rfl
  replace bl := bgo bl hb
  replace sd := A.sd sd
  clear A hb
  clear x0
  show Code.wp _ _ _ _ _
  refine wp_ret ?_
  repeat (first | with_reducible refine then_ret ?_ | with_reducible refine block_ret ?_)
  exact bodyPost_ret (v := .int .i64 (s.has.length : Int)) (ret_slot rfl f2 _ x2 _ _) sd.2 ⟨_, rfl, rfl, bl⟩
theorem fk_dhas {w : World} {gd : Nat} {M D : Nat → Prop} {s : Dst} (hd : HD w gd M D s) (i : Int) :
    Calls Try.prog 54 #[.pointer (some ⟨gd, 0, none⟩), .int .i64 i] w fun e w' => ∃ v, e = .returned v ∧ (Fk.eq (.bool (decide (0 ≤ i ∧ i < (s.has.length : Int))))).f v w' ∧ Below w.heap.size w w' := by
  obtain ⟨sb, cb, C, pl, vs, l, r⟩ := hd
  have m0 := r.ob
  have hnm := r.nmax
  go_enter Try.func54, Try.ntmps54
  refine code_both (fun f w1 => f.tmps.size = 16 ∧ f.defers = [] ∧ f.eval (.tmp 0) = .pointer (some ⟨gd, 0, none⟩) ∧ f.eval (.tmp 1) = .int .i64 i ∧ Below w.heap.size w (w1)) ⟨rfl, rfl, rfl, rfl, Below.refl _ _⟩ ?_
  rintro f0 w0 ⟨sz, df, x0, x1, bl⟩
  have sd := And.intro sz df
  clear sz df
  have bl0 := bl
  refine wp_seq ?_
  refine wr_a [.eq (.bool false)] (by rw [sd.1]; kernel_rfl) ⟨fun hw ac u K => ?_, trivial⟩ ?_
  · exact st_assign (.const (.bool false)) rfl rfl
  intro f1 w1 A hb
  replace x0 := A.t x0 rfl
  replace x1 := A.t x1 rfl
  replace bl := bgo bl hb
  replace sd := A.sd sd
  clear A hb
  show Code.wp _ _ _ _ _
  refine wp_seq ?_
  by_cases h0 : 0 ≤ i
  rotate_left
  · skip
    refine wr_a [.eq (.int .i64 i), .eq (.bool false), .eq (.bool false), .any, .any, .any, .any, .any, .any, .any, .eq (.bool false), .eq (.bool false)] (by rw [sd.1]; kernel_rfl) ⟨fun hw ac u K => ?_, fun hw ac u K => ?_, fun hw ac u K => ?_, fun hw ac u K => ?_, fun hw ac u K => ?_, fun hw ac u K => ?_, fun hw ac u K => ?_, fun hw ac u K => ?_, fun hw ac u K => ?_, fun hw ac u K => ?_, fun hw ac u K => ?_, fun hw ac u K => ?_, trivial⟩ ?_
    · exact st_move (.tmp 1) rfl (K.t x1 rfl)
    · exact st_geq 3 (.tmp 5) (.const (.int .i64 0)) rfl .i64 (i) (0) (K.dep 0 5 rfl) rfl _ (by symm; rw [decide_eq_false_iff_not]; exact h0)
    · exact st_move (.tmp 6) rfl (K.dep 1 6 rfl)
    · exact (Bool.false_ne_true hw).elim
    · exact (Bool.false_ne_true hw).elim
    · exact (Bool.false_ne_true hw).elim
    · exact (Bool.false_ne_true hw).elim
    · exact (Bool.false_ne_true hw).elim
    · exact (Bool.false_ne_true hw).elim
    · exact (Bool.false_ne_true hw).elim
    · exact st_pick_f' (.tmp 7) (.tmp 14) (.const (.bool false)) rfl (K.dep 2 7 rfl) rfl
    · exact st_assign (.tmp 15) rfl (K.dep 10 15 rfl)
    intro f2 w2 A hb
    replace x0 := A.t x0 rfl
    replace x1 := A.t x1 rfl
    have x4 := A.e 11 4 rfl rfl
    replace bl := bgo bl hb
    replace sd := A.sd sd
    clear A hb
    clear x0
    clear x1
    show Code.wp _ _ _ _ _
    refine wp_ret ?_
    repeat (first | with_reducible refine then_ret ?_ | with_reducible refine block_ret ?_)
    exact bodyPost_ret (v := .bool false) (ret_slot rfl f2 _ x4 _ _) sd.2 ⟨_, rfl, by show Value.bool false = Value.bool (decide (0 ≤ i ∧ i < (s.has.length : Int))); congr 1; rw [eq_comm, decide_eq_false_iff_not]; exact fun h => h0 h.1, bl⟩
  by_cases h1 : i < (s.has.length : Int)
  rotate_left
  · skip
    refine wr_a [.eq (.int .i64 i), .eq (.bool true), .eq (.bool true), .eq (.int .i64 i), .eq (.pointer (some ⟨gd, 0, none⟩)), .eq (.pointer (some ⟨gd, 0, none⟩)), .eq (.pointer (some ⟨gd, 1, none⟩)), .eq (.slice (some ⟨sb, 0, none⟩) s.has.length C), .eq (.int .i64 (s.has.length : Int)), .eq (.bool false), .eq (.bool false), .eq (.bool false)] (by rw [sd.1]; kernel_rfl) ⟨fun hw ac u K => ?_, fun hw ac u K => ?_, fun hw ac u K => ?_, fun hw ac u K => ?_, fun hw ac u K => ?_, fun hw ac u K => ?_, fun hw ac u K => ?_, fun hw ac u K => ?_, fun hw ac u K => ?_, fun hw ac u K => ?_, fun hw ac u K => ?_, fun hw ac u K => ?_, trivial⟩ ?_
    · exact st_move (.tmp 1) rfl (K.t x1 rfl)
    · exact st_geq 3 (.tmp 5) (.const (.int .i64 0)) rfl .i64 (i) (0) (K.dep 0 5 rfl) rfl _ (by symm; rw [decide_eq_true_iff]; exact h0)
    · exact st_move (.tmp 6) rfl (K.dep 1 6 rfl)
    · exact st_move (.tmp 1) rfl (K.t x1 rfl)
    · exact st_move (.tmp 0) rfl (K.t x0 rfl)
    · exact st_nil (.tmp 9) rfl (K.dep 4 9 rfl)
    · exact st_field 64 1 (.tmp 10) rfl (K.dep 5 10 rfl) (by kernel_rfl)
    · exact st_loadc 57 (.tmp 11) rfl (by kernel_rfl) (K.dep 6 11 rfl) (Ob.cell (Ob.below m0 (bgo bl K.grow)) 1 rfl)
    · exact st_lenrr (.tmp 12) rfl (K.dep 7 12 rfl)
    · exact st_lss 3 (.tmp 8) (.tmp 13) rfl .i64 (i) ((s.has.length : Int)) (K.dep 3 8 rfl) (K.dep 8 13 rfl) _ (by symm; rw [decide_eq_false_iff_not]; exact h1)
    · exact st_pick_t (.tmp 7) (.tmp 14) (.const (.bool false)) rfl (K.dep 2 7 rfl) (K.dep 9 14 rfl)
    · exact st_assign (.tmp 15) rfl (K.dep 10 15 rfl)
    intro f2 w2 A hb
    replace x0 := A.t x0 rfl
    replace x1 := A.t x1 rfl
    have x4 := A.e 11 4 rfl rfl
    replace bl := bgo bl hb
    replace sd := A.sd sd
    clear A hb
    clear x0
    clear x1
    show Code.wp _ _ _ _ _
    refine wp_ret ?_
    repeat (first | with_reducible refine then_ret ?_ | with_reducible refine block_ret ?_)
    exact bodyPost_ret (v := .bool false) (ret_slot rfl f2 _ x4 _ _) sd.2 ⟨_, rfl, by show Value.bool false = Value.bool (decide (0 ≤ i ∧ i < (s.has.length : Int))); congr 1; rw [eq_comm, decide_eq_false_iff_not]; exact fun h => h1 h.2, bl⟩
  refine wr_a [.eq (.int .i64 i), .eq (.bool true), .eq (.bool true), .eq (.int .i64 i), .eq (.pointer (some ⟨gd, 0, none⟩)), .eq (.pointer (some ⟨gd, 0, none⟩)), .eq (.pointer (some ⟨gd, 1, none⟩)), .eq (.slice (some ⟨sb, 0, none⟩) s.has.length C), .eq (.int .i64 (s.has.length : Int)), .eq (.bool true), .eq (.bool true), .eq (.bool true)] (by rw [sd.1]; kernel_rfl) ⟨fun hw ac u K => ?_, fun hw ac u K => ?_, fun hw ac u K => ?_, fun hw ac u K => ?_, fun hw ac u K => ?_, fun hw ac u K => ?_, fun hw ac u K => ?_, fun hw ac u K => ?_, fun hw ac u K => ?_, fun hw ac u K => ?_, fun hw ac u K => ?_, fun hw ac u K => ?_, trivial⟩ ?_
  · exact st_move (.tmp 1) rfl (K.t x1 rfl)
  · exact st_geq 3 (.tmp 5) (.const (.int .i64 0)) rfl .i64 (i) (0) (K.dep 0 5 rfl) rfl _ (by symm; rw [decide_eq_true_iff]; exact h0)
  · exact st_move (.tmp 6) rfl (K.dep 1 6 rfl)
  · exact st_move (.tmp 1) rfl (K.t x1 rfl)
  · exact st_move (.tmp 0) rfl (K.t x0 rfl)
  · exact st_nil (.tmp 9) rfl (K.dep 4 9 rfl)
  · exact st_field 64 1 (.tmp 10) rfl (K.dep 5 10 rfl) (by kernel_rfl)
  · exact st_loadc 57 (.tmp 11) rfl (by kernel_rfl) (K.dep 6 11 rfl) (Ob.cell (Ob.below m0 (bgo bl K.grow)) 1 rfl)
  · exact st_lenrr (.tmp 12) rfl (K.dep 7 12 rfl)
  · exact st_lss 3 (.tmp 8) (.tmp 13) rfl .i64 (i) ((s.has.length : Int)) (K.dep 3 8 rfl) (K.dep 8 13 rfl) _ (by symm; rw [decide_eq_true_iff]; exact h1)
  · exact st_pick_t (.tmp 7) (.tmp 14) (.const (.bool false)) rfl (K.dep 2 7 rfl) (K.dep 9 14 rfl)
  · exact st_assign (.tmp 15) rfl (K.dep 10 15 rfl)
  intro f2 w2 A hb
  replace x0 := A.t x0 rfl
  replace x1 := A.t x1 rfl
  have x4 := A.e 11 4 rfl rfl
  replace bl := bgo bl hb
  replace sd := A.sd sd
  clear A hb
  clear x0
  clear x1
  show Code.wp _ _ _ _ _
  refine wp_ret ?_
  repeat (first | with_reducible refine then_ret ?_ | with_reducible refine block_ret ?_)
  exact bodyPost_ret (v := .bool true) (ret_slot rfl f2 _ x4 _ _) sd.2 ⟨_, rfl, by show Value.bool true = Value.bool (decide (0 ≤ i ∧ i < (s.has.length : Int))); congr 1; rw [eq_comm, decide_eq_true_iff]; exact ⟨h0, h1⟩, bl⟩
theorem fk_dfits {w : World} {gd : Nat} {M D : Nat → Prop} {s : Dst} (hd : HD w gd M D s) (i : Int) {b : List (BitVec 8)} {vb : Value} (hb : (Fk.sl b).f vb w) :
    Calls Try.prog 78 #[.pointer (some ⟨gd, 0, none⟩), .int .i64 i, vb] w fun e w' => ∃ v, e = .returned v ∧ (Fk.eq (.int .i64 (ft s i b))).f v w' ∧ Below w.heap.size w w' := by
  have hd0 := hd
  obtain ⟨sb, cb, C, pl, vs, l, r⟩ := hd
  have m0 := r.ob
  have hnm := r.nmax
  go_enter Try.func78, Try.ntmps78
  refine code_both (fun f w1 => f.tmps.size = 18 ∧ f.defers = [] ∧ f.eval (.tmp 0) = .pointer (some ⟨gd, 0, none⟩) ∧ f.eval (.tmp 1) = .int .i64 i ∧ f.eval (.tmp 2) = vb ∧ Below w.heap.size w (w1)) ⟨rfl, rfl, rfl, rfl, rfl, Below.refl _ _⟩ ?_
  rintro f0 w0 ⟨sz, df, x0, x1, x2, bl⟩
  have sd := And.intro sz df
  clear sz df
  have bl0 := bl
  refine wp_seq ?_
  refine wr_a [.eq (.int .i64 0)] (by rw [sd.1]; kernel_rfl) ⟨fun hw ac u K => ?_, trivial⟩ ?_
  · exact st_assign (.const (.int .i64 0)) rfl rfl
  intro f1 w1 A hb
  replace x0 := A.t x0 rfl
  replace x1 := A.t x1 rfl
  replace x2 := A.t x2 rfl
  replace bl := bgo bl hb
  replace sd := A.sd sd
  clear A hb
  show Code.wp _ _ _ _ _
  refine wp_seq ?_
  refine wp_seq ?_
  by_cases h0 : i < 0 ∨ (s.has.length : Int) ≤ i
  rotate_left
  · skip
    by_cases h1 : b.length = s.size
    rotate_left
    · skip
      refine wr_a [.eq (.pointer (some ⟨gd, 0, none⟩)), .eq (.int .i64 i), .eq (.bool true), .eq (.bool false)] (by rw [sd.1]; kernel_rfl) ⟨fun hw ac u K => ?_, fun hw ac u K => ?_, fun hw ac u K => ?_, fun hw ac u K => ?_, trivial⟩ ?_
      · exact st_move (.tmp 0) rfl (K.t x0 rfl)
      · exact st_move (.tmp 1) rfl (K.t x1 rfl)
      · exact st_call 54 (.func 54) _ _ _ rfl rfl (arg2 (K.dep 0 7 rfl) (K.dep 1 8 rfl)) Try.enter54 ((show Calls Try.prog 54 #[.pointer (some ⟨gd, 0, none⟩), .int .i64 i] u (fun e w' => ∃ v, e = .returned v ∧ (Fk.eq (.bool true)).f v w' ∧ Below u.heap.size u w') from by have := fk_dhas (HD.below hd0 (bgo bl K.grow)) i; rw [show (decide (0 ≤ i ∧ i < (s.has.length : Int))) = true from by rw [decide_eq_true_iff]; omega] at this; exact this))
      · exact st_not (.tmp 9) rfl true (K.dep 2 9 rfl)
      intro f2 w2 A hb
      replace x0 := A.t x0 rfl
      replace x1 := A.t x1 rfl
      replace x2 := A.t x2 rfl
      have x10 := A.e 3 10 rfl rfl
      replace bl := bgo bl hb
      replace sd := A.sd sd
      clear A hb
      clear x1
      show Code.wp _ _ _ _ _
      refine wp_cond_false x10 ?_
      refine wp_skip ?_
      show Code.wp _ _ _ _ _
      refine wp_seq ?_
      refine wp_seq ?_
      refine wr_a [.eq (vb), .eq (.int .i64 (b.length : Int)), .eq (.pointer (some ⟨gd, 0, none⟩)), .eq (.pointer (some ⟨gd, 0, none⟩)), .eq (.pointer (some ⟨gd, 0, none⟩)), .eq (.int .i64 (s.size : Int)), .eq (.bool true)] (by rw [sd.1]; kernel_rfl) ⟨fun hw ac u K => ?_, fun hw ac u K => ?_, fun hw ac u K => ?_, fun hw ac u K => ?_, fun hw ac u K => ?_, fun hw ac u K => ?_, fun hw ac u K => ?_, trivial⟩ ?_
      · exact st_move (.tmp 2) rfl (K.t x2 rfl)
      · exact st_lenb (.tmp 11) rfl (fk_val (K.dep 0 11 rfl) (Fk.mono _ _ _ _ hb (bgo bl K.grow)))
      · exact st_move (.tmp 0) rfl (K.t x0 rfl)
      · exact st_nil (.tmp 13) rfl (K.dep 2 13 rfl)
      · exact st_field 64 0 (.tmp 14) rfl (K.dep 3 14 rfl) (by kernel_rfl)
      · exact st_loadc 3 (.tmp 15) rfl (by kernel_rfl) (K.dep 4 15 rfl) (Ob.cell (Ob.below m0 (bgo bl K.grow)) 0 rfl)
      · exact st_neqi 3 (.tmp 12) (.tmp 16) rfl .i64 ((b.length : Int)) ((s.size : Int)) (K.dep 1 12 rfl) (K.dep 5 16 rfl) _ (by rw [eq_comm, decide_eq_true_iff]; omega)
      intro f3 w3 A hb
      replace x0 := A.t x0 rfl
      replace x2 := A.t x2 rfl
      replace x10 := A.t x10 rfl
      have x17 := A.e 6 17 rfl rfl
      replace bl := bgo bl hb
      replace sd := A.sd sd
      clear A hb
      clear x0
      clear x2
      clear x10
      show Code.wp _ _ _ _ _
      refine wp_cond_true x17 ?_
      refine wp_seq ?_
      refine wr_a [.eq (.int .i64 10)] (by rw [sd.1]; kernel_rfl) ⟨fun hw ac u K => ?_, trivial⟩ ?_
      · exact st_assign (.const (.int .i64 10)) rfl rfl
      intro f4 w4 A hb
      replace x17 := A.t x17 rfl
      have x6 := A.e 0 6 rfl rfl
      replace bl := bgo bl hb
      replace sd := A.sd sd
      clear A hb
      clear x17
      show Code.wp _ _ _ _ _
      refine wp_ret ?_
      repeat (first | with_reducible refine then_ret ?_ | with_reducible refine block_ret ?_)
      exact bodyPost_ret (v := .int .i64 10) (ret_slot rfl f4 _ x6 _ _) sd.2 ⟨_, rfl, by show Value.int .i64 10 = Value.int .i64 (ft s i b); congr 1; unfold ft; rw [if_neg h0, if_pos h1], bl⟩
    refine wr_a [.eq (.pointer (some ⟨gd, 0, none⟩)), .eq (.int .i64 i), .eq (.bool true), .eq (.bool false)] (by rw [sd.1]; kernel_rfl) ⟨fun hw ac u K => ?_, fun hw ac u K => ?_, fun hw ac u K => ?_, fun hw ac u K => ?_, trivial⟩ ?_
    · exact st_move (.tmp 0) rfl (K.t x0 rfl)
    · exact st_move (.tmp 1) rfl (K.t x1 rfl)
    · exact st_call 54 (.func 54) _ _ _ rfl rfl (arg2 (K.dep 0 7 rfl) (K.dep 1 8 rfl)) Try.enter54 ((show Calls Try.prog 54 #[.pointer (some ⟨gd, 0, none⟩), .int .i64 i] u (fun e w' => ∃ v, e = .returned v ∧ (Fk.eq (.bool true)).f v w' ∧ Below u.heap.size u w') from by have := fk_dhas (HD.below hd0 (bgo bl K.grow)) i; rw [show (decide (0 ≤ i ∧ i < (s.has.length : Int))) = true from by rw [decide_eq_true_iff]; omega] at this; exact this))
    · exact st_not (.tmp 9) rfl true (K.dep 2 9 rfl)
    intro f2 w2 A hb
    replace x0 := A.t x0 rfl
    replace x1 := A.t x1 rfl
    replace x2 := A.t x2 rfl
    have x10 := A.e 3 10 rfl rfl
    replace bl := bgo bl hb
    replace sd := A.sd sd
    clear A hb
    clear x1
    show Code.wp _ _ _ _ _
    refine wp_cond_false x10 ?_
    refine wp_skip ?_
    show Code.wp _ _ _ _ _
    refine wp_seq ?_
    refine wp_seq ?_
    refine wr_a [.eq (vb), .eq (.int .i64 (b.length : Int)), .eq (.pointer (some ⟨gd, 0, none⟩)), .eq (.pointer (some ⟨gd, 0, none⟩)), .eq (.pointer (some ⟨gd, 0, none⟩)), .eq (.int .i64 (s.size : Int)), .eq (.bool false)] (by rw [sd.1]; kernel_rfl) ⟨fun hw ac u K => ?_, fun hw ac u K => ?_, fun hw ac u K => ?_, fun hw ac u K => ?_, fun hw ac u K => ?_, fun hw ac u K => ?_, fun hw ac u K => ?_, trivial⟩ ?_
    · exact st_move (.tmp 2) rfl (K.t x2 rfl)
    · exact st_lenb (.tmp 11) rfl (fk_val (K.dep 0 11 rfl) (Fk.mono _ _ _ _ hb (bgo bl K.grow)))
    · exact st_move (.tmp 0) rfl (K.t x0 rfl)
    · exact st_nil (.tmp 13) rfl (K.dep 2 13 rfl)
    · exact st_field 64 0 (.tmp 14) rfl (K.dep 3 14 rfl) (by kernel_rfl)
    · exact st_loadc 3 (.tmp 15) rfl (by kernel_rfl) (K.dep 4 15 rfl) (Ob.cell (Ob.below m0 (bgo bl K.grow)) 0 rfl)
    · exact st_neqi 3 (.tmp 12) (.tmp 16) rfl .i64 ((b.length : Int)) ((s.size : Int)) (K.dep 1 12 rfl) (K.dep 5 16 rfl) _ (by rw [h1]; simp)
    intro f3 w3 A hb
    replace x0 := A.t x0 rfl
    replace x2 := A.t x2 rfl
    replace x10 := A.t x10 rfl
    have x17 := A.e 6 17 rfl rfl
    replace bl := bgo bl hb
    replace sd := A.sd sd
    clear A hb
    clear x0
    clear x2
    clear x10
    show Code.wp _ _ _ _ _
    refine wp_cond_false x17 ?_
    refine wp_skip ?_
    show Code.wp _ _ _ _ _
    refine wp_seq ?_
    refine wr_a [.eq (.int .i64 0)] (by rw [sd.1]; kernel_rfl) ⟨fun hw ac u K => ?_, trivial⟩ ?_
    · exact st_assign (.const (.int .i64 0)) rfl rfl
    intro f4 w4 A hb
    replace x17 := A.t x17 rfl
    have x6 := A.e 0 6 rfl rfl
    replace bl := bgo bl hb
    replace sd := A.sd sd
    clear A hb
    clear x17
    show Code.wp _ _ _ _ _
    refine wp_ret ?_
    repeat (first | with_reducible refine then_ret ?_ | with_reducible refine block_ret ?_)
    exact bodyPost_ret (v := .int .i64 0) (ret_slot rfl f4 _ x6 _ _) sd.2 ⟨_, rfl, by show Value.int .i64 0 = Value.int .i64 (ft s i b); congr 1; unfold ft; rw [if_neg h0, if_neg (fun h => h h1)], bl⟩
  refine wr_a [.eq (.pointer (some ⟨gd, 0, none⟩)), .eq (.int .i64 i), .eq (.bool false), .eq (.bool true)] (by rw [sd.1]; kernel_rfl) ⟨fun hw ac u K => ?_, fun hw ac u K => ?_, fun hw ac u K => ?_, fun hw ac u K => ?_, trivial⟩ ?_
  · exact st_move (.tmp 0) rfl (K.t x0 rfl)
  · exact st_move (.tmp 1) rfl (K.t x1 rfl)
  · exact st_call 54 (.func 54) _ _ _ rfl rfl (arg2 (K.dep 0 7 rfl) (K.dep 1 8 rfl)) Try.enter54 ((show Calls Try.prog 54 #[.pointer (some ⟨gd, 0, none⟩), .int .i64 i] u (fun e w' => ∃ v, e = .returned v ∧ (Fk.eq (.bool false)).f v w' ∧ Below u.heap.size u w') from by have := fk_dhas (HD.below hd0 (bgo bl K.grow)) i; rw [show (decide (0 ≤ i ∧ i < (s.has.length : Int))) = false from by rw [decide_eq_false_iff_not]; omega] at this; exact this))
  · exact st_not (.tmp 9) rfl false (K.dep 2 9 rfl)
  intro f2 w2 A hb
  replace x0 := A.t x0 rfl
  replace x1 := A.t x1 rfl
  replace x2 := A.t x2 rfl
  have x10 := A.e 3 10 rfl rfl
  replace bl := bgo bl hb
  replace sd := A.sd sd
  clear A hb
  clear x1
  show Code.wp _ _ _ _ _
  refine wp_cond_true x10 ?_
  refine wp_seq ?_
  refine wr_a [.eq (.int .i64 11)] (by rw [sd.1]; kernel_rfl) ⟨fun hw ac u K => ?_, trivial⟩ ?_
  · exact st_assign (.const (.int .i64 11)) rfl rfl
  intro f3 w3 A hb
  replace x0 := A.t x0 rfl
  replace x2 := A.t x2 rfl
  replace x10 := A.t x10 rfl
  have x6 := A.e 0 6 rfl rfl
  replace bl := bgo bl hb
  replace sd := A.sd sd
  clear A hb
  clear x0
  clear x2
  clear x10
  show Code.wp _ _ _ _ _
  refine wp_ret ?_
  repeat (first | with_reducible refine then_ret ?_ | with_reducible refine block_ret ?_)
  exact bodyPost_ret (v := .int .i64 11) (ret_slot rfl f3 _ x6 _ _) sd.2 ⟨_, rfl, by show Value.int .i64 11 = Value.int .i64 (ft s i b); congr 1; unfold ft; rw [if_pos h0], bl⟩
section
variable {Q : Exit → Act → World → Prop} {o : Oper} {a : Act} {w : World}
theorem st_lookv {x y : Operand} (ho : o.op = .lookup 59 x y true) {cb : Nat} {l : List (Int × Value)} (hx : a.eval x = .map (some cb)) (hm : Im w cb l) {i : Int} (hy : a.eval y = .int .i64 i) (hi : (Lit.int .i64 i).wf = true) {u : Value} (hu : Value.tuple #[(mget l i).getD (.slice none 0 0), .bool (mget l i).isSome] = u) : o.wp Try.prog a w (Ends a o.dst w (Fk.eq u).f) Q := by
  subst hu
  exact st_look x y ho hx hm hy hi
end
theorem fk_dat {w : World} {gd : Nat} {M D : Nat → Prop} {s : Dst} (hd : HD w gd M D s) {j : Nat} (hj : j < s.has.length) :
    Calls Try.prog 56 #[.pointer (some ⟨gd, 0, none⟩), .int .i64 (j : Int)] w fun e w' => ∃ v, e = .returned v ∧ (Fk.sl (nowd s j)).f v w' ∧ Below w.heap.size w w' := by
  obtain ⟨sb, cb, C, pl, vs, l, r⟩ := hd
  have m0 := r.ob
  have hnm := r.nmax
  go_enter Try.func56, Try.ntmps56
  refine code_both (fun f w1 => f.tmps.size = 25 ∧ f.defers = [] ∧ f.eval (.tmp 0) = .pointer (some ⟨gd, 0, none⟩) ∧ f.eval (.tmp 1) = .int .i64 (j : Int) ∧ Below w.heap.size w (w1)) ⟨rfl, rfl, rfl, rfl, Below.refl _ _⟩ ?_
  rintro f0 w0 ⟨sz, df, x0, x1, bl⟩
  have sd := And.intro sz df
  clear sz df
  have bl0 := bl
  refine wp_seq ?_
  refine wr_a [.eq (.slice none 0 0)] (by rw [sd.1]; kernel_rfl) ⟨fun hw ac u K => ?_, trivial⟩ ?_
  · exact st_assign (.const (.slice none 0 0)) rfl rfl
  intro f1 w1 A hb
  replace x0 := A.t x0 rfl
  replace x1 := A.t x1 rfl
  replace bl := bgo bl hb
  replace sd := A.sd sd
  clear A hb
  show Code.wp _ _ _ _ _
  refine wp_seq ?_
  refine wp_seq ?_
  cases hq : mget l (j : Int)
  rotate_left
  · skip
    rename_i v
    obtain ⟨bs, hbs⟩ : ∃ y, s.has[j]? = some y := ⟨_, List.getElem?_eq_getElem hj⟩
    obtain ⟨bc, hbc⟩ : ∃ y, s.cch[j]? = some y := ⟨_, List.getElem?_eq_getElem (by rw [r.cl]; exact hj)⟩
    obtain ⟨hbe, hz⟩ := r.got hbc hq
    refine wr_a [.eq (.pointer (some ⟨gd, 0, none⟩)), .eq (.pointer (some ⟨gd, 0, none⟩)), .eq (.pointer (some ⟨gd, 2, none⟩)), .eq (.map (some cb)), .eq (.int .i64 (j : Int)), .eq (.tuple #[v, .bool true]), .eq (.tuple #[v, .bool true]), .eq (v), .eq (.bool true), .eq (v), .eq (.bool true)] (by rw [sd.1]; kernel_rfl) ⟨fun hw ac u K => ?_, fun hw ac u K => ?_, fun hw ac u K => ?_, fun hw ac u K => ?_, fun hw ac u K => ?_, fun hw ac u K => ?_, fun hw ac u K => ?_, fun hw ac u K => ?_, fun hw ac u K => ?_, fun hw ac u K => ?_, fun hw ac u K => ?_, trivial⟩ ?_
    · exact st_move (.tmp 0) rfl (K.t x0 rfl)
    · exact st_nil (.tmp 8) rfl (K.dep 0 8 rfl)
    · exact st_field 64 2 (.tmp 9) rfl (K.dep 1 9 rfl) (by kernel_rfl)
    · exact st_loadc 59 (.tmp 10) rfl (by kernel_rfl) (K.dep 2 10 rfl) (Ob.cell (Ob.below m0 (bgo bl K.grow)) 2 rfl)
    · exact st_move (.tmp 1) rfl (K.t x1 rfl)
    · exact st_lookv rfl (K.dep 3 11 rfl) (Im.below r.im (bgo bl K.grow)) (K.dep 4 12 rfl) (wf_nat (by omega)) (by rw [hq]; rfl)
    · exact st_move (.tmp 13) rfl (K.dep 5 13 rfl)
    · exact st_ext0 (.tmp 7) rfl (K.dep 6 7 rfl) rfl
    · exact st_ext1 (.tmp 7) rfl (K.dep 6 7 rfl) rfl
    · exact st_assign (.tmp 14) rfl (K.dep 7 14 rfl)
    · exact st_assign (.tmp 15) rfl (K.dep 8 15 rfl)
    intro f2 w2 A hb
    replace x0 := A.t x0 rfl
    replace x1 := A.t x1 rfl
    have x5 := A.e 9 5 rfl rfl
    have x6 := A.e 10 6 rfl rfl
    replace bl := bgo bl hb
    replace sd := A.sd sd
    clear A hb
    show Code.wp _ _ _ _ _
    refine wp_seq ?_
    refine wr_a [.eq (.bool true)] (by rw [sd.1]; kernel_rfl) ⟨fun hw ac u K => ?_, trivial⟩ ?_
    · exact st_move (.tmp 6) rfl (K.t x6 rfl)
    intro f3 w3 A hb
    replace x0 := A.t x0 rfl
    replace x1 := A.t x1 rfl
    replace x5 := A.t x5 rfl
    replace x6 := A.t x6 rfl
    have x16 := A.e 0 16 rfl rfl
    replace bl := bgo bl hb
    replace sd := A.sd sd
    clear A hb
    clear x6
    show Code.wp _ _ _ _ _
    refine wp_cond_true x16 ?_
    refine wp_seq ?_
    refine wr_a [.eq (v), .eq (v)] (by rw [sd.1]; kernel_rfl) ⟨fun hw ac u K => ?_, fun hw ac u K => ?_, trivial⟩ ?_
    · exact st_move (.tmp 5) rfl (K.t x5 rfl)
    · exact st_assign (.tmp 17) rfl (K.dep 0 17 rfl)
    intro f4 w4 A hb
    replace x0 := A.t x0 rfl
    replace x1 := A.t x1 rfl
    replace x5 := A.t x5 rfl
    replace x16 := A.t x16 rfl
    have x4 := A.e 1 4 rfl rfl
    replace bl := bgo bl hb
    replace sd := A.sd sd
    clear A hb
    clear x0
    clear x1
    clear x5
    clear x16
    show Code.wp _ _ _ _ _
    refine wp_ret ?_
    repeat (first | with_reducible refine then_ret ?_ | with_reducible refine block_ret ?_)
    refine bodyPost_ret (v := v) (ret_slot rfl f4 _ x4 _ _) sd.2 ⟨_, rfl, ?_, bl⟩
    have : nowd s j = bc := by unfold nowd; rw [List.getD_eq_getElem?_getD, List.getD_eq_getElem?_getD, hbs, hbc]; show (if bc = [] then bs else bc) = bc; rw [if_neg hbe]
    rw [this]; exact Fk.mono _ _ _ _ hz.sl bl
  obtain ⟨bs, hbs⟩ : ∃ y, s.has[j]? = some y := ⟨_, List.getElem?_eq_getElem hj⟩
  obtain ⟨bc, hbc⟩ : ∃ y, s.cch[j]? = some y := ⟨_, List.getElem?_eq_getElem (by rw [r.cl]; exact hj)⟩
  obtain ⟨_, v, hv, hz⟩ := r.sec j bs hbs
  have hbe := (r.none_iff hbc).2 hq
  refine wr_a [.eq (.pointer (some ⟨gd, 0, none⟩)), .eq (.pointer (some ⟨gd, 0, none⟩)), .eq (.pointer (some ⟨gd, 2, none⟩)), .eq (.map (some cb)), .eq (.int .i64 (j : Int)), .eq (.tuple #[.slice none 0 0, .bool false]), .eq (.tuple #[.slice none 0 0, .bool false]), .eq (.slice none 0 0), .eq (.bool false), .eq (.slice none 0 0), .eq (.bool false)] (by rw [sd.1]; kernel_rfl) ⟨fun hw ac u K => ?_, fun hw ac u K => ?_, fun hw ac u K => ?_, fun hw ac u K => ?_, fun hw ac u K => ?_, fun hw ac u K => ?_, fun hw ac u K => ?_, fun hw ac u K => ?_, fun hw ac u K => ?_, fun hw ac u K => ?_, fun hw ac u K => ?_, trivial⟩ ?_
  · exact st_move (.tmp 0) rfl (K.t x0 rfl)
  · exact st_nil (.tmp 8) rfl (K.dep 0 8 rfl)
  · exact st_field 64 2 (.tmp 9) rfl (K.dep 1 9 rfl) (by kernel_rfl)
  · exact st_loadc 59 (.tmp 10) rfl (by kernel_rfl) (K.dep 2 10 rfl) (Ob.cell (Ob.below m0 (bgo bl K.grow)) 2 rfl)
  · exact st_move (.tmp 1) rfl (K.t x1 rfl)
  · exact st_lookv rfl (K.dep 3 11 rfl) (Im.below r.im (bgo bl K.grow)) (K.dep 4 12 rfl) (wf_nat (by omega)) (by rw [hq]; rfl)
  · exact st_move (.tmp 13) rfl (K.dep 5 13 rfl)
  · exact st_ext0 (.tmp 7) rfl (K.dep 6 7 rfl) rfl
  · exact st_ext1 (.tmp 7) rfl (K.dep 6 7 rfl) rfl
  · exact st_assign (.tmp 14) rfl (K.dep 7 14 rfl)
  · exact st_assign (.tmp 15) rfl (K.dep 8 15 rfl)
  intro f2 w2 A hb
  replace x0 := A.t x0 rfl
  replace x1 := A.t x1 rfl
  have x5 := A.e 9 5 rfl rfl
  have x6 := A.e 10 6 rfl rfl
  replace bl := bgo bl hb
  replace sd := A.sd sd
  clear A hb
  show Code.wp _ _ _ _ _
  refine wp_seq ?_
  refine wr_a [.eq (.bool false)] (by rw [sd.1]; kernel_rfl) ⟨fun hw ac u K => ?_, trivial⟩ ?_
  · exact st_move (.tmp 6) rfl (K.t x6 rfl)
  intro f3 w3 A hb
  replace x0 := A.t x0 rfl
  replace x1 := A.t x1 rfl
  replace x5 := A.t x5 rfl
  replace x6 := A.t x6 rfl
  have x16 := A.e 0 16 rfl rfl
  replace bl := bgo bl hb
  replace sd := A.sd sd
  clear A hb
  clear x6
  show Code.wp _ _ _ _ _
  refine wp_cond_false x16 ?_
  refine wp_skip ?_
  show Code.wp _ _ _ _ _
  refine wp_seq ?_
  refine wr_a [.eq (.pointer (some ⟨gd, 0, none⟩)), .eq (.pointer (some ⟨gd, 0, none⟩)), .eq (.pointer (some ⟨gd, 1, none⟩)), .eq (.slice (some ⟨sb, 0, none⟩) s.has.length C), .eq (.int .i64 (j : Int)), .eq (.pointer (some ⟨sb, j, none⟩)), .eq (v), .eq (v)] (by rw [sd.1]; kernel_rfl) ⟨fun hw ac u K => ?_, fun hw ac u K => ?_, fun hw ac u K => ?_, fun hw ac u K => ?_, fun hw ac u K => ?_, fun hw ac u K => ?_, fun hw ac u K => ?_, fun hw ac u K => ?_, trivial⟩ ?_
  · exact st_move (.tmp 0) rfl (K.t x0 rfl)
  · exact st_nil (.tmp 18) rfl (K.dep 0 18 rfl)
  · exact st_field 64 1 (.tmp 19) rfl (K.dep 1 19 rfl) (by kernel_rfl)
  · exact st_loadc 57 (.tmp 20) rfl (by kernel_rfl) (K.dep 2 20 rfl) (Ob.cell (Ob.below m0 (bgo bl K.grow)) 1 rfl)
  · exact st_move (.tmp 1) rfl (K.t x1 rfl)
  · exact st_idxr (.tmp 21) (.tmp 22) rfl (K.dep 3 21 rfl) j (K.dep 4 22 rfl) hj
  · exact st_loadc 35 (.tmp 23) rfl (by kernel_rfl) (K.dep 5 23 rfl) (cell_grow (by simp only [World.cell?, r.row]; exact hv) (bgo bl K.grow))
  · exact st_assign (.tmp 24) rfl (K.dep 6 24 rfl)
  intro f4 w4 A hb
  replace x0 := A.t x0 rfl
  replace x1 := A.t x1 rfl
  replace x5 := A.t x5 rfl
  replace x16 := A.t x16 rfl
  have x4 := A.e 7 4 rfl rfl
  replace bl := bgo bl hb
  replace sd := A.sd sd
  clear A hb
  clear x0
  clear x1
  clear x5
  clear x16
  show Code.wp _ _ _ _ _
  refine wp_ret ?_
  repeat (first | with_reducible refine then_ret ?_ | with_reducible refine block_ret ?_)
  refine bodyPost_ret (v := v) (ret_slot rfl f4 _ x4 _ _) sd.2 ⟨_, rfl, ?_, bl⟩
  have : nowd s j = bs := by unfold nowd; rw [List.getD_eq_getElem?_getD, List.getD_eq_getElem?_getD, hbs, hbc]; show (if bc = [] then bs else bc) = bs; rw [if_pos hbe]
  rw [this]; exact Fk.mono _ _ _ _ hz.sl bl
end Go.Proofs.Ytakdpkoigijonaa
namespace Go.Proofs.Ytakdpkoigijonaa
set_option maxRecDepth 100000
open Go.RowKit
theorem nil_no8 (ad : Addr) (n C : Nat) (w : World) {x y : Operand} : (do eqGuard .eql 35 x y (.slice (some ad) n C) (.slice none 0 0); binOp .eql 35 (.slice (some ad) n C) (.slice none 0 0) : Sem Value).run Try.prog w = .ok (.bool false) w := by
  have h := Lib.run_eql_slice_nil (P := Try.prog) w 35 5 (some ad) n C 0 0 Try.under35
  simp only [eqGuard, Sem.run_bind]
  exact h
theorem nil_noR (ad : Addr) (n C : Nat) (w : World) {x y : Operand} : (do eqGuard .eql 57 x y (.slice (some ad) n C) (.slice none 0 0); binOp .eql 57 (.slice (some ad) n C) (.slice none 0 0) : Sem Value).run Try.prog w = .ok (.bool false) w := by
  have h := Lib.run_eql_slice_nil (P := Try.prog) w 57 35 (some ad) n C 0 0 Try.under57q
  simp only [eqGuard, Sem.run_bind]
  exact h
/-- Bytes of its own, not none: where they lie. -/
theorem orw_fz {B : Nat} {bs : List (BitVec 8)} {v : Value} {w : World} (h : (Fk.orw B 5 1 bs.length (bs.map V)).f v w) (hp : 0 < bs.length) : ∃ g C, v = .slice (some ⟨g, 0, none⟩) bs.length C ∧ B ≤ g ∧ Wb w g bs.length ∧ Fz w (fun b => b = g) v bs := by
  obtain ⟨h1, h2⟩ := h
  rcases h2 with ⟨rfl, h2⟩ | ⟨g, cap, cur, rfl, hB, hg, hcap, _, hcs, ht⟩
  · omega
  · have hcell : ∀ i, i < bs.length → cur[i]? = some (V (bs.getD i 0)) := fun i hi => by
      have e := congrArg (·[i]?) ht
      simp only [List.getElem?_take, if_pos (show i < bs.length * 1 by omega), Array.getElem?_toList, List.getElem?_map, List.getElem?_eq_getElem hi] at e
      rw [e, List.getD_eq_getElem?_getD, List.getElem?_eq_getElem hi]
      rfl
    refine ⟨g, cap, rfl, hB, ⟨cur, hg, by rw [hcs]; omega, fun i hi => ⟨_, hcell i hi⟩⟩, g, cap, 0, rfl, hcap, hp, rfl, (Array.getElem?_eq_some_iff.1 hg).1, fun i hi => ?_⟩
    simp only [World.cell?, hg, Nat.zero_add]
    exact hcell i hi
theorem Fr.of_below {S : Nat → Prop} {w w' : World} (h : Below w.heap.size w w') : Fr S w w' := ⟨h.os, h.tape, h.output, h.size, fun j hj _ => h.block j hj⟩
theorem clone8_some {bs : List (BitVec 8)} {ad : Addr} {n C : Nat} (hp : 0 < bs.length) (hN : bs.length ≤ 100000) (w : World) (hv : (Fk.sl bs).f (.slice (some ad) n C) w) :
    Calls Try.prog 55 #[.slice (some ad) n C] w fun e w' => ∃ g C9, e = .returned (.slice (some ⟨g, 0, none⟩) bs.length C9) ∧ w.heap.size ≤ g ∧ Wb w' g bs.length ∧ Fz w' (fun b => b = g) (.slice (some ⟨g, 0, none⟩) bs.length C9) bs ∧ Below w.heap.size w w' := by
  go_enter Try.func55, Try.ntmps55
  refine code_both (fun f w1 => f.tmps.size = 8 ∧ f.defers = [] ∧ f.eval (.tmp 0) = .slice (some ad) n C ∧ Below w.heap.size w (w1)) ⟨rfl, rfl, rfl, Below.refl _ _⟩ ?_
  rintro f0 w0 ⟨sz, df, x0, bl⟩
  have sd := And.intro sz df
  clear sz df
  have bl0 := bl
  refine wp_seq ?_
  refine wr_a [.eq (.slice none 0 0)] (by rw [sd.1]; kernel_rfl) ⟨fun hw ac u K => ?_, trivial⟩ ?_
  · exact st_assign (.const (.slice none 0 0)) rfl rfl
  intro f1 w1 A hb
  replace x0 := A.t x0 rfl
  replace bl := bgo bl hb
  replace sd := A.sd sd
  clear A hb
  show Code.wp _ _ _ _ _
  refine wp_seq ?_
  refine wp_seq ?_
  refine wr_a [.eq (.slice (some ad) n C), .eq (.bool false)] (by rw [sd.1]; kernel_rfl) ⟨fun hw ac u K => ?_, fun hw ac u K => ?_, trivial⟩ ?_
  · exact st_move (.tmp 0) rfl (K.t x0 rfl)
  · exact st_bin .eql 35 35 (.tmp 3) _ rfl (K.dep 0 3 rfl) rfl (nil_no8 _ _ _ _)
  intro f2 w2 A hb
  replace x0 := A.t x0 rfl
  have x4 := A.e 1 4 rfl rfl
  replace bl := bgo bl hb
  replace sd := A.sd sd
  clear A hb
  show Code.wp _ _ _ _ _
  refine wp_cond_false x4 ?_
  refine wp_skip ?_
  show Code.wp _ _ _ _ _
  refine wp_seq ?_
  refine wr_s [.orw w.heap.size 5 1 0 [], .eq (.slice (some ad) n C)] (by rw [sd.1]; kernel_rfl) ⟨fun hw ac u K => ?_, fun hw ac u K => ?_, trivial⟩ ?_
  · exact st_empty8 rfl _ (bgo bl K.grow).size
  · exact st_move (.tmp 0) rfl (K.t x0 rfl)
  intro f3 w3 A hb
  replace x0 := A.t x0 rfl
  replace x4 := A.t x4 rfl
  have x5 : Fk.f (.orw w.heap.size 5 1 0 []) (f3.eval (.tmp 5)) w3 := A.has 0 5 rfl
  have x6 := A.e 1 6 rfl rfl
  replace bl := bgo bl hb
  replace sd := A.sd sd
  clear A hb
  clear x0
  clear x4
  refine wl_app8 rfl (.tmp 5) (.tmp 6) rfl 7 rfl (by rw [sd.1]; decide) x5 x6 (Fk.mono _ _ _ _ hv bl) bl hN ?_
  intro f4 w4 df2 sz2 old2 new2 bl2
  clear x5
  replace x6 := tr old2 x6 rfl
  have x7 : Fk.f (.orw w.heap.size 5 1 bs.length (bs.map V)) (f4.eval (.tmp 7)) w4 := new2
  replace bl := bl2
  replace bl0 := bl
  replace sd := sd2 sz2 df2 sd
  clear df2 sz2 old2 new2 bl2
  clear x6
  refine wl_one (.orw w.heap.size 5 1 bs.length (bs.map V)) rfl 2 rfl (by rw [sd.1]; decide) (st_assign (.tmp 7) rfl x7) ?_
  intro f5 w5 df2 sz2 old2 new2 hb
  replace x7 := f_at (old2 7 rfl) (Fk.mono _ _ _ _ x7 hb)
  have x2 : Fk.f (.orw w.heap.size 5 1 bs.length (bs.map V)) (f5.eval (.tmp 2)) w5 := new2
  replace bl := bgo bl hb
  replace sd := sd2 sz2 df2 sd
  clear df2 sz2 old2 new2 hb
  refine wpList_nil ?_
  clear x7
  show Code.wp _ _ _ _ _
  refine wp_ret ?_
  repeat (first | with_reducible refine then_ret ?_ | with_reducible refine block_ret ?_)
  obtain ⟨g, C9, e9, q1, q2, q3⟩ := orw_fz x2 hp
  rw [e9] at q3
  exact bodyPost_ret (v := f5.eval (.tmp 2)) (ret_slot rfl f5 _ rfl _ _) sd.2 ⟨g, C9, by rw [e9], q1, q2, q3, bl⟩
theorem fk_clone8 {bs : List (BitVec 8)} {v : Value} (hp : 0 < bs.length) (hN : bs.length ≤ 100000) {w : World} (hv : (Fk.sl bs).f v w) : Calls Try.prog 55 #[v] w fun e w' => ∃ g C9, e = .returned (.slice (some ⟨g, 0, none⟩) bs.length C9) ∧ w.heap.size ≤ g ∧ Wb w' g bs.length ∧ Fz w' (fun b => b = g) (.slice (some ⟨g, 0, none⟩) bs.length C9) bs ∧ Below w.heap.size w w' := by
  obtain ⟨sp, m, c, b, so, e, hs⟩ := id hv
  have hm := hs.len
  obtain ⟨e1, _⟩ := hs.src (by omega)
  rw [e1] at e
  subst e
  exact clone8_some hp hN w hv
/-- New bytes, not none. -/
def Fk.n8 (B : Nat) (bs : List (BitVec 8)) : Fk := .inr (.inl ⟨fun v w => ∃ g C, v = .slice (some ⟨g, 0, none⟩) bs.length C ∧ B ≤ g ∧ Wb w g bs.length ∧ Fz w (fun b => b = g) v bs, by
  rintro v w w' ⟨g, C, e, h1, h2, h3⟩ hb
  refine ⟨g, C, e, h1, h2.below hb, h3.keep (fun j _ h => hb.block j h) hb.size (fun _ h _ => h)⟩⟩)
theorem clone8_own {bs : List (BitVec 8)} {v : Value} (hp : 0 < bs.length) (hN : bs.length ≤ 100000) {w : World} (hv : (Fk.sl bs).f v w) {B : Nat} (hB : B ≤ w.heap.size) : Calls Try.prog 55 #[v] w fun e w' => ∃ u, e = .returned u ∧ (Fk.n8 B bs).f u w' ∧ Below w.heap.size w w' := by
  refine (fk_clone8 hp hN hv).mono ?_
  rintro e w' ⟨g, C, rfl, h1, h2, h3, h4⟩
  exact ⟨_, rfl, ⟨g, C, rfl, Nat.le_trans hB h1, h2, h3⟩, h4⟩
theorem Dk.now_len {w : World} {g sb cb C : Nat} {pl : Int} {vs : Array Value} {l : List (Int × Value)} {M D : Nat → Prop} {s : Dst} (r : Dk w g sb cb C pl vs l M D s) {j : Nat} (hj : j < s.has.length) : (nowd s j).length = s.size := by
  obtain ⟨yh, hyh⟩ : ∃ y, s.has[j]? = some y := ⟨_, List.getElem?_eq_getElem hj⟩
  obtain ⟨yc, hyc⟩ : ∃ y, s.cch[j]? = some y := ⟨_, List.getElem?_eq_getElem (by rw [r.cl]; exact hj)⟩
  unfold nowd
  rw [List.getD_eq_getElem?_getD, List.getD_eq_getElem?_getD, hyh, hyc]
  show (if yc = [] then yh else yc).length = s.size
  split
  · exact (r.sec j yh hyh).1
  · rename_i h
    obtain ⟨v, hv⟩ := r.cch j yc hyc h
    obtain ⟨i', bs', h1, _, h3, h4, _⟩ := r.key _ v hv
    obtain rfl : j = i' := by omega
    rw [hyc] at h3
    cases h3
    exact h4
theorem fk_dread {w : World} {gd : Nat} {M D : Nat → Prop} {s : Dst} (hd : HD w gd M D s) (i : Int) :
    Calls Try.prog 37 #[.pointer (some ⟨gd, 0, none⟩), .int .i64 i] w fun e w' => ∃ D' A C, e = .returned (.tuple #[.slice A (rd s i).2.length C, .int .i64 (rd s i).1]) ∧ (Fk.sl (rd s i).2).f (.slice A (rd s i).2.length C) w' ∧ (0 < (rd s i).2.length → ∃ g, A = some ⟨g, 0, none⟩ ∧ w.heap.size ≤ g ∧ ¬ D' g ∧ Wb w' g (rd s i).2.length) ∧ HD w' gd M D' s ∧ (∀ j, D' j → D j ∨ w.heap.size ≤ j) ∧ Fr M w w' := by
  have hd0 := hd
  obtain ⟨sb, cb, C, pl, vs, l, r⟩ := hd
  have m0 := r.ob
  have hnm := r.nmax
  go_enter Try.func37, Try.ntmps37
  refine code_both (fun f w1 => f.tmps.size = 16 ∧ f.defers = [] ∧ f.eval (.tmp 0) = .pointer (some ⟨gd, 0, none⟩) ∧ f.eval (.tmp 1) = .int .i64 i ∧ Below w.heap.size w (w1)) ⟨rfl, rfl, rfl, rfl, Below.refl _ _⟩ ?_
  rintro f0 w0 ⟨sz, df, x0, x1, bl⟩
  have sd := And.intro sz df
  clear sz df
  have bl0 := bl
  refine wp_seq ?_
  refine wr_a [.eq (.slice none 0 0), .eq (.int .i64 0)] (by rw [sd.1]; kernel_rfl) ⟨fun hw ac u K => ?_, fun hw ac u K => ?_, trivial⟩ ?_
  · exact st_assign (.const (.slice none 0 0)) rfl rfl
  · exact st_assign (.const (.int .i64 0)) rfl rfl
  intro f1 w1 A hb
  replace x0 := A.t x0 rfl
  replace x1 := A.t x1 rfl
  replace bl := bgo bl hb
  replace sd := A.sd sd
  clear A hb
  show Code.wp _ _ _ _ _
  refine wp_seq ?_
  refine wp_seq ?_
  by_cases hdn : s.down = true
  rotate_left
  · skip
    replace hdn : s.down = false := by simpa using hdn
    by_cases h0 : i < 0 ∨ (s.has.length : Int) ≤ i
    rotate_left
    · skip
      obtain ⟨j, rfl⟩ : ∃ j : Nat, i = (j : Int) := ⟨i.toNat, by omega⟩
      have hj : j < s.has.length := by omega
      obtain ⟨yh, hyh⟩ : ∃ y, s.has[j]? = some y := ⟨_, List.getElem?_eq_getElem hj⟩
      obtain ⟨yc, hyc⟩ : ∃ y, s.cch[j]? = some y := ⟨_, List.getElem?_eq_getElem (by rw [r.cl]; exact hj)⟩
      have hrd : rd s (j : Int) = (0, nowd s j) := (rd_ok hdn rfl hj hyh hyc).trans (by rw [show nowd s j = nowv yh yc from by unfold nowd nowv; rw [List.getD_eq_getElem?_getD, List.getD_eq_getElem?_getD, hyh, hyc]; rfl])
      have hnl := r.now_len hj
      refine wr_a [.eq (.pointer (some ⟨gd, 0, none⟩)), .eq (.bool false)] (by rw [sd.1]; kernel_rfl) ⟨fun hw ac u K => ?_, fun hw ac u K => ?_, trivial⟩ ?_
      · exact st_move (.tmp 0) rfl (K.t x0 rfl)
      · exact st_call 53 (.func 53) _ _ _ rfl rfl (one_arg (K.dep 0 6 rfl)) Try.enter53 ((show Calls Try.prog 53 #[.pointer (some ⟨gd, 0, none⟩)] u (fun e w' => ∃ v, e = .returned v ∧ (Fk.eq (.bool false)).f v w' ∧ Below u.heap.size u w') from by have := fk_ddown (HD.below hd0 (bgo bl K.grow)); rw [hdn] at this; exact this))
      intro f2 w2 A hb
      replace x0 := A.t x0 rfl
      replace x1 := A.t x1 rfl
      have x7 := A.e 1 7 rfl rfl
      replace bl := bgo bl hb
      replace sd := A.sd sd
      clear A hb
      show Code.wp _ _ _ _ _
      refine wp_cond_false x7 ?_
      refine wp_skip ?_
      show Code.wp _ _ _ _ _
      refine wp_seq ?_
      refine wp_seq ?_
      refine wr_a [.eq (.pointer (some ⟨gd, 0, none⟩)), .eq (.int .i64 (j : Int)), .eq (.bool true), .eq (.bool false)] (by rw [sd.1]; kernel_rfl) ⟨fun hw ac u K => ?_, fun hw ac u K => ?_, fun hw ac u K => ?_, fun hw ac u K => ?_, trivial⟩ ?_
      · exact st_move (.tmp 0) rfl (K.t x0 rfl)
      · exact st_move (.tmp 1) rfl (K.t x1 rfl)
      · exact st_call 54 (.func 54) _ _ _ rfl rfl (arg2 (K.dep 0 8 rfl) (K.dep 1 9 rfl)) Try.enter54 ((show Calls Try.prog 54 #[.pointer (some ⟨gd, 0, none⟩), .int .i64 (j : Int)] u (fun e w' => ∃ v, e = .returned v ∧ (Fk.eq (.bool true)).f v w' ∧ Below u.heap.size u w') from by have := fk_dhas (HD.below hd0 (bgo bl K.grow)) (j : Int); rw [show (decide (0 ≤ (j : Int) ∧ (j : Int) < (s.has.length : Int))) = true from by rw [decide_eq_true_iff]; omega] at this; exact this))
      · exact st_not (.tmp 10) rfl true (K.dep 2 10 rfl)
      intro f3 w3 A hb
      replace x0 := A.t x0 rfl
      replace x1 := A.t x1 rfl
      replace x7 := A.t x7 rfl
      have x11 := A.e 3 11 rfl rfl
      replace bl := bgo bl hb
      replace sd := A.sd sd
      clear A hb
      clear x7
      show Code.wp _ _ _ _ _
      refine wp_cond_false x11 ?_
      refine wp_skip ?_
      show Code.wp _ _ _ _ _
      refine wp_seq ?_
      refine wr_a [.eq (.pointer (some ⟨gd, 0, none⟩)), .eq (.int .i64 (j : Int)), .sl (nowd s j), .n8 w.heap.size (nowd s j), .n8 w.heap.size (nowd s j), .eq (.int .i64 0)] (by rw [sd.1]; kernel_rfl) ⟨fun hw ac u K => ?_, fun hw ac u K => ?_, fun hw ac u K => ?_, fun hw ac u K => ?_, fun hw ac u K => ?_, fun hw ac u K => ?_, trivial⟩ ?_
      · exact st_move (.tmp 0) rfl (K.t x0 rfl)
      · exact st_move (.tmp 1) rfl (K.t x1 rfl)
      · exact st_call 56 (.func 56) _ _ _ rfl rfl (arg2 (K.dep 0 12 rfl) (K.dep 1 13 rfl)) Try.enter56 (fk_dat (HD.below hd0 (bgo bl K.grow)) hj)
      · exact st_call 55 (.func 55) _ _ _ rfl rfl (one_arg rfl) Try.enter55 (clone8_own (by have := r.pos; omega) (by have := r.zmax; omega) (K.dep 2 14 rfl) (bgo bl K.grow).size)
      · exact st_assign (.tmp 15) rfl (K.dep 3 15 rfl)
      · exact st_assign (.const (.int .i64 0)) rfl rfl
      intro f4 w4 A hb
      replace x0 := A.t x0 rfl
      replace x1 := A.t x1 rfl
      replace x11 := A.t x11 rfl
      have x4 : Fk.f (.n8 w.heap.size (nowd s j)) (f4.eval (.tmp 4)) w4 := A.has 4 4 rfl
      have x5 := A.e 5 5 rfl rfl
      replace bl := bgo bl hb
      replace sd := A.sd sd
      clear A hb
      clear x0
      clear x1
      clear x11
      show Code.wp _ _ _ _ _
      refine wp_ret ?_
      repeat (first | with_reducible refine then_ret ?_ | with_reducible refine block_ret ?_)
      have hlt9 := hd0.lt
      obtain ⟨g, C9, e9, q1, q2, q3⟩ := x4
      exact bodyPost_ret (v := .tuple #[.slice (some ⟨g, 0, none⟩) (nowd s j).length C9, .int .i64 0]) (ret_two rfl f4 _ _ e9 x5 _ _) sd.2 (by rw [hrd]; exact ⟨D, some ⟨g, 0, none⟩, C9, rfl, by rw [e9] at q3; exact q3.sl, fun _ => ⟨g, rfl, q1, fun q => by have := hlt9 g q; omega, q2⟩, HD.below hd0 bl, fun j q => .inl q, Fr.of_below bl⟩)
    refine wr_a [.eq (.pointer (some ⟨gd, 0, none⟩)), .eq (.bool false)] (by rw [sd.1]; kernel_rfl) ⟨fun hw ac u K => ?_, fun hw ac u K => ?_, trivial⟩ ?_
    · exact st_move (.tmp 0) rfl (K.t x0 rfl)
    · exact st_call 53 (.func 53) _ _ _ rfl rfl (one_arg (K.dep 0 6 rfl)) Try.enter53 ((show Calls Try.prog 53 #[.pointer (some ⟨gd, 0, none⟩)] u (fun e w' => ∃ v, e = .returned v ∧ (Fk.eq (.bool false)).f v w' ∧ Below u.heap.size u w') from by have := fk_ddown (HD.below hd0 (bgo bl K.grow)); rw [hdn] at this; exact this))
    intro f2 w2 A hb
    replace x0 := A.t x0 rfl
    replace x1 := A.t x1 rfl
    have x7 := A.e 1 7 rfl rfl
    replace bl := bgo bl hb
    replace sd := A.sd sd
    clear A hb
    show Code.wp _ _ _ _ _
    refine wp_cond_false x7 ?_
    refine wp_skip ?_
    show Code.wp _ _ _ _ _
    refine wp_seq ?_
    refine wp_seq ?_
    refine wr_a [.eq (.pointer (some ⟨gd, 0, none⟩)), .eq (.int .i64 i), .eq (.bool false), .eq (.bool true)] (by rw [sd.1]; kernel_rfl) ⟨fun hw ac u K => ?_, fun hw ac u K => ?_, fun hw ac u K => ?_, fun hw ac u K => ?_, trivial⟩ ?_
    · exact st_move (.tmp 0) rfl (K.t x0 rfl)
    · exact st_move (.tmp 1) rfl (K.t x1 rfl)
    · exact st_call 54 (.func 54) _ _ _ rfl rfl (arg2 (K.dep 0 8 rfl) (K.dep 1 9 rfl)) Try.enter54 ((show Calls Try.prog 54 #[.pointer (some ⟨gd, 0, none⟩), .int .i64 i] u (fun e w' => ∃ v, e = .returned v ∧ (Fk.eq (.bool false)).f v w' ∧ Below u.heap.size u w') from by have := fk_dhas (HD.below hd0 (bgo bl K.grow)) i; rw [show (decide (0 ≤ i ∧ i < (s.has.length : Int))) = false from by rw [decide_eq_false_iff_not]; omega] at this; exact this))
    · exact st_not (.tmp 10) rfl false (K.dep 2 10 rfl)
    intro f3 w3 A hb
    replace x0 := A.t x0 rfl
    replace x1 := A.t x1 rfl
    replace x7 := A.t x7 rfl
    have x11 := A.e 3 11 rfl rfl
    replace bl := bgo bl hb
    replace sd := A.sd sd
    clear A hb
    clear x7
    show Code.wp _ _ _ _ _
    refine wp_cond_true x11 ?_
    refine wp_seq ?_
    refine wr_a [.eq (.slice none 0 0), .eq (.int .i64 11)] (by rw [sd.1]; kernel_rfl) ⟨fun hw ac u K => ?_, fun hw ac u K => ?_, trivial⟩ ?_
    · exact st_assign (.const (.slice none 0 0)) rfl rfl
    · exact st_assign (.const (.int .i64 11)) rfl rfl
    intro f4 w4 A hb
    replace x0 := A.t x0 rfl
    replace x1 := A.t x1 rfl
    replace x11 := A.t x11 rfl
    have x4 := A.e 0 4 rfl rfl
    have x5 := A.e 1 5 rfl rfl
    replace bl := bgo bl hb
    replace sd := A.sd sd
    clear A hb
    clear x0
    clear x1
    clear x11
    show Code.wp _ _ _ _ _
    refine wp_ret ?_
    repeat (first | with_reducible refine then_ret ?_ | with_reducible refine block_ret ?_)
    exact bodyPost_ret (v := .tuple #[.slice none 0 0, .int .i64 11]) (ret_two rfl f4 _ _ x4 x5 _ _) sd.2 (by rw [rd_range hdn h0]; exact ⟨D, none, 0, rfl, ⟨none, 0, 0, 0, 0, rfl, rfl, Nat.le_refl _, fun _ => ⟨rfl, rfl⟩, fun hm => by omega⟩, fun hm => absurd hm (by decide), HD.below hd0 bl, fun j q => .inl q, Fr.of_below bl⟩)
  refine wr_a [.eq (.pointer (some ⟨gd, 0, none⟩)), .eq (.bool true)] (by rw [sd.1]; kernel_rfl) ⟨fun hw ac u K => ?_, fun hw ac u K => ?_, trivial⟩ ?_
  · exact st_move (.tmp 0) rfl (K.t x0 rfl)
  · exact st_call 53 (.func 53) _ _ _ rfl rfl (one_arg (K.dep 0 6 rfl)) Try.enter53 ((show Calls Try.prog 53 #[.pointer (some ⟨gd, 0, none⟩)] u (fun e w' => ∃ v, e = .returned v ∧ (Fk.eq (.bool true)).f v w' ∧ Below u.heap.size u w') from by have := fk_ddown (HD.below hd0 (bgo bl K.grow)); rw [hdn] at this; exact this))
  intro f2 w2 A hb
  replace x0 := A.t x0 rfl
  replace x1 := A.t x1 rfl
  have x7 := A.e 1 7 rfl rfl
  replace bl := bgo bl hb
  replace sd := A.sd sd
  clear A hb
  show Code.wp _ _ _ _ _
  refine wp_cond_true x7 ?_
  refine wp_seq ?_
  refine wr_a [.eq (.slice none 0 0), .eq (.int .i64 30)] (by rw [sd.1]; kernel_rfl) ⟨fun hw ac u K => ?_, fun hw ac u K => ?_, trivial⟩ ?_
  · exact st_assign (.const (.slice none 0 0)) rfl rfl
  · exact st_assign (.const (.int .i64 30)) rfl rfl
  intro f3 w3 A hb
  replace x0 := A.t x0 rfl
  replace x1 := A.t x1 rfl
  replace x7 := A.t x7 rfl
  have x4 := A.e 0 4 rfl rfl
  have x5 := A.e 1 5 rfl rfl
  replace bl := bgo bl hb
  replace sd := A.sd sd
  clear A hb
  clear x0
  clear x1
  clear x7
  show Code.wp _ _ _ _ _
  refine wp_ret ?_
  repeat (first | with_reducible refine then_ret ?_ | with_reducible refine block_ret ?_)
  exact bodyPost_ret (v := .tuple #[.slice none 0 0, .int .i64 30]) (ret_two rfl f3 _ _ x4 x5 _ _) sd.2 (by rw [rd_down hdn i]; exact ⟨D, none, 0, rfl, ⟨none, 0, 0, 0, 0, rfl, rfl, Nat.le_refl _, fun _ => ⟨rfl, rfl⟩, fun hm => by omega⟩, fun hm => absurd hm (by decide), HD.below hd0 bl, fun j q => .inl q, Fr.of_below bl⟩)
theorem use_out {w : World} {gd : Nat} {dn : Bool} {u1 u2 u3 u4 : Value} (m0 : Ob w gd 64 [u1, u2, u3, .int .i64 0, .bool dn, u4])  :
    Calls Try.prog 79 #[.pointer (some ⟨gd, 3, none⟩)] w fun e w' => e = .returned (.int .i64 30) ∧ Ob w' gd 64 [u1, u2, u3, .int .i64 0, .bool true, u4] ∧ Only gd w w' := by
  go_enter Try.func79, Try.ntmps79
  refine code_both (fun f w1 => f.tmps.size = 23 ∧ f.defers = [] ∧ f.eval (.tmp 0) = .pointer (some ⟨gd, 3, none⟩) ∧ Ob w1 (gd) 64 ([u1, u2, u3, .int .i64 0, .bool dn, u4]) ∧ Only gd w (w1)) ⟨rfl, rfl, rfl, m0, Only.refl _ _⟩ ?_
  clear m0
  rintro f0 w0 ⟨sz, df, x0, m0, bl⟩
  have sd := And.intro sz df
  clear sz df
  have bl0 := bl
  refine wp_seq ?_
  refine wr_a [.eq (.int .i64 0)] (by rw [sd.1]; kernel_rfl) ⟨fun hw ac u K => ?_, trivial⟩ ?_
  · exact st_assign (.const (.int .i64 0)) rfl rfl
  intro f1 w1 A hb
  replace x0 := A.t x0 rfl
  replace m0 := Ob.below m0 hb
  replace bl := (only_below bl (Below.mono hb bl.size))
  replace sd := A.sd sd
  clear A hb
  show Code.wp _ _ _ _ _
  refine wp_seq ?_
  refine wp_seq ?_
  refine wr_a [.eq (.pointer (some ⟨gd, 3, none⟩)), .eq (.pointer (some ⟨gd, 3, none⟩)), .eq (.pointer (some ⟨gd, 3, none⟩)), .eq (.int .i64 0), .eq (.bool true)] (by rw [sd.1]; kernel_rfl) ⟨fun hw ac u K => ?_, fun hw ac u K => ?_, fun hw ac u K => ?_, fun hw ac u K => ?_, fun hw ac u K => ?_, trivial⟩ ?_
  · exact st_move (.tmp 0) rfl (K.t x0 rfl)
  · exact st_nil (.tmp 3) rfl (K.dep 0 3 rfl)
  · exact st_field 61 0 (.tmp 4) rfl (K.dep 1 4 rfl) (by kernel_rfl)
  · exact st_loadc 3 (.tmp 5) rfl (by kernel_rfl) (K.dep 2 5 rfl) (Ob.cell (Ob.below m0 K.grow) 3 rfl)
  · exact st_eqi 3 (.tmp 6) (.const (.int .i64 0)) rfl .i64 (0) (0) (K.dep 3 6 rfl) rfl _ (by rfl)
  intro f2 w2 A hb
  replace x0 := A.t x0 rfl
  have x7 := A.e 4 7 rfl rfl
  replace m0 := Ob.below m0 hb
  replace bl := (only_below bl (Below.mono hb bl.size))
  replace sd := A.sd sd
  clear A hb
  show Code.wp _ _ _ _ _
  refine wp_cond_true x7 ?_
  refine wp_seq ?_
  refine wr_s [.eq (.pointer (some ⟨gd, 3, none⟩)), .eq (.pointer (some ⟨gd, 3, none⟩)), .eq (.pointer (some ⟨gd, 4, none⟩))] (by rw [sd.1]; kernel_rfl) ⟨fun hw ac u K => ?_, fun hw ac u K => ?_, fun hw ac u K => ?_, trivial⟩ ?_
  · exact st_move (.tmp 0) rfl (K.t x0 rfl)
  · exact st_nil (.tmp 8) rfl (K.dep 0 8 rfl)
  · exact st_field 61 1 (.tmp 9) rfl (K.dep 1 9 rfl) (by kernel_rfl)
  intro f3 w3 A hb
  replace x0 := A.t x0 rfl
  replace x7 := A.t x7 rfl
  have x10 := A.e 2 10 rfl rfl
  replace m0 := Ob.below m0 hb
  replace bl := (only_below bl (Below.mono hb bl.size))
  replace sd := A.sd sd
  clear A hb
  clear x0
  clear x7
  refine wl_stc 4 rfl (.tmp 10) (.const (.bool true)) rfl rfl (by kernel_rfl) (gd) 4 (.bool true) x10 rfl rfl rfl (Ob.there m0 4 (by simp)) ?_
  replace m0 : Ob (w3.setCell ⟨gd, 4, none⟩ (.bool true)) (gd) 64 ([u1, u2, u3, .int .i64 0, .bool true, u4]) := Ob.set m0 4 (.bool true)
  replace bl : Only gd w (w3.setCell ⟨gd, 4, none⟩ (.bool true)) := bl.setCell _ _
  generalize w3.setCell ⟨gd, 4, none⟩ (.bool true) = w4b at bl m0 ⊢
  refine wpList_nil ?_
  clear x10
  show Code.wp _ _ _ _ _
  refine wp_seq ?_
  refine wr_a [.eq (.int .i64 30)] (by rw [sd.1]; kernel_rfl) ⟨fun hw ac u K => ?_, trivial⟩ ?_
  · exact st_assign (.const (.int .i64 30)) rfl rfl
  intro f5 w5 A hb
  have x2 := A.e 0 2 rfl rfl
  replace m0 := Ob.below m0 hb
  replace bl := (only_below bl (Below.mono hb bl.size))
  replace sd := A.sd sd
  clear A hb
  show Code.wp _ _ _ _ _
  refine wp_ret ?_
  repeat (first | with_reducible refine then_ret ?_ | with_reducible refine block_ret ?_)
  exact bodyPost_ret (v := .int .i64 30) (ret_slot rfl f5 _ x2 _ _) sd.2 ⟨rfl, m0, bl⟩
theorem use_free {w : World} {gd : Nat} {pl : Int} {dn : Bool} {u1 u2 u3 u4 : Value} (m0 : Ob w gd 64 [u1, u2, u3, .int .i64 (pl), .bool dn, u4]) (h : pl < 0) :
    Calls Try.prog 79 #[.pointer (some ⟨gd, 3, none⟩)] w fun e w' => e = .returned (.int .i64 0) ∧ Ob w' gd 64 [u1, u2, u3, .int .i64 (pl), .bool dn, u4] ∧ Only gd w w' := by
  go_enter Try.func79, Try.ntmps79
  refine code_both (fun f w1 => f.tmps.size = 23 ∧ f.defers = [] ∧ f.eval (.tmp 0) = .pointer (some ⟨gd, 3, none⟩) ∧ Ob w1 (gd) 64 ([u1, u2, u3, .int .i64 (pl), .bool dn, u4]) ∧ Only gd w (w1)) ⟨rfl, rfl, rfl, m0, Only.refl _ _⟩ ?_
  clear m0
  rintro f0 w0 ⟨sz, df, x0, m0, bl⟩
  have sd := And.intro sz df
  clear sz df
  have bl0 := bl
  refine wp_seq ?_
  refine wr_a [.eq (.int .i64 0)] (by rw [sd.1]; kernel_rfl) ⟨fun hw ac u K => ?_, trivial⟩ ?_
  · exact st_assign (.const (.int .i64 0)) rfl rfl
  intro f1 w1 A hb
  replace x0 := A.t x0 rfl
  replace m0 := Ob.below m0 hb
  replace bl := (only_below bl (Below.mono hb bl.size))
  replace sd := A.sd sd
  clear A hb
  show Code.wp _ _ _ _ _
  refine wp_seq ?_
  refine wp_seq ?_
  refine wr_a [.eq (.pointer (some ⟨gd, 3, none⟩)), .eq (.pointer (some ⟨gd, 3, none⟩)), .eq (.pointer (some ⟨gd, 3, none⟩)), .eq (.int .i64 (pl)), .eq (.bool false)] (by rw [sd.1]; kernel_rfl) ⟨fun hw ac u K => ?_, fun hw ac u K => ?_, fun hw ac u K => ?_, fun hw ac u K => ?_, fun hw ac u K => ?_, trivial⟩ ?_
  · exact st_move (.tmp 0) rfl (K.t x0 rfl)
  · exact st_nil (.tmp 3) rfl (K.dep 0 3 rfl)
  · exact st_field 61 0 (.tmp 4) rfl (K.dep 1 4 rfl) (by kernel_rfl)
  · exact st_loadc 3 (.tmp 5) rfl (by kernel_rfl) (K.dep 2 5 rfl) (Ob.cell (Ob.below m0 K.grow) 3 rfl)
  · exact st_eqi 3 (.tmp 6) (.const (.int .i64 0)) rfl .i64 ((pl)) (0) (K.dep 3 6 rfl) rfl _ (by rw [eq_comm, decide_eq_false_iff_not]; omega)
  intro f2 w2 A hb
  replace x0 := A.t x0 rfl
  have x7 := A.e 4 7 rfl rfl
  replace m0 := Ob.below m0 hb
  replace bl := (only_below bl (Below.mono hb bl.size))
  replace sd := A.sd sd
  clear A hb
  show Code.wp _ _ _ _ _
  refine wp_cond_false x7 ?_
  refine wp_skip ?_
  show Code.wp _ _ _ _ _
  refine wp_seq ?_
  refine wp_seq ?_
  refine wr_a [.eq (.pointer (some ⟨gd, 3, none⟩)), .eq (.pointer (some ⟨gd, 3, none⟩)), .eq (.pointer (some ⟨gd, 3, none⟩)), .eq (.int .i64 (pl)), .eq (.bool false)] (by rw [sd.1]; kernel_rfl) ⟨fun hw ac u K => ?_, fun hw ac u K => ?_, fun hw ac u K => ?_, fun hw ac u K => ?_, fun hw ac u K => ?_, trivial⟩ ?_
  · exact st_move (.tmp 0) rfl (K.t x0 rfl)
  · exact st_nil (.tmp 11) rfl (K.dep 0 11 rfl)
  · exact st_field 61 0 (.tmp 12) rfl (K.dep 1 12 rfl) (by kernel_rfl)
  · exact st_loadc 3 (.tmp 13) rfl (by kernel_rfl) (K.dep 2 13 rfl) (Ob.cell (Ob.below m0 K.grow) 3 rfl)
  · exact st_gtr 3 (.tmp 14) (.const (.int .i64 0)) rfl .i64 ((pl)) (0) (K.dep 3 14 rfl) rfl _ (by rw [eq_comm, decide_eq_false_iff_not]; omega)
  intro f3 w3 A hb
  replace x0 := A.t x0 rfl
  replace x7 := A.t x7 rfl
  have x15 := A.e 4 15 rfl rfl
  replace m0 := Ob.below m0 hb
  replace bl := (only_below bl (Below.mono hb bl.size))
  replace sd := A.sd sd
  clear A hb
  clear x7
  show Code.wp _ _ _ _ _
  refine wp_cond_false x15 ?_
  refine wp_skip ?_
  show Code.wp _ _ _ _ _
  refine wp_seq ?_
  refine wr_a [.eq (.int .i64 0)] (by rw [sd.1]; kernel_rfl) ⟨fun hw ac u K => ?_, trivial⟩ ?_
  · exact st_assign (.const (.int .i64 0)) rfl rfl
  intro f4 w4 A hb
  replace x0 := A.t x0 rfl
  replace x15 := A.t x15 rfl
  have x2 := A.e 0 2 rfl rfl
  replace m0 := Ob.below m0 hb
  replace bl := (only_below bl (Below.mono hb bl.size))
  replace sd := A.sd sd
  clear A hb
  clear x0
  clear x15
  show Code.wp _ _ _ _ _
  refine wp_ret ?_
  repeat (first | with_reducible refine then_ret ?_ | with_reducible refine block_ret ?_)
  exact bodyPost_ret (v := .int .i64 0) (ret_slot rfl f4 _ x2 _ _) sd.2 ⟨rfl, m0, bl⟩
theorem use_left {w : World} {gd : Nat} {pl : Int} {dn : Bool} {u1 u2 u3 u4 : Value} (m0 : Ob w gd 64 [u1, u2, u3, .int .i64 (pl), .bool dn, u4]) (h : 0 < pl) (hm : pl ≤ 9223372036854775807) :
    Calls Try.prog 79 #[.pointer (some ⟨gd, 3, none⟩)] w fun e w' => e = .returned (.int .i64 0) ∧ Ob w' gd 64 [u1, u2, u3, .int .i64 (pl - 1), .bool dn, u4] ∧ Only gd w w' := by
  go_enter Try.func79, Try.ntmps79
  refine code_both (fun f w1 => f.tmps.size = 23 ∧ f.defers = [] ∧ f.eval (.tmp 0) = .pointer (some ⟨gd, 3, none⟩) ∧ Ob w1 (gd) 64 ([u1, u2, u3, .int .i64 (pl), .bool dn, u4]) ∧ Only gd w (w1)) ⟨rfl, rfl, rfl, m0, Only.refl _ _⟩ ?_
  clear m0
  rintro f0 w0 ⟨sz, df, x0, m0, bl⟩
  have sd := And.intro sz df
  clear sz df
  have bl0 := bl
  refine wp_seq ?_
  refine wr_a [.eq (.int .i64 0)] (by rw [sd.1]; kernel_rfl) ⟨fun hw ac u K => ?_, trivial⟩ ?_
  · exact st_assign (.const (.int .i64 0)) rfl rfl
  intro f1 w1 A hb
  replace x0 := A.t x0 rfl
  replace m0 := Ob.below m0 hb
  replace bl := (only_below bl (Below.mono hb bl.size))
  replace sd := A.sd sd
  clear A hb
  show Code.wp _ _ _ _ _
  refine wp_seq ?_
  refine wp_seq ?_
  refine wr_a [.eq (.pointer (some ⟨gd, 3, none⟩)), .eq (.pointer (some ⟨gd, 3, none⟩)), .eq (.pointer (some ⟨gd, 3, none⟩)), .eq (.int .i64 (pl)), .eq (.bool false)] (by rw [sd.1]; kernel_rfl) ⟨fun hw ac u K => ?_, fun hw ac u K => ?_, fun hw ac u K => ?_, fun hw ac u K => ?_, fun hw ac u K => ?_, trivial⟩ ?_
  · exact st_move (.tmp 0) rfl (K.t x0 rfl)
  · exact st_nil (.tmp 3) rfl (K.dep 0 3 rfl)
  · exact st_field 61 0 (.tmp 4) rfl (K.dep 1 4 rfl) (by kernel_rfl)
  · exact st_loadc 3 (.tmp 5) rfl (by kernel_rfl) (K.dep 2 5 rfl) (Ob.cell (Ob.below m0 K.grow) 3 rfl)
  · exact st_eqi 3 (.tmp 6) (.const (.int .i64 0)) rfl .i64 ((pl)) (0) (K.dep 3 6 rfl) rfl _ (by rw [eq_comm, decide_eq_false_iff_not]; omega)
  intro f2 w2 A hb
  replace x0 := A.t x0 rfl
  have x7 := A.e 4 7 rfl rfl
  replace m0 := Ob.below m0 hb
  replace bl := (only_below bl (Below.mono hb bl.size))
  replace sd := A.sd sd
  clear A hb
  show Code.wp _ _ _ _ _
  refine wp_cond_false x7 ?_
  refine wp_skip ?_
  show Code.wp _ _ _ _ _
  refine wp_seq ?_
  refine wp_seq ?_
  refine wr_a [.eq (.pointer (some ⟨gd, 3, none⟩)), .eq (.pointer (some ⟨gd, 3, none⟩)), .eq (.pointer (some ⟨gd, 3, none⟩)), .eq (.int .i64 (pl)), .eq (.bool true)] (by rw [sd.1]; kernel_rfl) ⟨fun hw ac u K => ?_, fun hw ac u K => ?_, fun hw ac u K => ?_, fun hw ac u K => ?_, fun hw ac u K => ?_, trivial⟩ ?_
  · exact st_move (.tmp 0) rfl (K.t x0 rfl)
  · exact st_nil (.tmp 11) rfl (K.dep 0 11 rfl)
  · exact st_field 61 0 (.tmp 12) rfl (K.dep 1 12 rfl) (by kernel_rfl)
  · exact st_loadc 3 (.tmp 13) rfl (by kernel_rfl) (K.dep 2 13 rfl) (Ob.cell (Ob.below m0 K.grow) 3 rfl)
  · exact st_gtr 3 (.tmp 14) (.const (.int .i64 0)) rfl .i64 ((pl)) (0) (K.dep 3 14 rfl) rfl _ (by rw [eq_comm, decide_eq_true_iff]; omega)
  intro f3 w3 A hb
  replace x0 := A.t x0 rfl
  replace x7 := A.t x7 rfl
  have x15 := A.e 4 15 rfl rfl
  replace m0 := Ob.below m0 hb
  replace bl := (only_below bl (Below.mono hb bl.size))
  replace sd := A.sd sd
  clear A hb
  clear x7
  show Code.wp _ _ _ _ _
  refine wp_cond_true x15 ?_
  refine wr_s [.eq (.pointer (some ⟨gd, 3, none⟩)), .eq (.pointer (some ⟨gd, 3, none⟩)), .eq (.pointer (some ⟨gd, 3, none⟩)), .eq (.int .i64 (pl)), .eq (.int .i64 (pl - 1)), .eq (.pointer (some ⟨gd, 3, none⟩)), .eq (.pointer (some ⟨gd, 3, none⟩))] (by rw [sd.1]; kernel_rfl) ⟨fun hw ac u K => ?_, fun hw ac u K => ?_, fun hw ac u K => ?_, fun hw ac u K => ?_, fun hw ac u K => ?_, fun hw ac u K => ?_, fun hw ac u K => ?_, trivial⟩ ?_
  · exact st_move (.tmp 0) rfl (K.t x0 rfl)
  · exact st_nil (.tmp 16) rfl (K.dep 0 16 rfl)
  · exact st_field 61 0 (.tmp 17) rfl (K.dep 1 17 rfl) (by kernel_rfl)
  · exact st_loadc 3 (.tmp 18) rfl (by kernel_rfl) (K.dep 2 18 rfl) (Ob.cell (Ob.below m0 K.grow) 3 rfl)
  · exact st_subz (.tmp 19) (.const (.int .i64 1)) rfl _ _ _ (K.dep 3 19 rfl) rfl (by omega) (by omega) (by omega)
  · exact st_nil (.tmp 16) rfl (K.dep 0 16 rfl)
  · exact st_field 61 0 (.tmp 21) rfl (K.dep 5 21 rfl) (by kernel_rfl)
  intro f4 w4 A hb
  replace x0 := A.t x0 rfl
  replace x15 := A.t x15 rfl
  have x20 := A.e 4 20 rfl rfl
  have x22 := A.e 6 22 rfl rfl
  replace m0 := Ob.below m0 hb
  replace bl := (only_below bl (Below.mono hb bl.size))
  replace sd := A.sd sd
  clear A hb
  clear x0
  clear x15
  refine wl_stc 3 rfl (.tmp 22) (.tmp 20) rfl rfl (by kernel_rfl) (gd) 3 (.int .i64 (pl - 1)) x22 x20 rfl rfl (Ob.there m0 3 (by simp)) ?_
  replace m0 : Ob (w4.setCell ⟨gd, 3, none⟩ (.int .i64 (pl - 1))) (gd) 64 ([u1, u2, u3, .int .i64 (pl - 1), .bool dn, u4]) := Ob.set m0 3 (.int .i64 (pl - 1))
  replace bl : Only gd w (w4.setCell ⟨gd, 3, none⟩ (.int .i64 (pl - 1))) := bl.setCell _ _
  generalize w4.setCell ⟨gd, 3, none⟩ (.int .i64 (pl - 1)) = w5b at bl m0 ⊢
  refine wpList_nil ?_
  clear x20
  clear x22
  show Code.wp _ _ _ _ _
  refine wp_seq ?_
  refine wr_a [.eq (.int .i64 0)] (by rw [sd.1]; kernel_rfl) ⟨fun hw ac u K => ?_, trivial⟩ ?_
  · exact st_assign (.const (.int .i64 0)) rfl rfl
  intro f6 w6 A hb
  have x2 := A.e 0 2 rfl rfl
  replace m0 := Ob.below m0 hb
  replace bl := (only_below bl (Below.mono hb bl.size))
  replace sd := A.sd sd
  clear A hb
  show Code.wp _ _ _ _ _
  refine wp_ret ?_
  repeat (first | with_reducible refine then_ret ?_ | with_reducible refine block_ret ?_)
  exact bodyPost_ret (v := .int .i64 0) (ret_slot rfl f6 _ x2 _ _) sd.2 ⟨rfl, m0, bl⟩
end Go.Proofs.Ytakdpkoigijonaa
