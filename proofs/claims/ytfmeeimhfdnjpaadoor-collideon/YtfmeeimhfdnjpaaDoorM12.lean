/- Lists cut, forms of collisions; parting, halvesOf, against, saidHalves, led. -/
import Derived.Test.YtfmeeimhfdnjpaaDoorM11
namespace Go.Proofs.YtfmeeimhfdnjpaaDoor
set_option maxRecDepth 100000
open Go.RowKit
theorem run_cutm {S : World → Prop} {o : Oper} {a : Act} {x y : Operand} (ho : o.op = .slice 28 x none (some y) none) {A : Option Addr} {m C : Nat} (hx : a.eval x = .slice A m C) (n : Nat) (hy : a.eval y = .int .i64 (n : Int)) (hn : n ≤ C) : ∀ w, S w → (execOp a.eval o).run Tryd.prog w = .ok (.value (.slice A n C)) w := by
  intro w _
  have h1 := run_slice_h (P := Tryd.prog) (w := w) 28 A m C (by rw [Tryd.elem28]; exact Tryd.under28) .i64 (n : Int) (by omega) (by omega)
  rw [Tryd.elem28, Tryd.sizeOf22m] at h1
  simp only [Result.andThen_ok, Int.toNat_natCast] at h1
  have h2 := run_sliceAt_slice (P := Tryd.prog) (w := w) 28 (.slice A m C) none (some (.int .i64 (n : Int))) none (by rw [Tryd.elem28]; exact Tryd.under28)
  have h3 : sliced A 0 n C 1 = .slice A n C := by
    unfold sliced
    by_cases h0 : C = 0
    · simp [h0]
    · cases A with
      | none => simp
      | some p => simp [Addr.add]
  rw [h3] at h1
  unfold execOp
  rw [ho]
  simp [hx, hy, h2, h1]
theorem run_restm {S : World → Prop} {o : Oper} {a : Act} {x y : Operand} (ho : o.op = .slice 28 x (some y) none none) {A : Option Addr} {m C : Nat} (hx : a.eval x = .slice A m C) (n : Nat) (hy : a.eval y = .int .i64 (n : Int)) (hn : n ≤ m) : ∀ w, S w → (execOp a.eval o).run Tryd.prog w = .ok (.value (sliced A n m C 1)) w := by
  intro w _
  have h1 := run_slice_l (P := Tryd.prog) (w := w) 28 A m C (by rw [Tryd.elem28]; exact Tryd.under28) .i64 (n : Int) (by omega) (by omega)
  rw [Tryd.elem28, Tryd.sizeOf22m] at h1
  simp only [Result.andThen_ok, Int.toNat_natCast] at h1
  have h2 := run_sliceAt_slice (P := Tryd.prog) (w := w) 28 (.slice A m C) (some (.int .i64 (n : Int))) none none (by rw [Tryd.elem28]; exact Tryd.under28)
  unfold execOp
  rw [ho]
  simp [hx, hy, h2, h1]
theorem run_cutv {S : World → Prop} {o : Oper} {a : Act} {x y : Operand} (ho : o.op = .slice 35 x none (some y) none) {A : Option Addr} {m C : Nat} (hx : a.eval x = .slice A m C) (n : Nat) (hy : a.eval y = .int .i64 (n : Int)) (hn : n ≤ C) : ∀ w, S w → (execOp a.eval o).run Tryd.prog w = .ok (.value (sliced A 0 n C 32)) w := by
  intro w _
  have h1 := run_slice_h (P := Tryd.prog) (w := w) 35 A m C (by rw [Tryd.elem35]; exact Tryd.under35') .i64 (n : Int) (by omega) (by omega)
  rw [Tryd.elem35, Tryd.sizeOf33] at h1
  simp only [Result.andThen_ok, Int.toNat_natCast] at h1
  have h2 := run_sliceAt_slice (P := Tryd.prog) (w := w) 35 (.slice A m C) none (some (.int .i64 (n : Int))) none (by rw [Tryd.elem35]; exact Tryd.under35')
  unfold execOp
  rw [ho]
  simp [hx, hy, h2, h1]
theorem hc_cut {P : List (List (BitVec 8))} {A : Option Addr} {C : Nat} {w : World} (h : (Fk.hc P).f (.slice A P.length C) w) {n : Nat} (hn : n ≤ P.length) : (Fk.hc (P.take n)).f (sliced A 0 n C 32) w := by
  obtain ⟨A', C', lb, lo, e, hc, hl⟩ := h
  cases e
  refine ⟨if C = 0 then A else A.map (·.add (0 * 32)), C, lb, lo, ?_, ?_, fun hp => ?_, fun hp => ?_, fun i x hi => ?_⟩
  · simp only [sliced, List.length_take, Nat.min_eq_left hn, Nat.sub_zero]
  · rw [List.length_take]; omega
  · rw [List.length_take] at hp
    rw [if_neg (by omega), hl.ptr (by omega)]
    simp [Addr.add]
  · rw [List.length_take] at hp
    exact hl.lt (by omega)
  · rw [List.getElem?_take] at hi
    split at hi
    · exact hl.all i x hi
    · cases hi
theorem mc_take {ps : List Pt} {A : Option Addr} {C : Nat} {w : World} (h : (Fk.mc ps).f (.slice A ps.length C) w) {n : Nat} (hn : n ≤ ps.length) : (Fk.mc (ps.take n)).f (.slice A n C) w := by
  have hC := h.2 A C rfl
  refine ⟨mg_take h.1 hn, fun A' C' e => ?_⟩
  injection e with _ _ e3
  rw [← e3, List.length_take]
  omega
theorem mc_drop {ps : List Pt} {A : Option Addr} {C : Nat} {w : World} (h : (Fk.mc ps).f (.slice A ps.length C) w) {n : Nat} (hn : n ≤ ps.length) : (Fk.mc (ps.drop n)).f (sliced A n ps.length C 1) w := by
  have hC := h.2 A C rfl
  obtain ⟨A', C', lb, lo, e, hp, hl⟩ := h.1
  cases e
  refine ⟨⟨if C = n then A else A.map (·.add (n * 1)), C - n, lb, lo + n, ?_, fun h0 => ?_, ⟨fun i p hi => ?_, fun i p hi => ?_⟩⟩, fun A2 C2 e2 => ?_⟩
  · simp only [sliced, List.length_drop]
  · rw [List.length_drop] at h0
    rw [if_neg (by omega), hp (by omega)]
    simp [Addr.add]
  · rw [List.getElem?_drop] at hi
    have := hl.cell (n + i) p hi
    rw [← Nat.add_assoc] at this
    exact this
  · rw [List.getElem?_drop] at hi
    exact hl.ok (n + i) p hi
  · unfold sliced at e2
    injection e2 with _ e4 e3
    rw [List.length_drop]
    omega
theorem mc_val {ps : List Pt} {v : Value} {w : World} (h : (Fk.mc ps).f v w) : ∃ A C, v = .slice A ps.length C ∧ ps.length ≤ C ∧ (Fk.mc ps).f (.slice A ps.length C) w := by
  obtain ⟨A, C, lb, lo, e, hp, hl⟩ := id h.1
  rw [e] at h
  exact ⟨A, C, e, h.2 A C rfl, h⟩
theorem hc_val {P : List (List (BitVec 8))} {v : Value} {w : World} (h : (Fk.hc P).f v w) : ∃ A C, v = .slice A P.length C ∧ P.length ≤ C ∧ (Fk.hc P).f (.slice A P.length C) w := by
  obtain ⟨A, C, lb, lo, e, hc, hl⟩ := id h
  rw [e] at h
  exact ⟨A, C, e, hc, h⟩
/-- A collision's two inputs; right ones, if it is one. -/
def Fk.cv (f : Bool) : Fk := .inr (.inl ⟨fun v w => ∃ A B u1 u2, v = .agg ([u1, u2] : List Value).toArray ∧ (Fk.sl A).f u1 w ∧ (Fk.sl B).f u2 w ∧ A.length ≤ 100000 ∧ B.length ≤ 100000 ∧ (f = true → rcol A B), by
  rintro v w w' ⟨A, B, u1, u2, e, h1, h2, h⟩ hb
  exact ⟨A, B, u1, u2, e, Fk.mono _ _ _ _ h1 hb, Fk.mono _ _ _ _ h2 hb, h⟩⟩)
theorem c2_cv {f : Bool} {u : Value} {w : World} (h : (Fk.c2 f).f u w) : ∃ v, u = .tuple #[v, .bool f] ∧ (Fk.cv f).f v w := by
  obtain ⟨A, B, u1, u2, e, h⟩ := h
  exact ⟨_, e, A, B, u1, u2, rfl, h⟩
theorem c3_cv {f : Bool} {n : Int} {u : Value} {w : World} (h : (Fk.c3 f n).f u w) : ∃ v, u = .tuple #[v, .bool f, .int .i64 n] ∧ (Fk.cv f).f v w := by
  obtain ⟨A, B, u1, u2, e, h⟩ := h
  exact ⟨_, e, A, B, u1, u2, rfl, h⟩
theorem c2_none (w : World) : (Fk.c2 false).f (.tuple #[.agg ([.slice none 0 0, .slice none 0 0] : List Value).toArray, .bool false]) w := ⟨[], [], _, _, rfl, sl_nil w, sl_nil w, by simp, by simp, fun h => by cases h⟩
theorem c3_none (n : Int) (w : World) : (Fk.c3 false n).f (.tuple #[.agg ([.slice none 0 0, .slice none 0 0] : List Value).toArray, .bool false, .int .i64 n]) w := ⟨[], [], _, _, rfl, sl_nil w, sl_nil w, by simp, by simp, fun h => by cases h⟩
section
variable {Q : Exit → Act → World → Prop} {o : Oper} {a : Act} {w : World}
theorem st_cutmc (x y : Operand) (ho : o.op = .slice 28 x none (some y) none) {ps : List Pt} (h : (Fk.mc ps).f (a.eval x) w) (n : Nat) (hy : a.eval y = .int .i64 (n : Int)) (hn : n ≤ ps.length) : o.wp Tryd.prog a w (Ends a o.dst w (Fk.mc (ps.take n)).f) Q := by
  obtain ⟨A, C, e, hC, h0⟩ := mc_val h
  exact st_pure (v := .slice A n C) (run_cutm (S := fun _ => True) ho e n hy (by omega) w trivial) (mc_take h0 hn)
theorem st_restmc (x y : Operand) (ho : o.op = .slice 28 x (some y) none none) {ps : List Pt} (h : (Fk.mc ps).f (a.eval x) w) (n : Nat) (hy : a.eval y = .int .i64 (n : Int)) (hn : n ≤ ps.length) : o.wp Tryd.prog a w (Ends a o.dst w (Fk.mc (ps.drop n)).f) Q := by
  obtain ⟨A, C, e, hC, h0⟩ := mc_val h
  exact st_pure (v := sliced A n ps.length C 1) (run_restm (S := fun _ => True) ho e n hy hn w trivial) (mc_drop h0 hn)
theorem st_cutl (x y : Operand) (ho : o.op = .slice 35 x none (some y) none) {P0 : List (List (BitVec 8))} {z : List (BitVec 8)} (h : (Fk.hc (P0 ++ [z])).f (a.eval x) w) (hy : a.eval y = .int .i64 (P0.length : Int)) : o.wp Tryd.prog a w (Ends a o.dst w (Fk.hc P0).f) Q := by
  have h1 := st_cuth (Q := Q) x y ho h P0.length hy (by simp)
  rw [List.take_left' rfl] at h1
  exact h1
theorem st_c2a (x : Operand) (ho : o.op = .extract x 0) {f : Bool} (h : (Fk.c2 f).f (a.eval x) w) : o.wp Tryd.prog a w (Ends a o.dst w (Fk.cv f).f) Q := by
  obtain ⟨v, e, hv⟩ := c2_cv h
  exact st_ext0 x ho e hv
theorem st_c2b (x : Operand) (ho : o.op = .extract x 1) {f : Bool} (h : (Fk.c2 f).f (a.eval x) w) : o.wp Tryd.prog a w (Ends a o.dst w (Fk.eq (.bool f)).f) Q := by
  obtain ⟨v, e, hv⟩ := c2_cv h
  exact st_ext1 x ho e rfl
theorem late_c2 {x : Operand} (ho : o.op = .extract x 1) {f : Bool} (h : (Fk.c2 f).f (a.eval x) w) : ∀ w2, (execOp a.eval o).run Tryd.prog w2 = .ok (.value (.bool f)) w2 := by
  obtain ⟨v, e, hv⟩ := c2_cv h
  exact late_ext ho e rfl
theorem st_c3a (x : Operand) (ho : o.op = .extract x 0) {f : Bool} {n : Int} (h : (Fk.c3 f n).f (a.eval x) w) : o.wp Tryd.prog a w (Ends a o.dst w (Fk.cv f).f) Q := by
  obtain ⟨v, e, hv⟩ := c3_cv h
  refine st_pure (v := v) ?_ hv
  unfold execOp
  rw [ho]
  simp [e, Instr.extract]
theorem st_c3b (x : Operand) (ho : o.op = .extract x 1) {f : Bool} {n : Int} (h : (Fk.c3 f n).f (a.eval x) w) : o.wp Tryd.prog a w (Ends a o.dst w (Fk.eq (.bool f)).f) Q := by
  obtain ⟨v, e, hv⟩ := c3_cv h
  exact st_tup x ho e (by rfl)
theorem st_c3c (x : Operand) (ho : o.op = .extract x 2) {f : Bool} {n : Int} (h : (Fk.c3 f n).f (a.eval x) w) : o.wp Tryd.prog a w (Ends a o.dst w (Fk.eq (.int .i64 n)).f) Q := by
  obtain ⟨v, e, hv⟩ := c3_cv h
  exact st_tup x ho e (by rfl)
end
theorem Tryd.sizeHVz : (Tryd.prog.info? 76).map (·.size) = some 64 := by kernel_rfl
theorem ret_h2 {fn : Func} {p : Tmp} (h : fn.results = #[.cell p 76]) (a : Act) (w : World) (g : Nat) {p1 p2 : List (BitVec 8)} (l1 : p1.length = 32) (l2 : p2.length = 32) (hp : a.eval (.tmp p) = .pointer (some ⟨g, 0, none⟩)) (m : Ob w g 76 ((p1 ++ p2).map V)) : (results fn a.tmps).run Tryd.prog w = .ok (.agg ((p1 ++ p2).map V).toArray) w :=
  results_cell_row (P := Tryd.prog) (fn := fn) (p := p) (ty := 76) h _ _ g 76 _ (0, 0) _ hp m Tryd.under76h rfl (by rw [List.size_toArray, List.length_map, len2h l1 l2]; exact Tryd.sizeHVz)
theorem parts_at {pa pb : List Pt} (hl : pa.length ≤ pb.length) (h : bys pa ≠ (bys pb).take pa.length) : ∃ i p q, pa[i]? = some p ∧ pb[i]? = some q ∧ p.bs ≠ q.bs ∧ (bys pa).take i = (bys pb).take i := by
  suffices H : ∀ n, n ≤ pa.length → (bys pa).take n = (bys pb).take n ∨ ∃ i p q, pa[i]? = some p ∧ pb[i]? = some q ∧ p.bs ≠ q.bs ∧ (bys pa).take i = (bys pb).take i by
    rcases H pa.length (Nat.le_refl _) with h1 | h1
    · rw [List.take_of_length_le (by rw [bys_len]; exact Nat.le_refl _)] at h1
      exact absurd h1 h
    · exact h1
  intro n
  induction n with
  | zero => intro _; exact .inl (by simp)
  | succ n ih =>
    intro hn
    rcases ih (by omega) with h1 | h1
    · obtain ⟨p, hp⟩ : ∃ p, pa[n]? = some p := ⟨_, List.getElem?_eq_getElem (by omega)⟩
      obtain ⟨q, hq⟩ : ∃ q, pb[n]? = some q := ⟨_, List.getElem?_eq_getElem (by omega)⟩
      by_cases hpq : p.bs = q.bs
      · exact .inl (take_more h1 (bys_at hp) (by rw [hpq]; exact bys_at hq))
      · exact .inr ⟨n, p, q, hp, hq, hpq, h1⟩
    · exact .inr h1
theorem bys_same {pa pb : List Pt} {n k : Nat} (h : (bys pa).take n = (bys pb).take n) (hk : k < n) {p q : Pt} (hp : pa[k]? = some p) (hq : pb[k]? = some q) : p.bs = q.bs := by
  have h1 := congrArg (fun l => l[k]?) h
  simp only [List.getElem?_take, if_pos hk, bys_at hp, bys_at hq, Option.some.injEq] at h1
  exact h1
theorem parting_same {pa pb : List Pt} (hla : pa.length ≤ 100000) (hab : pa.length ≤ pb.length) {w : World} {va vb : Value} (ha : (Fk.mg pa).f va w) (hb : (Fk.mg pb).f vb w) (hall : (bys pa).take pa.length = (bys pb).take pa.length) :
    Calls Tryd.prog 27 #[va, vb] w fun e w' => e = .returned (.tuple #[.int .i64 0, .bool false]) ∧ Below w.heap.size w w' := by
  go_enter Tryd.func27, Tryd.ntmps27
  refine code_both (fun f w1 => f.tmps.size = 24 ∧ f.defers = [] ∧ f.eval (.tmp 0) = va ∧ f.eval (.tmp 1) = vb ∧ Below w.heap.size w (w1)) ⟨rfl, rfl, rfl, rfl, Below.refl _ _⟩ ?_
  rintro f0 w0 ⟨sz, df, x0, x1, bl⟩
  have sd := And.intro sz df
  clear sz df
  have bl0 := bl
  refine wp_seq ?_
  refine wr_a [.eq (.int .i64 0), .eq (.bool false)] (by rw [sd.1]; kernel_rfl) ⟨fun hw ac u K => ?_, fun hw ac u K => ?_, trivial⟩ ?_
  · exact st_assign (.const (.int .i64 0)) rfl rfl
  · exact st_assign (.const (.bool false)) rfl rfl
  intro f1 w1 A hb
  replace x0 := A.t x0 rfl
  replace x1 := A.t x1 rfl
  replace bl := bgo bl hb
  replace sd := A.sd sd
  clear A hb
  show Code.wp _ _ _ _ _
  refine wp_seq ?_
  refine wp_seq ?_
  refine wr_a [.eq (va), .eq (.int .i64 (((pa).length : Nat) : Int)), .eq (.int .i64 0)] (by rw [sd.1]; kernel_rfl) ⟨fun hw ac u K => ?_, fun hw ac u K => ?_, fun hw ac u K => ?_, trivial⟩ ?_
  · exact st_move (.tmp 0) rfl (K.t x0 rfl)
  · exact st_lenm (.tmp 8) rfl (fk_val (K.dep 0 8 rfl) (Fk.mono _ _ _ _ ha (bgo bl K.grow)))
  · exact st_move (.const (.int .i64 0)) rfl rfl
  intro f2 w2 A hb
  replace x0 := A.t x0 rfl
  replace x1 := A.t x1 rfl
  have x8 := A.e 0 8 rfl rfl
  have x9 := A.e 1 9 rfl rfl
  have x10 := A.e 2 10 rfl rfl
  replace bl := bgo bl hb
  replace sd := A.sd sd
  clear A hb
  clear x0
  show Code.wp _ _ _ _ _
  refine wp_block ?_
  refine wp_loop (fun f v1 => ∃ k : Nat, k ≤ (pa).length ∧ f.tmps.size = 24 ∧ f.defers = [] ∧ f.eval (.tmp 1) = vb ∧ f.eval (.tmp 8) = va ∧ f.eval (.tmp 9) = .int .i64 (((pa).length : Nat) : Int) ∧ f.eval (.tmp 10) = .int .i64 (k : Int) ∧ Below w.heap.size w (v1)) (fun f _ => (pa).length - (intOf (f.eval (.tmp 10))).toNat) ⟨0, Nat.zero_le _, sd.1, sd.2, x1, x8, x9, x10, bl⟩ ?_
  intro f3 w3 hI
  clear sd bl bl0 x1 x8 x9 x10
  obtain ⟨k, hk8, sz, df, x1, x8, x9, x10, bl⟩ := hI
  have sd := And.intro sz df
  clear sz df
  have bl0 := bl
  have hcnt := x10
  refine wp_seq ?_
  by_cases hlt : k < (pa).length
  rotate_left
  · skip
    refine wr_a [.eq (.bool false)] (by rw [sd.1]; kernel_rfl) ⟨fun hw ac u K => ?_, trivial⟩ ?_
    · exact st_lss 3 (.tmp 10) (.tmp 9) rfl .i64 ((k : Int)) ((((pa).length : Nat) : Int)) (K.t x10 rfl) (K.t x9 rfl) _ (by rw [eq_comm, decide_eq_false_iff_not]; exact fun h => hlt (Int.ofNat_lt.1 h))
    intro f4 w4 A hb
    replace x1 := A.t x1 rfl
    replace x8 := A.t x8 rfl
    replace x9 := A.t x9 rfl
    replace x10 := A.t x10 rfl
    have x11 := A.e 0 11 rfl rfl
    replace bl := bgo bl hb
    replace sd := A.sd sd
    clear A hb
    show Code.wp _ _ _ _ _
    refine wp_seq ?_
    refine wp_cond_false x11 ?_
    refine wp_exit ?_
    show Code.wp _ _ _ _ _
    refine wp_seq ?_
    refine wr_a [.eq (.int .i64 0), .eq (.bool false)] (by rw [sd.1]; kernel_rfl) ⟨fun hw ac u K => ?_, fun hw ac u K => ?_, trivial⟩ ?_
    · exact st_assign (.const (.int .i64 0)) rfl rfl
    · exact st_assign (.const (.bool false)) rfl rfl
    intro f5 w5 A hb
    replace x1 := A.t x1 rfl
    replace x8 := A.t x8 rfl
    replace x9 := A.t x9 rfl
    replace x10 := A.t x10 rfl
    replace x11 := A.t x11 rfl
    have x4 := A.e 0 4 rfl rfl
    have x5 := A.e 1 5 rfl rfl
    replace bl := bgo bl hb
    replace sd := A.sd sd
    clear A hb
    clear x11
    show Code.wp _ _ _ _ _
    refine wp_ret ?_
    repeat (first | with_reducible refine then_ret ?_ | with_reducible refine block_ret ?_)
    exact bodyPost_ret (v := .tuple #[.int .i64 0, .bool false]) (ret_two rfl f5 _ _ x4 x5 _ _) sd.2 ⟨rfl, bl⟩
  obtain ⟨p, hpk⟩ : ∃ p, pa[k]? = some p := ⟨_, List.getElem?_eq_getElem (by omega)⟩
  obtain ⟨q, hqk⟩ : ∃ q, pb[k]? = some q := ⟨_, List.getElem?_eq_getElem (by omega)⟩
  have hslp : (Fk.sl p.bs).f (.slice p.sp p.m p.c) w := ⟨_, _, _, _, _, rfl, mg_ok ha hpk⟩
  have hslq : (Fk.sl q.bs).f (.slice q.sp q.m q.c) w := ⟨_, _, _, _, _, rfl, mg_ok hb hqk⟩
  have hpq : p.bs = q.bs := bys_same hall (by omega) hpk hqk
  refine wr_a [.eq (.bool true)] (by rw [sd.1]; kernel_rfl) ⟨fun hw ac u K => ?_, trivial⟩ ?_
  · exact st_lss 3 (.tmp 10) (.tmp 9) rfl .i64 ((k : Int)) ((((pa).length : Nat) : Int)) (K.t x10 rfl) (K.t x9 rfl) _ (by rw [eq_comm, decide_eq_true_iff]; exact Int.ofNat_lt.2 hlt)
  intro f4 w4 A hb
  replace x1 := A.t x1 rfl
  replace x8 := A.t x8 rfl
  replace x9 := A.t x9 rfl
  replace x10 := A.t x10 rfl
  have x11 := A.e 0 11 rfl rfl
  replace bl := bgo bl hb
  replace sd := A.sd sd
  clear A hb
  show Code.wp _ _ _ _ _
  refine wp_seq ?_
  refine wp_cond_true x11 ?_
  refine wp_skip ?_
  show Code.wp _ _ _ _ _
  refine wp_seq ?_
  refine wp_block ?_
  refine wp_seq ?_
  refine wr_a [.eq (.int .i64 (k : Int)), .pv (.slice p.sp p.m p.c), .eq (.slice p.sp p.m p.c), .eq (.int .i64 (k : Int)), .eq (.slice p.sp p.m p.c)] (by rw [sd.1]; kernel_rfl) ⟨fun hw ac u K => ?_, fun hw ac u K => ?_, fun hw ac u K => ?_, fun hw ac u K => ?_, fun hw ac u K => ?_, trivial⟩ ?_
  · exact st_move (.tmp 10) rfl (K.t x10 rfl)
  · exact st_idxm (.tmp 8) (.tmp 10) rfl (fk_val (K.t x8 rfl) (Fk.mono _ _ _ _ ha (bgo bl K.grow))) k p (K.t x10 rfl) hpk
  · exact st_loadsl (.tmp 13) rfl (K.dep 1 13 rfl)
  · exact st_assign (.tmp 12) rfl (K.dep 0 12 rfl)
  · exact st_assign (.tmp 14) rfl (K.dep 2 14 rfl)
  intro f5 w5 A hb
  replace x1 := A.t x1 rfl
  replace x8 := A.t x8 rfl
  replace x9 := A.t x9 rfl
  replace x10 := A.t x10 rfl
  replace x11 := A.t x11 rfl
  have x6 := A.e 3 6 rfl rfl
  have x7 := A.e 4 7 rfl rfl
  replace bl := bgo bl hb
  replace sd := A.sd sd
  clear A hb
  clear x11
  show Code.wp _ _ _ _ _
  refine wp_seq ?_
  refine wr_a [.eq (.slice p.sp p.m p.c), .eq (vb), .eq (.int .i64 (k : Int)), .pv (.slice q.sp q.m q.c), .eq (.slice q.sp q.m q.c), .eq (.bool true), .eq (.bool false)] (by rw [sd.1]; kernel_rfl) ⟨fun hw ac u K => ?_, fun hw ac u K => ?_, fun hw ac u K => ?_, fun hw ac u K => ?_, fun hw ac u K => ?_, fun hw ac u K => ?_, fun hw ac u K => ?_, trivial⟩ ?_
  · exact st_move (.tmp 7) rfl (K.t x7 rfl)
  · exact st_move (.tmp 1) rfl (K.t x1 rfl)
  · exact st_move (.tmp 6) rfl (K.t x6 rfl)
  · exact st_idxm (.tmp 16) (.tmp 17) rfl (fk_val (K.dep 1 16 rfl) (Fk.mono _ _ _ _ hb (bgo bl K.grow))) k q (K.dep 2 17 rfl) hqk
  · exact st_loadsl (.tmp 18) rfl (K.dep 3 18 rfl)
  · exact st_call 25 (.func 25) _ _ _ rfl rfl (arg2 (K.dep 0 15 rfl) (K.dep 4 19 rfl)) Tryd.enter25 (fk_beq (Fk.mono _ _ _ _ hslp (bgo bl K.grow)) (Fk.mono _ _ _ _ hslq (bgo bl K.grow)) (by symm; rw [decide_eq_true_iff]; exact hpq))
  · exact st_not (.tmp 20) rfl true (K.dep 5 20 rfl)
  intro f6 w6 A hb
  replace x1 := A.t x1 rfl
  replace x8 := A.t x8 rfl
  replace x9 := A.t x9 rfl
  replace x10 := A.t x10 rfl
  replace x6 := A.t x6 rfl
  replace x7 := A.t x7 rfl
  have x21 := A.e 6 21 rfl rfl
  replace bl := bgo bl hb
  replace sd := A.sd sd
  clear A hb
  clear x7
  show Code.wp _ _ _ _ _
  refine wp_cond_false x21 ?_
  refine wp_skip ?_
  show Code.wp _ _ _ _ _
  refine wr_s [.eq (.int .i64 ((k + 1 : Nat) : Int))] (by rw [sd.1]; kernel_rfl) ⟨fun hw ac u K => ?_, trivial⟩ ?_
  · exact st_add (.tmp 10) (.const (.int .i64 1)) rfl (k) (1) (k + 1) (K.t x10 rfl) rfl (by omega) (by omega)
  intro f7 w7 A hb
  replace x1 := A.t x1 rfl
  replace x8 := A.t x8 rfl
  replace x9 := A.t x9 rfl
  replace x10 := A.t x10 rfl
  replace x6 := A.t x6 rfl
  replace x21 := A.t x21 rfl
  have x23 := A.e 0 23 rfl rfl
  replace bl := bgo bl hb
  replace sd := A.sd sd
  clear A hb
  clear x6
  clear x21
  refine wl_one (.eq (.int .i64 ((k + 1 : Nat) : Int))) rfl 10 rfl (by rw [sd.1]; decide) (st_move (.tmp 23) rfl x23) ?_
  intro f8 w8 df2 sz2 old2 new2 hb
  replace x1 := tr old2 x1 rfl
  replace x8 := tr old2 x8 rfl
  replace x9 := tr old2 x9 rfl
  clear x10
  replace x23 := tr old2 x23 rfl
  have x10 := Fk.e new2
  replace bl := bgo bl hb
  replace sd := sd2 sz2 df2 sd
  clear df2 sz2 old2 new2 hb
  refine wpList_nil ?_
  clear x23
  show (∃ _, _) ∧ _
  refine ⟨⟨k + 1, by omega, sd.1, sd.2, x1, x8, x9, x10, bl⟩, ?_⟩
  rw [show f8.eval (.tmp 10) = _ from x10, show _ = _ from hcnt]
  first | (simp [intOf]; done) | (simp [intOf]; omega)
theorem parting_diff {pa pb : List Pt} (hla : pa.length ≤ 100000) (hab : pa.length ≤ pb.length) {w : World} {va vb : Value} (ha : (Fk.mg pa).f va w) (hb : (Fk.mg pb).f vb w) {i : Nat} {p0 q0 : Pt} (hp0 : pa[i]? = some p0) (hq0 : pb[i]? = some q0) (hne : p0.bs ≠ q0.bs) (hall : (bys pa).take i = (bys pb).take i) :
    Calls Tryd.prog 27 #[va, vb] w fun e w' => e = .returned (.tuple #[.int .i64 (i : Int), .bool true]) ∧ Below w.heap.size w w' := by
  have hil : i < pa.length := (List.getElem?_eq_some_iff.1 hp0).1
  go_enter Tryd.func27, Tryd.ntmps27
  refine code_both (fun f w1 => f.tmps.size = 24 ∧ f.defers = [] ∧ f.eval (.tmp 0) = va ∧ f.eval (.tmp 1) = vb ∧ Below w.heap.size w (w1)) ⟨rfl, rfl, rfl, rfl, Below.refl _ _⟩ ?_
  rintro f0 w0 ⟨sz, df, x0, x1, bl⟩
  have sd := And.intro sz df
  clear sz df
  have bl0 := bl
  refine wp_seq ?_
  refine wr_a [.eq (.int .i64 0), .eq (.bool false)] (by rw [sd.1]; kernel_rfl) ⟨fun hw ac u K => ?_, fun hw ac u K => ?_, trivial⟩ ?_
  · exact st_assign (.const (.int .i64 0)) rfl rfl
  · exact st_assign (.const (.bool false)) rfl rfl
  intro f1 w1 A hb
  replace x0 := A.t x0 rfl
  replace x1 := A.t x1 rfl
  replace bl := bgo bl hb
  replace sd := A.sd sd
  clear A hb
  show Code.wp _ _ _ _ _
  refine wp_seq ?_
  refine wp_seq ?_
  refine wr_a [.eq (va), .eq (.int .i64 (((pa).length : Nat) : Int)), .eq (.int .i64 0)] (by rw [sd.1]; kernel_rfl) ⟨fun hw ac u K => ?_, fun hw ac u K => ?_, fun hw ac u K => ?_, trivial⟩ ?_
  · exact st_move (.tmp 0) rfl (K.t x0 rfl)
  · exact st_lenm (.tmp 8) rfl (fk_val (K.dep 0 8 rfl) (Fk.mono _ _ _ _ ha (bgo bl K.grow)))
  · exact st_move (.const (.int .i64 0)) rfl rfl
  intro f2 w2 A hb
  replace x0 := A.t x0 rfl
  replace x1 := A.t x1 rfl
  have x8 := A.e 0 8 rfl rfl
  have x9 := A.e 1 9 rfl rfl
  have x10 := A.e 2 10 rfl rfl
  replace bl := bgo bl hb
  replace sd := A.sd sd
  clear A hb
  clear x0
  show Code.wp _ _ _ _ _
  refine wp_block ?_
  refine wp_loop (fun f v1 => ∃ k : Nat, k ≤ i ∧ f.tmps.size = 24 ∧ f.defers = [] ∧ f.eval (.tmp 1) = vb ∧ f.eval (.tmp 8) = va ∧ f.eval (.tmp 9) = .int .i64 (((pa).length : Nat) : Int) ∧ f.eval (.tmp 10) = .int .i64 (k : Int) ∧ Below w.heap.size w (v1)) (fun f _ => (pa).length - (intOf (f.eval (.tmp 10))).toNat) ⟨0, Nat.zero_le _, sd.1, sd.2, x1, x8, x9, x10, bl⟩ ?_
  intro f3 w3 hI
  clear sd bl bl0 x1 x8 x9 x10
  obtain ⟨k, hk8, sz, df, x1, x8, x9, x10, bl⟩ := hI
  have sd := And.intro sz df
  clear sz df
  have bl0 := bl
  have hcnt := x10
  refine wp_seq ?_
  have hlt : k < (pa).length := by omega
  by_cases hki : k < i
  rotate_left
  · skip
    obtain rfl : k = i := by omega
    obtain ⟨p, q, hpk, hqk, hpq⟩ : ∃ p q, pa[k]? = some p ∧ pb[k]? = some q ∧ p.bs ≠ q.bs := ⟨p0, q0, hp0, hq0, hne⟩
    have hslp : (Fk.sl p.bs).f (.slice p.sp p.m p.c) w := ⟨_, _, _, _, _, rfl, mg_ok ha hpk⟩
    have hslq : (Fk.sl q.bs).f (.slice q.sp q.m q.c) w := ⟨_, _, _, _, _, rfl, mg_ok hb hqk⟩
    refine wr_a [.eq (.bool true)] (by rw [sd.1]; kernel_rfl) ⟨fun hw ac u K => ?_, trivial⟩ ?_
    · exact st_lss 3 (.tmp 10) (.tmp 9) rfl .i64 ((k : Int)) ((((pa).length : Nat) : Int)) (K.t x10 rfl) (K.t x9 rfl) _ (by rw [eq_comm, decide_eq_true_iff]; exact Int.ofNat_lt.2 hlt)
    intro f4 w4 A hb
    replace x1 := A.t x1 rfl
    replace x8 := A.t x8 rfl
    replace x9 := A.t x9 rfl
    replace x10 := A.t x10 rfl
    have x11 := A.e 0 11 rfl rfl
    replace bl := bgo bl hb
    replace sd := A.sd sd
    clear A hb
    show Code.wp _ _ _ _ _
    refine wp_seq ?_
    refine wp_cond_true x11 ?_
    refine wp_skip ?_
    show Code.wp _ _ _ _ _
    refine wp_seq ?_
    refine wp_block ?_
    refine wp_seq ?_
    refine wr_a [.eq (.int .i64 (k : Int)), .pv (.slice p.sp p.m p.c), .eq (.slice p.sp p.m p.c), .eq (.int .i64 (k : Int)), .eq (.slice p.sp p.m p.c)] (by rw [sd.1]; kernel_rfl) ⟨fun hw ac u K => ?_, fun hw ac u K => ?_, fun hw ac u K => ?_, fun hw ac u K => ?_, fun hw ac u K => ?_, trivial⟩ ?_
    · exact st_move (.tmp 10) rfl (K.t x10 rfl)
    · exact st_idxm (.tmp 8) (.tmp 10) rfl (fk_val (K.t x8 rfl) (Fk.mono _ _ _ _ ha (bgo bl K.grow))) k p (K.t x10 rfl) hpk
    · exact st_loadsl (.tmp 13) rfl (K.dep 1 13 rfl)
    · exact st_assign (.tmp 12) rfl (K.dep 0 12 rfl)
    · exact st_assign (.tmp 14) rfl (K.dep 2 14 rfl)
    intro f5 w5 A hb
    replace x1 := A.t x1 rfl
    replace x8 := A.t x8 rfl
    replace x9 := A.t x9 rfl
    replace x10 := A.t x10 rfl
    replace x11 := A.t x11 rfl
    have x6 := A.e 3 6 rfl rfl
    have x7 := A.e 4 7 rfl rfl
    replace bl := bgo bl hb
    replace sd := A.sd sd
    clear A hb
    clear x11
    show Code.wp _ _ _ _ _
    refine wp_seq ?_
    refine wr_a [.eq (.slice p.sp p.m p.c), .eq (vb), .eq (.int .i64 (k : Int)), .pv (.slice q.sp q.m q.c), .eq (.slice q.sp q.m q.c), .eq (.bool false), .eq (.bool true)] (by rw [sd.1]; kernel_rfl) ⟨fun hw ac u K => ?_, fun hw ac u K => ?_, fun hw ac u K => ?_, fun hw ac u K => ?_, fun hw ac u K => ?_, fun hw ac u K => ?_, fun hw ac u K => ?_, trivial⟩ ?_
    · exact st_move (.tmp 7) rfl (K.t x7 rfl)
    · exact st_move (.tmp 1) rfl (K.t x1 rfl)
    · exact st_move (.tmp 6) rfl (K.t x6 rfl)
    · exact st_idxm (.tmp 16) (.tmp 17) rfl (fk_val (K.dep 1 16 rfl) (Fk.mono _ _ _ _ hb (bgo bl K.grow))) k q (K.dep 2 17 rfl) hqk
    · exact st_loadsl (.tmp 18) rfl (K.dep 3 18 rfl)
    · exact st_call 25 (.func 25) _ _ _ rfl rfl (arg2 (K.dep 0 15 rfl) (K.dep 4 19 rfl)) Tryd.enter25 (fk_beq (Fk.mono _ _ _ _ hslp (bgo bl K.grow)) (Fk.mono _ _ _ _ hslq (bgo bl K.grow)) (by symm; rw [decide_eq_false_iff_not]; exact hpq))
    · exact st_not (.tmp 20) rfl false (K.dep 5 20 rfl)
    intro f6 w6 A hb
    replace x1 := A.t x1 rfl
    replace x8 := A.t x8 rfl
    replace x9 := A.t x9 rfl
    replace x10 := A.t x10 rfl
    replace x6 := A.t x6 rfl
    replace x7 := A.t x7 rfl
    have x21 := A.e 6 21 rfl rfl
    replace bl := bgo bl hb
    replace sd := A.sd sd
    clear A hb
    clear x7
    show Code.wp _ _ _ _ _
    refine wp_cond_true x21 ?_
    refine wp_seq ?_
    refine wr_a [.eq (.int .i64 (k : Int)), .eq (.int .i64 (k : Int)), .eq (.bool true)] (by rw [sd.1]; kernel_rfl) ⟨fun hw ac u K => ?_, fun hw ac u K => ?_, fun hw ac u K => ?_, trivial⟩ ?_
    · exact st_move (.tmp 6) rfl (K.t x6 rfl)
    · exact st_assign (.tmp 22) rfl (K.dep 0 22 rfl)
    · exact st_assign (.const (.bool true)) rfl rfl
    intro f7 w7 A hb
    replace x1 := A.t x1 rfl
    replace x8 := A.t x8 rfl
    replace x9 := A.t x9 rfl
    replace x10 := A.t x10 rfl
    replace x6 := A.t x6 rfl
    replace x21 := A.t x21 rfl
    have x4 := A.e 1 4 rfl rfl
    have x5 := A.e 2 5 rfl rfl
    replace bl := bgo bl hb
    replace sd := A.sd sd
    clear A hb
    clear x6
    clear x21
    show Code.wp _ _ _ _ _
    refine wp_ret ?_
    repeat (first | with_reducible refine then_ret ?_ | with_reducible refine block_ret ?_)
    exact bodyPost_ret (v := .tuple #[.int .i64 (k : Int), .bool true]) (ret_two rfl f7 _ _ x4 x5 _ _) sd.2 ⟨rfl, bl⟩
  obtain ⟨p, hpk⟩ : ∃ p, pa[k]? = some p := ⟨_, List.getElem?_eq_getElem (by omega)⟩
  obtain ⟨q, hqk⟩ : ∃ q, pb[k]? = some q := ⟨_, List.getElem?_eq_getElem (by omega)⟩
  have hslp : (Fk.sl p.bs).f (.slice p.sp p.m p.c) w := ⟨_, _, _, _, _, rfl, mg_ok ha hpk⟩
  have hslq : (Fk.sl q.bs).f (.slice q.sp q.m q.c) w := ⟨_, _, _, _, _, rfl, mg_ok hb hqk⟩
  have hpq : p.bs = q.bs := bys_same hall (by omega) hpk hqk
  refine wr_a [.eq (.bool true)] (by rw [sd.1]; kernel_rfl) ⟨fun hw ac u K => ?_, trivial⟩ ?_
  · exact st_lss 3 (.tmp 10) (.tmp 9) rfl .i64 ((k : Int)) ((((pa).length : Nat) : Int)) (K.t x10 rfl) (K.t x9 rfl) _ (by rw [eq_comm, decide_eq_true_iff]; exact Int.ofNat_lt.2 hlt)
  intro f4 w4 A hb
  replace x1 := A.t x1 rfl
  replace x8 := A.t x8 rfl
  replace x9 := A.t x9 rfl
  replace x10 := A.t x10 rfl
  have x11 := A.e 0 11 rfl rfl
  replace bl := bgo bl hb
  replace sd := A.sd sd
  clear A hb
  show Code.wp _ _ _ _ _
  refine wp_seq ?_
  refine wp_cond_true x11 ?_
  refine wp_skip ?_
  show Code.wp _ _ _ _ _
  refine wp_seq ?_
  refine wp_block ?_
  refine wp_seq ?_
  refine wr_a [.eq (.int .i64 (k : Int)), .pv (.slice p.sp p.m p.c), .eq (.slice p.sp p.m p.c), .eq (.int .i64 (k : Int)), .eq (.slice p.sp p.m p.c)] (by rw [sd.1]; kernel_rfl) ⟨fun hw ac u K => ?_, fun hw ac u K => ?_, fun hw ac u K => ?_, fun hw ac u K => ?_, fun hw ac u K => ?_, trivial⟩ ?_
  · exact st_move (.tmp 10) rfl (K.t x10 rfl)
  · exact st_idxm (.tmp 8) (.tmp 10) rfl (fk_val (K.t x8 rfl) (Fk.mono _ _ _ _ ha (bgo bl K.grow))) k p (K.t x10 rfl) hpk
  · exact st_loadsl (.tmp 13) rfl (K.dep 1 13 rfl)
  · exact st_assign (.tmp 12) rfl (K.dep 0 12 rfl)
  · exact st_assign (.tmp 14) rfl (K.dep 2 14 rfl)
  intro f5 w5 A hb
  replace x1 := A.t x1 rfl
  replace x8 := A.t x8 rfl
  replace x9 := A.t x9 rfl
  replace x10 := A.t x10 rfl
  replace x11 := A.t x11 rfl
  have x6 := A.e 3 6 rfl rfl
  have x7 := A.e 4 7 rfl rfl
  replace bl := bgo bl hb
  replace sd := A.sd sd
  clear A hb
  clear x11
  show Code.wp _ _ _ _ _
  refine wp_seq ?_
  refine wr_a [.eq (.slice p.sp p.m p.c), .eq (vb), .eq (.int .i64 (k : Int)), .pv (.slice q.sp q.m q.c), .eq (.slice q.sp q.m q.c), .eq (.bool true), .eq (.bool false)] (by rw [sd.1]; kernel_rfl) ⟨fun hw ac u K => ?_, fun hw ac u K => ?_, fun hw ac u K => ?_, fun hw ac u K => ?_, fun hw ac u K => ?_, fun hw ac u K => ?_, fun hw ac u K => ?_, trivial⟩ ?_
  · exact st_move (.tmp 7) rfl (K.t x7 rfl)
  · exact st_move (.tmp 1) rfl (K.t x1 rfl)
  · exact st_move (.tmp 6) rfl (K.t x6 rfl)
  · exact st_idxm (.tmp 16) (.tmp 17) rfl (fk_val (K.dep 1 16 rfl) (Fk.mono _ _ _ _ hb (bgo bl K.grow))) k q (K.dep 2 17 rfl) hqk
  · exact st_loadsl (.tmp 18) rfl (K.dep 3 18 rfl)
  · exact st_call 25 (.func 25) _ _ _ rfl rfl (arg2 (K.dep 0 15 rfl) (K.dep 4 19 rfl)) Tryd.enter25 (fk_beq (Fk.mono _ _ _ _ hslp (bgo bl K.grow)) (Fk.mono _ _ _ _ hslq (bgo bl K.grow)) (by symm; rw [decide_eq_true_iff]; exact hpq))
  · exact st_not (.tmp 20) rfl true (K.dep 5 20 rfl)
  intro f6 w6 A hb
  replace x1 := A.t x1 rfl
  replace x8 := A.t x8 rfl
  replace x9 := A.t x9 rfl
  replace x10 := A.t x10 rfl
  replace x6 := A.t x6 rfl
  replace x7 := A.t x7 rfl
  have x21 := A.e 6 21 rfl rfl
  replace bl := bgo bl hb
  replace sd := A.sd sd
  clear A hb
  clear x7
  show Code.wp _ _ _ _ _
  refine wp_cond_false x21 ?_
  refine wp_skip ?_
  show Code.wp _ _ _ _ _
  refine wr_s [.eq (.int .i64 ((k + 1 : Nat) : Int))] (by rw [sd.1]; kernel_rfl) ⟨fun hw ac u K => ?_, trivial⟩ ?_
  · exact st_add (.tmp 10) (.const (.int .i64 1)) rfl (k) (1) (k + 1) (K.t x10 rfl) rfl (by omega) (by omega)
  intro f7 w7 A hb
  replace x1 := A.t x1 rfl
  replace x8 := A.t x8 rfl
  replace x9 := A.t x9 rfl
  replace x10 := A.t x10 rfl
  replace x6 := A.t x6 rfl
  replace x21 := A.t x21 rfl
  have x23 := A.e 0 23 rfl rfl
  replace bl := bgo bl hb
  replace sd := A.sd sd
  clear A hb
  clear x6
  clear x21
  refine wl_one (.eq (.int .i64 ((k + 1 : Nat) : Int))) rfl 10 rfl (by rw [sd.1]; decide) (st_move (.tmp 23) rfl x23) ?_
  intro f8 w8 df2 sz2 old2 new2 hb
  replace x1 := tr old2 x1 rfl
  replace x8 := tr old2 x8 rfl
  replace x9 := tr old2 x9 rfl
  clear x10
  replace x23 := tr old2 x23 rfl
  have x10 := Fk.e new2
  replace bl := bgo bl hb
  replace sd := sd2 sz2 df2 sd
  clear df2 sz2 old2 new2 hb
  refine wpList_nil ?_
  clear x23
  show (∃ _, _) ∧ _
  refine ⟨⟨k + 1, by omega, sd.1, sd.2, x1, x8, x9, x10, bl⟩, ?_⟩
  rw [show f8.eval (.tmp 10) = _ from x10, show _ = _ from hcnt]
  first | (simp [intOf]; done) | (simp [intOf]; omega)
theorem fk_halves {ps : List Pt} (h40 : ps.length ≤ 1000) (hmx : ∀ p ∈ ps, p.bs.length ≤ 140737488351232) (h2 : 2 ≤ ps.length) {w : World} {v : Value} (hv : (Fk.mc ps).f v w) (hK : Tab w) {k : Nat} (hk : spl ps.length = k) {x y : List (BitVec 8)} (ex : Box (mroot (lhs (ps.take k)) = x)) (ey : Box (mroot (lhs (ps.drop k)) = y)) :
    Calls Tryd.prog 45 #[v] w fun e w' => ∃ u, e = .returned u ∧ (Fk.eq (.agg ((x ++ y).map V).toArray)).f u w' ∧ Below w.heap.size w w' := by
  have hvm := hv.1
  have hk1 : k < ps.length := by rw [← hk]; exact spl_lt h2
  have hx : x.length = 32 := by rw [← ex.out]; exact mroot_len (lhs_32 _)
  have hy : y.length = 32 := by rw [← ey.out]; exact mroot_len (lhs_32 _)
  go_enter Tryd.func45, Tryd.ntmps45
  refine code_both (fun f w1 => f.tmps.size = 16 ∧ f.defers = [] ∧ f.eval (.tmp 0) = v ∧ Below w.heap.size w (w1)) ⟨rfl, rfl, rfl, Below.refl _ _⟩ ?_
  rintro f0 w0 ⟨sz, df, x0, bl⟩
  have sd := And.intro sz df
  clear sz df
  have bl0 := bl
  refine wp_seq ?_
  refine wr_a [.nw w0.heap.size 76 ((hz ++ hz).map V)] (by rw [sd.1]; kernel_rfl) ⟨fun hw ac u K => ?_, trivial⟩ ?_
  · exact st_alloc 76 rfl _ _ (by kernel_rfl) K.grow.size
  intro f1 w1 A hb
  replace bl0 := bl
  replace x0 := A.t x0 rfl
  have x2 : Fk.f (.nw w0.heap.size 76 ((hz ++ hz).map V)) (f1.eval (.tmp 2)) w1 := A.has 0 2 rfl
  replace bl := bgo bl hb
  replace sd := A.sd sd
  clear A hb
  obtain ⟨g2, hg2, e2, m2⟩ := x2
  have x2 := e2
  clear e2
  have hw2 : w.heap.size ≤ g2 := Nat.le_trans bl0.size hg2
  show Code.wp _ _ _ _ _
  refine wp_seq ?_
  refine wr_a [.eq (v), .eq (.int .i64 (((ps).length : Nat) : Int)), .eq (.int .i64 (k : Int)), .eq (.int .i64 (k : Int))] (by rw [sd.1]; kernel_rfl) ⟨fun hw ac u K => ?_, fun hw ac u K => ?_, fun hw ac u K => ?_, fun hw ac u K => ?_, trivial⟩ ?_
  · exact st_move (.tmp 0) rfl (K.t x0 rfl)
  · exact st_lenm (.tmp 4) rfl (fk_val (K.dep 0 4 rfl) (Fk.mono _ _ _ _ hvm (bgo bl K.grow)))
  · exact st_call 35 (.func 35) _ _ _ rfl rfl (one_arg (K.dep 1 5 rfl)) Tryd.enter35 (by rw [← hk]; exact fk_of (split_hi ps.length h2 (by omega) _))
  · exact st_assign (.tmp 6) rfl (K.dep 2 6 rfl)
  intro f2 w2 A hb
  replace x0 := A.t x0 rfl
  replace x2 := A.t x2 rfl
  have x3 := A.e 3 3 rfl rfl
  replace m2 := Ob.below m2 hb
  replace bl := bgo bl hb
  replace sd := A.sd sd
  clear A hb
  show Code.wp _ _ _ _ _
  refine wp_seq ?_
  refine wr_t [.eq (v), .eq (.int .i64 (k : Int)), .mc (ps.take k), .eq (.agg ((x).map V).toArray), .eq (v), .eq (.int .i64 (k : Int)), .mc (ps.drop k), .eq (.agg ((y).map V).toArray), .eq (.agg ((x ++ y).map V).toArray)] [9] Tryd.mixed (by rw [sd.1]; kernel_rfl) ⟨fun hw ac u K => ?_, fun hw ac u K => ?_, fun hw ac u K => ?_, fun hw ac u K => ?_, fun hw ac u K => ?_, fun hw ac u K => ?_, fun hw ac u K => ?_, fun hw ac u K => ?_, fun hw ac u K => ?_, trivial⟩ ?_
  · exact st_move (.tmp 0) rfl (K.t x0 rfl)
  · exact st_move (.tmp 3) rfl (K.t x3 rfl)
  · exact st_cutmc (.tmp 7) (.tmp 8) rfl (fk_val (K.dep 0 7 rfl) (Fk.mono _ _ _ _ hv (bgo bl K.grow))) k (K.dep 1 8 rfl) (by omega)
  · exact st_call 31 (.func 31) _ _ _ rfl rfl (one_arg rfl) Tryd.enter31 (fk_lroot (by rw [List.length_take]; omega) (fun p hp => hmx p (List.mem_of_mem_take hp)) (mc_mg (K.dep 2 9 rfl)) (hK.below (bgo bl K.grow)) ex)
  · exact st_move (.tmp 0) rfl (K.t x0 rfl)
  · exact st_move (.tmp 3) rfl (K.t x3 rfl)
  · exact st_restmc (.tmp 11) (.tmp 12) rfl (fk_val (K.dep 4 11 rfl) (Fk.mono _ _ _ _ hv (bgo bl K.grow))) k (K.dep 5 12 rfl) (by omega)
  · exact st_call 31 (.func 31) _ _ _ rfl rfl (one_arg rfl) Tryd.enter31 (fk_lroot (by rw [List.length_drop]; omega) (fun p hp => hmx p (List.mem_of_mem_drop hp)) (mc_mg (K.dep 6 13 rfl)) (hK.below (bgo bl K.grow)) ey)
  · exact st_build2h (.tmp 10) (.tmp 14) rfl hx hy (K.dep 3 10 rfl) (K.dep 7 14 rfl)
  intro f3 w3 A hb
  replace x0 := A.t x0 rfl
  replace x2 := A.t x2 rfl
  replace x3 := A.t x3 rfl
  have x15 := A.e 8 15 rfl rfl
  replace m2 := Ob.below m2 hb
  replace bl := bgo bl hb
  replace sd := A.sd sd
  clear A hb
  clear x0
  clear x3
  refine wl_str rfl 76 (.tmp 2) (.tmp 15) rfl rfl (g2) ((x ++ y).map V : List Value).toArray x2 x15 76 _ m2 (by rw [List.size_toArray, List.length_map, (len2h hx hy)]; kernel_rfl) (by rw [List.size_toArray, List.size_toArray, List.length_map, List.length_map, (len2h hz_len hz_len), (len2h hx hy)]) (V_all2h _) ?_
  replace m2 : Ob (w3.setRow g2 ((x ++ y).map V : List Value).toArray) (g2) 76 ((x ++ y).map V) := Ob.setRow m2 ((x ++ y).map V)
  replace bl : Below w.heap.size w (w3.setRow g2 ((x ++ y).map V : List Value).toArray) := bl.trans (below_setRow _ _ _ _ hw2)
  generalize w3.setRow g2 ((x ++ y).map V : List Value).toArray = w4b at bl m2 ⊢
  refine wpList_nil ?_
  clear x15
  show Code.wp _ _ _ _ _
  refine wp_ret ?_
  repeat (first | with_reducible refine then_ret ?_ | with_reducible refine block_ret ?_)
  exact bodyPost_ret (v := .agg ((x ++ y).map V).toArray) (ret_h2 rfl f3 _ g2 hx hy x2 m2) sd.2 ⟨_, rfl, rfl, bl⟩
theorem fk_against {p q r s : List (BitVec 8)} (hp : p.length = 32) (hq : q.length = 32) (hr : r.length = 32) (hs : s.length = 32) (hnd : nd p q = nd r s) {f : Bool} (hf : f = decide (¬ (p = r ∧ q = s))) (w : World) :
    Calls Tryd.prog 46 #[.agg ((p ++ q).map V).toArray, .agg ((r ++ s).map V).toArray] w fun e w' => ∃ u, e = .returned u ∧ (Fk.c2 f).f u w' ∧ Below w.heap.size w w' := by
  go_enter Tryd.func46, Tryd.ntmps46
  refine code_both (fun f w1 => f.tmps.size = 15 ∧ f.defers = [] ∧ f.eval (.tmp 0) = .agg ((p ++ q).map V).toArray ∧ f.eval (.tmp 1) = .agg ((r ++ s).map V).toArray ∧ Below w.heap.size w (w1)) ⟨rfl, rfl, rfl, rfl, Below.refl _ _⟩ ?_
  rintro f0 w0 ⟨sz, df, x0, x1, bl⟩
  have sd := And.intro sz df
  clear sz df
  have bl0 := bl
  refine wp_seq ?_
  refine wr_s [] (by rw [sd.1]; kernel_rfl) trivial ?_
  intro f1 w1 A hb
  replace x0 := A.t x0 rfl
  replace x1 := A.t x1 rfl
  replace bl := bgo bl hb
  replace sd := A.sd sd
  clear A hb
  refine wl_one (.nw w1.heap.size 76 ((p ++ q).map V)) rfl 2 rfl (by rw [sd.1]; decide) (st_box 76 (.tmp 0) rfl _ _ (by rw [show _ = _ from x0]; kernel_rfl) (Nat.le_refl _)) ?_
  intro f2 w2 df2 sz2 old2 new2 hb
  replace bl0 := bl
  replace x0 := tr old2 x0 rfl
  replace x1 := tr old2 x1 rfl
  have x2 : Fk.f (.nw w1.heap.size 76 ((p ++ q).map V)) (f2.eval (.tmp 2)) w2 := new2
  replace bl := bgo bl hb
  replace sd := sd2 sz2 df2 sd
  clear df2 sz2 old2 new2 hb
  obtain ⟨g2, hg2, e2, m2⟩ := x2
  have x2 := e2
  clear e2
  have hw2 : w.heap.size ≤ g2 := Nat.le_trans bl0.size hg2
  clear x0
  refine wl_one (.nw w2.heap.size 76 ((r ++ s).map V)) rfl 3 rfl (by rw [sd.1]; decide) (st_box 76 (.tmp 1) rfl _ _ (by rw [show _ = _ from x1]; kernel_rfl) (Nat.le_refl _)) ?_
  intro f3 w3 df2 sz2 old2 new2 hb
  replace bl0 := bl
  replace x1 := tr old2 x1 rfl
  replace x2 := tr old2 x2 rfl
  have x3 : Fk.f (.nw w2.heap.size 76 ((r ++ s).map V)) (f3.eval (.tmp 3)) w3 := new2
  have lt_m2 := Ob.lt m2
  replace m2 := Ob.below m2 hb
  replace bl := bgo bl hb
  replace sd := sd2 sz2 df2 sd
  clear df2 sz2 old2 new2 hb
  obtain ⟨g3, hg3, e3, m3⟩ := x3
  have x3 := e3
  clear e3
  have nm2_3 : g2 ≠ g3 := Nat.ne_of_lt (Nat.lt_of_lt_of_le lt_m2 hg3)
  have hw3 : w.heap.size ≤ g3 := Nat.le_trans bl0.size hg3
  clear x1
  refine wl_one (.nw w3.heap.size 25 [.slice none 0 0, .slice none 0 0]) rfl 4 rfl (by rw [sd.1]; decide) (st_alloc 25 rfl _ _ (by kernel_rfl) (Nat.le_refl _)) ?_
  intro f4 w4 df2 sz2 old2 new2 hb
  replace bl0 := bl
  replace x2 := tr old2 x2 rfl
  replace x3 := tr old2 x3 rfl
  have x4 : Fk.f (.nw w3.heap.size 25 [.slice none 0 0, .slice none 0 0]) (f4.eval (.tmp 4)) w4 := new2
  have lt_m2 := Ob.lt m2
  replace m2 := Ob.below m2 hb
  have lt_m3 := Ob.lt m3
  replace m3 := Ob.below m3 hb
  replace bl := bgo bl hb
  replace sd := sd2 sz2 df2 sd
  clear df2 sz2 old2 new2 hb
  obtain ⟨g4, hg4, e4, m4⟩ := x4
  have x4 := e4
  clear e4
  have nm2_4 : g2 ≠ g4 := Nat.ne_of_lt (Nat.lt_of_lt_of_le lt_m2 hg4)
  have nm3_4 : g3 ≠ g4 := Nat.ne_of_lt (Nat.lt_of_lt_of_le lt_m3 hg4)
  have hw4 : w.heap.size ≤ g4 := Nat.le_trans bl0.size hg4
  refine wl_one (.eq (.bool false)) rfl 5 rfl (by rw [sd.1]; decide) (st_assign (.const (.bool false)) rfl rfl) ?_
  intro f5 w5 df2 sz2 old2 new2 hb
  replace x2 := tr old2 x2 rfl
  replace x3 := tr old2 x3 rfl
  replace x4 := tr old2 x4 rfl
  have x5 := Fk.e new2
  replace m2 := Ob.below m2 hb
  replace m3 := Ob.below m3 hb
  replace m4 := Ob.below m4 hb
  replace bl := bgo bl hb
  replace sd := sd2 sz2 df2 sd
  clear df2 sz2 old2 new2 hb
  refine wpList_nil ?_
  clear x5
  show Code.wp _ _ _ _ _
  refine wp_seq ?_
  refine wp_seq ?_
  by_cases hq2 : p = r ∧ q = s
  rotate_left
  · skip
    obtain rfl : f = true := by rw [hf]; simp only [decide_eq_true_eq]; exact hq2
    refine wr_a [.eq (.agg ((p ++ q).map V).toArray), .eq (.agg ((r ++ s).map V).toArray), .eq (.bool false)] (by rw [sd.1]; kernel_rfl) ⟨fun hw ac u K => ?_, fun hw ac u K => ?_, fun hw ac u K => ?_, trivial⟩ ?_
    · exact st_loadz 76 (.tmp 2) rfl (g2) 0 ((p ++ q).map V) (by kernel_rfl) (by rw [List.length_map, (len2h hp hq)]; kernel_rfl) (K.t x2 rfl) (Ob.range (Ob.below m2 K.grow) 0 _ (fun j v hj => by simpa using hj))
    · exact st_loadz 76 (.tmp 3) rfl (g3) 0 ((r ++ s).map V) (by kernel_rfl) (by rw [List.length_map, (len2h hr hs)]; kernel_rfl) (K.t x3 rfl) (Ob.range (Ob.below m3 K.grow) 0 _ (fun j v hj => by simpa using hj))
    · exact st_eq2h (.tmp 6) (.tmp 7) rfl hp hq hr hs (K.dep 0 6 rfl) (K.dep 1 7 rfl) _ (by symm; rw [decide_eq_false_iff_not]; exact hq2)
    intro f6 w6 A hb
    replace x2 := A.t x2 rfl
    replace x3 := A.t x3 rfl
    replace x4 := A.t x4 rfl
    have x8 := A.e 2 8 rfl rfl
    replace m2 := Ob.below m2 hb
    replace m3 := Ob.below m3 hb
    replace m4 := Ob.below m4 hb
    replace bl := bgo bl hb
    replace sd := A.sd sd
    clear A hb
    show Code.wp _ _ _ _ _
    refine wp_cond_false x8 ?_
    refine wp_skip ?_
    show Code.wp _ _ _ _ _
    refine wp_seq ?_
    refine wr_t [.eq (.agg ((p ++ q).map V).toArray), .sl (kb 1 :: (p ++ q)), .eq (.agg ((r ++ s).map V).toArray), .sl (kb 1 :: (r ++ s))] [4, 5, 6] Tryd.mixed (by rw [sd.1]; kernel_rfl) ⟨fun hw ac u K => ?_, fun hw ac u K => ?_, fun hw ac u K => ?_, fun hw ac u K => ?_, trivial⟩ ?_
    · exact st_loadz 76 (.tmp 2) rfl (g2) 0 ((p ++ q).map V) (by kernel_rfl) (by rw [List.length_map, (len2h hp hq)]; kernel_rfl) (K.t x2 rfl) (Ob.range (Ob.below m2 K.grow) 0 _ (fun j v hj => by simpa using hj))
    · exact st_call 60 (.func 60) _ _ _ rfl rfl (one_arg (K.dep 0 10 rfl)) Tryd.enter60 (fk_hinput hp hq _)
    · exact st_loadz 76 (.tmp 3) rfl (g3) 0 ((r ++ s).map V) (by kernel_rfl) (by rw [List.length_map, (len2h hr hs)]; kernel_rfl) (K.t x3 rfl) (Ob.range (Ob.below m3 K.grow) 0 _ (fun j v hj => by simpa using hj))
    · exact st_call 60 (.func 60) _ _ _ rfl rfl (one_arg (K.dep 2 12 rfl)) Tryd.enter60 (fk_hinput hr hs _)
    intro f7 w7 A hb
    replace x2 := A.t x2 rfl
    replace x3 := A.t x3 rfl
    replace x4 := A.t x4 rfl
    replace x8 := A.t x8 rfl
    have x11 : Fk.f (.sl (kb 1 :: (p ++ q))) (f7.eval (.tmp 11)) w7 := A.has 1 11 rfl
    have x13 : Fk.f (.sl (kb 1 :: (r ++ s))) (f7.eval (.tmp 13)) w7 := A.has 3 13 rfl
    replace m2 := Ob.below m2 hb
    replace m3 := Ob.below m3 hb
    replace m4 := Ob.below m4 hb
    replace bl := bgo bl hb
    replace sd := A.sd sd
    clear A hb
    clear x2
    clear x3
    clear x8
    have h6 := x11
    obtain ⟨sp11, sm11, sc11, _, _, e11, _⟩ := id x11
    rw [e11] at h6
    replace x11 := e11
    clear e11
    have h8 := x13
    obtain ⟨sp13, sm13, sc13, _, _, e13, _⟩ := id x13
    rw [e13] at h8
    replace x13 := e13
    clear e13
    refine wl_one (.eq (.agg ([.slice sp11 sm11 sc11, .slice sp13 sm13 sc13] : List Value).toArray)) rfl 14 rfl (by rw [sd.1]; decide) (st_build 25 _ rfl (by simp only [List.map_toArray, List.map_cons, List.map_nil, show f7.eval (.tmp 11) = _ from x11, show f7.eval (.tmp 13) = _ from x13]; kernel_rfl)) ?_
    intro f8 w8 df2 sz2 old2 new2 hb
    replace x4 := tr old2 x4 rfl
    replace x11 := tr old2 x11 rfl
    replace x13 := tr old2 x13 rfl
    have x14 := Fk.e new2
    replace m2 := Ob.below m2 hb
    replace m3 := Ob.below m3 hb
    replace m4 := Ob.below m4 hb
    replace h6 := Fk.mono _ _ _ _ h6 hb
    replace h8 := Fk.mono _ _ _ _ h8 hb
    replace bl := bgo bl hb
    replace sd := sd2 sz2 df2 sd
    clear df2 sz2 old2 new2 hb
    clear x11
    clear x13
    refine wl_str rfl 25 (.tmp 4) (.tmp 14) rfl rfl (g4) ([.slice sp11 sm11 sc11, .slice sp13 sm13 sc13] : List Value).toArray x4 x14 25 _ m4 (by kernel_rfl) (by kernel_rfl) (by kernel_rfl) ?_
    replace h6 := sl_setRow (ds := ([.slice sp11 sm11 sc11, .slice sp13 sm13 sc13] : List Value).toArray) h6 m4
    replace h8 := sl_setRow (ds := ([.slice sp11 sm11 sc11, .slice sp13 sm13 sc13] : List Value).toArray) h8 m4
    replace m2 : Ob (w8.setRow g4 ([.slice sp11 sm11 sc11, .slice sp13 sm13 sc13] : List Value).toArray) (g2) 76 ((p ++ q).map V) := Ob.setRow_other m2 _ nm2_4
    replace m3 : Ob (w8.setRow g4 ([.slice sp11 sm11 sc11, .slice sp13 sm13 sc13] : List Value).toArray) (g3) 76 ((r ++ s).map V) := Ob.setRow_other m3 _ nm3_4
    replace m4 : Ob (w8.setRow g4 ([.slice sp11 sm11 sc11, .slice sp13 sm13 sc13] : List Value).toArray) (g4) 25 ([.slice sp11 sm11 sc11, .slice sp13 sm13 sc13]) := Ob.setRow m4 ([.slice sp11 sm11 sc11, .slice sp13 sm13 sc13])
    replace bl : Below w.heap.size w (w8.setRow g4 ([.slice sp11 sm11 sc11, .slice sp13 sm13 sc13] : List Value).toArray) := bl.trans (below_setRow _ _ _ _ hw4)
    generalize w8.setRow g4 ([.slice sp11 sm11 sc11, .slice sp13 sm13 sc13] : List Value).toArray = w9b at bl m2 m3 m4 h6 h8 ⊢
    clear x14
    refine wl_one (.eq (.bool true)) rfl 5 rfl (by rw [sd.1]; decide) (st_assign (.const (.bool true)) rfl rfl) ?_
    intro f10 w10 df2 sz2 old2 new2 hb
    replace x4 := tr old2 x4 rfl
    have x5 := Fk.e new2
    replace m2 := Ob.below m2 hb
    replace m3 := Ob.below m3 hb
    replace m4 := Ob.below m4 hb
    replace h6 := Fk.mono _ _ _ _ h6 hb
    replace h8 := Fk.mono _ _ _ _ h8 hb
    replace bl := bgo bl hb
    replace sd := sd2 sz2 df2 sd
    clear df2 sz2 old2 new2 hb
    refine wpList_nil ?_
    clear m2 m3
    show Code.wp _ _ _ _ _
    refine wp_ret ?_
    repeat (first | with_reducible refine then_ret ?_ | with_reducible refine block_ret ?_)
    exact bodyPost_ret (v := .tuple #[.agg ([.slice sp11 sm11 sc11, .slice sp13 sm13 sc13] : List Value).toArray, .bool true]) (ret_c2 rfl f10 _ g4 _ _ _ x4 m4 x5) sd.2 ⟨_, rfl, ⟨_, _, _, _, rfl, h6, h8, by rw [List.length_cons, List.length_append, hp, hq]; decide, by rw [List.length_cons, List.length_append, hr, hs]; decide, fun _ => rcol_node hp hr hnd hq2⟩, bl⟩
  obtain rfl : f = false := by rw [hf]; simp [hq2]
  refine wr_a [.eq (.agg ((p ++ q).map V).toArray), .eq (.agg ((r ++ s).map V).toArray), .eq (.bool true)] (by rw [sd.1]; kernel_rfl) ⟨fun hw ac u K => ?_, fun hw ac u K => ?_, fun hw ac u K => ?_, trivial⟩ ?_
  · exact st_loadz 76 (.tmp 2) rfl (g2) 0 ((p ++ q).map V) (by kernel_rfl) (by rw [List.length_map, (len2h hp hq)]; kernel_rfl) (K.t x2 rfl) (Ob.range (Ob.below m2 K.grow) 0 _ (fun j v hj => by simpa using hj))
  · exact st_loadz 76 (.tmp 3) rfl (g3) 0 ((r ++ s).map V) (by kernel_rfl) (by rw [List.length_map, (len2h hr hs)]; kernel_rfl) (K.t x3 rfl) (Ob.range (Ob.below m3 K.grow) 0 _ (fun j v hj => by simpa using hj))
  · exact st_eq2h (.tmp 6) (.tmp 7) rfl hp hq hr hs (K.dep 0 6 rfl) (K.dep 1 7 rfl) _ (by symm; rw [decide_eq_true_iff]; exact hq2)
  intro f6 w6 A hb
  replace x2 := A.t x2 rfl
  replace x3 := A.t x3 rfl
  replace x4 := A.t x4 rfl
  have x8 := A.e 2 8 rfl rfl
  replace m2 := Ob.below m2 hb
  replace m3 := Ob.below m3 hb
  replace m4 := Ob.below m4 hb
  replace bl := bgo bl hb
  replace sd := A.sd sd
  clear A hb
  show Code.wp _ _ _ _ _
  refine wp_cond_true x8 ?_
  refine wp_seq ?_
  refine wr_s [.eq (.agg ([.slice none 0 0, .slice none 0 0] : List Value).toArray)] (by rw [sd.1]; kernel_rfl) ⟨fun hw ac u K => ?_, trivial⟩ ?_
  · exact st_build 25 _ rfl (by kernel_rfl)
  intro f7 w7 A hb
  replace x2 := A.t x2 rfl
  replace x3 := A.t x3 rfl
  replace x4 := A.t x4 rfl
  replace x8 := A.t x8 rfl
  have x9 := A.e 0 9 rfl rfl
  replace m2 := Ob.below m2 hb
  replace m3 := Ob.below m3 hb
  replace m4 := Ob.below m4 hb
  replace bl := bgo bl hb
  replace sd := A.sd sd
  clear A hb
  clear x2
  clear x3
  clear x8
  refine wl_str rfl 25 (.tmp 4) (.tmp 9) rfl rfl (g4) ([.slice none 0 0, .slice none 0 0] : List Value).toArray x4 x9 25 _ m4 (by kernel_rfl) (by kernel_rfl) (by kernel_rfl) ?_
  replace m2 : Ob (w7.setRow g4 ([.slice none 0 0, .slice none 0 0] : List Value).toArray) (g2) 76 ((p ++ q).map V) := Ob.setRow_other m2 _ nm2_4
  replace m3 : Ob (w7.setRow g4 ([.slice none 0 0, .slice none 0 0] : List Value).toArray) (g3) 76 ((r ++ s).map V) := Ob.setRow_other m3 _ nm3_4
  replace m4 : Ob (w7.setRow g4 ([.slice none 0 0, .slice none 0 0] : List Value).toArray) (g4) 25 ([.slice none 0 0, .slice none 0 0]) := Ob.setRow m4 ([.slice none 0 0, .slice none 0 0])
  replace bl : Below w.heap.size w (w7.setRow g4 ([.slice none 0 0, .slice none 0 0] : List Value).toArray) := bl.trans (below_setRow _ _ _ _ hw4)
  generalize w7.setRow g4 ([.slice none 0 0, .slice none 0 0] : List Value).toArray = w8b at bl m2 m3 m4 ⊢
  clear x9
  refine wl_one (.eq (.bool false)) rfl 5 rfl (by rw [sd.1]; decide) (st_assign (.const (.bool false)) rfl rfl) ?_
  intro f9 w9 df2 sz2 old2 new2 hb
  replace x4 := tr old2 x4 rfl
  have x5 := Fk.e new2
  replace m2 := Ob.below m2 hb
  replace m3 := Ob.below m3 hb
  replace m4 := Ob.below m4 hb
  replace bl := bgo bl hb
  replace sd := sd2 sz2 df2 sd
  clear df2 sz2 old2 new2 hb
  refine wpList_nil ?_
  clear m2 m3
  show Code.wp _ _ _ _ _
  refine wp_ret ?_
  repeat (first | with_reducible refine then_ret ?_ | with_reducible refine block_ret ?_)
  exact bodyPost_ret (v := .tuple #[.agg ([.slice none 0 0, .slice none 0 0] : List Value).toArray, .bool false]) (ret_c2 rfl f9 _ g4 _ _ _ x4 m4 x5) sd.2 ⟨_, rfl, c2_none _, bl⟩
theorem fk_said_l {lf0 x y : List (BitVec 8)} {P0 : List (List (BitVec 8))} {i n k : Nat} (hf : lf0.length = 32) (h2 : 2 ≤ n) (hn : n ≤ 1000) (hk : spl n = k) (hi : i < k) (hl : P0.length = (sds i k).length) (ey : Box (ldt lf0 P0 (sds i k) = y)) (hP : P0.length ≤ 1000) {w : World} {v : Value} (hv : (Fk.hc (P0 ++ [x])).f v w) (hK : Tab w) :
    Calls Tryd.prog 47 #[.agg ((lf0).map V).toArray, .int .i64 (i : Int), .int .i64 (n : Int), v] w fun e w' => ∃ u, e = .returned u ∧ (Fk.eq (.agg ((y ++ x).map V).toArray)).f u w' ∧ Below w.heap.size w w' := by
  have hvs := hc_hs hv
  have hk1 : k < n := by rw [← hk]; exact spl_lt h2
  have hx : x.length = 32 := hc_len hv x (by simp)
  have hy : y.length = 32 := by rw [← ey.out]; exact ldt_len hf _ _
  have hPx : (P0 ++ [x])[P0.length]? = some x := by simp
  go_enter Tryd.func47, Tryd.ntmps47
  refine code_both (fun f w1 => f.tmps.size = 59 ∧ f.defers = [] ∧ f.eval (.tmp 0) = .agg ((lf0).map V).toArray ∧ f.eval (.tmp 1) = .int .i64 (i : Int) ∧ f.eval (.tmp 2) = .int .i64 (n : Int) ∧ f.eval (.tmp 3) = v ∧ Below w.heap.size w (w1)) ⟨rfl, rfl, rfl, rfl, rfl, rfl, Below.refl _ _⟩ ?_
  rintro f0 w0 ⟨sz, df, x0, x1, x2, x3, bl⟩
  have sd := And.intro sz df
  clear sz df
  have bl0 := bl
  refine wp_seq ?_
  refine wr_s [] (by rw [sd.1]; kernel_rfl) trivial ?_
  intro f1 w1 A hb
  replace x0 := A.t x0 rfl
  replace x1 := A.t x1 rfl
  replace x2 := A.t x2 rfl
  replace x3 := A.t x3 rfl
  replace bl := bgo bl hb
  replace sd := A.sd sd
  clear A hb
  refine wl_one (.nw w1.heap.size 33 ((lf0).map V)) rfl 4 rfl (by rw [sd.1]; decide) (st_box 33 (.tmp 0) rfl _ _ (by rw [show _ = _ from x0]; kernel_rfl) (Nat.le_refl _)) ?_
  intro f2 w2 df2 sz2 old2 new2 hb
  replace bl0 := bl
  replace x0 := tr old2 x0 rfl
  replace x1 := tr old2 x1 rfl
  replace x2 := tr old2 x2 rfl
  replace x3 := tr old2 x3 rfl
  have x4 : Fk.f (.nw w1.heap.size 33 ((lf0).map V)) (f2.eval (.tmp 4)) w2 := new2
  replace bl := bgo bl hb
  replace sd := sd2 sz2 df2 sd
  clear df2 sz2 old2 new2 hb
  obtain ⟨g4, hg4, e4, m4⟩ := x4
  have x4 := e4
  clear e4
  have hw4 : w.heap.size ≤ g4 := Nat.le_trans bl0.size hg4
  clear x0
  refine wl_one (.nw w2.heap.size 76 ((hz ++ hz).map V)) rfl 8 rfl (by rw [sd.1]; decide) (st_alloc 76 rfl _ _ (by kernel_rfl) (Nat.le_refl _)) ?_
  intro f3 w3 df2 sz2 old2 new2 hb
  replace bl0 := bl
  replace x1 := tr old2 x1 rfl
  replace x2 := tr old2 x2 rfl
  replace x3 := tr old2 x3 rfl
  replace x4 := tr old2 x4 rfl
  have x8 : Fk.f (.nw w2.heap.size 76 ((hz ++ hz).map V)) (f3.eval (.tmp 8)) w3 := new2
  have lt_m4 := Ob.lt m4
  replace m4 := Ob.below m4 hb
  replace bl := bgo bl hb
  replace sd := sd2 sz2 df2 sd
  clear df2 sz2 old2 new2 hb
  obtain ⟨g8, hg8, e8, m8⟩ := x8
  have x8 := e8
  clear e8
  have nm4_8 : g4 ≠ g8 := Nat.ne_of_lt (Nat.lt_of_lt_of_le lt_m4 hg8)
  have hw8 : w.heap.size ≤ g8 := Nat.le_trans bl0.size hg8
  refine wpList_nil ?_
  show Code.wp _ _ _ _ _
  refine wp_seq ?_
  refine wr_a [.eq (.int .i64 (n : Int)), .eq (.int .i64 (k : Int)), .eq (v), .eq (.int .i64 ((P0.length + 1 : Nat) : Int)), .eq (.int .i64 (P0.length : Int)), .eq (.int .i64 (k : Int)), .eq (.int .i64 (P0.length : Int))] (by rw [sd.1]; kernel_rfl) ⟨fun hw ac u K => ?_, fun hw ac u K => ?_, fun hw ac u K => ?_, fun hw ac u K => ?_, fun hw ac u K => ?_, fun hw ac u K => ?_, fun hw ac u K => ?_, trivial⟩ ?_
  · exact st_move (.tmp 2) rfl (K.t x2 rfl)
  · exact st_call 35 (.func 35) _ _ _ rfl rfl (one_arg (K.dep 0 15 rfl)) Tryd.enter35 (by rw [← hk]; exact fk_of (split_hi n h2 (by omega) _))
  · exact st_move (.tmp 3) rfl (K.t x3 rfl)
  · exact st_lenc (.tmp 17) rfl (P0.length + 1) (by simp) (fk_val (K.dep 2 17 rfl) (Fk.mono _ _ _ _ hv (bgo bl K.grow)))
  · exact st_subz (.tmp 18) (.const (.int .i64 1)) rfl _ 1 _ (K.dep 3 18 rfl) rfl (by omega) (by omega) (by omega)
  · exact st_assign (.tmp 16) rfl (K.dep 1 16 rfl)
  · exact st_assign (.tmp 19) rfl (K.dep 4 19 rfl)
  intro f4 w4 A hb
  replace x1 := A.t x1 rfl
  replace x2 := A.t x2 rfl
  replace x3 := A.t x3 rfl
  replace x4 := A.t x4 rfl
  replace x8 := A.t x8 rfl
  have x9 := A.e 5 9 rfl rfl
  have x10 := A.e 6 10 rfl rfl
  replace m4 := Ob.below m4 hb
  replace m8 := Ob.below m8 hb
  replace bl := bgo bl hb
  replace sd := A.sd sd
  clear A hb
  show Code.wp _ _ _ _ _
  refine wp_seq ?_
  refine wp_seq ?_
  refine wr_a [.eq (.int .i64 (i : Int)), .eq (.int .i64 (k : Int)), .eq (.bool true)] (by rw [sd.1]; kernel_rfl) ⟨fun hw ac u K => ?_, fun hw ac u K => ?_, fun hw ac u K => ?_, trivial⟩ ?_
  · exact st_move (.tmp 1) rfl (K.t x1 rfl)
  · exact st_move (.tmp 9) rfl (K.t x9 rfl)
  · exact st_lss 3 (.tmp 20) (.tmp 21) rfl .i64 ((i : Int)) ((k : Int)) (K.dep 0 20 rfl) (K.dep 1 21 rfl) _ (by first | (simp; done) | (simp; omega))
  intro f5 w5 A hb
  replace x1 := A.t x1 rfl
  replace x2 := A.t x2 rfl
  replace x3 := A.t x3 rfl
  replace x4 := A.t x4 rfl
  replace x8 := A.t x8 rfl
  replace x9 := A.t x9 rfl
  replace x10 := A.t x10 rfl
  have x22 := A.e 2 22 rfl rfl
  replace m4 := Ob.below m4 hb
  replace m8 := Ob.below m8 hb
  replace bl := bgo bl hb
  replace sd := A.sd sd
  clear A hb
  show Code.wp _ _ _ _ _
  refine wp_cond_true x22 ?_
  refine wp_seq ?_
  refine wp_region_late [.eq (.agg ((lf0).map V).toArray), .eq (.int .i64 (i : Int)), .eq (.int .i64 (k : Int)), .eq (v), .eq (.int .i64 (P0.length : Int)), .hc (P0), .eq (.tuple #[.agg ((y).map V).toArray, .int .i64 0]), .eq (.tuple #[.agg ((y).map V).toArray, .int .i64 0]), .eq (.agg ((y).map V).toArray), .eq (.int .i64 0), .nw w5.heap.size 33 ((hz).map V)] 9 32 _ _ [12] Tryd.mixed (by kernel_rfl) (by kernel_rfl) (by kernel_rfl) (by kernel_rfl) (by kernel_rfl) rfl rfl (by kernel_rfl) rfl (by kernel_rfl) rfl (by rw [sd.1]; kernel_rfl) (by kernel_rfl) (fun ac u K => ⟨_, late_ext rfl (K.dep 7 23 rfl) rfl, rfl⟩) ⟨fun hw ac u K => ?_, fun hw ac u K => ?_, fun hw ac u K => ?_, fun hw ac u K => ?_, fun hw ac u K => ?_, fun hw ac u K => ?_, fun hw ac u K => ?_, fun hw ac u K => ?_, fun hw ac u K => ?_, fun hw ac u K => ?_, fun hw ac u K => ?_, trivial⟩ ?_
  · exact st_load33 (.tmp 4) rfl (g4) (lf0) (K.t x4 rfl) hf (Ob.below m4 K.grow)
  · exact st_move (.tmp 1) rfl (K.t x1 rfl)
  · exact st_move (.tmp 9) rfl (K.t x9 rfl)
  · exact st_move (.tmp 3) rfl (K.t x3 rfl)
  · exact st_move (.tmp 10) rfl (K.t x10 rfl)
  · exact st_cutl (.tmp 27) (.tmp 28) rfl (fk_val (K.dep 3 27 rfl) (Fk.mono _ _ _ _ hv (bgo bl K.grow))) (K.dep 4 28 rfl)
  · exact st_call 33 (.func 33) _ _ _ rfl rfl (arg4 (K.dep 0 24 rfl) (K.dep 1 25 rfl) (K.dep 2 26 rfl) rfl) Tryd.enter33 (fk_lead_ok hf hi (by omega) (K.dep 5 29 rfl) (by omega) (hK.below (bgo bl K.grow)) hl ey)
  · exact st_move (.tmp 30) rfl (K.dep 6 30 rfl)
  · exact st_ext0 (.tmp 23) rfl (K.dep 7 23 rfl) rfl
  · exact st_ext1 (.tmp 23) rfl (K.dep 7 23 rfl) rfl
  · exact st_alloc33 rfl _ K.grow.size
  intro f6 w6 A hb
  replace bl0 := bl
  replace x1 := A.t x1 rfl
  replace x2 := A.t x2 rfl
  replace x3 := A.t x3 rfl
  replace x4 := A.t x4 rfl
  replace x8 := A.t x8 rfl
  replace x9 := A.t x9 rfl
  replace x10 := A.t x10 rfl
  replace x22 := A.t x22 rfl
  have x11 : Fk.f (.nw w5.heap.size 33 ((hz).map V)) (f6.eval (.tmp 11)) w6 := A.has 10 11 rfl
  have x31 := A.e 8 31 rfl rfl
  have x32 := A.e 9 32 rfl rfl
  have lt_m4 := Ob.lt m4
  replace m4 := Ob.below m4 hb
  have lt_m8 := Ob.lt m8
  replace m8 := Ob.below m8 hb
  replace bl := bgo bl hb
  replace sd := A.sd sd
  clear A hb
  clear x1
  clear x2
  clear x4
  clear x9
  clear x22
  obtain ⟨g11, hg11, e11, m11⟩ := x11
  have x11 := e11
  clear e11
  have nm4_11 : g4 ≠ g11 := Nat.ne_of_lt (Nat.lt_of_lt_of_le lt_m4 hg11)
  have nm8_11 : g8 ≠ g11 := Nat.ne_of_lt (Nat.lt_of_lt_of_le lt_m8 hg11)
  have hw11 : w.heap.size ≤ g11 := Nat.le_trans bl0.size hg11
  refine ⟨_, run_store33 (.tmp 11) (.tmp 31) rfl (g11) (y) (hz) x11 x31 m11 hz_len hy, ?_⟩
  replace m4 : Ob (w6.setRow g11 ((y).map V : List Value).toArray) (g4) 33 ((lf0).map V) := Ob.setRow_other m4 _ nm4_11
  replace m8 : Ob (w6.setRow g11 ((y).map V : List Value).toArray) (g8) 76 ((hz ++ hz).map V) := Ob.setRow_other m8 _ nm8_11
  replace m11 : Ob (w6.setRow g11 ((y).map V : List Value).toArray) (g11) 33 ((y).map V) := Ob.setRow m11 ((y).map V)
  replace bl : Below w.heap.size w (w6.setRow g11 ((y).map V : List Value).toArray) := bl.trans (below_setRow _ _ _ _ hw11)
  generalize w6.setRow g11 ((y).map V : List Value).toArray = w7b at bl m4 m8 m11 ⊢
  clear x31
  refine wl_one (.eq (.int .i64 0)) rfl 12 rfl (by rw [sd.1]; decide) (st_assign (.tmp 32) rfl x32) ?_
  intro f8 w8 df2 sz2 old2 new2 hb
  replace x3 := tr old2 x3 rfl
  replace x8 := tr old2 x8 rfl
  replace x10 := tr old2 x10 rfl
  replace x11 := tr old2 x11 rfl
  replace x32 := tr old2 x32 rfl
  have x12 := Fk.e new2
  replace m4 := Ob.below m4 hb
  replace m8 := Ob.below m8 hb
  replace m11 := Ob.below m11 hb
  replace bl := bgo bl hb
  replace sd := sd2 sz2 df2 sd
  clear df2 sz2 old2 new2 hb
  refine wpList_nil ?_
  clear x32
  clear x12
  clear m4
  show Code.wp _ _ _ _ _
  refine wp_seq ?_
  refine wr_t [.eq (.agg ((y).map V).toArray), .eq (v), .eq (.int .i64 (P0.length : Int)), .ph (x), .eq (.agg ((x).map V).toArray), .eq (.agg ((y ++ x).map V).toArray)] [6] Tryd.mixed (by rw [sd.1]; kernel_rfl) ⟨fun hw ac u K => ?_, fun hw ac u K => ?_, fun hw ac u K => ?_, fun hw ac u K => ?_, fun hw ac u K => ?_, fun hw ac u K => ?_, trivial⟩ ?_
  · exact st_load33 (.tmp 11) rfl (g11) (y) (K.t x11 rfl) hy (Ob.below m11 K.grow)
  · exact st_move (.tmp 3) rfl (K.t x3 rfl)
  · exact st_move (.tmp 10) rfl (K.t x10 rfl)
  · exact st_idxh (.tmp 34) (.tmp 35) rfl (fk_val (K.dep 1 34 rfl) (Fk.mono _ _ _ _ hvs (bgo bl K.grow))) (P0.length) (x) (K.dep 2 35 rfl) hPx
  · exact st_loadh (.tmp 36) rfl (K.dep 3 36 rfl)
  · exact st_build2h (.tmp 33) (.tmp 37) rfl hy hx (K.dep 0 33 rfl) (K.dep 4 37 rfl)
  intro f9 w9 A hb
  replace x3 := A.t x3 rfl
  replace x8 := A.t x8 rfl
  replace x10 := A.t x10 rfl
  replace x11 := A.t x11 rfl
  have x38 := A.e 5 38 rfl rfl
  replace m8 := Ob.below m8 hb
  replace m11 := Ob.below m11 hb
  replace bl := bgo bl hb
  replace sd := A.sd sd
  clear A hb
  clear x3
  clear x10
  clear x11
  refine wl_str rfl 76 (.tmp 8) (.tmp 38) rfl rfl (g8) ((y ++ x).map V : List Value).toArray x8 x38 76 _ m8 (by rw [List.size_toArray, List.length_map, (len2h hy hx)]; kernel_rfl) (by rw [List.size_toArray, List.size_toArray, List.length_map, List.length_map, (len2h hz_len hz_len), (len2h hy hx)]) (V_all2h _) ?_
  replace m8 : Ob (w9.setRow g8 ((y ++ x).map V : List Value).toArray) (g8) 76 ((y ++ x).map V) := Ob.setRow m8 ((y ++ x).map V)
  replace m11 : Ob (w9.setRow g8 ((y ++ x).map V : List Value).toArray) (g11) 33 ((y).map V) := Ob.setRow_other m11 _ nm8_11.symm
  replace bl : Below w.heap.size w (w9.setRow g8 ((y ++ x).map V : List Value).toArray) := bl.trans (below_setRow _ _ _ _ hw8)
  generalize w9.setRow g8 ((y ++ x).map V : List Value).toArray = w10b at bl m8 m11 ⊢
  refine wpList_nil ?_
  clear x38
  clear m11
  show Code.wp _ _ _ _ _
  refine wp_ret ?_
  repeat (first | with_reducible refine then_ret ?_ | with_reducible refine block_ret ?_)
  exact bodyPost_ret (v := .agg ((y ++ x).map V).toArray) (ret_h2 rfl f9 _ g8 hy hx x8 m8) sd.2 ⟨_, rfl, rfl, bl⟩
theorem fk_said_r {lf0 x y : List (BitVec 8)} {P0 : List (List (BitVec 8))} {i n k : Nat} (hf : lf0.length = 32) (h2 : 2 ≤ n) (hn : n ≤ 1000) (hin : i < n) (hk : spl n = k) (hi : ¬ i < k) (hl : P0.length = (sds (i - k) (n - k)).length) (ey : Box (ldt lf0 P0 (sds (i - k) (n - k)) = y)) (hP : P0.length ≤ 1000) {w : World} {v : Value} (hv : (Fk.hc (P0 ++ [x])).f v w) (hK : Tab w) :
    Calls Tryd.prog 47 #[.agg ((lf0).map V).toArray, .int .i64 (i : Int), .int .i64 (n : Int), v] w fun e w' => ∃ u, e = .returned u ∧ (Fk.eq (.agg ((x ++ y).map V).toArray)).f u w' ∧ Below w.heap.size w w' := by
  have hvs := hc_hs hv
  have hk1 : k < n := by rw [← hk]; exact spl_lt h2
  have hx : x.length = 32 := hc_len hv x (by simp)
  have hy : y.length = 32 := by rw [← ey.out]; exact ldt_len hf _ _
  have hPx : (P0 ++ [x])[P0.length]? = some x := by simp
  go_enter Tryd.func47, Tryd.ntmps47
  refine code_both (fun f w1 => f.tmps.size = 59 ∧ f.defers = [] ∧ f.eval (.tmp 0) = .agg ((lf0).map V).toArray ∧ f.eval (.tmp 1) = .int .i64 (i : Int) ∧ f.eval (.tmp 2) = .int .i64 (n : Int) ∧ f.eval (.tmp 3) = v ∧ Below w.heap.size w (w1)) ⟨rfl, rfl, rfl, rfl, rfl, rfl, Below.refl _ _⟩ ?_
  rintro f0 w0 ⟨sz, df, x0, x1, x2, x3, bl⟩
  have sd := And.intro sz df
  clear sz df
  have bl0 := bl
  refine wp_seq ?_
  refine wr_s [] (by rw [sd.1]; kernel_rfl) trivial ?_
  intro f1 w1 A hb
  replace x0 := A.t x0 rfl
  replace x1 := A.t x1 rfl
  replace x2 := A.t x2 rfl
  replace x3 := A.t x3 rfl
  replace bl := bgo bl hb
  replace sd := A.sd sd
  clear A hb
  refine wl_one (.nw w1.heap.size 33 ((lf0).map V)) rfl 4 rfl (by rw [sd.1]; decide) (st_box 33 (.tmp 0) rfl _ _ (by rw [show _ = _ from x0]; kernel_rfl) (Nat.le_refl _)) ?_
  intro f2 w2 df2 sz2 old2 new2 hb
  replace bl0 := bl
  replace x0 := tr old2 x0 rfl
  replace x1 := tr old2 x1 rfl
  replace x2 := tr old2 x2 rfl
  replace x3 := tr old2 x3 rfl
  have x4 : Fk.f (.nw w1.heap.size 33 ((lf0).map V)) (f2.eval (.tmp 4)) w2 := new2
  replace bl := bgo bl hb
  replace sd := sd2 sz2 df2 sd
  clear df2 sz2 old2 new2 hb
  obtain ⟨g4, hg4, e4, m4⟩ := x4
  have x4 := e4
  clear e4
  have hw4 : w.heap.size ≤ g4 := Nat.le_trans bl0.size hg4
  clear x0
  refine wl_one (.nw w2.heap.size 76 ((hz ++ hz).map V)) rfl 8 rfl (by rw [sd.1]; decide) (st_alloc 76 rfl _ _ (by kernel_rfl) (Nat.le_refl _)) ?_
  intro f3 w3 df2 sz2 old2 new2 hb
  replace bl0 := bl
  replace x1 := tr old2 x1 rfl
  replace x2 := tr old2 x2 rfl
  replace x3 := tr old2 x3 rfl
  replace x4 := tr old2 x4 rfl
  have x8 : Fk.f (.nw w2.heap.size 76 ((hz ++ hz).map V)) (f3.eval (.tmp 8)) w3 := new2
  have lt_m4 := Ob.lt m4
  replace m4 := Ob.below m4 hb
  replace bl := bgo bl hb
  replace sd := sd2 sz2 df2 sd
  clear df2 sz2 old2 new2 hb
  obtain ⟨g8, hg8, e8, m8⟩ := x8
  have x8 := e8
  clear e8
  have nm4_8 : g4 ≠ g8 := Nat.ne_of_lt (Nat.lt_of_lt_of_le lt_m4 hg8)
  have hw8 : w.heap.size ≤ g8 := Nat.le_trans bl0.size hg8
  refine wpList_nil ?_
  show Code.wp _ _ _ _ _
  refine wp_seq ?_
  refine wr_a [.eq (.int .i64 (n : Int)), .eq (.int .i64 (k : Int)), .eq (v), .eq (.int .i64 ((P0.length + 1 : Nat) : Int)), .eq (.int .i64 (P0.length : Int)), .eq (.int .i64 (k : Int)), .eq (.int .i64 (P0.length : Int))] (by rw [sd.1]; kernel_rfl) ⟨fun hw ac u K => ?_, fun hw ac u K => ?_, fun hw ac u K => ?_, fun hw ac u K => ?_, fun hw ac u K => ?_, fun hw ac u K => ?_, fun hw ac u K => ?_, trivial⟩ ?_
  · exact st_move (.tmp 2) rfl (K.t x2 rfl)
  · exact st_call 35 (.func 35) _ _ _ rfl rfl (one_arg (K.dep 0 15 rfl)) Tryd.enter35 (by rw [← hk]; exact fk_of (split_hi n h2 (by omega) _))
  · exact st_move (.tmp 3) rfl (K.t x3 rfl)
  · exact st_lenc (.tmp 17) rfl (P0.length + 1) (by simp) (fk_val (K.dep 2 17 rfl) (Fk.mono _ _ _ _ hv (bgo bl K.grow)))
  · exact st_subz (.tmp 18) (.const (.int .i64 1)) rfl _ 1 _ (K.dep 3 18 rfl) rfl (by omega) (by omega) (by omega)
  · exact st_assign (.tmp 16) rfl (K.dep 1 16 rfl)
  · exact st_assign (.tmp 19) rfl (K.dep 4 19 rfl)
  intro f4 w4 A hb
  replace x1 := A.t x1 rfl
  replace x2 := A.t x2 rfl
  replace x3 := A.t x3 rfl
  replace x4 := A.t x4 rfl
  replace x8 := A.t x8 rfl
  have x9 := A.e 5 9 rfl rfl
  have x10 := A.e 6 10 rfl rfl
  replace m4 := Ob.below m4 hb
  replace m8 := Ob.below m8 hb
  replace bl := bgo bl hb
  replace sd := A.sd sd
  clear A hb
  show Code.wp _ _ _ _ _
  refine wp_seq ?_
  refine wp_seq ?_
  refine wr_a [.eq (.int .i64 (i : Int)), .eq (.int .i64 (k : Int)), .eq (.bool false)] (by rw [sd.1]; kernel_rfl) ⟨fun hw ac u K => ?_, fun hw ac u K => ?_, fun hw ac u K => ?_, trivial⟩ ?_
  · exact st_move (.tmp 1) rfl (K.t x1 rfl)
  · exact st_move (.tmp 9) rfl (K.t x9 rfl)
  · exact st_lss 3 (.tmp 20) (.tmp 21) rfl .i64 ((i : Int)) ((k : Int)) (K.dep 0 20 rfl) (K.dep 1 21 rfl) _ (by first | (simp; done) | (simp; omega))
  intro f5 w5 A hb
  replace x1 := A.t x1 rfl
  replace x2 := A.t x2 rfl
  replace x3 := A.t x3 rfl
  replace x4 := A.t x4 rfl
  replace x8 := A.t x8 rfl
  replace x9 := A.t x9 rfl
  replace x10 := A.t x10 rfl
  have x22 := A.e 2 22 rfl rfl
  replace m4 := Ob.below m4 hb
  replace m8 := Ob.below m8 hb
  replace bl := bgo bl hb
  replace sd := A.sd sd
  clear A hb
  show Code.wp _ _ _ _ _
  refine wp_cond_false x22 ?_
  refine wp_skip ?_
  show Code.wp _ _ _ _ _
  refine wp_seq ?_
  refine wp_region_late [.eq (.agg ((lf0).map V).toArray), .eq (.int .i64 (i : Int)), .eq (.int .i64 (k : Int)), .eq (.int .i64 ((i - k : Nat) : Int)), .eq (.int .i64 (n : Int)), .eq (.int .i64 (k : Int)), .eq (.int .i64 ((n - k : Nat) : Int)), .eq (v), .eq (.int .i64 (P0.length : Int)), .hc (P0), .eq (.tuple #[.agg ((y).map V).toArray, .int .i64 0]), .eq (.tuple #[.agg ((y).map V).toArray, .int .i64 0]), .eq (.agg ((y).map V).toArray), .eq (.int .i64 0), .nw w5.heap.size 33 ((hz).map V)] 13 52 _ _ [16] Tryd.mixed (by kernel_rfl) (by kernel_rfl) (by kernel_rfl) (by kernel_rfl) (by kernel_rfl) rfl rfl (by kernel_rfl) rfl (by kernel_rfl) rfl (by rw [sd.1]; kernel_rfl) (by kernel_rfl) (fun ac u K => ⟨_, late_ext rfl (K.dep 11 39 rfl) rfl, rfl⟩) ⟨fun hw ac u K => ?_, fun hw ac u K => ?_, fun hw ac u K => ?_, fun hw ac u K => ?_, fun hw ac u K => ?_, fun hw ac u K => ?_, fun hw ac u K => ?_, fun hw ac u K => ?_, fun hw ac u K => ?_, fun hw ac u K => ?_, fun hw ac u K => ?_, fun hw ac u K => ?_, fun hw ac u K => ?_, fun hw ac u K => ?_, fun hw ac u K => ?_, trivial⟩ ?_
  · exact st_load33 (.tmp 4) rfl (g4) (lf0) (K.t x4 rfl) hf (Ob.below m4 K.grow)
  · exact st_move (.tmp 1) rfl (K.t x1 rfl)
  · exact st_move (.tmp 9) rfl (K.t x9 rfl)
  · exact st_subz (.tmp 41) (.tmp 42) rfl _ _ _ (K.dep 1 41 rfl) (K.dep 2 42 rfl) (by omega) (by omega) (by omega)
  · exact st_move (.tmp 2) rfl (K.t x2 rfl)
  · exact st_move (.tmp 9) rfl (K.t x9 rfl)
  · exact st_subz (.tmp 44) (.tmp 45) rfl _ _ _ (K.dep 4 44 rfl) (K.dep 5 45 rfl) (by omega) (by omega) (by omega)
  · exact st_move (.tmp 3) rfl (K.t x3 rfl)
  · exact st_move (.tmp 10) rfl (K.t x10 rfl)
  · exact st_cutl (.tmp 47) (.tmp 48) rfl (fk_val (K.dep 7 47 rfl) (Fk.mono _ _ _ _ hv (bgo bl K.grow))) (K.dep 8 48 rfl)
  · exact st_call 33 (.func 33) _ _ _ rfl rfl (arg4 (K.dep 0 40 rfl) (K.dep 3 43 rfl) (K.dep 6 46 rfl) rfl) Tryd.enter33 (fk_lead_ok hf (show i - k < n - k by omega) (by omega) (K.dep 9 49 rfl) (by omega) (hK.below (bgo bl K.grow)) hl ey)
  · exact st_move (.tmp 50) rfl (K.dep 10 50 rfl)
  · exact st_ext0 (.tmp 39) rfl (K.dep 11 39 rfl) rfl
  · exact st_ext1 (.tmp 39) rfl (K.dep 11 39 rfl) rfl
  · exact st_alloc33 rfl _ K.grow.size
  intro f6 w6 A hb
  replace bl0 := bl
  replace x1 := A.t x1 rfl
  replace x2 := A.t x2 rfl
  replace x3 := A.t x3 rfl
  replace x4 := A.t x4 rfl
  replace x8 := A.t x8 rfl
  replace x9 := A.t x9 rfl
  replace x10 := A.t x10 rfl
  replace x22 := A.t x22 rfl
  have x13 : Fk.f (.nw w5.heap.size 33 ((hz).map V)) (f6.eval (.tmp 13)) w6 := A.has 14 13 rfl
  have x51 := A.e 12 51 rfl rfl
  have x52 := A.e 13 52 rfl rfl
  have lt_m4 := Ob.lt m4
  replace m4 := Ob.below m4 hb
  have lt_m8 := Ob.lt m8
  replace m8 := Ob.below m8 hb
  replace bl := bgo bl hb
  replace sd := A.sd sd
  clear A hb
  clear x1
  clear x2
  clear x4
  clear x9
  clear x22
  obtain ⟨g13, hg13, e13, m13⟩ := x13
  have x13 := e13
  clear e13
  have nm4_13 : g4 ≠ g13 := Nat.ne_of_lt (Nat.lt_of_lt_of_le lt_m4 hg13)
  have nm8_13 : g8 ≠ g13 := Nat.ne_of_lt (Nat.lt_of_lt_of_le lt_m8 hg13)
  have hw13 : w.heap.size ≤ g13 := Nat.le_trans bl0.size hg13
  refine ⟨_, run_store33 (.tmp 13) (.tmp 51) rfl (g13) (y) (hz) x13 x51 m13 hz_len hy, ?_⟩
  replace m4 : Ob (w6.setRow g13 ((y).map V : List Value).toArray) (g4) 33 ((lf0).map V) := Ob.setRow_other m4 _ nm4_13
  replace m8 : Ob (w6.setRow g13 ((y).map V : List Value).toArray) (g8) 76 ((hz ++ hz).map V) := Ob.setRow_other m8 _ nm8_13
  replace m13 : Ob (w6.setRow g13 ((y).map V : List Value).toArray) (g13) 33 ((y).map V) := Ob.setRow m13 ((y).map V)
  replace bl : Below w.heap.size w (w6.setRow g13 ((y).map V : List Value).toArray) := bl.trans (below_setRow _ _ _ _ hw13)
  generalize w6.setRow g13 ((y).map V : List Value).toArray = w7b at bl m4 m8 m13 ⊢
  clear x51
  refine wl_one (.eq (.int .i64 0)) rfl 14 rfl (by rw [sd.1]; decide) (st_assign (.tmp 52) rfl x52) ?_
  intro f8 w8 df2 sz2 old2 new2 hb
  replace x3 := tr old2 x3 rfl
  replace x8 := tr old2 x8 rfl
  replace x10 := tr old2 x10 rfl
  replace x13 := tr old2 x13 rfl
  replace x52 := tr old2 x52 rfl
  have x14 := Fk.e new2
  replace m4 := Ob.below m4 hb
  replace m8 := Ob.below m8 hb
  replace m13 := Ob.below m13 hb
  replace bl := bgo bl hb
  replace sd := sd2 sz2 df2 sd
  clear df2 sz2 old2 new2 hb
  refine wpList_nil ?_
  clear x52
  clear x14
  clear m4
  show Code.wp _ _ _ _ _
  refine wp_seq ?_
  refine wr_t [.eq (v), .eq (.int .i64 (P0.length : Int)), .ph (x), .eq (.agg ((x).map V).toArray), .eq (.agg ((y).map V).toArray), .eq (.agg ((x ++ y).map V).toArray)] [6] Tryd.mixed (by rw [sd.1]; kernel_rfl) ⟨fun hw ac u K => ?_, fun hw ac u K => ?_, fun hw ac u K => ?_, fun hw ac u K => ?_, fun hw ac u K => ?_, fun hw ac u K => ?_, trivial⟩ ?_
  · exact st_move (.tmp 3) rfl (K.t x3 rfl)
  · exact st_move (.tmp 10) rfl (K.t x10 rfl)
  · exact st_idxh (.tmp 53) (.tmp 54) rfl (fk_val (K.dep 0 53 rfl) (Fk.mono _ _ _ _ hvs (bgo bl K.grow))) (P0.length) (x) (K.dep 1 54 rfl) hPx
  · exact st_loadh (.tmp 55) rfl (K.dep 2 55 rfl)
  · exact st_load33 (.tmp 13) rfl (g13) (y) (K.t x13 rfl) hy (Ob.below m13 K.grow)
  · exact st_build2h (.tmp 56) (.tmp 57) rfl hx hy (K.dep 3 56 rfl) (K.dep 4 57 rfl)
  intro f9 w9 A hb
  replace x3 := A.t x3 rfl
  replace x8 := A.t x8 rfl
  replace x10 := A.t x10 rfl
  replace x13 := A.t x13 rfl
  have x58 := A.e 5 58 rfl rfl
  replace m8 := Ob.below m8 hb
  replace m13 := Ob.below m13 hb
  replace bl := bgo bl hb
  replace sd := A.sd sd
  clear A hb
  clear x3
  clear x10
  clear x13
  refine wl_str rfl 76 (.tmp 8) (.tmp 58) rfl rfl (g8) ((x ++ y).map V : List Value).toArray x8 x58 76 _ m8 (by rw [List.size_toArray, List.length_map, (len2h hx hy)]; kernel_rfl) (by rw [List.size_toArray, List.size_toArray, List.length_map, List.length_map, (len2h hz_len hz_len), (len2h hx hy)]) (V_all2h _) ?_
  replace m8 : Ob (w9.setRow g8 ((x ++ y).map V : List Value).toArray) (g8) 76 ((x ++ y).map V) := Ob.setRow m8 ((x ++ y).map V)
  replace m13 : Ob (w9.setRow g8 ((x ++ y).map V : List Value).toArray) (g13) 33 ((y).map V) := Ob.setRow_other m13 _ nm8_13.symm
  replace bl : Below w.heap.size w (w9.setRow g8 ((x ++ y).map V : List Value).toArray) := bl.trans (below_setRow _ _ _ _ hw8)
  generalize w9.setRow g8 ((x ++ y).map V : List Value).toArray = w10b at bl m8 m13 ⊢
  refine wpList_nil ?_
  clear x58
  clear m13
  show Code.wp _ _ _ _ _
  refine wp_ret ?_
  repeat (first | with_reducible refine then_ret ?_ | with_reducible refine block_ret ?_)
  exact bodyPost_ret (v := .agg ((x ++ y).map V).toArray) (ret_h2 rfl f9 _ g8 hx hy x8 m8) sd.2 ⟨_, rfl, rfl, bl⟩
theorem range_below {w w' : World} {b o : Nat} {cs : List Value} (h : w.rangeAt b o cs) (hb : Below w.heap.size w w') : w'.rangeAt b o cs := fun j u hj => by
  have := h j u hj
  rw [hb.cell (block_lt_of_cell this)]
  exact this
theorem range_setRow {w : World} {b o g : Nat} {cs : List Value} (h : w.rangeAt b o cs) (hne : b ≠ g) (ds : Array Value) : (w.setRow g ds).rangeAt b o cs := fun j u hj => by
  have := h j u hj
  rw [((Only.refl g w).setRow ds).cell (by exact block_lt_of_cell this) (by exact hne)]
  exact this
theorem led_lens {m n : Nat} {P : List (List (BitVec 8))} {x y : List (BitVec 8)} (h : Led m n P x y) (hP : ∀ p ∈ P, p.length = 32) : x.length = 32 ∧ y.length = 32 := by
  obtain ⟨p, r, rfl, _, h2⟩ := h
  have h3 := bk_len (hP p (by simp)) r (stp m n false).2 (r.zip (stp m n false).2).length
  unfold bk at h3
  rw [List.take_length] at h3
  unfold bth at h2
  rw [h2] at h3
  exact h3
theorem stp_short (n : Nat) : ∀ m w, (stp m n w).2.length ≤ n := by
  induction n using Nat.strongRecOn with
  | ind n ih =>
  intro m w
  by_cases hm : m = n
  · rw [hm, stp_same]; exact Nat.zero_le _
  · by_cases h2 : 2 ≤ n
    · have hs := spl_lt h2
      have hp := spl_pos n
      by_cases hk : m ≤ spl n
      · have := ih _ hs m w
        rw [stp_left h2 hm hk]
        simp only [List.length_append, List.length_cons, List.length_nil]
        omega
      · have := ih (n - spl n) (by omega) (m - spl n) false
        rw [stp_right h2 hm hk]
        simp only [List.length_append, List.length_cons, List.length_nil]
        omega
    · rw [stp, if_neg hm, dif_pos (by omega)]
      exact Nat.zero_le _
theorem led_short {m n : Nat} {P : List (List (BitVec 8))} {x y : List (BitVec 8)} (h : Led m n P x y) : P.length ≤ n + 1 := by
  obtain ⟨p, r, rfl, h1, _⟩ := h
  have := stp_short n m false
  rw [List.length_cons]
  omega
theorem led_any (n : Nat) : ∀ (m : Nat) (P : List (List (BitVec 8))) (x y : List (BitVec 8)) (w : World) (v : Value), Led m n P x y → (Fk.hc P).f v w → 1 ≤ m → m ≤ n → n ≤ 1000 → Tab w → Calls Tryd.prog 51 #[.int .i64 (m : Int), .int .i64 (n : Int), v] w fun e w' => e = .returned (.tuple #[.agg ((x).map V).toArray, .agg ((y).map V).toArray]) ∧ Below w.heap.size w w' := by
  induction n using Nat.strongRecOn with
  | ind n ih =>
  intro m P x y w v hLd hv hm1 hmn hn hK
  obtain ⟨hx, hy⟩ := led_lens hLd (hc_len hv)
  have hPl : P.length ≤ n + 1 := led_short hLd
  by_cases hm : m = n
  · subst hm
    obtain ⟨rfl, ey⟩ := led_one hLd
    obtain rfl : x = y := ey.symm
    have hvs := hc_hs hv
    go_enter Tryd.func51, Tryd.ntmps51
    refine code_both (fun f w1 => f.tmps.size = 68 ∧ f.defers = [] ∧ f.eval (.tmp 0) = .int .i64 (m : Int) ∧ f.eval (.tmp 1) = .int .i64 (m : Int) ∧ f.eval (.tmp 2) = v ∧ Below w.heap.size w (w1)) ⟨rfl, rfl, rfl, rfl, rfl, Below.refl _ _⟩ ?_
    rintro f0 w0 ⟨sz, df, x0, x1, x2, bl⟩
    have sd := And.intro sz df
    clear sz df
    have bl0 := bl
    refine wp_seq ?_
    refine wr_s [] (by rw [sd.1]; kernel_rfl) trivial ?_
    intro f1 w1 A hb
    replace x0 := A.t x0 rfl
    replace x1 := A.t x1 rfl
    replace x2 := A.t x2 rfl
    replace bl := bgo bl hb
    replace sd := A.sd sd
    clear A hb
    refine wl_one (.nw w1.heap.size 33 ((hz).map V)) rfl 6 rfl (by rw [sd.1]; decide) (st_alloc33 rfl _ (Nat.le_refl _)) ?_
    intro f2 w2 df2 sz2 old2 new2 hb
    replace bl0 := bl
    replace x0 := tr old2 x0 rfl
    replace x1 := tr old2 x1 rfl
    replace x2 := tr old2 x2 rfl
    have x6 : Fk.f (.nw w1.heap.size 33 ((hz).map V)) (f2.eval (.tmp 6)) w2 := new2
    replace bl := bgo bl hb
    replace sd := sd2 sz2 df2 sd
    clear df2 sz2 old2 new2 hb
    obtain ⟨g6, hg6, e6, m6⟩ := x6
    have x6 := e6
    clear e6
    have hw6 : w.heap.size ≤ g6 := Nat.le_trans bl0.size hg6
    refine wl_one (.nw w2.heap.size 33 ((hz).map V)) rfl 7 rfl (by rw [sd.1]; decide) (st_alloc33 rfl _ (Nat.le_refl _)) ?_
    intro f3 w3 df2 sz2 old2 new2 hb
    replace bl0 := bl
    replace x0 := tr old2 x0 rfl
    replace x1 := tr old2 x1 rfl
    replace x2 := tr old2 x2 rfl
    replace x6 := tr old2 x6 rfl
    have x7 : Fk.f (.nw w2.heap.size 33 ((hz).map V)) (f3.eval (.tmp 7)) w3 := new2
    have lt_m6 := Ob.lt m6
    replace m6 := Ob.below m6 hb
    replace bl := bgo bl hb
    replace sd := sd2 sz2 df2 sd
    clear df2 sz2 old2 new2 hb
    obtain ⟨g7, hg7, e7, m7⟩ := x7
    have x7 := e7
    clear e7
    have nm6_7 : g6 ≠ g7 := Nat.ne_of_lt (Nat.lt_of_lt_of_le lt_m6 hg7)
    have hw7 : w.heap.size ≤ g7 := Nat.le_trans bl0.size hg7
    refine wpList_nil ?_
    show Code.wp _ _ _ _ _
    refine wp_seq ?_
    refine wp_seq ?_
    refine wr_a [.eq (.int .i64 (m : Int)), .eq (.int .i64 (m : Int)), .eq (.bool true)] (by rw [sd.1]; kernel_rfl) ⟨fun hw ac u K => ?_, fun hw ac u K => ?_, fun hw ac u K => ?_, trivial⟩ ?_
    · exact st_move (.tmp 0) rfl (K.t x0 rfl)
    · exact st_move (.tmp 1) rfl (K.t x1 rfl)
    · exact st_eqi 3 (.tmp 10) (.tmp 11) rfl .i64 ((m : Int)) ((m : Int)) (K.dep 0 10 rfl) (K.dep 1 11 rfl) _ (by simp)
    intro f4 w4 A hb
    replace x0 := A.t x0 rfl
    replace x1 := A.t x1 rfl
    replace x2 := A.t x2 rfl
    replace x6 := A.t x6 rfl
    replace x7 := A.t x7 rfl
    have x12 := A.e 2 12 rfl rfl
    replace m6 := Ob.below m6 hb
    replace m7 := Ob.below m7 hb
    replace bl := bgo bl hb
    replace sd := A.sd sd
    clear A hb
    show Code.wp _ _ _ _ _
    refine wp_cond_true x12 ?_
    refine wp_seq ?_
    obtain ⟨lA, lC, ev, _, hvv⟩ := hc_val hv
    subst ev
    obtain ⟨lb, lo, eA, hlb, hra, _⟩ := hc_first hvv (show ([x] : List (List (BitVec 8)))[0]? = some x from rfl)
    refine wp_region_held_drew (S := fun W => W.rangeAt lb lo (x.map V)) Tryd.mixed (range_below hra bl.drew) (fun hS => ?_)
    replace m6 : Ob w4.drew g6 33 ((hz).map V) := m6
    replace m7 : Ob w4.drew g7 33 ((hz).map V) := m7
    replace bl := bl.drew
    clear bl0
    generalize w4.drew = w5 at hS m6 m7 bl ⊢
    refine wh_take 0 13 (v := .slice lA [x].length lC) rfl rfl (by rw [sd.1]; decide) rfl (by kernel_rfl) (by kernel_rfl) (by kernel_rfl) (fun _ _ _ h => h) (run_mv rfl x2) hS ?_
    intro f6 df2 sz2 old2 new2
    replace x0 := tr old2 x0 rfl
    replace x1 := tr old2 x1 rfl
    replace x2 := tr old2 x2 rfl
    replace x6 := tr old2 x6 rfl
    replace x7 := tr old2 x7 rfl
    replace x12 := tr old2 x12 rfl
    have x13 := new2
    replace sd := sd2 sz2 df2 sd
    clear df2 sz2 old2 new2
    refine wh_take 1 14 (v := .pointer (some ⟨lb, lo, none⟩)) rfl rfl (by rw [sd.1]; decide) rfl (by kernel_rfl) (by kernel_rfl) (by kernel_rfl) (fun _ _ _ h => h) (run_idxv rfl x13 eA rfl (by simp)) hS ?_
    intro f7 df2 sz2 old2 new2
    replace x0 := tr old2 x0 rfl
    replace x1 := tr old2 x1 rfl
    replace x2 := tr old2 x2 rfl
    replace x6 := tr old2 x6 rfl
    replace x7 := tr old2 x7 rfl
    replace x12 := tr old2 x12 rfl
    replace x13 := tr old2 x13 rfl
    have x14 := new2
    replace sd := sd2 sz2 df2 sd
    clear df2 sz2 old2 new2
    refine wh_take 2 15 (v := .agg ((x).map V).toArray) rfl rfl (by rw [sd.1]; decide) rfl (by kernel_rfl) (by kernel_rfl) (by kernel_rfl) (fun _ _ _ h => h) (run_ldh rfl hx x14 (fun W hW => hW)) hS ?_
    intro f8 df2 sz2 old2 new2
    replace x0 := tr old2 x0 rfl
    replace x1 := tr old2 x1 rfl
    replace x2 := tr old2 x2 rfl
    replace x6 := tr old2 x6 rfl
    replace x7 := tr old2 x7 rfl
    replace x12 := tr old2 x12 rfl
    replace x13 := tr old2 x13 rfl
    replace x14 := tr old2 x14 rfl
    have x15 := new2
    replace sd := sd2 sz2 df2 sd
    clear df2 sz2 old2 new2
    refine wh_take 3 16 (v := .slice lA [x].length lC) rfl rfl (by rw [sd.1]; decide) rfl (by kernel_rfl) (by kernel_rfl) (by kernel_rfl) (fun _ _ _ h => h) (run_mv rfl x2) hS ?_
    intro f9 df2 sz2 old2 new2
    replace x0 := tr old2 x0 rfl
    replace x1 := tr old2 x1 rfl
    replace x2 := tr old2 x2 rfl
    replace x6 := tr old2 x6 rfl
    replace x7 := tr old2 x7 rfl
    replace x12 := tr old2 x12 rfl
    replace x13 := tr old2 x13 rfl
    replace x14 := tr old2 x14 rfl
    replace x15 := tr old2 x15 rfl
    have x16 := new2
    replace sd := sd2 sz2 df2 sd
    clear df2 sz2 old2 new2
    refine wh_take 4 17 (v := .pointer (some ⟨lb, lo, none⟩)) rfl rfl (by rw [sd.1]; decide) rfl (by kernel_rfl) (by kernel_rfl) (by kernel_rfl) (fun _ _ _ h => h) (run_idxv rfl x16 eA rfl (by simp)) hS ?_
    intro f10 df2 sz2 old2 new2
    replace x0 := tr old2 x0 rfl
    replace x1 := tr old2 x1 rfl
    replace x2 := tr old2 x2 rfl
    replace x6 := tr old2 x6 rfl
    replace x7 := tr old2 x7 rfl
    replace x12 := tr old2 x12 rfl
    replace x13 := tr old2 x13 rfl
    replace x14 := tr old2 x14 rfl
    replace x15 := tr old2 x15 rfl
    replace x16 := tr old2 x16 rfl
    have x17 := new2
    replace sd := sd2 sz2 df2 sd
    clear df2 sz2 old2 new2
    refine wh_take 5 18 (v := .agg ((x).map V).toArray) rfl rfl (by rw [sd.1]; decide) rfl (by kernel_rfl) (by kernel_rfl) (by kernel_rfl) (fun _ _ _ h => h) (run_ldh rfl hx x17 (fun W hW => hW)) hS ?_
    intro f11 df2 sz2 old2 new2
    replace x0 := tr old2 x0 rfl
    replace x1 := tr old2 x1 rfl
    replace x2 := tr old2 x2 rfl
    replace x6 := tr old2 x6 rfl
    replace x7 := tr old2 x7 rfl
    replace x12 := tr old2 x12 rfl
    replace x13 := tr old2 x13 rfl
    replace x14 := tr old2 x14 rfl
    replace x15 := tr old2 x15 rfl
    replace x16 := tr old2 x16 rfl
    replace x17 := tr old2 x17 rfl
    have x18 := new2
    replace sd := sd2 sz2 df2 sd
    clear df2 sz2 old2 new2
    have hS1 : (w5.setRow g6 ((x).map V : List Value).toArray).rangeAt lb lo (x.map V) := range_setRow hS (Nat.ne_of_lt (Nat.lt_of_lt_of_le hlb hw6)) _
    refine wh_store 6 rfl rfl rfl (by kernel_rfl) (.tmp 6) (.tmp 15) rfl g6 (x) (hz) x6 x15 m6 hz_len hx hS1 ?_
    replace m6 : Ob (w5.setRow g6 ((x).map V : List Value).toArray) (g6) 33 ((x).map V) := Ob.setRow m6 ((x).map V)
    replace m7 : Ob (w5.setRow g6 ((x).map V : List Value).toArray) (g7) 33 ((hz).map V) := Ob.setRow_other m7 _ nm6_7.symm
    replace bl : Below w.heap.size w (w5.setRow g6 ((x).map V : List Value).toArray) := bl.trans (below_setRow _ _ _ _ hw6)
    replace hS := hS1
    clear hS1
    generalize w5.setRow g6 ((x).map V : List Value).toArray = w12 at hS m6 m7 bl ⊢
    have hS1 : (w12.setRow g7 ((x).map V : List Value).toArray).rangeAt lb lo (x.map V) := range_setRow hS (Nat.ne_of_lt (Nat.lt_of_lt_of_le hlb hw7)) _
    refine wh_store 7 rfl rfl rfl (by kernel_rfl) (.tmp 7) (.tmp 18) rfl g7 (x) (hz) x7 x18 m7 hz_len hx hS1 ?_
    replace m7 : Ob (w12.setRow g7 ((x).map V : List Value).toArray) (g7) 33 ((x).map V) := Ob.setRow m7 ((x).map V)
    replace m6 : Ob (w12.setRow g7 ((x).map V : List Value).toArray) (g6) 33 ((x).map V) := Ob.setRow_other m6 _ nm6_7
    replace bl : Below w.heap.size w (w12.setRow g7 ((x).map V : List Value).toArray) := bl.trans (below_setRow _ _ _ _ hw7)
    replace hS := hS1
    clear hS1
    generalize w12.setRow g7 ((x).map V : List Value).toArray = w13 at hS m6 m7 bl ⊢
    refine wpAnyH_done (by kernel_rfl) ?_ _
    have bl0 := bl
    clear hS
    show Code.wp _ _ _ _ _
    refine wp_ret ?_
    repeat (first | with_reducible refine then_ret ?_ | with_reducible refine block_ret ?_)
    exact bodyPost_ret (v := .tuple #[.agg ((x).map V).toArray, .agg ((x).map V).toArray]) (ret_hh rfl f11 _ g6 g7 (x) (x) hx hx x6 x7 m6 m7) sd.2 ⟨rfl, bl⟩
  have h2 : 2 ≤ n := by omega
  obtain ⟨k, hk⟩ : ∃ k, spl n = k := ⟨_, rfl⟩
  have hk1 : k < n := by rw [← hk]; exact spl_lt h2
  have hk2 : 1 ≤ k := by rw [← hk]; exact spl_pos _
  by_cases hmk : m ≤ k
  · obtain ⟨P0, z, s0, rfl, hL, ey0⟩ := led_left h2 hm (by rw [hk]; exact hmk) hLd
    rw [hk] at hL
    have hvs := hc_hs hv
    have hz0 : z.length = 32 := hc_len hv z (by simp)
    have hs0 := (led_lens hL (fun p hp => hc_len hv p (by simp [hp]))).2
    have hPz : (P0 ++ [z])[P0.length]? = some z := by simp
    have ey : Box (nd s0 z = y) := ⟨ey0.symm⟩
    clear hLd ey0
    rw [List.length_append, List.length_singleton] at hPl
    go_enter Tryd.func51, Tryd.ntmps51
    refine code_both (fun f w1 => f.tmps.size = 68 ∧ f.defers = [] ∧ f.eval (.tmp 0) = .int .i64 (m : Int) ∧ f.eval (.tmp 1) = .int .i64 (n : Int) ∧ f.eval (.tmp 2) = v ∧ Below w.heap.size w (w1)) ⟨rfl, rfl, rfl, rfl, rfl, Below.refl _ _⟩ ?_
    rintro f0 w0 ⟨sz, df, x0, x1, x2, bl⟩
    have sd := And.intro sz df
    clear sz df
    have bl0 := bl
    refine wp_seq ?_
    refine wr_s [] (by rw [sd.1]; kernel_rfl) trivial ?_
    intro f1 w1 A hb
    replace x0 := A.t x0 rfl
    replace x1 := A.t x1 rfl
    replace x2 := A.t x2 rfl
    replace bl := bgo bl hb
    replace sd := A.sd sd
    clear A hb
    refine wl_one (.nw w1.heap.size 33 ((hz).map V)) rfl 6 rfl (by rw [sd.1]; decide) (st_alloc33 rfl _ (Nat.le_refl _)) ?_
    intro f2 w2 df2 sz2 old2 new2 hb
    replace bl0 := bl
    replace x0 := tr old2 x0 rfl
    replace x1 := tr old2 x1 rfl
    replace x2 := tr old2 x2 rfl
    have x6 : Fk.f (.nw w1.heap.size 33 ((hz).map V)) (f2.eval (.tmp 6)) w2 := new2
    replace bl := bgo bl hb
    replace sd := sd2 sz2 df2 sd
    clear df2 sz2 old2 new2 hb
    obtain ⟨g6, hg6, e6, m6⟩ := x6
    have x6 := e6
    clear e6
    have hw6 : w.heap.size ≤ g6 := Nat.le_trans bl0.size hg6
    refine wl_one (.nw w2.heap.size 33 ((hz).map V)) rfl 7 rfl (by rw [sd.1]; decide) (st_alloc33 rfl _ (Nat.le_refl _)) ?_
    intro f3 w3 df2 sz2 old2 new2 hb
    replace bl0 := bl
    replace x0 := tr old2 x0 rfl
    replace x1 := tr old2 x1 rfl
    replace x2 := tr old2 x2 rfl
    replace x6 := tr old2 x6 rfl
    have x7 : Fk.f (.nw w2.heap.size 33 ((hz).map V)) (f3.eval (.tmp 7)) w3 := new2
    have lt_m6 := Ob.lt m6
    replace m6 := Ob.below m6 hb
    replace bl := bgo bl hb
    replace sd := sd2 sz2 df2 sd
    clear df2 sz2 old2 new2 hb
    obtain ⟨g7, hg7, e7, m7⟩ := x7
    have x7 := e7
    clear e7
    have nm6_7 : g6 ≠ g7 := Nat.ne_of_lt (Nat.lt_of_lt_of_le lt_m6 hg7)
    have hw7 : w.heap.size ≤ g7 := Nat.le_trans bl0.size hg7
    refine wpList_nil ?_
    show Code.wp _ _ _ _ _
    refine wp_seq ?_
    refine wp_seq ?_
    refine wr_a [.eq (.int .i64 (m : Int)), .eq (.int .i64 (n : Int)), .eq (.bool false)] (by rw [sd.1]; kernel_rfl) ⟨fun hw ac u K => ?_, fun hw ac u K => ?_, fun hw ac u K => ?_, trivial⟩ ?_
    · exact st_move (.tmp 0) rfl (K.t x0 rfl)
    · exact st_move (.tmp 1) rfl (K.t x1 rfl)
    · exact st_eqi 3 (.tmp 10) (.tmp 11) rfl .i64 ((m : Int)) ((n : Int)) (K.dep 0 10 rfl) (K.dep 1 11 rfl) _ (by symm; rw [decide_eq_false_iff_not]; omega)
    intro f4 w4 A hb
    replace x0 := A.t x0 rfl
    replace x1 := A.t x1 rfl
    replace x2 := A.t x2 rfl
    replace x6 := A.t x6 rfl
    replace x7 := A.t x7 rfl
    have x12 := A.e 2 12 rfl rfl
    replace m6 := Ob.below m6 hb
    replace m7 := Ob.below m7 hb
    replace bl := bgo bl hb
    replace sd := A.sd sd
    clear A hb
    show Code.wp _ _ _ _ _
    refine wp_cond_false x12 ?_
    refine wp_skip ?_
    show Code.wp _ _ _ _ _
    refine wp_seq ?_
    refine wr_a [.eq (.int .i64 (n : Int)), .eq (.int .i64 (k : Int)), .eq (v), .eq (.int .i64 ((P0.length + 1 : Nat) : Int)), .eq (.int .i64 (P0.length : Int)), .eq (.int .i64 (k : Int)), .eq (.int .i64 (P0.length : Int))] (by rw [sd.1]; kernel_rfl) ⟨fun hw ac u K => ?_, fun hw ac u K => ?_, fun hw ac u K => ?_, fun hw ac u K => ?_, fun hw ac u K => ?_, fun hw ac u K => ?_, fun hw ac u K => ?_, trivial⟩ ?_
    · exact st_move (.tmp 1) rfl (K.t x1 rfl)
    · exact st_call 35 (.func 35) _ _ _ rfl rfl (one_arg (K.dep 0 19 rfl)) Tryd.enter35 (by rw [← hk]; exact fk_of (split_hi n h2 (by omega) _))
    · exact st_move (.tmp 2) rfl (K.t x2 rfl)
    · exact st_lenc (.tmp 21) rfl (P0.length + 1) (by simp) (fk_val (K.dep 2 21 rfl) (Fk.mono _ _ _ _ hv (bgo bl K.grow)))
    · exact st_subz (.tmp 22) (.const (.int .i64 1)) rfl _ 1 _ (K.dep 3 22 rfl) rfl (by omega) (by omega) (by omega)
    · exact st_assign (.tmp 20) rfl (K.dep 1 20 rfl)
    · exact st_assign (.tmp 23) rfl (K.dep 4 23 rfl)
    intro f5 w5 A hb
    replace x0 := A.t x0 rfl
    replace x1 := A.t x1 rfl
    replace x2 := A.t x2 rfl
    replace x6 := A.t x6 rfl
    replace x7 := A.t x7 rfl
    replace x12 := A.t x12 rfl
    have x8 := A.e 5 8 rfl rfl
    have x9 := A.e 6 9 rfl rfl
    replace m6 := Ob.below m6 hb
    replace m7 := Ob.below m7 hb
    replace bl := bgo bl hb
    replace sd := A.sd sd
    clear A hb
    clear x12
    show Code.wp _ _ _ _ _
    refine wp_seq ?_
    refine wp_seq ?_
    refine wr_a [.eq (.int .i64 (m : Int)), .eq (.int .i64 (k : Int)), .eq (.bool true)] (by rw [sd.1]; kernel_rfl) ⟨fun hw ac u K => ?_, fun hw ac u K => ?_, fun hw ac u K => ?_, trivial⟩ ?_
    · exact st_move (.tmp 0) rfl (K.t x0 rfl)
    · exact st_move (.tmp 8) rfl (K.t x8 rfl)
    · exact st_leq 3 (.tmp 24) (.tmp 25) rfl .i64 ((m : Int)) ((k : Int)) (K.dep 0 24 rfl) (K.dep 1 25 rfl) _ (by symm; rw [decide_eq_true_iff]; omega)
    intro f6 w6 A hb
    replace x0 := A.t x0 rfl
    replace x1 := A.t x1 rfl
    replace x2 := A.t x2 rfl
    replace x6 := A.t x6 rfl
    replace x7 := A.t x7 rfl
    replace x8 := A.t x8 rfl
    replace x9 := A.t x9 rfl
    have x26 := A.e 2 26 rfl rfl
    replace m6 := Ob.below m6 hb
    replace m7 := Ob.below m7 hb
    replace bl := bgo bl hb
    replace sd := A.sd sd
    clear A hb
    show Code.wp _ _ _ _ _
    refine wp_cond_true x26 ?_
    refine wp_seq ?_
    refine wr_s [.eq (.int .i64 (m : Int)), .eq (.int .i64 (k : Int)), .eq (v), .eq (.int .i64 (P0.length : Int)), .hc (P0), .eq (.tuple #[.agg ((x).map V).toArray, .agg ((s0).map V).toArray]), .eq (.tuple #[.agg ((x).map V).toArray, .agg ((s0).map V).toArray]), .eq (.agg ((x).map V).toArray), .eq (.agg ((s0).map V).toArray)] (by rw [sd.1]; kernel_rfl) ⟨fun hw ac u K => ?_, fun hw ac u K => ?_, fun hw ac u K => ?_, fun hw ac u K => ?_, fun hw ac u K => ?_, fun hw ac u K => ?_, fun hw ac u K => ?_, fun hw ac u K => ?_, fun hw ac u K => ?_, trivial⟩ ?_
    · exact st_move (.tmp 0) rfl (K.t x0 rfl)
    · exact st_move (.tmp 8) rfl (K.t x8 rfl)
    · exact st_move (.tmp 2) rfl (K.t x2 rfl)
    · exact st_move (.tmp 9) rfl (K.t x9 rfl)
    · exact st_cutl (.tmp 30) (.tmp 31) rfl (fk_val (K.dep 2 30 rfl) (Fk.mono _ _ _ _ hv (bgo bl K.grow))) (K.dep 3 31 rfl)
    · exact st_call 51 (.func 51) _ _ _ rfl rfl (arg3 (K.dep 0 28 rfl) (K.dep 1 29 rfl) rfl) Tryd.enter51 (fk_of (ih k (by omega) m P0 x s0 _ _ hL (K.dep 4 32 rfl) hm1 (by omega) (by omega) (hK.below (bgo bl K.grow))))
    · exact st_move (.tmp 33) rfl (K.dep 5 33 rfl)
    · exact st_ext0 (.tmp 27) rfl (K.dep 6 27 rfl) rfl
    · exact st_ext1 (.tmp 27) rfl (K.dep 6 27 rfl) rfl
    intro f7 w7 A hb
    replace x0 := A.t x0 rfl
    replace x1 := A.t x1 rfl
    replace x2 := A.t x2 rfl
    replace x6 := A.t x6 rfl
    replace x7 := A.t x7 rfl
    replace x8 := A.t x8 rfl
    replace x9 := A.t x9 rfl
    replace x26 := A.t x26 rfl
    have x34 := A.e 7 34 rfl rfl
    have x35 := A.e 8 35 rfl rfl
    replace m6 := Ob.below m6 hb
    replace m7 := Ob.below m7 hb
    replace bl := bgo bl hb
    replace sd := A.sd sd
    clear A hb
    clear x0
    clear x1
    clear x8
    clear x26
    refine wl_store rfl (.tmp 6) (.tmp 34) rfl rfl (g6) (x) (hz) x6 x34 m6 hz_len hx ?_
    replace m6 : Ob (w7.setRow g6 ((x).map V : List Value).toArray) (g6) 33 ((x).map V) := Ob.setRow m6 ((x).map V)
    replace m7 : Ob (w7.setRow g6 ((x).map V : List Value).toArray) (g7) 33 ((hz).map V) := Ob.setRow_other m7 _ nm6_7.symm
    replace bl : Below w.heap.size w (w7.setRow g6 ((x).map V : List Value).toArray) := bl.trans (below_setRow _ _ _ _ hw6)
    generalize w7.setRow g6 ((x).map V : List Value).toArray = w8b at bl m6 m7 ⊢
    clear x34
    refine wl_store rfl (.tmp 7) (.tmp 35) rfl rfl (g7) (s0) (hz) x7 x35 m7 hz_len hs0 ?_
    replace m6 : Ob (w8b.setRow g7 ((s0).map V : List Value).toArray) (g6) 33 ((x).map V) := Ob.setRow_other m6 _ nm6_7
    replace m7 : Ob (w8b.setRow g7 ((s0).map V : List Value).toArray) (g7) 33 ((s0).map V) := Ob.setRow m7 ((s0).map V)
    replace bl : Below w.heap.size w (w8b.setRow g7 ((s0).map V : List Value).toArray) := bl.trans (below_setRow _ _ _ _ hw7)
    generalize w8b.setRow g7 ((s0).map V : List Value).toArray = w9b at bl m6 m7 ⊢
    refine wpList_nil ?_
    clear x35
    show Code.wp _ _ _ _ _
    refine wp_seq ?_
    refine wr_t [.eq (.agg ((x).map V).toArray), .eq (.agg ((s0).map V).toArray), .eq (v), .eq (.int .i64 (P0.length : Int)), .ph (z), .eq (.agg ((z).map V).toArray), .eq (.agg ((y).map V).toArray)] [7, 8] Tryd.mixed (by rw [sd.1]; kernel_rfl) ⟨fun hw ac u K => ?_, fun hw ac u K => ?_, fun hw ac u K => ?_, fun hw ac u K => ?_, fun hw ac u K => ?_, fun hw ac u K => ?_, fun hw ac u K => ?_, trivial⟩ ?_
    · exact st_load33 (.tmp 6) rfl (g6) (x) (K.t x6 rfl) hx (Ob.below m6 K.grow)
    · exact st_load33 (.tmp 7) rfl (g7) (s0) (K.t x7 rfl) hs0 (Ob.below m7 K.grow)
    · exact st_move (.tmp 2) rfl (K.t x2 rfl)
    · exact st_move (.tmp 9) rfl (K.t x9 rfl)
    · exact st_idxh (.tmp 38) (.tmp 39) rfl (fk_val (K.dep 2 38 rfl) (Fk.mono _ _ _ _ hvs (bgo bl K.grow))) (P0.length) (z) (K.dep 3 39 rfl) hPz
    · exact st_loadh (.tmp 40) rfl (K.dep 4 40 rfl)
    · exact st_call 30 (.func 30) _ _ _ rfl rfl (arg2 (K.dep 1 37 rfl) (K.dep 5 41 rfl)) Tryd.enter30 (fk_node hs0 hz0 (hK.below (bgo bl K.grow)) ey)
    intro f10 w10 A hb
    replace x2 := A.t x2 rfl
    replace x6 := A.t x6 rfl
    replace x7 := A.t x7 rfl
    replace x9 := A.t x9 rfl
    have x36 := A.e 0 36 rfl rfl
    have x42 := A.e 6 42 rfl rfl
    replace m6 := Ob.below m6 hb
    replace m7 := Ob.below m7 hb
    replace bl := bgo bl hb
    replace sd := A.sd sd
    clear A hb
    clear x2
    clear x9
    refine wl_store rfl (.tmp 6) (.tmp 36) rfl rfl (g6) (x) (x) x6 x36 m6 hx hx ?_
    replace m6 : Ob (w10.setRow g6 ((x).map V : List Value).toArray) (g6) 33 ((x).map V) := Ob.setRow m6 ((x).map V)
    replace m7 : Ob (w10.setRow g6 ((x).map V : List Value).toArray) (g7) 33 ((s0).map V) := Ob.setRow_other m7 _ nm6_7.symm
    replace bl : Below w.heap.size w (w10.setRow g6 ((x).map V : List Value).toArray) := bl.trans (below_setRow _ _ _ _ hw6)
    generalize w10.setRow g6 ((x).map V : List Value).toArray = w11b at bl m6 m7 ⊢
    clear x36
    refine wl_store rfl (.tmp 7) (.tmp 42) rfl rfl (g7) (y) (s0) x7 x42 m7 hs0 hy ?_
    replace m6 : Ob (w11b.setRow g7 ((y).map V : List Value).toArray) (g6) 33 ((x).map V) := Ob.setRow_other m6 _ nm6_7
    replace m7 : Ob (w11b.setRow g7 ((y).map V : List Value).toArray) (g7) 33 ((y).map V) := Ob.setRow m7 ((y).map V)
    replace bl : Below w.heap.size w (w11b.setRow g7 ((y).map V : List Value).toArray) := bl.trans (below_setRow _ _ _ _ hw7)
    generalize w11b.setRow g7 ((y).map V : List Value).toArray = w12b at bl m6 m7 ⊢
    refine wpList_nil ?_
    clear x42
    show Code.wp _ _ _ _ _
    refine wp_ret ?_
    repeat (first | with_reducible refine then_ret ?_ | with_reducible refine block_ret ?_)
    exact bodyPost_ret (v := .tuple #[.agg ((x).map V).toArray, .agg ((y).map V).toArray]) (ret_hh rfl f10 _ g6 g7 (x) (y) hx hy x6 x7 m6 m7) sd.2 ⟨rfl, bl⟩
  · obtain ⟨P0, z, r0, s0, rfl, hL, ex0, ey0⟩ := led_right h2 hm (by rw [hk]; exact hmk) hLd
    rw [hk] at hL
    have hvs := hc_hs hv
    have hz0 : z.length = 32 := hc_len hv z (by simp)
    obtain ⟨hr0, hs0⟩ := led_lens hL (fun p hp => hc_len hv p (by simp [hp]))
    have hPz : (P0 ++ [z])[P0.length]? = some z := by simp
    have ex : Box (nd z r0 = x) := ⟨ex0.symm⟩
    have ey : Box (nd z s0 = y) := ⟨ey0.symm⟩
    clear hLd ex0 ey0
    rw [List.length_append, List.length_singleton] at hPl
    go_enter Tryd.func51, Tryd.ntmps51
    refine code_both (fun f w1 => f.tmps.size = 68 ∧ f.defers = [] ∧ f.eval (.tmp 0) = .int .i64 (m : Int) ∧ f.eval (.tmp 1) = .int .i64 (n : Int) ∧ f.eval (.tmp 2) = v ∧ Below w.heap.size w (w1)) ⟨rfl, rfl, rfl, rfl, rfl, Below.refl _ _⟩ ?_
    rintro f0 w0 ⟨sz, df, x0, x1, x2, bl⟩
    have sd := And.intro sz df
    clear sz df
    have bl0 := bl
    refine wp_seq ?_
    refine wr_s [] (by rw [sd.1]; kernel_rfl) trivial ?_
    intro f1 w1 A hb
    replace x0 := A.t x0 rfl
    replace x1 := A.t x1 rfl
    replace x2 := A.t x2 rfl
    replace bl := bgo bl hb
    replace sd := A.sd sd
    clear A hb
    refine wl_one (.nw w1.heap.size 33 ((hz).map V)) rfl 6 rfl (by rw [sd.1]; decide) (st_alloc33 rfl _ (Nat.le_refl _)) ?_
    intro f2 w2 df2 sz2 old2 new2 hb
    replace bl0 := bl
    replace x0 := tr old2 x0 rfl
    replace x1 := tr old2 x1 rfl
    replace x2 := tr old2 x2 rfl
    have x6 : Fk.f (.nw w1.heap.size 33 ((hz).map V)) (f2.eval (.tmp 6)) w2 := new2
    replace bl := bgo bl hb
    replace sd := sd2 sz2 df2 sd
    clear df2 sz2 old2 new2 hb
    obtain ⟨g6, hg6, e6, m6⟩ := x6
    have x6 := e6
    clear e6
    have hw6 : w.heap.size ≤ g6 := Nat.le_trans bl0.size hg6
    refine wl_one (.nw w2.heap.size 33 ((hz).map V)) rfl 7 rfl (by rw [sd.1]; decide) (st_alloc33 rfl _ (Nat.le_refl _)) ?_
    intro f3 w3 df2 sz2 old2 new2 hb
    replace bl0 := bl
    replace x0 := tr old2 x0 rfl
    replace x1 := tr old2 x1 rfl
    replace x2 := tr old2 x2 rfl
    replace x6 := tr old2 x6 rfl
    have x7 : Fk.f (.nw w2.heap.size 33 ((hz).map V)) (f3.eval (.tmp 7)) w3 := new2
    have lt_m6 := Ob.lt m6
    replace m6 := Ob.below m6 hb
    replace bl := bgo bl hb
    replace sd := sd2 sz2 df2 sd
    clear df2 sz2 old2 new2 hb
    obtain ⟨g7, hg7, e7, m7⟩ := x7
    have x7 := e7
    clear e7
    have nm6_7 : g6 ≠ g7 := Nat.ne_of_lt (Nat.lt_of_lt_of_le lt_m6 hg7)
    have hw7 : w.heap.size ≤ g7 := Nat.le_trans bl0.size hg7
    refine wpList_nil ?_
    show Code.wp _ _ _ _ _
    refine wp_seq ?_
    refine wp_seq ?_
    refine wr_a [.eq (.int .i64 (m : Int)), .eq (.int .i64 (n : Int)), .eq (.bool false)] (by rw [sd.1]; kernel_rfl) ⟨fun hw ac u K => ?_, fun hw ac u K => ?_, fun hw ac u K => ?_, trivial⟩ ?_
    · exact st_move (.tmp 0) rfl (K.t x0 rfl)
    · exact st_move (.tmp 1) rfl (K.t x1 rfl)
    · exact st_eqi 3 (.tmp 10) (.tmp 11) rfl .i64 ((m : Int)) ((n : Int)) (K.dep 0 10 rfl) (K.dep 1 11 rfl) _ (by symm; rw [decide_eq_false_iff_not]; omega)
    intro f4 w4 A hb
    replace x0 := A.t x0 rfl
    replace x1 := A.t x1 rfl
    replace x2 := A.t x2 rfl
    replace x6 := A.t x6 rfl
    replace x7 := A.t x7 rfl
    have x12 := A.e 2 12 rfl rfl
    replace m6 := Ob.below m6 hb
    replace m7 := Ob.below m7 hb
    replace bl := bgo bl hb
    replace sd := A.sd sd
    clear A hb
    show Code.wp _ _ _ _ _
    refine wp_cond_false x12 ?_
    refine wp_skip ?_
    show Code.wp _ _ _ _ _
    refine wp_seq ?_
    refine wr_a [.eq (.int .i64 (n : Int)), .eq (.int .i64 (k : Int)), .eq (v), .eq (.int .i64 ((P0.length + 1 : Nat) : Int)), .eq (.int .i64 (P0.length : Int)), .eq (.int .i64 (k : Int)), .eq (.int .i64 (P0.length : Int))] (by rw [sd.1]; kernel_rfl) ⟨fun hw ac u K => ?_, fun hw ac u K => ?_, fun hw ac u K => ?_, fun hw ac u K => ?_, fun hw ac u K => ?_, fun hw ac u K => ?_, fun hw ac u K => ?_, trivial⟩ ?_
    · exact st_move (.tmp 1) rfl (K.t x1 rfl)
    · exact st_call 35 (.func 35) _ _ _ rfl rfl (one_arg (K.dep 0 19 rfl)) Tryd.enter35 (by rw [← hk]; exact fk_of (split_hi n h2 (by omega) _))
    · exact st_move (.tmp 2) rfl (K.t x2 rfl)
    · exact st_lenc (.tmp 21) rfl (P0.length + 1) (by simp) (fk_val (K.dep 2 21 rfl) (Fk.mono _ _ _ _ hv (bgo bl K.grow)))
    · exact st_subz (.tmp 22) (.const (.int .i64 1)) rfl _ 1 _ (K.dep 3 22 rfl) rfl (by omega) (by omega) (by omega)
    · exact st_assign (.tmp 20) rfl (K.dep 1 20 rfl)
    · exact st_assign (.tmp 23) rfl (K.dep 4 23 rfl)
    intro f5 w5 A hb
    replace x0 := A.t x0 rfl
    replace x1 := A.t x1 rfl
    replace x2 := A.t x2 rfl
    replace x6 := A.t x6 rfl
    replace x7 := A.t x7 rfl
    replace x12 := A.t x12 rfl
    have x8 := A.e 5 8 rfl rfl
    have x9 := A.e 6 9 rfl rfl
    replace m6 := Ob.below m6 hb
    replace m7 := Ob.below m7 hb
    replace bl := bgo bl hb
    replace sd := A.sd sd
    clear A hb
    clear x12
    show Code.wp _ _ _ _ _
    refine wp_seq ?_
    refine wp_seq ?_
    refine wr_a [.eq (.int .i64 (m : Int)), .eq (.int .i64 (k : Int)), .eq (.bool false)] (by rw [sd.1]; kernel_rfl) ⟨fun hw ac u K => ?_, fun hw ac u K => ?_, fun hw ac u K => ?_, trivial⟩ ?_
    · exact st_move (.tmp 0) rfl (K.t x0 rfl)
    · exact st_move (.tmp 8) rfl (K.t x8 rfl)
    · exact st_leq 3 (.tmp 24) (.tmp 25) rfl .i64 ((m : Int)) ((k : Int)) (K.dep 0 24 rfl) (K.dep 1 25 rfl) _ (by symm; rw [decide_eq_false_iff_not]; omega)
    intro f6 w6 A hb
    replace x0 := A.t x0 rfl
    replace x1 := A.t x1 rfl
    replace x2 := A.t x2 rfl
    replace x6 := A.t x6 rfl
    replace x7 := A.t x7 rfl
    replace x8 := A.t x8 rfl
    replace x9 := A.t x9 rfl
    have x26 := A.e 2 26 rfl rfl
    replace m6 := Ob.below m6 hb
    replace m7 := Ob.below m7 hb
    replace bl := bgo bl hb
    replace sd := A.sd sd
    clear A hb
    show Code.wp _ _ _ _ _
    refine wp_cond_false x26 ?_
    refine wp_skip ?_
    show Code.wp _ _ _ _ _
    refine wp_seq ?_
    refine wr_s [.eq (.int .i64 (m : Int)), .eq (.int .i64 (k : Int)), .eq (.int .i64 ((m - k : Nat) : Int)), .eq (.int .i64 (n : Int)), .eq (.int .i64 (k : Int)), .eq (.int .i64 ((n - k : Nat) : Int)), .eq (v), .eq (.int .i64 (P0.length : Int)), .hc (P0), .eq (.tuple #[.agg ((r0).map V).toArray, .agg ((s0).map V).toArray]), .eq (.tuple #[.agg ((r0).map V).toArray, .agg ((s0).map V).toArray]), .eq (.agg ((r0).map V).toArray), .eq (.agg ((s0).map V).toArray)] (by rw [sd.1]; kernel_rfl) ⟨fun hw ac u K => ?_, fun hw ac u K => ?_, fun hw ac u K => ?_, fun hw ac u K => ?_, fun hw ac u K => ?_, fun hw ac u K => ?_, fun hw ac u K => ?_, fun hw ac u K => ?_, fun hw ac u K => ?_, fun hw ac u K => ?_, fun hw ac u K => ?_, fun hw ac u K => ?_, fun hw ac u K => ?_, trivial⟩ ?_
    · exact st_move (.tmp 0) rfl (K.t x0 rfl)
    · exact st_move (.tmp 8) rfl (K.t x8 rfl)
    · exact st_subz (.tmp 44) (.tmp 45) rfl _ _ _ (K.dep 0 44 rfl) (K.dep 1 45 rfl) (by omega) (by omega) (by omega)
    · exact st_move (.tmp 1) rfl (K.t x1 rfl)
    · exact st_move (.tmp 8) rfl (K.t x8 rfl)
    · exact st_subz (.tmp 47) (.tmp 48) rfl _ _ _ (K.dep 3 47 rfl) (K.dep 4 48 rfl) (by omega) (by omega) (by omega)
    · exact st_move (.tmp 2) rfl (K.t x2 rfl)
    · exact st_move (.tmp 9) rfl (K.t x9 rfl)
    · exact st_cutl (.tmp 50) (.tmp 51) rfl (fk_val (K.dep 6 50 rfl) (Fk.mono _ _ _ _ hv (bgo bl K.grow))) (K.dep 7 51 rfl)
    · exact st_call 51 (.func 51) _ _ _ rfl rfl (arg3 (K.dep 2 46 rfl) (K.dep 5 49 rfl) rfl) Tryd.enter51 (fk_of (ih (n - k) (by omega) (m - k) P0 r0 s0 _ _ hL (K.dep 8 52 rfl) (by omega) (by omega) (by omega) (hK.below (bgo bl K.grow))))
    · exact st_move (.tmp 53) rfl (K.dep 9 53 rfl)
    · exact st_ext0 (.tmp 43) rfl (K.dep 10 43 rfl) rfl
    · exact st_ext1 (.tmp 43) rfl (K.dep 10 43 rfl) rfl
    intro f7 w7 A hb
    replace x0 := A.t x0 rfl
    replace x1 := A.t x1 rfl
    replace x2 := A.t x2 rfl
    replace x6 := A.t x6 rfl
    replace x7 := A.t x7 rfl
    replace x8 := A.t x8 rfl
    replace x9 := A.t x9 rfl
    replace x26 := A.t x26 rfl
    have x54 := A.e 11 54 rfl rfl
    have x55 := A.e 12 55 rfl rfl
    replace m6 := Ob.below m6 hb
    replace m7 := Ob.below m7 hb
    replace bl := bgo bl hb
    replace sd := A.sd sd
    clear A hb
    clear x0
    clear x1
    clear x8
    clear x26
    refine wl_store rfl (.tmp 6) (.tmp 54) rfl rfl (g6) (r0) (hz) x6 x54 m6 hz_len hr0 ?_
    replace m6 : Ob (w7.setRow g6 ((r0).map V : List Value).toArray) (g6) 33 ((r0).map V) := Ob.setRow m6 ((r0).map V)
    replace m7 : Ob (w7.setRow g6 ((r0).map V : List Value).toArray) (g7) 33 ((hz).map V) := Ob.setRow_other m7 _ nm6_7.symm
    replace bl : Below w.heap.size w (w7.setRow g6 ((r0).map V : List Value).toArray) := bl.trans (below_setRow _ _ _ _ hw6)
    generalize w7.setRow g6 ((r0).map V : List Value).toArray = w8b at bl m6 m7 ⊢
    clear x54
    refine wl_store rfl (.tmp 7) (.tmp 55) rfl rfl (g7) (s0) (hz) x7 x55 m7 hz_len hs0 ?_
    replace m6 : Ob (w8b.setRow g7 ((s0).map V : List Value).toArray) (g6) 33 ((r0).map V) := Ob.setRow_other m6 _ nm6_7
    replace m7 : Ob (w8b.setRow g7 ((s0).map V : List Value).toArray) (g7) 33 ((s0).map V) := Ob.setRow m7 ((s0).map V)
    replace bl : Below w.heap.size w (w8b.setRow g7 ((s0).map V : List Value).toArray) := bl.trans (below_setRow _ _ _ _ hw7)
    generalize w8b.setRow g7 ((s0).map V : List Value).toArray = w9b at bl m6 m7 ⊢
    refine wpList_nil ?_
    clear x55
    show Code.wp _ _ _ _ _
    refine wp_seq ?_
    refine wr_t [.eq (v), .eq (.int .i64 (P0.length : Int)), .ph (z), .eq (.agg ((z).map V).toArray), .eq (.agg ((r0).map V).toArray), .eq (.agg ((x).map V).toArray), .eq (v), .eq (.int .i64 (P0.length : Int)), .ph (z), .eq (.agg ((z).map V).toArray), .eq (.agg ((s0).map V).toArray), .eq (.agg ((y).map V).toArray)] [12, 13] Tryd.mixed (by rw [sd.1]; kernel_rfl) ⟨fun hw ac u K => ?_, fun hw ac u K => ?_, fun hw ac u K => ?_, fun hw ac u K => ?_, fun hw ac u K => ?_, fun hw ac u K => ?_, fun hw ac u K => ?_, fun hw ac u K => ?_, fun hw ac u K => ?_, fun hw ac u K => ?_, fun hw ac u K => ?_, fun hw ac u K => ?_, trivial⟩ ?_
    · exact st_move (.tmp 2) rfl (K.t x2 rfl)
    · exact st_move (.tmp 9) rfl (K.t x9 rfl)
    · exact st_idxh (.tmp 56) (.tmp 57) rfl (fk_val (K.dep 0 56 rfl) (Fk.mono _ _ _ _ hvs (bgo bl K.grow))) (P0.length) (z) (K.dep 1 57 rfl) hPz
    · exact st_loadh (.tmp 58) rfl (K.dep 2 58 rfl)
    · exact st_load33 (.tmp 6) rfl (g6) (r0) (K.t x6 rfl) hr0 (Ob.below m6 K.grow)
    · exact st_call 30 (.func 30) _ _ _ rfl rfl (arg2 (K.dep 3 59 rfl) (K.dep 4 60 rfl)) Tryd.enter30 (fk_node hz0 hr0 (hK.below (bgo bl K.grow)) ex)
    · exact st_move (.tmp 2) rfl (K.t x2 rfl)
    · exact st_move (.tmp 9) rfl (K.t x9 rfl)
    · exact st_idxh (.tmp 62) (.tmp 63) rfl (fk_val (K.dep 6 62 rfl) (Fk.mono _ _ _ _ hvs (bgo bl K.grow))) (P0.length) (z) (K.dep 7 63 rfl) hPz
    · exact st_loadh (.tmp 64) rfl (K.dep 8 64 rfl)
    · exact st_load33 (.tmp 7) rfl (g7) (s0) (K.t x7 rfl) hs0 (Ob.below m7 K.grow)
    · exact st_call 30 (.func 30) _ _ _ rfl rfl (arg2 (K.dep 9 65 rfl) (K.dep 10 66 rfl)) Tryd.enter30 (fk_node hz0 hs0 (hK.below (bgo bl K.grow)) ey)
    intro f10 w10 A hb
    replace x2 := A.t x2 rfl
    replace x6 := A.t x6 rfl
    replace x7 := A.t x7 rfl
    replace x9 := A.t x9 rfl
    have x61 := A.e 5 61 rfl rfl
    have x67 := A.e 11 67 rfl rfl
    replace m6 := Ob.below m6 hb
    replace m7 := Ob.below m7 hb
    replace bl := bgo bl hb
    replace sd := A.sd sd
    clear A hb
    clear x2
    clear x9
    refine wl_store rfl (.tmp 6) (.tmp 61) rfl rfl (g6) (x) (r0) x6 x61 m6 hr0 hx ?_
    replace m6 : Ob (w10.setRow g6 ((x).map V : List Value).toArray) (g6) 33 ((x).map V) := Ob.setRow m6 ((x).map V)
    replace m7 : Ob (w10.setRow g6 ((x).map V : List Value).toArray) (g7) 33 ((s0).map V) := Ob.setRow_other m7 _ nm6_7.symm
    replace bl : Below w.heap.size w (w10.setRow g6 ((x).map V : List Value).toArray) := bl.trans (below_setRow _ _ _ _ hw6)
    generalize w10.setRow g6 ((x).map V : List Value).toArray = w11b at bl m6 m7 ⊢
    clear x61
    refine wl_store rfl (.tmp 7) (.tmp 67) rfl rfl (g7) (y) (s0) x7 x67 m7 hs0 hy ?_
    replace m6 : Ob (w11b.setRow g7 ((y).map V : List Value).toArray) (g6) 33 ((x).map V) := Ob.setRow_other m6 _ nm6_7
    replace m7 : Ob (w11b.setRow g7 ((y).map V : List Value).toArray) (g7) 33 ((y).map V) := Ob.setRow m7 ((y).map V)
    replace bl : Below w.heap.size w (w11b.setRow g7 ((y).map V : List Value).toArray) := bl.trans (below_setRow _ _ _ _ hw7)
    generalize w11b.setRow g7 ((y).map V : List Value).toArray = w12b at bl m6 m7 ⊢
    refine wpList_nil ?_
    clear x67
    show Code.wp _ _ _ _ _
    refine wp_ret ?_
    repeat (first | with_reducible refine then_ret ?_ | with_reducible refine block_ret ?_)
    exact bodyPost_ret (v := .tuple #[.agg ((x).map V).toArray, .agg ((y).map V).toArray]) (ret_hh rfl f10 _ g6 g7 (x) (y) hx hy x6 x7 m6 m7) sd.2 ⟨rfl, bl⟩
end Go.Proofs.YtfmeeimhfdnjpaaDoor
