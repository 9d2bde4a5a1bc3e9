/- The landed wal: function values; fits. -/
import Derived.Test.YtakdpkoigijonaaGreatM11
import Derived.Shelf.SlicesG.CompactI
import Derived.Sort.OwnSortedInts
import Derived.Test.YtakdpkoigijonaaGreatM7
namespace Go.Proofs.YtakdpkoigijonaaGreat
set_option maxRecDepth 100000
open Go.RowKit
/-- A call of a function value. -/
def CV (v : Value) (args : Array Value) (w : World) (Q : Ending → World → Prop) : Prop := ∃ f first cap, v = .func (.func f) first cap ∧ (∀ a w, (callFunc f a).run Tryz.prog w = .ok (.enter f a) w) ∧ Calls Tryz.prog f (first ++ args ++ cap) w Q
section
variable {Q : Exit → Act → World → Prop} {o : Oper} {a : Act} {w : World} {ops : Array Oper} {rest : List Oper} {q : Fk}
theorem st_callv (x : Operand) (xs : Array Operand) (ts : Array TypeId) (vs : Array Value) (ho : o.op = .call { callee := .value x, args := xs, argTypes := ts }) {v : Value} (hx : a.eval x = v) (hv : (xs.toList.map a.eval).toArray = vs)
    (hc : CV v vs w fun e w' => ∃ u, e = .returned u ∧ q.f u w' ∧ Below w.heap.size w w') : o.wp Tryz.prog a w (Ends a o.dst w q.f) Q := by
  obtain ⟨f, first, cap, rfl, hf, hc⟩ := hc
  have hr : (execOp a.eval o).run Tryz.prog w = .ok (.enter f (first ++ vs ++ cap)) w := by
    have hv' : xs.map a.eval = vs := by rw [← hv]; apply Array.toList_inj.1; simp
    unfold execOp; rw [ho]
    simp [resolve, hx, Deferred.ofValue, invoke, hv', hf]
  unfold Oper.wp; rw [hr]
  refine Calls.mono hc ?_
  rintro e w' ⟨v, rfl, h1, h2⟩
  exact ⟨v, rfl, h2, h1⟩
theorem wl_callv (x : Operand) (xs : Array Operand) (ts : Array TypeId) (vs : Array Value) (hgd : o.guard = none) (d : Nat) (hd : o.dst = some d) (hsz : d < a.tmps.size) (ho : o.op = .call { callee := .value x, args := xs, argTypes := ts }) {v : Value} (hx : a.eval x = v) (hv : (xs.toList.map a.eval).toArray = vs)
    (R : Value → World → Prop) (hc : CV v vs w fun e w' => ∃ v, e = .returned v ∧ R v w')
    (h : ∀ a2 w2, a2.defers = a.defers → a2.tmps.size = a.tmps.size → (∀ t, (t == d) = false → a2.eval (.tmp t) = a.eval (.tmp t)) → R (a2.eval (.tmp d)) w2 → wpList Tryz.prog ops Q rest a2 w2) : wpList Tryz.prog ops Q (o :: rest) a w := by
  obtain ⟨f, first, cap, rfl, hf, hc⟩ := hc
  have hr : (execOp a.eval o).run Tryz.prog w = .ok (.enter f (first ++ vs ++ cap)) w := by
    have hv' : xs.map a.eval = vs := by rw [← hv]; apply Array.toList_inj.1; simp
    unfold execOp; rw [ho]
    simp [resolve, hx, Deferred.ofValue, invoke, hv', hf]
  unfold wpList
  rw [if_pos (by unfold Region.wanted; rw [hgd])]
  refine .inl ?_
  unfold Oper.wp; rw [hr]
  refine Calls.mono hc ?_
  rintro e w' ⟨v, rfl, h1⟩
  rw [hd]
  refine h _ _ (put_def _ _ _) (put_size _ _ _) (fun t ht => put_eval_other _ _ _ _ (fun e => by subst e; simp at ht)) ?_
  rw [put_eval_same _ _ _ hsz]
  exact h1
theorem st_mkf {f : FuncId} {first cap : Array Operand} {vs us : Array Value} (ho : o.op = .makeFunc (.func f) first cap) (h1 : (first.toList.map a.eval).toArray = vs) (h2 : (cap.toList.map a.eval).toArray = us) : o.wp Tryz.prog a w (Ends a o.dst w (Fk.eq (.func (.func f) vs us)).f) Q := by
  refine st_pure (v := .func (.func f) vs us) ?_ rfl
  have e1 : first.map a.eval = vs := by rw [← h1]; apply Array.toList_inj.1; simp
  have e2 : cap.map a.eval = us := by rw [← h2]; apply Array.toList_inj.1; simp
  unfold execOp
  rw [ho]
  simp [Instr.makeFunc, e1, e2]
end
theorem keeps_sorted {zs : List Int} (hs : zs.Pairwise (fun a b => a ≤ b)) : (Lib.compact zs).length < zs.length ↔ ¬ zs.Nodup := by
  constructor
  · intro h hn
    have : Lib.compact zs = zs := Lib.compact_all zs (fun j hj => by
      unfold Lib.keeps
      rw [decide_eq_true_iff]
      by_cases h0 : j = 0
      · exact .inl h0
      · refine .inr fun e => ?_
        rw [getElem!_pos _ _ (by simpa using hj), getElem!_pos _ _ (by simp; omega)] at e
        have := List.pairwise_iff_getElem.1 hn (j - 1) j (by omega) hj (by omega)
        exact this (by simpa using e.symm))
    rw [this] at h
    exact Nat.lt_irrefl _ h
  · intro h
    have h2 : ∃ j, ∃ hj : j < zs.length, ∃ h0 : 0 < j, zs[j] = zs[j - 1]'(by omega) := by
      apply Classical.byContradiction
      intro hno
      apply h
      rw [List.nodup_iff_pairwise_ne, List.pairwise_iff_getElem]
      intro i j hi hj hij e
      have hle : zs[i] ≤ zs[j - 1]'(by omega) := by
        by_cases e2 : i = j - 1
        · subst e2
          exact Int.le_refl _
        · exact List.pairwise_iff_getElem.1 hs i (j - 1) hi (by omega) (by omega)
      have hle2 : zs[j - 1]'(by omega) ≤ zs[j] := List.pairwise_iff_getElem.1 hs (j - 1) j (by omega) hj (by omega)
      exact hno ⟨j, hj, by omega, by omega⟩
    obtain ⟨j, hj, h0, e⟩ := h2
    unfold Lib.compact Lib.compactUpTo
    rw [List.length_map]
    have h3 : (List.range zs.length).filter (Lib.keeps zs.toArray) ≠ List.range zs.length := fun e3 => by
      have := List.filter_eq_self.1 e3 j (List.mem_range.2 hj)
      unfold Lib.keeps at this
      rw [decide_eq_true_iff] at this
      rcases this with q | q
      · omega
      · rw [getElem!_pos _ _ (by simpa using hj), getElem!_pos _ _ (by simp; omega)] at q
        exact q (by simpa using e)
    have h4 : ((List.range zs.length).filter (Lib.keeps zs.toArray)).length ≤ (List.range zs.length).length := List.length_filter_le _ _
    rw [List.length_range] at h4
    rcases Nat.lt_or_ge ((List.range zs.length).filter (Lib.keeps zs.toArray)).length zs.length with h5 | h5
    · exact h5
    · exact absurd (List.Sublist.eq_of_length List.filter_sublist (by rw [List.length_range]; omega)) h3
theorem sorted_twice (ps : List Int) : (Lib.compact (ps.mergeSort fun x y => decide (x ≤ y))).length < ps.length ↔ ¬ ps.Nodup := by
  have hp := List.mergeSort_perm ps (fun x y => decide (x ≤ y))
  rw [← hp.nodup_iff, ← keeps_sorted (List.Pairwise.imp (fun h => by simpa using h) (List.pairwise_mergeSort (le := fun x y => decide (x ≤ y)) (fun a b c h1 h2 => by simp at *; omega) (fun a b => by simp; omega) ps)), hp.length_eq]
theorem twice_form {z : Nat} {l : List Cng} : ((∃ c ∈ l, c.bs.length ≠ z) ∨ ¬ (l.map (·.p)).Nodup) ↔ FormB z l l.length := by
  constructor
  · rintro (⟨c, hc, h⟩ | h)
    · obtain ⟨i, hi, e⟩ := List.mem_iff_getElem.1 hc
      exact ⟨i, c, hi, by rw [List.getElem?_eq_getElem hi, e], .inl h⟩
    · apply Classical.byContradiction
      intro hno
      apply h
      rw [List.nodup_iff_pairwise_ne, List.pairwise_iff_getElem]
      intro i j hi hj hij e
      rw [List.length_map] at hi hj
      rw [List.getElem_map, List.getElem_map] at e
      exact hno ⟨j, l[j], hj, List.getElem?_eq_getElem hj, .inr ⟨i, l[i], hij, List.getElem?_eq_getElem hi, e⟩⟩
  · rintro ⟨i, c, hi, hc, h | ⟨j, d, hj, hd, e⟩⟩
    · exact .inl ⟨c, List.mem_of_getElem? hc, h⟩
    · refine .inr fun hn => ?_
      rw [List.nodup_iff_pairwise_ne, List.pairwise_iff_getElem] at hn
      obtain ⟨h1, rfl⟩ := List.getElem?_eq_some_iff.1 hc
      obtain ⟨h2, rfl⟩ := List.getElem?_eq_some_iff.1 hd
      exact hn j i (by rw [List.length_map]; omega) (by rw [List.length_map]; omega) hj (by rw [List.getElem_map, List.getElem_map]; exact e)
theorem fk_xfits1 {w : World} {gw gd n z k9 b2 : Nat} {M D : Nat → Prop} {dn : Bool} {s : Dst} (mb : Ob w b2 34 [.pointer (some ⟨gw, 0, none⟩)]) (mw : Ob w gw 62 [.pointer (some ⟨gd, 0, none⟩), .bool dn]) (hd : HD w gd M D s) (gs : Gd s n z k9) (c : Cng) {r : Bool} (hr : r = !decide (0 ≤ c.p ∧ c.p < (homN n : Int))) :
    Calls Tryz.prog 55 #[.agg ([.int .i64 c.p, c.vb] : List Value).toArray, .pointer (some ⟨b2, 0, none⟩)] w fun e w' => ∃ u, e = .returned u ∧ (Fk.eq (.bool r)).f u w' ∧ Below w.heap.size w w' := by
  go_enter Tryz.func55, Tryz.ntmps55
  refine code_both (fun f w1 => f.tmps.size = 9 ∧ f.defers = [] ∧ f.eval (.tmp 0) = .agg ([.int .i64 c.p, c.vb] : List Value).toArray ∧ f.eval (.tmp 1) = .pointer (some ⟨b2, 0, none⟩) ∧ Below w.heap.size w (w1)) ⟨rfl, rfl, rfl, rfl, Below.refl _ _⟩ ?_
  rintro f0 w0 ⟨sz, df, x0, x1, bl⟩
  have sd := And.intro sz df
  clear sz df
  have bl0 := bl
  refine wp_seq ?_
  refine wr_a [.nw w0.heap.size 55 ([.int .i64 c.p, c.vb] : List Value), .eq (.bool false)] (by rw [sd.1]; kernel_rfl) ⟨fun hw ac u K => ?_, fun hw ac u K => ?_, trivial⟩ ?_
  · exact st_box 55 (.tmp 0) rfl _ _ (by rw [show _ = _ from (K.t x0 rfl)]; kernel_rfl) K.grow.size
  · exact st_assign (.const (.bool false)) rfl rfl
  intro f1 w1 A hb
  replace bl0 := bl
  replace x0 := A.t x0 rfl
  replace x1 := A.t x1 rfl
  have x2 : Fk.f (.nw w0.heap.size 55 ([.int .i64 c.p, c.vb] : List Value)) (f1.eval (.tmp 2)) w1 := A.has 0 2 rfl
  replace bl := bgo bl hb
  replace sd := A.sd sd
  clear A hb
  clear x0
  obtain ⟨g2, hg2, e2, m2⟩ := x2
  have x2 := e2
  clear e2
  have nmb_2 : b2 ≠ g2 := Nat.ne_of_lt (Nat.lt_of_lt_of_le (Ob.lt mb) (Nat.le_trans bl0.size hg2))
  have nmw_2 : gw ≠ g2 := Nat.ne_of_lt (Nat.lt_of_lt_of_le (Ob.lt mw) (Nat.le_trans bl0.size hg2))
  have hw2 : w.heap.size ≤ g2 := Nat.le_trans bl0.size hg2
  show Code.wp _ _ _ _ _
  refine wp_seq ?_
  have hxh := fun {W : World} (hb : Below w.heap.size w W) => fk_xhas (Ob.below mw hb) (HD.below hd hb) gs c.p
  by_cases hr9 : 0 ≤ c.p ∧ c.p < (homN n : Int)
  rotate_left
  · skip
    have hdd : decide (0 ≤ c.p ∧ c.p < (homN n : Int)) = false := by rw [decide_eq_false_iff_not]; exact hr9
    refine wr_a [.eq (.pointer (some ⟨gw, 0, none⟩)), .eq (.pointer (some ⟨g2, 0, none⟩)), .eq (.int .i64 c.p), .eq (.bool false), .eq (.bool true), .eq (.bool true)] (by rw [sd.1]; kernel_rfl) ⟨fun hw ac u K => ?_, fun hw ac u K => ?_, fun hw ac u K => ?_, fun hw ac u K => ?_, fun hw ac u K => ?_, fun hw ac u K => ?_, trivial⟩ ?_
    · exact st_loadc 34 (.tmp 1) rfl (by kernel_rfl) (K.t x1 rfl) (Ob.cell (Ob.below mb (bgo bl K.grow)) 0 rfl)
    · exact st_field 55 0 (.tmp 2) rfl (K.t x2 rfl) (by kernel_rfl)
    · exact st_loadc 3 (.tmp 5) rfl (by kernel_rfl) (K.dep 1 5 rfl) (Ob.cell (Ob.below m2 K.grow) 0 rfl)
    · exact st_call 43 (.func 43) _ _ _ rfl rfl (arg2 (K.dep 0 4 rfl) (K.dep 2 6 rfl)) Tryz.enter43 (by have h9 := hxh (bgo bl K.grow); rw [hdd] at h9; exact h9)
    · exact st_not (.tmp 7) rfl false (K.dep 3 7 rfl)
    · exact st_assign (.tmp 8) rfl (K.dep 4 8 rfl)
    intro f2 w2 A hb
    replace x1 := A.t x1 rfl
    replace x2 := A.t x2 rfl
    have x3 := A.e 5 3 rfl rfl
    replace m2 := Ob.below m2 hb
    replace bl := bgo bl hb
    replace sd := A.sd sd
    clear A hb
    clear x1
    clear x2
    clear m2
    show Code.wp _ _ _ _ _
    refine wp_ret ?_
    repeat (first | with_reducible refine then_ret ?_ | with_reducible refine block_ret ?_)
    exact bodyPost_ret (v := .bool true) (ret_slot rfl f2 _ x3 _ _) sd.2 ⟨_, rfl, (by rw [hr, hdd]; rfl), bl⟩
  have hdd : decide (0 ≤ c.p ∧ c.p < (homN n : Int)) = true := by rw [decide_eq_true_iff]; exact hr9
  refine wr_a [.eq (.pointer (some ⟨gw, 0, none⟩)), .eq (.pointer (some ⟨g2, 0, none⟩)), .eq (.int .i64 c.p), .eq (.bool true), .eq (.bool false), .eq (.bool false)] (by rw [sd.1]; kernel_rfl) ⟨fun hw ac u K => ?_, fun hw ac u K => ?_, fun hw ac u K => ?_, fun hw ac u K => ?_, fun hw ac u K => ?_, fun hw ac u K => ?_, trivial⟩ ?_
  · exact st_loadc 34 (.tmp 1) rfl (by kernel_rfl) (K.t x1 rfl) (Ob.cell (Ob.below mb (bgo bl K.grow)) 0 rfl)
  · exact st_field 55 0 (.tmp 2) rfl (K.t x2 rfl) (by kernel_rfl)
  · exact st_loadc 3 (.tmp 5) rfl (by kernel_rfl) (K.dep 1 5 rfl) (Ob.cell (Ob.below m2 K.grow) 0 rfl)
  · exact st_call 43 (.func 43) _ _ _ rfl rfl (arg2 (K.dep 0 4 rfl) (K.dep 2 6 rfl)) Tryz.enter43 (by have h9 := hxh (bgo bl K.grow); rw [hdd] at h9; exact h9)
  · exact st_not (.tmp 7) rfl true (K.dep 3 7 rfl)
  · exact st_assign (.tmp 8) rfl (K.dep 4 8 rfl)
  intro f2 w2 A hb
  replace x1 := A.t x1 rfl
  replace x2 := A.t x2 rfl
  have x3 := A.e 5 3 rfl rfl
  replace m2 := Ob.below m2 hb
  replace bl := bgo bl hb
  replace sd := A.sd sd
  clear A hb
  clear x1
  clear x2
  clear m2
  show Code.wp _ _ _ _ _
  refine wp_ret ?_
  repeat (first | with_reducible refine then_ret ?_ | with_reducible refine block_ret ?_)
  exact bodyPost_ret (v := .bool false) (ret_slot rfl f2 _ x3 _ _) sd.2 ⟨_, rfl, (by rw [hr, hdd]; rfl), bl⟩
theorem fk_xfits2 {w : World} {gw gd n z k9 b2 : Nat} {M D : Nat → Prop} {dn : Bool} {s : Dst} (mb : Ob w b2 34 [.pointer (some ⟨gw, 0, none⟩)]) (mw : Ob w gw 62 [.pointer (some ⟨gd, 0, none⟩), .bool dn]) (hd : HD w gd M D s) (gs : Gd s n z k9) (c : Cng) (hcb : (Fk.sl c.bs).f c.vb w) {r : Bool} (hr : r = decide (c.bs.length ≠ z)) :
    Calls Tryz.prog 56 #[.agg ([.int .i64 c.p, c.vb] : List Value).toArray, .pointer (some ⟨b2, 0, none⟩)] w fun e w' => ∃ u, e = .returned u ∧ (Fk.eq (.bool r)).f u w' ∧ Below w.heap.size w w' := by
  go_enter Tryz.func56, Tryz.ntmps56
  refine code_both (fun f w1 => f.tmps.size = 10 ∧ f.defers = [] ∧ f.eval (.tmp 0) = .agg ([.int .i64 c.p, c.vb] : List Value).toArray ∧ f.eval (.tmp 1) = .pointer (some ⟨b2, 0, none⟩) ∧ Below w.heap.size w (w1)) ⟨rfl, rfl, rfl, rfl, Below.refl _ _⟩ ?_
  rintro f0 w0 ⟨sz, df, x0, x1, bl⟩
  have sd := And.intro sz df
  clear sz df
  have bl0 := bl
  refine wp_seq ?_
  refine wr_a [.nw w0.heap.size 55 ([.int .i64 c.p, c.vb] : List Value), .eq (.bool false)] (by rw [sd.1]; kernel_rfl) ⟨fun hw ac u K => ?_, fun hw ac u K => ?_, trivial⟩ ?_
  · exact st_box 55 (.tmp 0) rfl _ _ (by rw [show _ = _ from (K.t x0 rfl)]; kernel_rfl) K.grow.size
  · exact st_assign (.const (.bool false)) rfl rfl
  intro f1 w1 A hb
  replace bl0 := bl
  replace x0 := A.t x0 rfl
  replace x1 := A.t x1 rfl
  have x2 : Fk.f (.nw w0.heap.size 55 ([.int .i64 c.p, c.vb] : List Value)) (f1.eval (.tmp 2)) w1 := A.has 0 2 rfl
  replace bl := bgo bl hb
  replace sd := A.sd sd
  clear A hb
  clear x0
  obtain ⟨g2, hg2, e2, m2⟩ := x2
  have x2 := e2
  clear e2
  have nmb_2 : b2 ≠ g2 := Nat.ne_of_lt (Nat.lt_of_lt_of_le (Ob.lt mb) (Nat.le_trans bl0.size hg2))
  have nmw_2 : gw ≠ g2 := Nat.ne_of_lt (Nat.lt_of_lt_of_le (Ob.lt mw) (Nat.le_trans bl0.size hg2))
  have hw2 : w.heap.size ≤ g2 := Nat.le_trans bl0.size hg2
  show Code.wp _ _ _ _ _
  refine wp_seq ?_
  by_cases hr9 : c.bs.length = z
  rotate_left
  · skip
    refine wr_d [.eq (.pointer (some ⟨g2, 1, none⟩)), .eq (c.vb), .eq (.int .i64 (((c.bs).length : Nat) : Int)), .eq (.pointer (some ⟨gw, 0, none⟩)), .eq (.int .i64 (z : Int)), .eq (.bool true), .eq (.bool true)] Tryz.mixed (by rw [sd.1]; kernel_rfl) ⟨fun hw ac u K => ?_, fun hw ac u K => ?_, fun hw ac u K => ?_, fun hw ac u K => ?_, fun hw ac u K => ?_, fun hw ac u K => ?_, fun hw ac u K => ?_, trivial⟩ ?_
    · exact st_field 55 1 (.tmp 2) rfl (K.t x2 rfl) (by kernel_rfl)
    · exact st_loadc 22 (.tmp 4) rfl (by kernel_rfl) (K.dep 0 4 rfl) (Ob.cell (Ob.below m2 K.grow) 1 rfl)
    · exact st_lenb (.tmp 5) rfl (fk_val (K.dep 1 5 rfl) (Fk.mono _ _ _ _ hcb (bgo bl K.grow)))
    · exact st_loadc 34 (.tmp 1) rfl (by kernel_rfl) (K.t x1 rfl) (Ob.cell (Ob.below mb (bgo bl K.grow)) 0 rfl)
    · exact st_call 39 (.func 39) _ _ _ rfl rfl (one_arg (K.dep 3 7 rfl)) Tryz.enter39 (fk_xsize (Ob.below mw (bgo bl K.grow)) (HD.below hd (bgo bl K.grow)) gs)
    · exact st_neqi 3 (.tmp 6) (.tmp 8) rfl .i64 ((((c.bs).length : Nat) : Int)) ((z : Int)) (K.dep 2 6 rfl) (K.dep 4 8 rfl) _ (by rw [eq_comm, decide_eq_true_iff]; omega)
    · exact st_assign (.tmp 9) rfl (K.dep 5 9 rfl)
    intro f2 w2 A hb
    replace x1 := A.t x1 rfl
    replace x2 := A.t x2 rfl
    have x3 := A.e 6 3 rfl rfl
    replace m2 := Ob.below m2 hb
    replace bl := bgo bl hb
    replace sd := A.sd sd
    clear A hb
    clear x1
    clear x2
    clear m2
    show Code.wp _ _ _ _ _
    refine wp_ret ?_
    repeat (first | with_reducible refine then_ret ?_ | with_reducible refine block_ret ?_)
    exact bodyPost_ret (v := .bool true) (ret_slot rfl f2 _ x3 _ _) sd.2 ⟨_, rfl, (by rw [hr, show decide (c.bs.length ≠ z) = true from by rw [decide_eq_true_iff]; omega]; rfl), bl⟩
  refine wr_d [.eq (.pointer (some ⟨g2, 1, none⟩)), .eq (c.vb), .eq (.int .i64 (((c.bs).length : Nat) : Int)), .eq (.pointer (some ⟨gw, 0, none⟩)), .eq (.int .i64 (z : Int)), .eq (.bool false), .eq (.bool false)] Tryz.mixed (by rw [sd.1]; kernel_rfl) ⟨fun hw ac u K => ?_, fun hw ac u K => ?_, fun hw ac u K => ?_, fun hw ac u K => ?_, fun hw ac u K => ?_, fun hw ac u K => ?_, fun hw ac u K => ?_, trivial⟩ ?_
  · exact st_field 55 1 (.tmp 2) rfl (K.t x2 rfl) (by kernel_rfl)
  · exact st_loadc 22 (.tmp 4) rfl (by kernel_rfl) (K.dep 0 4 rfl) (Ob.cell (Ob.below m2 K.grow) 1 rfl)
  · exact st_lenb (.tmp 5) rfl (fk_val (K.dep 1 5 rfl) (Fk.mono _ _ _ _ hcb (bgo bl K.grow)))
  · exact st_loadc 34 (.tmp 1) rfl (by kernel_rfl) (K.t x1 rfl) (Ob.cell (Ob.below mb (bgo bl K.grow)) 0 rfl)
  · exact st_call 39 (.func 39) _ _ _ rfl rfl (one_arg (K.dep 3 7 rfl)) Tryz.enter39 (fk_xsize (Ob.below mw (bgo bl K.grow)) (HD.below hd (bgo bl K.grow)) gs)
  · exact st_neqi 3 (.tmp 6) (.tmp 8) rfl .i64 ((((c.bs).length : Nat) : Int)) ((z : Int)) (K.dep 2 6 rfl) (K.dep 4 8 rfl) _ (by rw [eq_comm, decide_eq_false_iff_not]; omega)
  · exact st_assign (.tmp 9) rfl (K.dep 5 9 rfl)
  intro f2 w2 A hb
  replace x1 := A.t x1 rfl
  replace x2 := A.t x2 rfl
  have x3 := A.e 6 3 rfl rfl
  replace m2 := Ob.below m2 hb
  replace bl := bgo bl hb
  replace sd := A.sd sd
  clear A hb
  clear x1
  clear x2
  clear m2
  show Code.wp _ _ _ _ _
  refine wp_ret ?_
  repeat (first | with_reducible refine then_ret ?_ | with_reducible refine block_ret ?_)
  exact bodyPost_ret (v := .bool false) (ret_slot rfl f2 _ x3 _ _) sd.2 ⟨_, rfl, (by rw [hr, show decide (c.bs.length ≠ z) = false from by rw [decide_eq_false_iff_not]; omega]; rfl), bl⟩
theorem fk_xindexF {l : List Cng} (hln : l.length ≤ 100000) {w : World} {vl vf : Value} (hvl : (Fk.sr RC l).f vl w) {p : Cng → Bool} (hp : ∀ c ∈ l, ∀ W, Below w.heap.size w W → CV vf #[.agg ([.int .i64 c.p, c.vb] : List Value).toArray] W fun e W' => ∃ u, e = .returned u ∧ (Fk.eq (.bool (p c))).f u W' ∧ Below W.heap.size W W') :
    Calls Tryz.prog 67 #[vl, vf] w fun e w' => ∃ r : Int, e = .returned (.int .i64 r) ∧ ((r = -1 ∧ ∀ c ∈ l, p c = false) ∨ (0 ≤ r ∧ ∃ c ∈ l, p c = true)) ∧ Below w.heap.size w w' := by
  go_enter Tryz.func67, Tryz.ntmps67
  refine code_both (fun f w1 => f.tmps.size = 19 ∧ f.defers = [] ∧ f.eval (.tmp 0) = vl ∧ f.eval (.tmp 1) = vf ∧ Below w.heap.size w (w1)) ⟨rfl, rfl, rfl, rfl, Below.refl _ _⟩ ?_
  rintro f0 w0 ⟨sz, df, x0, x1, bl⟩
  have sd := And.intro sz df
  clear sz df
  have bl0 := bl
  refine wp_seq ?_
  refine wr_a [.eq (.int .i64 0)] (by rw [sd.1]; kernel_rfl) ⟨fun hw ac u K => ?_, trivial⟩ ?_
  · exact st_assign (.const (.int .i64 0)) rfl rfl
  intro f1 w1 A hb
  replace x0 := A.t x0 rfl
  replace x1 := A.t x1 rfl
  replace bl := bgo bl hb
  replace sd := A.sd sd
  clear A hb
  show Code.wp _ _ _ _ _
  refine wp_seq ?_
  refine wp_seq ?_
  refine wr_a [.eq (vl), .eq (.int .i64 (((l).length : Nat) : Int)), .eq (.int .i64 0)] (by rw [sd.1]; kernel_rfl) ⟨fun hw ac u K => ?_, fun hw ac u K => ?_, fun hw ac u K => ?_, trivial⟩ ?_
  · exact st_move (.tmp 0) rfl (K.t x0 rfl)
  · exact st_lensc (.tmp 6) rfl (fk_val (K.dep 0 6 rfl) (Fk.mono _ _ _ _ hvl (bgo bl K.grow)))
  · exact st_move (.const (.int .i64 0)) rfl rfl
  intro f2 w2 A hb
  replace x0 := A.t x0 rfl
  replace x1 := A.t x1 rfl
  have x7 := A.e 1 7 rfl rfl
  have x8 := A.e 2 8 rfl rfl
  replace bl := bgo bl hb
  replace sd := A.sd sd
  clear A hb
  show Code.wp _ _ _ _ _
  refine wp_block ?_
  refine wp_loop (fun f v1 => ∃ k : Nat, k ≤ l.length ∧ (∀ c ∈ l.take k, p c = false) ∧ f.tmps.size = 19 ∧ f.defers = [] ∧ f.eval (.tmp 0) = vl ∧ f.eval (.tmp 1) = vf ∧ f.eval (.tmp 7) = .int .i64 (((l).length : Nat) : Int) ∧ f.eval (.tmp 8) = .int .i64 (k : Int) ∧ Below w.heap.size w (v1)) (fun f _ => l.length - (intOf (f.eval (.tmp 8))).toNat) ⟨0, Nat.zero_le _, (by simp), sd.1, sd.2, x0, x1, x7, x8, bl⟩ ?_
  intro f3 w3 hI
  clear sd bl bl0 x0 x1 x7 x8
  obtain ⟨k, hk8, hno, sz, df, x0, x1, x7, x8, bl⟩ := hI
  have sd := And.intro sz df
  clear sz df
  have bl0 := bl
  have hcnt := x8
  refine wp_seq ?_
  by_cases hlt : k < l.length
  rotate_left
  · skip
    rw [List.take_of_length_le (by omega)] at hno
    refine wr_a [.eq (.bool false)] (by rw [sd.1]; kernel_rfl) ⟨fun hw ac u K => ?_, trivial⟩ ?_
    · exact st_lss 3 (.tmp 8) (.tmp 7) rfl .i64 ((k : Int)) ((((l).length : Nat) : Int)) (K.t x8 rfl) (K.t x7 rfl) _ (by rw [eq_comm, decide_eq_false_iff_not]; exact fun h => hlt (Int.ofNat_lt.1 h))
    intro f4 w4 A hb
    replace x0 := A.t x0 rfl
    replace x1 := A.t x1 rfl
    replace x7 := A.t x7 rfl
    replace x8 := A.t x8 rfl
    have x9 := A.e 0 9 rfl rfl
    replace bl := bgo bl hb
    replace sd := A.sd sd
    clear A hb
    show Code.wp _ _ _ _ _
    refine wp_seq ?_
    refine wp_cond_false x9 ?_
    refine wp_exit ?_
    show Code.wp _ _ _ _ _
    refine wp_seq ?_
    refine wr_a [.eq (.int .i64 (-1))] (by rw [sd.1]; kernel_rfl) ⟨fun hw ac u K => ?_, trivial⟩ ?_
    · exact st_assign (.const (.int .i64 (-1))) rfl rfl
    intro f5 w5 A hb
    replace x0 := A.t x0 rfl
    replace x1 := A.t x1 rfl
    replace x7 := A.t x7 rfl
    replace x8 := A.t x8 rfl
    replace x9 := A.t x9 rfl
    have x4 := A.e 0 4 rfl rfl
    replace bl := bgo bl hb
    replace sd := A.sd sd
    clear A hb
    clear x9
    show Code.wp _ _ _ _ _
    refine wp_ret ?_
    repeat (first | with_reducible refine then_ret ?_ | with_reducible refine block_ret ?_)
    exact bodyPost_ret (v := .int .i64 (-1)) (ret_slot rfl f5 _ x4 _ _) sd.2 ⟨-1, rfl, .inl ⟨rfl, hno⟩, bl⟩
  obtain ⟨cc, hcck⟩ : ∃ p, l[k]? = some p := ⟨_, List.getElem?_eq_getElem hlt⟩
  have hmem := List.mem_of_getElem? hcck
  have hpw := hp cc hmem
  refine wr_a [.eq (.bool true)] (by rw [sd.1]; kernel_rfl) ⟨fun hw ac u K => ?_, trivial⟩ ?_
  · exact st_lss 3 (.tmp 8) (.tmp 7) rfl .i64 ((k : Int)) ((((l).length : Nat) : Int)) (K.t x8 rfl) (K.t x7 rfl) _ (by rw [eq_comm, decide_eq_true_iff]; exact Int.ofNat_lt.2 hlt)
  intro f4 w4 A hb
  replace x0 := A.t x0 rfl
  replace x1 := A.t x1 rfl
  replace x7 := A.t x7 rfl
  replace x8 := A.t x8 rfl
  have x9 := A.e 0 9 rfl rfl
  replace bl := bgo bl hb
  replace sd := A.sd sd
  clear A hb
  show Code.wp _ _ _ _ _
  refine wp_seq ?_
  refine wp_cond_true x9 ?_
  refine wp_skip ?_
  show Code.wp _ _ _ _ _
  refine wp_seq ?_
  refine wp_block ?_
  refine wp_seq ?_
  refine wr_a [.eq (.int .i64 (k : Int)), .eq (.int .i64 (k : Int))] (by rw [sd.1]; kernel_rfl) ⟨fun hw ac u K => ?_, fun hw ac u K => ?_, trivial⟩ ?_
  · exact st_move (.tmp 8) rfl (K.t x8 rfl)
  · exact st_assign (.tmp 10) rfl (K.dep 0 10 rfl)
  intro f5 w5 A hb
  replace x0 := A.t x0 rfl
  replace x1 := A.t x1 rfl
  replace x7 := A.t x7 rfl
  replace x8 := A.t x8 rfl
  replace x9 := A.t x9 rfl
  have x5 := A.e 1 5 rfl rfl
  replace bl := bgo bl hb
  replace sd := A.sd sd
  clear A hb
  clear x9
  show Code.wp _ _ _ _ _
  refine wp_seq ?_
  cases hpc : p cc
  rotate_left
  · skip
    refine wr_a [.eq (vf), .eq (vl), .eq (.int .i64 (k : Int)), .sq RC cc, .eq (.agg ([.int .i64 cc.p, cc.vb] : List Value).toArray), .eq (.bool true)] (by rw [sd.1]; kernel_rfl) ⟨fun hw ac u K => ?_, fun hw ac u K => ?_, fun hw ac u K => ?_, fun hw ac u K => ?_, fun hw ac u K => ?_, fun hw ac u K => ?_, trivial⟩ ?_
    · exact st_move (.tmp 1) rfl (K.t x1 rfl)
    · exact st_move (.tmp 0) rfl (K.t x0 rfl)
    · exact st_move (.tmp 5) rfl (K.t x5 rfl)
    · exact st_idxsc (.tmp 12) (.tmp 13) rfl (fk_val (K.dep 1 12 rfl) (Fk.mono _ _ _ _ hvl (bgo bl K.grow))) k cc (K.dep 2 13 rfl) hcck
    · exact st_loadsc (.tmp 14) rfl (K.dep 3 14 rfl)
    · exact st_callv (.tmp 11) _ _ _ rfl (K.dep 0 11 rfl) (one_arg (K.dep 4 15 rfl)) (by have h9 := hpw _ (bgo bl K.grow); rw [hpc] at h9; exact h9)
    intro f6 w6 A hb
    replace x0 := A.t x0 rfl
    replace x1 := A.t x1 rfl
    replace x7 := A.t x7 rfl
    replace x8 := A.t x8 rfl
    replace x5 := A.t x5 rfl
    have x16 := A.e 5 16 rfl rfl
    replace bl := bgo bl hb
    replace sd := A.sd sd
    clear A hb
    show Code.wp _ _ _ _ _
    refine wp_cond_true x16 ?_
    refine wp_seq ?_
    refine wr_a [.eq (.int .i64 (k : Int)), .eq (.int .i64 (k : Int))] (by rw [sd.1]; kernel_rfl) ⟨fun hw ac u K => ?_, fun hw ac u K => ?_, trivial⟩ ?_
    · exact st_move (.tmp 5) rfl (K.t x5 rfl)
    · exact st_assign (.tmp 17) rfl (K.dep 0 17 rfl)
    intro f7 w7 A hb
    replace x0 := A.t x0 rfl
    replace x1 := A.t x1 rfl
    replace x7 := A.t x7 rfl
    replace x8 := A.t x8 rfl
    replace x5 := A.t x5 rfl
    replace x16 := A.t x16 rfl
    have x4 := A.e 1 4 rfl rfl
    replace bl := bgo bl hb
    replace sd := A.sd sd
    clear A hb
    clear x5
    clear x16
    show Code.wp _ _ _ _ _
    refine wp_ret ?_
    repeat (first | with_reducible refine then_ret ?_ | with_reducible refine block_ret ?_)
    exact bodyPost_ret (v := .int .i64 (k : Int)) (ret_slot rfl f7 _ x4 _ _) sd.2 ⟨(k : Int), rfl, .inr ⟨by omega, cc, hmem, hpc⟩, bl⟩
  refine wr_a [.eq (vf), .eq (vl), .eq (.int .i64 (k : Int)), .sq RC cc, .eq (.agg ([.int .i64 cc.p, cc.vb] : List Value).toArray), .eq (.bool false)] (by rw [sd.1]; kernel_rfl) ⟨fun hw ac u K => ?_, fun hw ac u K => ?_, fun hw ac u K => ?_, fun hw ac u K => ?_, fun hw ac u K => ?_, fun hw ac u K => ?_, trivial⟩ ?_
  · exact st_move (.tmp 1) rfl (K.t x1 rfl)
  · exact st_move (.tmp 0) rfl (K.t x0 rfl)
  · exact st_move (.tmp 5) rfl (K.t x5 rfl)
  · exact st_idxsc (.tmp 12) (.tmp 13) rfl (fk_val (K.dep 1 12 rfl) (Fk.mono _ _ _ _ hvl (bgo bl K.grow))) k cc (K.dep 2 13 rfl) hcck
  · exact st_loadsc (.tmp 14) rfl (K.dep 3 14 rfl)
  · exact st_callv (.tmp 11) _ _ _ rfl (K.dep 0 11 rfl) (one_arg (K.dep 4 15 rfl)) (by have h9 := hpw _ (bgo bl K.grow); rw [hpc] at h9; exact h9)
  intro f6 w6 A hb
  replace x0 := A.t x0 rfl
  replace x1 := A.t x1 rfl
  replace x7 := A.t x7 rfl
  replace x8 := A.t x8 rfl
  replace x5 := A.t x5 rfl
  have x16 := A.e 5 16 rfl rfl
  replace bl := bgo bl hb
  replace sd := A.sd sd
  clear A hb
  show Code.wp _ _ _ _ _
  refine wp_cond_false x16 ?_
  refine wp_skip ?_
  show Code.wp _ _ _ _ _
  refine wr_s [.eq (.int .i64 ((k + 1 : Nat) : Int))] (by rw [sd.1]; kernel_rfl) ⟨fun hw ac u K => ?_, trivial⟩ ?_
  · exact st_addz (.tmp 8) (.const (.int .i64 1)) rfl _ _ _ (K.t x8 rfl) rfl (by omega) (by omega) (by omega)
  intro f7 w7 A hb
  replace x0 := A.t x0 rfl
  replace x1 := A.t x1 rfl
  replace x7 := A.t x7 rfl
  replace x8 := A.t x8 rfl
  replace x5 := A.t x5 rfl
  replace x16 := A.t x16 rfl
  have x18 := A.e 0 18 rfl rfl
  replace bl := bgo bl hb
  replace sd := A.sd sd
  clear A hb
  clear x5
  clear x16
  refine wl_one (.eq (.int .i64 ((k + 1 : Nat) : Int))) rfl 8 rfl (by rw [sd.1]; decide) (st_move (.tmp 18) rfl x18) ?_
  intro f8 w8 df2 sz2 old2 new2 hb
  replace x0 := tr old2 x0 rfl
  replace x1 := tr old2 x1 rfl
  replace x7 := tr old2 x7 rfl
  clear x8
  replace x18 := tr old2 x18 rfl
  have x8 := Fk.e new2
  replace bl := bgo bl hb
  replace sd := sd2 sz2 df2 sd
  clear df2 sz2 old2 new2 hb
  refine wpList_nil ?_
  clear x18
  show (∃ _, _) ∧ _
  refine ⟨⟨k + 1, by omega, (by rw [take_one12 hcck]; intro q hq; rcases List.mem_append.1 hq with hq | hq; exact hno q hq; obtain rfl := List.mem_singleton.1 hq; exact hpc), sd.1, sd.2, x0, x1, x7, x8, bl⟩, ?_⟩
  rw [show f8.eval (.tmp 8) = _ from x8, show _ = _ from hcnt]
  first | (simp [intOf]; done) | (simp [intOf]; omega)
theorem fk_xcontF {l : List Cng} (hln : l.length ≤ 100000) {w : World} {vl vf : Value} (hvl : (Fk.sr RC l).f vl w) {p : Cng → Bool} (hp : ∀ c ∈ l, ∀ W, Below w.heap.size w W → CV vf #[.agg ([.int .i64 c.p, c.vb] : List Value).toArray] W fun e W' => ∃ u, e = .returned u ∧ (Fk.eq (.bool (p c))).f u W' ∧ Below W.heap.size W W') {b : Bool} (hb9 : b = l.any p) :
    Calls Tryz.prog 54 #[vl, vf] w fun e w' => ∃ u, e = .returned u ∧ (Fk.eq (.bool b)).f u w' ∧ Below w.heap.size w w' := by
  go_enter Tryz.func54, Tryz.ntmps54
  refine code_both (fun f w1 => f.tmps.size = 9 ∧ f.defers = [] ∧ f.eval (.tmp 0) = vl ∧ f.eval (.tmp 1) = vf ∧ Below w.heap.size w (w1)) ⟨rfl, rfl, rfl, rfl, Below.refl _ _⟩ ?_
  rintro f0 w0 ⟨sz, df, x0, x1, bl⟩
  have sd := And.intro sz df
  clear sz df
  have bl0 := bl
  refine wp_seq ?_
  refine wr_a [.eq (.bool false)] (by rw [sd.1]; kernel_rfl) ⟨fun hw ac u K => ?_, trivial⟩ ?_
  · exact st_assign (.const (.bool false)) rfl rfl
  intro f1 w1 A hb
  replace x0 := A.t x0 rfl
  replace x1 := A.t x1 rfl
  replace bl := bgo bl hb
  replace sd := A.sd sd
  clear A hb
  show Code.wp _ _ _ _ _
  refine wp_seq ?_
  refine wr_s [.eq (vl), .eq (vf)] (by rw [sd.1]; kernel_rfl) ⟨fun hw ac u K => ?_, fun hw ac u K => ?_, trivial⟩ ?_
  · exact st_move (.tmp 0) rfl (K.t x0 rfl)
  · exact st_move (.tmp 1) rfl (K.t x1 rfl)
  intro f2 w2 A hb
  replace x0 := A.t x0 rfl
  replace x1 := A.t x1 rfl
  have x5 := A.e 0 5 rfl rfl
  have x6 := A.e 1 6 rfl rfl
  replace bl := bgo bl hb
  replace sd := A.sd sd
  clear A hb
  clear x0
  clear x1
  refine wl_call 67 (.func 67) _ _ #[vl, vf] rfl 7 rfl (by rw [sd.1]; decide) rfl rfl (two_arg x5 x6) Tryz.enter67 (fun u W' => ∃ r : Int, u = .int .i64 r ∧ ((r = -1 ∧ ∀ c ∈ l, p c = false) ∨ (0 ≤ r ∧ ∃ c ∈ l, p c = true)) ∧ Below w2.heap.size w2 W') ((fk_xindexF hln (Fk.mono _ _ _ _ hvl bl) (fun c hc W hW => hp c hc W (bgo bl hW))).mono (by rintro e w' ⟨r, rfl, q1, q2⟩; exact ⟨_, rfl, r, rfl, q1, q2⟩)) ?_
  rintro f3 w3 df2 sz2 old2 ⟨r, x7, hr9, hb⟩
  replace bl0 := bl
  replace x5 := tr old2 x5 rfl
  replace x6 := tr old2 x6 rfl
  replace bl := bgo bl hb
  replace sd := sd2 sz2 df2 sd
  replace bl0 := bl
  clear df2 sz2 old2 hb
  have hgq : decide (0 ≤ r) = b := by
    rw [hb9]
    rcases hr9 with ⟨q1, q2⟩ | ⟨q1, c, q2, q3⟩
    · rw [decide_eq_false (by omega), eq_comm, List.any_eq_false]
      exact fun c hc => by rw [q2 c hc]; decide
    · rw [decide_eq_true q1, eq_comm, List.any_eq_true]
      exact ⟨c, q2, q3⟩
  clear x5
  clear x6
  refine wl_one (.eq (.bool b)) rfl 8 rfl (by rw [sd.1]; decide) (st_geq 3 (.tmp 7) (.const (.int .i64 0)) rfl .i64 (r) (0) x7 rfl _ hgq.symm) ?_
  intro f4 w4 df2 sz2 old2 new2 hb
  replace x7 := tr old2 x7 rfl
  have x8 := Fk.e new2
  replace bl := bgo bl hb
  replace sd := sd2 sz2 df2 sd
  clear df2 sz2 old2 new2 hb
  clear x7
  refine wl_one (.eq (.bool b)) rfl 4 rfl (by rw [sd.1]; decide) (st_assign (.tmp 8) rfl x8) ?_
  intro f5 w5 df2 sz2 old2 new2 hb
  replace x8 := tr old2 x8 rfl
  have x4 := Fk.e new2
  replace bl := bgo bl hb
  replace sd := sd2 sz2 df2 sd
  clear df2 sz2 old2 new2 hb
  refine wpList_nil ?_
  clear x8
  show Code.wp _ _ _ _ _
  refine wp_ret ?_
  repeat (first | with_reducible refine then_ret ?_ | with_reducible refine block_ret ?_)
  exact bodyPost_ret (v := .bool b) (ret_slot rfl f5 _ x4 _ _) sd.2 ⟨_, rfl, rfl, bl⟩
theorem obI_holds {w : World} {g : Nat} {l : List Int} (h : Ob w g 3 (zv l)) : Sort.Holds (Value.int .i64) w g 0 l.toArray := by
  intro j hj
  have hj' : j < l.length := by simpa using hj
  refine ⟨?_, frozen_of_row w g _ _ 3 h⟩
  rw [Nat.zero_add]
  refine Ob.cell h j ?_
  unfold zv
  rw [List.getElem?_map, List.getElem?_eq_getElem hj']
  simp [hj']
theorem sorted_row {w : World} {g n : Nat} {os : Array Obj} {l zs : List Int} (h : Ob w g 3 (zv l)) (hl : zs.length = l.length) : Ob (Sort.grow (Sort.putRow (Value.int .i64) (Sort.ahead w n) g 0 zs.toArray) os) g 3 (zv zs) := by
  have h1 := Go.heap_sortedI (n := n) (os := os) zs.toArray h
  have h2 := Go.take_putCellsI (zv l).toArray zs (by simp [zv_len, hl])
  have h3 : (Sort.putCells (Value.int .i64) 0 zs.toArray (zv l).toArray).toList.length ≤ zs.length := by simp [Sort.putCells, zv_len, hl]
  rw [List.take_of_length_le h3] at h2
  unfold Ob
  rw [h1]
  congr 2
  apply Array.toList_inj.1
  rw [h2]
  rfl
theorem fk_xtwice {l : List Cng} (hln : l.length ≤ 100000) {w : World} {vl : Value} (hvl : (Fk.sr RC l).f vl w) {b : Bool} (hb : b = true ↔ ¬ (l.map (·.p)).Nodup) :
    Calls Tryz.prog 57 #[vl] w fun e w' => ∃ u, e = .returned u ∧ (Fk.eq (.bool b)).f u w' ∧ Below w.heap.size w w' := by
  obtain ⟨ps, hps⟩ : ∃ ps, ps = l.map (·.p) := ⟨_, rfl⟩
  have hpl : l.length = ps.length := by rw [hps, List.length_map]
  obtain ⟨zs, hzs⟩ : ∃ zs, zs = ps.mergeSort (fun x y => decide (x ≤ y)) := ⟨_, rfl⟩
  have hzl : zs.length = ps.length := by rw [hzs]; exact (List.mergeSort_perm _ _).length_eq
  have hb9 : b = decide (((Lib.compact zs).length : Int) < (l.length : Int)) := by
    have := sorted_twice ps
    rw [← hzs, hps, ← hb, ← hps, ← hpl] at this
    cases b with
    | true => rw [eq_comm, decide_eq_true_iff]; have := this.2 rfl; omega
    | false => rw [eq_comm, decide_eq_false_iff_not]; intro q; exact absurd (this.1 (by omega)) (by decide)
  go_enter Tryz.func57, Tryz.ntmps57
  refine code_both (fun f w1 => f.tmps.size = 14 ∧ f.defers = [] ∧ f.eval (.tmp 0) = vl ∧ Below w.heap.size w (w1)) ⟨rfl, rfl, rfl, Below.refl _ _⟩ ?_
  rintro f0 w0 ⟨sz, df, x0, bl⟩
  have sd := And.intro sz df
  clear sz df
  have bl0 := bl
  refine wp_seq ?_
  refine wr_a [.eq (.bool false)] (by rw [sd.1]; kernel_rfl) ⟨fun hw ac u K => ?_, trivial⟩ ?_
  · exact st_assign (.const (.bool false)) rfl rfl
  intro f1 w1 A hb
  replace x0 := A.t x0 rfl
  replace bl := bgo bl hb
  replace sd := A.sd sd
  clear A hb
  show Code.wp _ _ _ _ _
  refine wp_seq ?_
  refine wr_s [.eq (vl)] (by rw [sd.1]; kernel_rfl) ⟨fun hw ac u K => ?_, trivial⟩ ?_
  · exact st_move (.tmp 0) rfl (K.t x0 rfl)
  intro f2 w2 A hb
  replace x0 := A.t x0 rfl
  have x4 := A.e 0 4 rfl rfl
  replace bl := bgo bl hb
  replace sd := A.sd sd
  clear A hb
  refine wl_call 68 (.func 68) _ _ #[vl] rfl 5 rfl (by rw [sd.1]; decide) rfl rfl (one_arg x4) Tryz.enter68 (fun u W' => ∃ g, u = .slice (some ⟨g, 0, none⟩) ps.length ps.length ∧ w2.heap.size ≤ g ∧ Ob W' g 3 (zv ps) ∧ Below w2.heap.size w2 W') ((fk_xnames hln (Fk.mono _ _ _ _ hvl bl)).mono (by rintro e w' ⟨g, rfl, q1, q2, q3⟩; rw [← hps] at q2; rw [hpl]; exact ⟨_, rfl, g, rfl, q1, q2, q3⟩)) ?_
  rintro f3 w3 df2 sz2 old2 ⟨g, x5, hgg, mg, hb⟩
  have hwg : w.heap.size ≤ g := Nat.le_trans bl.size hgg
  replace bl0 := bl
  replace x0 := tr old2 x0 rfl
  replace x4 := tr old2 x4 rfl
  replace bl := bgo bl hb
  replace sd := sd2 sz2 df2 sd
  replace bl0 := bl
  clear df2 sz2 old2 hb
  clear x4
  refine wl_one (.eq (.slice (some ⟨g, 0, none⟩) ps.length ps.length)) rfl 3 rfl (by rw [sd.1]; decide) (st_assign (.tmp 5) rfl x5) ?_
  intro f4 w4 df2 sz2 old2 new2 hb
  replace x0 := tr old2 x0 rfl
  replace x5 := tr old2 x5 rfl
  have x3 := Fk.e new2
  replace mg := Ob.below mg hb
  replace bl := bgo bl hb
  replace sd := sd2 sz2 df2 sd
  clear df2 sz2 old2 new2 hb
  refine wpList_nil ?_
  clear x5
  show Code.wp _ _ _ _ _
  refine wp_seq ?_
  refine wr_s [.eq (.slice (some ⟨g, 0, none⟩) ps.length ps.length)] (by rw [sd.1]; kernel_rfl) ⟨fun hw ac u K => ?_, trivial⟩ ?_
  · exact st_move (.tmp 3) rfl (K.t x3 rfl)
  intro f5 w5 A hb
  replace x0 := A.t x0 rfl
  replace x3 := A.t x3 rfl
  have x6 := A.e 0 6 rfl rfl
  replace mg := Ob.below mg hb
  replace bl := bgo bl hb
  replace sd := A.sd sd
  clear A hb
  have hgl := Ob.lt mg
  refine wl_call 50 (.func 50) _ _ #[.slice (some ⟨g, 0, none⟩) ps.length ps.length] rfl 7 rfl (by rw [sd.1]; decide) rfl rfl (one_arg x6) Tryz.enter50 (fun u W' => ∃ n os, W' = Sort.grow (Sort.putRow (Value.int .i64) (Sort.ahead w5 n) g 0 zs.toArray) os) ((AnyM.slices_Sort_int Tryz.sortA g 0 ps.length ps w5 (obI_holds mg) hgl (by omega)).mono (by rintro e w' ⟨rfl, n, os, q⟩; rw [← hzs] at q; exact ⟨_, rfl, n, os, q⟩)) ?_
  rintro f6 w6 df2 sz2 old2 ⟨n9, os9, hw9⟩
  replace mg : Ob w6 g 3 (zv zs) := by rw [hw9]; exact sorted_row mg (by rw [hzl])
  replace bl : Below w.heap.size w w6 := by rw [hw9]; exact bl.grown (Go.grownBy_sortedI _) bl.size (fun k e => by cases e; exact hwg)
  replace x0 := tr old2 x0 rfl
  replace x3 := tr old2 x3 rfl
  replace x6 := tr old2 x6 rfl
  replace bl0 := bl
  replace sd := sd2 sz2 df2 sd
  clear df2 sz2 old2 hw9 hgl
  refine wpList_nil ?_
  clear x6
  show Code.wp _ _ _ _ _
  refine wp_seq ?_
  refine wr_s [.eq (.slice (some ⟨g, 0, none⟩) ps.length ps.length)] (by rw [sd.1]; kernel_rfl) ⟨fun hw ac u K => ?_, trivial⟩ ?_
  · exact st_move (.tmp 3) rfl (K.t x3 rfl)
  intro f7 w7 A hb
  replace x0 := A.t x0 rfl
  replace x3 := A.t x3 rfl
  have x8 := A.e 0 8 rfl rfl
  replace mg := Ob.below mg hb
  replace bl := bgo bl hb
  replace sd := A.sd sd
  clear A hb
  clear x3
  rw [← hzl] at x8
  refine wl_call 69 (.func 69) _ _ #[.slice (some ⟨g, 0, none⟩) zs.length zs.length] rfl 9 rfl (by rw [sd.1]; decide) rfl rfl (one_arg x8) Tryz.enter69 (fun u W' => u = .slice (some ⟨g, 0, none⟩) (Lib.compact zs).length zs.length ∧ ∃ q d, W' = Sort.putRow (Value.int .i64) (Sort.ahead w7 q) g 0 d) ((AnyG.slices_Compact_int Tryz.compactA g 0 zs.length zs w7 (obI_holds mg) (by omega) (Nat.le_refl _)).mono (by rintro e w' ⟨rfl, q, h⟩; exact ⟨_, rfl, rfl, q, _, h⟩)) ?_
  rintro f8 w8 df2 sz2 old2 ⟨x9, q9, d9, hw9⟩
  replace bl : Below w.heap.size w w8 := by rw [hw9, ← Sort.grow_empty (Sort.putRow _ _ _ _ _)]; exact bl.grown (Go.grownBy_sortedI _) bl.size (fun k e => by cases e; exact hwg)
  replace x0 := tr old2 x0 rfl
  replace x8 := tr old2 x8 rfl
  replace bl0 := bl
  replace sd := sd2 sz2 df2 sd
  clear df2 sz2 old2 hw9 mg
  clear x8
  refine wl_one (.eq (.int .i64 (((Lib.compact zs).length : Nat) : Int))) rfl 10 rfl (by rw [sd.1]; decide) (st_lenI (.tmp 9) rfl x9) ?_
  intro f9 w9 df2 sz2 old2 new2 hb
  replace x0 := tr old2 x0 rfl
  replace x9 := tr old2 x9 rfl
  have x10 := Fk.e new2
  replace bl := bgo bl hb
  replace sd := sd2 sz2 df2 sd
  clear df2 sz2 old2 new2 hb
  clear x9
  refine wl_one (.eq (vl)) rfl 11 rfl (by rw [sd.1]; decide) (st_move (.tmp 0) rfl x0) ?_
  intro f10 w10 df2 sz2 old2 new2 hb
  replace x0 := tr old2 x0 rfl
  replace x10 := tr old2 x10 rfl
  have x11 := Fk.e new2
  replace bl := bgo bl hb
  replace sd := sd2 sz2 df2 sd
  clear df2 sz2 old2 new2 hb
  clear x0
  refine wl_one (.eq (.int .i64 (l.length : Int))) rfl 12 rfl (by rw [sd.1]; decide) (st_lensc (.tmp 11) rfl (fk_val x11 (Fk.mono _ _ _ _ hvl bl))) ?_
  intro f11 w11 df2 sz2 old2 new2 hb
  replace x10 := tr old2 x10 rfl
  replace x11 := tr old2 x11 rfl
  have x12 := Fk.e new2
  replace bl := bgo bl hb
  replace sd := sd2 sz2 df2 sd
  clear df2 sz2 old2 new2 hb
  clear x11
  refine wl_one (.eq (.bool b)) rfl 13 rfl (by rw [sd.1]; decide) (st_lss 3 (.tmp 10) (.tmp 12) rfl .i64 ((((Lib.compact zs).length : Nat) : Int)) ((l.length : Int)) x10 x12 _ hb9) ?_
  intro f12 w12 df2 sz2 old2 new2 hb
  replace x10 := tr old2 x10 rfl
  replace x12 := tr old2 x12 rfl
  have x13 := Fk.e new2
  replace bl := bgo bl hb
  replace sd := sd2 sz2 df2 sd
  clear df2 sz2 old2 new2 hb
  clear x10
  clear x12
  refine wl_one (.eq (.bool b)) rfl 2 rfl (by rw [sd.1]; decide) (st_assign (.tmp 13) rfl x13) ?_
  intro f13 w13 df2 sz2 old2 new2 hb
  replace x13 := tr old2 x13 rfl
  have x2 := Fk.e new2
  replace bl := bgo bl hb
  replace sd := sd2 sz2 df2 sd
  clear df2 sz2 old2 new2 hb
  refine wpList_nil ?_
  clear x13
  show Code.wp _ _ _ _ _
  refine wp_ret ?_
  repeat (first | with_reducible refine then_ret ?_ | with_reducible refine block_ret ?_)
  exact bodyPost_ret (v := .bool b) (ret_slot rfl f13 _ x2 _ _) sd.2 ⟨_, rfl, rfl, bl⟩
theorem fk_xfits {w : World} {gw gd n z k9 : Nat} {M D : Nat → Prop} {dn : Bool} {s : Dst} (mw : Ob w gw 62 [.pointer (some ⟨gd, 0, none⟩), .bool dn]) (hd : HD w gd M D s) (gs : Gd s n z k9) (h16 : 16 ≤ z) {l : List Cng} (hln : l.length ≤ 100000) {vl : Value} (hvl : (Fk.sr RC l).f vl w) :
    Calls Tryz.prog 40 #[.pointer (some ⟨gw, 0, none⟩), vl] w fun e w' => ∃ r, e = .returned (.int .i64 r) ∧ WrongIs l n z r ∧ Below w.heap.size w w' := by
  have hrc : ∀ c ∈ l, (Fk.sl c.bs).f c.vb w := fun c hc => by
    obtain ⟨i, hi⟩ := List.getElem?_of_mem hc
    exact (sr_ok hvl hi).1
  go_enter Tryz.func40, Tryz.ntmps40
  refine code_both (fun f w1 => f.tmps.size = 20 ∧ f.defers = [] ∧ f.eval (.tmp 0) = .pointer (some ⟨gw, 0, none⟩) ∧ f.eval (.tmp 1) = vl ∧ Below w.heap.size w (w1)) ⟨rfl, rfl, rfl, rfl, Below.refl _ _⟩ ?_
  rintro f0 w0 ⟨sz, df, x0, x1, bl⟩
  have sd := And.intro sz df
  clear sz df
  have bl0 := bl
  refine wp_seq ?_
  refine wr_a [.nw w0.heap.size 34 [.pointer (some ⟨gw, 0, none⟩)], .eq (.int .i64 0)] (by rw [sd.1]; kernel_rfl) ⟨fun hw ac u K => ?_, fun hw ac u K => ?_, trivial⟩ ?_
  · exact st_box 34 (.tmp 0) rfl _ _ (by rw [show _ = _ from (K.t x0 rfl)]; kernel_rfl) K.grow.size
  · exact st_assign (.const (.int .i64 0)) rfl rfl
  intro f1 w1 A hb
  replace bl0 := bl
  replace x0 := A.t x0 rfl
  replace x1 := A.t x1 rfl
  have x2 : Fk.f (.nw w0.heap.size 34 [.pointer (some ⟨gw, 0, none⟩)]) (f1.eval (.tmp 2)) w1 := A.has 0 2 rfl
  replace bl := bgo bl hb
  replace sd := A.sd sd
  clear A hb
  clear x0
  obtain ⟨g2, hg2, e2, m2⟩ := x2
  have x2 := e2
  clear e2
  have nmw_2 : gw ≠ g2 := Nat.ne_of_lt (Nat.lt_of_lt_of_le (Ob.lt mw) (Nat.le_trans bl0.size hg2))
  have hw2 : w.heap.size ≤ g2 := Nat.le_trans bl0.size hg2
  show Code.wp _ _ _ _ _
  refine wp_seq ?_
  refine wp_seq ?_
  by_cases hbad : ∃ c ∈ l, BadAt n c
  rotate_left
  · skip
    have hgood : ∀ c ∈ l, ¬ BadAt n c := fun c hc q => hbad ⟨c, hc, q⟩
    have ha1 : false = l.any (fun c => !decide (0 ≤ c.p ∧ c.p < (homN n : Int))) := by
      rw [eq_comm, List.any_eq_false]
      exact fun c hc => by have := hgood c hc; rw [decide_eq_true (by unfold BadAt at this; omega)]; decide
    refine wr_a [.eq (vl), .eq (.func (.func 55) #[] #[.pointer (some ⟨g2, 0, none⟩)]), .eq (.bool false)] (by rw [sd.1]; kernel_rfl) ⟨fun hw ac u K => ?_, fun hw ac u K => ?_, fun hw ac u K => ?_, trivial⟩ ?_
    · exact st_move (.tmp 1) rfl (K.t x1 rfl)
    · exact st_mkf rfl rfl (one_arg (K.t x2 rfl))
    · exact st_call 54 (.func 54) _ _ _ rfl rfl (arg2 (K.dep 0 5 rfl) (K.dep 1 6 rfl)) Tryz.enter54 (fk_xcontF hln (Fk.mono _ _ _ _ hvl (bgo bl K.grow)) (fun c hc W hW => ⟨55, #[], #[.pointer (some ⟨g2, 0, none⟩)], rfl, Tryz.enter55, fk_xfits1 (Ob.below (Ob.below m2 K.grow) hW) (Ob.below (Ob.below mw (bgo bl K.grow)) hW) (HD.below (HD.below hd (bgo bl K.grow)) hW) gs c rfl⟩) ha1)
    intro f2 w2 A hb
    replace x1 := A.t x1 rfl
    replace x2 := A.t x2 rfl
    have x7 := A.e 2 7 rfl rfl
    replace m2 := Ob.below m2 hb
    replace bl := bgo bl hb
    replace sd := A.sd sd
    clear A hb
    show Code.wp _ _ _ _ _
    refine wp_cond_false x7 ?_
    refine wp_skip ?_
    show Code.wp _ _ _ _ _
    refine wp_seq ?_
    refine wp_seq ?_
    have hor : (∃ c ∈ l, c.bs.length ≠ z) ∨ ((∀ c ∈ l, c.bs.length = z) ∧ ¬ (l.map (·.p)).Nodup) ∨ ((∀ c ∈ l, c.bs.length = z) ∧ (l.map (·.p)).Nodup) := by
      by_cases q : ∃ c ∈ l, c.bs.length ≠ z
      · exact .inl q
      · have q2 : ∀ c ∈ l, c.bs.length = z := fun c hc => Classical.byContradiction fun h => q ⟨c, hc, h⟩
        by_cases q3 : (l.map (·.p)).Nodup
        · exact .inr (.inr ⟨q2, q3⟩)
        · exact .inr (.inl ⟨q2, q3⟩)
    rcases hor with hor | ⟨hor, hnd⟩ | ⟨hor, hnd⟩
    · skip
      have ha2 : true = l.any (fun c => decide (c.bs.length ≠ z)) := by
        obtain ⟨c, hc, q⟩ := hor
        rw [eq_comm, List.any_eq_true]
        exact ⟨c, hc, by rw [decide_eq_true q]⟩
      refine wr_a [.eq (vl), .eq (.func (.func 56) #[] #[.pointer (some ⟨g2, 0, none⟩)]), .eq (.bool true), .eq (.bool true), .any, .any, .eq (.bool true)] (by rw [sd.1]; kernel_rfl) ⟨fun hw ac u K => ?_, fun hw ac u K => ?_, fun hw ac u K => ?_, fun hw ac u K => ?_, fun hw ac u K => ?_, fun hw ac u K => ?_, fun hw ac u K => ?_, trivial⟩ ?_
      · exact st_move (.tmp 1) rfl (K.t x1 rfl)
      · exact st_mkf rfl rfl (one_arg (K.t x2 rfl))
      · exact st_call 54 (.func 54) _ _ _ rfl rfl (arg2 (K.dep 0 8 rfl) (K.dep 1 9 rfl)) Tryz.enter54 (fk_xcontF hln (Fk.mono _ _ _ _ hvl (bgo bl K.grow)) (fun c hc W hW => ⟨56, #[], #[.pointer (some ⟨g2, 0, none⟩)], rfl, Tryz.enter56, fk_xfits2 (Ob.below (Ob.below m2 K.grow) hW) (Ob.below (Ob.below mw (bgo bl K.grow)) hW) (HD.below (HD.below hd (bgo bl K.grow)) hW) gs c (Fk.mono _ _ _ _ (Fk.mono _ _ _ _ (hrc c hc) (bgo bl K.grow)) hW) rfl⟩) ha2)
      · exact st_move (.tmp 10) rfl (K.dep 2 10 rfl)
      · exact (Bool.false_ne_true hw).elim
      · exact (Bool.false_ne_true hw).elim
      · exact st_pick_t (.tmp 11) (.const (.bool true)) (.tmp 13) rfl (K.dep 3 11 rfl) rfl
      intro f3 w3 A hb
      replace x1 := A.t x1 rfl
      replace x2 := A.t x2 rfl
      replace x7 := A.t x7 rfl
      have x14 := A.e 6 14 rfl rfl
      replace m2 := Ob.below m2 hb
      replace bl := bgo bl hb
      replace sd := A.sd sd
      clear A hb
      clear x7
      show Code.wp _ _ _ _ _
      refine wp_cond_true x14 ?_
      refine wp_seq ?_
      refine wr_a [.eq (.int .i64 10)] (by rw [sd.1]; kernel_rfl) ⟨fun hw ac u K => ?_, trivial⟩ ?_
      · exact st_assign (.const (.int .i64 10)) rfl rfl
      intro f4 w4 A hb
      replace x1 := A.t x1 rfl
      replace x2 := A.t x2 rfl
      replace x14 := A.t x14 rfl
      have x4 := A.e 0 4 rfl rfl
      replace m2 := Ob.below m2 hb
      replace bl := bgo bl hb
      replace sd := A.sd sd
      clear A hb
      clear x1
      clear x2
      clear x14
      clear m2
      show Code.wp _ _ _ _ _
      refine wp_ret ?_
      repeat (first | with_reducible refine then_ret ?_ | with_reducible refine block_ret ?_)
      exact bodyPost_ret (v := .int .i64 10) (ret_slot rfl f4 _ x4 _ _) sd.2 ⟨10, rfl, .inr ⟨hgood, .inl ⟨rfl, twice_form.1 (.inl hor)⟩⟩, bl⟩
    · skip
      have ha2 : false = l.any (fun c => decide (c.bs.length ≠ z)) := by
        rw [eq_comm, List.any_eq_false]
        exact fun c hc => by rw [decide_eq_false (by rw [hor c hc]; exact fun h => h rfl)]; decide
      refine wr_a [.eq (vl), .eq (.func (.func 56) #[] #[.pointer (some ⟨g2, 0, none⟩)]), .eq (.bool false), .eq (.bool false), .eq (vl), .eq (.bool true), .eq (.bool true)] (by rw [sd.1]; kernel_rfl) ⟨fun hw ac u K => ?_, fun hw ac u K => ?_, fun hw ac u K => ?_, fun hw ac u K => ?_, fun hw ac u K => ?_, fun hw ac u K => ?_, fun hw ac u K => ?_, trivial⟩ ?_
      · exact st_move (.tmp 1) rfl (K.t x1 rfl)
      · exact st_mkf rfl rfl (one_arg (K.t x2 rfl))
      · exact st_call 54 (.func 54) _ _ _ rfl rfl (arg2 (K.dep 0 8 rfl) (K.dep 1 9 rfl)) Tryz.enter54 (fk_xcontF hln (Fk.mono _ _ _ _ hvl (bgo bl K.grow)) (fun c hc W hW => ⟨56, #[], #[.pointer (some ⟨g2, 0, none⟩)], rfl, Tryz.enter56, fk_xfits2 (Ob.below (Ob.below m2 K.grow) hW) (Ob.below (Ob.below mw (bgo bl K.grow)) hW) (HD.below (HD.below hd (bgo bl K.grow)) hW) gs c (Fk.mono _ _ _ _ (Fk.mono _ _ _ _ (hrc c hc) (bgo bl K.grow)) hW) rfl⟩) ha2)
      · exact st_move (.tmp 10) rfl (K.dep 2 10 rfl)
      · exact st_move (.tmp 1) rfl (K.t x1 rfl)
      · exact st_call 57 (.func 57) _ _ _ rfl rfl (one_arg (K.dep 4 12 rfl)) Tryz.enter57 (fk_xtwice hln (Fk.mono _ _ _ _ hvl (bgo bl K.grow)) (by simpa using hnd))
      · exact st_pick_f' (.tmp 11) (.const (.bool true)) (.tmp 13) rfl (K.dep 3 11 rfl) (K.dep 5 13 rfl)
      intro f3 w3 A hb
      replace x1 := A.t x1 rfl
      replace x2 := A.t x2 rfl
      replace x7 := A.t x7 rfl
      have x14 := A.e 6 14 rfl rfl
      replace m2 := Ob.below m2 hb
      replace bl := bgo bl hb
      replace sd := A.sd sd
      clear A hb
      clear x7
      show Code.wp _ _ _ _ _
      refine wp_cond_true x14 ?_
      refine wp_seq ?_
      refine wr_a [.eq (.int .i64 10)] (by rw [sd.1]; kernel_rfl) ⟨fun hw ac u K => ?_, trivial⟩ ?_
      · exact st_assign (.const (.int .i64 10)) rfl rfl
      intro f4 w4 A hb
      replace x1 := A.t x1 rfl
      replace x2 := A.t x2 rfl
      replace x14 := A.t x14 rfl
      have x4 := A.e 0 4 rfl rfl
      replace m2 := Ob.below m2 hb
      replace bl := bgo bl hb
      replace sd := A.sd sd
      clear A hb
      clear x1
      clear x2
      clear x14
      clear m2
      show Code.wp _ _ _ _ _
      refine wp_ret ?_
      repeat (first | with_reducible refine then_ret ?_ | with_reducible refine block_ret ?_)
      exact bodyPost_ret (v := .int .i64 10) (ret_slot rfl f4 _ x4 _ _) sd.2 ⟨10, rfl, .inr ⟨hgood, .inl ⟨rfl, twice_form.1 (.inr hnd)⟩⟩, bl⟩
    have ha2 : false = l.any (fun c => decide (c.bs.length ≠ z)) := by
      rw [eq_comm, List.any_eq_false]
      exact fun c hc => by rw [decide_eq_false (by rw [hor c hc]; exact fun h => h rfl)]; decide
    have hnf : ¬ FormB z l l.length := fun q => (twice_form.2 q).elim (fun ⟨c, hc, q2⟩ => q2 (hor c hc)) (fun q2 => q2 hnd)
    refine wr_a [.eq (vl), .eq (.func (.func 56) #[] #[.pointer (some ⟨g2, 0, none⟩)]), .eq (.bool false), .eq (.bool false), .eq (vl), .eq (.bool false), .eq (.bool false)] (by rw [sd.1]; kernel_rfl) ⟨fun hw ac u K => ?_, fun hw ac u K => ?_, fun hw ac u K => ?_, fun hw ac u K => ?_, fun hw ac u K => ?_, fun hw ac u K => ?_, fun hw ac u K => ?_, trivial⟩ ?_
    · exact st_move (.tmp 1) rfl (K.t x1 rfl)
    · exact st_mkf rfl rfl (one_arg (K.t x2 rfl))
    · exact st_call 54 (.func 54) _ _ _ rfl rfl (arg2 (K.dep 0 8 rfl) (K.dep 1 9 rfl)) Tryz.enter54 (fk_xcontF hln (Fk.mono _ _ _ _ hvl (bgo bl K.grow)) (fun c hc W hW => ⟨56, #[], #[.pointer (some ⟨g2, 0, none⟩)], rfl, Tryz.enter56, fk_xfits2 (Ob.below (Ob.below m2 K.grow) hW) (Ob.below (Ob.below mw (bgo bl K.grow)) hW) (HD.below (HD.below hd (bgo bl K.grow)) hW) gs c (Fk.mono _ _ _ _ (Fk.mono _ _ _ _ (hrc c hc) (bgo bl K.grow)) hW) rfl⟩) ha2)
    · exact st_move (.tmp 10) rfl (K.dep 2 10 rfl)
    · exact st_move (.tmp 1) rfl (K.t x1 rfl)
    · exact st_call 57 (.func 57) _ _ _ rfl rfl (one_arg (K.dep 4 12 rfl)) Tryz.enter57 (fk_xtwice hln (Fk.mono _ _ _ _ hvl (bgo bl K.grow)) (by simpa using hnd))
    · exact st_pick_f' (.tmp 11) (.const (.bool true)) (.tmp 13) rfl (K.dep 3 11 rfl) (K.dep 5 13 rfl)
    intro f3 w3 A hb
    replace x1 := A.t x1 rfl
    replace x2 := A.t x2 rfl
    replace x7 := A.t x7 rfl
    have x14 := A.e 6 14 rfl rfl
    replace m2 := Ob.below m2 hb
    replace bl := bgo bl hb
    replace sd := A.sd sd
    clear A hb
    clear x7
    show Code.wp _ _ _ _ _
    refine wp_cond_false x14 ?_
    refine wp_skip ?_
    show Code.wp _ _ _ _ _
    refine wp_seq ?_
    refine wp_seq ?_
    by_cases hroom : roomN n z < l.length
    rotate_left
    · skip
      refine wr_a [.eq (vl), .eq (.int .i64 (((l).length : Nat) : Int)), .eq (.pointer (some ⟨gw, 0, none⟩)), .eq (.int .i64 ((roomN n z : Nat) : Int)), .eq (.bool false)] (by rw [sd.1]; kernel_rfl) ⟨fun hw ac u K => ?_, fun hw ac u K => ?_, fun hw ac u K => ?_, fun hw ac u K => ?_, fun hw ac u K => ?_, trivial⟩ ?_
      · exact st_move (.tmp 1) rfl (K.t x1 rfl)
      · exact st_lensc (.tmp 15) rfl (fk_val (K.dep 0 15 rfl) (Fk.mono _ _ _ _ hvl (bgo bl K.grow)))
      · exact st_loadc 34 (.tmp 2) rfl (by kernel_rfl) (K.t x2 rfl) (Ob.cell (Ob.below m2 K.grow) 0 rfl)
      · exact st_call 18 (.func 18) _ _ _ rfl rfl (one_arg (K.dep 2 17 rfl)) Tryz.enter18 (fk_xroom (Ob.below mw (bgo bl K.grow)) (HD.below hd (bgo bl K.grow)) gs h16)
      · exact st_gtr 3 (.tmp 16) (.tmp 18) rfl .i64 ((((l).length : Nat) : Int)) (((roomN n z : Nat) : Int)) (K.dep 1 16 rfl) (K.dep 3 18 rfl) _ (by rw [eq_comm, decide_eq_false_iff_not]; omega)
      intro f4 w4 A hb
      replace x1 := A.t x1 rfl
      replace x2 := A.t x2 rfl
      replace x14 := A.t x14 rfl
      have x19 := A.e 4 19 rfl rfl
      replace m2 := Ob.below m2 hb
      replace bl := bgo bl hb
      replace sd := A.sd sd
      clear A hb
      clear x1
      clear x2
      clear x14
      clear m2
      show Code.wp _ _ _ _ _
      refine wp_cond_false x19 ?_
      refine wp_skip ?_
      show Code.wp _ _ _ _ _
      refine wp_seq ?_
      refine wr_a [.eq (.int .i64 0)] (by rw [sd.1]; kernel_rfl) ⟨fun hw ac u K => ?_, trivial⟩ ?_
      · exact st_assign (.const (.int .i64 0)) rfl rfl
      intro f5 w5 A hb
      replace x19 := A.t x19 rfl
      have x4 := A.e 0 4 rfl rfl
      replace bl := bgo bl hb
      replace sd := A.sd sd
      clear A hb
      clear x19
      show Code.wp _ _ _ _ _
      refine wp_ret ?_
      repeat (first | with_reducible refine then_ret ?_ | with_reducible refine block_ret ?_)
      exact bodyPost_ret (v := .int .i64 0) (ret_slot rfl f5 _ x4 _ _) sd.2 ⟨0, rfl, .inr ⟨hgood, .inr ⟨hnf, .inr ⟨rfl, Nat.not_lt.1 hroom⟩⟩⟩, bl⟩
    refine wr_a [.eq (vl), .eq (.int .i64 (((l).length : Nat) : Int)), .eq (.pointer (some ⟨gw, 0, none⟩)), .eq (.int .i64 ((roomN n z : Nat) : Int)), .eq (.bool true)] (by rw [sd.1]; kernel_rfl) ⟨fun hw ac u K => ?_, fun hw ac u K => ?_, fun hw ac u K => ?_, fun hw ac u K => ?_, fun hw ac u K => ?_, trivial⟩ ?_
    · exact st_move (.tmp 1) rfl (K.t x1 rfl)
    · exact st_lensc (.tmp 15) rfl (fk_val (K.dep 0 15 rfl) (Fk.mono _ _ _ _ hvl (bgo bl K.grow)))
    · exact st_loadc 34 (.tmp 2) rfl (by kernel_rfl) (K.t x2 rfl) (Ob.cell (Ob.below m2 K.grow) 0 rfl)
    · exact st_call 18 (.func 18) _ _ _ rfl rfl (one_arg (K.dep 2 17 rfl)) Tryz.enter18 (fk_xroom (Ob.below mw (bgo bl K.grow)) (HD.below hd (bgo bl K.grow)) gs h16)
    · exact st_gtr 3 (.tmp 16) (.tmp 18) rfl .i64 ((((l).length : Nat) : Int)) (((roomN n z : Nat) : Int)) (K.dep 1 16 rfl) (K.dep 3 18 rfl) _ (by rw [eq_comm, decide_eq_true_iff]; omega)
    intro f4 w4 A hb
    replace x1 := A.t x1 rfl
    replace x2 := A.t x2 rfl
    replace x14 := A.t x14 rfl
    have x19 := A.e 4 19 rfl rfl
    replace m2 := Ob.below m2 hb
    replace bl := bgo bl hb
    replace sd := A.sd sd
    clear A hb
    clear x1
    clear x2
    clear x14
    clear m2
    show Code.wp _ _ _ _ _
    refine wp_cond_true x19 ?_
    refine wp_seq ?_
    refine wr_a [.eq (.int .i64 31)] (by rw [sd.1]; kernel_rfl) ⟨fun hw ac u K => ?_, trivial⟩ ?_
    · exact st_assign (.const (.int .i64 31)) rfl rfl
    intro f5 w5 A hb
    replace x19 := A.t x19 rfl
    have x4 := A.e 0 4 rfl rfl
    replace bl := bgo bl hb
    replace sd := A.sd sd
    clear A hb
    clear x19
    show Code.wp _ _ _ _ _
    refine wp_ret ?_
    repeat (first | with_reducible refine then_ret ?_ | with_reducible refine block_ret ?_)
    exact bodyPost_ret (v := .int .i64 31) (ret_slot rfl f5 _ x4 _ _) sd.2 ⟨31, rfl, .inr ⟨hgood, .inr ⟨hnf, .inl ⟨rfl, hroom⟩⟩⟩, bl⟩
  have ha1 : true = l.any (fun c => !decide (0 ≤ c.p ∧ c.p < (homN n : Int))) := by
    obtain ⟨c, hc, q⟩ := hbad
    rw [eq_comm, List.any_eq_true]
    exact ⟨c, hc, by rw [decide_eq_false (by unfold BadAt at q; omega)]; rfl⟩
  refine wr_a [.eq (vl), .eq (.func (.func 55) #[] #[.pointer (some ⟨g2, 0, none⟩)]), .eq (.bool true)] (by rw [sd.1]; kernel_rfl) ⟨fun hw ac u K => ?_, fun hw ac u K => ?_, fun hw ac u K => ?_, trivial⟩ ?_
  · exact st_move (.tmp 1) rfl (K.t x1 rfl)
  · exact st_mkf rfl rfl (one_arg (K.t x2 rfl))
  · exact st_call 54 (.func 54) _ _ _ rfl rfl (arg2 (K.dep 0 5 rfl) (K.dep 1 6 rfl)) Tryz.enter54 (fk_xcontF hln (Fk.mono _ _ _ _ hvl (bgo bl K.grow)) (fun c hc W hW => ⟨55, #[], #[.pointer (some ⟨g2, 0, none⟩)], rfl, Tryz.enter55, fk_xfits1 (Ob.below (Ob.below m2 K.grow) hW) (Ob.below (Ob.below mw (bgo bl K.grow)) hW) (HD.below (HD.below hd (bgo bl K.grow)) hW) gs c rfl⟩) ha1)
  intro f2 w2 A hb
  replace x1 := A.t x1 rfl
  replace x2 := A.t x2 rfl
  have x7 := A.e 2 7 rfl rfl
  replace m2 := Ob.below m2 hb
  replace bl := bgo bl hb
  replace sd := A.sd sd
  clear A hb
  show Code.wp _ _ _ _ _
  refine wp_cond_true x7 ?_
  refine wp_seq ?_
  refine wr_a [.eq (.int .i64 11)] (by rw [sd.1]; kernel_rfl) ⟨fun hw ac u K => ?_, trivial⟩ ?_
  · exact st_assign (.const (.int .i64 11)) rfl rfl
  intro f3 w3 A hb
  replace x1 := A.t x1 rfl
  replace x2 := A.t x2 rfl
  replace x7 := A.t x7 rfl
  have x4 := A.e 0 4 rfl rfl
  replace m2 := Ob.below m2 hb
  replace bl := bgo bl hb
  replace sd := A.sd sd
  clear A hb
  clear x1
  clear x2
  clear x7
  clear m2
  show Code.wp _ _ _ _ _
  refine wp_ret ?_
  repeat (first | with_reducible refine then_ret ?_ | with_reducible refine block_ret ?_)
  exact bodyPost_ret (v := .int .i64 11) (ret_slot rfl f3 _ x4 _ _) sd.2 ⟨11, rfl, .inl ⟨rfl, hbad⟩, bl⟩
end Go.Proofs.YtakdpkoigijonaaGreat
