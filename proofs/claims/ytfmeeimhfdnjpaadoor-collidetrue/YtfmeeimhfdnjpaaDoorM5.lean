/- A slice of hashes that came in, opened. Signatures and structs with them that came in, opened. Lists of slices of bytes in memory. Lists of slices of bytes that came in, opened: with the bounds of their sizes. Plain: a drawn region whose last store may come ahead of one operation that only takes a value out: both orders come to one end. Drawn regions with a chain of calls that turn one object: what only looks is taken first. A drawn region in which a store does not wait for what is read beside it: looks at hashes and slices, and the store. Words on collisions; small, hashes, right; the reference's Same and Begins. Slices of bools of the call's own; structs with hashes among their fields. Plain words of layer 8: sides and steps, where a path leads, where a proof leads. Sides, Steps: plainly. both: plainly. What is said of package collide. -/
import Derived.Test.YtfmeeimhfdnjpaaDoorM4
import Derived.Test.YtfmeeimhfdnjpaaDoorM2
import Derived.Deep.Slices
import Derived.Test.YtfmeeimhfdnjpaaDoorM3
import Derived.Deep.Strs
import Derived.Deep.RegionHeld
namespace Go.Proofs.YtfmeeimhfdnjpaaDoor
set_option maxRecDepth 100000
open Go.ChangeShapes Go.WideShapes Go.ChangeAt Go.RowKit
theorem add_plain {w : World} {x : Addr} {v : Value} (h : w.cell? x = some v) : ∀ i, x.add i = ⟨x.block, x.off + i, none⟩ := by
  have hspot : x.spot = none := by
    unfold World.cell? at h
    split at h
    · split at h
      · cases h
      · rename_i h2; simpa using h2
    · cases h
  intro i
  unfold Addr.add
  split
  · rename_i h2; subst h2; rw [Nat.add_zero, ← hspot]
  · rfl
end Go.Proofs.YtfmeeimhfdnjpaaDoor
namespace Go.Proofs.YtfmeeimhfdnjpaaDoor
set_option maxRecDepth 100000
open Go.ChangeShapes Go.WideShapes Go.ChangeAt Go.RowKit
section
variable {H : Type} {enc : TypeId × Value → H} {W : World}
theorem int_part {n : Nat} {cs : List Value} {y : DataW H × List MemPlace} (h : DataW.trod enc Tryd.prog W 0 (fun _ => true) true n 3 cs = some y) : ∃ z : Int, cs = [.int .i64 z] ∧ -9223372036854775808 ≤ z ∧ z ≤ 9223372036854775807 := by
  obtain ⟨z, hc, _, hw⟩ := DataW.trod_int Tryd.under3 h
  refine ⟨z, by simpa [Value.cells] using hc, ?_⟩
  have := bounds_i64 hw
  omega
theorem cells22 : Tryd.prog.cellsOf 22 = 1 := by kernel_rfl
end
end Go.Proofs.YtfmeeimhfdnjpaaDoor
namespace Go.Proofs.YtfmeeimhfdnjpaaDoor
set_option maxRecDepth 100000
open Go.RowKit
/-- A slice that has these slices of bytes. -/
def Fk.mg (ps : List Pt) : Fk := .inr (.inl ⟨fun v w => ∃ A C lb lo, v = .slice A ps.length C ∧ (0 < ps.length → A = some ⟨lb, lo, none⟩) ∧ Ls w lb lo ps, by
  rintro v w w' ⟨A, C, lb, lo, e, hg, h⟩ hb
  exact ⟨A, C, lb, lo, e, hg, h.below hb⟩⟩)
theorem mg_ok {ps : List Pt} {v : Value} {w : World} (h : (Fk.mg ps).f v w) {i : Nat} {p : Pt} (hi : ps[i]? = some p) : Sl w p.sp p.m p.c p.bs p.b p.o := by
  obtain ⟨A, C, lb, lo, e, _, hl⟩ := h
  exact hl.ok i p hi
theorem Tryd.elem28 : Tryd.prog.elem 28 = 22 := by kernel_rfl
theorem Tryd.sizeOf22m (w : World) : (sizeOf 22).run Tryd.prog w = .ok 1 w := by kernel_rfl
section
variable {Q : Exit → Act → World → Prop} {o : Oper} {a : Act} {w : World}
theorem st_lenm (x : Operand) (ho : o.op = .call { callee := .builtin .len, args := #[x], argTypes := #[28] }) {ps : List Pt} (h : (Fk.mg ps).f (a.eval x) w) : o.wp Tryd.prog a w (Ends a o.dst w (Fk.eq (.int .i64 ((ps.length : Nat) : Int))).f) Q := by
  obtain ⟨A, C, lb, lo, e, _, hl⟩ := h
  refine st_pure (v := .int .i64 (ps.length : Int)) ?_ rfl
  have h1 := run_len_slice (P := Tryd.prog) (w := w) 28 o.type A ps.length C (by rw [Tryd.elem28]; exact Tryd.under28)
  unfold execOp
  simp [ho, resolve, invoke, builtin, e, h1, goInt]
theorem st_idxm (x y : Operand) (ho : o.op = .indexAddr 28 x y) {ps : List Pt} (h : (Fk.mg ps).f (a.eval x) w) (i : Nat) (p : Pt) (hy : a.eval y = .int .i64 (i : Int)) (hi : ps[i]? = some p) : o.wp Tryd.prog a w (Ends a o.dst w (Fk.pv (.slice p.sp p.m p.c)).f) Q := by
  obtain ⟨A, C, lb, lo, e, hp, hl⟩ := h
  have hil : i < ps.length := (List.getElem?_eq_some_iff.1 hi).1
  have hp := hp (by omega)
  subst hp
  refine st_pure (v := .pointer (some ⟨lb, lo + i, none⟩)) ?_ ⟨lb, lo + i, rfl, hl.cell i p hi⟩
  have h1 := run_indexAt_slice (P := Tryd.prog) (w := w) 28 ⟨lb, lo, none⟩ ps.length C .i64 (i : Int) (by rw [Tryd.elem28]; exact Tryd.under28)
  rw [if_pos (by omega), Tryd.elem28, Tryd.sizeOf22m] at h1
  simp only [Result.andThen_ok, Int.toNat_natCast, Addr.add_mid, Nat.mul_one] at h1
  unfold execOp
  rw [ho]
  simp [e, hy, h1]
theorem st_loadsl (x : Operand) (ho : o.op = .load 22 x) {u : Value} (h : (Fk.pv u).f (a.eval x) w) : o.wp Tryd.prog a w (Ends a o.dst w (Fk.eq u).f) Q := by
  obtain ⟨b, so, e, hc⟩ := h
  exact st_loadc 22 x ho (by kernel_rfl) e hc
end
end Go.Proofs.YtfmeeimhfdnjpaaDoor
namespace Go.Proofs.YtfmeeimhfdnjpaaDoor
set_option maxRecDepth 100000
open Go.ChangeShapes Go.WideShapes Go.ChangeAt Go.RowKit
/-- What holds of each number below n holds of the members of a list. -/
theorem list_of {P : Nat → Pt → Prop} (n : Nat) (h : ∀ k, k < n → ∃ p, P k p) : ∃ ps : List Pt, ps.length = n ∧ ∀ k p, ps[k]? = some p → P k p := by
  induction n with
  | zero => exact ⟨[], rfl, fun k p hk => by simp at hk⟩
  | succ n ih =>
    obtain ⟨ps, hl, hp⟩ := ih (fun k hk => h k (by omega))
    obtain ⟨q, hq⟩ := h n (by omega)
    refine ⟨ps ++ [q], by simp [hl], fun k p hk => ?_⟩
    rw [List.getElem?_append] at hk
    split at hk
    · exact hp k p hk
    · rename_i hge
      have hkn : k - ps.length = 0 := by
        by_cases h0 : k - ps.length = 0
        · exact h0
        · rw [List.getElem?_eq_none (by simp; omega)] at hk
          cases hk
      rw [hkn] at hk
      obtain rfl : q = p := by simpa using hk
      obtain rfl : k = n := by omega
      exact hq
section
variable {H : Type} {enc : TypeId × Value → H} {W : World}
end
theorem weightsAll_mem {H : Type} {P : Program} {e : TypeId} {d : DataW H} : ∀ {l : List (DataW H)}, d ∈ l → ∀ n ∈ d.weights P e, n ∈ DataW.weightsAll P e l
  | x :: r, h, n, hn => by
    unfold DataW.weightsAll
    rw [List.mem_append]
    rcases List.mem_cons.1 h with rfl | h
    · exact .inl hn
    · exact .inr (weightsAll_mem h n hn)
theorem bytes5 : Tryd.prog.bytesOf 5 = 1 := by kernel_rfl
section
variable {H : Type} {enc : TypeId × Value → H} {W : World}
end
end Go.Proofs.YtfmeeimhfdnjpaaDoor
namespace Go.Proofs.YtfmeeimhfdnjpaaDoor
set_option maxRecDepth 100000
open Go.RowKit
section
variable {P : Program} {ops : Array Oper} {Q : Exit → Act → World → Prop}
/-- A store that does not look at slot d. -/
def storeFree (o : Oper) (d : Nat) : Bool := match o.op with
  | .store _ (.tmp x) (.tmp y) => (x != d) && (y != d) && o.guard.isNone && o.dst.isNone
  | _ => false
theorem storeFree_spec {o : Oper} {d : Nat} (h : storeFree o d = true) : ∃ T x y, o.op = .store T (.tmp x) (.tmp y) ∧ x ≠ d ∧ y ≠ d ∧ o.guard = none ∧ o.dst = none := by
  unfold storeFree at h
  split at h
  · rename_i T x y e
    simp only [Bool.and_eq_true, bne_iff_ne, ne_eq, Option.isNone_iff_eq_none] at h
    exact ⟨T, x, y, e, h.1.1.1, h.1.1.2, h.1.2, h.2⟩
  · cases h
theorem storeFree_guard {o : Oper} {d : Nat} (h : storeFree o d = true) : o.guard = none := by obtain ⟨_, _, _, _, _, _, h, _⟩ := storeFree_spec h; exact h
theorem storeFree_dst {o : Oper} {d : Nat} (h : storeFree o d = true) : o.dst = none := by obtain ⟨_, _, _, _, _, _, _, h⟩ := storeFree_spec h; exact h
theorem storeFree_eval {o om : Oper} {d : Nat} {v : Value} (h : storeFree o d = true) (hd : om.dst = some d) (a : Act) : execOp (a.put om.dst v).eval o = execOp a.eval o := by
  obtain ⟨T, x, y, e, hx, hy, _, _⟩ := storeFree_spec h
  rw [hd]
  unfold execOp
  rw [e]
  simp only [put_eval_other a d v x (fun h => hx h.symm), put_eval_other a d v y (fun h => hy h.symm)]
theorem wl_skip {o : Oper} {rest : List Oper} {a : Act} {w w2 : World} (hgd : o.guard = none) (hd : o.dst = none) (hr : (execOp a.eval o).run P w = .ok .skip w2) (h : wpList P ops Q rest a w2) : wpList P ops Q (o :: rest) a w := by
  unfold wpList
  rw [if_pos (by unfold Region.wanted; rw [hgd])]
  refine .inl ?_
  unfold Oper.wp
  rw [hr]
  unfold Oper.upon
  rw [hd]
  exact h
theorem wl_val {o : Oper} {rest : List Oper} {a : Act} {w w2 : World} {v : Value} (hgd : o.guard = none) (hr : (execOp a.eval o).run P w = .ok (.value v) w2) (h : wpList P ops Q rest (a.put o.dst v) w2) : wpList P ops Q (o :: rest) a w := by
  unfold wpList
  rw [if_pos (by unfold Region.wanted; rw [hgd])]
  refine .inl ?_
  unfold Oper.wp
  rw [hr]
  exact h
/-- Each from number k on waits, in the end, for all ahead of number k but for m; each behind k for m too. -/
def coverBut (ops : List Oper) (k m : Nat) : Bool := (List.range ops.length).all fun j => decide (j < k) || (((List.range k).all fun i => i == m || (clo ops 8 (tgts ops j)).contains i) && (j == k || (clo ops 8 (tgts ops j)).contains m))
def firstBut (k n m : Nat) : Array Bool := Array.ofFn (n := n) fun i => decide (i.val < k) && (i.val != m)
theorem wp_mids_late {qs : List Fk} {a0 : Act} {w0 : World} (m dm : Nat) (so om : Oper) (rest : List Nat) (hk : qs.length ≤ ops.size) (hE : backOk ops.toList = true) (hC : coverBut ops.toList qs.length m = true) (hJ : chainOk ops (firstK qs.length ops.size) (qs.length :: rest) = true)
    (hJ2 : chainOk ops ((firstBut qs.length ops.size m).setIfInBounds qs.length true) (m :: rest) = true) (hso : ops[qs.length]? = some so) (hom : ops[m]? = some om) (hsf : storeFree so dm = true) (hmd : om.dst = some dm) (hmk : decide (m < qs.length) = true) (hmg : om.guard = none)
    (hM : ∀ a w, Known ops.toList qs.length (fkAt qs) a0 w0 om a w → ∃ v, (∀ w', (execOp a.eval om).run P w' = .ok (.value v) w') ∧ fkAt qs m v w)
    (hD : dstsOk a0.tmps.size (ops.toList.take qs.length) = true) (hG : guardsOk ops.toList qs.length qs ops.toList qs = true)
    (hS : Steps P Q ops.toList qs.length qs a0 w0 ops.toList qs)
    (hF : ∀ af w', Final ops.toList qs a0 af w' → Below w0.heap.size w0 w' → ∃ w2, (execOp af.eval so).run P w' = .ok .skip w2 ∧ wpList P ops Q (rest.filterMap (ops[·]?)) af w2) :
    ∀ (fuel : Nat) (listed : Array Bool) (a : Act) (w : World), unl listed ≤ fuel → Closed ops listed → Mids ops qs.length (fkAt qs) a0 w0 listed a w → wpAny P .any ops Q fuel listed a w := by
  have hfin : ∀ (listed : Array Bool) (a : Act) (w : World), Mids ops qs.length (fkAt qs) a0 w0 listed a w → (∀ i, i < qs.length → listed.getD i false = true) → Final ops.toList qs a0 a w := by
    intro listed a w hm hall
    refine ⟨hm.defs, hm.size, fun t ht => eval_of_get (hm.old t ht), fun i d h => ?_⟩
    simp only [Bool.and_eq_true, decide_eq_true_eq, beq_iff_eq] at h
    obtain ⟨hi, hd⟩ := h
    cases ho : ops.toList[i]? with
    | none => rw [ho] at hd; simp at hd
    | some o =>
      rw [ho] at hd
      exact hm.has i o d hi (by rw [← Array.getElem?_toList]; exact ho) (by simpa using hd) (hall i hi)
  have hend : ∀ (fuel : Nat) (listed : Array Bool) (a : Act) (w : World), unl listed ≤ fuel → Mids ops qs.length (fkAt qs) a0 w0 listed a w → (∀ i, i < qs.length → listed.getD i false = true) → wpAny P .any ops Q fuel listed a w := by
    intro fuel listed a w hu hm hall
    have he : listed = firstK qs.length ops.size := by
      apply Array.ext (by simp [firstK, hm.lsize])
      intro i h1 h2
      simp only [firstK, Array.getElem_ofFn]
      by_cases hi : i < qs.length
      · have := hall i hi
        simp [h1] at this
        simp [this, hi]
      · have h3 : i < ops.size := by rw [hm.lsize] at h1; exact h1
        have := hm.last i (by omega) h3
        simp [h1] at this
        simp [this, hi]
    have hJ' : chainOk ops listed (qs.length :: rest) = true := by rw [he]; exact hJ
    have hlen := chain_len (qs.length :: rest) listed hJ'
    refine any_list (qs.length :: rest) fuel listed a w hJ' (by omega) ?_
    obtain ⟨w2, hr, hw⟩ := hF a w (hfin listed a w hm hall) hm.grow
    rw [List.filterMap_cons, hso]
    exact wl_skip (storeFree_guard hsf) (storeFree_dst hsf) hr hw
  intro fuel
  induction fuel with
  | zero =>
    intro listed a w hu hcl hm
    have hall := unl_zero (listed := listed) (by omega)
    refine hend 0 listed a w hu hm (fun i hi => ?_)
    have hil : i < listed.size := by rw [hm.lsize]; omega
    rw [← getD_tf hil]; exact hall i hil
  | succ fuel ih =>
    intro listed a w hu hcl hm
    by_cases hall : ∀ i, i < qs.length → listed.getD i false = true
    · exact hend (fuel + 1) listed a w hu hm hall
    · have hex : ∃ i0, i0 < qs.length ∧ listed.getD i0 false = false := by
        apply Classical.byContradiction
        intro hno
        apply hall
        intro i hi
        cases hq : listed.getD i false with
        | true => rfl
        | false => exact absurd ⟨i, hi, hq⟩ hno
      obtain ⟨i0, hi0, hi0u⟩ := hex
      refine ⟨fun hr => ?_, fun i hi => ?_⟩
      · exfalso
        have hu0 := ready_back hE hm.lsize hr
        have hil : i0 < listed.size := by rw [hm.lsize]; omega
        have := unl_zero hu0 i0 hil
        rw [getD_tf hil, hi0u] at this
        cases this
      · obtain ⟨hun, o, ho, hdep⟩ := mem_ready.1 hi
        have hio : i < ops.size := (Array.getElem?_eq_some_iff.1 ho).1
        have hu' := unl_set hun
        have hil : i < listed.size := by rw [hm.lsize]; exact hio
        have htg : ∀ j ∈ tgt o, listed.getD j false = true := fun j hj => by
          obtain ⟨e, he, hb, rfl⟩ := mem_tgt.1 hj
          exact hdep e he hb
        rcases Nat.lt_or_ge i qs.length with hik | hik
        case inr =>
          have hmk' : m < qs.length := of_decide_eq_true hmk
          have hcl4 : ∀ i1, i1 ∈ clo ops.toList 8 (tgts ops.toList i) → listed.getD i1 false = true := clo_listed hcl 8 (tgts ops.toList i) (fun j hj => by
            unfold tgts at hj
            rw [Array.getElem?_toList, ho] at hj
            exact htg j (by simpa using hj))
          have hcov : ∀ i1, i1 < qs.length → i1 ≠ m → listed.getD i1 false = true := by
            intro i1 h1 h2
            unfold coverBut at hC
            have h3 := List.all_eq_true.1 hC i (by simpa using hio)
            simp only [Bool.or_eq_true, decide_eq_true_eq, Bool.and_eq_true] at h3
            rcases h3 with h3 | h3
            · omega
            · have h4 := List.all_eq_true.1 h3.1 i1 (by simpa using h1)
              simp only [Bool.or_eq_true, beq_iff_eq] at h4
              rcases h4 with h4 | h4
              · exact absurd h4 h2
              · exact hcl4 i1 (by simpa using h4)
          have hum : listed.getD m false = false := by
            by_cases e : i0 = m
            · rw [← e]; exact hi0u
            · rw [hcov i0 hi0 e] at hi0u; cases hi0u
          have hiq : i = qs.length := by
            unfold coverBut at hC
            have h3 := List.all_eq_true.1 hC i (by simpa using hio)
            simp only [Bool.or_eq_true, decide_eq_true_eq, Bool.and_eq_true, beq_iff_eq] at h3
            rcases h3 with h3 | h3
            · omega
            · rcases h3.2 with h4 | h4
              · exact h4
              · have h5 := hcl4 m (by simpa using h4)
                rw [hum] at h5; cases h5
          subst hiq
          obtain rfl : o = so := Option.some.inj (ho.symm.trans hso)
          have hml : m < listed.size := by rw [hm.lsize]; omega
          have hto : (ops.toList.take qs.length)[m]? = some om := by rw [List.getElem?_take, if_pos hmk', Array.getElem?_toList]; exact hom
          obtain ⟨d, hd, hlt, hallD⟩ := dstsOk_spec hD m om hto
          obtain rfl : d = dm := Option.some.inj (hd.symm.trans hmd)
          have hKm : Known ops.toList qs.length (fkAt qs) a0 w0 om a w := by
            refine ⟨fun t ht => eval_of_get (hm.old t ht), fun j d hj => ?_, hm.grow⟩
            unfold depOk at hj
            simp only [Bool.and_eq_true, decide_eq_true_eq, beq_iff_eq, Array.getElem?_toList] at hj
            obtain ⟨⟨hjk, hany⟩, hd⟩ := hj
            obtain ⟨e, he, hb⟩ := List.any_eq_true.1 hany
            simp only [Bool.and_eq_true, beq_iff_eq] at hb
            have hjm : j ≠ m := by
              intro hjm
              unfold backOk at hE
              have h1 := List.all_eq_true.1 hE m (by simp; omega)
              simp only [Array.getElem?_toList, hom, Option.map_some, Option.getD_some] at h1
              have h2 := List.all_eq_true.1 h1 e he
              rw [hb.1, hb.2, hjm] at h2
              simp at h2
            cases hoj : ops[j]? with
            | none => rw [hoj] at hd; simp at hd
            | some oj =>
              rw [hoj] at hd
              exact hm.has j oj d hjk hoj (by simpa using hd) (hcov j hjk hjm)
          obtain ⟨v, hrun, hφ⟩ := hM a w hKm
          have hm1 : Mids ops qs.length (fkAt qs) a0 w0 (listed.setIfInBounds m true) (a.put om.dst v) w := by
            refine ⟨by rw [put_size]; exact hm.size, by rw [put_def]; exact hm.defs, by simp; exact hm.lsize, fun t ht => ?_, fun j oj dj hj hoj hdj hlj => ?_, fun j hj1 hj2 => ?_, hm.grow⟩
            · rw [put_other _ _ _ _ (freeOf_spec ht hto)]; exact hm.old t ht
            · by_cases e : j = m
              · subst e
                obtain rfl : oj = om := Option.some.inj (hoj.symm.trans hom)
                obtain rfl : dj = d := Option.some.inj (hdj.symm.trans hd)
                have hev : (a.put oj.dst v).eval (.tmp dj) = v := by
                  have := put_same a dj v (by rw [hm.size]; exact hlt)
                  rw [← hd] at this
                  simp [Act.eval, this]
                rw [hev]; exact hφ
              · have htj : (ops.toList.take qs.length)[j]? = some oj := by rw [List.getElem?_take, if_pos hj, Array.getElem?_toList]; exact hoj
                have hne : om.dst ≠ some dj := fun h => by
                  have : d = dj := Option.some.inj (hd.symm.trans h)
                  exact hallD j oj htj e (by rw [this]; exact hdj)
                rw [eval_of_get (put_other a om.dst v dj hne)]
                refine hm.has j oj dj hj hoj hdj ?_
                have hne2 : m ≠ j := fun h => e h.symm
                simpa [Array.getElem?_setIfInBounds, hne2] using hlj
            · have hne : m ≠ j := by omega
              have := hm.last j hj1 hj2
              simpa [Array.getElem?_setIfInBounds, hne] using this
          have hall1 : ∀ i, i < qs.length → (listed.setIfInBounds m true).getD i false = true := by
            intro i1 h1
            by_cases e : i1 = m
            · subst e; exact getD_set_same hml
            · have hne : m ≠ i1 := fun h => e h.symm
              have := hcov i1 h1 e
              simpa [Array.getElem?_setIfInBounds, hne] using this
          obtain ⟨w2, hr, hw⟩ := hF _ w (hfin _ _ _ hm1 hall1) hm.grow
          have he : listed = firstBut qs.length ops.size m := by
            apply Array.ext (by simp [firstBut, hm.lsize])
            intro i1 h1 h2
            simp only [firstBut, Array.getElem_ofFn]
            by_cases hi1 : i1 < qs.length
            · by_cases e : i1 = m
              · subst e
                simp [h1] at hum
                simp [hum]
              · have := hcov i1 hi1 e
                simp [h1] at this
                simp [this, hi1, e]
            · have h3 : i1 < ops.size := by rw [hm.lsize] at h1; exact h1
              have := hm.last i1 (by omega) h3
              simp [h1] at this
              simp [this, hi1]
          have hrs : (execOp a.eval o).run P w = .ok .skip w2 := by
            rw [← storeFree_eval (v := v) hsf hmd a]; exact hr
          unfold wpOp
          rw [ho]
          show if Region.wanted o (yielded ops a.tmps) = true then _ else _
          rw [if_pos (by unfold Region.wanted; rw [storeFree_guard hsf])]
          refine .inl ?_
          unfold Oper.wp
          rw [hrs]
          unfold Oper.upon
          rw [storeFree_dst hsf]
          have hJ3 : chainOk ops (listed.setIfInBounds qs.length true) (m :: rest) = true := by rw [he]; exact hJ2
          have hlen := chain_len (m :: rest) _ hJ3
          refine any_list (m :: rest) fuel _ _ w2 hJ3 (by omega) ?_
          rw [List.filterMap_cons, hom]
          exact wl_val hmg (hrun w2) hw
        case inl =>
          have hK : Known ops.toList qs.length (fkAt qs) a0 w0 o a w := by
            refine ⟨fun t ht => eval_of_get (hm.old t ht), fun j d hj => ?_, hm.grow⟩
            unfold depOk at hj
            simp only [Bool.and_eq_true, decide_eq_true_eq, beq_iff_eq, Array.getElem?_toList] at hj
            obtain ⟨⟨hjk, hany⟩, hd⟩ := hj
            obtain ⟨e, he, hb⟩ := List.any_eq_true.1 hany
            simp only [Bool.and_eq_true, beq_iff_eq] at hb
            have hl := hdep e (by simpa using he) hb.2
            rw [hb.1] at hl
            cases hoj : ops[j]? with
            | none => rw [hoj] at hd; simp at hd
            | some oj =>
              rw [hoj] at hd
              exact hm.has j oj d hjk hoj (by simpa using hd) hl
          have hto : (ops.toList.take qs.length)[i]? = some o := by rw [List.getElem?_take, if_pos hik, Array.getElem?_toList]; exact ho
          obtain ⟨d, hd, hlt, hallD⟩ := dstsOk_spec hD i o hto
          have hcl' : Closed ops (listed.setIfInBounds i true) := by
            intro m om hom hml j hj
            by_cases e : m = i
            · subst e
              obtain rfl : om = o := Option.some.inj (hom.symm.trans ho)
              have h1 := htg j hj
              by_cases e2 : j = m
              · subst e2; exact getD_set_same hil
              · have hne : m ≠ j := fun h => e2 h.symm
                simpa [Array.getElem?_setIfInBounds, hne] using h1
            · have hne : i ≠ m := fun h => e h.symm
              have hml' : listed.getD m false = true := by simpa [Array.getElem?_setIfInBounds, hne] using hml
              have h1 := hcl m om hom hml' j hj
              by_cases e2 : j = i
              · subst e2; exact getD_set_same hil
              · have hne2 : i ≠ j := fun h => e2 h.symm
                simpa [Array.getElem?_setIfInBounds, hne2] using h1
          have hnext : ∀ v w', Below w.heap.size w w' → fkAt qs i v w' → wpAny P .any ops Q fuel (listed.setIfInBounds i true) (a.put o.dst v) w' := by
            intro v w' hb hf
            refine ih _ _ _ (by omega) hcl' ⟨by rw [put_size]; exact hm.size, by rw [put_def]; exact hm.defs, by simp; exact hm.lsize, fun t ht => ?_, fun j oj dj hj hoj hdj hlj => ?_, fun j hj1 hj2 => ?_, hm.grow.trans (hb.mono hm.grow.size)⟩
            · rw [put_other _ _ _ _ (freeOf_spec ht hto)]; exact hm.old t ht
            · by_cases e : j = i
              · subst e
                obtain rfl : oj = o := Option.some.inj (hoj.symm.trans ho)
                obtain rfl : dj = d := Option.some.inj (hdj.symm.trans hd)
                have hev : (a.put oj.dst v).eval (.tmp dj) = v := by
                  have := put_same a dj v (by rw [hm.size]; exact hlt)
                  rw [← hd] at this
                  simp [Act.eval, this]
                rw [hev]; exact hf
              · have htj : (ops.toList.take qs.length)[j]? = some oj := by rw [List.getElem?_take, if_pos hj, Array.getElem?_toList]; exact hoj
                have hne : o.dst ≠ some dj := fun h => by
                  have : d = dj := Option.some.inj (hd.symm.trans h)
                  exact hallD j oj htj e (by rw [this]; exact hdj)
                rw [eval_of_get (put_other a o.dst v dj hne)]
                refine Fk.mono _ _ w w' (hm.has j oj dj hj hoj hdj ?_) hb
                have hne2 : i ≠ j := fun h => e h.symm
                simpa [Array.getElem?_setIfInBounds, hne2] using hlj
            · have hne : i ≠ j := by omega
              have := hm.last j hj1 hj2
              simpa [Array.getElem?_setIfInBounds, hne] using this
          have hyield : ∀ (j : Nat) (b c : Bool), o.guard = some (j, b) → (∃ d, depOk ops.toList qs.length o j d = true) → (∀ v w, fkAt qs j v w → v = .bool c) → yielded ops a.tmps j = some c := by
            rintro j b c hg ⟨d, hd⟩ hbool
            have hv := hbool _ _ (hK.dep j d hd)
            have hd2 : (ops[j]?).bind (·.dst) = some d := by
              unfold depOk at hd
              simp only [Bool.and_eq_true, decide_eq_true_eq, beq_iff_eq, Array.getElem?_toList] at hd
              exact hd.2
            have hget : a.tmps[d]? = some (.bool c) := by
              simp only [Act.eval, Array.getD_eq_getD_getElem?] at hv
              cases hq : a.tmps[d]? with
              | none => rw [hq] at hv; simp [undef] at hv
              | some u => rw [hq] at hv; simp at hv; rw [hv]
            unfold yielded
            rw [hd2]
            simp only [Option.bind_some, hget]
          unfold wpOp
          rw [ho]
          show if Region.wanted o (yielded ops a.tmps) = true then _ else _
          have hyes : Region.wanted o (yielded ops a.tmps) = true → wantedBy qs o = true → (if Region.wanted o (yielded ops a.tmps) = true then o.wp P a w (wpAny P .any ops Q fuel (listed.setIfInBounds i true)) Q ∨ (o.asks P a w ∧ LetsOut Q) else wpAny P .any ops Q fuel (listed.setIfInBounds i true) (a.put o.dst undef) w) := by
            intro hwant hwb
            rw [if_pos hwant]
            refine .inl (Oper.wp_mono ?_ (hS.get i o hik (by rw [Array.getElem?_toList]; exact ho) hwb a w hK))
            rintro a' w' ⟨v, rfl, hb, hf⟩
            exact hnext v w' hb hf
          cases hg : o.guard with
          | none => exact hyes (by unfold Region.wanted; rw [hg]) (by unfold wantedBy; rw [hg])
          | some jb =>
            obtain ⟨j, b⟩ := jb
            obtain ⟨hdp, h2⟩ := guardsOk_spec hG i o j b hik (by rw [Array.getElem?_toList]; exact ho) hg
            rcases h2 with h2 | h2
            · refine hyes ?_ (by unfold wantedBy; rw [hg]; exact h2)
              unfold Region.wanted
              rw [hg]
              show (yielded ops a.tmps j == some b) = true
              rw [hyield j b b hg hdp (Fk.isBool_spec h2)]; simp
            · have hno : Region.wanted o (yielded ops a.tmps) = false := by
                unfold Region.wanted
                rw [hg]
                show (yielded ops a.tmps j == some b) = false
                rw [hyield j b (!b) hg hdp (Fk.isBool_spec h2.1)]; cases b <;> rfl
              rw [if_neg (by rw [hno]; simp)]
              exact hnext undef w (Below.refl _ _) (Fk.isAny_spec h2.2 _ _)
/-- A drawn region: its first operations by steps; then a store that may come ahead of number m, which only takes a value out; then the others. -/
theorem wp_region_late {id : Nat} {a0 : Act} {w : World} (qs : List Fk) (m dm : Nat) (so om : Oper) (rest : List Nat) (hm : P.follows .mixedOrders = true) (hk : decide (qs.length ≤ ops.size) = true) (hE : backOk ops.toList = true) (hC : coverBut ops.toList qs.length m = true) (hJ : chainOk ops (firstK qs.length ops.size) (qs.length :: rest) = true)
    (hJ2 : chainOk ops ((firstBut qs.length ops.size m).setIfInBounds qs.length true) (m :: rest) = true) (hso : ops[qs.length]? = some so) (hom : ops[m]? = some om) (hsf : storeFree so dm = true) (hmd : om.dst = some dm) (hmk : decide (m < qs.length) = true) (hmg : om.guard = none)
    (hD : dstsOk a0.tmps.size (ops.toList.take qs.length) = true) (hG : guardsOk ops.toList qs.length qs ops.toList qs = true)
    (hM : ∀ a w', Known ops.toList qs.length (fkAt qs) a0 w om a w' → ∃ v, (∀ w2, (execOp a.eval om).run P w2 = .ok (.value v) w2) ∧ fkAt qs m v w')
    (hS : Steps P Q ops.toList qs.length qs a0 w ops.toList qs)
    (hF : ∀ af w', Final ops.toList qs a0 af w' → Below w.heap.size w w' → ∃ w2, (execOp af.eval so).run P w' = .ok .skip w2 ∧ wpList P ops Q (rest.filterMap (ops[·]?)) af w2) :
    (Code.region id ops true).wp P Q a0 w := by
  refine wp_region_any hm ?_
  refine wp_mids_late m dm so om rest (of_decide_eq_true hk) hE hC hJ hJ2 hso hom hsf hmd hmk hmg hM hD hG hS hF ops.size _ a0 _ ?_ ?_ ?_
  · unfold unl
    exact Nat.le_trans (Array.countP_le_size) (by simp)
  · intro i o ho hl
    have : i < ops.size := (Array.getElem?_eq_some_iff.1 ho).1
    simp [this] at hl
  · refine ⟨rfl, rfl, by simp, fun _ _ => rfl, fun i o d _ ho _ hl => ?_, fun i _ hi => ?_, (Below.refl _ _).drew⟩
    · have : i < ops.size := (Array.getElem?_eq_some_iff.1 ho).1
      simp [this] at hl
    · simp [hi]
end
/-- A value that is taken out of a tuple. -/
theorem late_ext {P : Program} {a : Act} {o : Oper} {x : Operand} {k : Nat} {vs : Array Value} {v : Value} (ho : o.op = .extract x k) (hx : a.eval x = .tuple vs) (hk : vs[k]? = some v) : ∀ w, (execOp a.eval o).run P w = .ok (.value v) w := by
  intro w
  unfold execOp
  rw [ho]
  simp [hx, Instr.extract, hk]
theorem run_str {P : Program} {o : Oper} {a : Act} {w : World} (ty : TypeId) (x y : Operand) (ho : o.op = .store ty x y) (g : Nat) (cells : Array Value) (hx : a.eval x = .pointer (some ⟨g, 0, none⟩)) (hy : a.eval y = .agg cells)
    (t : TypeId) (old : Array Value) (hg : w.heap[g]? = some (.cells old t (0, 0))) (hi : (P.info? ty).map (·.size) = some cells.size) (hold : old.size = cells.size) (h1 : cells.all (·.oneCell') = true) : (execOp a.eval o).run P w = .ok .skip (w.setRow g cells) := by
  have := run_storeVar_row (P := P) w g t ty old cells hg hi hold h1
  unfold execOp
  rw [ho]
  simp [hx, hy, Instr.storeAt, Instr.sureAddr, this]
theorem run_store33 {o : Oper} {a : Act} {w : World} (x y : Operand) (ho : o.op = .store 33 x y) (g : Nat) (zs ys : List (BitVec 8)) (hx : a.eval x = .pointer (some ⟨g, 0, none⟩)) (hy : a.eval y = .agg (zs.map V).toArray) (hv : Ob w g 33 (ys.map V)) (hl : ys.length = 32) (hz : zs.length = 32) :
    (execOp a.eval o).run Tryd.prog w = .ok .skip (w.setRow g (zs.map V).toArray) :=
  run_str 33 x y ho g _ hx hy 33 _ hv (by rw [List.size_toArray, List.length_map, hz]; exact Tryd.size33) (by simp [hl, hz]) (V_all _)
end Go.Proofs.YtfmeeimhfdnjpaaDoor
namespace Go.Proofs.YtfmeeimhfdnjpaaDoor
set_option maxRecDepth 100000
open Go.RowKit
section
variable {P : Program} {ops : Array Oper} {Q : Exit → Act → World → Prop} {S : World → Prop} {o : Oper} {a : Act}
theorem wh_take (i : Nat) (d : Nat) {v : Value} {fuel : Nat} {listed : Array Bool} {w : World} (hi : ops[i]? = some o) (hd : o.dst = some d) (hsz : d < a.tmps.size) (hg : o.guard = none)
    (hs : Region.noSelect ops = true) (hf : Region.free .any ops listed i = true) (hr : (Region.ready .any ops listed).contains i = true)
    (hQ : ∀ c a w, Q (.panic c) (a.put o.dst v) w → Q (.panic c) a w) (hy : ∀ w, S w → (execOp a.eval o).run P w = .ok (.value v) w) (hS : S w)
    (h : ∀ a2, a2.defers = a.defers → a2.tmps.size = a.tmps.size → (∀ t, (t == d) = false → a2.eval (.tmp t) = a.eval (.tmp t)) → a2.eval (.tmp d) = v → wpAnyH P .any ops Q S fuel (listed.setIfInBounds i true) a2 w) : wpAnyH P .any ops Q S (fuel + 1) listed a w := by
  refine wpAnyH_take hi hs hf hr hQ (.inl ⟨by unfold Region.wanted; rw [hg], hy⟩) hS ?_
  rw [hd]
  exact h _ (put_def _ _ _) (put_size _ _ _) (fun t ht => put_eval_other _ _ _ _ (fun e => by subst e; simp at ht)) (put_eval_same _ _ _ hsz)
theorem wh_assign (i : Nat) (d : Nat) {fuel : Nat} {listed : Array Bool} {w : World} (hi : ops[i]? = some o) (hd : o.dst = some d) (hsz : d < a.tmps.size) (hg : o.guard = none) (hr : (Region.ready .any ops listed == [i]) = true) (x : Operand) (ho : o.op = .assign x) (hS : S w)
    (h : ∀ a2, a2.defers = a.defers → a2.tmps.size = a.tmps.size → (∀ t, (t == d) = false → a2.eval (.tmp t) = a.eval (.tmp t)) → a2.eval (.tmp d) = a.eval x → wpAnyH P .any ops Q S fuel (listed.setIfInBounds i true) a2 w) : wpAnyH P .any ops Q S (fuel + 1) listed a w := by
  refine wpAnyH_all (eq_of_beq hr) (by simp) (fun j hj => ?_)
  obtain rfl : j = i := by simpa using hj
  unfold wpOp
  rw [hi]
  show if Region.wanted o (yielded ops a.tmps) = true then _ else _
  rw [if_pos (by unfold Region.wanted; rw [hg])]
  refine .inl ?_
  unfold Oper.wp execOp
  rw [ho]
  show S w ∧ wpAnyH P .any ops Q S fuel _ (a.put o.dst (a.eval x)) w
  rw [hd]
  exact ⟨hS, h _ (put_def _ _ _) (put_size _ _ _) (fun t ht => put_eval_other _ _ _ _ (fun e => by subst e; simp at ht)) (put_eval_same _ _ _ hsz)⟩
theorem run_field {T f : Nat} {x : Operand} (ho : o.op = .fieldAddr T x f) {p r : Addr} (hx : a.eval x = .pointer (some p)) (hr : ∀ w, (Instr.fieldAt T (.pointer (some p)) f).run P w = .ok (.pointer (some r)) w) : ∀ w, S w → (execOp a.eval o).run P w = .ok (.value (.pointer (some r))) w := by
  intro w _
  unfold execOp
  rw [ho]
  simp [hx, hr]
theorem run_loadc {T : TypeId} {x : Operand} (ho : o.op = .load T x) (h1 : ∀ w, (isAgg T).run P w = .ok false w) {p : Addr} {u : Value} (hx : a.eval x = .pointer (some p)) (hc : ∀ w, S w → w.cell? p = some u) : ∀ w, S w → (execOp a.eval o).run P w = .ok (.value u) w := by
  intro w hS
  unfold execOp
  rw [ho]
  simp [hx, Instr.loadAt, Instr.sureAddr, loadVar, h1, run_load, hc w hS]
theorem run_mv {x : Operand} (ho : o.op = .move x) {v : Value} (hx : a.eval x = v) : ∀ w, S w → (execOp a.eval o).run P w = .ok (.value v) w := by
  intro w _
  unfold execOp
  rw [ho, ← hx]
  rfl
end
end Go.Proofs.YtfmeeimhfdnjpaaDoor
namespace Go.Proofs.YtfmeeimhfdnjpaaDoor
set_option maxRecDepth 100000
open Go.RowKit
theorem hc_first {P : List (List (BitVec 8))} {A : Option Addr} {C : Nat} {w : World} {st : List (BitVec 8)} (h : (Fk.hc P).f (.slice A P.length C) w) (h0 : P[0]? = some st) : ∃ lb lo, A = some ⟨lb, lo, none⟩ ∧ lb < w.heap.size ∧ w.rangeAt lb lo (st.map V) ∧ st.length = 32 := by
  obtain ⟨A', C', lb, lo, e, hc, hl⟩ := h
  cases e
  have hp : 0 < P.length := (List.getElem?_eq_some_iff.1 h0).1
  obtain ⟨h1, h2⟩ := hl.all 0 st h0
  refine ⟨lb, lo, hl.ptr hp, hl.lt hp, fun j v hj => ?_, h1⟩
  have hjl : j < st.length := by have := (List.getElem?_eq_some_iff.1 hj).1; simpa using this
  have := h2 j hjl
  rw [Nat.zero_mul, Nat.add_zero] at this
  rw [this]
  rw [List.getElem?_map, List.getElem?_eq_getElem hjl] at hj
  simp only [Option.map_some, Option.some.injEq] at hj
  rw [← hj]
  simp [V, hjl]
section
variable {S : World → Prop} {o : Oper} {a : Act} {Q : Exit → Act → World → Prop} {ops : Array Oper}
theorem run_idxv {x y : Operand} (ho : o.op = .indexAddr 35 x y) {A : Option Addr} {m C lb lo : Nat} (hx : a.eval x = .slice A m C) (hA : A = some ⟨lb, lo, none⟩) (hy : a.eval y = .int .i64 0) (hm : 0 < m) : ∀ w, S w → (execOp a.eval o).run Tryd.prog w = .ok (.value (.pointer (some ⟨lb, lo, none⟩))) w := by
  intro w _
  subst hA
  have h1 := run_indexAt_slice (P := Tryd.prog) (w := w) 35 ⟨lb, lo, none⟩ m C .i64 0 (by rw [Tryd.elem35]; exact Tryd.under35')
  rw [if_pos (by omega), Tryd.elem35, Tryd.sizeOf33] at h1
  simp only [Result.andThen_ok, Int.toNat_zero, Nat.zero_mul] at h1
  have h2 : (⟨lb, lo, none⟩ : Addr).add 0 = ⟨lb, lo, none⟩ := by simp [Addr.add]
  rw [h2] at h1
  unfold execOp
  rw [ho]
  simp [hx, hy, h1]
theorem run_ldh {x : Operand} (ho : o.op = .load 33 x) {lb lo : Nat} {st : List (BitVec 8)} (hl : st.length = 32) (hx : a.eval x = .pointer (some ⟨lb, lo, none⟩)) (hr : ∀ w, S w → w.rangeAt lb lo (st.map V)) : ∀ w, S w → (execOp a.eval o).run Tryd.prog w = .ok (.value (.agg (st.map V).toArray)) w := by
  intro w hS
  have := run_loadVar_mid (P := Tryd.prog) w lb lo 33 (st.map V) _ (hr w hS) Tryd.under33 rfl (by rw [List.length_map, hl]; exact Tryd.size33)
  unfold execOp
  rw [ho]
  simp [hx, Instr.loadAt, Instr.sureAddr, this]
theorem wh_store (i : Nat) {fuel : Nat} {listed : Array Bool} {w : World} (hi : ops[i]? = some o) (hd : o.dst = none) (hg : o.guard = none) (hr : (Region.ready .any ops listed == [i]) = true) (x y : Operand) (ho : o.op = .store 33 x y) (g : Nat) (zs ys : List (BitVec 8)) (hx : a.eval x = .pointer (some ⟨g, 0, none⟩)) (hy : a.eval y = .agg (zs.map V).toArray) (hv : Ob w g 33 (ys.map V)) (hl : ys.length = 32) (hz : zs.length = 32)
    (hS : S (w.setRow g (zs.map V).toArray)) (h : wpAnyH Tryd.prog .any ops Q S fuel (listed.setIfInBounds i true) a (w.setRow g (zs.map V).toArray)) : wpAnyH Tryd.prog .any ops Q S (fuel + 1) listed a w := by
  refine wpAnyH_all (eq_of_beq hr) (by simp) (fun j hj => ?_)
  obtain rfl : j = i := by simpa using hj
  have hrun := run_store33 (a := a) x y ho g zs ys hx hy hv hl hz
  unfold wpOp
  rw [hi]
  show if Region.wanted o (yielded ops a.tmps) = true then _ else _
  rw [if_pos (by unfold Region.wanted; rw [hg])]
  refine .inl ?_
  unfold Oper.wp
  rw [hrun]
  show S _ ∧ wpAnyH Tryd.prog .any ops Q S fuel _ (a.put o.dst undef) _
  rw [hd]
  exact ⟨hS, h⟩
theorem run_lenT {T E : Nat} (hu : Tryd.prog.underlying T = some (.slice E)) (he : Tryd.prog.elem T = E) {x : Operand} (ho : o.op = .call { callee := .builtin .len, args := #[x], argTypes := #[T] }) {A : Option Addr} {m C : Nat} (hx : a.eval x = .slice A m C) : ∀ w, S w → (execOp a.eval o).run Tryd.prog w = .ok (.value (.int .i64 ((m : Nat) : Int))) w := by
  intro w _
  have h1 := run_len_slice (P := Tryd.prog) (w := w) T o.type A m C (by rw [he]; exact hu)
  unfold execOp
  simp [ho, resolve, invoke, builtin, hx, h1, goInt]
theorem wh_alloc (i d : Nat) {fuel : Nat} {listed : Array Bool} {w : World} (hi : ops[i]? = some o) (hd : o.dst = some d) (hsz : d < a.tmps.size) (hg : o.guard = none) (hr : (Region.ready .any ops listed == [i]) = true) (ho : o.op = .alloc 33)
    (hS : S (w.alloc (.cells (hz.map V).toArray 33))) (h : ∀ a2, a2.defers = a.defers → a2.tmps.size = a.tmps.size → (∀ t, (t == d) = false → a2.eval (.tmp t) = a.eval (.tmp t)) → a2.eval (.tmp d) = .pointer (some ⟨w.heap.size, 0, none⟩) → wpAnyH Tryd.prog .any ops Q S fuel (listed.setIfInBounds i true) a2 (w.alloc (.cells (hz.map V).toArray 33))) : wpAnyH Tryd.prog .any ops Q S (fuel + 1) listed a w := by
  refine wpAnyH_all (eq_of_beq hr) (by simp) (fun j hj => ?_)
  obtain rfl : j = i := by simpa using hj
  have hrun : (execOp a.eval o).run Tryd.prog w = .ok (.value (.pointer (some ⟨w.heap.size, 0, none⟩))) (w.alloc (.cells (hz.map V).toArray 33)) := by
    have h1 : (Instr.alloc 33 true (.tuple #[])).run Tryd.prog w = .ok (.pointer (some ⟨w.heap.size, 0, none⟩)) (w.alloc (.cells (hz.map V).toArray 33)) := by kernel_rfl
    unfold execOp
    rw [ho]
    simp [h1]
  unfold wpOp
  rw [hi]
  show if Region.wanted o (yielded ops a.tmps) = true then _ else _
  rw [if_pos (by unfold Region.wanted; rw [hg])]
  refine .inl ?_
  unfold Oper.wp
  rw [hrun]
  show S _ ∧ wpAnyH Tryd.prog .any ops Q S fuel _ (a.put o.dst _) _
  rw [hd]
  exact ⟨hS, h _ (put_def _ _ _) (put_size _ _ _) (fun t ht => put_eval_other _ _ _ _ (fun e => by subst e; simp at ht)) (put_eval_same _ _ _ hsz)⟩
end
end Go.Proofs.YtfmeeimhfdnjpaaDoor
namespace Go.Proofs.YtfmeeimhfdnjpaaDoor
set_option maxRecDepth 100000
open Go.RowKit
/-- The bytes of a list. -/
def bys (ps : List Pt) : List (List (BitVec 8)) := ps.map Pt.bs
/-- The hashes of a list's leaves. -/
def lhs (ps : List Pt) : List (List (BitVec 8)) := ps.map fun p => lf p.bs
/-- Two inputs that differ, and have one sum. -/
def rcol (A B : List (BitVec 8)) : Prop := A ≠ B ∧ shaOf A = shaOf B
instance (A B : List (BitVec 8)) : Decidable (rcol A B) := by unfold rcol; infer_instance
/-- A list that the laws go through. -/
def smallP (ps : List Pt) : Prop := (∀ p ∈ ps, p.bs.length ≤ 200) ∧ ps.length ≤ 40
instance (ps : List Pt) : Decidable (smallP ps) := by unfold smallP; infer_instance
theorem bys_len (ps : List Pt) : (bys ps).length = ps.length := List.length_map _
theorem lhs_len (ps : List Pt) : (lhs ps).length = ps.length := List.length_map _
theorem bys_at {ps : List Pt} {i : Nat} {p : Pt} (h : ps[i]? = some p) : (bys ps)[i]? = some p.bs := by unfold bys; rw [List.getElem?_map, h]; rfl
theorem lhs_at {ps : List Pt} {i : Nat} {p : Pt} (h : ps[i]? = some p) : (lhs ps)[i]? = some (lf p.bs) := by unfold lhs; rw [List.getElem?_map, h]; rfl
theorem lhs_32 (ps : List Pt) : ∀ x ∈ lhs ps, x.length = 32 := by
  intro x hx
  obtain ⟨p, _, rfl⟩ := List.mem_map.1 hx
  exact lf_len _
theorem lhs_take (ps : List Pt) (n : Nat) : lhs (ps.take n) = (lhs ps).take n := List.map_take ..
theorem bys_take (ps : List Pt) (n : Nat) : bys (ps.take n) = (bys ps).take n := List.map_take ..
theorem take_one {α : Type} {l : List α} {k : Nat} {x : α} (h : l[k]? = some x) : l.take (k + 1) = l.take k ++ [x] := by rw [List.take_add_one, h]; rfl
theorem take_more {α : Type} {A B : List α} {k : Nat} {x : α} (h : A.take k = B.take k) (ha : A[k]? = some x) (hb : B[k]? = some x) : A.take (k + 1) = B.take (k + 1) := by rw [take_one ha, take_one hb, h]
theorem pt_small {ps : List Pt} (hs : smallP ps) {i : Nat} {p : Pt} (h : ps[i]? = some p) : p.bs.length ≤ 200 := hs.1 p (List.mem_of_getElem? h)
theorem Ls.take {w : World} {lb lo : Nat} {ps : List Pt} (h : Ls w lb lo ps) (n : Nat) : Ls w lb lo (ps.take n) := by
  have e : ∀ i p, (ps.take n)[i]? = some p → ps[i]? = some p := fun i p hi => by
    rw [List.getElem?_take] at hi
    split at hi
    · exact hi
    · cases hi
  exact ⟨fun i p hi => h.cell i p (e i p hi), fun i p hi => h.ok i p (e i p hi)⟩
theorem mg_take {ps : List Pt} {A : Option Addr} {C : Nat} {w : World} (h : (Fk.mg ps).f (.slice A ps.length C) w) {n : Nat} (hn : n ≤ ps.length) : (Fk.mg (ps.take n)).f (.slice A n C) w := by
  obtain ⟨A', C', lb, lo, e, hp, hl⟩ := h
  cases e
  have hln : (ps.take n).length = n := by rw [List.length_take]; omega
  refine ⟨A, C, lb, lo, by rw [hln], fun h0 => hp (by omega), ?_⟩
  exact Ls.take hl n
theorem fk_small {ps : List Pt} (hln : ps.length ≤ 140737488351232) {w : World} {v : Value} (hv : (Fk.mg ps).f v w) {b : Bool} (hb : b = decide (smallP ps)) :
    Calls Tryd.prog 11 #[v] w fun e w' => ∃ u, e = .returned u ∧ (Fk.eq (.bool b)).f u w' ∧ Below w.heap.size w w' := by
  go_enter Tryd.func11, Tryd.ntmps11
  refine code_both (fun f w1 => f.tmps.size = 18 ∧ f.defers = [] ∧ f.eval (.tmp 0) = v ∧ Below w.heap.size w (w1)) ⟨rfl, rfl, rfl, Below.refl _ _⟩ ?_
  rintro f0 w0 ⟨sz, df, x0, bl⟩
  have sd := And.intro sz df
  clear sz df
  have bl0 := bl
  refine wp_seq ?_
  refine wr_a [.eq (.bool false)] (by rw [sd.1]; kernel_rfl) ⟨fun hw ac u K => ?_, trivial⟩ ?_
  · exact st_assign (.const (.bool false)) rfl rfl
  intro f1 w1 A hb
  replace x0 := A.t x0 rfl
  replace bl := bgo bl hb
  replace sd := A.sd sd
  clear A hb
  show Code.wp _ _ _ _ _
  refine wp_seq ?_
  refine wp_seq ?_
  refine wr_a [.eq (v), .eq (.int .i64 (((ps).length : Nat) : Int)), .eq (.int .i64 0)] (by rw [sd.1]; kernel_rfl) ⟨fun hw ac u K => ?_, fun hw ac u K => ?_, fun hw ac u K => ?_, trivial⟩ ?_
  · exact st_move (.tmp 0) rfl (K.t x0 rfl)
  · exact st_lenm (.tmp 5) rfl (fk_val (K.dep 0 5 rfl) (Fk.mono _ _ _ _ hv (bgo bl K.grow)))
  · exact st_move (.const (.int .i64 0)) rfl rfl
  intro f2 w2 A hb
  replace x0 := A.t x0 rfl
  have x5 := A.e 0 5 rfl rfl
  have x6 := A.e 1 6 rfl rfl
  have x7 := A.e 2 7 rfl rfl
  replace bl := bgo bl hb
  replace sd := A.sd sd
  clear A hb
  show Code.wp _ _ _ _ _
  refine wp_block ?_
  refine wp_loop (fun f v1 => ∃ k : Nat, k ≤ (ps).length ∧ (∀ p ∈ ps.take k, p.bs.length ≤ 200) ∧ f.tmps.size = 18 ∧ f.defers = [] ∧ f.eval (.tmp 0) = v ∧ f.eval (.tmp 5) = v ∧ f.eval (.tmp 6) = .int .i64 (((ps).length : Nat) : Int) ∧ f.eval (.tmp 7) = .int .i64 (k : Int) ∧ Below w.heap.size w (v1)) (fun f _ => (ps).length - (intOf (f.eval (.tmp 7))).toNat) ⟨0, Nat.zero_le _, (by simp), sd.1, sd.2, x0, x5, x6, x7, bl⟩ ?_
  intro f3 w3 hI
  clear sd bl bl0 x0 x5 x6 x7
  obtain ⟨k, hk8, hall, sz, df, x0, x5, x6, x7, bl⟩ := hI
  have sd := And.intro sz df
  clear sz df
  have bl0 := bl
  have hcnt := x7
  refine wp_seq ?_
  by_cases hlt : k < (ps).length
  rotate_left
  · skip
    refine wr_a [.eq (.bool false)] (by rw [sd.1]; kernel_rfl) ⟨fun hw ac u K => ?_, trivial⟩ ?_
    · exact st_lss 3 (.tmp 7) (.tmp 6) rfl .i64 ((k : Int)) ((((ps).length : Nat) : Int)) (K.t x7 rfl) (K.t x6 rfl) _ (by rw [eq_comm, decide_eq_false_iff_not]; exact fun h => hlt (Int.ofNat_lt.1 h))
    intro f4 w4 A hb
    replace x0 := A.t x0 rfl
    replace x5 := A.t x5 rfl
    replace x6 := A.t x6 rfl
    replace x7 := A.t x7 rfl
    have x8 := A.e 0 8 rfl rfl
    replace bl := bgo bl hb
    replace sd := A.sd sd
    clear A hb
    show Code.wp _ _ _ _ _
    refine wp_seq ?_
    refine wp_cond_false x8 ?_
    refine wp_exit ?_
    show Code.wp _ _ _ _ _
    refine wp_seq ?_
    rw [List.take_of_length_le (by omega)] at hall
    by_cases h40 : (ps).length ≤ 40
    rotate_left
    · skip
      have hbf : false = b := by rw [hb]; symm; rw [decide_eq_false_iff_not]; exact fun h => h40 h.2
      refine wr_a [.eq (v), .eq (.int .i64 (((ps).length : Nat) : Int)), .eq (.bool false), .eq (.bool false)] (by rw [sd.1]; kernel_rfl) ⟨fun hw ac u K => ?_, fun hw ac u K => ?_, fun hw ac u K => ?_, fun hw ac u K => ?_, trivial⟩ ?_
      · exact st_move (.tmp 0) rfl (K.t x0 rfl)
      · exact st_lenm (.tmp 15) rfl (fk_val (K.dep 0 15 rfl) (Fk.mono _ _ _ _ hv (bgo bl K.grow)))
      · exact st_leq 3 (.tmp 16) (.const (.int .i64 40)) rfl .i64 ((((ps).length : Nat) : Int)) (40) (K.dep 1 16 rfl) rfl _ (by rw [eq_comm, decide_eq_false_iff_not]; omega)
      · exact st_assign (.tmp 17) rfl (K.dep 2 17 rfl)
      intro f5 w5 A hb
      replace x0 := A.t x0 rfl
      replace x5 := A.t x5 rfl
      replace x6 := A.t x6 rfl
      replace x7 := A.t x7 rfl
      replace x8 := A.t x8 rfl
      have x2 := A.e 3 2 rfl rfl
      replace bl := bgo bl hb
      replace sd := A.sd sd
      clear A hb
      clear x8
      show Code.wp _ _ _ _ _
      refine wp_ret ?_
      repeat (first | with_reducible refine then_ret ?_ | with_reducible refine block_ret ?_)
      exact bodyPost_ret (v := .bool false) (ret_slot rfl f5 _ x2 _ _) sd.2 ⟨_, rfl, by rw [← hbf]; rfl, bl⟩
    have hbf : true = b := by rw [hb]; symm; rw [decide_eq_true_iff]; exact ⟨hall, h40⟩
    refine wr_a [.eq (v), .eq (.int .i64 (((ps).length : Nat) : Int)), .eq (.bool true), .eq (.bool true)] (by rw [sd.1]; kernel_rfl) ⟨fun hw ac u K => ?_, fun hw ac u K => ?_, fun hw ac u K => ?_, fun hw ac u K => ?_, trivial⟩ ?_
    · exact st_move (.tmp 0) rfl (K.t x0 rfl)
    · exact st_lenm (.tmp 15) rfl (fk_val (K.dep 0 15 rfl) (Fk.mono _ _ _ _ hv (bgo bl K.grow)))
    · exact st_leq 3 (.tmp 16) (.const (.int .i64 40)) rfl .i64 ((((ps).length : Nat) : Int)) (40) (K.dep 1 16 rfl) rfl _ (by rw [eq_comm, decide_eq_true_iff]; omega)
    · exact st_assign (.tmp 17) rfl (K.dep 2 17 rfl)
    intro f5 w5 A hb
    replace x0 := A.t x0 rfl
    replace x5 := A.t x5 rfl
    replace x6 := A.t x6 rfl
    replace x7 := A.t x7 rfl
    replace x8 := A.t x8 rfl
    have x2 := A.e 3 2 rfl rfl
    replace bl := bgo bl hb
    replace sd := A.sd sd
    clear A hb
    clear x8
    show Code.wp _ _ _ _ _
    refine wp_ret ?_
    repeat (first | with_reducible refine then_ret ?_ | with_reducible refine block_ret ?_)
    exact bodyPost_ret (v := .bool true) (ret_slot rfl f5 _ x2 _ _) sd.2 ⟨_, rfl, by rw [← hbf]; rfl, bl⟩
  obtain ⟨p, hpk⟩ : ∃ p, ps[k]? = some p := ⟨_, List.getElem?_eq_getElem hlt⟩
  have hslp : (Fk.sl p.bs).f (.slice p.sp p.m p.c) w := ⟨_, _, _, _, _, rfl, mg_ok hv hpk⟩
  refine wr_a [.eq (.bool true)] (by rw [sd.1]; kernel_rfl) ⟨fun hw ac u K => ?_, trivial⟩ ?_
  · exact st_lss 3 (.tmp 7) (.tmp 6) rfl .i64 ((k : Int)) ((((ps).length : Nat) : Int)) (K.t x7 rfl) (K.t x6 rfl) _ (by rw [eq_comm, decide_eq_true_iff]; exact Int.ofNat_lt.2 hlt)
  intro f4 w4 A hb
  replace x0 := A.t x0 rfl
  replace x5 := A.t x5 rfl
  replace x6 := A.t x6 rfl
  replace x7 := A.t x7 rfl
  have x8 := A.e 0 8 rfl rfl
  replace bl := bgo bl hb
  replace sd := A.sd sd
  clear A hb
  show Code.wp _ _ _ _ _
  refine wp_seq ?_
  refine wp_cond_true x8 ?_
  refine wp_skip ?_
  show Code.wp _ _ _ _ _
  refine wp_seq ?_
  refine wp_block ?_
  refine wp_seq ?_
  refine wr_a [.pv (.slice p.sp p.m p.c), .eq (.slice p.sp p.m p.c), .eq (.slice p.sp p.m p.c)] (by rw [sd.1]; kernel_rfl) ⟨fun hw ac u K => ?_, fun hw ac u K => ?_, fun hw ac u K => ?_, trivial⟩ ?_
  · exact st_idxm (.tmp 5) (.tmp 7) rfl (fk_val (K.t x5 rfl) (Fk.mono _ _ _ _ hv (bgo bl K.grow))) k p (K.t x7 rfl) hpk
  · exact st_loadsl (.tmp 9) rfl (K.dep 0 9 rfl)
  · exact st_assign (.tmp 10) rfl (K.dep 1 10 rfl)
  intro f5 w5 A hb
  replace x0 := A.t x0 rfl
  replace x5 := A.t x5 rfl
  replace x6 := A.t x6 rfl
  replace x7 := A.t x7 rfl
  replace x8 := A.t x8 rfl
  have x4 := A.e 2 4 rfl rfl
  replace bl := bgo bl hb
  replace sd := A.sd sd
  clear A hb
  clear x8
  show Code.wp _ _ _ _ _
  refine wp_seq ?_
  by_cases h200 : 200 < p.bs.length
  rotate_left
  · skip
    refine wr_a [.eq (.slice p.sp p.m p.c), .eq (.int .i64 (((p.bs).length : Nat) : Int)), .eq (.bool false)] (by rw [sd.1]; kernel_rfl) ⟨fun hw ac u K => ?_, fun hw ac u K => ?_, fun hw ac u K => ?_, trivial⟩ ?_
    · exact st_move (.tmp 4) rfl (K.t x4 rfl)
    · exact st_lenb (.tmp 11) rfl (fk_val (K.dep 0 11 rfl) (Fk.mono _ _ _ _ hslp (bgo bl K.grow)))
    · exact st_gtr 3 (.tmp 12) (.const (.int .i64 200)) rfl .i64 ((((p.bs).length : Nat) : Int)) (200) (K.dep 1 12 rfl) rfl _ (by rw [eq_comm, decide_eq_false_iff_not]; omega)
    intro f6 w6 A hb
    replace x0 := A.t x0 rfl
    replace x5 := A.t x5 rfl
    replace x6 := A.t x6 rfl
    replace x7 := A.t x7 rfl
    replace x4 := A.t x4 rfl
    have x13 := A.e 2 13 rfl rfl
    replace bl := bgo bl hb
    replace sd := A.sd sd
    clear A hb
    clear x4
    show Code.wp _ _ _ _ _
    refine wp_cond_false x13 ?_
    refine wp_skip ?_
    show Code.wp _ _ _ _ _
    refine wr_s [.eq (.int .i64 ((k + 1 : Nat) : Int))] (by rw [sd.1]; kernel_rfl) ⟨fun hw ac u K => ?_, trivial⟩ ?_
    · exact st_addz (.tmp 7) (.const (.int .i64 1)) rfl _ _ _ (K.t x7 rfl) rfl (by omega) (by omega) (by omega)
    intro f7 w7 A hb
    replace x0 := A.t x0 rfl
    replace x5 := A.t x5 rfl
    replace x6 := A.t x6 rfl
    replace x7 := A.t x7 rfl
    replace x13 := A.t x13 rfl
    have x14 := A.e 0 14 rfl rfl
    replace bl := bgo bl hb
    replace sd := A.sd sd
    clear A hb
    clear x13
    refine wl_one (.eq (.int .i64 ((k + 1 : Nat) : Int))) rfl 7 rfl (by rw [sd.1]; decide) (st_move (.tmp 14) rfl x14) ?_
    intro f8 w8 df2 sz2 old2 new2 hb
    replace x0 := tr old2 x0 rfl
    replace x5 := tr old2 x5 rfl
    replace x6 := tr old2 x6 rfl
    clear x7
    replace x14 := tr old2 x14 rfl
    have x7 := Fk.e new2
    replace bl := bgo bl hb
    replace sd := sd2 sz2 df2 sd
    clear df2 sz2 old2 new2 hb
    refine wpList_nil ?_
    clear x14
    show (∃ _, _) ∧ _
    refine ⟨⟨k + 1, by omega, (by rw [take_one hpk]; intro q hq; rcases List.mem_append.1 hq with hq | hq; exact hall q hq; obtain rfl := List.mem_singleton.1 hq; omega), sd.1, sd.2, x0, x5, x6, x7, bl⟩, ?_⟩
    rw [show f8.eval (.tmp 7) = _ from x7, show _ = _ from hcnt]
    first | (simp [intOf]; done) | (simp [intOf]; omega)
  have hbf : false = b := by rw [hb]; symm; rw [decide_eq_false_iff_not]; exact fun h => by have := pt_small h hpk; omega
  refine wr_a [.eq (.slice p.sp p.m p.c), .eq (.int .i64 (((p.bs).length : Nat) : Int)), .eq (.bool true)] (by rw [sd.1]; kernel_rfl) ⟨fun hw ac u K => ?_, fun hw ac u K => ?_, fun hw ac u K => ?_, trivial⟩ ?_
  · exact st_move (.tmp 4) rfl (K.t x4 rfl)
  · exact st_lenb (.tmp 11) rfl (fk_val (K.dep 0 11 rfl) (Fk.mono _ _ _ _ hslp (bgo bl K.grow)))
  · exact st_gtr 3 (.tmp 12) (.const (.int .i64 200)) rfl .i64 ((((p.bs).length : Nat) : Int)) (200) (K.dep 1 12 rfl) rfl _ (by rw [eq_comm, decide_eq_true_iff]; omega)
  intro f6 w6 A hb
  replace x0 := A.t x0 rfl
  replace x5 := A.t x5 rfl
  replace x6 := A.t x6 rfl
  replace x7 := A.t x7 rfl
  replace x4 := A.t x4 rfl
  have x13 := A.e 2 13 rfl rfl
  replace bl := bgo bl hb
  replace sd := A.sd sd
  clear A hb
  clear x4
  show Code.wp _ _ _ _ _
  refine wp_cond_true x13 ?_
  refine wp_seq ?_
  refine wr_a [.eq (.bool false)] (by rw [sd.1]; kernel_rfl) ⟨fun hw ac u K => ?_, trivial⟩ ?_
  · exact st_assign (.const (.bool false)) rfl rfl
  intro f7 w7 A hb
  replace x0 := A.t x0 rfl
  replace x5 := A.t x5 rfl
  replace x6 := A.t x6 rfl
  replace x7 := A.t x7 rfl
  replace x13 := A.t x13 rfl
  have x2 := A.e 0 2 rfl rfl
  replace bl := bgo bl hb
  replace sd := A.sd sd
  clear A hb
  clear x13
  show Code.wp _ _ _ _ _
  refine wp_ret ?_
  repeat (first | with_reducible refine then_ret ?_ | with_reducible refine block_ret ?_)
  exact bodyPost_ret (v := .bool false) (ret_slot rfl f7 _ x2 _ _) sd.2 ⟨_, rfl, by rw [← hbf]; rfl, bl⟩
theorem fk_hashes {ps : List Pt} (h40 : ps.length ≤ 1000) (hmx : ∀ p ∈ ps, p.bs.length ≤ 140737488351232) {w : World} {v : Value} (hv : (Fk.mg ps).f v w) (hK : Tab w) :
    Calls Tryd.prog 14 #[v] w fun e w' => ∃ u, e = .returned u ∧ (Fk.ow w.heap.size (lhs ps)).f u w' ∧ Below w.heap.size w w' := by
  go_enter Tryd.func14, Tryd.ntmps14
  refine code_both (fun f w1 => f.tmps.size = 19 ∧ f.defers = [] ∧ f.eval (.tmp 0) = v ∧ Below w.heap.size w (w1)) ⟨rfl, rfl, rfl, Below.refl _ _⟩ ?_
  rintro f0 w0 ⟨sz, df, x0, bl⟩
  have sd := And.intro sz df
  clear sz df
  have bl0 := bl
  refine wp_seq ?_
  refine wr_a [.eq (.slice none 0 0)] (by rw [sd.1]; kernel_rfl) ⟨fun hw ac u K => ?_, trivial⟩ ?_
  · exact st_assign (.const (.slice none 0 0)) rfl rfl
  intro f1 w1 A hb
  replace x0 := A.t x0 rfl
  replace bl := bgo bl hb
  replace sd := A.sd sd
  clear A hb
  show Code.wp _ _ _ _ _
  refine wp_seq ?_
  refine wr_a [.ow w.heap.size ([])] (by rw [sd.1]; kernel_rfl) ⟨fun hw ac u K => ?_, trivial⟩ ?_
  · exact st_assign (.const (.slice none 0 0)) rfl (ow_nil _ _)
  intro f2 w2 A hb
  replace x0 := A.t x0 rfl
  have x3 : Fk.f (.ow w.heap.size ([])) (f2.eval (.tmp 3)) w2 := A.has 0 3 rfl
  replace bl := bgo bl hb
  replace sd := A.sd sd
  clear A hb
  show Code.wp _ _ _ _ _
  refine wp_seq ?_
  refine wp_seq ?_
  refine wr_a [.eq (v), .eq (.int .i64 (((ps).length : Nat) : Int)), .eq (.int .i64 0)] (by rw [sd.1]; kernel_rfl) ⟨fun hw ac u K => ?_, fun hw ac u K => ?_, fun hw ac u K => ?_, trivial⟩ ?_
  · exact st_move (.tmp 0) rfl (K.t x0 rfl)
  · exact st_lenm (.tmp 6) rfl (fk_val (K.dep 0 6 rfl) (Fk.mono _ _ _ _ hv (bgo bl K.grow)))
  · exact st_move (.const (.int .i64 0)) rfl rfl
  intro f3 w3 A hb
  replace x0 := A.t x0 rfl
  replace x3 := f_at (A.old 3 rfl) (Fk.mono _ _ _ _ x3 hb)
  have x6 := A.e 0 6 rfl rfl
  have x7 := A.e 1 7 rfl rfl
  have x8 := A.e 2 8 rfl rfl
  replace bl := bgo bl hb
  replace sd := A.sd sd
  clear A hb
  clear x0
  show Code.wp _ _ _ _ _
  refine wp_block ?_
  refine wp_loop (fun f v1 => ∃ k : Nat, k ≤ (ps).length ∧ f.tmps.size = 19 ∧ f.defers = [] ∧ f.eval (.tmp 6) = v ∧ f.eval (.tmp 7) = .int .i64 (((ps).length : Nat) : Int) ∧ f.eval (.tmp 8) = .int .i64 (k : Int) ∧ Fk.f (.ow w.heap.size ((lhs ps).take k)) (f.eval (.tmp 3)) v1 ∧ Below w.heap.size w (v1)) (fun f _ => (ps).length - (intOf (f.eval (.tmp 8))).toNat) ⟨0, Nat.zero_le _, sd.1, sd.2, x6, x7, x8, (by rw [List.take_zero]; exact x3), bl⟩ ?_
  intro f4 w4 hI
  clear sd bl bl0 x3 x6 x7 x8
  obtain ⟨k, hk8, sz, df, x6, x7, x8, x3, bl⟩ := hI
  have sd := And.intro sz df
  clear sz df
  have bl0 := bl
  have hcnt := x8
  refine wp_seq ?_
  by_cases hlt : k < (ps).length
  rotate_left
  · skip
    rw [List.take_of_length_le (by rw [lhs_len]; omega)] at x3
    refine wr_a [.eq (.bool false)] (by rw [sd.1]; kernel_rfl) ⟨fun hw ac u K => ?_, trivial⟩ ?_
    · exact st_lss 3 (.tmp 8) (.tmp 7) rfl .i64 ((k : Int)) ((((ps).length : Nat) : Int)) (K.t x8 rfl) (K.t x7 rfl) _ (by rw [eq_comm, decide_eq_false_iff_not]; exact fun h => hlt (Int.ofNat_lt.1 h))
    intro f5 w5 A hb
    replace x3 := f_at (A.old 3 rfl) (Fk.mono _ _ _ _ x3 hb)
    replace x6 := A.t x6 rfl
    replace x7 := A.t x7 rfl
    replace x8 := A.t x8 rfl
    have x9 := A.e 0 9 rfl rfl
    replace bl := bgo bl hb
    replace sd := A.sd sd
    clear A hb
    show Code.wp _ _ _ _ _
    refine wp_seq ?_
    refine wp_cond_false x9 ?_
    refine wp_exit ?_
    show Code.wp _ _ _ _ _
    refine wp_seq ?_
    refine wr_a [.ow w.heap.size (lhs ps), .ow w.heap.size (lhs ps)] (by rw [sd.1]; kernel_rfl) ⟨fun hw ac u K => ?_, fun hw ac u K => ?_, trivial⟩ ?_
    · exact st_move (.tmp 3) rfl (f_at (K.old 3 rfl) (Fk.mono _ _ _ _ x3 K.grow))
    · exact st_assign (.tmp 18) rfl (K.dep 0 18 rfl)
    intro f6 w6 A hb
    replace x3 := f_at (A.old 3 rfl) (Fk.mono _ _ _ _ x3 hb)
    replace x6 := A.t x6 rfl
    replace x7 := A.t x7 rfl
    replace x8 := A.t x8 rfl
    replace x9 := A.t x9 rfl
    have x2 : Fk.f (.ow w.heap.size (lhs ps)) (f6.eval (.tmp 2)) w6 := A.has 1 2 rfl
    replace bl := bgo bl hb
    replace sd := A.sd sd
    clear A hb
    clear x9
    show Code.wp _ _ _ _ _
    refine wp_ret ?_
    repeat (first | with_reducible refine then_ret ?_ | with_reducible refine block_ret ?_)
    exact bodyPost_ret (v := f6.eval (.tmp 2)) (ret_slot rfl f6 _ rfl _ _) sd.2 ⟨_, rfl, x2, bl⟩
  obtain ⟨p, hpk⟩ : ∃ p, ps[k]? = some p := ⟨_, List.getElem?_eq_getElem hlt⟩
  have hslp : (Fk.sl p.bs).f (.slice p.sp p.m p.c) w := ⟨_, _, _, _, _, rfl, mg_ok hv hpk⟩
  have hpl := hmx p (List.mem_of_getElem? hpk)
  obtain ⟨y, ey⟩ : ∃ y, Box (lf p.bs = y) := ⟨_, ⟨rfl⟩⟩
  have hy : y.length = 32 := by rw [← ey.out]; exact lf_len _
  refine wr_a [.eq (.bool true)] (by rw [sd.1]; kernel_rfl) ⟨fun hw ac u K => ?_, trivial⟩ ?_
  · exact st_lss 3 (.tmp 8) (.tmp 7) rfl .i64 ((k : Int)) ((((ps).length : Nat) : Int)) (K.t x8 rfl) (K.t x7 rfl) _ (by rw [eq_comm, decide_eq_true_iff]; exact Int.ofNat_lt.2 hlt)
  intro f5 w5 A hb
  replace x3 := f_at (A.old 3 rfl) (Fk.mono _ _ _ _ x3 hb)
  replace x6 := A.t x6 rfl
  replace x7 := A.t x7 rfl
  replace x8 := A.t x8 rfl
  have x9 := A.e 0 9 rfl rfl
  replace bl := bgo bl hb
  replace sd := A.sd sd
  clear A hb
  show Code.wp _ _ _ _ _
  refine wp_seq ?_
  refine wp_cond_true x9 ?_
  refine wp_skip ?_
  show Code.wp _ _ _ _ _
  refine wp_seq ?_
  refine wp_block ?_
  refine wp_seq ?_
  refine wr_a [.pv (.slice p.sp p.m p.c), .eq (.slice p.sp p.m p.c), .eq (.slice p.sp p.m p.c)] (by rw [sd.1]; kernel_rfl) ⟨fun hw ac u K => ?_, fun hw ac u K => ?_, fun hw ac u K => ?_, trivial⟩ ?_
  · exact st_idxm (.tmp 6) (.tmp 8) rfl (fk_val (K.t x6 rfl) (Fk.mono _ _ _ _ hv (bgo bl K.grow))) k p (K.t x8 rfl) hpk
  · exact st_loadsl (.tmp 10) rfl (K.dep 0 10 rfl)
  · exact st_assign (.tmp 11) rfl (K.dep 1 11 rfl)
  intro f6 w6 A hb
  replace x3 := f_at (A.old 3 rfl) (Fk.mono _ _ _ _ x3 hb)
  replace x6 := A.t x6 rfl
  replace x7 := A.t x7 rfl
  replace x8 := A.t x8 rfl
  replace x9 := A.t x9 rfl
  have x5 := A.e 2 5 rfl rfl
  replace bl := bgo bl hb
  replace sd := A.sd sd
  clear A hb
  clear x9
  show Code.wp _ _ _ _ _
  refine wr_s [.ow w.heap.size ((lhs ps).take k), .eq (.slice p.sp p.m p.c), .eq (.agg ((y).map V).toArray), .hs ([y])] (by rw [sd.1]; kernel_rfl) ⟨fun hw ac u K => ?_, fun hw ac u K => ?_, fun hw ac u K => ?_, fun hw ac u K => ?_, trivial⟩ ?_
  · exact st_move (.tmp 3) rfl (f_at (K.old 3 rfl) (Fk.mono _ _ _ _ x3 K.grow))
  · exact st_move (.tmp 5) rfl (K.t x5 rfl)
  · exact st_call 18 (.func 18) _ _ _ rfl rfl (one_arg (K.dep 1 13 rfl)) Tryd.enter18 (fk_leaf hpl (hK.below (bgo bl K.grow)) (Fk.mono _ _ _ _ hslp (bgo bl K.grow)) ey)
  · exact st_bh1 (.tmp 14) rfl hy (K.dep 2 14 rfl)
  intro f7 w7 A hb
  replace bl0 := bl
  replace x3 := f_at (A.old 3 rfl) (Fk.mono _ _ _ _ x3 hb)
  replace x6 := A.t x6 rfl
  replace x7 := A.t x7 rfl
  replace x8 := A.t x8 rfl
  replace x5 := A.t x5 rfl
  have x12 : Fk.f (.ow w.heap.size ((lhs ps).take k)) (f7.eval (.tmp 12)) w7 := A.has 0 12 rfl
  have x15 : Fk.f (.hs ([y])) (f7.eval (.tmp 15)) w7 := A.has 3 15 rfl
  replace bl := bgo bl hb
  replace sd := A.sd sd
  clear A hb
  clear x5
  refine wl_append rfl (.tmp 12) (.tmp 15) rfl 16 rfl (by rw [sd.1]; decide) x12 x15 bl (by rw [List.length_take, lhs_len]; omega) ?_
  intro f8 w8 df2 sz2 old2 new2 bl2
  clear x3
  clear x12
  clear x15
  replace x6 := tr old2 x6 rfl
  replace x7 := tr old2 x7 rfl
  replace x8 := tr old2 x8 rfl
  have x16 : Fk.f (.ow w.heap.size ((lhs ps).take k ++ [y])) (f8.eval (.tmp 16)) w8 := new2
  replace bl := bl2
  replace bl0 := bl
  replace sd := sd2 sz2 df2 sd
  clear df2 sz2 old2 new2 bl2
  refine wl_one (.ow w.heap.size ((lhs ps).take k ++ [y])) rfl 3 rfl (by rw [sd.1]; decide) (st_assign (.tmp 16) rfl x16) ?_
  intro f9 w9 df2 sz2 old2 new2 hb
  replace x6 := tr old2 x6 rfl
  replace x7 := tr old2 x7 rfl
  replace x8 := tr old2 x8 rfl
  replace x16 := f_at (old2 16 rfl) (Fk.mono _ _ _ _ x16 hb)
  have x3 : Fk.f (.ow w.heap.size ((lhs ps).take k ++ [y])) (f9.eval (.tmp 3)) w9 := new2
  replace bl := bgo bl hb
  replace sd := sd2 sz2 df2 sd
  clear df2 sz2 old2 new2 hb
  refine wpList_nil ?_
  clear x16
  show Code.wp _ _ _ _ _
  refine wr_s [.eq (.int .i64 ((k + 1 : Nat) : Int))] (by rw [sd.1]; kernel_rfl) ⟨fun hw ac u K => ?_, trivial⟩ ?_
  · exact st_add (.tmp 8) (.const (.int .i64 1)) rfl (k) (1) (k + 1) (K.t x8 rfl) rfl (by omega) (by omega)
  intro f10 w10 A hb
  replace x6 := A.t x6 rfl
  replace x7 := A.t x7 rfl
  replace x8 := A.t x8 rfl
  replace x3 := f_at (A.old 3 rfl) (Fk.mono _ _ _ _ x3 hb)
  have x17 := A.e 0 17 rfl rfl
  replace bl := bgo bl hb
  replace sd := A.sd sd
  clear A hb
  refine wl_one (.eq (.int .i64 ((k + 1 : Nat) : Int))) rfl 8 rfl (by rw [sd.1]; decide) (st_move (.tmp 17) rfl x17) ?_
  intro f11 w11 df2 sz2 old2 new2 hb
  replace x6 := tr old2 x6 rfl
  replace x7 := tr old2 x7 rfl
  clear x8
  replace x3 := f_at (old2 3 rfl) (Fk.mono _ _ _ _ x3 hb)
  replace x17 := tr old2 x17 rfl
  have x8 := Fk.e new2
  replace bl := bgo bl hb
  replace sd := sd2 sz2 df2 sd
  clear df2 sz2 old2 new2 hb
  refine wpList_nil ?_
  clear x17
  show (∃ _, _) ∧ _
  replace x3 : Fk.f (.ow w.heap.size ((lhs ps).take (k + 1))) (f11.eval (.tmp 3)) w11 := (by rw [take_one (lhs_at hpk), ey.out]; exact x3)
  refine ⟨⟨k + 1, by omega, sd.1, sd.2, x6, x7, x8, x3, bl⟩, ?_⟩
  rw [show f11.eval (.tmp 8) = _ from x8, show _ = _ from hcnt]
  first | (simp [intOf]; done) | (simp [intOf]; omega)
theorem st_stra {Q : Exit → Act → World → Prop} {o : Oper} {a : Act} {w : World} (x : Operand) (ho : o.op = .convert 22 9 x) {bs : List (BitVec 8)} (h : (Fk.sl bs).f (a.eval x) w) : o.wp Tryd.prog a w (Ends a o.dst w (Fk.eq (.string (str bs))).f) Q := by
  by_cases hne : 0 < bs.length
  · exact st_str x ho hne h
  · have hb0 : bs = [] := List.eq_nil_of_length_eq_zero (by omega)
    subst hb0
    obtain ⟨sp, m, c, b, so, e, hs⟩ := h
    refine st_pure (v := .string (str [])) ?_ rfl
    have hm : m = 0 := hs.len
    subst hm
    have hr : (convert 22 9 (.slice sp 0 c)).run Tryd.prog w = .ok (.string (str [])) w := by
      cases sp with
      | none => exact run_convert_bytes_nil (P := Tryd.prog) w 22 5 Tryd.under22 Tryd.under5 0 c 9 Tryd.under9
      | some A =>
        rw [run_convert_bytes_string w 22 9 5 (some A) 0 c Tryd.under22 Tryd.under5 Tryd.under9, run_bytesToString w A 0 c [] (by rfl)]
        rfl
    unfold execOp
    rw [ho]
    simp [e, hr]
end Go.Proofs.YtfmeeimhfdnjpaaDoor
namespace Go.Proofs.YtfmeeimhfdnjpaaDoor
set_option maxRecDepth 100000
open Go.RowKit
theorem arg5 {a : Act} {x y z p q : Operand} {u v t s r : Value} (h : a.eval x = u) (h2 : a.eval y = v) (h3 : a.eval z = t) (h4 : a.eval p = s) (h5 : a.eval q = r) : ((#[x, y, z, p, q].toList.map a.eval).toArray : Array Value) = #[u, v, t, s, r] := by rw [← h, ← h2, ← h3, ← h4, ← h5]; rfl
/-- Bools in cells. -/
def bvs (ds : List Bool) : List Value := ds.map fun b => .bool b
theorem bvs_append (a b : List Bool) : bvs (a ++ b) = bvs a ++ bvs b := List.map_append
theorem bvs_one (ds : List Bool) : ∀ u ∈ bvs ds, u.oneCell' = true := by
  intro u hu
  obtain ⟨z, _, rfl⟩ := List.mem_map.1 hu
  rfl
theorem bvs_at {ds : List Bool} {i : Nat} {z : Bool} (h : ds[i]? = some z) : ∀ (j : Nat) (v : Value), ([.bool z] : List Value)[j]? = some v → (bvs ds)[i * 1 + j]? = some v := by
  intro j v hj
  cases j with
  | zero =>
    obtain rfl : Value.bool z = v := by simpa using hj
    simp [bvs, h]
  | succ j => simp at hj
/-- Bools of the call's own; to be read. -/
def Fk.ob (base : Nat) (ds : List Bool) : Fk := Fk.orw base 4 1 ds.length (bvs ds)
def Fk.bs (ds : List Bool) : Fk := Fk.rdw 1 ds.length (bvs ds)
theorem Tryd.under81z : Tryd.prog.underlying 81 = some (.slice 4) := by kernel_rfl
theorem Tryd.elem81z : Tryd.prog.elem 81 = 4 := by kernel_rfl
theorem Tryd.info4z : (Tryd.prog.info? 4).map (fun i => (i.zero, i.size, i.bytes)) = some (some (.bool false), 1, 1) := by kernel_rfl
theorem Tryd.size4z (w : World) : (sizeOf 4).run Tryd.prog w = .ok 1 w := by kernel_rfl
theorem Tryd.bld4z (z : Bool) (w : World) : (Instr.buildSlice 81 1 #[(0, .bool z)]).run Tryd.prog w = .ok (.slice (some ⟨w.heap.size, 0, none⟩) 1 1) (w.alloc (.cells (bvs [z]).toArray 4)) := by kernel_rfl
theorem ob_bs {base : Nat} {ds : List Bool} {v : Value} {w : World} (h : (Fk.ob base ds).f v w) : (Fk.bs ds).f v w := orw_rdw h
theorem ob_nil (base : Nat) (w : World) : (Fk.ob base []).f (.slice none 0 0) w := orw_nil _ _ _ _
section
variable {Q : Exit → Act → World → Prop} {o : Oper} {a : Act} {w : World} {ops : Array Oper} {rest : List Oper}
theorem wl_appendo (hgd : o.guard = none) (s x : Operand) (ho : o.op = .call { callee := .builtin .append, args := #[s, x], argTypes := #[81, 81] }) (d : Nat) (hd : o.dst = some d) (hsz : d < a.tmps.size)
    {wL : World} {b : Nat} {cs ds : List Bool} (hs1 : (Fk.ob wL.heap.size cs).f (a.eval s) w) (hx : (Fk.ob b ds).f (a.eval x) w) (hm : 1 ≤ ds.length) (hL : Below wL.heap.size wL w) (hN : cs.length + ds.length ≤ 100000)
    (h : ∀ a2 w2, a2.defers = a.defers → a2.tmps.size = a.tmps.size → (∀ t, (t == d) = false → a2.eval (.tmp t) = a.eval (.tmp t)) → (Fk.ob wL.heap.size (cs ++ ds)).f (a2.eval (.tmp d)) w2 → Below wL.heap.size wL w2 → wpList Tryd.prog ops Q rest a2 w2) : wpList Tryd.prog ops Q (o :: rest) a w :=
  wl_appr 81 4 1 1 Tryd.under81z Tryd.info4z rfl (by decide) hgd s x ho d hd hsz hs1 hx hm (bvs_one ds) hL hN (by decide) (fun a2 w2 h1 h2 h3 h4 h5 => h a2 w2 h1 h2 h3 (by unfold Fk.ob; rw [List.length_append, bvs_append]; exact h4) h5)
theorem st_lenbs (x : Operand) (ho : o.op = .call { callee := .builtin .len, args := #[x], argTypes := #[81] }) {ds : List Bool} (h : (Fk.bs ds).f (a.eval x) w) : o.wp Tryd.prog a w (Ends a o.dst w (Fk.eq (.int .i64 ((ds.length : Nat) : Int))).f) Q := st_lenr 81 4 Tryd.under81z Tryd.elem81z x ho h
theorem st_idxbs (x y : Operand) (ho : o.op = .indexAddr 81 x y) {ds : List Bool} (h : (Fk.bs ds).f (a.eval x) w) (i : Nat) (hy : a.eval y = .int .i64 (i : Int)) (z : Bool) (hi : ds[i]? = some z) : o.wp Tryd.prog a w (Ends a o.dst w (Fk.prg [.bool z]).f) Q :=
  st_idxr2 81 4 Tryd.under81z Tryd.elem81z Tryd.size4z x y ho h i hy (List.getElem?_eq_some_iff.1 hi).1 _ (bvs_at hi)
theorem st_bo1b (x : Operand) (ho : o.op = .buildSlice 81 1 #[(0, x)]) (z : Bool) (hx : a.eval x = .bool z) (g0 : Nat) (hg : g0 ≤ w.heap.size) : o.wp Tryd.prog a w (Ends a o.dst w (Fk.ob g0 [z]).f) Q := st_bldr 81 4 1 x ho _ hx (Tryd.bld4z z) rfl g0 hg
end
end Go.Proofs.YtfmeeimhfdnjpaaDoor
namespace Go.Proofs.YtfmeeimhfdnjpaaDoor
set_option maxRecDepth 100000
/-- Of the leaf i of n, from it up: does the hash beside stand on the left? -/
def sds (i n : Nat) : List Bool :=
  if _h : n ≤ 1 then []
  else if i < spl n then sds i (spl n) ++ [false] else sds (i - spl n) (n - spl n) ++ [true]
  termination_by n
  decreasing_by
    · exact spl_lt (by omega)
    · have := spl_pos n
      omega
theorem sds_one {n : Nat} (h : n ≤ 1) (i : Nat) : sds i n = [] := by rw [sds, dif_pos h]
theorem sds_left {i n : Nat} (h : 2 ≤ n) (hi : i < spl n) : sds i n = sds i (spl n) ++ [false] := by rw [sds, dif_neg (by omega), if_pos hi]
theorem sds_right {i n : Nat} (h : 2 ≤ n) (hi : ¬ i < spl n) : sds i n = sds (i - spl n) (n - spl n) ++ [true] := by rw [sds, dif_neg (by omega), if_neg hi]
/-- A hash, and the next one, on its left or right. -/
def jon (h : List (BitVec 8)) (p : List (BitVec 8) × Bool) : List (BitVec 8) := if p.2 then nd p.1 h else nd h p.1
/-- Where a path leads. -/
def ldt (leaf : List (BitVec 8)) (P : List (List (BitVec 8))) (S : List Bool) : List (BitVec 8) := (P.zip S).foldl jon leaf
theorem ldt_nil (leaf : List (BitVec 8)) : ldt leaf [] [] = leaf := rfl
theorem ldt_snoc (leaf : List (BitVec 8)) {P : List (List (BitVec 8))} {S : List Bool} (h : P.length = S.length) (x : List (BitVec 8)) (b : Bool) : ldt leaf (P ++ [x]) (S ++ [b]) = jon (ldt leaf P S) (x, b) := by
  unfold ldt
  rw [List.zip_append h, List.foldl_append]
  rfl
theorem sds_len (n : Nat) : ∀ i, (sds i n).length ≤ n := by
  induction n using Nat.strongRecOn with
  | ind n ih =>
    intro i
    by_cases h1 : n ≤ 1
    · rw [sds_one h1]; exact Nat.zero_le _
    · have hs := spl_lt (n := n) (by omega)
      have hp := spl_pos n
      by_cases hi : i < spl n
      · have := ih (spl n) hs i
        rw [sds_left (by omega) hi, List.length_append, List.length_singleton]; omega
      · have := ih (n - spl n) (by omega) (i - spl n)
        rw [sds_right (by omega) hi, List.length_append, List.length_singleton]; omega
/-- No more than 61 of them up to 2^60. -/
theorem sds_log (n : Nat) : ∀ i j, n ≤ 2 ^ j → (sds i n).length ≤ j := by
  induction n using Nat.strongRecOn with
  | ind n ih =>
    intro i j hj
    by_cases h1 : n ≤ 1
    · rw [sds_one h1]; exact Nat.zero_le _
    · have hs := spl_lt (n := n) (by omega)
      have hp := spl_pos n
      have hg := spl_ge (n := n) (by omega)
      cases j with
      | zero => simp at hj; omega
      | succ j =>
        have hk : spl n ≤ 2 ^ j := by
          unfold spl
          apply Nat.pow_le_pow_right (by decide)
          have : Nat.log2 (n - 1) < j + 1 := (Nat.log2_lt (by omega)).2 (by omega)
          omega
        by_cases hi : i < spl n
        · have := ih (spl n) hs i j hk
          rw [sds_left (by omega) hi, List.length_append, List.length_singleton]; omega
        · have := ih (n - spl n) (by omega) (i - spl n) j (by rw [Nat.pow_succ] at hj; omega)
          rw [sds_right (by omega) hi, List.length_append, List.length_singleton]; omega
theorem path_sides (n : Nat) : ∀ (l : List (List (BitVec 8))) (i : Nat), l.length = n → i < n → (mpath l i).length = (sds i n).length ∧ ∀ x, l[i]? = some x → ldt x (mpath l i) (sds i n) = mroot l := by
  induction n using Nat.strongRecOn with
  | ind n ih =>
    intro l i hl hi
    by_cases h1 : n ≤ 1
    · rw [mpath_one (by omega), sds_one h1]
      refine ⟨rfl, fun x hx => ?_⟩
      match l, hl with
      | [y], _ =>
        obtain rfl : i = 0 := by omega
        obtain rfl : y = x := by simpa using hx
        rw [ldt_nil, mroot_one]
      | [], hl => exact absurd hl (by simp; omega)
      | a :: b :: r, hl => exact absurd hl (by simp; omega)
    · have h2 : 2 ≤ l.length := by omega
      have hs := spl_lt (n := n) (by omega)
      have hp := spl_pos n
      by_cases hk : i < spl n
      · obtain ⟨e1, e2⟩ := ih (spl n) hs (l.take (spl n)) i (by rw [List.length_take]; omega) hk
        rw [mpath_left h2 (by rw [hl]; exact hk), sds_left (by omega) hk, hl]
        refine ⟨by rw [List.length_append, List.length_append, e1, List.length_singleton, List.length_singleton], fun x hx => ?_⟩
        rw [ldt_snoc _ e1, e2 x (by rw [List.getElem?_take, if_pos hk]; exact hx), mroot_two h2, hl]
        rfl
      · obtain ⟨e1, e2⟩ := ih (n - spl n) (by omega) (l.drop (spl n)) (i - spl n) (by rw [List.length_drop]; omega) (by omega)
        rw [mpath_right h2 (by rw [hl]; exact hk), sds_right (by omega) hk, hl]
        refine ⟨by rw [List.length_append, List.length_append, e1, List.length_singleton, List.length_singleton], fun x hx => ?_⟩
        rw [ldt_snoc _ e1, e2 x (by rw [List.getElem?_drop, show spl n + (i - spl n) = i by omega]; exact hx), mroot_two h2, hl]
        rfl
/-- Of a proof from m to n: does it begin with a hash of its own; then, step by step, does the next hash stand on the left of both roots? -/
def stp (m n : Nat) (whole : Bool) : Bool × List Bool :=
  if m = n then (!whole, [])
  else if _h : n ≤ 1 then (!whole, [])
  else if m ≤ spl n then ((stp m (spl n) whole).1, (stp m (spl n) whole).2 ++ [false])
  else ((stp (m - spl n) (n - spl n) false).1, (stp (m - spl n) (n - spl n) false).2 ++ [true])
  termination_by n
  decreasing_by
    all_goals first | exact spl_lt (by omega) | (have := spl_pos n; omega)
theorem stp_same (n : Nat) (w : Bool) : stp n n w = (!w, []) := by rw [stp, if_pos rfl]
theorem stp_left {m n : Nat} {w : Bool} (h : 2 ≤ n) (hm : m ≠ n) (hk : m ≤ spl n) : stp m n w = ((stp m (spl n) w).1, (stp m (spl n) w).2 ++ [false]) := by rw [stp, if_neg hm, dif_neg (by omega), if_pos hk]
theorem stp_right {m n : Nat} {w : Bool} (h : 2 ≤ n) (hm : m ≠ n) (hk : ¬ m ≤ spl n) : stp m n w = ((stp (m - spl n) (n - spl n) false).1, (stp (m - spl n) (n - spl n) false).2 ++ [true]) := by rw [stp, if_neg hm, dif_neg (by omega), if_neg hk]
/-- One step of both roots. -/
def bst (ab : List (BitVec 8) × List (BitVec 8)) (p : List (BitVec 8) × Bool) : List (BitVec 8) × List (BitVec 8) := (if p.2 then nd p.1 ab.1 else ab.1, jon ab.2 p)
/-- Where the hashes of a proof lead, from two roots that are one. -/
def bth (a : List (BitVec 8)) (P : List (List (BitVec 8))) (S : List Bool) : List (BitVec 8) × List (BitVec 8) := (P.zip S).foldl bst (a, a)
theorem bth_nil (a : List (BitVec 8)) : bth a [] [] = (a, a) := rfl
theorem bth_snoc (a : List (BitVec 8)) {P : List (List (BitVec 8))} {S : List Bool} (h : P.length = S.length) (x : List (BitVec 8)) (b : Bool) : bth a (P ++ [x]) (S ++ [b]) = bst (bth a P S) (x, b) := by
  unfold bth
  rw [List.zip_append h, List.foldl_append]
  rfl
theorem stp_false (n : Nat) : ∀ m, (stp m n false).1 = true := by
  induction n using Nat.strongRecOn with
  | ind n ih =>
    intro m
    by_cases hm : m = n
    · subst hm; rw [stp_same]; rfl
    · by_cases h1 : n ≤ 1
      · rw [stp, if_neg hm, dif_pos h1]; rfl
      · have hs := spl_lt (n := n) (by omega)
        have hp := spl_pos n
        by_cases hk : m ≤ spl n
        · rw [stp_left (by omega) hm hk]; exact ih _ hs _
        · rw [stp_right (by omega) hm hk]; exact ih _ (by omega) _
theorem spl_between {n m : Nat} (h : 2 ≤ n) (h1 : spl n < m) (h2 : m ≤ n) : spl m = spl n := by
  have hg := spl_ge h
  unfold spl at h1 hg ⊢
  have := spl_one (n := m) (j := Nat.log2 (n - 1)) h1 (by omega)
  unfold spl at this
  exact this
/-- What layer 7 tells leads to both roots: from a hash of its own, if there is one, else from the first one. -/
theorem sub_steps (n : Nat) : ∀ (l : List (List (BitVec 8))) (m : Nat) (w : Bool), l.length = n → 1 ≤ m → m ≤ n →
    ∃ y Q, ((stp m n w).1 = true → msub l m w = y :: Q) ∧ ((stp m n w).1 = false → y = mroot (l.take m) ∧ msub l m w = Q) ∧ Q.length = (stp m n w).2.length ∧ bth y Q (stp m n w).2 = (mroot (l.take m), mroot l) := by
  induction n using Nat.strongRecOn with
  | ind n ih =>
    intro l m w hl hm1 hmn
    by_cases hm : m = n
    · subst hm
      have e1 := msub_all l
      have e2 := msub_part l
      have ht : l.take m = l := List.take_of_length_le (by omega)
      rw [hl] at e1 e2
      rw [stp_same, ht]
      cases w
      · exact ⟨mroot l, [], fun _ => e2, fun h => by simp at h, rfl, rfl⟩
      · exact ⟨mroot l, [], fun h => by simp at h, fun _ => ⟨rfl, e1⟩, rfl, rfl⟩
    · have h2 : 2 ≤ n := by omega
      have hs := spl_lt h2
      have hp := spl_pos n
      have hll : 2 ≤ l.length := by omega
      by_cases hk : m ≤ spl n
      · obtain ⟨y, Q, q1, q2, q3, q4⟩ := ih (spl n) hs (l.take (spl n)) m w (by rw [List.length_take]; omega) hm1 hk
        rw [List.take_take, Nat.min_eq_left hk] at q2 q4
        have em := msub_left (b := w) hll (show m ≠ l.length by omega) (by rw [hl]; exact hk)
        rw [hl] at em
        rw [stp_left h2 hm hk]
        refine ⟨y, Q ++ [mroot (l.drop (spl n))], fun h => by rw [em, q1 h]; rfl, fun h => ⟨(q2 h).1, by rw [em, (q2 h).2]⟩, by rw [List.length_append, List.length_append, q3]; rfl, ?_⟩
        rw [bth_snoc _ q3, q4, mroot_two hll, hl]
        rfl
      · obtain ⟨y, Q, q1, _, q3, q4⟩ := ih (n - spl n) (by omega) (l.drop (spl n)) (m - spl n) false (by rw [List.length_drop]; omega) (by omega) (by omega)
        have q1 := q1 (stp_false _ _)
        have em := msub_right (b := w) hll (show m ≠ l.length by omega) (by rw [hl]; exact hk)
        rw [hl] at em
        rw [stp_right h2 hm hk]
        refine ⟨y, Q ++ [mroot (l.take (spl n))], fun _ => by rw [em, q1]; rfl, fun h => ?_, by rw [List.length_append, List.length_append, q3]; rfl, ?_⟩
        · rw [stp_false] at h; cases h
        · rw [bth_snoc _ q3, q4]
          have e1 : mroot (l.take m) = nd (mroot (l.take (spl n))) (mroot ((l.drop (spl n)).take (m - spl n))) := by
            have hlm : (l.take m).length = m := by rw [List.length_take]; omega
            rw [mroot_two (l := l.take m) (by rw [hlm]; omega), hlm, spl_between h2 (by omega) hmn, List.take_take, Nat.min_eq_left (by omega), List.drop_take]
          rw [e1, mroot_two hll, hl]
          rfl
end Go.Proofs.YtfmeeimhfdnjpaaDoor
namespace Go.Proofs.YtfmeeimhfdnjpaaDoor
set_option maxRecDepth 100000
open Go.RowKit
theorem jon_len (h : List (BitVec 8)) (p : List (BitVec 8) × Bool) : (jon h p).length = 32 := by unfold jon; split <;> exact nd_len _ _
/-- No more than j steps up to 2^j. -/
theorem stp_log (n : Nat) : ∀ m b j, n ≤ 2 ^ j → (stp m n b).2.length ≤ j := by
  induction n using Nat.strongRecOn with
  | ind n ih =>
    intro m b j hj
    by_cases hm : m = n
    · subst hm; rw [stp_same]; exact Nat.zero_le _
    · by_cases h1 : n ≤ 1
      · rw [stp, if_neg hm, dif_pos h1]; exact Nat.zero_le _
      · have hs := spl_lt (n := n) (by omega)
        have hp := spl_pos n
        have hg := spl_ge (n := n) (by omega)
        cases j with
        | zero => simp at hj; omega
        | succ j =>
          have hk : spl n ≤ 2 ^ j := by
            unfold spl
            apply Nat.pow_le_pow_right (by decide)
            have : Nat.log2 (n - 1) < j + 1 := (Nat.log2_lt (by omega)).2 (by omega)
            omega
          by_cases hi : m ≤ spl n
          · have := ih (spl n) hs m b j hk
            rw [stp_left (by omega) hm hi]
            simp only [List.length_append, List.length_singleton]
            omega
          · have := ih (n - spl n) (by omega) (m - spl n) false j (by rw [Nat.pow_succ] at hj; omega)
            rw [stp_right (by omega) hm hi]
            simp only [List.length_append, List.length_singleton]
            omega
end Go.Proofs.YtfmeeimhfdnjpaaDoor
namespace Go.Proofs.YtfmeeimhfdnjpaaDoor
set_option maxRecDepth 100000
open Go.RowKit
/-- Both roots behind k steps. -/
def bk (a : List (BitVec 8)) (R : List (List (BitVec 8))) (S : List Bool) (k : Nat) : List (BitVec 8) × List (BitVec 8) := ((R.zip S).take k).foldl bst (a, a)
theorem bk_zero (a : List (BitVec 8)) (R : List (List (BitVec 8))) (S : List Bool) : bk a R S 0 = (a, a) := rfl
theorem bk_succ (a : List (BitVec 8)) {R : List (List (BitVec 8))} {S : List Bool} {k : Nat} {p : List (BitVec 8)} {b : Bool} (hp : R[k]? = some p) (hb : S[k]? = some b) : bk a R S (k + 1) = bst (bk a R S k) (p, b) := by
  unfold bk
  have : (R.zip S)[k]? = some (p, b) := by rw [List.getElem?_zip_eq_some]; exact ⟨hp, hb⟩
  rw [List.take_add_one, this, List.foldl_append]
  rfl
theorem bst_t (ab : List (BitVec 8) × List (BitVec 8)) (p : List (BitVec 8)) : (bst ab (p, true)).1 = nd p ab.1 := by simp [bst]
theorem bst_f (ab : List (BitVec 8) × List (BitVec 8)) (p : List (BitVec 8)) : (bst ab (p, false)).1 = ab.1 := by simp [bst]
theorem bst_2 (ab : List (BitVec 8) × List (BitVec 8)) (p : List (BitVec 8)) (b : Bool) : (bst ab (p, b)).2 = jon ab.2 (p, b) := by simp [bst]
theorem bk_all (a : List (BitVec 8)) {R : List (List (BitVec 8))} {S : List Bool} (h : R.length = S.length) : bk a R S S.length = bth a R S := by
  unfold bk bth
  rw [List.take_of_length_le (by rw [List.length_zip]; omega)]
theorem bk_len {a : List (BitVec 8)} (ha : a.length = 32) (R : List (List (BitVec 8))) (S : List Bool) (k : Nat) : (bk a R S k).1.length = 32 ∧ (bk a R S k).2.length = 32 := by
  unfold bk
  generalize (R.zip S).take k = l
  suffices H : ∀ (l : List (List (BitVec 8) × Bool)) (x : List (BitVec 8) × List (BitVec 8)), x.1.length = 32 → x.2.length = 32 → (l.foldl bst x).1.length = 32 ∧ (l.foldl bst x).2.length = 32 from H l (a, a) ha ha
  intro l
  induction l with
  | nil => intro x h1 h2; exact ⟨h1, h2⟩
  | cons q r ih =>
    intro x h1 h2
    refine ih _ ?_ (jon_len _ _)
    show (if q.2 then nd q.1 x.1 else x.1).length = 32
    split
    · exact nd_len _ _
    · exact h1
/-- What two roots a step leads to, if it has as many hashes as it must have. -/
def bres (old : List (BitVec 8)) (P : List (List (BitVec 8))) (c : Bool) (S : List Bool) : Option (List (BitVec 8) × List (BitVec 8)) :=
  if c then (match P with | [] => none | p :: r => if r.length = S.length then some (bth p r S) else none) else if P.length = S.length then some (bth old P S) else none
end Go.Proofs.YtfmeeimhfdnjpaaDoor
namespace Go.Proofs.YtfmeeimhfdnjpaaDoor
set_option maxRecDepth 100000
open Go.RowKit
/-- A list of slices of bytes, as much as its room. -/
def Fk.mc (ps : List Pt) : Fk := .inr (.inl ⟨fun v w => (Fk.mg ps).f v w ∧ ∀ A C, v = .slice A ps.length C → ps.length ≤ C, by
  rintro v w w' ⟨h, hc⟩ hb
  exact ⟨Fk.mono _ _ _ _ h hb, hc⟩⟩)
theorem mc_mg {ps : List Pt} {v : Value} {w : World} (h : (Fk.mc ps).f v w) : (Fk.mg ps).f v w := h.1
theorem mc_nil (w : World) : (Fk.mc []).f (.slice none 0 0) w := ⟨⟨none, 0, 0, 0, rfl, fun h => by simp at h, fun i p hi => by simp at hi, fun i p hi => by simp at hi⟩, fun A C e => by cases e; exact Nat.le_refl _⟩
/-- What is told of a collision: two inputs, and whether it is one. -/
def Fk.c2 (f : Bool) : Fk := .inr (.inl ⟨fun v w => ∃ A B u1 u2, v = .tuple #[.agg ([u1, u2] : List Value).toArray, .bool f] ∧ (Fk.sl A).f u1 w ∧ (Fk.sl B).f u2 w ∧ A.length ≤ 100000 ∧ B.length ≤ 100000 ∧ (f = true → rcol A B), by
  rintro v w w' ⟨A, B, u1, u2, e, h1, h2, h⟩ hb
  exact ⟨A, B, u1, u2, e, Fk.mono _ _ _ _ h1 hb, Fk.mono _ _ _ _ h2 hb, h⟩⟩)
/-- The same beside an error. -/
def Fk.c3 (f : Bool) (n : Int) : Fk := .inr (.inl ⟨fun v w => ∃ A B u1 u2, v = .tuple #[.agg ([u1, u2] : List Value).toArray, .bool f, .int .i64 n] ∧ (Fk.sl A).f u1 w ∧ (Fk.sl B).f u2 w ∧ A.length ≤ 100000 ∧ B.length ≤ 100000 ∧ (f = true → rcol A B), by
  rintro v w w' ⟨A, B, u1, u2, e, h1, h2, h⟩ hb
  exact ⟨A, B, u1, u2, e, Fk.mono _ _ _ _ h1 hb, Fk.mono _ _ _ _ h2 hb, h⟩⟩)
/-- A proof from m to n is right for both roots. -/
def prOn (m n : Nat) (old rt : List (BitVec 8)) (P : List (List (BitVec 8))) : Prop := if m = 0 then P.length = 0 else bres old P (stp m n true).1 (stp m n true).2 = some (old, rt)
instance (m n : Nat) (old rt : List (BitVec 8)) (P : List (List (BitVec 8))) : Decidable (prOn m n old rt P) := by unfold prOn; infer_instance
theorem st_tup {P : Program} {Q : Exit → Act → World → Prop} {o : Oper} {a : Act} {w : World} (x : Operand) {k : Nat} (ho : o.op = .extract x k) {vs : Array Value} (hx : a.eval x = .tuple vs) {u : Value} (hk : vs[k]? = some u) : o.wp P a w (Ends a o.dst w (Fk.eq u).f) Q := by
  refine st_pure (v := u) ?_ rfl
  unfold execOp
  rw [ho]
  simp [hx, Instr.extract, hk]
/-- A list of one slice of bytes, new. -/
def Fk.m1 (bs : List (BitVec 8)) : Fk := .inr (.inl ⟨fun v w => ∃ p : Pt, p.bs = bs ∧ (Fk.mc [p]).f v w, by
  rintro v w w' ⟨p, e, h⟩ hb
  exact ⟨p, e, Fk.mono _ _ _ _ h hb⟩⟩)
theorem Tryd.bytes1 (n : Int) (w : World) : (Instr.buildSlice 22 1 #[(0, .int .u8 n)]).run Tryd.prog w = .ok (.slice (some ⟨w.heap.size, 0, none⟩) 1 1) (w.alloc (.cells #[.int .u8 n] 5)) := by kernel_rfl
theorem Tryd.bldm (sp : Option Addr) (m c : Nat) (w : World) : (Instr.buildSlice 28 1 #[(0, .slice sp m c)]).run Tryd.prog w = .ok (.slice (some ⟨w.heap.size, 0, none⟩) 1 1) (w.alloc (.cells #[.slice sp m c] 22)) := by kernel_rfl
section
variable {Q : Exit → Act → World → Prop} {o : Oper} {a : Act} {w : World}
theorem st_b1 (n : Int) (x : BitVec 8) (ho : o.op = .buildSlice 22 1 #[(0, .const (.int .u8 n))]) (hn : n = bv x) : o.wp Tryd.prog a w (Ends a o.dst w (Fk.sl [x]).f) Q := by
  subst hn
  refine st_run (v := .slice (some ⟨w.heap.size, 0, none⟩) 1 1) (w' := w.alloc (.cells #[.int .u8 (bv x)] 5)) ?_ ((Below.refl _ _).alloc (Nat.le_refl _) _) ⟨_, _, _, w.heap.size, 0, rfl, rfl, Nat.le_refl _, (fun e => by cases e), fun _ => ⟨rfl, Ob.lt (T := 5) (cs := [.int .u8 (bv x)]) (heap_alloc_new _ _), fun i hi => ?_⟩⟩
  · unfold execOp
    rw [ho]
    have := Tryd.bytes1 (bv x) w
    simp [Act.eval, this]
  · have hi0 : i = 0 := by simpa using hi
    subst hi0
    exact Ob.cell (T := 5) (cs := [.int .u8 (bv x)]) (heap_alloc_new _ _) 0 rfl
theorem st_bm1 (x : Operand) (ho : o.op = .buildSlice 28 1 #[(0, x)]) {bs : List (BitVec 8)} (h : (Fk.sl bs).f (a.eval x) w) : o.wp Tryd.prog a w (Ends a o.dst w (Fk.m1 bs).f) Q := by
  obtain ⟨sp, m, c, b, so, e, hs⟩ := h
  have hbl : Below w.heap.size w (w.alloc (.cells #[.slice sp m c] 22)) := (Below.refl _ _).alloc (Nat.le_refl _) _
  refine st_run (v := .slice (some ⟨w.heap.size, 0, none⟩) 1 1) (w' := w.alloc (.cells #[.slice sp m c] 22)) ?_ hbl ⟨⟨sp, m, c, bs, b, so⟩, rfl, ⟨some ⟨w.heap.size, 0, none⟩, 1, w.heap.size, 0, rfl, fun _ => rfl, fun i p hi => ?_, fun i p hi => ?_⟩, fun A C e => by cases e; exact Nat.le_refl _⟩
  · unfold execOp
    rw [ho]
    have := Tryd.bldm sp m c w
    simp [e, this]
  · have hi0 : i = 0 := by have := (List.getElem?_eq_some_iff.1 hi).1; simp at this; exact this
    subst hi0
    obtain rfl : (⟨sp, m, c, bs, b, so⟩ : Pt) = p := by simpa using hi
    exact Ob.cell (T := 22) (cs := [.slice sp m c]) (heap_alloc_new _ _) 0 rfl
  · have hi0 : i = 0 := by have := (List.getElem?_eq_some_iff.1 hi).1; simp at this; exact this
    subst hi0
    obtain rfl : (⟨sp, m, c, bs, b, so⟩ : Pt) = p := by simpa using hi
    exact Pt.ok_below hs hbl
theorem st_bh1c (x : Operand) (ho : o.op = .buildSlice 35 1 #[(0, x)]) {hh : List (BitVec 8)} (hl : hh.length = 32) (hx : a.eval x = .agg (hh.map V).toArray) : o.wp Tryd.prog a w (Ends a o.dst w (Fk.hc [hh]).f) Q := by
  refine st_run (v := .slice (some ⟨w.heap.size, 0, none⟩) 1 1) (w' := w.alloc (.cells (hh.map V).toArray 33)) ?_ ((Below.refl _ _).alloc (Nat.le_refl _) _) ⟨_, 1, w.heap.size, 0, rfl, Nat.le_refl _, hl_one (heap_alloc_new _ _) hl⟩
  have := Tryd.build35 hh hl w
  unfold execOp
  rw [ho]
  simp [hx, this]
end
end Go.Proofs.YtfmeeimhfdnjpaaDoor
