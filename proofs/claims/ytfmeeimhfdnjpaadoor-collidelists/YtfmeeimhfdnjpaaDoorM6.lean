/- Plain: a drawn region whose last store may come ahead of one operation that only takes a value out: both orders come to one end. Drawn regions with a chain of calls that turn one object: what only looks is taken first. A drawn region in which a store does not wait for what is read beside it: looks at hashes and slices, and the store. Words on collisions; small, hashes, right; the reference's Same and Begins. Slices of bools of the call's own; structs with hashes among their fields. -/
import Derived.Test.YtfmeeimhfdnjpaaDoorM3
import Derived.Deep.RegionHeld
import Derived.Test.YtfmeeimhfdnjpaaDoorM4
import Derived.Test.YtfmeeimhfdnjpaaDoorM5
namespace Go.Proofs.YtfmeeimhfdnjpaaDoor
set_option maxRecDepth 100000
open Go.RowKit
section
variable {P : Program} {ops : Array Oper} {Q : Exit → Act → World → Prop}
/-- A store that does not look at slot d. -/
def storeFree (o : Oper) (d : Nat) : Bool := match o.op with
  | .store _ (.tmp x) (.tmp y) => (x != d) && (y != d) && o.guard.isNone && o.dst.isNone
  | _ => false
theorem storeFree_spec {o : Oper} {d : Nat} (h : storeFree o d = true) : ∃ T x y, o.op = .store T (.tmp x) (.tmp y) ∧ x ≠ d ∧ y ≠ d ∧ o.guard = none ∧ o.dst = none := by
  unfold storeFree at h
  split at h
  · rename_i T x y e
    simp only [Bool.and_eq_true, bne_iff_ne, ne_eq, Option.isNone_iff_eq_none] at h
    exact ⟨T, x, y, e, h.1.1.1, h.1.1.2, h.1.2, h.2⟩
  · cases h
theorem storeFree_guard {o : Oper} {d : Nat} (h : storeFree o d = true) : o.guard = none := by obtain ⟨_, _, _, _, _, _, h, _⟩ := storeFree_spec h; exact h
theorem storeFree_dst {o : Oper} {d : Nat} (h : storeFree o d = true) : o.dst = none := by obtain ⟨_, _, _, _, _, _, _, h⟩ := storeFree_spec h; exact h
theorem storeFree_eval {o om : Oper} {d : Nat} {v : Value} (h : storeFree o d = true) (hd : om.dst = some d) (a : Act) : execOp (a.put om.dst v).eval o = execOp a.eval o := by
  obtain ⟨T, x, y, e, hx, hy, _, _⟩ := storeFree_spec h
  rw [hd]
  unfold execOp
  rw [e]
  simp only [put_eval_other a d v x (fun h => hx h.symm), put_eval_other a d v y (fun h => hy h.symm)]
theorem wl_skip {o : Oper} {rest : List Oper} {a : Act} {w w2 : World} (hgd : o.guard = none) (hd : o.dst = none) (hr : (execOp a.eval o).run P w = .ok .skip w2) (h : wpList P ops Q rest a w2) : wpList P ops Q (o :: rest) a w := by
  unfold wpList
  rw [if_pos (by unfold Region.wanted; rw [hgd])]
  refine .inl ?_
  unfold Oper.wp
  rw [hr]
  unfold Oper.upon
  rw [hd]
  exact h
theorem wl_val {o : Oper} {rest : List Oper} {a : Act} {w w2 : World} {v : Value} (hgd : o.guard = none) (hr : (execOp a.eval o).run P w = .ok (.value v) w2) (h : wpList P ops Q rest (a.put o.dst v) w2) : wpList P ops Q (o :: rest) a w := by
  unfold wpList
  rw [if_pos (by unfold Region.wanted; rw [hgd])]
  refine .inl ?_
  unfold Oper.wp
  rw [hr]
  exact h
/-- Each from number k on waits, in the end, for all ahead of number k but for m; each behind k for m too. -/
def coverBut (ops : List Oper) (k m : Nat) : Bool := (List.range ops.length).all fun j => decide (j < k) || (((List.range k).all fun i => i == m || (clo ops 8 (tgts ops j)).contains i) && (j == k || (clo ops 8 (tgts ops j)).contains m))
def firstBut (k n m : Nat) : Array Bool := Array.ofFn (n := n) fun i => decide (i.val < k) && (i.val != m)
theorem wp_mids_late {qs : List Fk} {a0 : Act} {w0 : World} (m dm : Nat) (so om : Oper) (rest : List Nat) (hk : qs.length ≤ ops.size) (hE : backOk ops.toList = true) (hC : coverBut ops.toList qs.length m = true) (hJ : chainOk ops (firstK qs.length ops.size) (qs.length :: rest) = true)
    (hJ2 : chainOk ops ((firstBut qs.length ops.size m).setIfInBounds qs.length true) (m :: rest) = true) (hso : ops[qs.length]? = some so) (hom : ops[m]? = some om) (hsf : storeFree so dm = true) (hmd : om.dst = some dm) (hmk : decide (m < qs.length) = true) (hmg : om.guard = none)
    (hM : ∀ a w, Known ops.toList qs.length (fkAt qs) a0 w0 om a w → ∃ v, (∀ w', (execOp a.eval om).run P w' = .ok (.value v) w') ∧ fkAt qs m v w)
    (hD : dstsOk a0.tmps.size (ops.toList.take qs.length) = true) (hG : guardsOk ops.toList qs.length qs ops.toList qs = true)
    (hS : Steps P Q ops.toList qs.length qs a0 w0 ops.toList qs)
    (hF : ∀ af w', Final ops.toList qs a0 af w' → Below w0.heap.size w0 w' → ∃ w2, (execOp af.eval so).run P w' = .ok .skip w2 ∧ wpList P ops Q (rest.filterMap (ops[·]?)) af w2) :
    ∀ (fuel : Nat) (listed : Array Bool) (a : Act) (w : World), unl listed ≤ fuel → Closed ops listed → Mids ops qs.length (fkAt qs) a0 w0 listed a w → wpAny P .any ops Q fuel listed a w := by
  have hfin : ∀ (listed : Array Bool) (a : Act) (w : World), Mids ops qs.length (fkAt qs) a0 w0 listed a w → (∀ i, i < qs.length → listed.getD i false = true) → Final ops.toList qs a0 a w := by
    intro listed a w hm hall
    refine ⟨hm.defs, hm.size, fun t ht => eval_of_get (hm.old t ht), fun i d h => ?_⟩
    simp only [Bool.and_eq_true, decide_eq_true_eq, beq_iff_eq] at h
    obtain ⟨hi, hd⟩ := h
    cases ho : ops.toList[i]? with
    | none => rw [ho] at hd; simp at hd
    | some o =>
      rw [ho] at hd
      exact hm.has i o d hi (by rw [← Array.getElem?_toList]; exact ho) (by simpa using hd) (hall i hi)
  have hend : ∀ (fuel : Nat) (listed : Array Bool) (a : Act) (w : World), unl listed ≤ fuel → Mids ops qs.length (fkAt qs) a0 w0 listed a w → (∀ i, i < qs.length → listed.getD i false = true) → wpAny P .any ops Q fuel listed a w := by
    intro fuel listed a w hu hm hall
    have he : listed = firstK qs.length ops.size := by
      apply Array.ext (by simp [firstK, hm.lsize])
      intro i h1 h2
      simp only [firstK, Array.getElem_ofFn]
      by_cases hi : i < qs.length
      · have := hall i hi
        simp [h1] at this
        simp [this, hi]
      · have h3 : i < ops.size := by rw [hm.lsize] at h1; exact h1
        have := hm.last i (by omega) h3
        simp [h1] at this
        simp [this, hi]
    have hJ' : chainOk ops listed (qs.length :: rest) = true := by rw [he]; exact hJ
    have hlen := chain_len (qs.length :: rest) listed hJ'
    refine any_list (qs.length :: rest) fuel listed a w hJ' (by omega) ?_
    obtain ⟨w2, hr, hw⟩ := hF a w (hfin listed a w hm hall) hm.grow
    rw [List.filterMap_cons, hso]
    exact wl_skip (storeFree_guard hsf) (storeFree_dst hsf) hr hw
  intro fuel
  induction fuel with
  | zero =>
    intro listed a w hu hcl hm
    have hall := unl_zero (listed := listed) (by omega)
    refine hend 0 listed a w hu hm (fun i hi => ?_)
    have hil : i < listed.size := by rw [hm.lsize]; omega
    rw [← getD_tf hil]; exact hall i hil
  | succ fuel ih =>
    intro listed a w hu hcl hm
    by_cases hall : ∀ i, i < qs.length → listed.getD i false = true
    · exact hend (fuel + 1) listed a w hu hm hall
    · have hex : ∃ i0, i0 < qs.length ∧ listed.getD i0 false = false := by
        apply Classical.byContradiction
        intro hno
        apply hall
        intro i hi
        cases hq : listed.getD i false with
        | true => rfl
        | false => exact absurd ⟨i, hi, hq⟩ hno
      obtain ⟨i0, hi0, hi0u⟩ := hex
      refine ⟨fun hr => ?_, fun i hi => ?_⟩
      · exfalso
        have hu0 := ready_back hE hm.lsize hr
        have hil : i0 < listed.size := by rw [hm.lsize]; omega
        have := unl_zero hu0 i0 hil
        rw [getD_tf hil, hi0u] at this
        cases this
      · obtain ⟨hun, o, ho, hdep⟩ := mem_ready.1 hi
        have hio : i < ops.size := (Array.getElem?_eq_some_iff.1 ho).1
        have hu' := unl_set hun
        have hil : i < listed.size := by rw [hm.lsize]; exact hio
        have htg : ∀ j ∈ tgt o, listed.getD j false = true := fun j hj => by
          obtain ⟨e, he, hb, rfl⟩ := mem_tgt.1 hj
          exact hdep e he hb
        rcases Nat.lt_or_ge i qs.length with hik | hik
        case inr =>
          have hmk' : m < qs.length := of_decide_eq_true hmk
          have hcl4 : ∀ i1, i1 ∈ clo ops.toList 8 (tgts ops.toList i) → listed.getD i1 false = true := clo_listed hcl 8 (tgts ops.toList i) (fun j hj => by
            unfold tgts at hj
            rw [Array.getElem?_toList, ho] at hj
            exact htg j (by simpa using hj))
          have hcov : ∀ i1, i1 < qs.length → i1 ≠ m → listed.getD i1 false = true := by
            intro i1 h1 h2
            unfold coverBut at hC
            have h3 := List.all_eq_true.1 hC i (by simpa using hio)
            simp only [Bool.or_eq_true, decide_eq_true_eq, Bool.and_eq_true] at h3
            rcases h3 with h3 | h3
            · omega
            · have h4 := List.all_eq_true.1 h3.1 i1 (by simpa using h1)
              simp only [Bool.or_eq_true, beq_iff_eq] at h4
              rcases h4 with h4 | h4
              · exact absurd h4 h2
              · exact hcl4 i1 (by simpa using h4)
          have hum : listed.getD m false = false := by
            by_cases e : i0 = m
            · rw [← e]; exact hi0u
            · rw [hcov i0 hi0 e] at hi0u; cases hi0u
          have hiq : i = qs.length := by
            unfold coverBut at hC
            have h3 := List.all_eq_true.1 hC i (by simpa using hio)
            simp only [Bool.or_eq_true, decide_eq_true_eq, Bool.and_eq_true, beq_iff_eq] at h3
            rcases h3 with h3 | h3
            · omega
            · rcases h3.2 with h4 | h4
              · exact h4
              · have h5 := hcl4 m (by simpa using h4)
                rw [hum] at h5; cases h5
          subst hiq
          obtain rfl : o = so := Option.some.inj (ho.symm.trans hso)
          have hml : m < listed.size := by rw [hm.lsize]; omega
          have hto : (ops.toList.take qs.length)[m]? = some om := by rw [List.getElem?_take, if_pos hmk', Array.getElem?_toList]; exact hom
          obtain ⟨d, hd, hlt, hallD⟩ := dstsOk_spec hD m om hto
          obtain rfl : d = dm := Option.some.inj (hd.symm.trans hmd)
          have hKm : Known ops.toList qs.length (fkAt qs) a0 w0 om a w := by
            refine ⟨fun t ht => eval_of_get (hm.old t ht), fun j d hj => ?_, hm.grow⟩
            unfold depOk at hj
            simp only [Bool.and_eq_true, decide_eq_true_eq, beq_iff_eq, Array.getElem?_toList] at hj
            obtain ⟨⟨hjk, hany⟩, hd⟩ := hj
            obtain ⟨e, he, hb⟩ := List.any_eq_true.1 hany
            simp only [Bool.and_eq_true, beq_iff_eq] at hb
            have hjm : j ≠ m := by
              intro hjm
              unfold backOk at hE
              have h1 := List.all_eq_true.1 hE m (by simp; omega)
              simp only [Array.getElem?_toList, hom, Option.map_some, Option.getD_some] at h1
              have h2 := List.all_eq_true.1 h1 e he
              rw [hb.1, hb.2, hjm] at h2
              simp at h2
            cases hoj : ops[j]? with
            | none => rw [hoj] at hd; simp at hd
            | some oj =>
              rw [hoj] at hd
              exact hm.has j oj d hjk hoj (by simpa using hd) (hcov j hjk hjm)
          obtain ⟨v, hrun, hφ⟩ := hM a w hKm
          have hm1 : Mids ops qs.length (fkAt qs) a0 w0 (listed.setIfInBounds m true) (a.put om.dst v) w := by
            refine ⟨by rw [put_size]; exact hm.size, by rw [put_def]; exact hm.defs, by simp; exact hm.lsize, fun t ht => ?_, fun j oj dj hj hoj hdj hlj => ?_, fun j hj1 hj2 => ?_, hm.grow⟩
            · rw [put_other _ _ _ _ (freeOf_spec ht hto)]; exact hm.old t ht
            · by_cases e : j = m
              · subst e
                obtain rfl : oj = om := Option.some.inj (hoj.symm.trans hom)
                obtain rfl : dj = d := Option.some.inj (hdj.symm.trans hd)
                have hev : (a.put oj.dst v).eval (.tmp dj) = v := by
                  have := put_same a dj v (by rw [hm.size]; exact hlt)
                  rw [← hd] at this
                  simp [Act.eval, this]
                rw [hev]; exact hφ
              · have htj : (ops.toList.take qs.length)[j]? = some oj := by rw [List.getElem?_take, if_pos hj, Array.getElem?_toList]; exact hoj
                have hne : om.dst ≠ some dj := fun h => by
                  have : d = dj := Option.some.inj (hd.symm.trans h)
                  exact hallD j oj htj e (by rw [this]; exact hdj)
                rw [eval_of_get (put_other a om.dst v dj hne)]
                refine hm.has j oj dj hj hoj hdj ?_
                have hne2 : m ≠ j := fun h => e h.symm
                simpa [Array.getElem?_setIfInBounds, hne2] using hlj
            · have hne : m ≠ j := by omega
              have := hm.last j hj1 hj2
              simpa [Array.getElem?_setIfInBounds, hne] using this
          have hall1 : ∀ i, i < qs.length → (listed.setIfInBounds m true).getD i false = true := by
            intro i1 h1
            by_cases e : i1 = m
            · subst e; exact getD_set_same hml
            · have hne : m ≠ i1 := fun h => e h.symm
              have := hcov i1 h1 e
              simpa [Array.getElem?_setIfInBounds, hne] using this
          obtain ⟨w2, hr, hw⟩ := hF _ w (hfin _ _ _ hm1 hall1) hm.grow
          have he : listed = firstBut qs.length ops.size m := by
            apply Array.ext (by simp [firstBut, hm.lsize])
            intro i1 h1 h2
            simp only [firstBut, Array.getElem_ofFn]
            by_cases hi1 : i1 < qs.length
            · by_cases e : i1 = m
              · subst e
                simp [h1] at hum
                simp [hum]
              · have := hcov i1 hi1 e
                simp [h1] at this
                simp [this, hi1, e]
            · have h3 : i1 < ops.size := by rw [hm.lsize] at h1; exact h1
              have := hm.last i1 (by omega) h3
              simp [h1] at this
              simp [this, hi1]
          have hrs : (execOp a.eval o).run P w = .ok .skip w2 := by
            rw [← storeFree_eval (v := v) hsf hmd a]; exact hr
          unfold wpOp
          rw [ho]
          show if Region.wanted o (yielded ops a.tmps) = true then _ else _
          rw [if_pos (by unfold Region.wanted; rw [storeFree_guard hsf])]
          refine .inl ?_
          unfold Oper.wp
          rw [hrs]
          unfold Oper.upon
          rw [storeFree_dst hsf]
          have hJ3 : chainOk ops (listed.setIfInBounds qs.length true) (m :: rest) = true := by rw [he]; exact hJ2
          have hlen := chain_len (m :: rest) _ hJ3
          refine any_list (m :: rest) fuel _ _ w2 hJ3 (by omega) ?_
          rw [List.filterMap_cons, hom]
          exact wl_val hmg (hrun w2) hw
        case inl =>
          have hK : Known ops.toList qs.length (fkAt qs) a0 w0 o a w := by
            refine ⟨fun t ht => eval_of_get (hm.old t ht), fun j d hj => ?_, hm.grow⟩
            unfold depOk at hj
            simp only [Bool.and_eq_true, decide_eq_true_eq, beq_iff_eq, Array.getElem?_toList] at hj
            obtain ⟨⟨hjk, hany⟩, hd⟩ := hj
            obtain ⟨e, he, hb⟩ := List.any_eq_true.1 hany
            simp only [Bool.and_eq_true, beq_iff_eq] at hb
            have hl := hdep e (by simpa using he) hb.2
            rw [hb.1] at hl
            cases hoj : ops[j]? with
            | none => rw [hoj] at hd; simp at hd
            | some oj =>
              rw [hoj] at hd
              exact hm.has j oj d hjk hoj (by simpa using hd) hl
          have hto : (ops.toList.take qs.length)[i]? = some o := by rw [List.getElem?_take, if_pos hik, Array.getElem?_toList]; exact ho
          obtain ⟨d, hd, hlt, hallD⟩ := dstsOk_spec hD i o hto
          have hcl' : Closed ops (listed.setIfInBounds i true) := by
            intro m om hom hml j hj
            by_cases e : m = i
            · subst e
              obtain rfl : om = o := Option.some.inj (hom.symm.trans ho)
              have h1 := htg j hj
              by_cases e2 : j = m
              · subst e2; exact getD_set_same hil
              · have hne : m ≠ j := fun h => e2 h.symm
                simpa [Array.getElem?_setIfInBounds, hne] using h1
            · have hne : i ≠ m := fun h => e h.symm
              have hml' : listed.getD m false = true := by simpa [Array.getElem?_setIfInBounds, hne] using hml
              have h1 := hcl m om hom hml' j hj
              by_cases e2 : j = i
              · subst e2; exact getD_set_same hil
              · have hne2 : i ≠ j := fun h => e2 h.symm
                simpa [Array.getElem?_setIfInBounds, hne2] using h1
          have hnext : ∀ v w', Below w.heap.size w w' → fkAt qs i v w' → wpAny P .any ops Q fuel (listed.setIfInBounds i true) (a.put o.dst v) w' := by
            intro v w' hb hf
            refine ih _ _ _ (by omega) hcl' ⟨by rw [put_size]; exact hm.size, by rw [put_def]; exact hm.defs, by simp; exact hm.lsize, fun t ht => ?_, fun j oj dj hj hoj hdj hlj => ?_, fun j hj1 hj2 => ?_, hm.grow.trans (hb.mono hm.grow.size)⟩
            · rw [put_other _ _ _ _ (freeOf_spec ht hto)]; exact hm.old t ht
            · by_cases e : j = i
              · subst e
                obtain rfl : oj = o := Option.some.inj (hoj.symm.trans ho)
                obtain rfl : dj = d := Option.some.inj (hdj.symm.trans hd)
                have hev : (a.put oj.dst v).eval (.tmp dj) = v := by
                  have := put_same a dj v (by rw [hm.size]; exact hlt)
                  rw [← hd] at this
                  simp [Act.eval, this]
                rw [hev]; exact hf
              · have htj : (ops.toList.take qs.length)[j]? = some oj := by rw [List.getElem?_take, if_pos hj, Array.getElem?_toList]; exact hoj
                have hne : o.dst ≠ some dj := fun h => by
                  have : d = dj := Option.some.inj (hd.symm.trans h)
                  exact hallD j oj htj e (by rw [this]; exact hdj)
                rw [eval_of_get (put_other a o.dst v dj hne)]
                refine Fk.mono _ _ w w' (hm.has j oj dj hj hoj hdj ?_) hb
                have hne2 : i ≠ j := fun h => e h.symm
                simpa [Array.getElem?_setIfInBounds, hne2] using hlj
            · have hne : i ≠ j := by omega
              have := hm.last j hj1 hj2
              simpa [Array.getElem?_setIfInBounds, hne] using this
          have hyield : ∀ (j : Nat) (b c : Bool), o.guard = some (j, b) → (∃ d, depOk ops.toList qs.length o j d = true) → (∀ v w, fkAt qs j v w → v = .bool c) → yielded ops a.tmps j = some c := by
            rintro j b c hg ⟨d, hd⟩ hbool
            have hv := hbool _ _ (hK.dep j d hd)
            have hd2 : (ops[j]?).bind (·.dst) = some d := by
              unfold depOk at hd
              simp only [Bool.and_eq_true, decide_eq_true_eq, beq_iff_eq, Array.getElem?_toList] at hd
              exact hd.2
            have hget : a.tmps[d]? = some (.bool c) := by
              simp only [Act.eval, Array.getD_eq_getD_getElem?] at hv
              cases hq : a.tmps[d]? with
              | none => rw [hq] at hv; simp [undef] at hv
              | some u => rw [hq] at hv; simp at hv; rw [hv]
            unfold yielded
            rw [hd2]
            simp only [Option.bind_some, hget]
          unfold wpOp
          rw [ho]
          show if Region.wanted o (yielded ops a.tmps) = true then _ else _
          have hyes : Region.wanted o (yielded ops a.tmps) = true → wantedBy qs o = true → (if Region.wanted o (yielded ops a.tmps) = true then o.wp P a w (wpAny P .any ops Q fuel (listed.setIfInBounds i true)) Q ∨ (o.asks P a w ∧ LetsOut Q) else wpAny P .any ops Q fuel (listed.setIfInBounds i true) (a.put o.dst undef) w) := by
            intro hwant hwb
            rw [if_pos hwant]
            refine .inl (Oper.wp_mono ?_ (hS.get i o hik (by rw [Array.getElem?_toList]; exact ho) hwb a w hK))
            rintro a' w' ⟨v, rfl, hb, hf⟩
            exact hnext v w' hb hf
          cases hg : o.guard with
          | none => exact hyes (by unfold Region.wanted; rw [hg]) (by unfold wantedBy; rw [hg])
          | some jb =>
            obtain ⟨j, b⟩ := jb
            obtain ⟨hdp, h2⟩ := guardsOk_spec hG i o j b hik (by rw [Array.getElem?_toList]; exact ho) hg
            rcases h2 with h2 | h2
            · refine hyes ?_ (by unfold wantedBy; rw [hg]; exact h2)
              unfold Region.wanted
              rw [hg]
              show (yielded ops a.tmps j == some b) = true
              rw [hyield j b b hg hdp (Fk.isBool_spec h2)]; simp
            · have hno : Region.wanted o (yielded ops a.tmps) = false := by
                unfold Region.wanted
                rw [hg]
                show (yielded ops a.tmps j == some b) = false
                rw [hyield j b (!b) hg hdp (Fk.isBool_spec h2.1)]; cases b <;> rfl
              rw [if_neg (by rw [hno]; simp)]
              exact hnext undef w (Below.refl _ _) (Fk.isAny_spec h2.2 _ _)
/-- A drawn region: its first operations by steps; then a store that may come ahead of number m, which only takes a value out; then the others. -/
theorem wp_region_late {id : Nat} {a0 : Act} {w : World} (qs : List Fk) (m dm : Nat) (so om : Oper) (rest : List Nat) (hm : P.follows .mixedOrders = true) (hk : decide (qs.length ≤ ops.size) = true) (hE : backOk ops.toList = true) (hC : coverBut ops.toList qs.length m = true) (hJ : chainOk ops (firstK qs.length ops.size) (qs.length :: rest) = true)
    (hJ2 : chainOk ops ((firstBut qs.length ops.size m).setIfInBounds qs.length true) (m :: rest) = true) (hso : ops[qs.length]? = some so) (hom : ops[m]? = some om) (hsf : storeFree so dm = true) (hmd : om.dst = some dm) (hmk : decide (m < qs.length) = true) (hmg : om.guard = none)
    (hD : dstsOk a0.tmps.size (ops.toList.take qs.length) = true) (hG : guardsOk ops.toList qs.length qs ops.toList qs = true)
    (hM : ∀ a w', Known ops.toList qs.length (fkAt qs) a0 w om a w' → ∃ v, (∀ w2, (execOp a.eval om).run P w2 = .ok (.value v) w2) ∧ fkAt qs m v w')
    (hS : Steps P Q ops.toList qs.length qs a0 w ops.toList qs)
    (hF : ∀ af w', Final ops.toList qs a0 af w' → Below w.heap.size w w' → ∃ w2, (execOp af.eval so).run P w' = .ok .skip w2 ∧ wpList P ops Q (rest.filterMap (ops[·]?)) af w2) :
    (Code.region id ops true).wp P Q a0 w := by
  refine wp_region_any hm ?_
  refine wp_mids_late m dm so om rest (of_decide_eq_true hk) hE hC hJ hJ2 hso hom hsf hmd hmk hmg hM hD hG hS hF ops.size _ a0 _ ?_ ?_ ?_
  · unfold unl
    exact Nat.le_trans (Array.countP_le_size) (by simp)
  · intro i o ho hl
    have : i < ops.size := (Array.getElem?_eq_some_iff.1 ho).1
    simp [this] at hl
  · refine ⟨rfl, rfl, by simp, fun _ _ => rfl, fun i o d _ ho _ hl => ?_, fun i _ hi => ?_, (Below.refl _ _).drew⟩
    · have : i < ops.size := (Array.getElem?_eq_some_iff.1 ho).1
      simp [this] at hl
    · simp [hi]
end
/-- A value that is taken out of a tuple. -/
theorem late_ext {P : Program} {a : Act} {o : Oper} {x : Operand} {k : Nat} {vs : Array Value} {v : Value} (ho : o.op = .extract x k) (hx : a.eval x = .tuple vs) (hk : vs[k]? = some v) : ∀ w, (execOp a.eval o).run P w = .ok (.value v) w := by
  intro w
  unfold execOp
  rw [ho]
  simp [hx, Instr.extract, hk]
theorem run_str {P : Program} {o : Oper} {a : Act} {w : World} (ty : TypeId) (x y : Operand) (ho : o.op = .store ty x y) (g : Nat) (cells : Array Value) (hx : a.eval x = .pointer (some ⟨g, 0, none⟩)) (hy : a.eval y = .agg cells)
    (t : TypeId) (old : Array Value) (hg : w.heap[g]? = some (.cells old t (0, 0))) (hi : (P.info? ty).map (·.size) = some cells.size) (hold : old.size = cells.size) (h1 : cells.all (·.oneCell') = true) : (execOp a.eval o).run P w = .ok .skip (w.setRow g cells) := by
  have := run_storeVar_row (P := P) w g t ty old cells hg hi hold h1
  unfold execOp
  rw [ho]
  simp [hx, hy, Instr.storeAt, Instr.sureAddr, this]
theorem run_store33 {o : Oper} {a : Act} {w : World} (x y : Operand) (ho : o.op = .store 33 x y) (g : Nat) (zs ys : List (BitVec 8)) (hx : a.eval x = .pointer (some ⟨g, 0, none⟩)) (hy : a.eval y = .agg (zs.map V).toArray) (hv : Ob w g 33 (ys.map V)) (hl : ys.length = 32) (hz : zs.length = 32) :
    (execOp a.eval o).run Tryd.prog w = .ok .skip (w.setRow g (zs.map V).toArray) :=
  run_str 33 x y ho g _ hx hy 33 _ hv (by rw [List.size_toArray, List.length_map, hz]; exact Tryd.size33) (by simp [hl, hz]) (V_all _)
end Go.Proofs.YtfmeeimhfdnjpaaDoor
namespace Go.Proofs.YtfmeeimhfdnjpaaDoor
set_option maxRecDepth 100000
open Go.RowKit
section
variable {P : Program} {ops : Array Oper} {Q : Exit → Act → World → Prop} {S : World → Prop} {o : Oper} {a : Act}
theorem wh_take (i : Nat) (d : Nat) {v : Value} {fuel : Nat} {listed : Array Bool} {w : World} (hi : ops[i]? = some o) (hd : o.dst = some d) (hsz : d < a.tmps.size) (hg : o.guard = none)
    (hs : Region.noSelect ops = true) (hf : Region.free .any ops listed i = true) (hr : (Region.ready .any ops listed).contains i = true)
    (hQ : ∀ c a w, Q (.panic c) (a.put o.dst v) w → Q (.panic c) a w) (hy : ∀ w, S w → (execOp a.eval o).run P w = .ok (.value v) w) (hS : S w)
    (h : ∀ a2, a2.defers = a.defers → a2.tmps.size = a.tmps.size → (∀ t, (t == d) = false → a2.eval (.tmp t) = a.eval (.tmp t)) → a2.eval (.tmp d) = v → wpAnyH P .any ops Q S fuel (listed.setIfInBounds i true) a2 w) : wpAnyH P .any ops Q S (fuel + 1) listed a w := by
  refine wpAnyH_take hi hs hf hr hQ (.inl ⟨by unfold Region.wanted; rw [hg], hy⟩) hS ?_
  rw [hd]
  exact h _ (put_def _ _ _) (put_size _ _ _) (fun t ht => put_eval_other _ _ _ _ (fun e => by subst e; simp at ht)) (put_eval_same _ _ _ hsz)
theorem wh_assign (i : Nat) (d : Nat) {fuel : Nat} {listed : Array Bool} {w : World} (hi : ops[i]? = some o) (hd : o.dst = some d) (hsz : d < a.tmps.size) (hg : o.guard = none) (hr : (Region.ready .any ops listed == [i]) = true) (x : Operand) (ho : o.op = .assign x) (hS : S w)
    (h : ∀ a2, a2.defers = a.defers → a2.tmps.size = a.tmps.size → (∀ t, (t == d) = false → a2.eval (.tmp t) = a.eval (.tmp t)) → a2.eval (.tmp d) = a.eval x → wpAnyH P .any ops Q S fuel (listed.setIfInBounds i true) a2 w) : wpAnyH P .any ops Q S (fuel + 1) listed a w := by
  refine wpAnyH_all (eq_of_beq hr) (by simp) (fun j hj => ?_)
  obtain rfl : j = i := by simpa using hj
  unfold wpOp
  rw [hi]
  show if Region.wanted o (yielded ops a.tmps) = true then _ else _
  rw [if_pos (by unfold Region.wanted; rw [hg])]
  refine .inl ?_
  unfold Oper.wp execOp
  rw [ho]
  show S w ∧ wpAnyH P .any ops Q S fuel _ (a.put o.dst (a.eval x)) w
  rw [hd]
  exact ⟨hS, h _ (put_def _ _ _) (put_size _ _ _) (fun t ht => put_eval_other _ _ _ _ (fun e => by subst e; simp at ht)) (put_eval_same _ _ _ hsz)⟩
theorem run_field {T f : Nat} {x : Operand} (ho : o.op = .fieldAddr T x f) {p r : Addr} (hx : a.eval x = .pointer (some p)) (hr : ∀ w, (Instr.fieldAt T (.pointer (some p)) f).run P w = .ok (.pointer (some r)) w) : ∀ w, S w → (execOp a.eval o).run P w = .ok (.value (.pointer (some r))) w := by
  intro w _
  unfold execOp
  rw [ho]
  simp [hx, hr]
theorem run_loadc {T : TypeId} {x : Operand} (ho : o.op = .load T x) (h1 : ∀ w, (isAgg T).run P w = .ok false w) {p : Addr} {u : Value} (hx : a.eval x = .pointer (some p)) (hc : ∀ w, S w → w.cell? p = some u) : ∀ w, S w → (execOp a.eval o).run P w = .ok (.value u) w := by
  intro w hS
  unfold execOp
  rw [ho]
  simp [hx, Instr.loadAt, Instr.sureAddr, loadVar, h1, run_load, hc w hS]
end
end Go.Proofs.YtfmeeimhfdnjpaaDoor
namespace Go.Proofs.YtfmeeimhfdnjpaaDoor
set_option maxRecDepth 100000
open Go.RowKit
section
variable {S : World → Prop} {o : Oper} {a : Act} {Q : Exit → Act → World → Prop} {ops : Array Oper}
theorem run_ldh {x : Operand} (ho : o.op = .load 33 x) {lb lo : Nat} {st : List (BitVec 8)} (hl : st.length = 32) (hx : a.eval x = .pointer (some ⟨lb, lo, none⟩)) (hr : ∀ w, S w → w.rangeAt lb lo (st.map V)) : ∀ w, S w → (execOp a.eval o).run Tryd.prog w = .ok (.value (.agg (st.map V).toArray)) w := by
  intro w hS
  have := run_loadVar_mid (P := Tryd.prog) w lb lo 33 (st.map V) _ (hr w hS) Tryd.under33 rfl (by rw [List.length_map, hl]; exact Tryd.size33)
  unfold execOp
  rw [ho]
  simp [hx, Instr.loadAt, Instr.sureAddr, this]
theorem wh_store (i : Nat) {fuel : Nat} {listed : Array Bool} {w : World} (hi : ops[i]? = some o) (hd : o.dst = none) (hg : o.guard = none) (hr : (Region.ready .any ops listed == [i]) = true) (x y : Operand) (ho : o.op = .store 33 x y) (g : Nat) (zs ys : List (BitVec 8)) (hx : a.eval x = .pointer (some ⟨g, 0, none⟩)) (hy : a.eval y = .agg (zs.map V).toArray) (hv : Ob w g 33 (ys.map V)) (hl : ys.length = 32) (hz : zs.length = 32)
    (hS : S (w.setRow g (zs.map V).toArray)) (h : wpAnyH Tryd.prog .any ops Q S fuel (listed.setIfInBounds i true) a (w.setRow g (zs.map V).toArray)) : wpAnyH Tryd.prog .any ops Q S (fuel + 1) listed a w := by
  refine wpAnyH_all (eq_of_beq hr) (by simp) (fun j hj => ?_)
  obtain rfl : j = i := by simpa using hj
  have hrun := run_store33 (a := a) x y ho g zs ys hx hy hv hl hz
  unfold wpOp
  rw [hi]
  show if Region.wanted o (yielded ops a.tmps) = true then _ else _
  rw [if_pos (by unfold Region.wanted; rw [hg])]
  refine .inl ?_
  unfold Oper.wp
  rw [hrun]
  show S _ ∧ wpAnyH Tryd.prog .any ops Q S fuel _ (a.put o.dst undef) _
  rw [hd]
  exact ⟨hS, h⟩
theorem run_lenT {T E : Nat} (hu : Tryd.prog.underlying T = some (.slice E)) (he : Tryd.prog.elem T = E) {x : Operand} (ho : o.op = .call { callee := .builtin .len, args := #[x], argTypes := #[T] }) {A : Option Addr} {m C : Nat} (hx : a.eval x = .slice A m C) : ∀ w, S w → (execOp a.eval o).run Tryd.prog w = .ok (.value (.int .i64 ((m : Nat) : Int))) w := by
  intro w _
  have h1 := run_len_slice (P := Tryd.prog) (w := w) T o.type A m C (by rw [he]; exact hu)
  unfold execOp
  simp [ho, resolve, invoke, builtin, hx, h1, goInt]
end
end Go.Proofs.YtfmeeimhfdnjpaaDoor
namespace Go.Proofs.YtfmeeimhfdnjpaaDoor
set_option maxRecDepth 100000
open Go.RowKit
/-- The bytes of a list. -/
def bys (ps : List Pt) : List (List (BitVec 8)) := ps.map Pt.bs
/-- The hashes of a list's leaves. -/
def lhs (ps : List Pt) : List (List (BitVec 8)) := ps.map fun p => lf p.bs
/-- Two inputs that differ, and have one sum. -/
def rcol (A B : List (BitVec 8)) : Prop := A ≠ B ∧ shaOf A = shaOf B
instance (A B : List (BitVec 8)) : Decidable (rcol A B) := by unfold rcol; infer_instance
/-- A list that the laws go through. -/
def smallP (ps : List Pt) : Prop := (∀ p ∈ ps, p.bs.length ≤ 200) ∧ ps.length ≤ 40
instance (ps : List Pt) : Decidable (smallP ps) := by unfold smallP; infer_instance
theorem bys_len (ps : List Pt) : (bys ps).length = ps.length := List.length_map _
theorem lhs_len (ps : List Pt) : (lhs ps).length = ps.length := List.length_map _
theorem bys_at {ps : List Pt} {i : Nat} {p : Pt} (h : ps[i]? = some p) : (bys ps)[i]? = some p.bs := by unfold bys; rw [List.getElem?_map, h]; rfl
theorem lhs_at {ps : List Pt} {i : Nat} {p : Pt} (h : ps[i]? = some p) : (lhs ps)[i]? = some (lf p.bs) := by unfold lhs; rw [List.getElem?_map, h]; rfl
theorem lhs_32 (ps : List Pt) : ∀ x ∈ lhs ps, x.length = 32 := by
  intro x hx
  obtain ⟨p, _, rfl⟩ := List.mem_map.1 hx
  exact lf_len _
theorem lhs_take (ps : List Pt) (n : Nat) : lhs (ps.take n) = (lhs ps).take n := List.map_take ..
theorem take_one {α : Type} {l : List α} {k : Nat} {x : α} (h : l[k]? = some x) : l.take (k + 1) = l.take k ++ [x] := by rw [List.take_add_one, h]; rfl
theorem take_more {α : Type} {A B : List α} {k : Nat} {x : α} (h : A.take k = B.take k) (ha : A[k]? = some x) (hb : B[k]? = some x) : A.take (k + 1) = B.take (k + 1) := by rw [take_one ha, take_one hb, h]
theorem pt_small {ps : List Pt} (hs : smallP ps) {i : Nat} {p : Pt} (h : ps[i]? = some p) : p.bs.length ≤ 200 := hs.1 p (List.mem_of_getElem? h)
theorem Ls.take {w : World} {lb lo : Nat} {ps : List Pt} (h : Ls w lb lo ps) (n : Nat) : Ls w lb lo (ps.take n) := by
  have e : ∀ i p, (ps.take n)[i]? = some p → ps[i]? = some p := fun i p hi => by
    rw [List.getElem?_take] at hi
    split at hi
    · exact hi
    · cases hi
  exact ⟨fun i p hi => h.cell i p (e i p hi), fun i p hi => h.ok i p (e i p hi)⟩
theorem mg_take {ps : List Pt} {A : Option Addr} {C : Nat} {w : World} (h : (Fk.mg ps).f (.slice A ps.length C) w) {n : Nat} (hn : n ≤ ps.length) : (Fk.mg (ps.take n)).f (.slice A n C) w := by
  obtain ⟨A', C', lb, lo, e, hp, hl⟩ := h
  cases e
  have hln : (ps.take n).length = n := by rw [List.length_take]; omega
  refine ⟨A, C, lb, lo, by rw [hln], fun h0 => hp (by omega), ?_⟩
  exact Ls.take hl n
theorem fk_small {ps : List Pt} (hln : ps.length ≤ 140737488351232) {w : World} {v : Value} (hv : (Fk.mg ps).f v w) {b : Bool} (hb : b = decide (smallP ps)) :
    Calls Tryd.prog 11 #[v] w fun e w' => ∃ u, e = .returned u ∧ (Fk.eq (.bool b)).f u w' ∧ Below w.heap.size w w' := by
  go_enter Tryd.func11, Tryd.ntmps11
  refine code_both (fun f w1 => f.tmps.size = 18 ∧ f.defers = [] ∧ f.eval (.tmp 0) = v ∧ Below w.heap.size w (w1)) ⟨rfl, rfl, rfl, Below.refl _ _⟩ ?_
  rintro f0 w0 ⟨sz, df, x0, bl⟩
  have sd := And.intro sz df
  clear sz df
  have bl0 := bl
  refine wp_seq ?_
  refine wr_a [.eq (.bool false)] (by rw [sd.1]; kernel_rfl) ⟨fun hw ac u K => ?_, trivial⟩ ?_
  · exact st_assign (.const (.bool false)) rfl rfl
  intro f1 w1 A hb
  replace x0 := A.t x0 rfl
  replace bl := bgo bl hb
  replace sd := A.sd sd
  clear A hb
  show Code.wp _ _ _ _ _
  refine wp_seq ?_
  refine wp_seq ?_
  refine wr_a [.eq (v), .eq (.int .i64 (((ps).length : Nat) : Int)), .eq (.int .i64 0)] (by rw [sd.1]; kernel_rfl) ⟨fun hw ac u K => ?_, fun hw ac u K => ?_, fun hw ac u K => ?_, trivial⟩ ?_
  · exact st_move (.tmp 0) rfl (K.t x0 rfl)
  · exact st_lenm (.tmp 5) rfl (fk_val (K.dep 0 5 rfl) (Fk.mono _ _ _ _ hv (bgo bl K.grow)))
  · exact st_move (.const (.int .i64 0)) rfl rfl
  intro f2 w2 A hb
  replace x0 := A.t x0 rfl
  have x5 := A.e 0 5 rfl rfl
  have x6 := A.e 1 6 rfl rfl
  have x7 := A.e 2 7 rfl rfl
  replace bl := bgo bl hb
  replace sd := A.sd sd
  clear A hb
  show Code.wp _ _ _ _ _
  refine wp_block ?_
  refine wp_loop (fun f v1 => ∃ k : Nat, k ≤ (ps).length ∧ (∀ p ∈ ps.take k, p.bs.length ≤ 200) ∧ f.tmps.size = 18 ∧ f.defers = [] ∧ f.eval (.tmp 0) = v ∧ f.eval (.tmp 5) = v ∧ f.eval (.tmp 6) = .int .i64 (((ps).length : Nat) : Int) ∧ f.eval (.tmp 7) = .int .i64 (k : Int) ∧ Below w.heap.size w (v1)) (fun f _ => (ps).length - (intOf (f.eval (.tmp 7))).toNat) ⟨0, Nat.zero_le _, (by simp), sd.1, sd.2, x0, x5, x6, x7, bl⟩ ?_
  intro f3 w3 hI
  clear sd bl bl0 x0 x5 x6 x7
  obtain ⟨k, hk8, hall, sz, df, x0, x5, x6, x7, bl⟩ := hI
  have sd := And.intro sz df
  clear sz df
  have bl0 := bl
  have hcnt := x7
  refine wp_seq ?_
  by_cases hlt : k < (ps).length
  rotate_left
  · skip
    refine wr_a [.eq (.bool false)] (by rw [sd.1]; kernel_rfl) ⟨fun hw ac u K => ?_, trivial⟩ ?_
    · exact st_lss 3 (.tmp 7) (.tmp 6) rfl .i64 ((k : Int)) ((((ps).length : Nat) : Int)) (K.t x7 rfl) (K.t x6 rfl) _ (by rw [eq_comm, decide_eq_false_iff_not]; exact fun h => hlt (Int.ofNat_lt.1 h))
    intro f4 w4 A hb
    replace x0 := A.t x0 rfl
    replace x5 := A.t x5 rfl
    replace x6 := A.t x6 rfl
    replace x7 := A.t x7 rfl
    have x8 := A.e 0 8 rfl rfl
    replace bl := bgo bl hb
    replace sd := A.sd sd
    clear A hb
    show Code.wp _ _ _ _ _
    refine wp_seq ?_
    refine wp_cond_false x8 ?_
    refine wp_exit ?_
    show Code.wp _ _ _ _ _
    refine wp_seq ?_
    rw [List.take_of_length_le (by omega)] at hall
    by_cases h40 : (ps).length ≤ 40
    rotate_left
    · skip
      have hbf : false = b := by rw [hb]; symm; rw [decide_eq_false_iff_not]; exact fun h => h40 h.2
      refine wr_a [.eq (v), .eq (.int .i64 (((ps).length : Nat) : Int)), .eq (.bool false), .eq (.bool false)] (by rw [sd.1]; kernel_rfl) ⟨fun hw ac u K => ?_, fun hw ac u K => ?_, fun hw ac u K => ?_, fun hw ac u K => ?_, trivial⟩ ?_
      · exact st_move (.tmp 0) rfl (K.t x0 rfl)
      · exact st_lenm (.tmp 15) rfl (fk_val (K.dep 0 15 rfl) (Fk.mono _ _ _ _ hv (bgo bl K.grow)))
      · exact st_leq 3 (.tmp 16) (.const (.int .i64 40)) rfl .i64 ((((ps).length : Nat) : Int)) (40) (K.dep 1 16 rfl) rfl _ (by rw [eq_comm, decide_eq_false_iff_not]; omega)
      · exact st_assign (.tmp 17) rfl (K.dep 2 17 rfl)
      intro f5 w5 A hb
      replace x0 := A.t x0 rfl
      replace x5 := A.t x5 rfl
      replace x6 := A.t x6 rfl
      replace x7 := A.t x7 rfl
      replace x8 := A.t x8 rfl
      have x2 := A.e 3 2 rfl rfl
      replace bl := bgo bl hb
      replace sd := A.sd sd
      clear A hb
      clear x8
      show Code.wp _ _ _ _ _
      refine wp_ret ?_
      repeat (first | with_reducible refine then_ret ?_ | with_reducible refine block_ret ?_)
      exact bodyPost_ret (v := .bool false) (ret_slot rfl f5 _ x2 _ _) sd.2 ⟨_, rfl, by rw [← hbf]; rfl, bl⟩
    have hbf : true = b := by rw [hb]; symm; rw [decide_eq_true_iff]; exact ⟨hall, h40⟩
    refine wr_a [.eq (v), .eq (.int .i64 (((ps).length : Nat) : Int)), .eq (.bool true), .eq (.bool true)] (by rw [sd.1]; kernel_rfl) ⟨fun hw ac u K => ?_, fun hw ac u K => ?_, fun hw ac u K => ?_, fun hw ac u K => ?_, trivial⟩ ?_
    · exact st_move (.tmp 0) rfl (K.t x0 rfl)
    · exact st_lenm (.tmp 15) rfl (fk_val (K.dep 0 15 rfl) (Fk.mono _ _ _ _ hv (bgo bl K.grow)))
    · exact st_leq 3 (.tmp 16) (.const (.int .i64 40)) rfl .i64 ((((ps).length : Nat) : Int)) (40) (K.dep 1 16 rfl) rfl _ (by rw [eq_comm, decide_eq_true_iff]; omega)
    · exact st_assign (.tmp 17) rfl (K.dep 2 17 rfl)
    intro f5 w5 A hb
    replace x0 := A.t x0 rfl
    replace x5 := A.t x5 rfl
    replace x6 := A.t x6 rfl
    replace x7 := A.t x7 rfl
    replace x8 := A.t x8 rfl
    have x2 := A.e 3 2 rfl rfl
    replace bl := bgo bl hb
    replace sd := A.sd sd
    clear A hb
    clear x8
    show Code.wp _ _ _ _ _
    refine wp_ret ?_
    repeat (first | with_reducible refine then_ret ?_ | with_reducible refine block_ret ?_)
    exact bodyPost_ret (v := .bool true) (ret_slot rfl f5 _ x2 _ _) sd.2 ⟨_, rfl, by rw [← hbf]; rfl, bl⟩
  obtain ⟨p, hpk⟩ : ∃ p, ps[k]? = some p := ⟨_, List.getElem?_eq_getElem hlt⟩
  have hslp : (Fk.sl p.bs).f (.slice p.sp p.m p.c) w := ⟨_, _, _, _, _, rfl, mg_ok hv hpk⟩
  refine wr_a [.eq (.bool true)] (by rw [sd.1]; kernel_rfl) ⟨fun hw ac u K => ?_, trivial⟩ ?_
  · exact st_lss 3 (.tmp 7) (.tmp 6) rfl .i64 ((k : Int)) ((((ps).length : Nat) : Int)) (K.t x7 rfl) (K.t x6 rfl) _ (by rw [eq_comm, decide_eq_true_iff]; exact Int.ofNat_lt.2 hlt)
  intro f4 w4 A hb
  replace x0 := A.t x0 rfl
  replace x5 := A.t x5 rfl
  replace x6 := A.t x6 rfl
  replace x7 := A.t x7 rfl
  have x8 := A.e 0 8 rfl rfl
  replace bl := bgo bl hb
  replace sd := A.sd sd
  clear A hb
  show Code.wp _ _ _ _ _
  refine wp_seq ?_
  refine wp_cond_true x8 ?_
  refine wp_skip ?_
  show Code.wp _ _ _ _ _
  refine wp_seq ?_
  refine wp_block ?_
  refine wp_seq ?_
  refine wr_a [.pv (.slice p.sp p.m p.c), .eq (.slice p.sp p.m p.c), .eq (.slice p.sp p.m p.c)] (by rw [sd.1]; kernel_rfl) ⟨fun hw ac u K => ?_, fun hw ac u K => ?_, fun hw ac u K => ?_, trivial⟩ ?_
  · exact st_idxm (.tmp 5) (.tmp 7) rfl (fk_val (K.t x5 rfl) (Fk.mono _ _ _ _ hv (bgo bl K.grow))) k p (K.t x7 rfl) hpk
  · exact st_loadsl (.tmp 9) rfl (K.dep 0 9 rfl)
  · exact st_assign (.tmp 10) rfl (K.dep 1 10 rfl)
  intro f5 w5 A hb
  replace x0 := A.t x0 rfl
  replace x5 := A.t x5 rfl
  replace x6 := A.t x6 rfl
  replace x7 := A.t x7 rfl
  replace x8 := A.t x8 rfl
  have x4 := A.e 2 4 rfl rfl
  replace bl := bgo bl hb
  replace sd := A.sd sd
  clear A hb
  clear x8
  show Code.wp _ _ _ _ _
  refine wp_seq ?_
  by_cases h200 : 200 < p.bs.length
  rotate_left
  · skip
    refine wr_a [.eq (.slice p.sp p.m p.c), .eq (.int .i64 (((p.bs).length : Nat) : Int)), .eq (.bool false)] (by rw [sd.1]; kernel_rfl) ⟨fun hw ac u K => ?_, fun hw ac u K => ?_, fun hw ac u K => ?_, trivial⟩ ?_
    · exact st_move (.tmp 4) rfl (K.t x4 rfl)
    · exact st_lenb (.tmp 11) rfl (fk_val (K.dep 0 11 rfl) (Fk.mono _ _ _ _ hslp (bgo bl K.grow)))
    · exact st_gtr 3 (.tmp 12) (.const (.int .i64 200)) rfl .i64 ((((p.bs).length : Nat) : Int)) (200) (K.dep 1 12 rfl) rfl _ (by rw [eq_comm, decide_eq_false_iff_not]; omega)
    intro f6 w6 A hb
    replace x0 := A.t x0 rfl
    replace x5 := A.t x5 rfl
    replace x6 := A.t x6 rfl
    replace x7 := A.t x7 rfl
    replace x4 := A.t x4 rfl
    have x13 := A.e 2 13 rfl rfl
    replace bl := bgo bl hb
    replace sd := A.sd sd
    clear A hb
    clear x4
    show Code.wp _ _ _ _ _
    refine wp_cond_false x13 ?_
    refine wp_skip ?_
    show Code.wp _ _ _ _ _
    refine wr_s [.eq (.int .i64 ((k + 1 : Nat) : Int))] (by rw [sd.1]; kernel_rfl) ⟨fun hw ac u K => ?_, trivial⟩ ?_
    · exact st_addz (.tmp 7) (.const (.int .i64 1)) rfl _ _ _ (K.t x7 rfl) rfl (by omega) (by omega) (by omega)
    intro f7 w7 A hb
    replace x0 := A.t x0 rfl
    replace x5 := A.t x5 rfl
    replace x6 := A.t x6 rfl
    replace x7 := A.t x7 rfl
    replace x13 := A.t x13 rfl
    have x14 := A.e 0 14 rfl rfl
    replace bl := bgo bl hb
    replace sd := A.sd sd
    clear A hb
    clear x13
    refine wl_one (.eq (.int .i64 ((k + 1 : Nat) : Int))) rfl 7 rfl (by rw [sd.1]; decide) (st_move (.tmp 14) rfl x14) ?_
    intro f8 w8 df2 sz2 old2 new2 hb
    replace x0 := tr old2 x0 rfl
    replace x5 := tr old2 x5 rfl
    replace x6 := tr old2 x6 rfl
    clear x7
    replace x14 := tr old2 x14 rfl
    have x7 := Fk.e new2
    replace bl := bgo bl hb
    replace sd := sd2 sz2 df2 sd
    clear df2 sz2 old2 new2 hb
    refine wpList_nil ?_
    clear x14
    show (∃ _, _) ∧ _
    refine ⟨⟨k + 1, by omega, (by rw [take_one hpk]; intro q hq; rcases List.mem_append.1 hq with hq | hq; exact hall q hq; obtain rfl := List.mem_singleton.1 hq; omega), sd.1, sd.2, x0, x5, x6, x7, bl⟩, ?_⟩
    rw [show f8.eval (.tmp 7) = _ from x7, show _ = _ from hcnt]
    first | (simp [intOf]; done) | (simp [intOf]; omega)
  have hbf : false = b := by rw [hb]; symm; rw [decide_eq_false_iff_not]; exact fun h => by have := pt_small h hpk; omega
  refine wr_a [.eq (.slice p.sp p.m p.c), .eq (.int .i64 (((p.bs).length : Nat) : Int)), .eq (.bool true)] (by rw [sd.1]; kernel_rfl) ⟨fun hw ac u K => ?_, fun hw ac u K => ?_, fun hw ac u K => ?_, trivial⟩ ?_
  · exact st_move (.tmp 4) rfl (K.t x4 rfl)
  · exact st_lenb (.tmp 11) rfl (fk_val (K.dep 0 11 rfl) (Fk.mono _ _ _ _ hslp (bgo bl K.grow)))
  · exact st_gtr 3 (.tmp 12) (.const (.int .i64 200)) rfl .i64 ((((p.bs).length : Nat) : Int)) (200) (K.dep 1 12 rfl) rfl _ (by rw [eq_comm, decide_eq_true_iff]; omega)
  intro f6 w6 A hb
  replace x0 := A.t x0 rfl
  replace x5 := A.t x5 rfl
  replace x6 := A.t x6 rfl
  replace x7 := A.t x7 rfl
  replace x4 := A.t x4 rfl
  have x13 := A.e 2 13 rfl rfl
  replace bl := bgo bl hb
  replace sd := A.sd sd
  clear A hb
  clear x4
  show Code.wp _ _ _ _ _
  refine wp_cond_true x13 ?_
  refine wp_seq ?_
  refine wr_a [.eq (.bool false)] (by rw [sd.1]; kernel_rfl) ⟨fun hw ac u K => ?_, trivial⟩ ?_
  · exact st_assign (.const (.bool false)) rfl rfl
  intro f7 w7 A hb
  replace x0 := A.t x0 rfl
  replace x5 := A.t x5 rfl
  replace x6 := A.t x6 rfl
  replace x7 := A.t x7 rfl
  replace x13 := A.t x13 rfl
  have x2 := A.e 0 2 rfl rfl
  replace bl := bgo bl hb
  replace sd := A.sd sd
  clear A hb
  clear x13
  show Code.wp _ _ _ _ _
  refine wp_ret ?_
  repeat (first | with_reducible refine then_ret ?_ | with_reducible refine block_ret ?_)
  exact bodyPost_ret (v := .bool false) (ret_slot rfl f7 _ x2 _ _) sd.2 ⟨_, rfl, by rw [← hbf]; rfl, bl⟩
theorem fk_hashes {ps : List Pt} (h40 : ps.length ≤ 1000) (hmx : ∀ p ∈ ps, p.bs.length ≤ 140737488351232) {w : World} {v : Value} (hv : (Fk.mg ps).f v w) (hK : Tab w) :
    Calls Tryd.prog 14 #[v] w fun e w' => ∃ u, e = .returned u ∧ (Fk.ow w.heap.size (lhs ps)).f u w' ∧ Below w.heap.size w w' := by
  go_enter Tryd.func14, Tryd.ntmps14
  refine code_both (fun f w1 => f.tmps.size = 19 ∧ f.defers = [] ∧ f.eval (.tmp 0) = v ∧ Below w.heap.size w (w1)) ⟨rfl, rfl, rfl, Below.refl _ _⟩ ?_
  rintro f0 w0 ⟨sz, df, x0, bl⟩
  have sd := And.intro sz df
  clear sz df
  have bl0 := bl
  refine wp_seq ?_
  refine wr_a [.eq (.slice none 0 0)] (by rw [sd.1]; kernel_rfl) ⟨fun hw ac u K => ?_, trivial⟩ ?_
  · exact st_assign (.const (.slice none 0 0)) rfl rfl
  intro f1 w1 A hb
  replace x0 := A.t x0 rfl
  replace bl := bgo bl hb
  replace sd := A.sd sd
  clear A hb
  show Code.wp _ _ _ _ _
  refine wp_seq ?_
  refine wr_a [.ow w.heap.size ([])] (by rw [sd.1]; kernel_rfl) ⟨fun hw ac u K => ?_, trivial⟩ ?_
  · exact st_assign (.const (.slice none 0 0)) rfl (ow_nil _ _)
  intro f2 w2 A hb
  replace x0 := A.t x0 rfl
  have x3 : Fk.f (.ow w.heap.size ([])) (f2.eval (.tmp 3)) w2 := A.has 0 3 rfl
  replace bl := bgo bl hb
  replace sd := A.sd sd
  clear A hb
  show Code.wp _ _ _ _ _
  refine wp_seq ?_
  refine wp_seq ?_
  refine wr_a [.eq (v), .eq (.int .i64 (((ps).length : Nat) : Int)), .eq (.int .i64 0)] (by rw [sd.1]; kernel_rfl) ⟨fun hw ac u K => ?_, fun hw ac u K => ?_, fun hw ac u K => ?_, trivial⟩ ?_
  · exact st_move (.tmp 0) rfl (K.t x0 rfl)
  · exact st_lenm (.tmp 6) rfl (fk_val (K.dep 0 6 rfl) (Fk.mono _ _ _ _ hv (bgo bl K.grow)))
  · exact st_move (.const (.int .i64 0)) rfl rfl
  intro f3 w3 A hb
  replace x0 := A.t x0 rfl
  replace x3 := f_at (A.old 3 rfl) (Fk.mono _ _ _ _ x3 hb)
  have x6 := A.e 0 6 rfl rfl
  have x7 := A.e 1 7 rfl rfl
  have x8 := A.e 2 8 rfl rfl
  replace bl := bgo bl hb
  replace sd := A.sd sd
  clear A hb
  clear x0
  show Code.wp _ _ _ _ _
  refine wp_block ?_
  refine wp_loop (fun f v1 => ∃ k : Nat, k ≤ (ps).length ∧ f.tmps.size = 19 ∧ f.defers = [] ∧ f.eval (.tmp 6) = v ∧ f.eval (.tmp 7) = .int .i64 (((ps).length : Nat) : Int) ∧ f.eval (.tmp 8) = .int .i64 (k : Int) ∧ Fk.f (.ow w.heap.size ((lhs ps).take k)) (f.eval (.tmp 3)) v1 ∧ Below w.heap.size w (v1)) (fun f _ => (ps).length - (intOf (f.eval (.tmp 8))).toNat) ⟨0, Nat.zero_le _, sd.1, sd.2, x6, x7, x8, (by rw [List.take_zero]; exact x3), bl⟩ ?_
  intro f4 w4 hI
  clear sd bl bl0 x3 x6 x7 x8
  obtain ⟨k, hk8, sz, df, x6, x7, x8, x3, bl⟩ := hI
  have sd := And.intro sz df
  clear sz df
  have bl0 := bl
  have hcnt := x8
  refine wp_seq ?_
  by_cases hlt : k < (ps).length
  rotate_left
  · skip
    rw [List.take_of_length_le (by rw [lhs_len]; omega)] at x3
    refine wr_a [.eq (.bool false)] (by rw [sd.1]; kernel_rfl) ⟨fun hw ac u K => ?_, trivial⟩ ?_
    · exact st_lss 3 (.tmp 8) (.tmp 7) rfl .i64 ((k : Int)) ((((ps).length : Nat) : Int)) (K.t x8 rfl) (K.t x7 rfl) _ (by rw [eq_comm, decide_eq_false_iff_not]; exact fun h => hlt (Int.ofNat_lt.1 h))
    intro f5 w5 A hb
    replace x3 := f_at (A.old 3 rfl) (Fk.mono _ _ _ _ x3 hb)
    replace x6 := A.t x6 rfl
    replace x7 := A.t x7 rfl
    replace x8 := A.t x8 rfl
    have x9 := A.e 0 9 rfl rfl
    replace bl := bgo bl hb
    replace sd := A.sd sd
    clear A hb
    show Code.wp _ _ _ _ _
    refine wp_seq ?_
    refine wp_cond_false x9 ?_
    refine wp_exit ?_
    show Code.wp _ _ _ _ _
    refine wp_seq ?_
    refine wr_a [.ow w.heap.size (lhs ps), .ow w.heap.size (lhs ps)] (by rw [sd.1]; kernel_rfl) ⟨fun hw ac u K => ?_, fun hw ac u K => ?_, trivial⟩ ?_
    · exact st_move (.tmp 3) rfl (f_at (K.old 3 rfl) (Fk.mono _ _ _ _ x3 K.grow))
    · exact st_assign (.tmp 18) rfl (K.dep 0 18 rfl)
    intro f6 w6 A hb
    replace x3 := f_at (A.old 3 rfl) (Fk.mono _ _ _ _ x3 hb)
    replace x6 := A.t x6 rfl
    replace x7 := A.t x7 rfl
    replace x8 := A.t x8 rfl
    replace x9 := A.t x9 rfl
    have x2 : Fk.f (.ow w.heap.size (lhs ps)) (f6.eval (.tmp 2)) w6 := A.has 1 2 rfl
    replace bl := bgo bl hb
    replace sd := A.sd sd
    clear A hb
    clear x9
    show Code.wp _ _ _ _ _
    refine wp_ret ?_
    repeat (first | with_reducible refine then_ret ?_ | with_reducible refine block_ret ?_)
    exact bodyPost_ret (v := f6.eval (.tmp 2)) (ret_slot rfl f6 _ rfl _ _) sd.2 ⟨_, rfl, x2, bl⟩
  obtain ⟨p, hpk⟩ : ∃ p, ps[k]? = some p := ⟨_, List.getElem?_eq_getElem hlt⟩
  have hslp : (Fk.sl p.bs).f (.slice p.sp p.m p.c) w := ⟨_, _, _, _, _, rfl, mg_ok hv hpk⟩
  have hpl := hmx p (List.mem_of_getElem? hpk)
  obtain ⟨y, ey⟩ : ∃ y, Box (lf p.bs = y) := ⟨_, ⟨rfl⟩⟩
  have hy : y.length = 32 := by rw [← ey.out]; exact lf_len _
  refine wr_a [.eq (.bool true)] (by rw [sd.1]; kernel_rfl) ⟨fun hw ac u K => ?_, trivial⟩ ?_
  · exact st_lss 3 (.tmp 8) (.tmp 7) rfl .i64 ((k : Int)) ((((ps).length : Nat) : Int)) (K.t x8 rfl) (K.t x7 rfl) _ (by rw [eq_comm, decide_eq_true_iff]; exact Int.ofNat_lt.2 hlt)
  intro f5 w5 A hb
  replace x3 := f_at (A.old 3 rfl) (Fk.mono _ _ _ _ x3 hb)
  replace x6 := A.t x6 rfl
  replace x7 := A.t x7 rfl
  replace x8 := A.t x8 rfl
  have x9 := A.e 0 9 rfl rfl
  replace bl := bgo bl hb
  replace sd := A.sd sd
  clear A hb
  show Code.wp _ _ _ _ _
  refine wp_seq ?_
  refine wp_cond_true x9 ?_
  refine wp_skip ?_
  show Code.wp _ _ _ _ _
  refine wp_seq ?_
  refine wp_block ?_
  refine wp_seq ?_
  refine wr_a [.pv (.slice p.sp p.m p.c), .eq (.slice p.sp p.m p.c), .eq (.slice p.sp p.m p.c)] (by rw [sd.1]; kernel_rfl) ⟨fun hw ac u K => ?_, fun hw ac u K => ?_, fun hw ac u K => ?_, trivial⟩ ?_
  · exact st_idxm (.tmp 6) (.tmp 8) rfl (fk_val (K.t x6 rfl) (Fk.mono _ _ _ _ hv (bgo bl K.grow))) k p (K.t x8 rfl) hpk
  · exact st_loadsl (.tmp 10) rfl (K.dep 0 10 rfl)
  · exact st_assign (.tmp 11) rfl (K.dep 1 11 rfl)
  intro f6 w6 A hb
  replace x3 := f_at (A.old 3 rfl) (Fk.mono _ _ _ _ x3 hb)
  replace x6 := A.t x6 rfl
  replace x7 := A.t x7 rfl
  replace x8 := A.t x8 rfl
  replace x9 := A.t x9 rfl
  have x5 := A.e 2 5 rfl rfl
  replace bl := bgo bl hb
  replace sd := A.sd sd
  clear A hb
  clear x9
  show Code.wp _ _ _ _ _
  refine wr_s [.ow w.heap.size ((lhs ps).take k), .eq (.slice p.sp p.m p.c), .eq (.agg ((y).map V).toArray), .hs ([y])] (by rw [sd.1]; kernel_rfl) ⟨fun hw ac u K => ?_, fun hw ac u K => ?_, fun hw ac u K => ?_, fun hw ac u K => ?_, trivial⟩ ?_
  · exact st_move (.tmp 3) rfl (f_at (K.old 3 rfl) (Fk.mono _ _ _ _ x3 K.grow))
  · exact st_move (.tmp 5) rfl (K.t x5 rfl)
  · exact st_call 18 (.func 18) _ _ _ rfl rfl (one_arg (K.dep 1 13 rfl)) Tryd.enter18 (fk_leaf hpl (hK.below (bgo bl K.grow)) (Fk.mono _ _ _ _ hslp (bgo bl K.grow)) ey)
  · exact st_bh1 (.tmp 14) rfl hy (K.dep 2 14 rfl)
  intro f7 w7 A hb
  replace bl0 := bl
  replace x3 := f_at (A.old 3 rfl) (Fk.mono _ _ _ _ x3 hb)
  replace x6 := A.t x6 rfl
  replace x7 := A.t x7 rfl
  replace x8 := A.t x8 rfl
  replace x5 := A.t x5 rfl
  have x12 : Fk.f (.ow w.heap.size ((lhs ps).take k)) (f7.eval (.tmp 12)) w7 := A.has 0 12 rfl
  have x15 : Fk.f (.hs ([y])) (f7.eval (.tmp 15)) w7 := A.has 3 15 rfl
  replace bl := bgo bl hb
  replace sd := A.sd sd
  clear A hb
  clear x5
  refine wl_append rfl (.tmp 12) (.tmp 15) rfl 16 rfl (by rw [sd.1]; decide) x12 x15 bl (by rw [List.length_take, lhs_len]; omega) ?_
  intro f8 w8 df2 sz2 old2 new2 bl2
  clear x3
  clear x12
  clear x15
  replace x6 := tr old2 x6 rfl
  replace x7 := tr old2 x7 rfl
  replace x8 := tr old2 x8 rfl
  have x16 : Fk.f (.ow w.heap.size ((lhs ps).take k ++ [y])) (f8.eval (.tmp 16)) w8 := new2
  replace bl := bl2
  replace bl0 := bl
  replace sd := sd2 sz2 df2 sd
  clear df2 sz2 old2 new2 bl2
  refine wl_one (.ow w.heap.size ((lhs ps).take k ++ [y])) rfl 3 rfl (by rw [sd.1]; decide) (st_assign (.tmp 16) rfl x16) ?_
  intro f9 w9 df2 sz2 old2 new2 hb
  replace x6 := tr old2 x6 rfl
  replace x7 := tr old2 x7 rfl
  replace x8 := tr old2 x8 rfl
  replace x16 := f_at (old2 16 rfl) (Fk.mono _ _ _ _ x16 hb)
  have x3 : Fk.f (.ow w.heap.size ((lhs ps).take k ++ [y])) (f9.eval (.tmp 3)) w9 := new2
  replace bl := bgo bl hb
  replace sd := sd2 sz2 df2 sd
  clear df2 sz2 old2 new2 hb
  refine wpList_nil ?_
  clear x16
  show Code.wp _ _ _ _ _
  refine wr_s [.eq (.int .i64 ((k + 1 : Nat) : Int))] (by rw [sd.1]; kernel_rfl) ⟨fun hw ac u K => ?_, trivial⟩ ?_
  · exact st_add (.tmp 8) (.const (.int .i64 1)) rfl (k) (1) (k + 1) (K.t x8 rfl) rfl (by omega) (by omega)
  intro f10 w10 A hb
  replace x6 := A.t x6 rfl
  replace x7 := A.t x7 rfl
  replace x8 := A.t x8 rfl
  replace x3 := f_at (A.old 3 rfl) (Fk.mono _ _ _ _ x3 hb)
  have x17 := A.e 0 17 rfl rfl
  replace bl := bgo bl hb
  replace sd := A.sd sd
  clear A hb
  refine wl_one (.eq (.int .i64 ((k + 1 : Nat) : Int))) rfl 8 rfl (by rw [sd.1]; decide) (st_move (.tmp 17) rfl x17) ?_
  intro f11 w11 df2 sz2 old2 new2 hb
  replace x6 := tr old2 x6 rfl
  replace x7 := tr old2 x7 rfl
  clear x8
  replace x3 := f_at (old2 3 rfl) (Fk.mono _ _ _ _ x3 hb)
  replace x17 := tr old2 x17 rfl
  have x8 := Fk.e new2
  replace bl := bgo bl hb
  replace sd := sd2 sz2 df2 sd
  clear df2 sz2 old2 new2 hb
  refine wpList_nil ?_
  clear x17
  show (∃ _, _) ∧ _
  replace x3 : Fk.f (.ow w.heap.size ((lhs ps).take (k + 1))) (f11.eval (.tmp 3)) w11 := (by rw [take_one (lhs_at hpk), ey.out]; exact x3)
  refine ⟨⟨k + 1, by omega, sd.1, sd.2, x6, x7, x8, x3, bl⟩, ?_⟩
  rw [show f11.eval (.tmp 8) = _ from x8, show _ = _ from hcnt]
  first | (simp [intOf]; done) | (simp [intOf]; omega)
theorem st_nes {Q : Exit → Act → World → Prop} {o : Oper} {a : Act} {w : World} (x y : Operand) (ho : o.op = .binOp .neq 9 x y 9) (s t : ByteArray) (hx : a.eval x = .string s) (hy : a.eval y = .string t) (b : Bool) (hb : b = decide (s ≠ t)) : o.wp Tryd.prog a w (Ends a o.dst w (Fk.eq (.bool b)).f) Q := by
  subst hb
  refine st_bin .neq 9 9 x y ho hx hy ?_
  have := str_beq s t
  simp [eqGuard, binOp, Op.stringOp, this]
theorem st_stra {Q : Exit → Act → World → Prop} {o : Oper} {a : Act} {w : World} (x : Operand) (ho : o.op = .convert 22 9 x) {bs : List (BitVec 8)} (h : (Fk.sl bs).f (a.eval x) w) : o.wp Tryd.prog a w (Ends a o.dst w (Fk.eq (.string (str bs))).f) Q := by
  by_cases hne : 0 < bs.length
  · exact st_str x ho hne h
  · have hb0 : bs = [] := List.eq_nil_of_length_eq_zero (by omega)
    subst hb0
    obtain ⟨sp, m, c, b, so, e, hs⟩ := h
    refine st_pure (v := .string (str [])) ?_ rfl
    have hm : m = 0 := hs.len
    subst hm
    have hr : (convert 22 9 (.slice sp 0 c)).run Tryd.prog w = .ok (.string (str [])) w := by
      cases sp with
      | none => exact run_convert_bytes_nil (P := Tryd.prog) w 22 5 Tryd.under22 Tryd.under5 0 c 9 Tryd.under9
      | some A =>
        rw [run_convert_bytes_string w 22 9 5 (some A) 0 c Tryd.under22 Tryd.under5 Tryd.under9, run_bytesToString w A 0 c [] (by rfl)]
        rfl
    unfold execOp
    rw [ho]
    simp [e, hr]
theorem fk_lright {A B : List (BitVec 8)} (hlA : A.length ≤ 100000) (hlB : B.length ≤ 100000) {u1 u2 : Value} {w : World} (hA : (Fk.sl A).f u1 w) (hB : (Fk.sl B).f u2 w) (hK : Tab w) {b : Bool} (hb : b = decide (rcol A B)) :
    Calls Tryd.prog 10 #[.agg ([u1, u2] : List Value).toArray] w fun e w' => ∃ u, e = .returned u ∧ (Fk.eq (.bool b)).f u w' ∧ Below w.heap.size w w' := by
  obtain ⟨x, ex⟩ : ∃ x, Box (shaOf A = x) := ⟨_, ⟨rfl⟩⟩
  obtain ⟨y, ey⟩ : ∃ x, Box (shaOf B = x) := ⟨_, ⟨rfl⟩⟩
  have hx : x.length = 32 := by rw [← ex.out]; exact shaOf_len _
  have hy : y.length = 32 := by rw [← ey.out]; exact shaOf_len _
  go_enter Tryd.func10, Tryd.ntmps10
  refine code_both (fun f w1 => f.tmps.size = 19 ∧ f.defers = [] ∧ f.eval (.tmp 0) = .agg ([u1, u2] : List Value).toArray ∧ Below w.heap.size w (w1)) ⟨rfl, rfl, rfl, Below.refl _ _⟩ ?_
  rintro f0 w0 ⟨sz, df, x0, bl⟩
  have sd := And.intro sz df
  clear sz df
  have bl0 := bl
  refine wp_seq ?_
  refine wr_a [.nw w0.heap.size 25 ([u1, u2] : List Value), .eq (.bool false)] (by rw [sd.1]; kernel_rfl) ⟨fun hw ac u K => ?_, fun hw ac u K => ?_, trivial⟩ ?_
  · exact st_box 25 (.tmp 0) rfl _ _ (by rw [show _ = _ from (K.t x0 rfl)]; kernel_rfl) K.grow.size
  · exact st_assign (.const (.bool false)) rfl rfl
  intro f1 w1 A hb
  replace bl0 := bl
  replace x0 := A.t x0 rfl
  have x1 : Fk.f (.nw w0.heap.size 25 ([u1, u2] : List Value)) (f1.eval (.tmp 1)) w1 := A.has 0 1 rfl
  replace bl := bgo bl hb
  replace sd := A.sd sd
  clear A hb
  clear x0
  obtain ⟨g1, hg1, e1, m1⟩ := x1
  have x1 := e1
  clear e1
  have hw1 : w.heap.size ≤ g1 := Nat.le_trans bl0.size hg1
  show Code.wp _ _ _ _ _
  refine wp_seq ?_
  by_cases hAB : A = B
  rotate_left
  · skip
    by_cases hxy : x = y
    rotate_left
    · skip
      have hbf : false = b := by rw [hb]; symm; rw [decide_eq_false_iff_not]; exact fun h => hxy (by rw [← ex.out, ← ey.out]; exact h.2)
      refine wr_d [.eq (.pointer (some ⟨g1, 0, none⟩)), .eq (u1), .eq (.string (str (A))), .eq (.pointer (some ⟨g1, 1, none⟩)), .eq (u2), .eq (.string (str (B))), .eq (.bool true), .eq (.bool true), .eq (.pointer (some ⟨g1, 0, none⟩)), .eq (u1), .eq (.agg ((x).map V).toArray), .eq (.pointer (some ⟨g1, 1, none⟩)), .eq (u2), .eq (.agg ((y).map V).toArray), .eq (.bool false), .eq (.bool false), .eq (.bool false)] Tryd.mixed (by rw [sd.1]; kernel_rfl) ⟨fun hw ac u K => ?_, fun hw ac u K => ?_, fun hw ac u K => ?_, fun hw ac u K => ?_, fun hw ac u K => ?_, fun hw ac u K => ?_, fun hw ac u K => ?_, fun hw ac u K => ?_, fun hw ac u K => ?_, fun hw ac u K => ?_, fun hw ac u K => ?_, fun hw ac u K => ?_, fun hw ac u K => ?_, fun hw ac u K => ?_, fun hw ac u K => ?_, fun hw ac u K => ?_, fun hw ac u K => ?_, trivial⟩ ?_
      · exact st_field 25 0 (.tmp 1) rfl (K.t x1 rfl) (by kernel_rfl)
      · exact st_loadc 22 (.tmp 3) rfl (by kernel_rfl) (K.dep 0 3 rfl) (Ob.cell (Ob.below m1 K.grow) 0 rfl)
      · exact st_stra (.tmp 4) rfl (fk_val (K.dep 1 4 rfl) (Fk.mono _ _ _ _ hA (bgo bl K.grow)))
      · exact st_field 25 1 (.tmp 1) rfl (K.t x1 rfl) (by kernel_rfl)
      · exact st_loadc 22 (.tmp 6) rfl (by kernel_rfl) (K.dep 3 6 rfl) (Ob.cell (Ob.below m1 K.grow) 1 rfl)
      · exact st_stra (.tmp 7) rfl (fk_val (K.dep 4 7 rfl) (Fk.mono _ _ _ _ hB (bgo bl K.grow)))
      · exact st_nes (.tmp 5) (.tmp 8) rfl (str (A)) (str (B)) (K.dep 2 5 rfl) (K.dep 5 8 rfl) _ (by symm; rw [decide_eq_true_iff]; exact fun h => hAB (str_inj h))
      · exact st_move (.tmp 9) rfl (K.dep 6 9 rfl)
      · exact st_field 25 0 (.tmp 1) rfl (K.t x1 rfl) (by kernel_rfl)
      · exact st_loadc 22 (.tmp 11) rfl (by kernel_rfl) (K.dep 8 11 rfl) (Ob.cell (Ob.below m1 K.grow) 0 rfl)
      · exact st_call 26 (.func 26) _ _ _ rfl rfl (one_arg (K.dep 9 12 rfl)) Tryd.enter26 (by rw [← ex.out]; exact fk_sum (by omega) (hK.below (bgo bl K.grow)) (Fk.mono _ _ _ _ hA (bgo bl K.grow)))
      · exact st_field 25 1 (.tmp 1) rfl (K.t x1 rfl) (by kernel_rfl)
      · exact st_loadc 22 (.tmp 14) rfl (by kernel_rfl) (K.dep 11 14 rfl) (Ob.cell (Ob.below m1 K.grow) 1 rfl)
      · exact st_call 26 (.func 26) _ _ _ rfl rfl (one_arg (K.dep 12 15 rfl)) Tryd.enter26 (by rw [← ey.out]; exact fk_sum (by omega) (hK.below (bgo bl K.grow)) (Fk.mono _ _ _ _ hB (bgo bl K.grow)))
      · exact st_eqh (.tmp 13) (.tmp 16) rfl (x) (y) hx hy (K.dep 10 13 rfl) (K.dep 13 16 rfl) _ (by simp [hxy])
      · exact st_pick_t (.tmp 10) (.tmp 17) (.const (.bool false)) rfl (K.dep 7 10 rfl) (K.dep 14 17 rfl)
      · exact st_assign (.tmp 18) rfl (K.dep 15 18 rfl)
      intro f2 w2 A hb
      replace x1 := A.t x1 rfl
      have x2 := A.e 16 2 rfl rfl
      replace m1 := Ob.below m1 hb
      replace bl := bgo bl hb
      replace sd := A.sd sd
      clear A hb
      clear x1
      clear m1
      show Code.wp _ _ _ _ _
      refine wp_ret ?_
      repeat (first | with_reducible refine then_ret ?_ | with_reducible refine block_ret ?_)
      exact bodyPost_ret (v := .bool false) (ret_slot rfl f2 _ x2 _ _) sd.2 ⟨_, rfl, by rw [← hbf]; rfl, bl⟩
    have hbf : true = b := by rw [hb]; symm; rw [decide_eq_true_iff]; exact ⟨hAB, by rw [ex.out, ey.out]; exact hxy⟩
    refine wr_d [.eq (.pointer (some ⟨g1, 0, none⟩)), .eq (u1), .eq (.string (str (A))), .eq (.pointer (some ⟨g1, 1, none⟩)), .eq (u2), .eq (.string (str (B))), .eq (.bool true), .eq (.bool true), .eq (.pointer (some ⟨g1, 0, none⟩)), .eq (u1), .eq (.agg ((x).map V).toArray), .eq (.pointer (some ⟨g1, 1, none⟩)), .eq (u2), .eq (.agg ((y).map V).toArray), .eq (.bool true), .eq (.bool true), .eq (.bool true)] Tryd.mixed (by rw [sd.1]; kernel_rfl) ⟨fun hw ac u K => ?_, fun hw ac u K => ?_, fun hw ac u K => ?_, fun hw ac u K => ?_, fun hw ac u K => ?_, fun hw ac u K => ?_, fun hw ac u K => ?_, fun hw ac u K => ?_, fun hw ac u K => ?_, fun hw ac u K => ?_, fun hw ac u K => ?_, fun hw ac u K => ?_, fun hw ac u K => ?_, fun hw ac u K => ?_, fun hw ac u K => ?_, fun hw ac u K => ?_, fun hw ac u K => ?_, trivial⟩ ?_
    · exact st_field 25 0 (.tmp 1) rfl (K.t x1 rfl) (by kernel_rfl)
    · exact st_loadc 22 (.tmp 3) rfl (by kernel_rfl) (K.dep 0 3 rfl) (Ob.cell (Ob.below m1 K.grow) 0 rfl)
    · exact st_stra (.tmp 4) rfl (fk_val (K.dep 1 4 rfl) (Fk.mono _ _ _ _ hA (bgo bl K.grow)))
    · exact st_field 25 1 (.tmp 1) rfl (K.t x1 rfl) (by kernel_rfl)
    · exact st_loadc 22 (.tmp 6) rfl (by kernel_rfl) (K.dep 3 6 rfl) (Ob.cell (Ob.below m1 K.grow) 1 rfl)
    · exact st_stra (.tmp 7) rfl (fk_val (K.dep 4 7 rfl) (Fk.mono _ _ _ _ hB (bgo bl K.grow)))
    · exact st_nes (.tmp 5) (.tmp 8) rfl (str (A)) (str (B)) (K.dep 2 5 rfl) (K.dep 5 8 rfl) _ (by symm; rw [decide_eq_true_iff]; exact fun h => hAB (str_inj h))
    · exact st_move (.tmp 9) rfl (K.dep 6 9 rfl)
    · exact st_field 25 0 (.tmp 1) rfl (K.t x1 rfl) (by kernel_rfl)
    · exact st_loadc 22 (.tmp 11) rfl (by kernel_rfl) (K.dep 8 11 rfl) (Ob.cell (Ob.below m1 K.grow) 0 rfl)
    · exact st_call 26 (.func 26) _ _ _ rfl rfl (one_arg (K.dep 9 12 rfl)) Tryd.enter26 (by rw [← ex.out]; exact fk_sum (by omega) (hK.below (bgo bl K.grow)) (Fk.mono _ _ _ _ hA (bgo bl K.grow)))
    · exact st_field 25 1 (.tmp 1) rfl (K.t x1 rfl) (by kernel_rfl)
    · exact st_loadc 22 (.tmp 14) rfl (by kernel_rfl) (K.dep 11 14 rfl) (Ob.cell (Ob.below m1 K.grow) 1 rfl)
    · exact st_call 26 (.func 26) _ _ _ rfl rfl (one_arg (K.dep 12 15 rfl)) Tryd.enter26 (by rw [← ey.out]; exact fk_sum (by omega) (hK.below (bgo bl K.grow)) (Fk.mono _ _ _ _ hB (bgo bl K.grow)))
    · exact st_eqh (.tmp 13) (.tmp 16) rfl (x) (y) hx hy (K.dep 10 13 rfl) (K.dep 13 16 rfl) _ (by simp [hxy])
    · exact st_pick_t (.tmp 10) (.tmp 17) (.const (.bool false)) rfl (K.dep 7 10 rfl) (K.dep 14 17 rfl)
    · exact st_assign (.tmp 18) rfl (K.dep 15 18 rfl)
    intro f2 w2 A hb
    replace x1 := A.t x1 rfl
    have x2 := A.e 16 2 rfl rfl
    replace m1 := Ob.below m1 hb
    replace bl := bgo bl hb
    replace sd := A.sd sd
    clear A hb
    clear x1
    clear m1
    show Code.wp _ _ _ _ _
    refine wp_ret ?_
    repeat (first | with_reducible refine then_ret ?_ | with_reducible refine block_ret ?_)
    exact bodyPost_ret (v := .bool true) (ret_slot rfl f2 _ x2 _ _) sd.2 ⟨_, rfl, by rw [← hbf]; rfl, bl⟩
  have hbf : false = b := by rw [hb]; symm; rw [decide_eq_false_iff_not]; exact fun h => h.1 hAB
  refine wr_d [.eq (.pointer (some ⟨g1, 0, none⟩)), .eq (u1), .eq (.string (str (A))), .eq (.pointer (some ⟨g1, 1, none⟩)), .eq (u2), .eq (.string (str (B))), .eq (.bool false), .eq (.bool false), .any, .any, .any, .any, .any, .any, .any, .eq (.bool false), .eq (.bool false)] Tryd.mixed (by rw [sd.1]; kernel_rfl) ⟨fun hw ac u K => ?_, fun hw ac u K => ?_, fun hw ac u K => ?_, fun hw ac u K => ?_, fun hw ac u K => ?_, fun hw ac u K => ?_, fun hw ac u K => ?_, fun hw ac u K => ?_, fun hw ac u K => ?_, fun hw ac u K => ?_, fun hw ac u K => ?_, fun hw ac u K => ?_, fun hw ac u K => ?_, fun hw ac u K => ?_, fun hw ac u K => ?_, fun hw ac u K => ?_, fun hw ac u K => ?_, trivial⟩ ?_
  · exact st_field 25 0 (.tmp 1) rfl (K.t x1 rfl) (by kernel_rfl)
  · exact st_loadc 22 (.tmp 3) rfl (by kernel_rfl) (K.dep 0 3 rfl) (Ob.cell (Ob.below m1 K.grow) 0 rfl)
  · exact st_stra (.tmp 4) rfl (fk_val (K.dep 1 4 rfl) (Fk.mono _ _ _ _ hA (bgo bl K.grow)))
  · exact st_field 25 1 (.tmp 1) rfl (K.t x1 rfl) (by kernel_rfl)
  · exact st_loadc 22 (.tmp 6) rfl (by kernel_rfl) (K.dep 3 6 rfl) (Ob.cell (Ob.below m1 K.grow) 1 rfl)
  · exact st_stra (.tmp 7) rfl (fk_val (K.dep 4 7 rfl) (Fk.mono _ _ _ _ hB (bgo bl K.grow)))
  · exact st_nes (.tmp 5) (.tmp 8) rfl (str (A)) (str (B)) (K.dep 2 5 rfl) (K.dep 5 8 rfl) _ (by rw [hAB]; simp)
  · exact st_move (.tmp 9) rfl (K.dep 6 9 rfl)
  · exact (Bool.false_ne_true hw).elim
  · exact (Bool.false_ne_true hw).elim
  · exact (Bool.false_ne_true hw).elim
  · exact (Bool.false_ne_true hw).elim
  · exact (Bool.false_ne_true hw).elim
  · exact (Bool.false_ne_true hw).elim
  · exact (Bool.false_ne_true hw).elim
  · exact st_pick_f' (.tmp 10) (.tmp 17) (.const (.bool false)) rfl (K.dep 7 10 rfl) rfl
  · exact st_assign (.tmp 18) rfl (K.dep 15 18 rfl)
  intro f2 w2 A hb
  replace x1 := A.t x1 rfl
  have x2 := A.e 16 2 rfl rfl
  replace m1 := Ob.below m1 hb
  replace bl := bgo bl hb
  replace sd := A.sd sd
  clear A hb
  clear x1
  clear m1
  show Code.wp _ _ _ _ _
  refine wp_ret ?_
  repeat (first | with_reducible refine then_ret ?_ | with_reducible refine block_ret ?_)
  exact bodyPost_ret (v := .bool false) (ret_slot rfl f2 _ x2 _ _) sd.2 ⟨_, rfl, by rw [← hbf]; rfl, bl⟩
theorem fk_same {pa pb : List Pt} (hma : pa.length ≤ 1000) (_hmb : pb.length ≤ 1000) {w : World} {va vb : Value} (ha : (Fk.mg pa).f va w) (hb : (Fk.mg pb).f vb w) {b : Bool} (hbb : b = decide (bys pa = bys pb)) :
    Calls Tryd.prog 15 #[va, vb] w fun e w' => ∃ u, e = .returned u ∧ (Fk.eq (.bool b)).f u w' ∧ Below w.heap.size w w' := by
  go_enter Tryd.func15, Tryd.ntmps15
  refine code_both (fun f w1 => f.tmps.size = 28 ∧ f.defers = [] ∧ f.eval (.tmp 0) = va ∧ f.eval (.tmp 1) = vb ∧ Below w.heap.size w (w1)) ⟨rfl, rfl, rfl, rfl, Below.refl _ _⟩ ?_
  rintro f0 w0 ⟨sz, df, x0, x1, bl⟩
  have sd := And.intro sz df
  clear sz df
  have bl0 := bl
  refine wp_seq ?_
  refine wr_a [.eq (.bool false)] (by rw [sd.1]; kernel_rfl) ⟨fun hw ac u K => ?_, trivial⟩ ?_
  · exact st_assign (.const (.bool false)) rfl rfl
  intro f1 w1 A hb
  replace x0 := A.t x0 rfl
  replace x1 := A.t x1 rfl
  replace bl := bgo bl hb
  replace sd := A.sd sd
  clear A hb
  show Code.wp _ _ _ _ _
  refine wp_seq ?_
  refine wp_seq ?_
  by_cases hl : (pa).length = (pb).length
  rotate_left
  · skip
    have hbf : false = b := by rw [hbb]; symm; rw [decide_eq_false_iff_not]; exact fun h => hl (by have := congrArg List.length h; rwa [bys_len, bys_len] at this)
    refine wr_a [.eq (va), .eq (.int .i64 (((pa).length : Nat) : Int)), .eq (vb), .eq (.int .i64 (((pb).length : Nat) : Int)), .eq (.bool true)] (by rw [sd.1]; kernel_rfl) ⟨fun hw ac u K => ?_, fun hw ac u K => ?_, fun hw ac u K => ?_, fun hw ac u K => ?_, fun hw ac u K => ?_, trivial⟩ ?_
    · exact st_move (.tmp 0) rfl (K.t x0 rfl)
    · exact st_lenm (.tmp 6) rfl (fk_val (K.dep 0 6 rfl) (Fk.mono _ _ _ _ ha (bgo bl K.grow)))
    · exact st_move (.tmp 1) rfl (K.t x1 rfl)
    · exact st_lenm (.tmp 8) rfl (fk_val (K.dep 2 8 rfl) (Fk.mono _ _ _ _ hb (bgo bl K.grow)))
    · exact st_neqi 3 (.tmp 7) (.tmp 9) rfl .i64 ((((pa).length : Nat) : Int)) ((((pb).length : Nat) : Int)) (K.dep 1 7 rfl) (K.dep 3 9 rfl) _ (by symm; rw [decide_eq_true_iff]; omega)
    intro f2 w2 A hb
    replace x0 := A.t x0 rfl
    replace x1 := A.t x1 rfl
    have x10 := A.e 4 10 rfl rfl
    replace bl := bgo bl hb
    replace sd := A.sd sd
    clear A hb
    show Code.wp _ _ _ _ _
    refine wp_cond_true x10 ?_
    refine wp_seq ?_
    refine wr_a [.eq (.bool false)] (by rw [sd.1]; kernel_rfl) ⟨fun hw ac u K => ?_, trivial⟩ ?_
    · exact st_assign (.const (.bool false)) rfl rfl
    intro f3 w3 A hb
    replace x0 := A.t x0 rfl
    replace x1 := A.t x1 rfl
    replace x10 := A.t x10 rfl
    have x4 := A.e 0 4 rfl rfl
    replace bl := bgo bl hb
    replace sd := A.sd sd
    clear A hb
    clear x0
    clear x1
    clear x10
    show Code.wp _ _ _ _ _
    refine wp_ret ?_
    repeat (first | with_reducible refine then_ret ?_ | with_reducible refine block_ret ?_)
    exact bodyPost_ret (v := .bool false) (ret_slot rfl f3 _ x4 _ _) sd.2 ⟨_, rfl, by rw [← hbf]; rfl, bl⟩
  refine wr_a [.eq (va), .eq (.int .i64 (((pa).length : Nat) : Int)), .eq (vb), .eq (.int .i64 (((pb).length : Nat) : Int)), .eq (.bool false)] (by rw [sd.1]; kernel_rfl) ⟨fun hw ac u K => ?_, fun hw ac u K => ?_, fun hw ac u K => ?_, fun hw ac u K => ?_, fun hw ac u K => ?_, trivial⟩ ?_
  · exact st_move (.tmp 0) rfl (K.t x0 rfl)
  · exact st_lenm (.tmp 6) rfl (fk_val (K.dep 0 6 rfl) (Fk.mono _ _ _ _ ha (bgo bl K.grow)))
  · exact st_move (.tmp 1) rfl (K.t x1 rfl)
  · exact st_lenm (.tmp 8) rfl (fk_val (K.dep 2 8 rfl) (Fk.mono _ _ _ _ hb (bgo bl K.grow)))
  · exact st_neqi 3 (.tmp 7) (.tmp 9) rfl .i64 ((((pa).length : Nat) : Int)) ((((pb).length : Nat) : Int)) (K.dep 1 7 rfl) (K.dep 3 9 rfl) _ (by simp [hl])
  intro f2 w2 A hb
  replace x0 := A.t x0 rfl
  replace x1 := A.t x1 rfl
  have x10 := A.e 4 10 rfl rfl
  replace bl := bgo bl hb
  replace sd := A.sd sd
  clear A hb
  show Code.wp _ _ _ _ _
  refine wp_cond_false x10 ?_
  refine wp_skip ?_
  show Code.wp _ _ _ _ _
  refine wp_seq ?_
  refine wp_seq ?_
  refine wr_a [.eq (.int .i64 0)] (by rw [sd.1]; kernel_rfl) ⟨fun hw ac u K => ?_, trivial⟩ ?_
  · exact st_assign (.const (.int .i64 0)) rfl rfl
  intro f3 w3 A hb
  replace x0 := A.t x0 rfl
  replace x1 := A.t x1 rfl
  replace x10 := A.t x10 rfl
  have x5 := A.e 0 5 rfl rfl
  replace bl := bgo bl hb
  replace sd := A.sd sd
  clear A hb
  clear x10
  show Code.wp _ _ _ _ _
  refine wp_block ?_
  refine wp_loop (fun f v1 => ∃ k : Nat, k ≤ (pa).length ∧ (bys pa).take k = (bys pb).take k ∧ f.tmps.size = 28 ∧ f.defers = [] ∧ f.eval (.tmp 0) = va ∧ f.eval (.tmp 1) = vb ∧ f.eval (.tmp 5) = .int .i64 (k : Int) ∧ Below w.heap.size w (v1)) (fun f _ => (pa).length - (intOf (f.eval (.tmp 5))).toNat) ⟨0, Nat.zero_le _, (by simp), sd.1, sd.2, x0, x1, x5, bl⟩ ?_
  intro f4 w4 hI
  clear sd bl bl0 x0 x1 x5
  obtain ⟨k, hk8, hall, sz, df, x0, x1, x5, bl⟩ := hI
  have sd := And.intro sz df
  clear sz df
  have bl0 := bl
  have hcnt := x5
  refine wp_seq ?_
  refine wp_seq ?_
  by_cases hlt : k < (pa).length
  rotate_left
  · skip
    have hbf : true = b := by rw [hbb]; symm; rw [decide_eq_true_iff]; rw [List.take_of_length_le (by rw [bys_len]; omega), List.take_of_length_le (by rw [bys_len]; omega)] at hall; exact hall
    refine wr_a [.eq (.int .i64 (k : Int)), .eq (va), .eq (.int .i64 (((pa).length : Nat) : Int)), .eq (.bool false)] (by rw [sd.1]; kernel_rfl) ⟨fun hw ac u K => ?_, fun hw ac u K => ?_, fun hw ac u K => ?_, fun hw ac u K => ?_, trivial⟩ ?_
    · exact st_move (.tmp 5) rfl (K.t x5 rfl)
    · exact st_move (.tmp 0) rfl (K.t x0 rfl)
    · exact st_lenm (.tmp 12) rfl (fk_val (K.dep 1 12 rfl) (Fk.mono _ _ _ _ ha (bgo bl K.grow)))
    · exact st_lss 3 (.tmp 11) (.tmp 13) rfl .i64 ((k : Int)) ((((pa).length : Nat) : Int)) (K.dep 0 11 rfl) (K.dep 2 13 rfl) _ (by rw [eq_comm, decide_eq_false_iff_not]; exact fun h => hlt (Int.ofNat_lt.1 h))
    intro f5 w5 A hb
    replace x0 := A.t x0 rfl
    replace x1 := A.t x1 rfl
    replace x5 := A.t x5 rfl
    have x14 := A.e 3 14 rfl rfl
    replace bl := bgo bl hb
    replace sd := A.sd sd
    clear A hb
    show Code.wp _ _ _ _ _
    refine wp_cond_false x14 ?_
    refine wp_exit ?_
    show Code.wp _ _ _ _ _
    refine wp_seq ?_
    refine wr_a [.eq (.bool true)] (by rw [sd.1]; kernel_rfl) ⟨fun hw ac u K => ?_, trivial⟩ ?_
    · exact st_assign (.const (.bool true)) rfl rfl
    intro f6 w6 A hb
    replace x0 := A.t x0 rfl
    replace x1 := A.t x1 rfl
    replace x5 := A.t x5 rfl
    replace x14 := A.t x14 rfl
    have x4 := A.e 0 4 rfl rfl
    replace bl := bgo bl hb
    replace sd := A.sd sd
    clear A hb
    clear x14
    show Code.wp _ _ _ _ _
    refine wp_ret ?_
    repeat (first | with_reducible refine then_ret ?_ | with_reducible refine block_ret ?_)
    exact bodyPost_ret (v := .bool true) (ret_slot rfl f6 _ x4 _ _) sd.2 ⟨_, rfl, by rw [← hbf]; rfl, bl⟩
  have hlt2 : k < (pb).length := by omega
  obtain ⟨p, hpk⟩ : ∃ p, pa[k]? = some p := ⟨_, List.getElem?_eq_getElem hlt⟩
  have hslp : (Fk.sl p.bs).f (.slice p.sp p.m p.c) w := ⟨_, _, _, _, _, rfl, mg_ok ha hpk⟩
  obtain ⟨q, hqk⟩ : ∃ p, pb[k]? = some p := ⟨_, List.getElem?_eq_getElem hlt2⟩
  have hslq : (Fk.sl q.bs).f (.slice q.sp q.m q.c) w := ⟨_, _, _, _, _, rfl, mg_ok hb hqk⟩
  refine wr_a [.eq (.int .i64 (k : Int)), .eq (va), .eq (.int .i64 (((pa).length : Nat) : Int)), .eq (.bool true)] (by rw [sd.1]; kernel_rfl) ⟨fun hw ac u K => ?_, fun hw ac u K => ?_, fun hw ac u K => ?_, fun hw ac u K => ?_, trivial⟩ ?_
  · exact st_move (.tmp 5) rfl (K.t x5 rfl)
  · exact st_move (.tmp 0) rfl (K.t x0 rfl)
  · exact st_lenm (.tmp 12) rfl (fk_val (K.dep 1 12 rfl) (Fk.mono _ _ _ _ ha (bgo bl K.grow)))
  · exact st_lss 3 (.tmp 11) (.tmp 13) rfl .i64 ((k : Int)) ((((pa).length : Nat) : Int)) (K.dep 0 11 rfl) (K.dep 2 13 rfl) _ (by rw [eq_comm, decide_eq_true_iff]; exact Int.ofNat_lt.2 hlt)
  intro f5 w5 A hb
  replace x0 := A.t x0 rfl
  replace x1 := A.t x1 rfl
  replace x5 := A.t x5 rfl
  have x14 := A.e 3 14 rfl rfl
  replace bl := bgo bl hb
  replace sd := A.sd sd
  clear A hb
  show Code.wp _ _ _ _ _
  refine wp_cond_true x14 ?_
  refine wp_skip ?_
  show Code.wp _ _ _ _ _
  refine wp_seq ?_
  refine wp_block ?_
  refine wp_seq ?_
  by_cases hpq : p.bs = q.bs
  rotate_left
  · skip
    have hbf : false = b := by rw [hbb]; symm; rw [decide_eq_false_iff_not]; exact fun h => hpq (by have e1 := bys_at hpk; rw [h, bys_at hqk] at e1; exact (Option.some.inj e1).symm)
    refine wr_d [.eq (va), .eq (.int .i64 (k : Int)), .pv (.slice p.sp p.m p.c), .eq (.slice p.sp p.m p.c), .eq (.string (str (p.bs))), .eq (vb), .eq (.int .i64 (k : Int)), .pv (.slice q.sp q.m q.c), .eq (.slice q.sp q.m q.c), .eq (.string (str (q.bs))), .eq (.bool true)] Tryd.mixed (by rw [sd.1]; kernel_rfl) ⟨fun hw ac u K => ?_, fun hw ac u K => ?_, fun hw ac u K => ?_, fun hw ac u K => ?_, fun hw ac u K => ?_, fun hw ac u K => ?_, fun hw ac u K => ?_, fun hw ac u K => ?_, fun hw ac u K => ?_, fun hw ac u K => ?_, fun hw ac u K => ?_, trivial⟩ ?_
    · exact st_move (.tmp 0) rfl (K.t x0 rfl)
    · exact st_move (.tmp 5) rfl (K.t x5 rfl)
    · exact st_idxm (.tmp 17) (.tmp 18) rfl (fk_val (K.dep 0 17 rfl) (Fk.mono _ _ _ _ ha (bgo bl K.grow))) k p (K.dep 1 18 rfl) hpk
    · exact st_loadsl (.tmp 19) rfl (K.dep 2 19 rfl)
    · exact st_stra (.tmp 20) rfl (fk_val (K.dep 3 20 rfl) (Fk.mono _ _ _ _ hslp (bgo bl K.grow)))
    · exact st_move (.tmp 1) rfl (K.t x1 rfl)
    · exact st_move (.tmp 5) rfl (K.t x5 rfl)
    · exact st_idxm (.tmp 22) (.tmp 23) rfl (fk_val (K.dep 5 22 rfl) (Fk.mono _ _ _ _ hb (bgo bl K.grow))) k q (K.dep 6 23 rfl) hqk
    · exact st_loadsl (.tmp 24) rfl (K.dep 7 24 rfl)
    · exact st_stra (.tmp 25) rfl (fk_val (K.dep 8 25 rfl) (Fk.mono _ _ _ _ hslq (bgo bl K.grow)))
    · exact st_nes (.tmp 21) (.tmp 26) rfl (str (p.bs)) (str (q.bs)) (K.dep 4 21 rfl) (K.dep 9 26 rfl) _ (by symm; rw [decide_eq_true_iff]; exact fun h => hpq (str_inj h))
    intro f6 w6 A hb
    replace x0 := A.t x0 rfl
    replace x1 := A.t x1 rfl
    replace x5 := A.t x5 rfl
    replace x14 := A.t x14 rfl
    have x27 := A.e 10 27 rfl rfl
    replace bl := bgo bl hb
    replace sd := A.sd sd
    clear A hb
    clear x14
    show Code.wp _ _ _ _ _
    refine wp_cond_true x27 ?_
    refine wp_seq ?_
    refine wr_a [.eq (.bool false)] (by rw [sd.1]; kernel_rfl) ⟨fun hw ac u K => ?_, trivial⟩ ?_
    · exact st_assign (.const (.bool false)) rfl rfl
    intro f7 w7 A hb
    replace x0 := A.t x0 rfl
    replace x1 := A.t x1 rfl
    replace x5 := A.t x5 rfl
    replace x27 := A.t x27 rfl
    have x4 := A.e 0 4 rfl rfl
    replace bl := bgo bl hb
    replace sd := A.sd sd
    clear A hb
    clear x27
    show Code.wp _ _ _ _ _
    refine wp_ret ?_
    repeat (first | with_reducible refine then_ret ?_ | with_reducible refine block_ret ?_)
    exact bodyPost_ret (v := .bool false) (ret_slot rfl f7 _ x4 _ _) sd.2 ⟨_, rfl, by rw [← hbf]; rfl, bl⟩
  refine wr_d [.eq (va), .eq (.int .i64 (k : Int)), .pv (.slice p.sp p.m p.c), .eq (.slice p.sp p.m p.c), .eq (.string (str (p.bs))), .eq (vb), .eq (.int .i64 (k : Int)), .pv (.slice q.sp q.m q.c), .eq (.slice q.sp q.m q.c), .eq (.string (str (q.bs))), .eq (.bool false)] Tryd.mixed (by rw [sd.1]; kernel_rfl) ⟨fun hw ac u K => ?_, fun hw ac u K => ?_, fun hw ac u K => ?_, fun hw ac u K => ?_, fun hw ac u K => ?_, fun hw ac u K => ?_, fun hw ac u K => ?_, fun hw ac u K => ?_, fun hw ac u K => ?_, fun hw ac u K => ?_, fun hw ac u K => ?_, trivial⟩ ?_
  · exact st_move (.tmp 0) rfl (K.t x0 rfl)
  · exact st_move (.tmp 5) rfl (K.t x5 rfl)
  · exact st_idxm (.tmp 17) (.tmp 18) rfl (fk_val (K.dep 0 17 rfl) (Fk.mono _ _ _ _ ha (bgo bl K.grow))) k p (K.dep 1 18 rfl) hpk
  · exact st_loadsl (.tmp 19) rfl (K.dep 2 19 rfl)
  · exact st_stra (.tmp 20) rfl (fk_val (K.dep 3 20 rfl) (Fk.mono _ _ _ _ hslp (bgo bl K.grow)))
  · exact st_move (.tmp 1) rfl (K.t x1 rfl)
  · exact st_move (.tmp 5) rfl (K.t x5 rfl)
  · exact st_idxm (.tmp 22) (.tmp 23) rfl (fk_val (K.dep 5 22 rfl) (Fk.mono _ _ _ _ hb (bgo bl K.grow))) k q (K.dep 6 23 rfl) hqk
  · exact st_loadsl (.tmp 24) rfl (K.dep 7 24 rfl)
  · exact st_stra (.tmp 25) rfl (fk_val (K.dep 8 25 rfl) (Fk.mono _ _ _ _ hslq (bgo bl K.grow)))
  · exact st_nes (.tmp 21) (.tmp 26) rfl (str (p.bs)) (str (q.bs)) (K.dep 4 21 rfl) (K.dep 9 26 rfl) _ (by rw [hpq]; simp)
  intro f6 w6 A hb
  replace x0 := A.t x0 rfl
  replace x1 := A.t x1 rfl
  replace x5 := A.t x5 rfl
  replace x14 := A.t x14 rfl
  have x27 := A.e 10 27 rfl rfl
  replace bl := bgo bl hb
  replace sd := A.sd sd
  clear A hb
  clear x14
  show Code.wp _ _ _ _ _
  refine wp_cond_false x27 ?_
  refine wp_skip ?_
  show Code.wp _ _ _ _ _
  refine wr_s [.eq (.int .i64 (k : Int)), .eq (.int .i64 ((k + 1 : Nat) : Int))] (by rw [sd.1]; kernel_rfl) ⟨fun hw ac u K => ?_, fun hw ac u K => ?_, trivial⟩ ?_
  · exact st_move (.tmp 5) rfl (K.t x5 rfl)
  · exact st_add (.tmp 15) (.const (.int .i64 1)) rfl (k) (1) (k + 1) (K.dep 0 15 rfl) rfl (by omega) (by omega)
  intro f7 w7 A hb
  replace x0 := A.t x0 rfl
  replace x1 := A.t x1 rfl
  replace x5 := A.t x5 rfl
  replace x27 := A.t x27 rfl
  have x16 := A.e 1 16 rfl rfl
  replace bl := bgo bl hb
  replace sd := A.sd sd
  clear A hb
  clear x27
  refine wl_one (.eq (.int .i64 ((k + 1 : Nat) : Int))) rfl 5 rfl (by rw [sd.1]; decide) (st_assign (.tmp 16) rfl x16) ?_
  intro f8 w8 df2 sz2 old2 new2 hb
  replace x0 := tr old2 x0 rfl
  replace x1 := tr old2 x1 rfl
  clear x5
  replace x16 := tr old2 x16 rfl
  have x5 := Fk.e new2
  replace bl := bgo bl hb
  replace sd := sd2 sz2 df2 sd
  clear df2 sz2 old2 new2 hb
  refine wpList_nil ?_
  clear x16
  show (∃ _, _) ∧ _
  refine ⟨⟨k + 1, by omega, (take_more hall (bys_at hpk) (by rw [hpq]; exact bys_at hqk)), sd.1, sd.2, x0, x1, x5, bl⟩, ?_⟩
  rw [show f8.eval (.tmp 5) = _ from x5, show _ = _ from hcnt]
  first | (simp [intOf]; done) | (simp [intOf]; omega)
end Go.Proofs.YtfmeeimhfdnjpaaDoor
namespace Go.Proofs.YtfmeeimhfdnjpaaDoor
set_option maxRecDepth 100000
open Go.RowKit
theorem arg5 {a : Act} {x y z p q : Operand} {u v t s r : Value} (h : a.eval x = u) (h2 : a.eval y = v) (h3 : a.eval z = t) (h4 : a.eval p = s) (h5 : a.eval q = r) : ((#[x, y, z, p, q].toList.map a.eval).toArray : Array Value) = #[u, v, t, s, r] := by rw [← h, ← h2, ← h3, ← h4, ← h5]; rfl
/-- Bools in cells. -/
def bvs (ds : List Bool) : List Value := ds.map fun b => .bool b
theorem bvs_append (a b : List Bool) : bvs (a ++ b) = bvs a ++ bvs b := List.map_append
theorem bvs_one (ds : List Bool) : ∀ u ∈ bvs ds, u.oneCell' = true := by
  intro u hu
  obtain ⟨z, _, rfl⟩ := List.mem_map.1 hu
  rfl
theorem bvs_at {ds : List Bool} {i : Nat} {z : Bool} (h : ds[i]? = some z) : ∀ (j : Nat) (v : Value), ([.bool z] : List Value)[j]? = some v → (bvs ds)[i * 1 + j]? = some v := by
  intro j v hj
  cases j with
  | zero =>
    obtain rfl : Value.bool z = v := by simpa using hj
    simp [bvs, h]
  | succ j => simp at hj
/-- Bools of the call's own; to be read. -/
def Fk.ob (base : Nat) (ds : List Bool) : Fk := Fk.orw base 4 1 ds.length (bvs ds)
def Fk.bs (ds : List Bool) : Fk := Fk.rdw 1 ds.length (bvs ds)
theorem Tryd.under81z : Tryd.prog.underlying 81 = some (.slice 4) := by kernel_rfl
theorem Tryd.elem81z : Tryd.prog.elem 81 = 4 := by kernel_rfl
theorem Tryd.info4z : (Tryd.prog.info? 4).map (fun i => (i.zero, i.size, i.bytes)) = some (some (.bool false), 1, 1) := by kernel_rfl
theorem Tryd.size4z (w : World) : (sizeOf 4).run Tryd.prog w = .ok 1 w := by kernel_rfl
theorem Tryd.bld4z (z : Bool) (w : World) : (Instr.buildSlice 81 1 #[(0, .bool z)]).run Tryd.prog w = .ok (.slice (some ⟨w.heap.size, 0, none⟩) 1 1) (w.alloc (.cells (bvs [z]).toArray 4)) := by kernel_rfl
theorem ob_bs {base : Nat} {ds : List Bool} {v : Value} {w : World} (h : (Fk.ob base ds).f v w) : (Fk.bs ds).f v w := orw_rdw h
theorem ob_nil (base : Nat) (w : World) : (Fk.ob base []).f (.slice none 0 0) w := orw_nil _ _ _ _
section
variable {Q : Exit → Act → World → Prop} {o : Oper} {a : Act} {w : World} {ops : Array Oper} {rest : List Oper}
theorem wl_appendo (hgd : o.guard = none) (s x : Operand) (ho : o.op = .call { callee := .builtin .append, args := #[s, x], argTypes := #[81, 81] }) (d : Nat) (hd : o.dst = some d) (hsz : d < a.tmps.size)
    {wL : World} {b : Nat} {cs ds : List Bool} (hs1 : (Fk.ob wL.heap.size cs).f (a.eval s) w) (hx : (Fk.ob b ds).f (a.eval x) w) (hm : 1 ≤ ds.length) (hL : Below wL.heap.size wL w) (hN : cs.length + ds.length ≤ 100000)
    (h : ∀ a2 w2, a2.defers = a.defers → a2.tmps.size = a.tmps.size → (∀ t, (t == d) = false → a2.eval (.tmp t) = a.eval (.tmp t)) → (Fk.ob wL.heap.size (cs ++ ds)).f (a2.eval (.tmp d)) w2 → Below wL.heap.size wL w2 → wpList Tryd.prog ops Q rest a2 w2) : wpList Tryd.prog ops Q (o :: rest) a w :=
  wl_appr 81 4 1 1 Tryd.under81z Tryd.info4z rfl (by decide) hgd s x ho d hd hsz hs1 hx hm (bvs_one ds) hL hN (by decide) (fun a2 w2 h1 h2 h3 h4 h5 => h a2 w2 h1 h2 h3 (by unfold Fk.ob; rw [List.length_append, bvs_append]; exact h4) h5)
theorem st_lenbs (x : Operand) (ho : o.op = .call { callee := .builtin .len, args := #[x], argTypes := #[81] }) {ds : List Bool} (h : (Fk.bs ds).f (a.eval x) w) : o.wp Tryd.prog a w (Ends a o.dst w (Fk.eq (.int .i64 ((ds.length : Nat) : Int))).f) Q := st_lenr 81 4 Tryd.under81z Tryd.elem81z x ho h
theorem st_idxbs (x y : Operand) (ho : o.op = .indexAddr 81 x y) {ds : List Bool} (h : (Fk.bs ds).f (a.eval x) w) (i : Nat) (hy : a.eval y = .int .i64 (i : Int)) (z : Bool) (hi : ds[i]? = some z) : o.wp Tryd.prog a w (Ends a o.dst w (Fk.prg [.bool z]).f) Q :=
  st_idxr2 81 4 Tryd.under81z Tryd.elem81z Tryd.size4z x y ho h i hy (List.getElem?_eq_some_iff.1 hi).1 _ (bvs_at hi)
theorem st_bo1b (x : Operand) (ho : o.op = .buildSlice 81 1 #[(0, x)]) (z : Bool) (hx : a.eval x = .bool z) (g0 : Nat) (hg : g0 ≤ w.heap.size) : o.wp Tryd.prog a w (Ends a o.dst w (Fk.ob g0 [z]).f) Q := st_bldr 81 4 1 x ho _ hx (Tryd.bld4z z) rfl g0 hg
end
end Go.Proofs.YtfmeeimhfdnjpaaDoor
