/- As in Pz; and variables that are made among the first operations are apart, whatever order is picked. -/
import Derived.Test.YthnaomkkaodbkaaDoorPz
namespace Go.Proofs.YthnaomkkaodbkaaDoor
open Go.RowKit
section
variable {ops : Array Oper} {Q : Exit → Act → World → Prop}
theorem ptr_inj {x y : Nat} (h : Value.pointer (some ⟨x, 0, none⟩) = .pointer (some ⟨y, 0, none⟩)) : x = y := by
  injection h with h
  injection h with h
  injection h
def slotAt (ops : Array Oper) (i : Nat) : Option Tmp := (ops[i]?).bind (·.dst)
/-- Operation i makes a hash variable, in slot d. -/
def isNew (ops : Array Oper) (i d : Nat) : Bool := match ops[i]? with
  | some o => (o.dst == some d) && o.guard.isNone && (match o.op with | .alloc t => t == 23 | _ => false)
  | none => false
theorem isNew_spec {i d : Nat} (h : isNew ops i d = true) : ∃ o, ops[i]? = some o ∧ o.dst = some d ∧ o.op = .alloc 23 ∧ o.guard = none := by
  unfold isNew at h
  cases ho : ops[i]? with
  | none => rw [ho] at h; simp at h
  | some o =>
    rw [ho] at h
    simp only [Bool.and_eq_true, beq_iff_eq, Option.isNone_iff_eq_none] at h
    obtain ⟨⟨h1, h2⟩, h3⟩ := h
    refine ⟨o, rfl, h1, ?_, h2⟩
    cases hop : o.op with
    | alloc t => rw [hop] at h3; simp at h3; rw [h3]
    | _ => rw [hop] at h3; simp at h3
theorem isNew_slot {i d : Nat} (h : isNew ops i d = true) : slotAt ops i = some d := by
  obtain ⟨o, h1, h2, _⟩ := isNew_spec h
  unfold slotAt
  rw [h1]
  exact h2
/-- Those of fr that are listed have values of their own. -/
def NewApart (ops : Array Oper) (fr : List Nat) (listed : Array Bool) (a : Act) : Prop := ∀ i ∈ fr, ∀ j ∈ fr, i ≠ j → listed.getD i false = true → listed.getD j false = true → ∀ di dj, slotAt ops i = some di → slotAt ops j = some dj → a.eval (.tmp di) ≠ a.eval (.tmp dj)
theorem wp_mids_new {qs : List Fk} (fr : List Nat) {a0 : Act} {w0 : World} (js : List Nat) (hk : qs.length ≤ ops.size) (hE : backOk ops.toList = true) (hC : coverOk ops.toList qs.length = true) (hJ : chainOk ops (firstK qs.length ops.size) js = true)
    (hN : ∀ i ∈ fr, i < qs.length ∧ ∃ o d, ops[i]? = some o ∧ o.dst = some d ∧ o.op = .alloc 23 ∧ o.guard = none ∧ fkAt qs i = (Fk.pn w0.heap.size hz).f)
    (hD : dstsOk a0.tmps.size (ops.toList.take qs.length) = true) (hG : guardsOk ops.toList qs.length qs ops.toList qs = true)
    (hS : Steps Tryd.prog Q ops.toList qs.length qs a0 w0 ops.toList qs)
    (hF : ∀ af w', Final ops.toList qs a0 af w' → (∀ i ∈ fr, ∀ j ∈ fr, i ≠ j → ∀ di dj, slotAt ops i = some di → slotAt ops j = some dj → af.eval (.tmp di) ≠ af.eval (.tmp dj)) → Below w0.heap.size w0 w' → wpList Tryd.prog ops Q (js.filterMap (ops[·]?)) af w') :
    ∀ (fuel : Nat) (listed : Array Bool) (a : Act) (w : World), unl listed ≤ fuel → Closed ops listed → NewApart ops fr listed a → Mids ops qs.length (fkAt qs) a0 w0 listed a w → wpAny Tryd.prog .any ops Q fuel listed a w := by
  have hend : ∀ (fuel : Nat) (listed : Array Bool) (a : Act) (w : World), unl listed ≤ fuel → NewApart ops fr listed a → Mids ops qs.length (fkAt qs) a0 w0 listed a w → (∀ i, i < qs.length → listed.getD i false = true) → wpAny Tryd.prog .any ops Q fuel listed a w := by
    intro fuel listed a w hu hap hm hall
    have he : listed = firstK qs.length ops.size := by
      apply Array.ext (by simp [firstK, hm.lsize])
      intro i h1 h2
      simp only [firstK, Array.getElem_ofFn]
      by_cases hi : i < qs.length
      · have := hall i hi
        simp [h1] at this
        simp [this, hi]
      · have h3 : i < ops.size := by rw [hm.lsize] at h1; exact h1
        have := hm.last i (by omega) h3
        simp [h1] at this
        simp [this, hi]
    have hJ' : chainOk ops listed js = true := by rw [he]; exact hJ
    have hlen := chain_len js listed hJ'
    refine any_list js fuel listed a w hJ' (by omega) ?_
    refine hF a w ⟨hm.defs, hm.size, fun t ht => eval_of_get (hm.old t ht), fun i d h => ?_⟩ (fun i hi j hj hne di dj e1 e2 => hap i hi j hj hne (hall i (hN i hi).1) (hall j (hN j hj).1) di dj e1 e2) hm.grow
    simp only [Bool.and_eq_true, decide_eq_true_eq, beq_iff_eq] at h
    obtain ⟨hi, hd⟩ := h
    cases ho : ops.toList[i]? with
    | none => rw [ho] at hd; simp at hd
    | some o =>
      rw [ho] at hd
      exact hm.has i o d hi (by rw [← Array.getElem?_toList]; exact ho) (by simpa using hd) (hall i hi)
  intro fuel
  induction fuel with
  | zero =>
    intro listed a w hu hcl hap hm
    have hall := unl_zero (listed := listed) (by omega)
    refine hend 0 listed a w hu hap hm (fun i hi => ?_)
    have hil : i < listed.size := by rw [hm.lsize]; omega
    rw [← getD_tf hil]; exact hall i hil
  | succ fuel ih =>
    intro listed a w hu hcl hap hm
    by_cases hall : ∀ i, i < qs.length → listed.getD i false = true
    · exact hend (fuel + 1) listed a w hu hap hm hall
    · have hex : ∃ i0, i0 < qs.length ∧ listed.getD i0 false = false := by
        apply Classical.byContradiction
        intro hno
        apply hall
        intro i hi
        cases hq : listed.getD i false with
        | true => rfl
        | false => exact absurd ⟨i, hi, hq⟩ hno
      obtain ⟨i0, hi0, hi0u⟩ := hex
      refine ⟨fun hr => ?_, fun i hi => ?_⟩
      · exfalso
        have hu0 := ready_back hE hm.lsize hr
        have hil : i0 < listed.size := by rw [hm.lsize]; omega
        have := unl_zero hu0 i0 hil
        rw [getD_tf hil, hi0u] at this
        cases this
      · obtain ⟨hun, o, ho, hdep⟩ := mem_ready.1 hi
        have hio : i < ops.size := (Array.getElem?_eq_some_iff.1 ho).1
        have hu' := unl_set hun
        have hil : i < listed.size := by rw [hm.lsize]; exact hio
        have htg : ∀ j ∈ tgt o, listed.getD j false = true := fun j hj => by
          obtain ⟨e, he, hb, rfl⟩ := mem_tgt.1 hj
          exact hdep e he hb
        have hik : i < qs.length := by
          rcases Nat.lt_or_ge i qs.length with h | h
          · exact h
          · exfalso
            unfold coverOk at hC
            have h1 := List.all_eq_true.1 hC i (by simpa using hio)
            simp only [Bool.or_eq_true, decide_eq_true_eq] at h1
            rcases h1 with h1 | h1
            · omega
            · have h2 := List.all_eq_true.1 h1 i0 (by simpa using hi0)
              have h3 : i0 ∈ clo ops.toList 8 (tgts ops.toList i) := by simpa using h2
              have h4 := clo_listed hcl 8 (tgts ops.toList i) (fun j hj => by
                unfold tgts at hj
                rw [Array.getElem?_toList, ho] at hj
                exact htg j (by simpa using hj)) i0 h3
              rw [hi0u] at h4
              cases h4
        have hK : Known ops.toList qs.length (fkAt qs) a0 w0 o a w := by
          refine ⟨fun t ht => eval_of_get (hm.old t ht), fun j d hj => ?_, hm.grow⟩
          unfold depOk at hj
          simp only [Bool.and_eq_true, decide_eq_true_eq, beq_iff_eq, Array.getElem?_toList] at hj
          obtain ⟨⟨hjk, hany⟩, hd⟩ := hj
          obtain ⟨e, he, hb⟩ := List.any_eq_true.1 hany
          simp only [Bool.and_eq_true, beq_iff_eq] at hb
          have hl := hdep e (by simpa using he) hb.2
          rw [hb.1] at hl
          cases hoj : ops[j]? with
          | none => rw [hoj] at hd; simp at hd
          | some oj =>
            rw [hoj] at hd
            exact hm.has j oj d hjk hoj (by simpa using hd) hl
        have hto : (ops.toList.take qs.length)[i]? = some o := by rw [List.getElem?_take, if_pos hik, Array.getElem?_toList]; exact ho
        obtain ⟨d, hd, hlt, hallD⟩ := dstsOk_spec hD i o hto
        have hcl' : Closed ops (listed.setIfInBounds i true) := by
          intro m om hom hml j hj
          by_cases e : m = i
          · subst e
            obtain rfl : om = o := Option.some.inj (hom.symm.trans ho)
            have h1 := htg j hj
            by_cases e2 : j = m
            · subst e2; exact getD_set_same hil
            · have hne : m ≠ j := fun h => e2 h.symm
              simpa [Array.getElem?_setIfInBounds, hne] using h1
          · have hne : i ≠ m := fun h => e h.symm
            have hml' : listed.getD m false = true := by simpa [Array.getElem?_setIfInBounds, hne] using hml
            have h1 := hcl m om hom hml' j hj
            by_cases e2 : j = i
            · subst e2; exact getD_set_same hil
            · have hne2 : i ≠ j := fun h => e2 h.symm
              simpa [Array.getElem?_setIfInBounds, hne2] using h1
        have hnext : ∀ v w', Below w.heap.size w w' → NewApart ops fr (listed.setIfInBounds i true) (a.put o.dst v) → fkAt qs i v w' → wpAny Tryd.prog .any ops Q fuel (listed.setIfInBounds i true) (a.put o.dst v) w' := by
          intro v w' hb hap' hf
          refine ih _ _ _ (by omega) hcl' hap' ⟨by rw [put_size]; exact hm.size, by rw [put_def]; exact hm.defs, by simp; exact hm.lsize, fun t ht => ?_, fun j oj dj hj hoj hdj hlj => ?_, fun j hj1 hj2 => ?_, hm.grow.trans (hb.mono hm.grow.size)⟩
          · rw [put_other _ _ _ _ (freeOf_spec ht hto)]; exact hm.old t ht
          · by_cases e : j = i
            · subst e
              obtain rfl : oj = o := Option.some.inj (hoj.symm.trans ho)
              obtain rfl : dj = d := Option.some.inj (hdj.symm.trans hd)
              have hev : (a.put oj.dst v).eval (.tmp dj) = v := by
                have := put_same a dj v (by rw [hm.size]; exact hlt)
                rw [← hd] at this
                simp [Act.eval, this]
              rw [hev]; exact hf
            · have htj : (ops.toList.take qs.length)[j]? = some oj := by rw [List.getElem?_take, if_pos hj, Array.getElem?_toList]; exact hoj
              have hne : o.dst ≠ some dj := fun h => by
                have : d = dj := Option.some.inj (hd.symm.trans h)
                exact hallD j oj htj e (by rw [this]; exact hdj)
              rw [eval_of_get (put_other a o.dst v dj hne)]
              refine Fk.mono _ _ w w' (hm.has j oj dj hj hoj hdj ?_) hb
              have hne2 : i ≠ j := fun h => e h.symm
              simpa [Array.getElem?_setIfInBounds, hne2] using hlj
          · have hne : i ≠ j := by omega
            have := hm.last j hj1 hj2
            simpa [Array.getElem?_setIfInBounds, hne] using this
        have hkeep : i ∉ fr → ∀ v, NewApart ops fr (listed.setIfInBounds i true) (a.put o.dst v) := by
          intro hni v p hp q hq hpq hlp hlq dp dq ep eq
          have hip : i ≠ p := fun h => hni (h ▸ hp)
          have hiq : i ≠ q := fun h => hni (h ▸ hq)
          have hlp' : listed.getD p false = true := by simpa [Array.getElem?_setIfInBounds, hip] using hlp
          have hlq' : listed.getD q false = true := by simpa [Array.getElem?_setIfInBounds, hiq] using hlq
          obtain ⟨hpk, op, dp', hop, hdp, _⟩ := hN p hp
          obtain ⟨hqk, oq, dq', hoq, hdq, _⟩ := hN q hq
          obtain rfl : dp = dp' := by rw [slotAt, hop] at ep; exact Option.some.inj (ep.symm.trans hdp)
          obtain rfl : dq = dq' := by rw [slotAt, hoq] at eq; exact Option.some.inj (eq.symm.trans hdq)
          have n1 : o.dst ≠ some dp := fun h => hallD p op (by rw [List.getElem?_take, if_pos hpk, Array.getElem?_toList]; exact hop) (fun e => hip e.symm) (by rw [hdp, ← h]; exact hd)
          have n2 : o.dst ≠ some dq := fun h => hallD q oq (by rw [List.getElem?_take, if_pos hqk, Array.getElem?_toList]; exact hoq) (fun e => hiq e.symm) (by rw [hdq, ← h]; exact hd)
          rw [eval_of_get (put_other a o.dst v dp n1), eval_of_get (put_other a o.dst v dq n2)]
          exact hap p hp q hq hpq hlp' hlq' dp dq ep eq
        by_cases hin : i ∈ fr
        · obtain ⟨_, o', d', ho', hd', hop', hg', hfk'⟩ := hN i hin
          obtain rfl : o' = o := Option.some.inj (ho'.symm.trans ho)
          obtain rfl : d' = d := Option.some.inj (hd'.symm.trans hd)
          have hrun : (execOp a.eval o').run Tryd.prog w = .ok (.value (.pointer (some ⟨w.heap.size, 0, none⟩))) (w.alloc (.cells (hz.map V).toArray 23)) := by
            obtain ⟨d1, op1, ty1, pos1, aft1, gd1⟩ := o'
            simp only at hop'
            subst hop'
            exact Tryd.alloc23 _ _ _ _ _ _ _
          unfold wpOp
          rw [ho]
          show if Region.wanted o' (yielded ops a.tmps) = true then _ else _
          rw [if_pos (by unfold Region.wanted; rw [hg'])]
          refine .inl ?_
          unfold Oper.wp
          rw [hrun]
          refine hnext _ _ ((Below.refl _ _).alloc (Nat.le_refl _) _) ?_ ?_
          · intro p hp q hq hpq hlp hlq dp dq ep eq
            obtain ⟨hpk, op, dp', hop, hdp, _, _, hfp⟩ := hN p hp
            obtain ⟨hqk, oq, dq', hoq, hdq, _, _, hfq⟩ := hN q hq
            obtain rfl : dp = dp' := by rw [slotAt, hop] at ep; exact Option.some.inj (ep.symm.trans hdp)
            obtain rfl : dq = dq' := by rw [slotAt, hoq] at eq; exact Option.some.inj (eq.symm.trans hdq)
            have hnew : (a.put o'.dst (.pointer (some ⟨w.heap.size, 0, none⟩))).eval (.tmp d') = .pointer (some ⟨w.heap.size, 0, none⟩) := by
              rw [hd]; exact put_eval_same _ _ _ (by rw [hm.size]; exact hlt)
            have hold : ∀ r, r ∈ fr → r ≠ i → (listed.setIfInBounds i true).getD r false = true → ∀ dr, slotAt ops r = some dr → (a.put o'.dst (.pointer (some ⟨w.heap.size, 0, none⟩))).eval (.tmp dr) = a.eval (.tmp dr) ∧ ∃ g, g < w.heap.size ∧ a.eval (.tmp dr) = .pointer (some ⟨g, 0, none⟩) := by
              intro r hr hri hlr dr er
              obtain ⟨hrk, or', dr', hor, hdr, _, _, hfr⟩ := hN r hr
              obtain rfl : dr = dr' := by rw [slotAt, hor] at er; exact Option.some.inj (er.symm.trans hdr)
              have n1 : o'.dst ≠ some dr := fun h => hallD r or' (by rw [List.getElem?_take, if_pos hrk, Array.getElem?_toList]; exact hor) hri (by rw [hdr, ← h]; exact hd)
              have hir : i ≠ r := fun h => hri h.symm
              have hlr' : listed.getD r false = true := by simpa [Array.getElem?_setIfInBounds, hir] using hlr
              have hf := hm.has r or' dr hrk hor hdr hlr'
              rw [hfr] at hf
              obtain ⟨g, _, e, hv⟩ := hf
              exact ⟨eval_of_get (put_other a o'.dst _ dr n1), g, hv.lt, e⟩
            by_cases e1 : p = i
            · have hqi : q ≠ i := fun h => hpq (e1.trans h.symm)
              obtain ⟨k1, g, hg, k2⟩ := hold q hq hqi hlq dq eq
              have : dp = d' := by
                subst e1
                rw [slotAt, ho] at ep
                exact Option.some.inj (ep.symm.trans hd)
              rw [this, hnew, k1, k2]
              intro h
              have h2 : w.heap.size = g := ptr_inj h
              omega
            · obtain ⟨k1, g, hg, k2⟩ := hold p hp e1 hlp dp ep
              by_cases e2 : q = i
              · have : dq = d' := by
                  subst e2
                  rw [slotAt, ho] at eq
                  exact Option.some.inj (eq.symm.trans hd)
                rw [this, hnew, k1, k2]
                intro h
                have h2 : g = w.heap.size := ptr_inj h
                omega
              · obtain ⟨l1, g2, hg2, l2⟩ := hold q hq e2 hlq dq eq
                have hip : i ≠ p := fun h => e1 h.symm
                have hiq : i ≠ q := fun h => e2 h.symm
                rw [k1, l1]
                exact hap p hp q hq hpq (by simpa [Array.getElem?_setIfInBounds, hip] using hlp) (by simpa [Array.getElem?_setIfInBounds, hiq] using hlq) dp dq ep eq
          · rw [hfk']
            exact ⟨w.heap.size, hm.grow.size, rfl, heap_alloc_new _ _⟩
        have hyield : ∀ (j : Nat) (b c : Bool), o.guard = some (j, b) → (∃ d, depOk ops.toList qs.length o j d = true) → (∀ v w, fkAt qs j v w → v = .bool c) → yielded ops a.tmps j = some c := by
          rintro j b c hg ⟨d, hd⟩ hbool
          have hv := hbool _ _ (hK.dep j d hd)
          have hd2 : (ops[j]?).bind (·.dst) = some d := by
            unfold depOk at hd
            simp only [Bool.and_eq_true, decide_eq_true_eq, beq_iff_eq, Array.getElem?_toList] at hd
            exact hd.2
          have hget : a.tmps[d]? = some (.bool c) := by
            simp only [Act.eval, Array.getD_eq_getD_getElem?] at hv
            cases hq : a.tmps[d]? with
            | none => rw [hq] at hv; simp [undef] at hv
            | some u => rw [hq] at hv; simp at hv; rw [hv]
          unfold yielded
          rw [hd2]
          simp only [Option.bind_some, hget]
        unfold wpOp
        rw [ho]
        show if Region.wanted o (yielded ops a.tmps) = true then _ else _
        have hyes : Region.wanted o (yielded ops a.tmps) = true → wantedBy qs o = true → (if Region.wanted o (yielded ops a.tmps) = true then o.wp Tryd.prog a w (wpAny Tryd.prog .any ops Q fuel (listed.setIfInBounds i true)) Q ∨ (o.asks Tryd.prog a w ∧ LetsOut Q) else wpAny Tryd.prog .any ops Q fuel (listed.setIfInBounds i true) (a.put o.dst undef) w) := by
          intro hwant hwb
          rw [if_pos hwant]
          refine .inl (Oper.wp_mono ?_ (hS.get i o hik (by rw [Array.getElem?_toList]; exact ho) hwb a w hK))
          rintro a' w' ⟨v, rfl, hb, hf⟩
          exact hnext v w' hb (hkeep hin v) hf
        cases hg : o.guard with
        | none => exact hyes (by unfold Region.wanted; rw [hg]) (by unfold wantedBy; rw [hg])
        | some jb =>
          obtain ⟨j, b⟩ := jb
          obtain ⟨hdp, h2⟩ := guardsOk_spec hG i o j b hik (by rw [Array.getElem?_toList]; exact ho) hg
          rcases h2 with h2 | h2
          · refine hyes ?_ (by unfold wantedBy; rw [hg]; exact h2)
            unfold Region.wanted
            rw [hg]
            show (yielded ops a.tmps j == some b) = true
            rw [hyield j b b hg hdp (Fk.isBool_spec h2)]; simp
          · have hno : Region.wanted o (yielded ops a.tmps) = false := by
              unfold Region.wanted
              rw [hg]
              show (yielded ops a.tmps j == some b) = false
              rw [hyield j b (!b) hg hdp (Fk.isBool_spec h2.1)]; cases b <;> rfl
            rw [if_neg (by rw [hno]; simp)]
            exact hnext undef w (Below.refl _ _) (hkeep hin undef) (Fk.isAny_spec h2.2 _ _)
/-- Two variables are made among the steps, numbers p and q. -/
theorem wp_region_two {id : Nat} {a0 : Act} {w : World} (qs : List Fk) (js : List Nat) (p q dp dq : Nat) (hp : isNew ops p dp = true) (hq : isNew ops q dq = true) (hpq : (p == q) = false) (hpk : decide (p < qs.length) = true) (hqk : decide (q < qs.length) = true) (hfp : qs.getD p .any = Fk.pn w.heap.size hz) (hfq : qs.getD q .any = Fk.pn w.heap.size hz)
    (hk : decide (qs.length ≤ ops.size) = true) (hE : backOk ops.toList = true) (hC : coverOk ops.toList qs.length = true) (hJ : chainOk ops (firstK qs.length ops.size) js = true)
    (hD : dstsOk a0.tmps.size (ops.toList.take qs.length) = true) (hG : guardsOk ops.toList qs.length qs ops.toList qs = true)
    (hS : Steps Tryd.prog Q ops.toList qs.length qs a0 w ops.toList qs)
    (hF : ∀ af w', Final ops.toList qs a0 af w' → af.eval (.tmp dp) ≠ af.eval (.tmp dq) → Below w.heap.size w w' → wpList Tryd.prog ops Q (js.filterMap (ops[·]?)) af w') :
    (Code.region id ops true).wp Tryd.prog Q a0 w := by
  have hne : p ≠ q := by simpa using hpq
  refine wp_region_any Tryd.mixed ?_
  refine wp_mids_new [p, q] js (of_decide_eq_true hk) hE hC hJ ?_ hD hG hS (fun af w' fin hap hb => hF af w' fin (hap p (by simp) q (by simp) hne dp dq (isNew_slot hp) (isNew_slot hq)) hb) ops.size _ a0 _ ?_ ?_ ?_ ?_
  · intro i hi
    simp only [List.mem_cons, List.not_mem_nil, or_false] at hi
    rcases hi with rfl | rfl
    · obtain ⟨o, h1, h2, h3, h4⟩ := isNew_spec hp
      exact ⟨of_decide_eq_true hpk, o, _, h1, h2, h3, h4, by unfold fkAt; rw [hfp]⟩
    · obtain ⟨o, h1, h2, h3, h4⟩ := isNew_spec hq
      exact ⟨of_decide_eq_true hqk, o, _, h1, h2, h3, h4, by unfold fkAt; rw [hfq]⟩
  · unfold unl
    exact Nat.le_trans (Array.countP_le_size) (by simp)
  · intro i o ho hl
    have : i < ops.size := (Array.getElem?_eq_some_iff.1 ho).1
    simp [this] at hl
  · intro i _ j _ _ hl
    exfalso
    rcases Nat.lt_or_ge i ops.size with h | h
    · simp [h] at hl
    · rw [Array.getD_eq_getD_getElem?, Array.getElem?_eq_none (by simpa using h)] at hl
      simp at hl
  · refine ⟨rfl, rfl, by simp, fun _ _ => rfl, fun i o d _ ho _ hl => ?_, fun i _ hi => ?_, (Below.refl _ _).drew⟩
    · have : i < ops.size := (Array.getElem?_eq_some_iff.1 ho).1
      simp [this] at hl
    · simp [hi]
end
end Go.Proofs.YthnaomkkaodbkaaDoor
