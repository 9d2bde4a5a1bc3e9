/- As in Pz; and variables that are made among the first operations are apart, whatever order is picked. A row of hashes that is written hash by hash. Secrets and ends; isKey. The bits of a hash: the function that is ranged over, at every body that keeps what lay below. What lamport.Bits hands back. What the reference's Bit and the law's awake hand back. Regions inside a round of a range over a function: what is shown of a region anywhere serves in a round. A range over a function that has memory of its own, which it writes between two rounds: the caller's law. Steps over numbers, slice variables and rows of 512 hashes; the calls of lamport as steps meet them. Made by gen_rc.py. What lamport.Sign hands back. Made by gen_re.py. What lamport.Recover hands back. What lamport.Public hands back. What the law's ends hands back. The calls of lamport and of ends as the laws' steps meet them. The calls of Public and Sign as steps meet them; what a signature leads to. Steps over structs in memory: fields, boxes, whole structs; one step of a list by itself; numbers that are shifted and compared. -/
import Derived.Test.YtfbfngblocfdlaaDoorM3
import Derived.Laws.ResultCell
import Derived.RangeFuncNested
import Derived.RangeFuncBound
import Derived.RangeFuncCalls
import Derived.RangeFuncLeaves
import Derived.Shelf.Abstract
import Derived.Shelf.RegionOpen
import Derived.WalkKit
import Derived.OwnWalkIn
import Derived.TacticsInMore
import Derived.LoopNIn
import Derived.LoopIn
import Derived.Test.YtfbfngblocfdlaaDoorProg
import Derived.Laws.MakeOwn
import Derived.Laws.Rows
import Derived.Laws.Tables
import Derived.OrdersIn
import Derived.Deep.MidRow
namespace Go.Proofs.YtfbfngblocfdlaaDoor
set_option maxRecDepth 100000
open Go.RowKit
section
variable {ops : Array Oper} {Q : Exit → Act → World → Prop}
theorem ptr_inj {x y : Nat} (h : Value.pointer (some ⟨x, 0, none⟩) = .pointer (some ⟨y, 0, none⟩)) : x = y := by
  injection h with h
  injection h with h
  injection h
def slotAt (ops : Array Oper) (i : Nat) : Option Tmp := (ops[i]?).bind (·.dst)
/-- Operation i makes a hash variable, in slot d. -/
def isNew (ops : Array Oper) (i d : Nat) : Bool := match ops[i]? with
  | some o => (o.dst == some d) && o.guard.isNone && (match o.op with | .alloc t => t == 24 | _ => false)
  | none => false
theorem isNew_spec {i d : Nat} (h : isNew ops i d = true) : ∃ o, ops[i]? = some o ∧ o.dst = some d ∧ o.op = .alloc 24 ∧ o.guard = none := by
  unfold isNew at h
  cases ho : ops[i]? with
  | none => rw [ho] at h; simp at h
  | some o =>
    rw [ho] at h
    simp only [Bool.and_eq_true, beq_iff_eq, Option.isNone_iff_eq_none] at h
    obtain ⟨⟨h1, h2⟩, h3⟩ := h
    refine ⟨o, rfl, h1, ?_, h2⟩
    cases hop : o.op with
    | alloc t => rw [hop] at h3; simp at h3; rw [h3]
    | _ => rw [hop] at h3; simp at h3
theorem isNew_slot {i d : Nat} (h : isNew ops i d = true) : slotAt ops i = some d := by
  obtain ⟨o, h1, h2, _⟩ := isNew_spec h
  unfold slotAt
  rw [h1]
  exact h2
/-- Those of fr that are listed have values of their own. -/
def NewApart (ops : Array Oper) (fr : List Nat) (listed : Array Bool) (a : Act) : Prop := ∀ i ∈ fr, ∀ j ∈ fr, i ≠ j → listed.getD i false = true → listed.getD j false = true → ∀ di dj, slotAt ops i = some di → slotAt ops j = some dj → a.eval (.tmp di) ≠ a.eval (.tmp dj)
theorem wp_mids_new {qs : List Fk} (fr : List Nat) {a0 : Act} {w0 : World} (js : List Nat) (hk : qs.length ≤ ops.size) (hE : backOk ops.toList = true) (hC : coverOk ops.toList qs.length = true) (hJ : chainOk ops (firstK qs.length ops.size) js = true)
    (hN : ∀ i ∈ fr, i < qs.length ∧ ∃ o d, ops[i]? = some o ∧ o.dst = some d ∧ o.op = .alloc 24 ∧ o.guard = none ∧ fkAt qs i = (Fk.pn w0.heap.size hz).f)
    (hD : dstsOk a0.tmps.size (ops.toList.take qs.length) = true) (hG : guardsOk ops.toList qs.length qs ops.toList qs = true)
    (hS : Steps Tryd.prog Q ops.toList qs.length qs a0 w0 ops.toList qs)
    (hF : ∀ af w', Final ops.toList qs a0 af w' → (∀ i ∈ fr, ∀ j ∈ fr, i ≠ j → ∀ di dj, slotAt ops i = some di → slotAt ops j = some dj → af.eval (.tmp di) ≠ af.eval (.tmp dj)) → Below w0.heap.size w0 w' → wpList Tryd.prog ops Q (js.filterMap (ops[·]?)) af w') :
    ∀ (fuel : Nat) (listed : Array Bool) (a : Act) (w : World), unl listed ≤ fuel → Closed ops listed → NewApart ops fr listed a → Mids ops qs.length (fkAt qs) a0 w0 listed a w → wpAny Tryd.prog .any ops Q fuel listed a w := by
  have hend : ∀ (fuel : Nat) (listed : Array Bool) (a : Act) (w : World), unl listed ≤ fuel → NewApart ops fr listed a → Mids ops qs.length (fkAt qs) a0 w0 listed a w → (∀ i, i < qs.length → listed.getD i false = true) → wpAny Tryd.prog .any ops Q fuel listed a w := by
    intro fuel listed a w hu hap hm hall
    have he : listed = firstK qs.length ops.size := by
      apply Array.ext (by simp [firstK, hm.lsize])
      intro i h1 h2
      simp only [firstK, Array.getElem_ofFn]
      by_cases hi : i < qs.length
      · have := hall i hi
        simp [h1] at this
        simp [this, hi]
      · have h3 : i < ops.size := by rw [hm.lsize] at h1; exact h1
        have := hm.last i (by omega) h3
        simp [h1] at this
        simp [this, hi]
    have hJ' : chainOk ops listed js = true := by rw [he]; exact hJ
    have hlen := chain_len js listed hJ'
    refine any_list js fuel listed a w hJ' (by omega) ?_
    refine hF a w ⟨hm.defs, hm.size, fun t ht => eval_of_get (hm.old t ht), fun i d h => ?_⟩ (fun i hi j hj hne di dj e1 e2 => hap i hi j hj hne (hall i (hN i hi).1) (hall j (hN j hj).1) di dj e1 e2) hm.grow
    simp only [Bool.and_eq_true, decide_eq_true_eq, beq_iff_eq] at h
    obtain ⟨hi, hd⟩ := h
    cases ho : ops.toList[i]? with
    | none => rw [ho] at hd; simp at hd
    | some o =>
      rw [ho] at hd
      exact hm.has i o d hi (by rw [← Array.getElem?_toList]; exact ho) (by simpa using hd) (hall i hi)
  intro fuel
  induction fuel with
  | zero =>
    intro listed a w hu hcl hap hm
    have hall := unl_zero (listed := listed) (by omega)
    refine hend 0 listed a w hu hap hm (fun i hi => ?_)
    have hil : i < listed.size := by rw [hm.lsize]; omega
    rw [← getD_tf hil]; exact hall i hil
  | succ fuel ih =>
    intro listed a w hu hcl hap hm
    by_cases hall : ∀ i, i < qs.length → listed.getD i false = true
    · exact hend (fuel + 1) listed a w hu hap hm hall
    · have hex : ∃ i0, i0 < qs.length ∧ listed.getD i0 false = false := by
        apply Classical.byContradiction
        intro hno
        apply hall
        intro i hi
        cases hq : listed.getD i false with
        | true => rfl
        | false => exact absurd ⟨i, hi, hq⟩ hno
      obtain ⟨i0, hi0, hi0u⟩ := hex
      refine ⟨fun hr => ?_, fun i hi => ?_⟩
      · exfalso
        have hu0 := ready_back hE hm.lsize hr
        have hil : i0 < listed.size := by rw [hm.lsize]; omega
        have := unl_zero hu0 i0 hil
        rw [getD_tf hil, hi0u] at this
        cases this
      · obtain ⟨hun, o, ho, hdep⟩ := mem_ready.1 hi
        have hio : i < ops.size := (Array.getElem?_eq_some_iff.1 ho).1
        have hu' := unl_set hun
        have hil : i < listed.size := by rw [hm.lsize]; exact hio
        have htg : ∀ j ∈ tgt o, listed.getD j false = true := fun j hj => by
          obtain ⟨e, he, hb, rfl⟩ := mem_tgt.1 hj
          exact hdep e he hb
        have hik : i < qs.length := by
          rcases Nat.lt_or_ge i qs.length with h | h
          · exact h
          · exfalso
            unfold coverOk at hC
            have h1 := List.all_eq_true.1 hC i (by simpa using hio)
            simp only [Bool.or_eq_true, decide_eq_true_eq] at h1
            rcases h1 with h1 | h1
            · omega
            · have h2 := List.all_eq_true.1 h1 i0 (by simpa using hi0)
              have h3 : i0 ∈ clo ops.toList 8 (tgts ops.toList i) := by simpa using h2
              have h4 := clo_listed hcl 8 (tgts ops.toList i) (fun j hj => by
                unfold tgts at hj
                rw [Array.getElem?_toList, ho] at hj
                exact htg j (by simpa using hj)) i0 h3
              rw [hi0u] at h4
              cases h4
        have hK : Known ops.toList qs.length (fkAt qs) a0 w0 o a w := by
          refine ⟨fun t ht => eval_of_get (hm.old t ht), fun j d hj => ?_, hm.grow⟩
          unfold depOk at hj
          simp only [Bool.and_eq_true, decide_eq_true_eq, beq_iff_eq, Array.getElem?_toList] at hj
          obtain ⟨⟨hjk, hany⟩, hd⟩ := hj
          obtain ⟨e, he, hb⟩ := List.any_eq_true.1 hany
          simp only [Bool.and_eq_true, beq_iff_eq] at hb
          have hl := hdep e (by simpa using he) hb.2
          rw [hb.1] at hl
          cases hoj : ops[j]? with
          | none => rw [hoj] at hd; simp at hd
          | some oj =>
            rw [hoj] at hd
            exact hm.has j oj d hjk hoj (by simpa using hd) hl
        have hto : (ops.toList.take qs.length)[i]? = some o := by rw [List.getElem?_take, if_pos hik, Array.getElem?_toList]; exact ho
        obtain ⟨d, hd, hlt, hallD⟩ := dstsOk_spec hD i o hto
        have hcl' : Closed ops (listed.setIfInBounds i true) := by
          intro m om hom hml j hj
          by_cases e : m = i
          · subst e
            obtain rfl : om = o := Option.some.inj (hom.symm.trans ho)
            have h1 := htg j hj
            by_cases e2 : j = m
            · subst e2; exact getD_set_same hil
            · have hne : m ≠ j := fun h => e2 h.symm
              simpa [Array.getElem?_setIfInBounds, hne] using h1
          · have hne : i ≠ m := fun h => e h.symm
            have hml' : listed.getD m false = true := by simpa [Array.getElem?_setIfInBounds, hne] using hml
            have h1 := hcl m om hom hml' j hj
            by_cases e2 : j = i
            · subst e2; exact getD_set_same hil
            · have hne2 : i ≠ j := fun h => e2 h.symm
              simpa [Array.getElem?_setIfInBounds, hne2] using h1
        have hnext : ∀ v w', Below w.heap.size w w' → NewApart ops fr (listed.setIfInBounds i true) (a.put o.dst v) → fkAt qs i v w' → wpAny Tryd.prog .any ops Q fuel (listed.setIfInBounds i true) (a.put o.dst v) w' := by
          intro v w' hb hap' hf
          refine ih _ _ _ (by omega) hcl' hap' ⟨by rw [put_size]; exact hm.size, by rw [put_def]; exact hm.defs, by simp; exact hm.lsize, fun t ht => ?_, fun j oj dj hj hoj hdj hlj => ?_, fun j hj1 hj2 => ?_, hm.grow.trans (hb.mono hm.grow.size)⟩
          · rw [put_other _ _ _ _ (freeOf_spec ht hto)]; exact hm.old t ht
          · by_cases e : j = i
            · subst e
              obtain rfl : oj = o := Option.some.inj (hoj.symm.trans ho)
              obtain rfl : dj = d := Option.some.inj (hdj.symm.trans hd)
              have hev : (a.put oj.dst v).eval (.tmp dj) = v := by
                have := put_same a dj v (by rw [hm.size]; exact hlt)
                rw [← hd] at this
                simp [Act.eval, this]
              rw [hev]; exact hf
            · have htj : (ops.toList.take qs.length)[j]? = some oj := by rw [List.getElem?_take, if_pos hj, Array.getElem?_toList]; exact hoj
              have hne : o.dst ≠ some dj := fun h => by
                have : d = dj := Option.some.inj (hd.symm.trans h)
                exact hallD j oj htj e (by rw [this]; exact hdj)
              rw [eval_of_get (put_other a o.dst v dj hne)]
              refine Fk.mono _ _ w w' (hm.has j oj dj hj hoj hdj ?_) hb
              have hne2 : i ≠ j := fun h => e h.symm
              simpa [Array.getElem?_setIfInBounds, hne2] using hlj
          · have hne : i ≠ j := by omega
            have := hm.last j hj1 hj2
            simpa [Array.getElem?_setIfInBounds, hne] using this
        have hkeep : i ∉ fr → ∀ v, NewApart ops fr (listed.setIfInBounds i true) (a.put o.dst v) := by
          intro hni v p hp q hq hpq hlp hlq dp dq ep eq
          have hip : i ≠ p := fun h => hni (h ▸ hp)
          have hiq : i ≠ q := fun h => hni (h ▸ hq)
          have hlp' : listed.getD p false = true := by simpa [Array.getElem?_setIfInBounds, hip] using hlp
          have hlq' : listed.getD q false = true := by simpa [Array.getElem?_setIfInBounds, hiq] using hlq
          obtain ⟨hpk, op, dp', hop, hdp, _⟩ := hN p hp
          obtain ⟨hqk, oq, dq', hoq, hdq, _⟩ := hN q hq
          obtain rfl : dp = dp' := by rw [slotAt, hop] at ep; exact Option.some.inj (ep.symm.trans hdp)
          obtain rfl : dq = dq' := by rw [slotAt, hoq] at eq; exact Option.some.inj (eq.symm.trans hdq)
          have n1 : o.dst ≠ some dp := fun h => hallD p op (by rw [List.getElem?_take, if_pos hpk, Array.getElem?_toList]; exact hop) (fun e => hip e.symm) (by rw [hdp, ← h]; exact hd)
          have n2 : o.dst ≠ some dq := fun h => hallD q oq (by rw [List.getElem?_take, if_pos hqk, Array.getElem?_toList]; exact hoq) (fun e => hiq e.symm) (by rw [hdq, ← h]; exact hd)
          rw [eval_of_get (put_other a o.dst v dp n1), eval_of_get (put_other a o.dst v dq n2)]
          exact hap p hp q hq hpq hlp' hlq' dp dq ep eq
        by_cases hin : i ∈ fr
        · obtain ⟨_, o', d', ho', hd', hop', hg', hfk'⟩ := hN i hin
          obtain rfl : o' = o := Option.some.inj (ho'.symm.trans ho)
          obtain rfl : d' = d := Option.some.inj (hd'.symm.trans hd)
          have hrun : (execOp a.eval o').run Tryd.prog w = .ok (.value (.pointer (some ⟨w.heap.size, 0, none⟩))) (w.alloc (.cells (hz.map V).toArray 24)) := by
            obtain ⟨d1, op1, ty1, pos1, aft1, gd1⟩ := o'
            simp only at hop'
            subst hop'
            exact Tryd.alloc24 _ _ _ _ _ _ _
          unfold wpOp
          rw [ho]
          show if Region.wanted o' (yielded ops a.tmps) = true then _ else _
          rw [if_pos (by unfold Region.wanted; rw [hg'])]
          refine .inl ?_
          unfold Oper.wp
          rw [hrun]
          refine hnext _ _ ((Below.refl _ _).alloc (Nat.le_refl _) _) ?_ ?_
          · intro p hp q hq hpq hlp hlq dp dq ep eq
            obtain ⟨hpk, op, dp', hop, hdp, _, _, hfp⟩ := hN p hp
            obtain ⟨hqk, oq, dq', hoq, hdq, _, _, hfq⟩ := hN q hq
            obtain rfl : dp = dp' := by rw [slotAt, hop] at ep; exact Option.some.inj (ep.symm.trans hdp)
            obtain rfl : dq = dq' := by rw [slotAt, hoq] at eq; exact Option.some.inj (eq.symm.trans hdq)
            have hnew : (a.put o'.dst (.pointer (some ⟨w.heap.size, 0, none⟩))).eval (.tmp d') = .pointer (some ⟨w.heap.size, 0, none⟩) := by
              rw [hd]; exact put_eval_same _ _ _ (by rw [hm.size]; exact hlt)
            have hold : ∀ r, r ∈ fr → r ≠ i → (listed.setIfInBounds i true).getD r false = true → ∀ dr, slotAt ops r = some dr → (a.put o'.dst (.pointer (some ⟨w.heap.size, 0, none⟩))).eval (.tmp dr) = a.eval (.tmp dr) ∧ ∃ g, g < w.heap.size ∧ a.eval (.tmp dr) = .pointer (some ⟨g, 0, none⟩) := by
              intro r hr hri hlr dr er
              obtain ⟨hrk, or', dr', hor, hdr, _, _, hfr⟩ := hN r hr
              obtain rfl : dr = dr' := by rw [slotAt, hor] at er; exact Option.some.inj (er.symm.trans hdr)
              have n1 : o'.dst ≠ some dr := fun h => hallD r or' (by rw [List.getElem?_take, if_pos hrk, Array.getElem?_toList]; exact hor) hri (by rw [hdr, ← h]; exact hd)
              have hir : i ≠ r := fun h => hri h.symm
              have hlr' : listed.getD r false = true := by simpa [Array.getElem?_setIfInBounds, hir] using hlr
              have hf := hm.has r or' dr hrk hor hdr hlr'
              rw [hfr] at hf
              obtain ⟨g, _, e, hv⟩ := hf
              exact ⟨eval_of_get (put_other a o'.dst _ dr n1), g, hv.lt, e⟩
            by_cases e1 : p = i
            · have hqi : q ≠ i := fun h => hpq (e1.trans h.symm)
              obtain ⟨k1, g, hg, k2⟩ := hold q hq hqi hlq dq eq
              have : dp = d' := by
                subst e1
                rw [slotAt, ho] at ep
                exact Option.some.inj (ep.symm.trans hd)
              rw [this, hnew, k1, k2]
              intro h
              have h2 : w.heap.size = g := ptr_inj h
              omega
            · obtain ⟨k1, g, hg, k2⟩ := hold p hp e1 hlp dp ep
              by_cases e2 : q = i
              · have : dq = d' := by
                  subst e2
                  rw [slotAt, ho] at eq
                  exact Option.some.inj (eq.symm.trans hd)
                rw [this, hnew, k1, k2]
                intro h
                have h2 : g = w.heap.size := ptr_inj h
                omega
              · obtain ⟨l1, g2, hg2, l2⟩ := hold q hq e2 hlq dq eq
                have hip : i ≠ p := fun h => e1 h.symm
                have hiq : i ≠ q := fun h => e2 h.symm
                rw [k1, l1]
                exact hap p hp q hq hpq (by simpa [Array.getElem?_setIfInBounds, hip] using hlp) (by simpa [Array.getElem?_setIfInBounds, hiq] using hlq) dp dq ep eq
          · rw [hfk']
            exact ⟨w.heap.size, hm.grow.size, rfl, heap_alloc_new _ _⟩
        have hyield : ∀ (j : Nat) (b c : Bool), o.guard = some (j, b) → (∃ d, depOk ops.toList qs.length o j d = true) → (∀ v w, fkAt qs j v w → v = .bool c) → yielded ops a.tmps j = some c := by
          rintro j b c hg ⟨d, hd⟩ hbool
          have hv := hbool _ _ (hK.dep j d hd)
          have hd2 : (ops[j]?).bind (·.dst) = some d := by
            unfold depOk at hd
            simp only [Bool.and_eq_true, decide_eq_true_eq, beq_iff_eq, Array.getElem?_toList] at hd
            exact hd.2
          have hget : a.tmps[d]? = some (.bool c) := by
            simp only [Act.eval, Array.getD_eq_getD_getElem?] at hv
            cases hq : a.tmps[d]? with
            | none => rw [hq] at hv; simp [undef] at hv
            | some u => rw [hq] at hv; simp at hv; rw [hv]
          unfold yielded
          rw [hd2]
          simp only [Option.bind_some, hget]
        unfold wpOp
        rw [ho]
        show if Region.wanted o (yielded ops a.tmps) = true then _ else _
        have hyes : Region.wanted o (yielded ops a.tmps) = true → wantedBy qs o = true → (if Region.wanted o (yielded ops a.tmps) = true then o.wp Tryd.prog a w (wpAny Tryd.prog .any ops Q fuel (listed.setIfInBounds i true)) Q ∨ (o.asks Tryd.prog a w ∧ LetsOut Q) else wpAny Tryd.prog .any ops Q fuel (listed.setIfInBounds i true) (a.put o.dst undef) w) := by
          intro hwant hwb
          rw [if_pos hwant]
          refine .inl (Oper.wp_mono ?_ (hS.get i o hik (by rw [Array.getElem?_toList]; exact ho) hwb a w hK))
          rintro a' w' ⟨v, rfl, hb, hf⟩
          exact hnext v w' hb (hkeep hin v) hf
        cases hg : o.guard with
        | none => exact hyes (by unfold Region.wanted; rw [hg]) (by unfold wantedBy; rw [hg])
        | some jb =>
          obtain ⟨j, b⟩ := jb
          obtain ⟨hdp, h2⟩ := guardsOk_spec hG i o j b hik (by rw [Array.getElem?_toList]; exact ho) hg
          rcases h2 with h2 | h2
          · refine hyes ?_ (by unfold wantedBy; rw [hg]; exact h2)
            unfold Region.wanted
            rw [hg]
            show (yielded ops a.tmps j == some b) = true
            rw [hyield j b b hg hdp (Fk.isBool_spec h2)]; simp
          · have hno : Region.wanted o (yielded ops a.tmps) = false := by
              unfold Region.wanted
              rw [hg]
              show (yielded ops a.tmps j == some b) = false
              rw [hyield j b (!b) hg hdp (Fk.isBool_spec h2.1)]; cases b <;> rfl
            rw [if_neg (by rw [hno]; simp)]
            exact hnext undef w (Below.refl _ _) (hkeep hin undef) (Fk.isAny_spec h2.2 _ _)
/-- Two variables are made among the steps, numbers p and q. -/
theorem wp_region_two {id : Nat} {a0 : Act} {w : World} (qs : List Fk) (js : List Nat) (p q dp dq : Nat) (hp : isNew ops p dp = true) (hq : isNew ops q dq = true) (hpq : (p == q) = false) (hpk : decide (p < qs.length) = true) (hqk : decide (q < qs.length) = true) (hfp : qs.getD p .any = Fk.pn w.heap.size hz) (hfq : qs.getD q .any = Fk.pn w.heap.size hz)
    (hk : decide (qs.length ≤ ops.size) = true) (hE : backOk ops.toList = true) (hC : coverOk ops.toList qs.length = true) (hJ : chainOk ops (firstK qs.length ops.size) js = true)
    (hD : dstsOk a0.tmps.size (ops.toList.take qs.length) = true) (hG : guardsOk ops.toList qs.length qs ops.toList qs = true)
    (hS : Steps Tryd.prog Q ops.toList qs.length qs a0 w ops.toList qs)
    (hF : ∀ af w', Final ops.toList qs a0 af w' → af.eval (.tmp dp) ≠ af.eval (.tmp dq) → Below w.heap.size w w' → wpList Tryd.prog ops Q (js.filterMap (ops[·]?)) af w') :
    (Code.region id ops true).wp Tryd.prog Q a0 w := by
  have hne : p ≠ q := by simpa using hpq
  refine wp_region_any Tryd.mixed ?_
  refine wp_mids_new [p, q] js (of_decide_eq_true hk) hE hC hJ ?_ hD hG hS (fun af w' fin hap hb => hF af w' fin (hap p (by simp) q (by simp) hne dp dq (isNew_slot hp) (isNew_slot hq)) hb) ops.size _ a0 _ ?_ ?_ ?_ ?_
  · intro i hi
    simp only [List.mem_cons, List.not_mem_nil, or_false] at hi
    rcases hi with rfl | rfl
    · obtain ⟨o, h1, h2, h3, h4⟩ := isNew_spec hp
      exact ⟨of_decide_eq_true hpk, o, _, h1, h2, h3, h4, by unfold fkAt; rw [hfp]⟩
    · obtain ⟨o, h1, h2, h3, h4⟩ := isNew_spec hq
      exact ⟨of_decide_eq_true hqk, o, _, h1, h2, h3, h4, by unfold fkAt; rw [hfq]⟩
  · unfold unl
    exact Nat.le_trans (Array.countP_le_size) (by simp)
  · intro i o ho hl
    have : i < ops.size := (Array.getElem?_eq_some_iff.1 ho).1
    simp [this] at hl
  · intro i _ j _ _ hl
    exfalso
    rcases Nat.lt_or_ge i ops.size with h | h
    · simp [h] at hl
    · rw [Array.getD_eq_getD_getElem?, Array.getElem?_eq_none (by simpa using h)] at hl
      simp at hl
  · refine ⟨rfl, rfl, by simp, fun _ _ => rfl, fun i o d _ ho _ hl => ?_, fun i _ hi => ?_, (Below.refl _ _).drew⟩
    · have : i < ops.size := (Array.getElem?_eq_some_iff.1 ho).1
      simp [this] at hl
    · simp [hi]
end
end Go.Proofs.YtfbfngblocfdlaaDoor
namespace Go.Proofs.YtfbfngblocfdlaaDoor
set_option maxRecDepth 100000
open Go.RowKit
/-- 512 hashes of noughts, in cells. -/
def mk512 : Array Value := madeCells ((hz.map V).toArray) (512 * 32)
theorem mk512_at (j : Nat) (h : j < 512 * 32) : mk512[j]? = some (.int .u8 (bv (hz.getD (j % 32) 0))) := by
  have h2 : j % 32 < hz.length := by rw [hz_len]; omega
  have h3 : mk512.size = 512 * 32 := by unfold mk512; simp [size_madeCells]
  rw [Array.getElem?_eq_getElem (by rw [h3]; exact h)]
  unfold mk512
  simp only [madeCells, Array.getElem_map, Array.getElem_range, List.size_toArray, List.length_map, hz_len]
  have : (hz.map V).toArray[j % 32]? = some (V (hz.getD (j % 32) 0)) := by
    rw [List.getElem?_toArray, List.getElem?_map, List.getElem?_eq_getElem h2, Option.map_some, List.getD_eq_getElem?_getD, List.getElem?_eq_getElem h2]
    rfl
  rw [getElem!_def, this]
  rfl
theorem Tryd.make22L (w : World) : (Instr.makeSlice 22 (.int .i64 512) (.int .i64 512)).run Tryd.prog w = .ok (.slice (some ⟨w.heap.size, 0, none⟩) 512 512) (w.alloc (.cells mk512 24)) := by
  obtain ⟨i0, hi, hz0, hz1, hz2⟩ := info_parts Tryd.info24
  have := run_make (P := Tryd.prog) w 22 24 i0 _ Tryd.under22' hi hz0 .i64 .i64 512 512 (by omega) (by omega) (by rw [hz2]; omega) (by omega)
  rw [hz1] at this
  exact this
/-- 512 hashes of noughts. -/
def z512 : List (List (BitVec 8)) := List.replicate 512 hz
theorem rw_newL (w : World) : Rw (w.alloc (.cells mk512 24)) w.heap.size z512 := by
  unfold z512
  refine ⟨⟨fun _ => rfl, fun _ => by simp, fun i x hi => ?_⟩, by simp, fun j => ?_⟩
  · obtain ⟨h1, h2⟩ := List.getElem?_eq_some_iff.1 hi
    simp only [List.length_replicate] at h1
    obtain rfl : hz = x := by rw [← h2, List.getElem_replicate]
    refine ⟨hz_len, fun j hj => ?_⟩
    rw [hz_len] at hj
    rw [World.cell?_alloc_mark, mk512_at _ (by omega), show (0 + i * 32 + j) % 32 = j by omega]
  · have := heap_alloc_new w (.cells mk512 24)
    exact frozen_of_row _ _ j _ 24 this
/-- The first k of 512 are told, the others are noughts. -/
def part512 (F : Nat → List (BitVec 8)) (k : Nat) : List (List (BitVec 8)) := (List.range 512).map fun i => if i < k then F i else hz
theorem part_lenL (F : Nat → List (BitVec 8)) (k : Nat) : (part512 F k).length = 512 := by simp [part512]
theorem part_zeroL (F : Nat → List (BitVec 8)) : part512 F 0 = z512 := by
  unfold z512
  apply List.ext_getElem (by rw [part_lenL, List.length_replicate])
  intro i h1 h2
  rw [List.getElem_replicate]
  simp [part512]
theorem part_setL (F : Nat → List (BitVec 8)) (k : Nat) : (part512 F k).set k (F k) = part512 F (k + 1) := by
  apply List.ext_getElem (by simp [part512])
  intro i h1 h2
  rw [List.getElem_set]
  simp only [part512, List.getElem_map, List.getElem_range]
  by_cases e : k = i
  · subst e; simp
  · rw [if_neg e]
    by_cases h : i < k
    · rw [if_pos h, if_pos (by omega)]
    · rw [if_neg h, if_neg (by omega)]
/-- All 512. -/
def all512 (F : Nat → List (BitVec 8)) : List (List (BitVec 8)) := (List.range 512).map F
theorem part_allL (F : Nat → List (BitVec 8)) : part512 F 512 = all512 F := by
  apply List.ext_getElem (by simp [part512, all512])
  intro i h1 h2
  simp only [part512, List.length_map, List.length_range] at h1
  simp [part512, all512, h1]
theorem all_lenL (F : Nat → List (BitVec 8)) : (all512 F).length = 512 := by simp [all512]
theorem all_atL (F : Nat → List (BitVec 8)) (i : Nat) (h : i < 512) : (all512 F)[i]? = some (F i) := by simp [all512, h]
end Go.Proofs.YtfbfngblocfdlaaDoor
namespace Go.Proofs.YtfbfngblocfdlaaDoor
set_option maxRecDepth 100000
open Go.RowKit
/-- The secret of bit p for b. -/
def sc (seed : List (BitVec 8)) (key : Int) (p b : Nat) : List (BitVec 8) := sec seed key ((67 + 2 * p + b : Nat) : Int)
/-- The end of what stands for bit p, for b. -/
def en (x : List (BitVec 8)) (p b : Nat) : List (BitVec 8) := chn ((67 + p : Nat) : Int) (b : Int) x
theorem sc_len (seed : List (BitVec 8)) (key : Int) (p b : Nat) : (sc seed key p b).length = 32 := sec_len _ _ _
theorem en_len (x : List (BitVec 8)) (p b : Nat) : (en x p b).length = 32 := chn_len _ _ _
end Go.Proofs.YtfbfngblocfdlaaDoor
namespace Go.Proofs.YtfbfngblocfdlaaDoor
set_option maxRecDepth 100000
open Go.RowKit Go.Shelf
attribute [local go_sem] Oper.semAt_some
/-- Bit k of a hash. -/
def bt (h : List (BitVec 8)) (k : Nat) : Nat := (h.getD (k / 8) 0).toNat / 2 ^ (7 - k % 8) % 2
theorem bt_le (h : List (BitVec 8)) (k : Nat) : bt h k ≤ 1 := by unfold bt; omega
/-- What has come when k rounds are over. -/
def ups (k : Nat) : List (Fin 256) := (List.range k).map (Fin.ofNat 256)
theorem ups_succ (k : Nat) (h : k < 256) : ups (k + 1) = ups k ++ [⟨k, h⟩] := by
  simp only [ups, List.range_succ, List.map_append, List.map_cons, List.map_nil]
  congr 2
  exact Fin.ext (Nat.mod_eq_of_lt h)
theorem ups_len (k : Nat) : (ups k).length = k := by simp [ups]
theorem ups_all (p : Fin 256) : p ∈ ups 256 := by
  simp only [ups, List.mem_map, List.mem_range]
  exact ⟨p.val, p.isLt, Fin.ext (Nat.mod_eq_of_lt p.isLt)⟩
/-- What a round is handed. -/
def enc (h : List (BitVec 8)) (p : Fin 256) : Array Value := #[.int .i64 (p.val : Int), .int .i64 (bt h p.val : Int)]
theorem shr_bit (x : BitVec 8) (n : Nat) : bits .and .u8 (bv x / 2 ^ n) 1 = ((x.toNat / 2 ^ n % 2 : Nat) : Int) := by
  unfold bv
  rw [show ((x.toNat : Int) / 2 ^ n) = ((x.toNat / 2 ^ n : Nat) : Int) by simp]
  have h1 := x.isLt
  have h2 : x.toNat / 2 ^ n < 256 := Nat.lt_of_le_of_lt (Nat.div_le_self _ _) h1
  generalize x.toNat / 2 ^ n = m at h2
  rw [u8_and _ _ (by omega) (by omega) (by omega) (by omega)]
  simp
/-- Block g lies as it lay. -/
def Kg (g : Nat) (W W' : World) : Prop := W'.heap[g]? = W.heap[g]?
theorem kg_t {g : Nat} {A B C : World} (h : Kg g A B) (k : Kg g B C) : Kg g A C := Eq.trans k h
theorem kg_b {g : Nat} {w : World} (hg : g < w.heap.size) (W : World) (l : Nat) (o o' : Obj) (hl : w.heap.size ≤ l) (_ : W.heap[l]? = some o) (_ : o.isCells = false) (_ : o.isWalk = false) : Kg g W (W.putObj l o') :=
  World.putObj_heap_other (by omega)
/-- Cells lie on where what is turned is no cells. -/
theorem own_block {A B : World} {row : Option Nat} {k bd : Nat} {o : Obj} (h : A.heap[k]? = some o) (ho : o.isCells = true) (hg : A.grownBy B row) (hr : ∀ r, row = some r → bd ≤ r ∧ ∃ o : Obj, A.heap[r]? = some o ∧ o.isCells = false) : B.heap[k]? = some o := by
  refine (hg.block k (Array.getElem?_eq_some_iff.1 h).1 (fun e => ?_)).trans h
  obtain ⟨_, o', h1, h2⟩ := hr k e.symm
  rw [h] at h1
  obtain rfl := Option.some.inj h1
  rw [ho] at h2; cases h2
/-- The same where the block for deferred calls is turned. -/
theorem own_put {W : World} {k D : Nat} {o o' p : Obj} (h : W.heap[k]? = some o) (ho : o.isCells = true) (hD : W.heap[D]? = some p) (hp : p.isCells = false) : (W.putObj D o').heap[k]? = some o :=
  own_block (bd := 0) h ho (grownBy_putObj' W D o') (fun r e => by cases e; exact ⟨Nat.zero_le _, p, hD, hp⟩)
end Go.Proofs.YtfbfngblocfdlaaDoor
namespace Go.Proofs.YtfbfngblocfdlaaDoor
set_option maxRecDepth 100000
open Go.RowKit Go.Shelf
attribute [local go_sem] Oper.semAt_some
/-- A number in a cell. -/
def NV (n : Nat) : Value := .int .i64 (n : Int)
/-- Block b of the world is a row of numbers. -/
def HasN (w : World) (b : Nat) (ds : List Nat) : Prop := w.heap[b]? = some (.cells (ds.map NV).toArray 3 (0, 0))
theorem HasN.cell {w : World} {b : Nat} {ds : List Nat} (h : HasN w b ds) (i d : Nat) (hi : ds[i]? = some d) : w.cell? ⟨b, i, none⟩ = some (.int .i64 (d : Int)) := by
  unfold HasN at h
  simp [World.cell?, h, hi, NV]
theorem HasN.frozen {w : World} {b : Nat} {ds : List Nat} (h : HasN w b ds) (i : Nat) : w.frozen? ⟨b, i, none⟩ = false := by
  unfold HasN at h
  simp [World.frozen?, h]
theorem HasN.set {w : World} {b : Nat} {ds : List Nat} (h : HasN w b ds) (i x : Nat) : HasN (w.setCell ⟨b, i, none⟩ (.int .i64 (x : Int))) b (ds.set i x) := by
  unfold HasN at *
  simp [World.setCell, Array.getElem?_modify, h, NV, List.map_set]
theorem HasN.lt {w : World} {b : Nat} {ds : List Nat} (h : HasN w b ds) : b < w.heap.size := (Array.getElem?_eq_some_iff.1 h).1
/-- Noughts. -/
def zns (n : Nat) : List Nat := List.replicate n 0
theorem zns_len (n : Nat) : (zns n).length = n := by simp [zns]
theorem made_zns (n : Nat) : madeCells #[.int .i64 0] n = ((zns n).map NV).toArray := by
  unfold zns
  apply Array.ext (by simp [size_madeCells])
  intro i h1 h2
  simp [madeCells, NV, Nat.mod_one]
/-- 256 noughts. -/
def znL : List Nat := zns 256
theorem zn_len : znL.length = 256 := zns_len 256
theorem made_zn : madeCells #[.int .i64 0] 256 = (znL.map NV).toArray := made_zns 256
theorem Tryd.u23 : Tryd.prog.underlying 24 = some (.array 32 5) := by kernel_rfl
theorem Tryd.s23 : (Tryd.prog.info? 24).map (·.size) = some 32 := by kernel_rfl
theorem Tryd.info3n : (Tryd.prog.info? 3).map (fun i => (i.zero, i.size, i.bytes)) = some (some (.int .i64 0), 1, 8) := by kernel_rfl
theorem Tryd.underI : Tryd.prog.underlying 47 = some (.slice 3) := by kernel_rfl
theorem Tryd.makeI (w : World) : (Instr.makeSlice 47 (.int .i64 256) (.int .i64 256)).run Tryd.prog w = .ok (.slice (some ⟨w.heap.size, 0, none⟩) 256 256) (w.alloc (.cells (znL.map NV).toArray 3)) := by
  obtain ⟨i0, hi, hz0, hz1, hz2⟩ := info_parts Tryd.info3n
  have := run_make (P := Tryd.prog) w 47 3 i0 _ Tryd.underI hi hz0 .i64 .i64 256 256 (by omega) (by omega) (by rw [hz2]; omega) (by omega)
  rw [hz1] at this
  rw [← made_zn]
  exact this
/-- All bits. -/
def bts (h : List (BitVec 8)) : List Nat := (List.range 256).map (bt h)
theorem bts_len (h : List (BitVec 8)) : (bts h).length = 256 := by simp [bts]
theorem bts_at (h : List (BitVec 8)) (i : Nat) (hi : i < 256) : (bts h)[i]? = some (bt h i) := by simp [bts, hi]
/-- What is told of a row of numbers when some of the bits have come. -/
def Told (h : List (BitVec 8)) (pre : List (Fin 256)) (ds : List Nat) : Prop := ds.length = 256 ∧ ∀ p ∈ pre, ds[p.val]? = some (bt h p.val)
theorem told_nil (h : List (BitVec 8)) : Told h [] znL := ⟨zn_len, fun _ hp => by cases hp⟩
theorem told_snoc {h : List (BitVec 8)} {pre : List (Fin 256)} {ds : List Nat} (ht : Told h pre ds) (p : Fin 256) : Told h (pre ++ [p]) (ds.set p.val (bt h p.val)) := by
  refine ⟨by rw [List.length_set]; exact ht.1, fun q hq => ?_⟩
  by_cases e : q = p
  · subst e; rw [List.getElem?_set_self (by rw [ht.1]; exact q.isLt)]
  · rw [List.getElem?_set_ne (fun h => e (Fin.ext h.symm))]
    rcases List.mem_append.1 hq with h1 | h1
    · exact ht.2 q h1
    · exact absurd (List.mem_singleton.1 h1) e
theorem told_all {h : List (BitVec 8)} {ds : List Nat} (ht : Told h (ups 256) ds) : ds = bts h := by
  apply List.ext_getElem? 
  intro i
  by_cases hi : i < 256
  · rw [bts_at h i hi]; exact ht.2 ⟨i, hi⟩ (ups_all _)
  · rw [List.getElem?_eq_none (by rw [ht.1]; omega), List.getElem?_eq_none (by rw [bts_len]; omega)]
theorem block_alloc {w : World} {b : Nat} {o p : Obj} (h : w.heap[b]? = some o) : (w.alloc p).heap[b]? = some o := (Below.heap_alloc w p b (Array.getElem?_eq_some_iff.1 h).1).trans h
theorem any_world {P : Program} {c : Code} {Q : Exit → Act → World → Prop} {a : Act} {w : World} (F : World → Prop) (hF : F w) (h : ∀ w2, F w2 → Code.wp P c Q a w2) : Code.wp P c Q a w := h w hF
/-- A variable that holds a slice. -/
def HasS (w : World) (b : Nat) (T : TypeId) (v : Value) : Prop := w.heap[b]? = some (.cells #[v] T (0, 0))
theorem HasS.cell {w : World} {b : Nat} {T : TypeId} {v : Value} (h : HasS w b T v) : w.cell? ⟨b, 0, none⟩ = some v := by
  unfold HasS at h
  simp [World.cell?, h]
theorem block_setCell {w : World} {a : Addr} {v : Value} {b : Nat} {o : Obj} (h : w.heap[b]? = some o) (hne : b ≠ a.block) : (w.setCell a v).heap[b]? = some o := by
  rw [heap_setCell_other _ _ _ _ hne]; exact h
end Go.Proofs.YtfbfngblocfdlaaDoor
namespace Go.Proofs.YtfbfngblocfdlaaDoor
set_option maxRecDepth 100000
open Go.RowKit
/-- The hash that begins with 160. -/
def h160 : List (BitVec 8) := [160, 0, 0, 0, 0, 0, 0, 0, 0, 0, 0, 0, 0, 0, 0, 0, 0, 0, 0, 0, 0, 0, 0, 0, 0, 0, 0, 0, 0, 0, 0, 0]
theorem h160_bits : bt h160 0 = 1 ∧ bt h160 1 = 0 ∧ bt h160 2 = 1 ∧ bt h160 3 = 0 ∧ bt h160 255 = 0 := by decide
theorem Tryd.build160 (w : World) : (Instr.build 24 #[(0, .int .u8 160)]).run Tryd.prog w = .ok (.agg (h160.map V).toArray) w := by kernel_rfl
end Go.Proofs.YtfbfngblocfdlaaDoor
namespace Go.Proofs.YtfbfngblocfdlaaDoor
set_option maxRecDepth 100000
open Go.RowKit
/-- No operation defers a call. -/
def plainB (o : Oper) : Bool := match o.op with
  | .defer _ => false
  | _ => true
theorem plain_ne {o : Oper} (h : plainB o = true) : ∀ c, o.op ≠ .defer c := by
  intro c e
  unfold plainB at h
  rw [e] at h
  cases h
section
variable {P : Program} {Q : Exit → Act → World → Prop} {l n : Nat}
theorem in_oper {o : Oper} {a : Act} {w : World} {K K' : Act → World → Prop} (hd : plainB o = true) (hQ : ¬ LetsOut Q) (hK : ∀ a w, K a w → K' a w)
    (h : o.wp P a w K Q ∨ (o.asks P a w ∧ LetsOut Q)) : o.wpIn (Fence.wide.inRound l) n P a w K' Q := by
  rcases h with h | h
  · refine ⟨fun _ _ => trivial, ?_⟩
    rw [Oper.semAt_eq _ _ _ (plain_ne hd)]
    unfold Oper.wp at h
    generalize (execOp a.eval o).run P w = r at *
    cases r with
    | ok x w' =>
      cases x <;> simp only [Oper.upon, Oper.uponIn] at h ⊢ <;>
        first
          | exact hK _ _ h
          | exact h.elim
          | exact ⟨fun h => (by cases h), CallsIn.inRound l (callsIn_wide.2 (Calls.mono h (fun e w'' he => by cases e <;> first | exact hK _ _ he | exact he)))⟩
          | exact ⟨fun h => (by cases h), fun c cs _ => by obtain ⟨v, w', hr, hs⟩ := h c cs; exact ⟨v, w', hK _ _ hr, stepsIn_wide.2 hs⟩⟩
    | halt x w' => cases x <;> simp only [Oper.upon, Oper.uponIn] at h ⊢ <;> exact h
  · exact absurd h.2 hQ
theorem in_list {ops : Array Oper} (hQ : ¬ LetsOut Q) : ∀ (L : List Oper) (a : Act) (w : World), L.all plainB = true → wpList P ops Q L a w → wpListIn (Fence.wide.inRound l) n P ops Q L a w
  | [], _, _, _, h => h
  | o :: rest, a, w, hd, h => by
    simp only [List.all_cons, Bool.and_eq_true] at hd
    unfold wpList at h
    unfold wpListIn
    by_cases hw : Region.wanted o (yielded ops a.tmps) = true
    · rw [if_pos hw] at h ⊢
      exact in_oper hd.1 hQ (fun a w h => in_list hQ rest a w hd.2 h) h
    · rw [if_neg hw] at h ⊢
      exact ⟨fun _ _ => trivial, in_list hQ rest _ _ hd.2 h⟩
theorem in_any {md : Region.Mode} {ops : Array Oper} (hd : ops.toList.all plainB = true) (hQ : ¬ LetsOut Q) : ∀ (fuel : Nat) (listed : Array Bool) (a : Act) (w : World), wpAny P md ops Q fuel listed a w → wpAnyIn (Fence.wide.inRound l) n P md ops Q fuel listed a w
  | 0, _, _, _, h => h
  | fuel + 1, listed, a, w, h => by
    refine ⟨h.1, fun i hi => ?_⟩
    have h2 := h.2 i hi
    unfold wpOp at h2
    unfold wpOpIn
    cases ho : ops[i]? with
    | none =>
      simp only [ho] at h2
      exact in_any hd hQ fuel _ _ _ h2
    | some o =>
      simp only [ho] at h2
      have hp : plainB o = true := List.all_eq_true.1 hd o (List.mem_of_getElem? (by rw [Array.getElem?_toList]; exact ho))
      by_cases hw : Region.wanted o (yielded ops a.tmps) = true
      · simp only [hw, if_true] at h2 ⊢
        exact in_oper hp hQ (fun a w h => in_any hd hQ fuel _ a w h) h2
      · simp only [hw] at h2 ⊢
        exact ⟨fun _ _ => trivial, in_any hd hQ fuel _ _ _ h2⟩
variable {ops : Array Oper}
/-- A region in the text's order, in a round. -/
theorem in_region_seq {id : Nat} {a0 : Act} {w : World} (qs : List Fk) (hQ : ¬ LetsOut Q) (hp : ops.toList.all plainB = true) (hk : decide (qs.length ≤ ops.size) = true) (hE : backOk ops.toList = true)
    (hD : dstsOk a0.tmps.size (ops.toList.take qs.length) = true) (hG : guardsOk ops.toList qs.length qs ops.toList qs = true)
    (hS : Steps P Q ops.toList qs.length qs a0 w ops.toList qs)
    (hF : ∀ af w', Final ops.toList qs a0 af w' → Below w.heap.size w w' → wpList P ops Q (ops.toList.drop qs.length) af w') :
    (Code.region id ops false).wpIn (Fence.wide.inRound l) n P Q a0 w :=
  wpIn_region_list (in_list hQ _ _ _ hp (wp_list_seq qs (of_decide_eq_true hk) hE hD hG hS hF qs.length 0 a0 w (by omega) ⟨rfl, rfl, fun _ _ => rfl, fun j _ _ hj => absurd hj (by omega), Below.refl _ _⟩))
/-- A drawn region, in a round. -/
theorem in_region_tail {id : Nat} {a0 : Act} {w : World} (qs : List Fk) (js : List Nat) (hQ : ¬ LetsOut Q) (hp : ops.toList.all plainB = true) (hm : P.follows .mixedOrders = true) (hk : decide (qs.length ≤ ops.size) = true) (hE : backOk ops.toList = true) (hC : coverOk ops.toList qs.length = true) (hJ : chainOk ops (firstK qs.length ops.size) js = true)
    (hD : dstsOk a0.tmps.size (ops.toList.take qs.length) = true) (hG : guardsOk ops.toList qs.length qs ops.toList qs = true)
    (hS : Steps P Q ops.toList qs.length qs a0 w ops.toList qs)
    (hF : ∀ af w', Final ops.toList qs a0 af w' → Below w.heap.size w w' → wpList P ops Q (js.filterMap (ops[·]?)) af w') :
    (Code.region id ops true).wpIn (Fence.wide.inRound l) n P Q a0 w := by
  refine wpIn_region_any hm (in_any hp hQ _ _ _ _ ?_)
  refine wp_mids_tail js (of_decide_eq_true hk) hE hC hJ hD hG hS hF ops.size _ a0 _ ?_ ?_ ?_
  · unfold unl
    exact Nat.le_trans (Array.countP_le_size) (by simp)
  · intro i o ho hl
    have : i < ops.size := (Array.getElem?_eq_some_iff.1 ho).1
    simp [this] at hl
  · refine ⟨rfl, rfl, by simp, fun _ _ => rfl, fun i o d _ ho _ hl => ?_, fun i _ hi => ?_, (Below.refl _ _).drew⟩
    · have : i < ops.size := (Array.getElem?_eq_some_iff.1 ho).1
      simp [this] at hl
    · simp [hi]
end
end Go.Proofs.YtfbfngblocfdlaaDoor
namespace Go.Proofs.YtfbfngblocfdlaaDoor
set_option maxRecDepth 100000
open Go.RowKit
/-- What lies at B or behind it lies as it lay. -/
def Kept (B : Nat) (W W' : World) : Prop := W.heap.size ≤ W'.heap.size ∧ ∀ k, B ≤ k → k < W.heap.size → W'.heap[k]? = W.heap[k]?
theorem Kept.refl (B : Nat) (W : World) : Kept B W W := ⟨Nat.le_refl _, fun _ _ _ => rfl⟩
theorem Kept.trans {B : Nat} {X Y Z : World} (h : Kept B X Y) (k : Kept B Y Z) : Kept B X Z := ⟨Nat.le_trans h.1 k.1, fun i hB hi => (k.2 i hB (Nat.lt_of_lt_of_le hi h.1)).trans (h.2 i hB hi)⟩
theorem Kept.mono {B C : Nat} {X Y : World} (h : Kept B X Y) (hc : B ≤ C) : Kept C X Y := ⟨h.1, fun i hB hi => h.2 i (Nat.le_trans hc hB) hi⟩
theorem Kept.at {B : Nat} {X Y : World} (h : Kept B X Y) {k : Nat} {o : Obj} (hB : B ≤ k) (hk : X.heap[k]? = some o) : Y.heap[k]? = some o := (h.2 k hB (Array.getElem?_eq_some_iff.1 hk).1).trans hk
theorem Kept.of_below {B : Nat} {X Y : World} (h : Below X.heap.size X Y) : Kept B X Y := ⟨h.size, fun i _ hi => h.block i hi⟩
theorem Kept.of_only {B g : Nat} {X Y : World} (h : Only g X Y) (hg : g < B) : Kept B X Y := ⟨h.size, fun i hB hi => h.block i hi (by omega)⟩
theorem kept_put {B l : Nat} {X : World} (o : Obj) (hl : l < B) : Kept B X (X.putObj l o) := ⟨by simp, fun i hB _ => World.putObj_heap_other (by omega)⟩
theorem below_put {B l : Nat} {X : World} (o : Obj) (hB : B ≤ l) (hl : l < X.heap.size) : Below B X (X.putObj l o) := by
  have hg := grownBy_putObj' X l o
  exact (Below.refl B X).grown hg (by omega) (fun k e => by cases e; exact hB)
/-- The iterator's word: round k, for k below N, gets enc k; between two rounds it turns what it has laid itself alone; what it reads besides (R) the rounds keep. -/
def Gives (m gf : Nat) (lb : Array Value) (enc : Nat → Array Value) (N : Nat) (R : World → Prop) (w : World) : Prop :=
  ∀ (l : Nat) (J Jx : Nat → World → Prop) (W : World), Below w.heap.size w W → (∀ k A B, J k A → Below W.heap.size A B → J k B) → (∀ k A, J k A → R A) →
    (∀ k W1, k < N → J k W1 → YieldAt Fence.wide (m - 1) Tryd.prog l (enc k) W1 fun e W' => (e = .returned (.bool true) ∧ J (k + 1) W' ∧ Kept W.heap.size W1 W') ∨ (e = .returned (.bool false) ∧ Jx k W')) →
    J 0 W → CallsIn Fence.wide m Tryd.prog gf (#[.func (.yield l) #[] #[]] ++ lb) W fun e W' => (∃ v, e = .returned v) ∧ (J N W' ∨ ∃ k, k < N ∧ Jx k W')
/-- How a round's body may be left. -/
def rpost (B : Nat) (I : Nat → World → Prop) (Ix : Code → Nat → World → Prop) (k : Nat) (V : World) : Exit → Act → World → Prop
  | .normal, _, W => Kept B V W ∧ I (k + 1) W
  | .ret, _, W => Kept B V W ∧ Ix .ret k W
  | .exit id, _, W => Kept B V W ∧ Ix (.exit id) k W
  | _, _, _ => False
theorem range_gives {n : Nat} {g : Operand} {ps : Array Tmp} {assign body : Code} {Q : Exit → Act → World → Prop} {a : Act} {w : World} (h1 : 1 ≤ n) {gf : Nat} {lb : Array Value} (hg : a.eval g = .func (.func gf) #[] lb) (eg : ∀ args w, (callFunc gf args).run Tryd.prog w = .ok (.enter gf args) w)
    {enc : Nat → Array Value} {N : Nat} {R : World → Prop} (hseq : Gives (n - 1) gf lb enc N R w) (hps : ∀ k, (enc k).size = ps.size)
    (I : Nat → World → Prop) (Ix : Code → Nat → World → Prop) (hI : ∀ k A B, I k A → Below w.heap.size A B → I k B) (hIx : ∀ c k A B, Ix c k A → Below w.heap.size A B → Ix c k B) (hIR : ∀ k A, I k A → R A) (h0 : I 0 w)
    (hround : ∀ (k : Nat) (W : World), k < N → I k W → (∃ r, W.heap[w.heap.size + 1]? = some (.loop r)) →
      assign.wpIn (Fence.wide.inRound (w.heap.size + 1)) (n - 1 - 1) Tryd.prog (Exit.then (fun a₁ w₁ => Kept w.heap.size W w₁ ∧ ∀ o, body.wpIn (Fence.wide.inRound (w.heap.size + 1)) (n - 1 - 1) Tryd.prog (rpost w.heap.size I Ix k (w₁.putObj (w.heap.size + 1) o)) a₁ (w₁.putObj (w.heap.size + 1) o)) (fun _ _ _ => False))
        { tmps := (ps.zip (enc k)).foldl (fun t (p, v) => t.setIfInBounds p v) a.tmps, defers := [] } W)
    (hdone : ∀ W, I N W → W.heap[w.heap.size]? = some (.deferred (some [])) → Q .normal { a with defers := { target := .collected w.heap.size, args := #[] } :: a.defers } W)
    (hstop : ∀ c k W, k < N → Ix c k W → W.heap[w.heap.size]? = some (.deferred (some [])) → c.wpIn Fence.wide n Tryd.prog Q { a with defers := { target := .collected w.heap.size, args := #[] } :: a.defers } W) :
    (Code.rangeFunc g ps assign body).wpIn Fence.wide n Tryd.prog Q a w := by
  apply wpIn_rangeFunc
  intro fn hfn
  obtain ⟨L, hL⟩ : ∃ L, w.heap.size + 1 = L := ⟨_, rfl⟩
  obtain ⟨r0, hr0⟩ : ∃ r : Loop, r = { state := .ready, pending := none, fn, tmps := a.tmps, params := ps, assign, body, defers := w.heap.size } := ⟨_, rfl⟩
  have hst : r0.state = .ready := by rw [hr0]
  have hpd : r0.pending = none := by rw [hr0]
  obtain ⟨W0, hW0⟩ : ∃ W0, (w.alloc (.deferred (some []))).alloc (.loop r0) = W0 := ⟨_, rfl⟩
  have z0 : W0.heap.size = w.heap.size + 2 := by rw [← hW0]; simp
  have b0 : Below w.heap.size w W0 := by rw [← hW0]; exact ((Below.refl _ w).alloc (Nat.le_refl _) _).alloc (by simp) _
  have l0 : W0.heap[L]? = some (.loop r0) := by
    have := World.alloc_heap_new (w.alloc (.deferred (some []))) (.loop r0)
    rw [World.size_alloc, hW0, hL] at this
    exact this
  have d0 : W0.heap[w.heap.size]? = some (.deferred (some [])) := by
    rw [← hW0]
    exact (Below.heap_alloc _ _ _ (by simp)).trans (World.alloc_heap_new w _)
  refine ⟨L, [{ target := .collected w.heap.size, args := #[] }], W0, { target := .fn (.func gf) lb, args := #[.func (.yield L) #[] #[]] }, W0, gf, #[.func (.yield L) #[] #[]] ++ lb, W0, ?_, ?_, fun _ _ => trivial, ?_, fun _ => h1, ?_⟩
  · have := run_enterLoop_outer (P := Tryd.prog) (w := w) fn a.tmps ps assign body
    rw [← hr0, hW0, hL] at this
    exact this
  · simp only [resolve, hg]
    simp [go_sem]
  · simp [invoke, go_sem, eg]
  have book : ∀ {A B : World}, Below W0.heap.size A B → ∀ {o o' : Obj}, A.heap[L]? = some o → A.heap[w.heap.size]? = some o' → B.heap[L]? = some o ∧ B.heap[w.heap.size]? = some o' := by
    intro A B hb o o' ho ho'
    exact ⟨(hb.block L (by omega)).trans ho, (hb.block _ (by omega)).trans ho'⟩
  refine CallsIn.mono (hseq L (fun k W => I k W ∧ W.heap[L]? = some (.loop r0) ∧ W.heap[w.heap.size]? = some (.deferred (some []))) (fun k W => ∃ c, Ix c k W ∧ W.heap[L]? = some (.loop { r0 with state := .done, pending := some c }) ∧ W.heap[w.heap.size]? = some (.deferred (some []))) W0 b0 ?_ (fun k A h => hIR k A h.1) ?_ ⟨hI _ _ _ h0 b0, l0, d0⟩) ?_
  · rintro k A B ⟨h1, h2, h3⟩ hb
    obtain ⟨h4, h5⟩ := book hb h2 h3
    exact ⟨hI _ _ _ h1 (Below.mono hb (by omega)), h4, h5⟩
  · rintro k W1 hk ⟨hi, hl, hd⟩
    have hlt : L < W1.heap.size := (Array.getElem?_eq_some_iff.1 hl).1
    have hy := run_yield (P := Tryd.prog) (args := enc k) hl (by rw [hr0]; exact hps k)
    rw [hr0] at hy
    refine ⟨fn, _, assign, body, hy, roundIn_of_wpIn hfn ?_⟩
    have hw := hround k W1 hk hi ⟨r0, by rw [hL]; exact hl⟩
    rw [hL] at hw
    refine wpIn_mono hw ?_
    intro e a1 w1 hp
    cases e with
    | normal =>
      obtain ⟨hkp, hbody⟩ := hp
      have hl1 := hkp.at (by omega) hl
      have hd1 := hkp.at (Nat.le_refl _) hd
      refine ⟨_, run_beginRound hl1 hst, wpIn_mono (hbody _) ?_⟩
      have hlt1 : L < w1.heap.size := (Array.getElem?_eq_some_iff.1 hl1).1
      generalize hV : w1.putObj L (.loop { r0 with state := .busy }) = V
      have hlV : V.heap[L]? = some (.loop { r0 with state := .busy }) := by rw [← hV]; exact World.putObj_heap_same hlt1
      have hdV : V.heap[w.heap.size]? = some (.deferred (some [])) := by rw [← hV]; exact (World.putObj_heap_other (by omega)).trans hd1
      have hKV : Kept W0.heap.size W1 V := by rw [← hV]; exact (hkp.mono (by omega)).trans (kept_put _ (by omega))
      have last : ∀ (j : Option Code) (W3 : World), Kept w.heap.size V W3 → (Instr.endRound L j).run Tryd.prog W3 = .ok (.bool j.isNone) (W3.putObj L (.loop { r0 with state := if j.isNone then .ready else .done, pending := j })) ∧ L < W3.heap.size ∧ (W3.putObj L (.loop { r0 with state := if j.isNone then .ready else .done, pending := j })).heap[L]? = some (.loop { r0 with state := if j.isNone then .ready else .done, pending := j }) ∧ (W3.putObj L (.loop { r0 with state := if j.isNone then .ready else .done, pending := j })).heap[w.heap.size]? = some (.deferred (some [])) := by
        intro j W3 hk3
        have hl3 := hk3.at (by omega) hlV
        have hlt3 := (Array.getElem?_eq_some_iff.1 hl3).1
        have hrun := run_endRound (P := Tryd.prog) j hl3
        exact ⟨hrun, hlt3, World.putObj_heap_same hlt3, (World.putObj_heap_other (by omega)).trans (hk3.at (Nat.le_refl _) hdV)⟩
      intro e a3 W3 hq
      cases e with
      | normal =>
        obtain ⟨hk3, hi3⟩ := hq
        obtain ⟨hr, hlt3, hl4, hd4⟩ := last none W3 hk3
        refine ⟨_, _, hr, .inl ⟨rfl, ⟨hI _ _ _ hi3 (below_put _ (by omega) hlt3), ?_, hd4⟩, hKV.trans ((hk3.mono (by omega)).trans (kept_put _ (by omega)))⟩⟩
        rw [hl4]
        simp only [Option.isNone_none, if_true]
        rw [show ({ r0 with state := .ready, pending := none } : Loop) = r0 by rw [hr0]]
      | ret =>
        obtain ⟨hk3, hi3⟩ := hq
        obtain ⟨hr, hlt3, hl4, hd4⟩ := last (some .ret) W3 hk3
        exact ⟨_, _, hr, .inr ⟨rfl, .ret, hIx _ _ _ _ hi3 (below_put _ (by omega) hlt3), hl4, hd4⟩⟩
      | exit id =>
        obtain ⟨hk3, hi3⟩ := hq
        obtain ⟨hr, hlt3, hl4, hd4⟩ := last (some (.exit id)) W3 hk3
        exact ⟨_, _, hr, .inr ⟨rfl, .exit id, hIx _ _ _ _ hi3 (below_put _ (by omega) hlt3), hl4, hd4⟩⟩
      | goto t => exact hq.elim
      | panic ch => exact hq.elim
      | outgrown => exact hq.elim
    | _ => exact hp.elim
  · rintro e W2 ⟨⟨v, rfl⟩, ⟨hi, hl, hd⟩ | ⟨k, hk, c, hi, hl, hd⟩⟩
    · have hlt : L < W2.heap.size := (Array.getElem?_eq_some_iff.1 hl).1
      refine ⟨none, _, (run_endLoop (P := Tryd.prog) hl (by rw [hst]; simp)).trans (by rw [hpd]), hdone _ (hI _ _ _ hi (below_put _ (by omega) hlt)) ((World.putObj_heap_other (by omega)).trans hd)⟩
    · have hlt : L < W2.heap.size := (Array.getElem?_eq_some_iff.1 hl).1
      exact ⟨some c, _, run_endLoop (P := Tryd.prog) hl (by simp), hstop c k _ hk (hIx _ _ _ _ hi (below_put _ (by omega) hlt)) ((World.putObj_heap_other (by omega)).trans hd)⟩
end Go.Proofs.YtfbfngblocfdlaaDoor
namespace Go.Proofs.YtfbfngblocfdlaaDoor
set_option maxRecDepth 100000
open Go.RowKit
theorem Tryd.isAgg22 (w : World) : (isAgg 22).run Tryd.prog w = .ok false w := by kernel_rfl
/-- A pointer to a variable that holds v. -/
def Fk.pv (u : Value) : Fk := .inr (.inl ⟨fun v w => ∃ b o, v = .pointer (some ⟨b, o, none⟩) ∧ w.cell? ⟨b, o, none⟩ = some u, by
  rintro v w w' ⟨b, o, e, h⟩ hb
  exact ⟨b, o, e, by rw [hb.cell (block_lt_of_cell h)]; exact h⟩⟩)
/-- A pointer to a variable that holds a slice of hashes. -/
def Fk.pw (hs : List (List (BitVec 8))) : Fk := .inr (.inl ⟨fun v w => ∃ b o u, v = .pointer (some ⟨b, o, none⟩) ∧ w.cell? ⟨b, o, none⟩ = some u ∧ (Fk.hs hs).f u w, by
  rintro v w w' ⟨b, o, u, e, h, h2⟩ hb
  exact ⟨b, o, u, e, by rw [hb.cell (block_lt_of_cell h)]; exact h, Fk.mono _ _ _ _ h2 hb⟩⟩)
section
variable {Q : Exit → Act → World → Prop} {o : Oper} {a : Act} {w : World} {q : Fk} {ops : Array Oper} {rest : List Oper}
theorem st_loadv (x : Operand) (ho : o.op = .load 22 x) {u : Value} (h : (Fk.pv u).f (a.eval x) w) : o.wp Tryd.prog a w (Ends a o.dst w (Fk.eq u).f) Q := by
  obtain ⟨b, so, e, hc⟩ := h
  refine st_pure (v := u) ?_ rfl
  have h1 : (isAgg 22).run Tryd.prog w = .ok false w := Tryd.isAgg22 w
  unfold execOp
  rw [ho]
  simp [e, Instr.loadAt, Instr.sureAddr, loadVar, h1, run_load, hc]
theorem st_loadw (x : Operand) (ho : o.op = .load 22 x) {hs : List (List (BitVec 8))} (h : (Fk.pw hs).f (a.eval x) w) : o.wp Tryd.prog a w (Ends a o.dst w (Fk.hs hs).f) Q := by
  obtain ⟨b, so, u, e, hc, hu⟩ := h
  refine st_pure (v := u) ?_ hu
  have h1 : (isAgg 22).run Tryd.prog w = .ok false w := Tryd.isAgg22 w
  unfold execOp
  rw [ho]
  simp [e, Instr.loadAt, Instr.sureAddr, loadVar, h1, run_load, hc]
theorem st_idxrow (x y : Operand) (ho : o.op = .indexAddr 22 x y) (g i : Nat) (hx : a.eval x = .slice (some ⟨g, 0, none⟩) 512 512) (hy : a.eval y = .int .i64 (i : Int)) (hi : i < 512) : o.wp Tryd.prog a w (Ends a o.dst w (Fk.eq (.pointer (some ⟨g, i * 32, none⟩))).f) Q := by
  refine st_pure (v := .pointer (some ⟨g, i * 32, none⟩)) ?_ rfl
  have h1 := run_indexAt_slice (P := Tryd.prog) (w := w) 22 ⟨g, 0, none⟩ 512 512 .i64 (i : Int) (by rw [Tryd.elem22]; exact Tryd.under22')
  rw [if_pos (by omega), Tryd.elem22, Tryd.sizeOf24] at h1
  simp only [Result.andThen_ok, Int.toNat_natCast, Addr.add_mid, Nat.zero_add] at h1
  unfold execOp
  rw [ho]
  simp [hx, hy, h1]
theorem st_add (x y : Operand) (ho : o.op = .binOp .add 3 x y 3) (m n e : Nat) (hx : a.eval x = .int .i64 (m : Int)) (hy : a.eval y = .int .i64 (n : Int)) (he : e = m + n) (hk : e ≤ 1000000) : o.wp Tryd.prog a w (Ends a o.dst w (Fk.eq (.int .i64 (e : Int))).f) Q := by
  refine st_pure (v := .int .i64 (e : Int)) ?_ rfl
  unfold execOp
  rw [ho]
  have hw : IntKind.i64.wrap ((m : Int) + (n : Int)) = (e : Int) := by rw [IntKind.wrap_i64]; omega
  simp [hx, hy, eqGuard, binOp, Op.intArith, hw]
theorem st_sub (x y : Operand) (ho : o.op = .binOp .sub 3 x y 3) (m n e : Nat) (hx : a.eval x = .int .i64 (m : Int)) (hy : a.eval y = .int .i64 (n : Int)) (he : e + n = m) (hk : m ≤ 1000000) : o.wp Tryd.prog a w (Ends a o.dst w (Fk.eq (.int .i64 (e : Int))).f) Q := by
  refine st_pure (v := .int .i64 (e : Int)) ?_ rfl
  unfold execOp
  rw [ho]
  have hw : IntKind.i64.wrap ((m : Int) - (n : Int)) = (e : Int) := by rw [IntKind.wrap_i64]; omega
  simp [hx, hy, eqGuard, binOp, Op.intArith, hw]
theorem st_mul (x y : Operand) (ho : o.op = .binOp .mul 3 x y 3) (m n e : Nat) (hx : a.eval x = .int .i64 (m : Int)) (hy : a.eval y = .int .i64 (n : Int)) (he : e = m * n) (hk : e ≤ 1000000) : o.wp Tryd.prog a w (Ends a o.dst w (Fk.eq (.int .i64 (e : Int))).f) Q := by
  refine st_pure (v := .int .i64 (e : Int)) ?_ rfl
  unfold execOp
  rw [ho]
  have hw : IntKind.i64.wrap ((m : Int) * (n : Int)) = (e : Int) := by rw [show (m : Int) * (n : Int) = (e : Int) by rw [he]; simp, IntKind.wrap_i64]; omega
  simp [hx, hy, eqGuard, binOp, Op.intArith, hw]
theorem wl_storew (hgd : o.guard = none) (x y : Operand) (ho : o.op = .store 24 x y) (hd : o.dst = none) (g i : Nat) (zs : List (BitVec 8)) (hs : List (List (BitVec 8))) (hx : a.eval x = .pointer (some ⟨g, i * 32, none⟩)) (hy : a.eval y = .agg (zs.map V).toArray) (hR : Rw w g hs) (hi : i < hs.length) (hz : zs.length = 32)
    (h : wpList Tryd.prog ops Q rest a (w.setCells g (i * 32) (zs.map V))) : wpList Tryd.prog ops Q (o :: rest) a w := by
  refine wpList_store_mid hgd 24 x y ho g (i * 32) (zs.map V).toArray hx hy (by rw [List.size_toArray, List.length_map, hz]; exact hR.there i hi) (by rw [List.size_toArray, List.length_map, hz]; exact Tryd.size24) (V_all _) ?_
  rw [hd]
  exact h
theorem st_exth (x : Operand) (ho : o.op = .extract x 0) {hs : List (List (BitVec 8))} {n : Int} (h : (Fk.th hs n).f (a.eval x) w) : o.wp Tryd.prog a w (Ends a o.dst w (Fk.hs hs).f) Q := by
  obtain ⟨u, e, hu⟩ := h
  exact st_ext0 x ho e hu
theorem st_extn (x : Operand) (ho : o.op = .extract x 1) {hs : List (List (BitVec 8))} {n : Int} (h : (Fk.th hs n).f (a.eval x) w) : o.wp Tryd.prog a w (Ends a o.dst w (Fk.eq (.int .i64 n)).f) Q := by
  obtain ⟨u, e, hu⟩ := h
  exact st_ext1 x ho e rfl
end
/-- Two of each place, when some of the bits have come. -/
def ToldH (F : Nat → List (BitVec 8)) (pre : List (Fin 256)) (hs : List (List (BitVec 8))) : Prop := hs.length = 512 ∧ ∀ p ∈ pre, hs[2 * p.val]? = some (F (2 * p.val)) ∧ hs[2 * p.val + 1]? = some (F (2 * p.val + 1))
theorem z512_len : z512.length = 512 := by unfold z512; rw [List.length_replicate]
theorem toldH_nil (F : Nat → List (BitVec 8)) : ToldH F [] z512 := ⟨z512_len, fun _ hp => by cases hp⟩
theorem toldH_snoc {F : Nat → List (BitVec 8)} {pre : List (Fin 256)} {hs : List (List (BitVec 8))} (ht : ToldH F pre hs) (p : Fin 256) (i j : Nat) (h : (i = 2 * p.val ∧ j = 2 * p.val + 1) ∨ (j = 2 * p.val ∧ i = 2 * p.val + 1)) :
    ToldH F (pre ++ [p]) ((hs.set i (F i)).set j (F j)) := by
  have hp := p.isLt
  have hl := ht.1
  have hat : ∀ k, k = i ∨ k = j → ((hs.set i (F i)).set j (F j))[k]? = some (F k) := by
    intro k hk
    by_cases e : j = k
    · subst e; rw [List.getElem?_set_self (by rw [List.length_set, hl]; omega)]
    · rw [List.getElem?_set_ne e]
      obtain rfl : k = i := by omega
      rw [List.getElem?_set_self (by rw [hl]; omega)]
  refine ⟨by rw [List.length_set, List.length_set]; exact hl, fun q hq => ?_⟩
  by_cases e : q = p
  · subst e
    exact ⟨hat _ (by omega), hat _ (by omega)⟩
  · have e' : q.val ≠ p.val := fun h => e (Fin.ext h)
    rw [List.getElem?_set_ne (by omega), List.getElem?_set_ne (by omega), List.getElem?_set_ne (by omega), List.getElem?_set_ne (by omega)]
    rcases List.mem_append.1 hq with h1 | h1
    · exact ht.2 q h1
    · exact absurd (List.mem_singleton.1 h1) e
theorem toldH_all {F : Nat → List (BitVec 8)} {hs : List (List (BitVec 8))} (ht : ToldH F (ups 256) hs) : hs = all512 F := by
  apply List.ext_getElem?
  intro i
  by_cases hi : i < 512
  · rw [all_atL F i hi]
    have := ht.2 ⟨i / 2, by omega⟩ (ups_all _)
    simp only at this
    rcases Nat.mod_two_eq_zero_or_one i with h | h
    · rw [show i = 2 * (i / 2) by omega]; exact this.1
    · rw [show i = 2 * (i / 2) + 1 by omega]; exact this.2
  · rw [List.getElem?_eq_none (by rw [ht.1]; omega), List.getElem?_eq_none (by rw [all_lenL]; omega)]
/-- What a signature has at number i. -/
def sgOf (seed : List (BitVec 8)) (key : Int) (h : List (BitVec 8)) (i : Nat) : List (BitVec 8) :=
  if i % 2 = 0 then sc seed key (i / 2) (bt h (i / 2)) else en (sc seed key (i / 2) (1 - bt h (i / 2))) (i / 2) (1 - bt h (i / 2))
theorem sgOf_len (seed : List (BitVec 8)) (key : Int) (h : List (BitVec 8)) (i : Nat) : (sgOf seed key h i).length = 32 := by
  unfold sgOf
  split
  · exact sc_len _ _ _ _
  · exact en_len _ _ _
theorem sgOf_even (seed : List (BitVec 8)) (key : Int) (h : List (BitVec 8)) (p : Nat) : sgOf seed key h (2 * p) = sc seed key p (bt h p) := by
  unfold sgOf
  rw [if_pos (by omega), show 2 * p / 2 = p by omega]
theorem sgOf_odd (seed : List (BitVec 8)) (key : Int) (h : List (BitVec 8)) (p : Nat) : sgOf seed key h (2 * p + 1) = en (sc seed key p (1 - bt h p)) p (1 - bt h p) := by
  unfold sgOf
  rw [if_neg (by omega), show (2 * p + 1) / 2 = p by omega]
/-- The end at number i. -/
def edOf (seed : List (BitVec 8)) (key : Int) (i : Nat) : List (BitVec 8) := en (sc seed key (i / 2) (i % 2)) (i / 2) (i % 2)
theorem edOf_at (seed : List (BitVec 8)) (key : Int) (p b : Nat) (hb : b ≤ 1) : edOf seed key (2 * p + b) = en (sc seed key p b) p b := by
  unfold edOf
  rw [show (2 * p + b) / 2 = p by omega, show (2 * p + b) % 2 = b by omega]
theorem edOf_len (seed : List (BitVec 8)) (key : Int) (i : Nat) : (edOf seed key i).length = 32 := en_len _ _ _
/-- What Recover has at number i. -/
def rcOf (h : List (BitVec 8)) (S : List (List (BitVec 8))) (i : Nat) : List (BitVec 8) :=
  if i % 2 = bt h (i / 2) then en (S.getD (2 * (i / 2)) []) (i / 2) (i % 2) else S.getD (2 * (i / 2) + 1) []
theorem rcOf_same (h : List (BitVec 8)) (S : List (List (BitVec 8))) (p b : Nat) (hb : bt h p = b) (x : List (BitVec 8)) (hx : S[2 * p]? = some x) : rcOf h S (2 * p + b) = en x p b := by
  have hle := bt_le h p
  unfold rcOf
  rw [show (2 * p + b) / 2 = p by omega, show (2 * p + b) % 2 = b by omega, if_pos hb.symm, List.getD_eq_getElem?_getD, hx]
  rfl
theorem rcOf_other (h : List (BitVec 8)) (S : List (List (BitVec 8))) (p c : Nat) (hc : c = 1 - bt h p) (x : List (BitVec 8)) (hx : S[2 * p + 1]? = some x) : rcOf h S (2 * p + c) = x := by
  have hle := bt_le h p
  unfold rcOf
  rw [show (2 * p + c) / 2 = p by omega, show (2 * p + c) % 2 = c by omega, if_neg (by omega), List.getD_eq_getElem?_getD, hx]
  rfl
theorem rc_sig (seed : List (BitVec 8)) (key : Int) (h : List (BitVec 8)) : all512 (rcOf h (all512 (sgOf seed key h))) = all512 (edOf seed key) := by
  unfold all512
  apply List.map_congr_left
  intro i hi
  have hi' : i < 512 := by simpa using hi
  have hle := bt_le h (i / 2)
  have e0 : ((List.range 512).map (sgOf seed key h))[2 * (i / 2)]? = some (sc seed key (i / 2) (bt h (i / 2))) := by
    have := all_atL (sgOf seed key h) (2 * (i / 2)) (by omega)
    rw [sgOf_even] at this
    exact this
  have e1 : ((List.range 512).map (sgOf seed key h))[2 * (i / 2) + 1]? = some (en (sc seed key (i / 2) (1 - bt h (i / 2))) (i / 2) (1 - bt h (i / 2))) := by
    have := all_atL (sgOf seed key h) (2 * (i / 2) + 1) (by omega)
    rw [sgOf_odd] at this
    exact this
  have ei : i = 2 * (i / 2) + i % 2 := by omega
  by_cases hb : bt h (i / 2) = i % 2
  · have := rcOf_same h _ (i / 2) (i % 2) hb _ e0
    rw [← ei, hb] at this
    rw [this]; rfl
  · have hc : i % 2 = 1 - bt h (i / 2) := by omega
    have := rcOf_other h _ (i / 2) (i % 2) hc _ e1
    rw [← ei, ← hc] at this
    rw [this]; rfl
/-- The row G alone was turned since W0. -/
theorem only_below {g : Nat} {A B C : World} (h : Only g A B) (hb : Below A.heap.size B C) : Only g A C :=
  ⟨hb.os.trans h.os, hb.tape.trans h.tape, hb.output.trans h.output, Nat.le_trans h.size hb.size, fun k hk hg => (hb.block k hk).trans (h.block k hk hg)⟩
theorem only_setCells {g : Nat} {A : World} : ∀ (vs : List Value) (o : Nat) (w : World), Only g A w → Only g A (w.setCells g o vs)
  | [], _, _, h => h
  | v :: r, o, _, h => only_setCells r (o + 1) _ (h.setCell o v)
theorem keeps_setCells {g : Nat} : ∀ (vs : List Value) (o : Nat) (w : World), KeepsOthers w (w.setCells g o vs)
  | [], _, _ => KeepsOthers.refl _
  | v :: r, o, w => (KeepsOthers.setCell w _ v).trans (keeps_setCells r (o + 1) _)
theorem keeps_below {w w' : World} (hb : Below w.heap.size w w') : KeepsOthers w w' := ⟨hb.size, fun k _ hk _ => (hb.block k (Array.getElem?_eq_some_iff.1 hk).1).trans hk⟩
/-- Only the row g was turned. -/
theorem HasV.onlyV {w w' : World} {g b : Nat} {T : TypeId} {xs : List (BitVec 8)} (h : HasV w b T xs) (hb : Only g w w') (hg : b ≠ g) : HasV w' b T xs := by
  have hl := h.lt
  unfold HasV at *
  rw [hb.block b hl hg]; exact h
theorem Rw.belowB {w w' : World} {g B : Nat} {hs : List (List (BitVec 8))} (h : Rw w g hs) (hb : Below B w w') (hB : g < B) : Rw w' g hs := by
  have hblk : w'.heap[g]? = w.heap[g]? := hb.block g hB
  refine ⟨⟨h.hl.ptr, fun _ => Nat.lt_of_lt_of_le h.lt hb.size, fun i x hi => ?_⟩, Nat.lt_of_lt_of_le h.lt hb.size, fun j => by rw [World.frozen?_of_block (w := w) hblk]; exact h.fz j⟩
  obtain ⟨h1, h2⟩ := h.hl.all i x hi
  exact ⟨h1, h2.below hb hB⟩
end Go.Proofs.YtfbfngblocfdlaaDoor
namespace Go.Proofs.YtfbfngblocfdlaaDoor
set_option maxRecDepth 100000
open Go.RowKit Go.Shelf
attribute [local go_sem] Oper.semAt_some
theorem frame_any {F : Fence} {n : Nat} {P : Program} {c : Code} {Q : Exit → Act → World → Prop} {a : Act} {w : World} (I : Act → Prop) (h0 : I a) (h : ∀ f, I f → Code.wpIn F n P c Q f w) : Code.wpIn F n P c Q a w := h a h0
theorem rw_block {w : World} {g : Nat} {hs : List (List (BitVec 8))} {o : Obj} (h : Rw w g hs) : Rw (w.alloc o) g hs := h.below ((Below.refl _ _).alloc (Nat.le_refl _) _)
end Go.Proofs.YtfbfngblocfdlaaDoor
namespace Go.Proofs.YtfbfngblocfdlaaDoor
set_option maxRecDepth 100000
open Go.RowKit Go.Shelf
attribute [local go_sem] Oper.semAt_some
end Go.Proofs.YtfbfngblocfdlaaDoor
namespace Go.Proofs.YtfbfngblocfdlaaDoor
set_option maxRecDepth 100000
open Go.RowKit
end Go.Proofs.YtfbfngblocfdlaaDoor
namespace Go.Proofs.YtfbfngblocfdlaaDoor
set_option maxRecDepth 100000
open Go.RowKit
section
variable {Q : Exit → Act → World → Prop} {o : Oper} {a : Act} {w : World} {ops : Array Oper} {rest : List Oper}
theorem wl_run {P : Program} (hgd : o.guard = none) {v : Value} {w' : World} (hr : (execOp a.eval o).run P w = .ok (.value v) w') (h : wpList P ops Q rest (a.put o.dst v) w') : wpList P ops Q (o :: rest) a w := by
  unfold wpList
  rw [if_pos (by unfold Region.wanted; rw [hgd])]
  refine .inl ?_
  unfold Oper.wp
  rw [hr]
  exact h
theorem wl_build (hgd : o.guard = none) (x : Operand) (ho : o.op = .buildSlice 22 1 #[(0, x)]) (hh : List (BitVec 8)) (hl : hh.length = 32) (hx : a.eval x = .agg (hh.map V).toArray)
    (h : wpList Tryd.prog ops Q rest (a.put o.dst (.slice (some ⟨w.heap.size, 0, none⟩) 1 1)) (w.alloc (.cells (hh.map V).toArray 24))) : wpList Tryd.prog ops Q (o :: rest) a w := by
  refine wl_run hgd (v := .slice (some ⟨w.heap.size, 0, none⟩) 1 1) (w' := w.alloc (.cells (hh.map V).toArray 24)) ?_ h
  have := Tryd.build22 hh hl w
  unfold execOp
  rw [ho]
  simp [hx, this]
theorem appendH (hgd : o.guard = none) (s x : Operand) (ho : o.op = .call { callee := .builtin .append, args := #[s, x], argTypes := #[22, 22] })
    (wL : World) (v : Value) (hs : List (List (BitVec 8))) (hh : List (BitVec 8)) (g : Nat) (hsv : a.eval s = v) (hs1 : (Fk.ow wL.heap.size hs).f v w) (hx : a.eval x = .slice (some ⟨g, 0, none⟩) 1 1) (hv : HasV w g 24 hh) (hhl : hh.length = 32) (hL : Below wL.heap.size wL w) (hN : hs.length ≤ 1000)
    (h : ∀ v' w', (Fk.ow wL.heap.size (hs ++ [hh])).f v' w' → Below wL.heap.size wL w' → wpList Tryd.prog ops Q rest (a.put o.dst v') w') : wpList Tryd.prog ops Q (o :: rest) a w := by
  obtain ⟨i0, hi, hz0, hz1, hz2⟩ := info_parts Tryd.info24
  obtain ⟨hown, h32⟩ := hs1
  refine wpList_append_own w hgd s x 22 ho wL.heap.size 24 i0 _ 32 32 Tryd.under22' hi hz0 hz1 hz2 (by simp [Value.cells, hz_len]) (by decide) v hs.length _ hsv hown ⟨g, 0, none⟩ 1 1 (hh.map V) hx (by simp [hhl]) ?_ (V_one hh) (by unfold maxLen; omega) (by omega) hL.size ?_
  · intro j u hj
    have := hv.bytes.src hh.length j u
    rw [List.take_of_length_le (Nat.le_refl _)] at this
    exact this hj
  · intro v' w' h1 h2 _
    refine h v' w' ⟨?_, fun i y hi => ?_⟩ (hL.grown h2 hL.size (fun k e => (World.ownsRow.lt hown k e).1))
    · rw [List.length_append, List.flatten_append, List.map_append]
      simpa using h1
    · by_cases hil : i < hs.length
      · exact h32 i y (by rw [List.getElem?_append_left hil] at hi; exact hi)
      · rw [List.getElem?_append_right (by omega)] at hi
        cases hq : i - hs.length with
        | zero =>
          rw [hq] at hi
          obtain rfl : hh = y := by simpa using hi
          exact hhl
        | succ n => rw [hq] at hi; simp at hi
end
theorem ow_alloc {base : Nat} {hs : List (List (BitVec 8))} {v : Value} {w w' : World} (h : (Fk.ow base hs).f v w) (hb : Below w.heap.size w w') : (Fk.ow base hs).f v w' := Fk.mono _ _ _ _ h hb
end Go.Proofs.YtfbfngblocfdlaaDoor
namespace Go.Proofs.YtfbfngblocfdlaaDoor
set_option maxRecDepth 100000
open Go.RowKit
/-- No hashes. -/
def nilH : List (List (BitVec 8)) := []
/-- A row of 512 noughts that is new. -/
def Fk.nr (g0 : Nat) : Fk := .inr (.inl ⟨fun v w => ∃ g, g0 ≤ g ∧ v = .slice (some ⟨g, 0, none⟩) 512 512 ∧ Rw w g z512, by
  rintro v w w' ⟨g, h, e, hr⟩ hb
  exact ⟨g, h, e, hr.below hb⟩⟩)
theorem st_make27 {Q : Exit → Act → World → Prop} {o : Oper} {a : Act} {w : World} (ho : o.op = .makeSlice 22 (.const (.int .i64 512)) (.const (.int .i64 512))) (g0 : Nat) (hg : g0 ≤ w.heap.size) : o.wp Tryd.prog a w (Ends a o.dst w (Fk.nr g0).f) Q := by
  refine st_run (v := .slice (some ⟨w.heap.size, 0, none⟩) 512 512) (w' := w.alloc (.cells mk512 24)) ?_ ((Below.refl _ _).alloc (Nat.le_refl _) _) ⟨w.heap.size, hg, rfl, rw_newL w⟩
  have := Tryd.make22L w
  have he : a.eval (.const (.int .i64 512)) = .int .i64 512 := rfl
  unfold execOp
  rw [ho]
  simp [he, this]
theorem rw_hs {w : World} {g : Nat} {hs : List (List (BitVec 8))} (h : Rw w g hs) (hl : hs.length = 512) : (Fk.hs hs).f (.slice (some ⟨g, 0, none⟩) 512 512) w := ⟨_, 512, g, 0, by rw [hl], h.hl⟩
end Go.Proofs.YtfbfngblocfdlaaDoor
namespace Go.Proofs.YtfbfngblocfdlaaDoor
set_option maxRecDepth 100000
open Go.RowKit
section
variable {Q : Exit → Act → World → Prop} {o : Oper} {a : Act} {w : World}
end
theorem sig_end (seed : List (BitVec 8)) (key : Nat) (h : List (BitVec 8)) (i : Nat) : wk (i : Int) (dg h i) (sigOf seed key h i) (15 - dg h i) = endOf seed key i := by
  unfold sigOf endOf
  have := dg_le h i
  have e := wk_add (i : Int) 0 (sec seed key i) (dg h i) (15 - dg h i)
  rw [Nat.zero_add, show dg h i + (15 - dg h i) = 15 by omega] at e
  exact e.symm
theorem rec_sig (seed : List (BitVec 8)) (key : Nat) (h : List (BitVec 8)) : all67 (recOf h (all67 (sigOf seed key h))) = all67 (endOf seed key) := by
  unfold all67
  apply List.map_congr_left
  intro i hi
  have hi' : i < 67 := by simpa using hi
  have e : (((List.range 67).map (sigOf seed key h)).getD i []) = sigOf seed key h i := by
    have := all_at (sigOf seed key h) i hi'
    unfold all67 at this
    simp only [List.getD_eq_getElem?_getD, this, Option.getD_some]
  unfold recOf
  rw [e, sig_end]
end Go.Proofs.YtfbfngblocfdlaaDoor
namespace Go.Proofs.YtfbfngblocfdlaaDoor
set_option maxRecDepth 100000
open Go.RowKit
/-- Block b holds just these cells. -/
def Ob (w : World) (b : Nat) (T : TypeId) (cs : List Value) : Prop := w.heap[b]? = some (.cells cs.toArray T (0, 0))
theorem Ob.lt {w : World} {b : Nat} {T : TypeId} {cs : List Value} (h : Ob w b T cs) : b < w.heap.size := (Array.getElem?_eq_some_iff.1 h).1
theorem Ob.below {w w' : World} {b : Nat} {T : TypeId} {cs : List Value} (h : Ob w b T cs) (hb : Below w.heap.size w w') : Ob w' b T cs := by
  have := hb.block b h.lt
  unfold Ob at *
  rw [this]; exact h
theorem Ob.only {w w' : World} {b g : Nat} {T : TypeId} {cs : List Value} (h : Ob w b T cs) (hb : Only g w w') (hg : b ≠ g) : Ob w' b T cs := by
  have := hb.block b h.lt hg
  unfold Ob at *
  rw [this]; exact h
theorem Ob.cell {w : World} {b : Nat} {T : TypeId} {cs : List Value} (h : Ob w b T cs) (i : Nat) {v : Value} (hi : cs[i]? = some v) : w.cell? ⟨b, i, none⟩ = some v := by
  unfold Ob at h
  simp [World.cell?, h, hi]
theorem Ob.set {w : World} {b : Nat} {T : TypeId} {cs : List Value} (h : Ob w b T cs) (i : Nat) (v : Value) : Ob (w.setCell ⟨b, i, none⟩ v) b T (cs.set i v) := by
  unfold Ob at *
  simp [World.setCell, Array.getElem?_modify, h]
theorem Ob.alloc (w : World) (T : TypeId) (cs : List Value) : Ob (w.alloc (.cells cs.toArray T)) w.heap.size T cs := heap_alloc_new _ _
theorem Ob.range {w : World} {b : Nat} {T : TypeId} {cs : List Value} (h : Ob w b T cs) (o : Nat) (l : List Value) (hl : ∀ (j : Nat) (v : Value), l[j]? = some v → cs[o + j]? = some v) : w.rangeAt b o l := fun j v hj => h.cell (o + j) (hl j v hj)
theorem Ob.setRow {w : World} {b : Nat} {T : TypeId} {cs : List Value} (h : Ob w b T cs) (ds : List Value) : Ob (w.setRow b ds.toArray) b T ds := setRow_heap _ _ _ _ T (0, 0) h
theorem Ob.setRow_other {w : World} {b g : Nat} {T : TypeId} {cs : List Value} (h : Ob w b T cs) (ds : Array Value) (hne : b ≠ g) : Ob (w.setRow g ds) b T cs := by
  have := (Only.refl g w).setRow ds
  exact h.only this hne
/-- A pointer to a new block with these cells. -/
def Fk.nw (g0 : Nat) (T : TypeId) (cs : List Value) : Fk := .inr (.inl ⟨fun v w => ∃ g, g0 ≤ g ∧ v = .pointer (some ⟨g, 0, none⟩) ∧ Ob w g T cs, by
  rintro v w w' ⟨g, h, e, hv⟩ hb
  exact ⟨g, h, e, hv.below hb⟩⟩)
theorem fk_val {q : Fk} {a : Act} {x : Operand} {u : Value} {w : World} (h : a.eval x = u) (hq : q.f u w) : q.f (a.eval x) w := by rw [h]; exact hq
section
variable {P : Program} {Q : Exit → Act → World → Prop} {o : Oper} {a : Act} {w : World} {q : Fk} {ops : Array Oper} {rest : List Oper}
theorem st_pick_f' (c x y : Operand) (ho : o.op = .pick c x y) (hc : a.eval c = .bool false) (h : q.f (a.eval y) w) : o.wp P a w (Ends a o.dst w q.f) Q :=
  st_pure (v := a.eval y) (by unfold execOp; rw [ho]; simp [hc, asBool]) h
theorem st_field (T f : Nat) (x : Operand) (ho : o.op = .fieldAddr T x f) {p r : Addr} (hx : a.eval x = .pointer (some p)) (hr : (Instr.fieldAt T (.pointer (some p)) f).run P w = .ok (.pointer (some r)) w) : o.wp P a w (Ends a o.dst w (Fk.eq (.pointer (some r))).f) Q := by
  refine st_pure (v := .pointer (some r)) ?_ rfl
  unfold execOp
  rw [ho]
  simp [hx, hr]
theorem st_nil (x : Operand) (ho : o.op = .nilCheck x) {p : Addr} (hx : a.eval x = .pointer (some p)) : o.wp P a w (Ends a o.dst w (Fk.eq (.pointer (some p))).f) Q := by
  refine st_pure (v := .pointer (some p)) ?_ rfl
  unfold execOp
  rw [ho]
  simp [hx]
theorem st_loadc (T : TypeId) (x : Operand) (ho : o.op = .load T x) (h1 : (isAgg T).run P w = .ok false w) {p : Addr} {u : Value} (hx : a.eval x = .pointer (some p)) (hc : w.cell? p = some u) : o.wp P a w (Ends a o.dst w (Fk.eq u).f) Q := by
  refine st_pure (v := u) ?_ rfl
  unfold execOp
  rw [ho]
  simp [hx, Instr.loadAt, Instr.sureAddr, loadVar, h1, run_load, hc]
theorem st_loadm (T : TypeId) (x : Operand) (ho : o.op = .load T x) (b so : Nat) (cs : List Value) {d : TypeDesc} (hu : P.underlying T = some d) (hd : d.isRow = true) (hi : (P.info? T).map (·.size) = some cs.length) (hx : a.eval x = .pointer (some ⟨b, so, none⟩)) (hc : w.rangeAt b so cs) : o.wp P a w (Ends a o.dst w (Fk.eq (.agg cs.toArray)).f) Q :=
  wp_load_mid T x ho b so hx cs _ hc hu hd hi ⟨_, rfl, Below.refl _ _, rfl⟩
theorem st_build (T : TypeId) (ps : Array (Nat × Operand)) (ho : o.op = .build T ps) {u : Value} (hr : (Instr.build T (ps.map fun (i, x) => (i, a.eval x))).run P w = .ok u w) : o.wp P a w (Ends a o.dst w (Fk.eq u).f) Q := by
  refine st_pure (v := u) ?_ rfl
  unfold execOp
  rw [ho]
  simp only [hr, Sem.run_bind, Result.andThen_ok, Sem.run_pure]
theorem st_box (T : TypeId) (x : Operand) (ho : o.op = .box T x) (g0 : Nat) (cs : List Value) (hr : (Instr.box T (a.eval x)).run P w = .ok (.pointer (some ⟨w.heap.size, 0, none⟩)) (w.alloc (.cells cs.toArray T))) (hg : g0 ≤ w.heap.size) : o.wp P a w (Ends a o.dst w (Fk.nw g0 T cs).f) Q := by
  refine st_run (v := .pointer (some ⟨w.heap.size, 0, none⟩)) (w' := w.alloc (.cells cs.toArray T)) ?_ ((Below.refl _ _).alloc (Nat.le_refl _) _) ⟨_, hg, rfl, Ob.alloc _ _ _⟩
  unfold execOp
  rw [ho]
  simp [hr]
theorem st_alloc (T : TypeId) (ho : o.op = .alloc T) (g0 : Nat) (cs : List Value) (hr : (Instr.alloc T true (.tuple #[])).run P w = .ok (.pointer (some ⟨w.heap.size, 0, none⟩)) (w.alloc (.cells cs.toArray T))) (hg : g0 ≤ w.heap.size) : o.wp P a w (Ends a o.dst w (Fk.nw g0 T cs).f) Q := by
  refine st_run (v := .pointer (some ⟨w.heap.size, 0, none⟩)) (w' := w.alloc (.cells cs.toArray T)) ?_ ((Below.refl _ _).alloc (Nat.le_refl _) _) ⟨_, hg, rfl, Ob.alloc _ _ _⟩
  unfold execOp
  rw [ho]
  simp [hr]
theorem st_bin (op : BinOp) (t t2 : TypeId) (x y : Operand) (ho : o.op = .binOp op t x y t2) {u v r : Value} (hx : a.eval x = u) (hy : a.eval y = v) (hr : (do eqGuard op t x y u v; binOp op t u v : Sem Value).run P w = .ok r w) : o.wp P a w (Ends a o.dst w (Fk.eq r).f) Q := by
  refine st_pure (v := r) ?_ rfl
  subst hx hy
  unfold execOp
  rw [ho]
  simp only [Sem.run_bind, hr, Result.andThen_ok, Sem.run_pure]
theorem st_geq (t : TypeId) (x y : Operand) (ho : o.op = .binOp .geq t x y t) (k : IntKind) (s u : Int) (hx : a.eval x = .int k s) (hy : a.eval y = .int k u) (b : Bool) (hb : b = decide (u ≤ s)) : o.wp P a w (Ends a o.dst w (Fk.eq (.bool b)).f) Q := by
  subst hb
  exact st_bin .geq t t x y ho hx hy (by simp [eqGuard, binOp, Op.intCmp])
theorem st_leq (t : TypeId) (x y : Operand) (ho : o.op = .binOp .leq t x y t) (k : IntKind) (s u : Int) (hx : a.eval x = .int k s) (hy : a.eval y = .int k u) (b : Bool) (hb : b = decide (s ≤ u)) : o.wp P a w (Ends a o.dst w (Fk.eq (.bool b)).f) Q := by
  subst hb
  exact st_bin .leq t t x y ho hx hy (by simp [eqGuard, binOp, Op.intCmp])
theorem st_shl (t t2 : TypeId) (x y : Operand) (ho : o.op = .binOp .shl t x y t2) (m k : Nat) (hx : a.eval x = .int .i64 (m : Int)) (hy : a.eval y = .int .i64 (k : Int)) (e : Nat) (he : e = m * 2 ^ k) (hs : e ≤ 1000000) (hk : k ≤ 60) : o.wp P a w (Ends a o.dst w (Fk.eq (.int .i64 (e : Int))).f) Q := by
  refine st_bin .shl t t2 x y ho hx hy ?_
  have hw : IntKind.i64.wrap ((m : Int) * 2 ^ k) = (e : Int) := by
    have : (m : Int) * 2 ^ k = (e : Int) := by rw [he]; simp
    rw [this, IntKind.wrap_i64]; omega
  simp [eqGuard, binOp, hw]
  try omega
theorem st_shr (t t2 : TypeId) (x y : Operand) (ho : o.op = .binOp .shr t x y t2) (m k : Nat) (hx : a.eval x = .int .i64 (m : Int)) (hy : a.eval y = .int .i64 (k : Int)) (e : Nat) (he : e = m / 2 ^ k) (hk : k ≤ 60) : o.wp P a w (Ends a o.dst w (Fk.eq (.int .i64 (e : Int))).f) Q := by
  refine st_bin .shr t t2 x y ho hx hy ?_
  have hw : (m : Int) / 2 ^ k = (e : Int) := by rw [he]; simp
  simp [eqGuard, binOp, hw]
  try omega
/-- One step by itself. -/
theorem wl_one (q : Fk) (hgd : o.guard = none) (d : Nat) (hd : o.dst = some d) (hsz : d < a.tmps.size) (hs : o.wp P a w (Ends a o.dst w q.f) Q)
    (h : ∀ a2 w2, a2.defers = a.defers → a2.tmps.size = a.tmps.size → (∀ t, (t == d) = false → a2.eval (.tmp t) = a.eval (.tmp t)) → q.f (a2.eval (.tmp d)) w2 → Below w.heap.size w w2 → wpList P ops Q rest a2 w2) : wpList P ops Q (o :: rest) a w := by
  unfold wpList
  rw [if_pos (by unfold Region.wanted; rw [hgd])]
  refine .inl (Oper.wp_mono ?_ hs)
  rintro a' w' ⟨v, rfl, hb, hf⟩
  rw [hd]
  refine h _ _ (put_def _ _ _) (put_size _ _ _) (fun t ht => put_eval_other _ _ _ _ (fun e => by subst e; simp at ht)) ?_ hb
  rw [put_eval_same _ _ _ hsz]
  exact hf
/-- A call by itself, whatever it does. -/
theorem wl_call (f : FuncId) (x : Operand) (xs : Array Operand) (ts : Array TypeId) (vs : Array Value) (hgd : o.guard = none) (d : Nat) (hd : o.dst = some d) (hsz : d < a.tmps.size) (ho : o.op = .call { callee := .value x, args := xs, argTypes := ts }) (hx : a.eval x = .func (.func f) #[] #[]) (hv : (xs.toList.map a.eval).toArray = vs)
    (hf : ∀ args w, (callFunc f args).run P w = .ok (.enter f args) w) (R : Value → World → Prop) (hc : Calls P f vs w fun e w' => ∃ v, e = .returned v ∧ R v w')
    (h : ∀ a2 w2, a2.defers = a.defers → a2.tmps.size = a.tmps.size → (∀ t, (t == d) = false → a2.eval (.tmp t) = a.eval (.tmp t)) → R (a2.eval (.tmp d)) w2 → wpList P ops Q rest a2 w2) : wpList P ops Q (o :: rest) a w := by
  have hr : (execOp a.eval o).run P w = .ok (.enter f vs) w := by
    have hv' : xs.map a.eval = vs := by rw [← hv]; apply Array.toList_inj.1; simp
    unfold execOp; rw [ho]
    simp [resolve, hx, Deferred.ofValue, invoke, hv', hf]
  unfold wpList
  rw [if_pos (by unfold Region.wanted; rw [hgd])]
  refine .inl ?_
  unfold Oper.wp; rw [hr]
  refine Calls.mono hc ?_
  rintro e w' ⟨v, rfl, h1⟩
  rw [hd]
  refine h _ _ (put_def _ _ _) (put_size _ _ _) (fun t ht => put_eval_other _ _ _ _ (fun e => by subst e; simp at ht)) ?_
  rw [put_eval_same _ _ _ hsz]
  exact h1
/-- A store of one cell. -/
theorem wl_stc (T : TypeId) (hgd : o.guard = none) (x y : Operand) (ho : o.op = .store T x y) (hd : o.dst = none) (h1 : (sizeOf T).run P w = .ok 1 w) (b i : Nat) (v : Value) (hx : a.eval x = .pointer (some ⟨b, i, none⟩)) (hy : a.eval y = v) (hv : v.oneCell' = true) (hv2 : v.cells = #[v]) (ht : w.there b i 1)
    (h : wpList P ops Q rest a (w.setCell ⟨b, i, none⟩ v)) : wpList P ops Q (o :: rest) a w := by
  unfold wpList
  rw [if_pos (by unfold Region.wanted; rw [hgd])]
  refine .inl ?_
  have hs := run_storeCells_cells (P := P) b i [v] 0 w (fun j hj => by simpa using (ht j (by simpa using hj)).1) (fun j hj => by simpa using (ht j (by simpa using hj)).2) (fun u hu => by rw [List.mem_singleton.1 hu]; exact hv)
  have hr : (execOp a.eval o).run P w = .ok .skip (w.setCell ⟨b, i, none⟩ v) := by
    unfold execOp
    rw [ho]
    simp [hx, hy, Instr.storeAt, Instr.sureAddr, storeVar, h1, hv2]
    rw [hs]
    rfl
  unfold Oper.wp
  rw [hr]
  unfold Oper.upon
  rw [hd]
  exact h
end
end Go.Proofs.YtfbfngblocfdlaaDoor
