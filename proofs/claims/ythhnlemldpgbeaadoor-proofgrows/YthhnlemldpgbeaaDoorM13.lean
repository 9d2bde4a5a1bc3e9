/- ProofRight. A drawn region in which several variables are made among the steps: they are apart. -/
import Derived.Test.YthhnlemldpgbeaaDoorM12
import Derived.Test.YthhnlemldpgbeaaDoorM3
namespace Go.Proofs.YthhnlemldpgbeaaDoor
set_option maxRecDepth 100000
open Go.RowKit
theorem fk_proofc {l : List (List (BitVec 8))} {m : Nat} (hm1 : 1 ≤ m) (hm : m ≤ l.length) (h1000 : l.length ≤ 1000) {w : World} {v : Value} (hv : (Fk.hc l).f v w) (hK : Tab w) {S : List (List (BitVec 8))} (hS : Box (msub l m true = S)) :
    Calls Tryd.prog 20 #[v, .int .i64 ((m : Nat) : Int)] w fun e w' => ∃ u, e = .returned u ∧ (Fk.t2 (.hc S) (.int .i64 0)).f u w' ∧ Below w.heap.size w w' := by
  refine (proof_ok hm1 hm h1000 w hv hK).mono ?_
  rintro e w' ⟨u, rfl, ⟨p, e1, h1⟩, hb⟩
  rw [hS.out] at h1
  exact ⟨u, rfl, ⟨p, e1, ow_hc h1⟩, hb⟩
theorem fk_proofz {l : List (List (BitVec 8))} {w : World} {v : Value} (hv : (Fk.hc l).f v w) :
    Calls Tryd.prog 20 #[v, .int .i64 0] w fun e w' => ∃ u, e = .returned u ∧ (Fk.t2 (.hc []) (.int .i64 0)).f u w' ∧ Below w.heap.size w w' := by
  refine (proof_zero w hv).mono ?_
  rintro e w' ⟨rfl, hb⟩
  exact ⟨_, rfl, ⟨_, rfl, hc_nil _⟩, hb⟩
theorem bres_sub {l : List (List (BitVec 8))} {m : Nat} (hm1 : 1 ≤ m) (hm : m ≤ l.length) : bres (mroot (l.take m)) (msub l m true) (stp m l.length true).1 (stp m l.length true).2 = some (mroot (l.take m), mroot l) := by
  obtain ⟨y, Q, q1, q2, q3, q4⟩ := sub_steps l.length l m true rfl hm1 hm
  unfold bres
  by_cases hc : (stp m l.length true).1 = true
  · rw [if_pos hc, q1 hc]
    simp only
    rw [if_pos q3, q4]
  · have hf : (stp m l.length true).1 = false := by simpa using hc
    obtain ⟨e1, e2⟩ := q2 hf
    rw [if_neg hc, e2, if_pos q3, ← e1, q4, e1]
end Go.Proofs.YthhnlemldpgbeaaDoor
namespace Go.Proofs.YthhnlemldpgbeaaDoor
set_option maxRecDepth 100000
open Go.RowKit
section
variable {Q : Exit → Act → World → Prop} {ops : Array Oper}
theorem wp_region_new {id : Nat} {a0 : Act} {w : World} (qs : List Fk) (js : List Nat) (news : List (Nat × Nat)) (hnew : news.all (fun x => isNew ops x.1 x.2 && decide (x.1 < qs.length)) = true) (hfk : ∀ x ∈ news, qs.getD x.1 .any = Fk.pn w.heap.size hz)
    (hk : decide (qs.length ≤ ops.size) = true) (hE : backOk ops.toList = true) (hC : coverOk ops.toList qs.length = true) (hJ : chainOk ops (firstK qs.length ops.size) js = true)
    (hD : dstsOk a0.tmps.size (ops.toList.take qs.length) = true) (hG : guardsOk ops.toList qs.length qs ops.toList qs = true)
    (hS : Steps Tryd.prog Q ops.toList qs.length qs a0 w ops.toList qs)
    (hF : ∀ af w', Final ops.toList qs a0 af w' → (∀ x ∈ news, ∀ y ∈ news, x.1 ≠ y.1 → af.eval (.tmp x.2) ≠ af.eval (.tmp y.2)) → Below w.heap.size w w' → wpList Tryd.prog ops Q (js.filterMap (ops[·]?)) af w') :
    (Code.region id ops true).wp Tryd.prog Q a0 w := by
  have hn : ∀ x ∈ news, isNew ops x.1 x.2 = true ∧ x.1 < qs.length := fun x hx => by
    have := List.all_eq_true.1 hnew x hx
    simpa using this
  refine wp_region_any Tryd.mixed ?_
  refine wp_mids_new (news.map (·.1)) js (of_decide_eq_true hk) hE hC hJ ?_ hD hG hS (fun af w' fin hap hb => hF af w' fin (fun x hx y hy hne => hap x.1 (List.mem_map_of_mem hx) y.1 (List.mem_map_of_mem hy) hne x.2 y.2 (isNew_slot (hn x hx).1) (isNew_slot (hn y hy).1)) hb) ops.size _ a0 _ ?_ ?_ ?_ ?_
  · intro i hi
    obtain ⟨x, hx, rfl⟩ := List.mem_map.1 hi
    obtain ⟨o, h1, h2, h3, h4⟩ := isNew_spec (hn x hx).1
    exact ⟨(hn x hx).2, o, _, h1, h2, h3, h4, by unfold fkAt; rw [hfk x hx]⟩
  · unfold unl
    exact Nat.le_trans (Array.countP_le_size) (by simp)
  · intro i o ho hl
    have : i < ops.size := (Array.getElem?_eq_some_iff.1 ho).1
    simp [this] at hl
  · intro i _ j _ _ hl
    exfalso
    rcases Nat.lt_or_ge i ops.size with h | h
    · simp [h] at hl
    · rw [Array.getD_eq_getD_getElem?, Array.getElem?_eq_none (by simpa using h)] at hl
      simp at hl
  · refine ⟨rfl, rfl, by simp, fun _ _ => rfl, fun i o d _ ho _ hl => ?_, fun i _ hi => ?_, (Below.refl _ _).drew⟩
    · have : i < ops.size := (Array.getElem?_eq_some_iff.1 ho).1
      simp [this] at hl
    · simp [hi]
end
end Go.Proofs.YthhnlemldpgbeaaDoor
