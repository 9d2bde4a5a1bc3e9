/- The law on other leaves (syngraphlaw08.ProofOther) answers true at every list of hashes, every number and every other hash, and they read behind the call as before: the path that Path tells of a leaf is refused by In for any other hash at the same place, or on the way up, reckoned from the place and the last one by halving, two different pairs of hashes have one node's sum; lists of more than 70 hashes, numbers that are no leaf's place, and the leaf's own hash the law itself passes over. Conditions: the numbers of the rounds (sha.roundNumbers) read as the program's text lays them; the card ties them to that text, by the translator's report. -/
import Derived.Test.YthhnlemldpgbeaaDoorRows
import Derived.Test.YthhnlemldpgbeaaDoorTie
import Derived.Test.YthhnlemldpgbeaaDoorCards
import Derived.Test.YthhnlemldpgbeaaDoorM10
import Derived.Test.YthhnlemldpgbeaaDoorM11
namespace Go.Proofs.YthhnlemldpgbeaaDoor
open Go.ChangeShapes Go.WideShapes Go.ChangeAt Go.RowKit
open Go.ChangeMaps (open_string shut_string)
set_option maxRecDepth 100000 in
theorem prfo_lifted (os : Os) (started : os.Started) (H : Type) (enc : TypeId × Value → H) :
    ReturnsInHanded {} Tryd.checked os 6 .any (fun w args => (Rows.proofOtherSpec.pre enc Tryd.prog Tryd.f6 [] false w args ∧ laidMetH Tryd.prog laidK w) ∧ sizedMet enc Tryd.prog Tryd.f6 (OpenSpec.ofChange Rows.proofOtherSpec) false w args)
      (Rows.proofOtherSpec.post enc Tryd.prog Tryd.f6 false true false false) := by
  refine returnsInHanded_of_change_and (C := Tryd.checked) (X := fun w _ => laidMetH Tryd.prog laidK w) (fun _ _ _ hh h => h.of_heap hh) own started (by kernel_rfl) Tryd.func6
    (ChangeSpec.witness_shaped (enc := enc) (C := Tryd.checked) (os := os) (X := fun w _ => laidMetH Tryd.prog laidK w) false (World.doorLaid Tryd.prog 400 os) #[.slice none 0 0, .int .i64 0, .agg ((List.replicate 32 (0 : BitVec 8)).map V).toArray] 8 rfl (World.shaped_of_RefB (by kernel_rfl) (by kernel_rfl)) (by kernel_rfl) (by kernel_rfl) (by kernel_rfl) (door_met os _)) ?_
  intro W base args ds gs before hval0 hW _ _ hL _
  have hval : ∀ (j : Nat) t v, Tryd.f6.params[j]? = some t → args[j]? = some v → Value.okWide Tryd.prog W .any base t v := hval0
  have hW' := hW
  obtain ⟨p, q, hA0, hV, rfl, hfz, hnd⟩ := hW
  have hA : DataW.TrodAll enc Tryd.prog W 0 (fun _ => true) true Tryd.f6.params.toList args.toList ds p := hA0
  rw [Tryd.params6] at hA hval
  obtain ⟨v0, v1, v2, d0, d1, d2, p0, p1, p2, rfl, rfl, rfl, h0, h1, h2⟩ := trodAll_three hA
  obtain ⟨rfl, rfl⟩ := trodVars_none hV
  have k0 := h0
  have k1 := h1
  have k2 := h2
  have lt0 : ∀ x ∈ p0, x.block < W.heap.size := by obtain ⟨m, hm⟩ := k0; exact DataW.trod_lt m _ _ _ hm
  have lt1 : ∀ x ∈ p1, x.block < W.heap.size := by obtain ⟨m, hm⟩ := k1; exact DataW.trod_lt m _ _ _ hm
  have lt2 : ∀ x ∈ p2, x.block < W.heap.size := by obtain ⟨m, hm⟩ := k2; exact DataW.trod_lt m _ _ _ hm
  obtain ⟨l0, hl0, _⟩ := open_hc (hval 0 24 v0 rfl rfl) h0
  obtain ⟨z1, rfl, _, _⟩ := open_int (hval 1 3 v1 rfl rfl) h1
  obtain ⟨xs2, hx2, rfl⟩ := open_arr8 Tryd.under23 Tryd.under5 cells5 cells23 (hval 2 23 v2 rfl rfl) h2
  obtain ⟨hK, hp⟩ := hasK_of hL
  clear hA0 hval0
  refine (other_law hx2 z1 W ⟨hK, hp⟩ hl0).mono fun e W' ⟨he, bel⟩ => ?_
  subst he
  exact ⟨_, rfl, _, _, _, [], _, [], hW', trodAll_mk1 (shut_bool Tryd.underlying4 _), trodAll_mk3 (Below.trod laidOut (by kernel_rfl) (of_decide_eq_true (by kernel_rfl)) k0 bel lt0) (Below.trod laidOut (by kernel_rfl) (of_decide_eq_true (by kernel_rfl)) k1 bel lt1) (Below.trod laidOut (by kernel_rfl) (of_decide_eq_true (by kernel_rfl)) k2 bel lt2), rfl, bel.frame _, fun h => by cases h⟩
theorem prfo_row : Rows.ProofOtherSaid :=
  OpenClaim.holds_of_wide 6 Tryd.f6 rfl rfl rfl rfl rfl rfl rfl ⟨rfl, rfl, rfl, rfl, rfl⟩ rfl rfl rfl rfl rfl (by kernel_rfl) Tryd.func6 (by kernel_rfl)
    (of_decide_eq_true (by kernel_rfl)) (by unfold Func.isWrapper; first | (rw [if_pos (by decide +kernel)]; kernel_rfl) | (rw [if_neg (by decide +kernel)]; exact ⟨rfl, rfl⟩))
    (fun os started H enc _ => prfo_lifted os started H enc)
theorem prfo_card : Rows.ProofOtherCardSaid :=
  Claim7.holds_tied_plain_at .later [] [.data] true (true, "33ca28fcc1ea29b5ac9c8972964513caec2777a08de8bb106f0d691773ee04a6") false
    prfo_row (fun _ h => by cases h) (by kernel_rfl) (fun _ h => by cases h) proofOther_row_tie rfl ⟨rfl, rfl⟩ (by kernel_rfl) rfl
    (fun f fn hf hfn => by
      obtain rfl : f = 6 := Option.some.inj ((show Tryd.prog.funcNamed "syngraph/syngraphlaw08.ProofOther" = some 6 by kernel_rfl).symm.trans hf) |>.symm
      obtain rfl : fn = Tryd.f6 := (Option.some.inj (Tryd.func6.symm.trans hfn)).symm
      exact ⟨by kernel_rfl, fun j t ht => by
        rw [Tryd.params6] at ht
        have hm : t ∈ [24, 3, 23] := by simpa using Array.mem_of_getElem? ht
        have hall : ([24, 3, 23].all fun u => !Tryd.prog.wantsStandIn u) = true := by kernel_rfl
        exact (show Tryd.prog.wantsStandIn t = false by simpa using List.all_eq_true.1 hall t hm)⟩)
    (by kernel_rfl)
#print axioms prfo_card
end Go.Proofs.YthhnlemldpgbeaaDoor
