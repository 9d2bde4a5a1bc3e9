/- The law on a wal that is opened again and again while the power goes (syngraphlaw12.WalReopens) answers true at every list of calls and every two lists of numbers, and they read behind the call as before: whatever the power's ends and whatever is lost, the wal has at last what it would have had at once; more than 20 calls (or calls with more than 20 changes, 200 bytes in one, or 40 lost sectors), no or more than 8 powers, and more than 40 lost sectors the law itself passes over. No conditions. -/
import Derived.Test.YtakdpkoigijonaaRows
import Derived.Test.YtakdpkoigijonaaM17
import Derived.Test.YtakdpkoigijonaaM18
namespace Go.Proofs.Ytakdpkoigijonaa
open Go.ChangeShapes Go.WideShapes Go.ChangeAt Go.RowKit
set_option maxRecDepth 100000 in
theorem reopens_lifted (os : Os) (started : os.Started) (H : Type) (enc : TypeId × Value → H) :
    ReturnsInHanded {} Try.checked os 5 .any (Rows.walReopensSpec.pre6 enc Try.prog Try.f5 Rows.walReopensRow.domain false) (Rows.walReopensSpec.post enc Try.prog Try.f5 false true false false) := by
  refine returnsInHanded_of_change (C := Try.checked) own started (by kernel_rfl) Try.func5
    (ChangeSpec.witness6 (enc := enc) (C := Try.checked) false ⟨#[], #[.slice none 0 0, .slice none 0 0, .slice none 0 0], []⟩ 8 (by kernel_rfl) (by kernel_rfl) (by kernel_rfl) (by kernel_rfl)) ?_
  intro W base args ds gs before hval0 hW _ _
  have hval : ∀ (j : Nat) t v, Try.f5.params[j]? = some t → args[j]? = some v → Value.okWide Try.prog W .any base t v := hval0
  have hW' := hW
  obtain ⟨p, q, hA0, hV, rfl, hfz, hnd⟩ := hW
  have hA : DataW.TrodAll enc Try.prog W 0 (fun _ => true) true Try.f5.params.toList args.toList ds p := hA0
  rw [Try.params5] at hA hval
  obtain ⟨v0, v1, v2, d0, d1, d2, p0, p1, p2, rfl, rfl, rfl, h0, h1, h2⟩ := trodAll_three hA
  obtain ⟨rfl, rfl⟩ := trodVars_none hV
  have k0 := h0
  have k1 := h1
  have k2 := h2
  have lt0 : ∀ x ∈ p0, x.block < W.heap.size := by obtain ⟨m, hm⟩ := k0; exact DataW.trod_lt m _ _ _ hm
  have lt1 : ∀ x ∈ p1, x.block < W.heap.size := by obtain ⟨m, hm⟩ := k1; exact DataW.trod_lt m _ _ _ hm
  have lt2 : ∀ x ∈ p2, x.block < W.heap.size := by obtain ⟨m, hm⟩ := k2; exact DataW.trod_lt m _ _ _ hm
  obtain ⟨l0, A0, C0, rfl, ho0, hl0⟩ := open_op12 (hval 0 22 v0 rfl rfl) h0
  obtain ⟨ls1, lA1, lC1, rfl, hls1, hlc1, hlw1⟩ := open_lostc (hval 1 37 v1 rfl rfl) h1
  obtain ⟨ls2, hls2, ⟨lA2, lC2, rfl⟩, hlw2⟩ := open_lost (hval 2 37 v2 rfl rfl) h2
  clear hA0 hval0
  refine (reopens_law hl0 W ho0 hls1 hlc1 hlw1 hls2 hlw2).mono fun e W' ⟨he, bel⟩ => ?_
  subst he
  exact ⟨_, rfl, _, _, _, [], _, [], hW', trodAll_mk1 (shut_bool Try.underlying4 _), trodAll_mk3 (Below.trod laidOut (by kernel_rfl) (of_decide_eq_true (by kernel_rfl)) k0 bel lt0) (Below.trod laidOut (by kernel_rfl) (of_decide_eq_true (by kernel_rfl)) k1 bel lt1) (Below.trod laidOut (by kernel_rfl) (of_decide_eq_true (by kernel_rfl)) k2 bel lt2), rfl, bel.frame _, fun h => by cases h⟩
theorem reopens_holds : Rows.WalReopensSaid :=
  OpenClaim.holds_of_wide 5 Try.f5 rfl rfl rfl rfl rfl rfl rfl ⟨rfl, rfl, rfl, rfl, rfl⟩ rfl rfl rfl rfl rfl (by kernel_rfl) Try.func5 (by kernel_rfl)
    (of_decide_eq_true (by kernel_rfl)) (by unfold Func.isWrapper; first | (rw [if_pos (by decide +kernel)]; kernel_rfl) | (rw [if_neg (by decide +kernel)]; exact ⟨rfl, rfl⟩))
    (fun os started H enc _ => reopens_lifted os started H enc)
#print axioms reopens_holds
end Go.Proofs.Ytakdpkoigijonaa
