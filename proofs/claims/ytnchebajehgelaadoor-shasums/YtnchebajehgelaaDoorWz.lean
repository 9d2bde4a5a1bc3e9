/- What the reference's primes hands back. -/
import Derived.Test.YtnchebajehgelaaDoorWy
import Derived.Test.YtnchebajehgelaaDoorWq
namespace Go.Proofs.YtnchebajehgelaaDoor
open Go.RowKit
theorem Tryd.under63 : Tryd.prog.underlying 63 = some (.slice 49) := by kernel_rfl
theorem Tryd.info49 : (Tryd.prog.info? 49).map (fun i => (i.zero, i.size, i.bytes)) = some (some (.int .u64 0), 1, 8) := by kernel_rfl
theorem own_parts {w : World} {base n : Nat} {e : TypeId} {v : Value} {xs : List Value} (h : w.ownsRow base e 1 v n xs) : ∃ sp c, v = .slice sp n c ∧ n ≤ c ∧ (0 < n → ∃ g, sp = some ⟨g, 0, none⟩ ∧ base ≤ g ∧ g < w.heap.size ∧ ∀ j u, xs[j]? = some u → w.cell? ⟨g, j, none⟩ = some u) := by
  obtain ⟨hl, h⟩ := h
  rcases h with ⟨rfl, rfl⟩ | ⟨g, cap, cur, rfl, hbg, hg, hnc, _, hcs, ht⟩
  · exact ⟨none, 0, rfl, Nat.le_refl _, fun h => absurd h (by omega)⟩
  · refine ⟨some ⟨g, 0, none⟩, cap, rfl, hnc, fun _ => ⟨g, rfl, hbg, (Array.getElem?_eq_some_iff.1 hg).1, ?_⟩⟩
    intro j u hj
    rw [cell_of_row _ _ _ _ _ _ hg]
    have hjl := (List.getElem?_eq_some_iff.1 hj).1
    rw [← ht, List.getElem?_take_of_lt (by rw [← hl]; exact hjl)] at hj
    simpa using hj
/-- The primes among the numbers from 2 on, j of them looked at. -/
def pst : Nat → List Nat
  | 0 => []
  | j + 1 => if (pst j).all (fun q => (2 + j) % q != 0) then pst j ++ [2 + j] else pst j
theorem pst_end : pst 310 = prims := by decide +kernel
theorem pst_near : (pst 309).length = 63 := by decide +kernel
theorem pst_mono (j : Nat) : (pst j).length ≤ (pst (j + 1)).length := by
  rw [pst]; split
  · simp
  · exact Nat.le_refl _
theorem pst_le (j m : Nat) : (pst j).length ≤ (pst (j + m)).length := by
  induction m with
  | zero => exact Nat.le_refl _
  | succ m ih => exact Nat.le_trans ih (pst_mono _)
theorem pst_short (j : Nat) (h : j < 310) : (pst j).length < 64 := by
  have := pst_le j (309 - j)
  rw [show j + (309 - j) = 309 by omega, pst_near] at this; omega
theorem pst_two (j : Nat) : ∀ q ∈ pst j, 2 ≤ q ∧ q < 2 + j := by
  induction j with
  | zero => intro q h; simp [pst] at h
  | succ j ih =>
    intro q h
    rw [pst] at h
    split at h
    · rcases List.mem_append.1 h with h | h
      · have := ih q h; omega
      · simp at h; omega
    · have := ih q h; omega
def P64 (q : Nat) : Value := .int .u64 (q : Int)
theorem all_take {l : List Nat} {f : Nat → Bool} {m : Nat} {q : Nat} (h : l[m]? = some q) : (l.take (m + 1)).all f = ((l.take m).all f && f q) := by
  rw [List.take_add_one, h]; simp
set_option maxHeartbeats 1000000 in
theorem primes_any (w : World) :
    Calls Tryd.prog 29 #[.int .i64 64] w fun e w' => ∃ v, e = .returned v ∧ w'.ownsRow w.heap.size 49 1 v 64 (prims.map P64) ∧ Below w.heap.size w w' := by
  obtain ⟨i0, hi, hz0, hz1, hz2⟩ := info_parts Tryd.info49
  go_enter Tryd.func29, Tryd.ntmps29
  go_wp2
  go_loopw [3, 4] (fun v n wr => ∃ j : Nat, j ≤ 310 ∧ n = .int .u64 ((2 + j : Nat) : Int) ∧ wr.ownsRow w.heap.size 49 1 v (pst j).length ((pst j).map P64) ∧ Below w.heap.size w wr) (fun _ n _ => 312 - (intOf n).toNat)
  case atStart => exact ⟨0, by omega, rfl, World.ownsRow_nil _ _ _ _, Below.refl _ _⟩
  case round =>
    obtain ⟨j, hj, rfl, hown, hb⟩ := hrel
    obtain ⟨sp, c, rfl, hc, hcell⟩ := own_parts hown
    by_cases hj310 : j < 310
    · have hlen : (pst j).length < 64 := pst_short j hj310
      have htwo : Box (∀ q ∈ pst j, 2 ≤ q ∧ q < 2 + j) := ⟨pst_two j⟩
      have hnx : Box (pst (j + 1) = if (pst j).all (fun q => (2 + j) % q != 0) then pst j ++ [2 + j] else pst j) := ⟨rfl⟩
      have hown' : Box (wr.ownsRow w.heap.size 49 1 (.slice sp (pst j).length c) (pst j).length ((pst j).map P64)) := ⟨hown⟩
      have hcell' : Box (∀ q m : Nat, (pst j)[m]? = some q → ∃ g, sp = some ⟨g, 0, none⟩ ∧ wr.cell? ⟨g, m, none⟩ = some (.int .u64 (q : Int))) := ⟨fun q m hq => by
        obtain ⟨g, rfl, _, _, h⟩ := hcell (by have := (List.getElem?_eq_some_iff.1 hq).1; omega)
        exact ⟨g, rfl, h m _ (by rw [List.getElem?_map, hq]; rfl)⟩⟩
      clear hcell hown
      generalize pst j = l at hlen htwo hnx hown' hcell' hc ⊢
      obtain ⟨wo, hwo⟩ : ∃ wo : World, wo = wr := ⟨_, rfl⟩
      subst hwo
      obtain ⟨n, hn⟩ : ∃ n : Nat, n = l.length := ⟨_, rfl⟩
      rw [← hn] at hlen hown' hc ⊢
      have hn' : Box (n = l.length) := ⟨hn⟩
      clear hn
      go_wp2
      go_loopw [5, 6] (fun f i wi => ∃ m : Nat, m ≤ n ∧ i = .int .i64 m ∧ f = .bool ((l.take m).all (fun q => (2 + j) % q != 0)) ∧ wi = wo) (fun _ i _ => n - (intOf i).toNat)
      case atStart => exact ⟨0, by omega, rfl, by simp, rfl⟩
      case round =>
        obtain ⟨m, hm, rfl, rfl, rfl⟩ := hrel
        by_cases hmn : m < n
        · obtain ⟨q, hq⟩ : ∃ q, l[m]? = some q := ⟨_, List.getElem?_eq_getElem (by rw [← hn'.out]; exact hmn)⟩
          obtain ⟨g, rfl, hcl⟩ := hcell'.out q m hq
          have hat := all_take (f := fun q => (2 + j) % q != 0) hq
          obtain ⟨hq2, hqj⟩ := htwo.out q (List.mem_of_getElem? hq)
          have hat' : Box ((l.take (m + 1)).all (fun q => (2 + j) % q != 0) = ((l.take m).all (fun q => (2 + j) % q != 0) && ((2 + j) % q != 0))) := ⟨hat⟩
          clear hat hq
          generalize (l.take m).all (fun q => (2 + j) % q != 0) = fl at hat' ⊢
          by_cases hz : (2 + j) % q = 0
          · have hzi : ((2 + (j : Int)) % (q : Int) == 0) = true := by rw [show (2 + (j : Int)) = ((2 + j : Nat) : Int) by omega, ← Int.natCast_emod, hz]; rfl
            go_wp2
            go_roundw
            case rel => exact ⟨m + 1, by omega, by go_num, by rw [hat'.out, hz]; simp, trivial⟩
            case measure => simp [intOf]; omega
          · have hzi : ((2 + (j : Int)) % (q : Int) == 0) = false := by rw [show (2 + (j : Int)) = ((2 + j : Nat) : Int) by omega, ← Int.natCast_emod, beq_eq_false_iff_ne]; omega
            go_wp2
            go_roundw
            case rel => exact ⟨m + 1, by omega, by go_num, by rw [hat'.out]; simp [hz], trivial⟩
            case measure => simp [intOf]; omega
        · have hmn' : Box (l.take m = l) := ⟨by rw [List.take_of_length_le]; rw [← hn'.out]; omega⟩
          rw [hmn'.out]
          cases hfl : l.all (fun q => (2 + j) % q != 0) with
          | true =>
            have hnx' : Box (pst (j + 1) = l ++ [2 + j]) := ⟨by rw [hnx.out, hfl]; rfl⟩
            clear hfl hnx
            go_wp2_with (at_builtin; refine wpList_append_own _ rfl (.tmp 27) (.tmp 29) 63 rfl w.heap.size 49 i0 (.int .u64 0) 1 8 Tryd.under63 hi hz0 hz1 hz2 rfl (by decide) (.slice sp n c) n _ rfl (hown'.out.alloc _) ⟨wr.heap.size, 0, none⟩ 1 1 [.int .u64 ((2 + j : Nat) : Int)] rfl rfl (news_one (cell_new1 _ _ _)) (one_int _ _) (by unfold maxLen; omega) (by omega) (by have := hb.size; simp; omega) ?_)
            intro v' w3 hown3 hgrow _
            have hown4 : Box (w3.ownsRow w.heap.size 49 1 v' (pst (j + 1)).length ((pst (j + 1)).map P64)) := ⟨by
              rw [hnx'.out, List.length_append, List.map_append, ← hn'.out]; exact hown3⟩
            have hb3 : Below w.heap.size w w3 := (hb.alloc hb.size _).grown hgrow (by have := hb.size; simp; omega) (fun g e => by have := hown'.out.lt _ e; omega)
            clear hown3 hgrow hown' hb
            go_wp2
            go_roundw
            case rel => exact ⟨j + 1, by omega, by go_num, hown4.out, hb3⟩
            case measure => simp [intOf]; omega
          | false =>
            have hnx' : Box (pst (j + 1) = l) := ⟨by rw [hnx.out, hfl]; rfl⟩
            clear hfl hnx
            go_wp2
            go_roundw
            case rel => exact ⟨j + 1, by omega, by go_num, by rw [hnx'.out, ← hn'.out]; exact hown'.out, hb⟩
            case measure => simp [intOf]; omega
    · obtain rfl : j = 310 := by omega
      have hp : Box (pst 310 = prims) := ⟨pst_end⟩
      have hl : Box ((pst 310).length = 64) := ⟨by rw [pst_end]; rfl⟩
      rw [hl.out] at hown hc hcell ⊢
      rw [hp.out] at hown
      clear hcell
      have hown' : Box (wr.ownsRow w.heap.size 49 1 (.slice sp 64 c) 64 (prims.map P64)) := ⟨hown⟩
      clear hown
      go_wp2
      go_ret
      exact ⟨_, rfl, hown'.out, hb⟩
end Go.Proofs.YtnchebajehgelaaDoor
