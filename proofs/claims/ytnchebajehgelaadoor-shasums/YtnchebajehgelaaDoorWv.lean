/- What the reference's above hands back. -/
import Derived.Test.YtnchebajehgelaaDoorWu
namespace Go.Proofs.YtnchebajehgelaaDoor
open Go.RowKit
set_option maxHeartbeats 400000 in
theorem above_any (a b : List (BitVec 64)) (w : World) (ha : a.length = 16) (hb : b.length = 16) :
    Calls Tryd.prog 37 #[.agg (a.map N64).toArray, .agg (b.map N64).toArray] w fun e w' => e = .returned (.bool (abv a b 16)) ∧ Below w.heap.size w w' := by
  go_enter Tryd.func37, Tryd.ntmps37
  go_upto_region 1 with fail
  refine code_any (fun w1 => HasN w1 w.heap.size 71 a ∧ HasN w1 (w.heap.size + 1) 71 b ∧ Below w.heap.size w w1) ?_ ?_
  · exact ⟨heap_alloc2_old _ _ _, heap_alloc2_new _ _ _, ((Below.refl _ _).alloc (Nat.le_refl _) _).alloc (by simp) _⟩
  rintro w1 ⟨g1, g2, hb1⟩
  go_wp2
  go_loopw [5] (fun i wr => ∃ k : Nat, k ≤ 16 ∧ i = .int .i64 ((k : Int) - 1) ∧ abv a b 16 = abv a b k ∧ HasN wr w.heap.size 71 a ∧ HasN wr (w.heap.size + 1) 71 b ∧ Below w.heap.size w wr) (fun i _ => (intOf i + 1).toNat)
  case atStart => exact ⟨16, by omega, rfl, rfl, g1, g2, hb1⟩
  case round =>
    clear g1 g2 hb1
    obtain ⟨k, hk, rfl, hab, g1, g2, hb1⟩ := hrel
    have hab' : Box (abv a b 16 = abv a b k) := ⟨hab⟩
    clear hab
    by_cases hlt : 0 < k
    · obtain ⟨j, hj⟩ : ∃ j, Box (k = j + 1) := ⟨k - 1, ⟨by omega⟩⟩
      have hjk : j + 1 = k := hj.out.symm
      have c1 := g1.cell (k - 1) (by omega)
      have c2 := g2.cell (k - 1) (by omega)
      have HA : Box (abv a b k = if wl (a.getD (k - 1) 0) = wl (b.getD (k - 1) 0) then abv a b (k - 1) else decide (wl (b.getD (k - 1) 0) < wl (a.getD (k - 1) 0))) := ⟨by rw [← hjk]; rfl⟩
      clear hjk
      generalize a.getD (k - 1) 0 = x at c1 HA
      generalize b.getD (k - 1) 0 = y at c2 HA
      by_cases he : wl x = wl y
      · have hbe : Box (abv a b 16 = abv a b (k - 1)) := ⟨by rw [hab'.out, HA.out, if_pos he]⟩
        have hnb : (wl x != wl y) = false := by simp [he]
        have he' := hide he
        clear he
        go_wp2
        go_region
        go_wp2
        go_roundw
        case rel => exact ⟨k - 1, by omega, by rw [show ((k - 1 : Nat) : Int) = (k : Int) - 1 by omega], hbe.out, g1.drew, g2.drew, hb1.drew⟩
        case measure => simp [intOf]; omega
      · have hbe : Box (abv a b 16 = decide (wl y < wl x)) := ⟨by rw [hab'.out, HA.out, if_neg he]⟩
        have hnb : (wl x != wl y) = true := by simp [he]
        clear he
        go_wp2
        go_region
        go_wp2
        go_region
        go_wp2
        go_ret
        exact ⟨by rw [hbe.out]; rfl, hb1.drew.drew⟩
    · have hk0 : Box (abv a b 16 = false) := ⟨by rw [hab'.out, show k = 0 by omega]; rfl⟩
      go_wp2
      go_ret
      exact ⟨by rw [hk0.out]; rfl, hb1⟩
theorem of_32 (w : World) : Calls Tryd.prog 35 #[.int .u64 4294967296] w fun e w' => e = .returned (.agg ((ofL 4294967296 4).map N64).toArray) ∧ Below w.heap.size w w' := by
  rw [wl_lit32]; exact of_any _ w
theorem of_1 (w : World) : Calls Tryd.prog 35 #[.int .u64 1] w fun e w' => e = .returned (.agg ((ofL 1 4).map N64).toArray) ∧ Below w.heap.size w w' := by
  rw [wl_lit1]; exact of_any _ w
end Go.Proofs.YtnchebajehgelaaDoor
