/- What the reference's Bit and the law's awake hand back. -/
import Derived.Test.YtfhhlkbcoofemaaDoorBb
namespace Go.Proofs.YtfhhlkbcoofemaaDoor
open Go.RowKit
set_option maxHeartbeats 400000 in
theorem ref_any (h : List (BitVec 8)) (k : Nat) (w : World) (hh : h.length = 32) (hk : k < 256) :
    Calls Tryd.prog 11 #[.agg (h.map V).toArray, .int .i64 (k : Int)] w fun e w' => e = .returned (.int .i64 (bt h k : Int)) ∧ Below w.heap.size w w' := by
  go_enter Tryd.func11, Tryd.ntmps11
  have hc : (w.alloc (Obj.cells (List.map V h).toArray 22)).cell? ⟨w.heap.size, k / 8, none⟩ = some (.int .u8 (bv (h.getD (k / 8) 0))) := by
    rw [World.cell?_alloc_mark]
    have : k / 8 < h.length := by omega
    simp [this, V]
  have hB := Box.mk ((Below.refl w.heap.size w).alloc (Nat.le_refl _) (Obj.cells (List.map V h).toArray 22))
  have hr : k % 8 ≤ 7 := by omega
  have hx := bv_range (h.getD (k / 8) 0)
  have hbt : Box (((h.getD (k / 8) 0).toNat / 2 ^ (7 - k % 8) % 2 : Nat) = bt h k) := ⟨rfl⟩
  have hnn : bv (h.getD (k / 8) 0) = (((h.getD (k / 8) 0).toNat : Nat) : Int) := rfl
  rw [hnn] at hc hx
  generalize h.getD (k / 8) 0 = x at hc hx hbt
  generalize x.toNat = m at hc hx hbt
  clear hnn
  go_wp2
  go_loopw [5, 6] (fun n i wr => ∃ j : Nat, k % 8 ≤ j ∧ j ≤ 7 ∧ i = .int .i64 (j : Int) ∧ n = .int .i64 ((m / 2 ^ (j - k % 8) : Nat) : Int) ∧ Box (Below w.heap.size w wr)) (fun n i _ => 7 - (intOf i).toNat)
  case atStart => exact ⟨k % 8, by omega, by omega, by simp, by simp, hB⟩
  case round =>
    obtain ⟨j, h1, h2, rfl, rfl, hb⟩ := hrel
    have hd : m / 2 ^ (j - k % 8) ≤ 255 := Nat.le_trans (Nat.div_le_self _ _) (by omega)
    by_cases hlt : j < 7
    · have he : Box (m / 2 ^ (j - k % 8) / 2 = m / 2 ^ (j + 1 - k % 8)) := ⟨by rw [Nat.div_div_eq_div_mul, ← Nat.pow_succ, show (j - k % 8).succ = j + 1 - k % 8 by omega]⟩
      generalize m / 2 ^ (j - k % 8) = d at hd he
      go_wp2
      refine ⟨⟨j + 1, by omega, by omega, by go_num, ?_, hb⟩, by simp [intOf]; omega⟩
      rw [← he.out]; simp
    · obtain rfl : j = 7 := by omega
      generalize m / 2 ^ (7 - k % 8) = d at hd hbt
      go_wp2
      go_ret
      refine ⟨?_, hb.out⟩
      rw [← hbt.out]; simp
/-- The hash that begins with 160. -/
def h160 : List (BitVec 8) := [160, 0, 0, 0, 0, 0, 0, 0, 0, 0, 0, 0, 0, 0, 0, 0, 0, 0, 0, 0, 0, 0, 0, 0, 0, 0, 0, 0, 0, 0, 0, 0]
theorem h160_bits : bt h160 0 = 1 ∧ bt h160 1 = 0 ∧ bt h160 2 = 1 ∧ bt h160 3 = 0 ∧ bt h160 255 = 0 := by decide
theorem Tryd.build160 (w : World) : (Instr.build 23 #[(0, .int .u8 160)]).run Tryd.prog w = .ok (.agg (h160.map V).toArray) w := by kernel_rfl
set_option maxHeartbeats 400000 in
theorem awake_any (w : World) : Calls Tryd.prog 8 #[] w fun e w' => e = .returned (.bool true) ∧ Below w.heap.size w w' := by
  have hb := Box.mk (bits_any h160 w rfl)
  have hbu := Tryd.build160
  go_enter Tryd.func8, Tryd.ntmps8
  have h1 := h160_bits
  have hh : Box (∀ w' g, HasN w' g (bts h160) → w'.cell? ⟨g, 0, none⟩ = some (.int .i64 1) ∧ w'.cell? ⟨g, 1, none⟩ = some (.int .i64 0) ∧ w'.cell? ⟨g, 2, none⟩ = some (.int .i64 1) ∧ w'.cell? ⟨g, 3, none⟩ = some (.int .i64 0) ∧ w'.cell? ⟨g, 255, none⟩ = some (.int .i64 0)) := ⟨fun w' g hN => by
    refine ⟨hN.cell 0 1 ?_, hN.cell 1 0 ?_, hN.cell 2 1 ?_, hN.cell 3 0 ?_, hN.cell 255 0 ?_⟩
    · rw [bts_at _ _ (by omega), h1.1]
    · rw [bts_at _ _ (by omega), h1.2.1]
    · rw [bts_at _ _ (by omega), h1.2.2.1]
    · rw [bts_at _ _ (by omega), h1.2.2.2.1]
    · rw [bts_at _ _ (by omega), h1.2.2.2.2]⟩
  clear h1
  go_wp2_with (go_at_call 19; refine hb.out.mono ?_; rintro e w' ⟨g, rfl, hN, hg, hb2⟩; obtain ⟨c0, c1, c2, c3, c4⟩ := hh.out w' g hN; have hb3 := Box.mk hb2; clear hN hb2)
  go_ret
  exact ⟨rfl, hb3.out⟩
end Go.Proofs.YtfhhlkbcoofemaaDoor
