/- Plain: a digest that was written to part by part has the sum of all its bytes. No program is spoken of but through the functions on digests. -/
import Derived.Test.YtfhhlkbcoofemaaDoorWg
namespace Go.Proofs.YtfhhlkbcoofemaaDoor
open Go.RowKit
/-- The digest d has the bytes m. -/
structure Rep (d : Dg) (m : List (BitVec 8)) : Prop where
  len : d.len = m.length
  blk : d.blk.length = 64
  st : d.st = mixs St.first m (m.length / 64)
  tail : d.blk.take (m.length % 64) = m.drop (64 * (m.length / 64))
theorem mixs_left (s : St) (m b : List (BitVec 8)) : ∀ k, 64 * k ≤ m.length → mixs s (m ++ b) k = mixs s m k
  | 0, _ => rfl
  | k + 1, h => by
    have ih := mixs_left s m b k (by omega)
    rw [mixs, mixs, ih, List.drop_append_of_le_length (by omega), List.take_append_of_le_length (by rw [List.length_drop]; omega)]
theorem mixs_add (s : St) (x : List (BitVec 8)) (k : Nat) : ∀ j, mixs (mixs s x k) (x.drop (64 * k)) j = mixs s x (k + j)
  | 0 => rfl
  | j + 1 => by
    have ih := mixs_add s x k j
    rw [mixs, ih, ← Nat.add_assoc, mixs, List.drop_drop, show 64 * k + 64 * j = 64 * (k + j) by omega]
theorem splice_take {α : Type} (L : List α) (u : Nat) (b : List α) (h : u + b.length ≤ L.length) : (splice L u b).take (u + b.length) = L.take u ++ b := by
  unfold splice
  have hu : (L.take u).length = u := by rw [List.length_take]; omega
  rw [← List.append_assoc, List.take_append_of_le_length (by rw [List.length_append, hu]; omega), List.take_of_length_le (by rw [List.length_append, hu]; omega)]
theorem rest_rep (x : List (BitVec 8)) (k : Nat) (blk : List (BitVec 8)) (h : 64 * k ≤ x.length) (hb : blk.length = 64) : Rep (Dg.rest (mixs St.first x k) blk x.length (x.drop (64 * k))) x := by
  have hl : (x.drop (64 * k)).length = x.length - 64 * k := List.length_drop
  have hq : x.length / 64 = k + (x.length - 64 * k) / 64 := by omega
  have hr : ((x.drop (64 * k)).drop (64 * ((x.drop (64 * k)).length / 64))).length = x.length % 64 := by rw [List.length_drop, hl]; omega
  refine ⟨rfl, ?_, ?_, ?_⟩
  · show (splice blk 0 _).length = 64
    rw [length_splice _ _ _ (by rw [hb, hr]; omega)]; exact hb
  · show mixs (mixs St.first x k) (x.drop (64 * k)) ((x.drop (64 * k)).length / 64) = _
    rw [mixs_add, hl, hq]
  · show (splice blk 0 _).take (x.length % 64) = _
    have := splice_take blk 0 ((x.drop (64 * k)).drop (64 * ((x.drop (64 * k)).length / 64))) (by rw [hb, hr]; omega)
    rw [Nat.zero_add, hr] at this
    rw [this, List.take_zero, List.nil_append, List.drop_drop, hl, hq]
    congr 1
    omega
theorem rep_new : Rep Dg.new [] := ⟨rfl, rfl, rfl, rfl⟩
theorem rep_write {d : Dg} {m : List (BitVec 8)} (h : Rep d m) (b : List (BitVec 8)) : Rep (d.write b) (m ++ b) := by
  have hx : (m ++ b).length = m.length + b.length := List.length_append
  unfold Dg.write
  rw [h.len]
  by_cases hu : m.length % 64 = 0
  · rw [if_pos hu, h.st, ← hx]
    have e : b = (m ++ b).drop (64 * (m.length / 64)) := by
      rw [show 64 * (m.length / 64) = m.length by omega, List.drop_left]
    have := rest_rep (m ++ b) (m.length / 64) d.blk (by omega) h.blk
    rw [← e, mixs_left _ _ _ _ (by omega)] at this
    exact this
  · rw [if_neg hu]
    have htl : (d.blk.take (m.length % 64)).length = m.length % 64 := by rw [List.length_take, h.blk]; omega
    by_cases hlt : b.length < 64 - m.length % 64
    · rw [if_pos hlt]
      have hq : (m ++ b).length / 64 = m.length / 64 := by omega
      have hr : (m ++ b).length % 64 = m.length % 64 + b.length := by omega
      refine ⟨hx.symm, ?_, ?_, ?_⟩
      · show (splice d.blk _ b).length = 64
        rw [length_splice _ _ _ (by rw [h.blk]; omega)]; exact h.blk
      · show d.st = _
        rw [hq, mixs_left _ _ _ _ (by omega), h.st]
      · show (splice d.blk _ b).take _ = _
        rw [hq, hr, splice_take _ _ _ (by rw [h.blk]; omega), h.tail, List.drop_append_of_le_length (by omega)]
    · rw [if_neg hlt]
      have hc : (b.take (64 - m.length % 64)).length = 64 - m.length % 64 := by rw [List.length_take]; omega
      have hb2 : (splice d.blk (m.length % 64) (b.take (64 - m.length % 64))).length = 64 := by
        rw [length_splice _ _ _ (by rw [h.blk, hc]; omega)]; exact h.blk
      have hfull : splice d.blk (m.length % 64) (b.take (64 - m.length % 64)) = ((m ++ b).drop (64 * (m.length / 64))).take 64 := by
        have h1 := splice_take d.blk (m.length % 64) (b.take (64 - m.length % 64)) (by rw [h.blk, hc]; omega)
        rw [hc, show m.length % 64 + (64 - m.length % 64) = 64 by omega, List.take_of_length_le (by omega), h.tail] at h1
        have hd : (m.drop (64 * (m.length / 64))).length = m.length % 64 := by rw [List.length_drop]; omega
        rw [h1, List.drop_append_of_le_length (by omega), List.take_append, hd, List.take_of_length_le (show (m.drop (64 * (m.length / 64))).length ≤ 64 by omega)]
      have hst : mix d.st (splice d.blk (m.length % 64) (b.take (64 - m.length % 64))) = mixs St.first (m ++ b) (m.length / 64 + 1) := by
        rw [mixs, mixs_left _ _ _ _ (by omega), ← h.st, hfull]
      have e : b.drop (64 - m.length % 64) = (m ++ b).drop (64 * (m.length / 64 + 1)) := by
        rw [List.drop_append, List.drop_eq_nil_of_le (show m.length ≤ 64 * (m.length / 64 + 1) by omega), List.nil_append, show 64 * (m.length / 64 + 1) - m.length = 64 - m.length % 64 by omega]
      rw [hst, e, ← hx]
      exact rest_rep (m ++ b) (m.length / 64 + 1) _ (by omega) hb2
theorem rep_sum {d : Dg} {m : List (BitVec 8)} (h : Rep d m) : d.sum = shaOf m := by
  have h0 := rep_write rep_new m
  rw [List.nil_append] at h0
  have h1 := rep_write h (padOf d.len)
  have h2 := rep_write h0 (padOf (Dg.new.write m).len)
  unfold shaOf Dg.sum
  rw [h1.st, h2.st, h.len, h0.len]
end Go.Proofs.YtfhhlkbcoofemaaDoor
