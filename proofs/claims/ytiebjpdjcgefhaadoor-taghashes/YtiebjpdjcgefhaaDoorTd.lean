/- What the reference's Bytes hands back: the kind's byte, and the bytes of the parts, one behind the other. -/
import Derived.Test.YtiebjpdjcgefhaaDoorTc
namespace Go.Proofs.YtiebjpdjcgefhaaDoor
open Go.RowKit
theorem own_new1 (w : World) (base : Nat) (x : BitVec 8) (h : base ≤ w.heap.size) : Own8 (w.alloc (.cells #[.int .u8 (bv x)] 5)) base (.slice (some ⟨w.heap.size, 0, none⟩) 1 1) 1 [x] :=
  own_of_HasV (g := w.heap.size) (n := 1) (xs := [x]) (heap_alloc_new _ _) (Nat.le_refl _) (by show 1 ≤ maxLen; unfold maxLen; omega) h
theorem take_one_more (bs : List (BitVec 8)) (j : Nat) (h : j < bs.length) : bs.take j ++ [bs.getD j 0] = bs.take (j + 1) := by
  rw [List.take_add_one]
  simp [h]
set_option maxHeartbeats 400000 in
theorem bytes_own (x0 : BitVec 8) (A : Option Addr) (C lb lo : Nat) (ps : List Pt) (w : World) (hA : 0 < ps.length → A = some ⟨lb, lo, none⟩) (hL : Ls w lb lo ps) (hT : (cat ps).length ≤ 900000) (hN : ps.length ≤ 1000) :
    Calls Tryd.prog 10 #[.int .u8 (bv x0), .slice A ps.length C] w fun e w' => ∃ v, e = .returned v ∧ Own8 w' w.heap.size v (1 + (cat ps).length) (x0 :: cat ps) ∧ Below w.heap.size w w' := by
  have hL' : Box (Ls w lb lo ps) := ⟨hL⟩
  have hA' : Box (0 < ps.length → A = some ⟨lb, lo, none⟩) := ⟨hA⟩
  obtain ⟨n, hn⟩ : ∃ n, Box (n = ps.length) := ⟨_, ⟨rfl⟩⟩
  rw [← hn.out] at hN ⊢
  clear hL hA
  go_enter Tryd.func10, Tryd.ntmps10
  go_upto_region 2 with fail
  refine code_any (fun w1 => Box (Own8 w1 w.heap.size (.slice (some ⟨w.heap.size, 0, none⟩) 1 1) 1 [x0]) ∧ Below w.heap.size w w1) ?_ ?_
  · exact ⟨⟨own_new1 w _ x0 (Nat.le_refl _)⟩, (Below.refl _ _).alloc (Nat.le_refl _) _⟩
  rintro w1 ⟨hown1, hb1⟩
  go_wp2
  go_loopw [5, 6] (fun v i wr => ∃ k : Nat, k ≤ n ∧ i = .int .i64 k ∧ Box (Own8 wr w.heap.size v (1 + (cat (ps.take k)).length) (x0 :: cat (ps.take k))) ∧ Below w.heap.size w wr) (fun _ i _ => n - (intOf i).toNat)
  case atStart => exact ⟨0, by omega, rfl, hown1, hb1⟩
  case round =>
    clear hown1 hb1
    obtain ⟨k, hk, rfl, hown, hb⟩ := hrel
    by_cases hlt : k < n
    · obtain ⟨p, hp⟩ : ∃ p, ps[k]? = some p := ⟨_, List.getElem?_eq_getElem (by rw [← hn.out]; exact hlt)⟩
      obtain rfl : A = some ⟨lb, lo, none⟩ := hA'.out (by rw [← hn.out]; omega)
      have hl : Box (1 + (cat (ps.take k)).length + p.m = 1 + (cat (ps.take (k + 1))).length) := ⟨by rw [cat_take ps k p hp, List.length_append, ← Sl.len (hL'.out.ok k p hp)]; omega⟩
      have hx : Box (x0 :: cat (ps.take k) ++ p.bs = x0 :: cat (ps.take (k + 1))) := ⟨by rw [cat_take ps k p hp]; rfl⟩
      have hle := cat_le ps (k + 1)
      have hsum : 1 + (cat (ps.take k)).length + p.m ≤ 900001 := by rw [hl.out]; omega
      have hpm : Box (p.m = p.bs.length) := ⟨Sl.len (hL'.out.ok k p hp)⟩
      clear hle
      go_wp2
      go_loopw [5, 7] (fun v i wr => ∃ j : Nat, j ≤ p.m ∧ i = .int .i64 j ∧ Box (Own8 wr w.heap.size v (1 + (cat (ps.take k)).length + j) (x0 :: cat (ps.take k) ++ p.bs.take j)) ∧ Below w.heap.size w wr) (fun _ i _ => p.m - (intOf i).toNat)
      case atStart => exact ⟨0, by omega, rfl, ⟨by rw [List.take_zero, List.append_nil]; exact hown.out⟩, hb⟩
      case round =>
        clear hown hb
        obtain ⟨j, hj, rfl, hown, hb⟩ := hrel
        have hc : wr.cell? ⟨lb, lo + k, none⟩ = some (.slice p.sp p.m p.c) := by rw [hb.cell (hL'.out.lt hp)]; exact hL'.out.cell k p hp
        by_cases hjl : j < p.m
        · obtain ⟨hsp, hlt2, hB⟩ := Sl.src (Pt.ok_below (hL'.out.ok k p hp) hb) (by omega)
          have hcj := hB j (by rw [← hpm.out]; exact hjl)
          have hmore : Box (x0 :: cat (ps.take k) ++ p.bs.take j ++ [p.bs.getD j 0] = x0 :: cat (ps.take k) ++ p.bs.take (j + 1)) := ⟨by rw [List.append_assoc, take_one_more _ _ (by rw [← hpm.out]; exact hjl)]⟩
          generalize p.bs.getD j 0 = x at hcj hmore
          rw [hsp] at hc
          have hz := hb.size
          clear hB hlt2
          go_wp2_with (at_builtin; refine append22 rfl (.tmp 25) (.tmp 33) rfl w.heap.size _ _ _ rfl (World.ownsRow.alloc hown.out _) (some ⟨wr.heap.size, 0, none⟩) 1 1 [x] wr.heap.size 0 rfl (sl_new wr [x] 5 1 rfl) (by omega) (by simp; omega) ?_; intro v2 w2 own2 gr2)
          have hb2 : Below w.heap.size w w2 := (hb.alloc hz _).grown gr2 (by simp; omega) (fun k e => (World.ownsRow.lt hown.out k e).1)
          rw [hmore.out] at own2
          have own2' : Box (Own8 w2 w.heap.size v2 (1 + (cat (ps.take k)).length + (j + 1)) (x0 :: cat (ps.take k) ++ p.bs.take (j + 1))) := ⟨by rw [← Nat.add_assoc]; exact own2⟩
          clear own2 gr2 hown hb hc hcj hmore
          go_wp2
          go_roundw
          case rel => exact ⟨j + 1, by omega, by go_num, own2', hb2⟩
          case measure => simp [intOf]; omega
        · have hjm : Box (j = p.m ∧ p.bs.take j = p.bs) := ⟨by have := hpm.out; omega, by rw [List.take_of_length_le (by have := hpm.out; omega)]⟩
          have hown2 : Box (Own8 wr w.heap.size u5 (1 + (cat (ps.take (k + 1))).length) (x0 :: cat (ps.take (k + 1)))) := ⟨by
            have h := hown.out
            rw [hjm.out.2, hjm.out.1, hl.out, hx.out] at h
            exact h⟩
          clear hown
          go_wp2
          go_roundw
          case rel => exact ⟨k + 1, by omega, by go_num, hown2, hb⟩
          case measure => simp [intOf]; omega
    · have hkn : Box (ps.take k = ps) := ⟨by rw [List.take_of_length_le (by rw [← hn.out]; omega)]⟩
      rw [hkn.out] at hown
      go_wp2
      go_ret
      exact ⟨_, rfl, hown.out, hb⟩
end Go.Proofs.YtiebjpdjcgefhaaDoor
