/- The walk of the law on hashes, where the bytes are such a list. -/
import Derived.Test.YtkgfcddjjghohaaWn
namespace Go.Proofs.Ytkgfcddjjghohaa
open Go.RowKit
theorem nth_of_take (X : List (BitVec 8)) (N k : Nat) (h : k < N) : nth (X.take (32 * N)) k = nth X k := by
  unfold nth
  rw [List.drop_take, List.take_take, show min 32 (32 * N - 32 * k) = 32 by omega]
set_option maxHeartbeats 1000000 in
theorem hashes_good (v : Value) (gb : Nat) (bs : List (BitVec 8)) (most : Int) (w : World) (hv : Av w v bs gb) (hl : bs.length ≤ 2000) (hno : ¬ noHs bs most) :
    Calls Try.prog 5 #[v, .int .i64 most] w fun e w' => e = .returned (.bool true) ∧ Below w.heap.size w w' := by
  obtain ⟨e1, e2, e3, h4, hm, hle⟩ := hs_good bs most hno
  rcases hv with ⟨_, _, _, rfl⟩ | hv
  · simp at h4
  have hv0 : Av w v bs gb := .inr hv
  obtain ⟨go, c, rfl, hc, hgl, hB0⟩ := hv
  obtain ⟨r1, r2⟩ := rd_four bs h4
  have ro : rdOk bs 0 4 = true := by unfold rdOk; simpa using h4
  have hA : Box (Calls Try.prog 13 #[.slice (some ⟨gb, go, none⟩) bs.length c] w fun e w' => ∃ ib, e = .returned (.pointer (some ⟨ib, 0, none⟩)) ∧ Box (Sin w w' ib bs false)) := ⟨by
    refine (a_new w w _ gb bs hv0 (by omega) (Below.refl _ _)).mono ?_
    rintro e w' ⟨ib, rfl, h1, _⟩
    exact ⟨ib, rfl, h1⟩⟩
  have hB : ∀ w1 ib, Box (Sin w w1 ib bs false) → Box (Calls Try.prog 24 #[.pointer (some ⟨ib, 0, none⟩), .int .i64 most] w1 fun e w2 => ∃ L, e = .returned (.slice (some ⟨L, 0, none⟩) (num (takeB bs 4)) (num (takeB bs 4))) ∧ Box (Fl w2 (some ⟨L, 0, none⟩) L 0 (num (takeB bs 4)) ((bs.drop 4).take (32 * num (takeB bs 4)))) ∧ Box (Sin w w2 ib ((bs.drop 4).drop (32 * num (takeB bs 4))) false)) := fun w1 ib s => ⟨by
    refine (s_hashes s.out most).mono ?_
    rw [e2, e3, e1]
    rintro e w' ⟨L, rfl, _, h0, h, _⟩
    exact ⟨L, rfl, h0, h⟩⟩
  have hC : ∀ w1 ib rest, Box (Sin w w1 ib rest false) → Box (Calls Try.prog 17 #[.slice (some ⟨gb, go, none⟩) bs.length c, .int .i64 0, .int .i64 4] w1 fun e w2 => e = .returned (.tuple #[.int .i64 (num (takeB bs 4) : Int), .bool true]) ∧ w2 = w1) := fun w1 ib rest s => ⟨by
    rw [← r1, ← ro]
    exact a_read _ gb 0 4 bs w1 (hv0.below s.out.low rfl) (by omega) (by omega) (by omega) (by omega)⟩
  have hE : ∀ w1 ib rest, Box (Sin w w1 ib rest false) → Box (Calls Try.prog 15 #[.pointer (some ⟨ib, 0, none⟩)] w1 fun e w2 => e = .returned (.bool false) ∧ w2 = w1) := fun w1 ib rest s => ⟨s_bad s.out⟩
  have hrest : ((bs.drop 4).drop (32 * num (takeB bs 4)) = []) ↔ 4 + 32 * num (takeB bs 4) = bs.length := by
    rw [List.drop_drop, List.drop_eq_nil_iff]; omega
  have hH : ∀ w1 ib, Box (Sin w w1 ib ((bs.drop 4).drop (32 * num (takeB bs 4))) false) → Box (Calls Try.prog 16 #[.pointer (some ⟨ib, 0, none⟩)] w1 fun e w2 => e = .returned (.bool (decide (4 + 32 * num (takeB bs 4) = bs.length))) ∧ w2 = w1) := fun w1 ib s => ⟨by
    have := s_done s.out
    rw [show decide ((bs.drop 4).drop (32 * num (takeB bs 4)) = []) = decide (4 + 32 * num (takeB bs 4) = bs.length) from decide_eq_decide.2 hrest] at this
    exact this⟩
  have hcv : ∀ k, 32 * k + 36 ≤ bs.length → ∀ w1, Box (Below w.heap.size w w1) → (convert 25 9 (.slice (some ⟨gb, go + (4 + 32 * k), none⟩) (36 + 32 * k - (4 + 32 * k)) (c - (4 + 32 * k)))).run Try.prog w1 = .ok (.string (str (nth (bs.drop 4) k))) w1 := fun k hk w1 b1 => by
    rw [show 36 + 32 * k - (4 + 32 * k) = 32 by omega]
    refine run_str w1 _ _ gb (.inr ⟨go + (4 + 32 * k), c - (4 + 32 * k), ?_, ?_, Nat.lt_of_lt_of_le hgl b1.out.size, ?_⟩)
    · unfold nth; simp; omega
    · unfold nth; simp; omega
    · have := ((hB0.below b1.out hgl).drop (4 + 32 * k)).take 32
      unfold nth
      rw [List.drop_drop]
      exact this
  clear hv0 hB0 e1 e2 e3 hrest r1 ro hno
  generalize hNe : num (takeB bs 4) = N at *
  generalize hRe : (bs.drop 4).drop (32 * N) = R at *
  clear hNe hRe
  have d1 : decide ((2000 : Int) < (bs.length : Int)) = false := by simp; omega
  have d2 : decide (most < (N : Int)) = false := by simp; omega
  have d3 : decide ((bs.length : Int) < 4 + 32 * (N : Int)) = false := by simp; omega
  have d4 : ((4 + 32 * (N : Int)) == (bs.length : Int)) = decide (4 + 32 * N = bs.length) := by
    by_cases hh : 4 + 32 * N = bs.length
    · simp [hh]; omega
    · simp [hh]; omega
  generalize hq : decide (4 + 32 * N = bs.length) = q at hH d4
  clear hq
  cases q
  all_goals
    go_enter Try.func5, Try.ntmps5
    go_wp2_with (first | (go_at_call 13; refine hA.out.mono ?_; rintro e w1 ⟨ib, rfl, s1⟩) | (go_at_call 24; refine (hB _ _ s1).out.mono ?_; rintro e w2 ⟨L, rfl, f2, s2⟩) | (go_at_call 17; refine (hC _ _ _ s2).out.mono ?_; rintro e w3 ⟨rfl, rfl⟩) | (go_at_call 15; refine (hE _ _ _ s2).out.mono ?_; rintro e w4 ⟨rfl, rfl⟩) | (go_at_call 16; refine (hH _ _ s2).out.mono ?_; rintro e w4 ⟨rfl, rfl⟩))
    clear hA hB hC hE hH s1 d1 d2 d3 d4
    go_loopw [81] (fun i wr => ∃ k : Nat, k ≤ N ∧ i = .int .i64 k ∧ Box (Below w4.heap.size w4 wr)) (fun i _ => N - (intOf i).toNat)
    case atStart => exact ⟨0, by omega, rfl, ⟨Below.refl _ _⟩⟩
    case round =>
      obtain ⟨k, hk, rfl, hb⟩ := hrel
      by_cases hlt : k < N
      · have hfl := f2.out.below hb.out (fun hn => (f2.out.src hn).2.1)
        have hrg := Box.mk (hfl.range k hlt)
        have hlen32 := nth_len _ N k f2.out.len hlt
        rw [nth_of_take _ N k hlt] at hrg hlen32
        have hcv2 : ∀ w1, Box (Below wr.heap.size wr w1) → (convert 25 9 (.slice (some ⟨gb, go + (4 + 32 * k), none⟩) (36 + 32 * k - (4 + 32 * k)) (c - (4 + 32 * k)))).run Try.prog w1 = .ok (.string (str (nth (bs.drop 4) k))) w1 := fun w1 b1 => by
          have hs1 := s2.out.low
          have hs2 := hb.out
          have hs3 := b1.out
          have z1 := hs1.size
          have z2 := hs2.size
          exact hcv k (by omega) w1 ⟨⟨hs3.os.trans (hs2.os.trans hs1.os), hs3.tape.trans (hs2.tape.trans hs1.tape), hs3.output.trans (hs2.output.trans hs1.output), Nat.le_trans z1 (Nat.le_trans z2 hs3.size), fun q hq => by rw [hs3.block q (by omega), hs2.block q (by omega), hs1.block q hq]⟩⟩
        generalize nth (bs.drop 4) k = hh at hrg hlen32 hcv2
        clear hcv hfl
        have hsz : Box ((hh.map V).length = 32) := ⟨by rw [List.length_map]; exact hlen32⟩
        have hsa : Box ((hh.map V).toArray.size = 32) := ⟨by simp [hlen32]⟩
        have hz32 : Box ((z32.map V).toArray.size = 32) := ⟨by simp [z32]⟩
        go_upto_region 13 with (first | (refine wpList_load_mid rfl 29 (.tmp 84) rfl L (k * 32) rfl (hh.map V) _ (by have := hrg.out; rwa [Nat.zero_add] at this) Try.under29 rfl (by rw [hsz.out]; exact Try.size29) ?_) | (refine wpList_store_row rfl 29 (.tmp 10) (.tmp 85) rfl wr.heap.size (hh.map V).toArray rfl rfl 29 (z32.map V).toArray (heap_alloc_new _ _) (by rw [hsa.out]; exact Try.size29) (by rw [hsa.out, hz32.out]) (V_all _) ?_))
        go_frame
        refine code_any (fun w1 => HasV w1 wr.heap.size 29 hh ∧ Below wr.heap.size wr w1) ?_ ?_
        · refine ⟨setRow_heap _ _ _ _ 29 (0, 0) (heap_alloc_new _ _), ?_⟩
          exact below_setRow2 ((Below.refl _ _).alloc (Nat.le_refl _) _) (Nat.le_refl _) _
        rintro w5 ⟨hv5, hb5⟩
        have cv1 := hcv2 w5 ⟨hb5⟩
        have cv2 := hcv2 w5.drew ⟨hb5.drew⟩
        have ch1 := run_str w5 _ hh _ (rv_row hv5 hlen32)
        have ch2 := run_str w5.drew _ hh _ (rv_row hv5.drew hlen32)
        have hb6 : Box (Below w4.heap.size w4 w5) := ⟨by
          have z2 := hb.out.size
          exact hb.out.trans ⟨hb5.os, hb5.tape, hb5.output, hb5.size, fun q hq => hb5.block q (by omega)⟩⟩
        clear hcv2 hv5 hrg hb hb5
        go_wp2
        go_region
        have hb7 : Box (Below w4.heap.size w4 w5.drew) := ⟨hb6.out.drew⟩
        clear cv1 cv2 ch1 ch2 hb6
        go_wp2
        go_roundw
        case rel => exact ⟨k + 1, by omega, by go_num, hb7⟩
        case measure => simp [intOf]; omega
      · go_wp2_with (go_at_call 9; refine (s_awake (s2.out.grow hb.out)).mono ?_; rintro e w9 ⟨rfl, s9⟩)
        go_ret
        exact ⟨rfl, s9.out.low⟩
theorem hashes_law (a : Option Addr) (len c gb : Nat) (bs : List (BitVec 8)) (most : Int) (w : World) (hv : Av w (.slice a len c) bs gb) (hl : bs.length = len) :
    Calls Try.prog 5 #[.slice a len c, .int .i64 most] w fun e w' => e = .returned (.bool true) ∧ Below w.heap.size w w' := by
  by_cases h : 2000 < len
  · exact hashes_long a len c most w h
  · by_cases hno : noHs bs most
    · exact hashes_bad _ gb bs most w hv (by omega) hno
    · exact hashes_good _ gb bs most w hv (by omega) hno
end Go.Proofs.Ytkgfcddjjghohaa
