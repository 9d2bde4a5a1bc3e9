/- What the reference's Text and Hashes hand back. -/
import Derived.Test.YtkgfcddjjghohaaWv
import Derived.Laws.IdiomStrings
namespace Go.Proofs.Ytkgfcddjjghohaa
open Go.RowKit
theorem str_bytes (s : ByteArray) (w : World) : ∃ c w', (convert 9 25 (.string s)).run Try.prog w = .ok (.slice (some ⟨w.heap.size, 0, none⟩) s.size c) w' ∧ Rv w' (.slice (some ⟨w.heap.size, 0, none⟩) s.size c) (strB s) w.heap.size ∧ Below w.heap.size w w' := by
  refine ⟨_, _, run_bytes_of_string (P := Try.prog) w 9 25 5 s Try.under9 Try.under25 Try.under5, ?_, ?_⟩
  · refine .inr ⟨0, _, by rw [strB_len], ?_, by simp, ?_⟩
    · rw [strB_len]; exact grownCap_ge w s.size 0 5
    · intro i hi
      rw [Nat.zero_add]
      have hs : i < s.data.size := by rw [strB_len] at hi; exact hi
      have hb : (bytesRow s (grownCap w s.size 0 5))[i]? = some (V ((strB s).getD i 0)) := by
        have h1 : (bytesRow s (grownCap w s.size 0 5))[i]? = (s.data.map fun b => Value.int .u8 (b.toNat : Int))[i]? := by
          unfold bytesRow
          rw [Array.getElem?_append_left (by simpa using hs)]
        rw [h1]
        have h2 := congrArg (·[i]?) (strB_V s)
        simp only [List.getElem?_map] at h2
        simp only [Array.getElem?_map]
        rw [← Array.getElem?_toList, ← h2]
        simp [hi]
      have hn := heap_alloc_new w.drew (.cells (bytesRow s (grownCap w s.size 0 5)) 5 ((bytesRow s (grownCap w s.size 0 5)).size, (bytesRow s (grownCap w s.size 0 5)).size + 1))
      simp only [World.cell?]
      rw [show w.heap.size = w.drew.heap.size from rfl, hn]
      simpa [V] using hb
  · exact ((Below.refl _ _).drew.alloc (Nat.le_refl _) _)
set_option maxHeartbeats 400000 in
theorem refText_any (s : ByteArray) (w : World) (hl : s.size ≤ 800000) :
    Calls Try.prog 31 #[.string s] w fun e w' => ∃ v', e = .returned v' ∧ w'.ownsRow w.heap.size 5 1 v' (4 + s.size) ((beN s.size 4 ++ strB s).map V) ∧ Below w.heap.size w w' := by
  obtain ⟨c, w1, hcv, hr, hb⟩ := str_bytes s w
  have hT : Box (Calls Try.prog 40 #[.slice (some ⟨w.heap.size, 0, none⟩) s.size c] w1 fun e w' => ∃ v', e = .returned v' ∧ Box (w'.ownsRow w.heap.size 5 1 v' (4 + s.size) ((beN s.size 4 ++ strB s).map V)) ∧ Box (Below w.heap.size w w')) := ⟨by
    refine (refBytes_any _ _ _ w1 hr (by rw [strB_len]; exact hl)).mono ?_
    rintro e w2 ⟨v', rfl, h1, h2⟩
    rw [strB_len] at h1
    have hz := hb.size
    refine ⟨v', rfl, ⟨?_⟩, ⟨hb.trans ⟨h2.os, h2.tape, h2.output, h2.size, fun k hk => h2.block k (by omega)⟩⟩⟩
    exact ⟨h1.1, h1.2.imp id (fun ⟨g, cap, cur, e, hg, r⟩ => ⟨g, cap, cur, e, by omega, r⟩)⟩⟩
  clear hr
  go_enter Try.func31, Try.ntmps31
  go_wp2_with (refine hT.out.mono ?_; rintro e w2 ⟨v', rfl, h1, h2⟩)
  go_ret
  exact ⟨_, rfl, h1.out, h2.out⟩
theorem rv_new1 (w : World) (x : BitVec 8) : Rv (w.alloc (.cells #[.int .u8 (bv x)] 5)) (.slice (some ⟨w.heap.size, 0, none⟩) 1 1) [x] w.heap.size :=
  .inr ⟨0, 1, rfl, Nat.le_refl _, by simp, fun i hi => by
    obtain rfl : i = 0 := by simpa using hi
    exact cell_new1 _ _ _⟩
theorem take_succ_getD (D : List (BitVec 8)) (m : Nat) (h : m < D.length) : D.take (m + 1) = D.take m ++ [D.getD m 0] := by
  rw [List.take_add_one, List.getElem?_eq_getElem h]
  simp [h]
set_option maxHeartbeats 1000000 in
theorem refHashes_any (A : Option Addr) (lb lo n c : Nat) (D : List (BitVec 8)) (w : World) (hf : Fl w A lb lo n D) (hn : n ≤ 1000) :
    Calls Try.prog 32 #[.slice A n c] w fun e w' => ∃ v', e = .returned v' ∧ w'.ownsRow w.heap.size 5 1 v' (4 + 32 * n) ((beN n 4 ++ D).map V) ∧ Below w.heap.size w w' := by
  have hT := Box.mk (refCount_any n (by omega) w)
  have hl4 := beN_len n 4
  have hDl := hf.len
  have hf' := Box.mk hf
  generalize beN n 4 = X at hT hl4 ⊢
  clear hf
  go_enter Try.func32, Try.ntmps32
  go_wp2_with (go_at_call 41; refine hT.out.mono ?_; rintro e w1 ⟨rfl, h1, h2⟩; have h1' : Box (w1.ownsRow w.heap.size 5 1 (.slice (some ⟨w.heap.size, 0, none⟩) 4 4) 4 (X.map V)) := ⟨by (have := own_of_HasV (base := w.heap.size) h1 (by rw [hl4]; unfold maxLen; omega) (Nat.le_refl _); rw [hl4] at this; exact this)⟩; have h2' := Box.mk h2; clear h1 h2)
  go_loopw [3, 4] (fun v i wr => ∃ k : Nat, k ≤ n ∧ i = .int .i64 k ∧ Box (wr.ownsRow w.heap.size 5 1 v (4 + 32 * k) ((X ++ D.take (32 * k)).map V)) ∧ Box (Below w.heap.size w wr)) (fun _ i _ => n - (intOf i).toNat)
  case atStart => exact ⟨0, by omega, rfl, ⟨by simpa using h1'.out⟩, h2'⟩
  case round =>
    clear h1' h2'
    obtain ⟨k, hk, rfl, ho, hb⟩ := hrel
    by_cases hlt : k < n
    · obtain ⟨rfl, hlw, hB⟩ := hf'.out.src (by omega)
      have hB' := Box.mk hB
      clear hB
      go_wp2
      go_loopw [3, 5] (fun v j wi => ∃ m : Nat, m ≤ 32 ∧ j = .int .i64 m ∧ Box (wi.ownsRow w.heap.size 5 1 v (4 + 32 * k + m) ((X ++ D.take (32 * k + m)).map V)) ∧ Box (Below w.heap.size w wi)) (fun _ j _ => 32 - (intOf j).toNat)
      case atStart => exact ⟨0, by omega, rfl, ho, hb⟩
      case round =>
        clear ho hb
        obtain ⟨m, hm, rfl, ho, hb⟩ := hrel
        by_cases hm2 : m < 32
        · have c0 := hB'.out.below hb.out hlw (32 * k + m) (by omega)
          have hts := take_succ_getD D (32 * k + m) (by omega)
          generalize D.getD (32 * k + m) 0 = x at c0 hts
          have c1 : wr.cell? ⟨lb, lo + k * 32 + m, none⟩ = some (.int .u8 (bv x)) := by rw [← c0, show lo + k * 32 + m = lo + (32 * k + m) by omega]
          have hts' := Box.mk hts
          have hz := hb.out.size
          clear c0 hts
          go_wp2_with (at_builtin; refine append25 rfl _ _ rfl w.heap.size _ (4 + 32 * k + m) (X ++ D.take (32 * k + m)) rfl (ho.out.alloc _) _ [x] wr.heap.size rfl (rv_new1 wr x) (by simp; omega) (by simp; omega) ?_; intro v2 w2 own2 gr2 _; have gr2' := Box.mk gr2; have own2' := Box.mk own2; clear own2 gr2)
          have ho2 : Box (w2.ownsRow w.heap.size 5 1 v2 (4 + 32 * k + (m + 1)) ((X ++ D.take (32 * k + (m + 1))).map V)) := ⟨by
            have := own2'.out
            rw [show 32 * k + (m + 1) = 32 * k + m + 1 by omega, hts'.out, ← List.append_assoc]
            exact this⟩
          have hb2 : Box (Below w.heap.size w w2) := ⟨(hb.out.alloc hz _).grown gr2'.out (by simp; omega) (fun q e => (ho.out.lt q e).1)⟩
          clear own2' gr2' ho hb c1
          go_wp2
          go_roundw
          case rel => first | exact ⟨m + 1, by omega, by go_num, ho2, hb2⟩ | exact ⟨_, _, _, ⟨m + 1, by omega, by go_num, ho2, hb2⟩, rfl, rfl, rfl⟩
          case measure => simp [intOf]; omega
        · have hm3 : m = 32 := by omega
          have ho2 : Box (wr.ownsRow w.heap.size 5 1 u3 (4 + 32 * (k + 1)) ((X ++ D.take (32 * (k + 1))).map V)) := ⟨by
            have := ho.out
            rw [hm3, show 32 * k + 32 = 32 * (k + 1) by omega, show 4 + 32 * k + 32 = 4 + 32 * (k + 1) by omega] at this
            exact this⟩
          clear ho
          go_wp2
          go_roundw
          case rel => first | exact ⟨k + 1, by omega, by go_num, ho2, hb⟩ | exact ⟨_, _, _, ⟨k + 1, by omega, by go_num, ho2, hb⟩, rfl, rfl, rfl⟩
          case measure => simp [intOf]; omega
    · have hkn : k = n := by omega
      go_wp2
      go_ret
      have := ho.out
      rw [hkn, List.take_of_length_le (by omega)] at this
      exact ⟨_, rfl, this, hb.out⟩
end Go.Proofs.Ytkgfcddjjghohaa
