/- What number, Int, length, counted and Count do with an In. -/
import Derived.Test.YtkgfcddjjghohaaWa
import Derived.Test.YtkgfcddjjghohaaPa
namespace Go.Proofs.Ytkgfcddjjghohaa
open Go.RowKit
theorem takeB_len (bs : List (BitVec 8)) (n : Nat) : (takeB bs n).length ≤ n := by unfold takeB; split <;> simp; omega
set_option maxHeartbeats 400000 in
theorem number_any (ib gb n : Nat) (bs : List (BitVec 8)) (bad : Bool) (w : World) (h : HasIn w ib bs bad gb) (hn : n ≤ 8) (hbs : bs.length ≤ 1000000) :
    Calls Try.prog 33 #[.pointer (some ⟨ib, 0, none⟩), .int .i64 (n : Int)] w fun e w' => e = .returned (.int .u64 (num (takeB bs n) : Int)) ∧ HasIn w' ib (dropB bs n) (badB bs bad n) gb ∧ Only ib w w' := by
  have hlen := takeB_len bs n
  have hT := take_any ib gb n bs bad w h (by omega) (by omega)
  generalize takeB bs n = tb at hT hlen ⊢
  have hT' := Box.mk hT
  clear h hT
  go_enter Try.func33, Try.ntmps33
  go_wp2_with (refine hT'.out.mono ?_; rintro e w' ⟨v, rfl, h1, h2, h3⟩; obtain ⟨a, c, hve, hc⟩ := h1.shape; subst hve; have h1' := Box.mk h1; have h2' := Box.mk h2; clear h1 h2)
  go_loopw [5, 12] (fun x i wr => ∃ k : Nat, k ≤ tb.length ∧ i = .int .i64 k ∧ x = .int .u64 (num (tb.take k) : Int) ∧ wr = w') (fun _ i _ => tb.length - (intOf i).toNat)
  case atStart => exact ⟨0, by omega, rfl, rfl, rfl⟩
  case round =>
    obtain ⟨k, hk, rfl, rfl, rfl⟩ := hrel
    by_cases hlt : k < tb.length
    · rcases h1'.out with ⟨e, rfl⟩ | ⟨go, c', e, _, hgl, hB⟩
      · simp at hlt
      · simp only [Value.slice.injEq] at e
        obtain ⟨rfl, _, rfl⟩ := e
        have c0 := hB k hlt
        have hs := num_take tb k hlt
        have hlt8 := num_take_lt tb k 7 (by omega)
        generalize tb.getD k 0 = x at c0 hs
        have hx := bv_range x
        have hp := u64_push' (num (tb.take k)) x (by omega)
        rw [← hs] at hp
        have hp' := Box.mk hp
        clear hs hB hp
        generalize num (tb.take k) = N at hp' hlt8 ⊢
        go_wp2
        go_roundw
        case rel => exact ⟨k + 1, by omega, by go_num, by rw [hp'.out], by first | rfl | trivial⟩
        case measure => simp [intOf]; omega
    · have hkn : Box (tb.take k = tb) := ⟨by rw [List.take_of_length_le (by omega)]⟩
      rw [hkn.out]
      go_wp2
      go_ret
      exact ⟨rfl, h2'.out, h3⟩
end Go.Proofs.Ytkgfcddjjghohaa
