/- What the reference's Read hands back. -/
import Derived.Test.YtkgfcddjjghohaaWj
namespace Go.Proofs.Ytkgfcddjjghohaa
open Go.RowKit
/-- So many bytes at a place, as a number. -/
def rdAt (bs : List (BitVec 8)) (at_ size : Nat) : Int := IntKind.i64.wrap (num ((bs.drop at_).take size) : Int)
set_option maxHeartbeats 400000 in
theorem read_no (a : Option Addr) (c at_ size : Nat) (bs : List (BitVec 8)) (w : World) (hl : bs.length ≤ 1000000) (ha : at_ ≤ 1000000) (hs : size ≤ 8) (hle : ¬ at_ + size ≤ bs.length) :
    Calls Try.prog 17 #[.slice a bs.length c, .int .i64 (at_ : Int), .int .i64 (size : Int)] w fun e w' => e = .returned (.tuple #[.int .i64 0, .bool false]) ∧ w' = w := by
  have d1 : decide ((bs.length : Int) < (at_ : Int) + size) = true := by simp; omega
  go_enter Try.func17, Try.ntmps17
  go_wp2
  go_ret2
  exact ⟨rfl, rfl⟩
set_option maxHeartbeats 400000 in
theorem read_yes (v : Value) (gb at_ size : Nat) (bs : List (BitVec 8)) (w : World) (hr : Rv w v bs gb) (hl : bs.length ≤ 1000000) (hs : size ≤ 8) (hle : at_ + size ≤ bs.length) :
    Calls Try.prog 17 #[v, .int .i64 (at_ : Int), .int .i64 (size : Int)] w fun e w' => e = .returned (.tuple #[.int .i64 (rdAt bs at_ size), .bool true]) ∧ w' = w := by
  obtain ⟨a, c, hve, _⟩ := hr.shape
  subst hve
  have hr' := Box.mk hr
  have d1 : decide ((bs.length : Int) < (at_ : Int) + size) = false := by simp; omega
  clear hr
  go_enter Try.func17, Try.ntmps17
  go_wp2
  go_loopw [8, 9] (fun x i wr => ∃ (k : Nat) (z : Int), k ≤ size ∧ i = .int .i64 k ∧ x = .int .i64 z ∧ Box (z = rdAt bs at_ k) ∧ wr = w) (fun _ i _ => size - (intOf i).toNat)
  case atStart => exact ⟨0, 0, by omega, rfl, rfl, ⟨by unfold rdAt; rw [List.take_zero]; rfl⟩, rfl⟩
  case round =>
    obtain ⟨k, z, hk, rfl, rfl, hz, rfl⟩ := hrel
    by_cases hlt : k < size
    · rcases hr'.out with ⟨e, rfl⟩ | ⟨go, c', e, _, hgl, hB⟩
      · simp at hle; omega
      · simp only [Value.slice.injEq] at e
        obtain ⟨rfl, _, rfl⟩ := e
        have c0 := hB (at_ + k) (by omega)
        have hst := num_take (bs.drop at_) k (by simp; omega)
        rw [show (bs.drop at_).getD k 0 = bs.getD (at_ + k) 0 by simp] at hst
        generalize bs.getD (at_ + k) 0 = x at c0 hst
        have hx := bv_range x
        have hp := i64_push (num ((bs.drop at_).take k)) x
        rw [← hst] at hp
        have hp' : Box (bits .or .i64 (IntKind.i64.wrap (z * 256)) (bv x) = rdAt bs at_ (k + 1)) := ⟨by rw [hz.out]; exact hp⟩
        clear hst hB hp hz
        go_wp2
        go_roundw
        case rel => exact ⟨k + 1, _, by omega, by go_num, rfl, ⟨by rw [← hp'.out, ← w64]⟩, by first | rfl | trivial⟩
        case measure => simp [intOf]; omega
    · have hkn : Box (z = rdAt bs at_ size) := ⟨by rw [hz.out, show k = size by omega]⟩
      go_wp2
      go_ret2
      rw [← hkn.out]
      exact ⟨rfl, rfl⟩
end Go.Proofs.Ytkgfcddjjghohaa
