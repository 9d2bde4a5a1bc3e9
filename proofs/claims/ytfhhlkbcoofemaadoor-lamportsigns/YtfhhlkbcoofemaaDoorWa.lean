/- What rotr and math/bits.RotateLeft32 hand back: the word turned to the right. -/
import Derived.Test.YtfhhlkbcoofemaaDoorProg
import Derived.Test.YtfhhlkbcoofemaaDoorPm
import Derived.WalkKit
import Derived.WalkSpells
import Derived.WalkLawsBesides
namespace Go.Proofs.YtfhhlkbcoofemaaDoor
open Go.RowKit
set_option maxHeartbeats 400000 in
theorem rotl_any (x : BitVec 32) (n : Nat) (h1 : 0 < n) (h2 : n < 32) (w : World) :
    Calls Tryd.prog 35 #[.int .u32 (vl x), .int .i64 (-(n : Int))] w fun e w' => e = .returned (.int .u32 (vl (rot x n))) ∧ w' = w := by
  have c1 := cnt n h1 h2
  have c2 := cnt2 n h1 h2
  have c3 : (0 : Int) ≤ ((32 - n : Nat) : Int) := by omega
  go_enter Tryd.func35, Tryd.ntmps35
  go_wp2
  go_ret
  exact ⟨ret_int (rot_raw x n), rfl⟩
set_option maxHeartbeats 400000 in
theorem rotr_any (x : BitVec 32) (m : Int) (h1 : 0 < m) (h2 : m < 32) (w : World) :
    Calls Tryd.prog 34 #[.int .u32 (vl x), .int .i64 m] w fun e w' => e = .returned (.int .u32 (vl (rot x m.toNat))) ∧ w' = w := by
  obtain ⟨n, rfl⟩ := Int.eq_ofNat_of_zero_le (show 0 ≤ m by omega)
  go_enter Tryd.func34, Tryd.ntmps34
  go_wp2_with fail
  refine (rotl_any x n (by omega) (by omega) _).mono ?_
  rintro e w' ⟨rfl, rfl⟩
  go_wp2
  go_ret
  exact ⟨rfl, rfl⟩
end Go.Proofs.YtfhhlkbcoofemaaDoor
