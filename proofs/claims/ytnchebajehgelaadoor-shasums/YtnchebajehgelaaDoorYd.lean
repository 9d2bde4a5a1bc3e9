/- The law on sums, walked. -/
import Derived.Test.YtnchebajehgelaaDoorYc
import Derived.Test.YtnchebajehgelaaDoorWi
import Derived.Test.YtnchebajehgelaaDoorPp
namespace Go.Proofs.YtnchebajehgelaaDoor
open Go.RowKit
set_option maxHeartbeats 400000 in
theorem sums_any (ab ao : Nat) (a : Option Addr) (n c : Nat) (bs : List (BitVec 8)) (w : World) (hsl : Sl w a n c bs ab ao) (hK : HasK w 0) (h0 : 0 < w.heap.size) (hm : n ≤ maxLen) :
    Calls Tryd.prog 3 #[.slice a n c] w fun e w' => e = .returned (.bool true) ∧ Below w.heap.size w w' := by
  unfold maxLen at hm
  by_cases h : 600 < n
  · go_enter Tryd.func3, Tryd.ntmps3
    go_wp2_with fail
    refine (awake_any w hK h0).mono ?_
    rintro e w6 ⟨rfl, hb8⟩
    go_wp2
    go_ret
    exact ⟨rfl, hb8⟩
  · have hsl' : Box (Sl w a n c bs ab ao) := ⟨hsl⟩
    have hn := hsl.len
    have hS1 := hide (sum_any ab ao a n c bs w hsl.len hsl.cap hsl.src (by omega) hK h0)
    have hl := shaOf_len bs
    have hn' : Box (n = bs.length) := ⟨hn⟩
    have hS2 : Box (∀ w1, Below w.heap.size w w1 → Calls Tryd.prog 11 #[.slice a n c] w1 fun e w' => e = .returned (.agg ((shaOf bs).map V).toArray) ∧ Below w1.heap.size w1 w') :=
      ⟨fun w1 hb => refsum_any ab ao a n c bs w1 (hsl'.out.belowE hb (Nat.le_refl _)) (by omega)⟩
    clear hsl hsl' hn
    generalize shaOf bs = hh at hS1 hS2 hl
    have heq := fun w => run_equal25_same w hh hl
    go_enter Tryd.func3, Tryd.ntmps3
    go_wp2_with fail
    refine hS1.out.mono ?_
    rintro e w1 ⟨rfl, hb1⟩
    go_wp2_with fail
    refine (hS2.out w1 hb1).mono ?_
    rintro e w2 ⟨rfl, hb2⟩
    have hb3 : Below w.heap.size w w2 := hb1.trans (hb2.mono hb1.size)
    clear hb1 hb2 hS1 hS2
    go_wp2_with fail
    refine (awake_any w2 (hK.below hb3 h0) (by have := hb3.size; omega)).mono ?_
    rintro e w6 ⟨rfl, hb8⟩
    have hb9 : Below w.heap.size w w6 := hb3.trans (hb8.mono hb3.size)
    clear hb3 hb8 heq
    go_wp2
    go_ret
    exact ⟨rfl, hb9⟩
end Go.Proofs.YtnchebajehgelaaDoor
