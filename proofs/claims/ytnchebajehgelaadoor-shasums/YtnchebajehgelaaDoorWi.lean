/- What awake answers: true, whatever the memory, where the numbers of the rounds lie in block 0. -/
import Derived.Test.YtnchebajehgelaaDoorWh
import Derived.Lib.SlBytesConst
namespace Go.Proofs.YtnchebajehgelaaDoor
open Go.RowKit
theorem shaOf_len (bs : List (BitVec 8)) : (shaOf bs).length = 32 := hsh_len _ _
set_option maxHeartbeats 400000 in
theorem awake_any (w : World) (hK : HasK w 0) (h0 : 0 < w.heap.size) :
    Calls Tryd.prog 9 #[] w fun e w' => e = .returned (.bool true) ∧ Below w.heap.size w w' := by
  have kc := fun (w : World) (C : Array Value) (n c : Nat) => Lib.run_convert_bytes_const (P := Tryd.prog) w 22 5 C n c Tryd.under22 Tryd.under5
  go_enter Tryd.func9, Tryd.ntmps9
  go_wp2_with fail
  clear kc
  have hb1 : ∀ o, Below w.heap.size w (w.alloc o) := fun o => (Below.refl _ _).alloc (Nat.le_refl _) _
  refine (sum_any w.heap.size 0 _ 3 3 [97, 98, 99] _ rfl (Nat.le_refl _) (fun _ => ⟨rfl, by simp, ?_⟩) (by omega) (hK.below (hb1 _) h0) (by simp)).mono ?_
  · intro i hi
    rw [World.cell?_alloc_mark]
    have hi3 : i < 3 := hi
    have : i = 0 ∨ i = 1 ∨ i = 2 := by omega
    rcases this with rfl | rfl | rfl
    · rfl
    · rfl
    · rfl
  rintro e w1 ⟨rfl, hb2⟩
  have hb3 := (hb1 _).trans (hb2.mono (by simp))
  clear hb1 hb2
  have ha : Box (strOfNums ((txt (shaOf [97, 98, 99]) 32).map bv) = _) := ⟨abc_text⟩
  have hl := shaOf_len [97, 98, 99]
  generalize shaOf [97, 98, 99] = hh at ha hl
  go_wp2_with fail
  refine (show_any hh w1 hl).mono ?_
  rintro e w2 ⟨rfl, hb4⟩
  have hb5 := hb3.trans (hb4.mono hb3.size)
  rw [ha.out]
  clear hb3 hb4
  go_wp2
  go_ret
  exact ⟨rfl, hb5⟩
end Go.Proofs.YtnchebajehgelaaDoor
