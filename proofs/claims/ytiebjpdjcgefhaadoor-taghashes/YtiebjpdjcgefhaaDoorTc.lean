/- What awake answers; Record; the bytes of numbers. -/
import Derived.Test.YtiebjpdjcgefhaaDoorTb
namespace Go.Proofs.YtiebjpdjcgefhaaDoor
open Go.RowKit
theorem leaf_text : strOfNums ((txt (shaOf [kb 0]) 32).map bv) = ⟨#[54, 101, 51, 52, 48, 98, 57, 99, 102, 102, 98, 51, 55, 97, 57, 56, 57, 99, 97, 53, 52, 52, 101, 54, 98, 98, 55, 56, 48, 97, 50, 99, 55, 56, 57, 48, 49, 100, 51, 102, 98, 51, 51, 55, 51, 56, 55, 54, 56, 53, 49, 49, 97, 51, 48, 54, 49, 55, 97, 102, 97, 48, 49, 100]⟩ := by
  decide +kernel
set_option maxHeartbeats 400000 in
theorem awake_any (w : World) (hK : HasK w 0) (h0 : 0 < w.heap.size) :
    Calls Tryd.prog 7 #[] w fun e w' => e = .returned (.bool true) ∧ Below w.heap.size w w' := by
  have hlf := hide (leaf_any 0 0 none 0 0 [] w ⟨rfl, Nat.le_refl _, fun _ => ⟨rfl, rfl⟩, fun h => absurd h (by omega)⟩ (by simp) hK h0)
  have ha : Box (strOfNums ((txt (shaOf [kb 0]) 32).map bv) = _) := ⟨leaf_text⟩
  have hl := shaOf_len [kb 0]
  generalize shaOf [kb 0] = hh at ha hl hlf
  go_enter Tryd.func7, Tryd.ntmps7
  go_wp2_with fail
  refine hlf.out.mono ?_
  rintro e w1 ⟨rfl, hb3⟩
  clear hlf
  go_wp2_with fail
  refine (show_any hh w1 hl).mono ?_
  rintro e w2 ⟨rfl, hb4⟩
  have hb5 := hb3.trans (hb4.mono hb3.size)
  rw [ha.out]
  clear hb3 hb4
  go_wp2
  go_ret
  exact ⟨rfl, hb5⟩
/-- A number's last two bytes, the higher first. -/
def two (n : Int) : List (BitVec 8) := [kb (n / 256), kb n]
/-- A number's last four bytes, the highest first. -/
def four (n : Int) : List (BitVec 8) := [kb (n / 16777216), kb (n / 65536), kb (n / 256), kb n]
theorem bytes_new (w : World) (xs : List (BitVec 8)) (T : TypeId) : HasB (w.alloc (.cells (xs.map V).toArray T)) w.heap.size 0 xs := fun i hi => by
  rw [World.cell?_alloc_mark, Nat.zero_add]
  simp [hi, V]
theorem sl_new (w : World) (xs : List (BitVec 8)) (T : TypeId) (n : Nat) (hn : n = xs.length) : Sl (w.alloc (.cells (xs.map V).toArray T)) (some ⟨w.heap.size, 0, none⟩) n n xs w.heap.size 0 :=
  ⟨hn, Nat.le_refl _, fun h => by (cases h), fun _ => ⟨rfl, by simp, bytes_new _ _ _⟩⟩
attribute [local go_sem] kb_v
set_option maxHeartbeats 400000 in
theorem two_any (n : Int) (w : World) :
    Calls Tryd.prog 25 #[.int .i64 n] w fun e w' => e = .returned (.slice (some ⟨w.heap.size, 0, none⟩) 2 2) ∧ Sl w' (some ⟨w.heap.size, 0, none⟩) 2 2 (two n) w.heap.size 0 ∧ Below w.heap.size w w' := by
  go_enter Tryd.func25, Tryd.ntmps25
  go_wp2
  go_ret
  exact ⟨rfl, sl_new w (two n) 5 2 rfl, (Below.refl _ _).alloc (Nat.le_refl _) _⟩
set_option maxHeartbeats 400000 in
theorem four_any (n : Int) (w : World) :
    Calls Tryd.prog 26 #[.int .i64 n] w fun e w' => e = .returned (.slice (some ⟨w.heap.size, 0, none⟩) 4 4) ∧ Sl w' (some ⟨w.heap.size, 0, none⟩) 4 4 (four n) w.heap.size 0 ∧ Below w.heap.size w w' := by
  go_enter Tryd.func26, Tryd.ntmps26
  go_wp2
  go_ret
  exact ⟨rfl, sl_new w (four n) 5 4 rfl, (Below.refl _ _).alloc (Nat.le_refl _) _⟩
end Go.Proofs.YtiebjpdjcgefhaaDoor
