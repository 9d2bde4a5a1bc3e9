/- What awake answers; Record; the bytes of numbers. -/
import Derived.Test.YtfhhlkbcoofemaaDoorTb
namespace Go.Proofs.YtfhhlkbcoofemaaDoor
open Go.RowKit
/-- A number's last two bytes, the higher first. -/
def two (n : Int) : List (BitVec 8) := [kb (n / 256), kb n]
/-- A number's last four bytes, the highest first. -/
def four (n : Int) : List (BitVec 8) := [kb (n / 16777216), kb (n / 65536), kb (n / 256), kb n]
theorem bytes_new (w : World) (xs : List (BitVec 8)) (T : TypeId) : HasB (w.alloc (.cells (xs.map V).toArray T)) w.heap.size 0 xs := fun i hi => by
  rw [World.cell?_alloc_mark, Nat.zero_add]
  simp [hi, V]
theorem sl_new (w : World) (xs : List (BitVec 8)) (T : TypeId) (n : Nat) (hn : n = xs.length) : Sl (w.alloc (.cells (xs.map V).toArray T)) (some ⟨w.heap.size, 0, none⟩) n n xs w.heap.size 0 :=
  ⟨hn, Nat.le_refl _, fun h => by (cases h), fun _ => ⟨rfl, by simp, bytes_new _ _ _⟩⟩
attribute [local go_sem] kb_v
set_option maxHeartbeats 400000 in
theorem two_any (n : Int) (w : World) :
    Calls Tryd.prog 22 #[.int .i64 n] w fun e w' => e = .returned (.slice (some ⟨w.heap.size, 0, none⟩) 2 2) ∧ Sl w' (some ⟨w.heap.size, 0, none⟩) 2 2 (two n) w.heap.size 0 ∧ Below w.heap.size w w' := by
  go_enter Tryd.func22, Tryd.ntmps22
  go_wp2
  go_ret
  exact ⟨rfl, sl_new w (two n) 5 2 rfl, (Below.refl _ _).alloc (Nat.le_refl _) _⟩
set_option maxHeartbeats 400000 in
theorem four_any (n : Int) (w : World) :
    Calls Tryd.prog 21 #[.int .i64 n] w fun e w' => e = .returned (.slice (some ⟨w.heap.size, 0, none⟩) 4 4) ∧ Sl w' (some ⟨w.heap.size, 0, none⟩) 4 4 (four n) w.heap.size 0 ∧ Below w.heap.size w w' := by
  go_enter Tryd.func21, Tryd.ntmps21
  go_wp2
  go_ret
  exact ⟨rfl, sl_new w (four n) 5 4 rfl, (Below.refl _ _).alloc (Nat.le_refl _) _⟩
end Go.Proofs.YtfhhlkbcoofemaaDoor
