/- What firstState, New and Len hand back; mixed once more, its arguments written out. -/
import Derived.Test.YtfhhlkbcoofemaaDoorWc
import Derived.Test.YtfhhlkbcoofemaaDoorPn
namespace Go.Proofs.YtfhhlkbcoofemaaDoor
open Go.RowKit
def St.agg (s : St) : Value := .agg #[.int .u32 (vl s.a), .int .u32 (vl s.b), .int .u32 (vl s.c), .int .u32 (vl s.d), .int .u32 (vl s.e), .int .u32 (vl s.f), .int .u32 (vl s.g), .int .u32 (vl s.h)]
theorem mixed_lit (a b c d e f g h : BitVec 32) (ab ao cp : Nat) (bs : List (BitVec 8)) (w : World) (hab : ab < w.heap.size) (hl64 : bs.length = 64) (hc : HasB w ab ao bs) (hK : HasK w 0) (h0 : 0 < w.heap.size) :
    Calls Tryd.prog 30 #[.agg #[.int .u32 (vl a), .int .u32 (vl b), .int .u32 (vl c), .int .u32 (vl d), .int .u32 (vl e), .int .u32 (vl f), .int .u32 (vl g), .int .u32 (vl h)], .slice (some ⟨ab, ao, none⟩) 64 cp] w fun o w' => (∃ s, Box (s = mix ⟨a, b, c, d, e, f, g, h⟩ bs) ∧ o = .returned (.agg #[.int .u32 (vl s.a), .int .u32 (vl s.b), .int .u32 (vl s.c), .int .u32 (vl s.d), .int .u32 (vl s.e), .int .u32 (vl s.f), .int .u32 (vl s.g), .int .u32 (vl s.h)])) ∧ Below w.heap.size w w' := by
  refine (mixed_any ⟨a, b, c, d, e, f, g, h⟩ ab ao cp bs w hab hl64 hc hK h0).mono ?_
  rintro o w' ⟨rfl, hb⟩
  exact ⟨⟨_, ⟨rfl⟩, rfl⟩, hb⟩
set_option maxHeartbeats 400000 in
theorem first_any (w : World) :
    Calls Tryd.prog 29 #[] w fun e w' => e = .returned (.agg #[.int .u32 1779033703, .int .u32 3144134277, .int .u32 1013904242, .int .u32 2773480762, .int .u32 1359893119, .int .u32 2600822924, .int .u32 528734635, .int .u32 1541459225]) ∧ Below w.heap.size w w' := by
  go_enter Tryd.func29, Tryd.ntmps29
  go_wp2
  refine bodyPost_ret (results_cell_row (P := Tryd.prog) (fn := Tryd.f29) (p := 0) (ty := 59) rfl _ _ w.heap.size 59 _ (0, 0) _ rfl (heap_alloc_new _ _) Tryd.under59 rfl Tryd.size59) rfl ⟨rfl, ?_⟩
  exact (Below.refl _ _).alloc (Nat.le_refl _) _
/-- A digest of no bytes. -/
def Dg.new : Dg := ⟨St.first, List.replicate 64 0, 0⟩
def Dg.zero : Dg := ⟨⟨0, 0, 0, 0, 0, 0, 0, 0⟩, List.replicate 64 0, 0⟩
theorem Tryd.zero63 (w : World) : (zeroValue 63).run Tryd.prog w = .ok (.agg Dg.zero.cells.toArray) w := by kernel_rfl
theorem Dg.new_cells : Dg.new.cells = (((((((Dg.zero.cells.set 0 (Value.int IntKind.u32 1779033703)).set 1 (Value.int IntKind.u32 3144134277)).set 2 (Value.int IntKind.u32 1013904242)).set 3 (Value.int IntKind.u32 2773480762)).set 4 (Value.int IntKind.u32 1359893119)).set 5 (Value.int IntKind.u32 2600822924)).set 6 (Value.int IntKind.u32 528734635)).set 7 (Value.int IntKind.u32 1541459225) := by kernel_rfl
set_option maxHeartbeats 400000 in
theorem new_any (w : World) :
    Calls Tryd.prog 26 #[] w fun e w' => ∃ b, e = .returned (.pointer (some ⟨b, 0, none⟩)) ∧ w.heap.size ≤ b ∧ HasD w' b 63 Dg.new ∧ Below w.heap.size w w' := by
  go_enter Tryd.func26, Tryd.ntmps26
  go_wp2_with fail
  refine (first_any _).mono ?_
  rintro e w1 ⟨rfl, hb1⟩
  have hz := Tryd.zero63
  have hlen : Dg.zero.cells.length = 73 := rfl
  go_wp2
  go_ret
  refine ⟨w1.heap.size, rfl, hb1.size, ⟨rfl, ?_⟩, hb1.alloc hb1.size _⟩
  rw [heap_alloc_new, Dg.new_cells]
end Go.Proofs.YtfhhlkbcoofemaaDoor
