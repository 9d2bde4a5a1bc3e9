/- Fields of the steps' struct. -/
import Derived.Test.YthnaomkkaodbkaaDoorUl
namespace Go.Proofs.YthnaomkkaodbkaaDoor
open Go.RowKit
section
variable {Q : Exit → Act → World → Prop} {o : Oper} {a : Act} {w : World}
theorem Tryd.field42 (ρ : Operand → Value) (d : Option Tmp) (x : Operand) (i : Nat) (ty : TypeId) (pos : String) (aft : Array Edge) (gd : Option (Nat × Bool)) (g : Nat) (hx : ρ x = .pointer (some ⟨g, 0, none⟩)) (hi : i = 0 ∨ i = 1 ∨ i = 2) (w : World) : (execOp ρ ⟨d, .fieldAddr 42 x i, ty, pos, aft, gd⟩).run Tryd.prog w = .ok (.value (.pointer (some ⟨g, i, none⟩))) w := by
  unfold execOp
  simp only [hx]
  rcases hi with rfl | rfl | rfl <;> kernel_rfl
theorem st_field (x : Operand) (i : Nat) (ho : o.op = .fieldAddr 42 x i) (hi : i = 0 ∨ i = 1 ∨ i = 2) (g : Nat) (z : Int) (hx : a.eval x = .pointer (some ⟨g, 0, none⟩)) (hc : w.cell? ⟨g, i, none⟩ = some (.int .i64 z)) : o.wp Tryd.prog a w (Ends a o.dst w (Fk.pi z).f) Q := by
  refine st_pure (v := .pointer (some ⟨g, i, none⟩)) ?_ ⟨g, i, rfl, hc⟩
  obtain ⟨d, op, ty, pos, aft, gd⟩ := o
  subst ho
  exact Tryd.field42 _ _ _ _ _ _ _ _ g hx hi _
end
end Go.Proofs.YthnaomkkaodbkaaDoor
