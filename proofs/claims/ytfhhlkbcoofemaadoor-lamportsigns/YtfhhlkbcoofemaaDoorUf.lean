/- Made by gen_uf.py. isKey; the digits by a pointer; what awake answers. -/
import Derived.Test.YtfhhlkbcoofemaaDoorUe
namespace Go.Proofs.YtfhhlkbcoofemaaDoor
open Go.RowKit
theorem fk_public {hs : List (List (BitVec 8))} {v : Value} {w : World} (hN : hs.length ≤ 1000) (hK : Tab w) (h : (Fk.hs hs).f v w) : Calls Tryd.prog 10 #[v] w fun e w' => ∃ u, e = .returned u ∧ (Fk.eq (.agg ((pub hs).map V).toArray)).f u w' ∧ Below w.heap.size w w' := by
  obtain ⟨A, C, lb, lo, rfl, hL⟩ := h
  exact fk_of (public_any A hs.length C lb lo hs w rfl hL hN hK)

theorem Tryd.enter12 (args : Array Value) (w : World) : (callFunc 12 args).run Tryd.prog w = .ok (.enter 12 args) w := by kernel_rfl
theorem Tryd.enter10 (args : Array Value) (w : World) : (callFunc 10 args).run Tryd.prog w = .ok (.enter 10 args) w := by kernel_rfl
theorem Tryd.enter14 (args : Array Value) (w : World) : (callFunc 14 args).run Tryd.prog w = .ok (.enter 14 args) w := by kernel_rfl
theorem Tryd.enter24 (args : Array Value) (w : World) : (callFunc 24 args).run Tryd.prog w = .ok (.enter 24 args) w := by kernel_rfl
theorem Tryd.enter25 (args : Array Value) (w : World) : (callFunc 25 args).run Tryd.prog w = .ok (.enter 25 args) w := by kernel_rfl
/-- The hash of noughts. -/
def hz : List (BitVec 8) := hsh St.first 0
theorem hz_len : hz.length = 32 := rfl
theorem hz_dig : (dig hz)[64]? = some 3 ∧ (dig hz)[65]? = some 12 ∧ (dig hz)[66]? = some 0 := by decide +kernel
theorem hz_walk : wk 1 2 hz (3 - 2) = chn 1 2 hz := rfl
end Go.Proofs.YtfhhlkbcoofemaaDoor
