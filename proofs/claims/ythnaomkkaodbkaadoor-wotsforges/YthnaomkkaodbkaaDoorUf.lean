/- Made by gen_uf.py. isKey; the digits by a pointer; what awake answers. -/
import Derived.Test.YthnaomkkaodbkaaDoorUe
namespace Go.Proofs.YthnaomkkaodbkaaDoor
open Go.RowKit
theorem digits_at (hs : List (BitVec 8)) (w : World) (hl : hs.length = 32) :
    Calls Tryd.prog 8 #[.agg (hs.map V).toArray] w fun e w' => ∃ c b, e = .returned (.slice (some ⟨b, 0, none⟩) 67 c) ∧ Is w' (some ⟨b, 0, none⟩) b 0 (dig hs) ∧ w.heap.size ≤ b ∧ Below w.heap.size w w' := by
  refine (digits_any hs w hl).mono ?_
  rintro e w' ⟨sp, c, b, rfl, hs, hg, hb⟩
  obtain rfl := hs.ptr (by rw [dig_len]; omega)
  exact ⟨c, b, rfl, hs, hg, hb⟩
theorem ref_at (hs : List (BitVec 8)) (w : World) (hl : hs.length = 32) :
    Calls Tryd.prog 9 #[.agg (hs.map V).toArray] w fun e w' => ∃ c b, e = .returned (.slice (some ⟨b, 0, none⟩) 67 c) ∧ Is w' (some ⟨b, 0, none⟩) b 0 (dig hs) ∧ w.heap.size ≤ b ∧ Below w.heap.size w w' := by
  refine (ref_any hs w hl).mono ?_
  rintro e w' ⟨sp, c, b, rfl, hs, hg, hb⟩
  obtain rfl := hs.ptr (by rw [dig_len]; omega)
  exact ⟨c, b, rfl, hs, hg, hb⟩
theorem fk_digits {hs : List (BitVec 8)} {w : World} (hl : hs.length = 32) : Calls Tryd.prog 8 #[.agg (hs.map V).toArray] w fun e w' => ∃ u, e = .returned u ∧ (Fk.ds (dig hs)).f u w' ∧ Below w.heap.size w w' := by
  refine (digits_at hs w hl).mono ?_
  rintro e w' ⟨c, b, rfl, h, _, hb⟩
  exact ⟨_, rfl, ⟨_, c, b, 0, by rw [dig_len], h⟩, hb⟩
theorem fk_ref {hs : List (BitVec 8)} {w : World} (hl : hs.length = 32) : Calls Tryd.prog 9 #[.agg (hs.map V).toArray] w fun e w' => ∃ u, e = .returned u ∧ (Fk.ds (dig hs)).f u w' ∧ Below w.heap.size w w' := by
  refine (ref_at hs w hl).mono ?_
  rintro e w' ⟨c, b, rfl, h, _, hb⟩
  exact ⟨_, rfl, ⟨_, c, b, 0, by rw [dig_len], h⟩, hb⟩
theorem fk_public {hs : List (List (BitVec 8))} {v : Value} {w : World} (hN : hs.length ≤ 1000) (hK : Tab w) (h : (Fk.hs hs).f v w) : Calls Tryd.prog 16 #[v] w fun e w' => ∃ u, e = .returned u ∧ (Fk.eq (.agg ((pub hs).map V).toArray)).f u w' ∧ Below w.heap.size w w' := by
  obtain ⟨A, C, lb, lo, rfl, hL⟩ := h
  exact fk_of (public_any A hs.length C lb lo hs w rfl hL hN hK)

theorem Tryd.enter8 (args : Array Value) (w : World) : (callFunc 8 args).run Tryd.prog w = .ok (.enter 8 args) w := by kernel_rfl
theorem Tryd.enter9 (args : Array Value) (w : World) : (callFunc 9 args).run Tryd.prog w = .ok (.enter 9 args) w := by kernel_rfl
theorem Tryd.enter10 (args : Array Value) (w : World) : (callFunc 10 args).run Tryd.prog w = .ok (.enter 10 args) w := by kernel_rfl
theorem Tryd.enter11 (args : Array Value) (w : World) : (callFunc 11 args).run Tryd.prog w = .ok (.enter 11 args) w := by kernel_rfl
theorem Tryd.enter12 (args : Array Value) (w : World) : (callFunc 12 args).run Tryd.prog w = .ok (.enter 12 args) w := by kernel_rfl
theorem Tryd.enter13 (args : Array Value) (w : World) : (callFunc 13 args).run Tryd.prog w = .ok (.enter 13 args) w := by kernel_rfl
theorem Tryd.enter14 (args : Array Value) (w : World) : (callFunc 14 args).run Tryd.prog w = .ok (.enter 14 args) w := by kernel_rfl
theorem Tryd.enter15 (args : Array Value) (w : World) : (callFunc 15 args).run Tryd.prog w = .ok (.enter 15 args) w := by kernel_rfl
theorem Tryd.enter16 (args : Array Value) (w : World) : (callFunc 16 args).run Tryd.prog w = .ok (.enter 16 args) w := by kernel_rfl
theorem Tryd.enter17 (args : Array Value) (w : World) : (callFunc 17 args).run Tryd.prog w = .ok (.enter 17 args) w := by kernel_rfl
theorem Tryd.enter18 (args : Array Value) (w : World) : (callFunc 18 args).run Tryd.prog w = .ok (.enter 18 args) w := by kernel_rfl
theorem Tryd.enter19 (args : Array Value) (w : World) : (callFunc 19 args).run Tryd.prog w = .ok (.enter 19 args) w := by kernel_rfl
theorem Tryd.enter24 (args : Array Value) (w : World) : (callFunc 24 args).run Tryd.prog w = .ok (.enter 24 args) w := by kernel_rfl
theorem Tryd.enter23 (args : Array Value) (w : World) : (callFunc 23 args).run Tryd.prog w = .ok (.enter 23 args) w := by kernel_rfl
theorem iskey_yes (n : Nat) (h : n ≤ 2147483647) (w : World) : Calls Tryd.prog 20 #[.int .i64 (n : Int)] w fun e w' => e = .returned (.bool true) ∧ w' = w := by
  have h1 : (0 : Int) ≤ (n : Int) := by omega
  have h2 : (n : Int) ≤ (2147483647 : Int) := by omega
  go_enter Tryd.func20, Tryd.ntmps20
  go_wp2
  go_ret
  exact ⟨rfl, rfl⟩
theorem iskey_no (z : Int) (h : z < 0 ∨ 2147483647 < z) (w : World) : Calls Tryd.prog 20 #[.int .i64 z] w fun e w' => e = .returned (.bool false) ∧ w' = w := by
  rcases h with h | h
  · have h1 : ¬ ((0 : Int) ≤ z) := by omega
    clear h
    go_enter Tryd.func20, Tryd.ntmps20
    go_wp2
    go_ret
    exact ⟨rfl, rfl⟩
  · have h1 : (0 : Int) ≤ z := by omega
    have h2 : ¬ (z ≤ (2147483647 : Int)) := by omega
    clear h
    go_enter Tryd.func20, Tryd.ntmps20
    go_wp2
    go_ret
    exact ⟨rfl, rfl⟩
/-- The hash of noughts. -/
def hz : List (BitVec 8) := hsh St.first 0
theorem hz_len : hz.length = 32 := rfl
theorem hz_dig : (dig hz)[64]? = some 3 ∧ (dig hz)[65]? = some 12 ∧ (dig hz)[66]? = some 0 := by decide +kernel
theorem hz_walk : wk 1 2 hz (3 - 2) = chn 1 2 hz := rfl
end Go.Proofs.YthnaomkkaodbkaaDoor
