/- The bits of a hash: the function that is ranged over, at every body that keeps what lay below. -/
import Derived.Test.YtfhhlkbcoofemaaDoorPz
import Derived.RangeFuncNested
import Derived.RangeFuncBound
import Derived.RangeFuncCalls
import Derived.RangeFuncLeaves
import Derived.Shelf.Abstract
import Derived.Shelf.RegionOpen
import Derived.WalkKit
import Derived.OwnWalkIn
import Derived.TacticsInMore
import Derived.LoopNIn
import Derived.LoopIn
import Derived.Test.YtfhhlkbcoofemaaDoorProg
namespace Go.Proofs.YtfhhlkbcoofemaaDoor
open Go.RowKit Go.Shelf
attribute [local go_sem] Oper.semAt_some
/-- Bit k of a hash. -/
def bt (h : List (BitVec 8)) (k : Nat) : Nat := (h.getD (k / 8) 0).toNat / 2 ^ (7 - k % 8) % 2
theorem bt_le (h : List (BitVec 8)) (k : Nat) : bt h k ≤ 1 := by unfold bt; omega
/-- What has come when k rounds are over. -/
def ups (k : Nat) : List (Fin 256) := (List.range k).map (Fin.ofNat 256)
theorem ups_succ (k : Nat) (h : k < 256) : ups (k + 1) = ups k ++ [⟨k, h⟩] := by
  simp only [ups, List.range_succ, List.map_append, List.map_cons, List.map_nil]
  congr 2
  exact Fin.ext (Nat.mod_eq_of_lt h)
theorem ups_len (k : Nat) : (ups k).length = k := by simp [ups]
theorem ups_all (p : Fin 256) : p ∈ ups 256 := by
  simp only [ups, List.mem_map, List.mem_range]
  exact ⟨p.val, p.isLt, Fin.ext (Nat.mod_eq_of_lt p.isLt)⟩
/-- What a round is handed. -/
def enc (h : List (BitVec 8)) (p : Fin 256) : Array Value := #[.int .i64 (p.val : Int), .int .i64 (bt h p.val : Int)]
theorem shr_bit (x : BitVec 8) (n : Nat) : bits .and .u8 (bv x / 2 ^ n) 1 = ((x.toNat / 2 ^ n % 2 : Nat) : Int) := by
  unfold bv
  rw [show ((x.toNat : Int) / 2 ^ n) = ((x.toNat / 2 ^ n : Nat) : Int) by simp]
  have h1 := x.isLt
  have h2 : x.toNat / 2 ^ n < 256 := Nat.lt_of_le_of_lt (Nat.div_le_self _ _) h1
  generalize x.toNat / 2 ^ n = m at h2
  rw [u8_and _ _ (by omega) (by omega) (by omega) (by omega)]
  simp
/-- Block g lies as it lay. -/
def Kg (g : Nat) (W W' : World) : Prop := W'.heap[g]? = W.heap[g]?
theorem kg_t {g : Nat} {A B C : World} (h : Kg g A B) (k : Kg g B C) : Kg g A C := Eq.trans k h
theorem kg_b {g : Nat} {w : World} (hg : g < w.heap.size) (W : World) (l : Nat) (o o' : Obj) (hl : w.heap.size ≤ l) (_ : W.heap[l]? = some o) (_ : o.isCells = false) (_ : o.isWalk = false) : Kg g W (W.putObj l o') :=
  World.putObj_heap_other (by omega)
set_option maxRecDepth 100000 in
set_option maxHeartbeats 2000000 in
theorem it_in (F : Fence) (n : Nat) (h8 : F.fn 23) (hro : F.round = none) (hn : 1 ≤ n) (l g : Nat) (h : List (BitVec 8)) (hh : h.length = 32) (J Jx : List (Fin 256) → World → Prop)
    (hY : ∀ pre x W, J pre W → pre.length < 256 → YieldAt F (n - 1) Tryd.prog l (enc h x) W fun e W' =>
      (e = .returned (.bool true) ∧ J (pre ++ [x]) W' ∧ Kg g W W') ∨ (e = .returned (.bool false) ∧ Jx (pre ++ [x]) W'))
    (W : World) (hv : HasV W g 23 h) (h0 : J [] W) :
    CallsIn F n Tryd.prog 23 #[.func (.yield l) #[] #[], .pointer (some ⟨g, 0, none⟩)] W fun e W' => (∃ v, e = .returned v) ∧
      ((∃ ys, ys = ups 256 ∧ J ys W') ∨ (∃ pre, True ∧ Jx pre W')) := by
  refine callsIn_of_wp Tryd.func23 rfl h8 ?_ hro
  simp only [Tryd.ntmps23, List.size_toArray, List.length_cons, List.length_nil, Nat.reduceAdd, Nat.reduceSub, Array.replicate_succ, Array.replicate_zero, List.push_toArray, List.append_toArray, List.nil_append, List.cons_append]
  gi_wp2
  gi_loopw [5] (fun i wr => ∃ k : Nat, k ≤ 256 ∧ i = .int .i64 k ∧ J (ups k) wr ∧ Kg g W wr) (fun i _ => 256 - (intOf i).toNat)
  case atStart => exact ⟨0, Nat.zero_le _, rfl, h0, rfl⟩
  case round =>
    obtain ⟨k, hk, rfl, hJs, hnx⟩ := hrel
    by_cases hlt : k < 256
    · obtain ⟨fn, tmps, assign, body, hy, hR⟩ := hY _ ⟨k, hlt⟩ wr hJs (by rw [ups_len]; exact hlt)
      have hc : wr.cell? ⟨g, k / 8, none⟩ = some (.int .u8 (bv (h.getD (k / 8) 0))) := (World.cell?_of_block (a := ⟨g, k / 8, none⟩) hnx).trans (hv.cell _ (by omega))
      have hbl := bt_le h k
      have hb := shr_bit (h.getD (k / 8) 0) (7 - k % 8)
      dsimp only [enc] at hy
      rw [show (h.getD (k / 8) 0).toNat / 2 ^ (7 - k % 8) % 2 = bt h k from rfl] at hb
      generalize bt h k = b at hb hy hbl
      generalize h.getD (k / 8) 0 = x at hb hc
      gi_wp2
      refine hR.mono ?_
      rintro e W3 (⟨rfl, hJ3, hk3⟩ | ⟨rfl, hJx3⟩)
      · gi_wp2
        go_roundw
        case rel => exact ⟨k + 1, by omega, by simp, by rw [ups_succ k hlt]; exact hJ3, kg_t hnx hk3⟩
        case measure => simp [intOf]; omega
      · gi_wp2
        refine bodyPost_ret (results_none rfl _ _ _) rfl ?_
        exact ⟨⟨_, rfl⟩, .inr ⟨_, trivial, hJx3⟩⟩
    · obtain rfl : k = 256 := by omega
      gi_wp2
      go_end0
      exact ⟨⟨_, rfl⟩, .inl ⟨_, rfl, hJs⟩⟩
theorem it_stops (F : Fence) (n : Nat) (h8 : F.fn 23) (hro : F.round = none) (hn : 1 ≤ n) (g : Nat) (h : List (BitVec 8)) (hh : h.length = 32) (w : World) (hv : HasV w g 23 h) :
    SeqStopsK F n Tryd.prog 23 #[.pointer (some ⟨g, 0, none⟩)] (enc h) (Kg g) (fun ys => ys = ups 256) (fun _ => True) 256 w := fun l J Jx W hW _ _ hY h0 =>
  it_in F n h8 hro hn l g h hh J Jx hY W (hv.below hW hv.lt) h0
set_option maxHeartbeats 400000 in
theorem of_any (h : List (BitVec 8)) (w : World) :
    Calls Tryd.prog 18 #[.agg (h.map V).toArray] w fun e w' => e = .returned (.func (.func 23) #[] #[.pointer (some ⟨w.heap.size, 0, none⟩)]) ∧ w' = w.alloc (.cells (h.map V).toArray 23) := by
  go_enter Tryd.func18, Tryd.ntmps18
  go_wp2
  go_ret
  exact ⟨rfl, rfl⟩
/-- Cells lie on where what is turned is no cells. -/
theorem own_block {A B : World} {row : Option Nat} {k bd : Nat} {o : Obj} (h : A.heap[k]? = some o) (ho : o.isCells = true) (hg : A.grownBy B row) (hr : ∀ r, row = some r → bd ≤ r ∧ ∃ o : Obj, A.heap[r]? = some o ∧ o.isCells = false) : B.heap[k]? = some o := by
  refine (hg.block k (Array.getElem?_eq_some_iff.1 h).1 (fun e => ?_)).trans h
  obtain ⟨_, o', h1, h2⟩ := hr k e.symm
  rw [h] at h1
  obtain rfl := Option.some.inj h1
  rw [ho] at h2; cases h2
/-- The same where the block for deferred calls is turned. -/
theorem own_put {W : World} {k D : Nat} {o o' p : Obj} (h : W.heap[k]? = some o) (ho : o.isCells = true) (hD : W.heap[D]? = some p) (hp : p.isCells = false) : (W.putObj D o').heap[k]? = some o :=
  own_block (bd := 0) h ho (grownBy_putObj' W D o') (fun r e => by cases e; exact ⟨Nat.zero_le _, p, hD, hp⟩)
end Go.Proofs.YtfhhlkbcoofemaaDoor
