/- What Show hands back: the text of a hash; and the text of the sum of 'abc'. -/
import Derived.Test.YtfhhlkbcoofemaaDoorWg
namespace Go.Proofs.YtfhhlkbcoofemaaDoor
open Go.RowKit
theorem Tryd.under5 : Tryd.prog.underlying 5 = some (.int .u8) := by kernel_rfl
theorem Tryd.under9 : Tryd.prog.underlying 9 = some .string := by kernel_rfl
def SZ : List (BitVec 8) := List.replicate 64 0
theorem Tryd.make64 (w : World) : (Instr.makeSlice 47 (.int .i64 0) (.int .i64 64)).run Tryd.prog w = .ok (.slice (some ⟨w.heap.size, 0, none⟩) 0 64) (w.alloc (.cells (SZ.map V).toArray 5)) := by kernel_rfl
/-- The digit of a number below 16. -/
def dgt (x : Nat) : BitVec 8 := if x < 10 then BitVec.ofNat 8 (48 + x) else BitVec.ofNat 8 (87 + x)
def txt (hs : List (BitVec 8)) : Nat → List (BitVec 8)
  | 0 => SZ
  | k + 1 => ((txt hs k).set (2 * k) (dgt ((hs.getD k 0).toNat / 16))).set (2 * k + 1) (dgt ((hs.getD k 0).toNat % 16))
theorem txt_len (hs : List (BitVec 8)) (k : Nat) : (txt hs k).length = 64 := by
  induction k with
  | zero => rfl
  | succ k ih => simp [txt, ih]
theorem Tryd.isAgg5 (w : World) : (isAgg 5).run Tryd.prog w = .ok false w := by kernel_rfl
theorem run_index_arr {P : Program} (w : World) (t e : TypeId) (n : Nat) (cs : Array Value) (k : IntKind) (i : Nat) (v : Value) (h : P.underlying t = some (.array n e)) (hi : i < n) (hz : (sizeOf e).run P w = .ok 1 w) (ha : (isAgg e).run P w = .ok false w) (hv : cs[i]? = some v) :
    (Instr.index t (.agg cs) (.int k (i : Int))).run P w = .ok v w := by
  have hc : (0 ≤ (i : Int) ∧ (i : Int) < (n : Int)) := by omega
  simp [Instr.index, asIntOf, Sem.run_bind, run_underlying h w, hc, hz, part, ha, hv, Result.andThen]
  intro h2; omega
theorem Tryd.idx23 (hs : List (BitVec 8)) (hl : hs.length = 32) (k : Nat) (h : k < 32) (w : World) : (Instr.index 23 (.agg (hs.map V).toArray) (.int .i64 (k : Int))).run Tryd.prog w = .ok (.int .u8 (bv (hs.getD k 0))) w :=
  run_index_arr w 23 5 32 _ .i64 k _ Tryd.under23 h (Tryd.sizeOf5 w) (Tryd.isAgg5 w) (by
    have hk : k < hs.length := by omega
    simp [V, hk])
theorem and15_all : ∀ x : Fin 256, bits .and .u8 ((x.val : Nat) : Int) 15 = ((x.val % 16 : Nat) : Int) := by decide +kernel
theorem and15 (x : BitVec 8) : bits .and .u8 (bv x) (15 : Int) = bv x % (16 : Int) := by
  have := and15_all ⟨x.toNat, x.isLt⟩
  unfold bv
  simpa using this
attribute [local go_sem] and15
end Go.Proofs.YtfhhlkbcoofemaaDoor
