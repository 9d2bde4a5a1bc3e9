/- What Show hands back: the text of a hash; and the text of the sum of 'abc'. -/
import Derived.Test.YtiebjpdjcgefhaaDoorWg
namespace Go.Proofs.YtiebjpdjcgefhaaDoor
open Go.RowKit
theorem Tryd.under5 : Tryd.prog.underlying 5 = some (.int .u8) := by kernel_rfl
theorem Tryd.under9 : Tryd.prog.underlying 9 = some .string := by kernel_rfl
def SZ : List (BitVec 8) := List.replicate 64 0
theorem Tryd.make64 (w : World) : (Instr.makeSlice 22 (.int .i64 0) (.int .i64 64)).run Tryd.prog w = .ok (.slice (some ⟨w.heap.size, 0, none⟩) 0 64) (w.alloc (.cells (SZ.map V).toArray 5)) := by kernel_rfl
/-- The digit of a number below 16. -/
def dgt (x : Nat) : BitVec 8 := if x < 10 then BitVec.ofNat 8 (48 + x) else BitVec.ofNat 8 (87 + x)
def txt (hs : List (BitVec 8)) : Nat → List (BitVec 8)
  | 0 => SZ
  | k + 1 => ((txt hs k).set (2 * k) (dgt ((hs.getD k 0).toNat / 16))).set (2 * k + 1) (dgt ((hs.getD k 0).toNat % 16))
theorem txt_len (hs : List (BitVec 8)) (k : Nat) : (txt hs k).length = 64 := by
  induction k with
  | zero => rfl
  | succ k ih => simp [txt, ih]
theorem Tryd.isAgg5 (w : World) : (isAgg 5).run Tryd.prog w = .ok false w := by kernel_rfl
theorem run_index_arr {P : Program} (w : World) (t e : TypeId) (n : Nat) (cs : Array Value) (k : IntKind) (i : Nat) (v : Value) (h : P.underlying t = some (.array n e)) (hi : i < n) (hz : (sizeOf e).run P w = .ok 1 w) (ha : (isAgg e).run P w = .ok false w) (hv : cs[i]? = some v) :
    (Instr.index t (.agg cs) (.int k (i : Int))).run P w = .ok v w := by
  have hc : (0 ≤ (i : Int) ∧ (i : Int) < (n : Int)) := by omega
  simp [Instr.index, asIntOf, Sem.run_bind, run_underlying h w, hc, hz, part, ha, hv, Result.andThen]
  intro h2; omega
theorem Tryd.idx24 (hs : List (BitVec 8)) (hl : hs.length = 32) (k : Nat) (h : k < 32) (w : World) : (Instr.index 24 (.agg (hs.map V).toArray) (.int .i64 (k : Int))).run Tryd.prog w = .ok (.int .u8 (bv (hs.getD k 0))) w :=
  run_index_arr w 24 5 32 _ .i64 k _ Tryd.under24 h (Tryd.sizeOf5 w) (Tryd.isAgg5 w) (by
    have hk : k < hs.length := by omega
    simp [V, hk])
theorem and15_all : ∀ x : Fin 256, bits .and .u8 ((x.val : Nat) : Int) 15 = ((x.val % 16 : Nat) : Int) := by decide +kernel
theorem and15 (x : BitVec 8) : bits .and .u8 (bv x) (15 : Int) = bv x % (16 : Int) := by
  have := and15_all ⟨x.toNat, x.isLt⟩
  unfold bv
  simpa using this
theorem digs_all : ∀ n : Fin 16, (((ByteArray.mk #[48, 49, 50, 51, 52, 53, 54, 55, 56, 57, 97, 98, 99, 100, 101, 102])[n.val]'n.isLt).toNat : Int) = bv (dgt n.val) := by decide +kernel
theorem digs (i : Int) (n : Nat) (hn : i.toNat = n) (h16 : n < 16) (h : i.toNat < (ByteArray.mk #[48, 49, 50, 51, 52, 53, 54, 55, 56, 57, 97, 98, 99, 100, 101, 102]).size) : (((ByteArray.mk #[48, 49, 50, 51, 52, 53, 54, 55, 56, 57, 97, 98, 99, 100, 101, 102])[i.toNat]'h).toNat : Int) = bv (dgt n) := by
  subst hn
  exact digs_all ⟨_, h16⟩
theorem dig_hi (x : BitVec 8) (h : (bv x / (16 : Int)).toNat < (ByteArray.mk #[48, 49, 50, 51, 52, 53, 54, 55, 56, 57, 97, 98, 99, 100, 101, 102]).size) : (((ByteArray.mk #[48, 49, 50, 51, 52, 53, 54, 55, 56, 57, 97, 98, 99, 100, 101, 102])[(bv x / (16 : Int)).toNat]'h).toNat : Int) = bv (dgt (x.toNat / 16)) :=
  digs _ _ (by unfold bv; omega) (by have := x.isLt; omega) h
theorem dig_lo (x : BitVec 8) (h : (bv x % (16 : Int)).toNat < (ByteArray.mk #[48, 49, 50, 51, 52, 53, 54, 55, 56, 57, 97, 98, 99, 100, 101, 102]).size) : (((ByteArray.mk #[48, 49, 50, 51, 52, 53, 54, 55, 56, 57, 97, 98, 99, 100, 101, 102])[(bv x % (16 : Int)).toNat]'h).toNat : Int) = bv (dgt (x.toNat % 16)) :=
  digs _ _ (by unfold bv; omega) (by omega) h
attribute [local go_sem] and15
set_option maxHeartbeats 400000 in
theorem show_any (hs : List (BitVec 8)) (w : World) (hl : hs.length = 32) :
    Calls Tryd.prog 20 #[.agg (hs.map V).toArray] w fun e w' => e = .returned (.string (strOfNums ((txt hs 32).map bv))) ∧ Below w.heap.size w w' := by
  have hmk := Tryd.make64
  go_enter Tryd.func20, Tryd.ntmps20
  go_upto_region 2 with fail
  clear hmk
  refine code_any (fun w1 => HasV w1 (w.heap.size + 1) 5 SZ ∧ HasV w1 w.heap.size 24 hs ∧ Below w.heap.size w w1) ?_ ?_
  · exact ⟨heap_alloc2_new _ _ _, heap_alloc2_old _ _ _, ((Below.refl _ _).alloc (Nat.le_refl _) _).alloc (by simp) _⟩
  rintro w1 ⟨hv1, hh1, hb1⟩
  have hh' : w1.heap[w.heap.size]? = some (.cells (hs.map V).toArray 24 (0, 0)) := hh1
  have hl' : Box ((hs.map V).toArray.size = 32) := ⟨by simp [hl]⟩
  clear hh1
  go_wp2_with (refine wpList_load_row rfl 24 (.tmp 1) rfl w.heap.size rfl 24 _ (0, 0) _ hh' Tryd.under24 rfl (by rw [hl'.out]; exact Tryd.size24) ?_)
  try go_frame
  clear hh'
  go_loopw [3, 8] (fun t i wr => ∃ k : Nat, k ≤ 32 ∧ i = .int .i64 k ∧ t = .slice (some ⟨w.heap.size + 1, 0, none⟩) (2 * k) 64 ∧ HasV wr (w.heap.size + 1) 5 (txt hs k) ∧ Below w.heap.size w wr) (fun _ i _ => 32 - (intOf i).toNat)
  case atStart => exact ⟨0, by omega, rfl, rfl, hv1, hb1⟩
  case round =>
    clear hv1 hb1
    obtain ⟨k, hk, rfl, rfl, hv, hb⟩ := hrel
    by_cases hlt : k < 32
    · have hidx := Tryd.idx24 hs hl k hlt
      have HR : Box (HasV _ _ 5 (txt hs (k + 1))) := ⟨((hv.set (2 * k) (dgt ((hs.getD k 0).toNat / 16))).set (2 * k + 1) (dgt ((hs.getD k 0).toNat % 16)))⟩
      have hvl := hv.lt
      have c0 := hv.cell (2 * k) (by rw [txt_len]; omega)
      have c1 := hv.cell (2 * k + 1) (by rw [txt_len]; omega)
      have f0 := hv.frozen (2 * k)
      have f1 := hv.frozen (2 * k + 1)
      generalize (txt hs k).getD (2 * k) 0 = y0 at c0
      generalize (txt hs k).getD (2 * k + 1) 0 = y1 at c1
      generalize hs.getD k 0 = x at hidx HR
      have hx := bv_range x
      have q1 : 0 ≤ bv x / 16 := by omega
      have q2 : bv x / 16 < 16 := by omega
      have q3 : 0 ≤ bv x % 16 := by omega
      have q4 : bv x % 16 < 16 := by omega
      clear hx
      clear hv
      go_wp2
      go_region
      go_wp2
      go_roundw
      case rel =>
        simp only [dig_hi, dig_lo]
        refine ⟨k + 1, by omega, by go_num, (by rw [show 2 * (k + 1) = 2 * k + 2 by omega]), ?_, ?_⟩
        · exact (HR.out.alloc _).drew
        · exact (((hb.setCell (by simp) _).setCell (by simp) _).alloc (by have := hb.size; simp [World.setCell]; omega) _).drew
      case measure => simp [intOf]; omega
    · have hk32 : Box (k = 32) := ⟨by omega⟩
      have hcv := run_convert_bytes_arg (P := Tryd.prog) wr 22 5 Tryd.under22 Tryd.under5 (w.heap.size + 1) 0 (2 * k) 64 ((txt hs k).map bv) (by rw [List.length_map, txt_len]; omega) (fun i hi => by
        rw [Nat.zero_add, hv.cell i (by rw [txt_len]; omega)]
        have : i < (txt hs k).length := by rw [txt_len]; omega
        simp [this]) 9 Tryd.under9
      clear hv
      go_wp2
      go_ret
      have e := hk32.out
      subst e
      exact ⟨rfl, hb⟩
theorem abc_text : strOfNums ((txt (shaOf [97, 98, 99]) 32).map bv) = ⟨#[98, 97, 55, 56, 49, 54, 98, 102, 56, 102, 48, 49, 99, 102, 101, 97, 52, 49, 52, 49, 52, 48, 100, 101, 53, 100, 97, 101, 50, 50, 50, 51, 98, 48, 48, 51, 54, 49, 97, 51, 57, 54, 49, 55, 55, 97, 57, 99, 98, 52, 49, 48, 102, 102, 54, 49, 102, 50, 48, 48, 49, 53, 97, 100]⟩ := by
  decide +kernel
end Go.Proofs.YtiebjpdjcgefhaaDoor
