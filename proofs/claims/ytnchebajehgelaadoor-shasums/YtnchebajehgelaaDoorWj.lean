/- What Cmp answers: the order of the bytes of two hashes. -/
import Derived.Test.YtnchebajehgelaaDoorWi
import Derived.Lib.BytesEntry
namespace Go.Proofs.YtnchebajehgelaaDoor
open Go.RowKit
/-- The order of bytes, of lists of one length. -/
def cmpB : List (BitVec 8) → List (BitVec 8) → Int
  | a :: xs, b :: ys => if bv a < bv b then -1 else if bv b < bv a then 1 else cmpB xs ys
  | _, _ => 0
theorem u8_of (x : BitVec 8) : (UInt8.ofNat (bv x).toNat).toNat = x.toNat := by
  unfold bv
  have := x.isLt
  simp
theorem cmp_bytes : ∀ (xs ys : List (BitVec 8)), xs.length = ys.length → Lib.compareBytes (Lib.bytesOf (xs.map bv)) (Lib.bytesOf (ys.map bv)) = cmpB xs ys
  | [], [], _ => rfl
  | a :: xs, b :: ys, h => by
    have ih := cmp_bytes xs ys (by simpa using h)
    simp only [Lib.bytesOf, List.map_cons, Lib.compareBytes, cmpB] at ih ⊢
    rw [ih]
    simp only [UInt8.lt_iff_toNat_lt, u8_of]
    unfold bv
    simp only [Int.ofNat_lt]
theorem cmp_neg : ∀ (xs ys : List (BitVec 8)), cmpB ys xs = - cmpB xs ys
  | [], [] => rfl
  | [], _ :: _ => rfl
  | _ :: _, [] => rfl
  | a :: xs, b :: ys => by
    have ih := cmp_neg xs ys
    simp only [cmpB]
    split
    · rw [if_neg (by omega)]
    · split
      · rfl
      · exact ih
theorem cmp_range : ∀ (xs ys : List (BitVec 8)), -1 ≤ cmpB xs ys ∧ cmpB xs ys ≤ 1
  | [], [] => by simp [cmpB]
  | [], _ :: _ => by simp [cmpB]
  | _ :: _, [] => by simp [cmpB]
  | a :: xs, b :: ys => by
    have ih := cmp_range xs ys
    simp only [cmpB]
    split
    · omega
    · split <;> omega
theorem run_bytes {P : Program} (w : World) (b n c : Nat) (xs : List (BitVec 8)) (hn : xs.length = n) (h : HasB w b 0 xs) : (Extern.Bytes.bytesOf (.slice (some ⟨b, 0, none⟩) n c)).run P w = .ok ⟨(Lib.bytesOf (xs.map bv)).toArray⟩ w := by
  have hl := Lib.run_loadBytesX (P := P) w (xs.map bv) ⟨b, 0, none⟩ .empty (fun j x hj => by
    have hjl : j < xs.length := by have := (List.getElem?_eq_some_iff.1 hj).1; simpa using this
    have e : (⟨b, 0, none⟩ : Addr).add j = ⟨b, 0 + j, none⟩ := by unfold Addr.add; split <;> simp_all
    rw [e, h j hjl]
    simp [hjl] at hj
    simp [hjl, hj])
  rw [List.length_map, hn] at hl
  have he : (⟨ByteArray.empty.data ++ (Lib.bytesOf (xs.map bv)).toArray⟩ : ByteArray) = ⟨(Lib.bytesOf (xs.map bv)).toArray⟩ := by
    apply ByteArray.ext
    show (#[] : Array UInt8) ++ (Lib.bytesOf (xs.map bv)).toArray = (Lib.bytesOf (xs.map bv)).toArray
    simp
  rw [he] at hl
  exact hl
theorem run_compareSlices {P : Program} (w : World) (b1 b2 n : Nat) (xs ys : List (BitVec 8)) (h1 : xs.length = n) (h2 : ys.length = n) (ha : HasB w b1 0 xs) (hb : HasB w b2 0 ys) :
    (Extern.BytealgCompare.compare #[.slice (some ⟨b1, 0, none⟩) n n, .slice (some ⟨b2, 0, none⟩) n n]).run P w = .ok (.int .i64 (cmpB xs ys)) w := by
  change Sem.run P (do pure (goInt (Extern.BytealgCompare.cmp (← Extern.Bytes.bytesOf (.slice (some ⟨b1, 0, none⟩) n n)) (← Extern.Bytes.bytesOf (.slice (some ⟨b2, 0, none⟩) n n))))) w = _
  simp only [Sem.run_bind, Sem.run_pure, run_bytes w b1 n n xs h1 ha, run_bytes w b2 n n ys h2 hb, Result.andThen]
  rw [Lib.cmp_eq]
  show Result.ok (goInt (Lib.compareBytes (Lib.bytesOf (xs.map bv)) (Lib.bytesOf (ys.map bv)))) w = _
  rw [cmp_bytes xs ys (by omega)]
  rfl
set_option maxHeartbeats 400000 in
theorem compare_any (b1 b2 : Nat) (xs ys : List (BitVec 8)) (w : World) (h1 : xs.length = 32) (h2 : ys.length = 32) (ha : HasB w b1 0 xs) (hb : HasB w b2 0 ys) :
    Calls Tryd.prog 28 #[.slice (some ⟨b1, 0, none⟩) 32 32, .slice (some ⟨b2, 0, none⟩) 32 32] w fun e w' => e = .returned (.int .i64 (cmpB xs ys)) ∧ w' = w := by
  have hrun : (callFunc 34 #[.slice (some ⟨b1, 0, none⟩) 32 32, .slice (some ⟨b2, 0, none⟩) 32 32]).run Tryd.prog w = .ok (.value (.int .i64 (cmpB xs ys))) w := by
    rw [run_callFunc_extern Tryd.func34 (by kernel_rfl) (by kernel_rfl) (by kernel_rfl) (e := Extern.BytealgCompare.compare) (by kernel_rfl), run_compareSlices w b1 b2 32 xs ys h1 h2 ha hb]
    rfl
  clear ha hb
  go_enter Tryd.func28, Tryd.ntmps28
  go_wp2
  go_ret
  exact ⟨rfl, rfl⟩
set_option maxHeartbeats 400000 in
theorem cmp_any (xs ys : List (BitVec 8)) (w : World) (h1 : xs.length = 32) (h2 : ys.length = 32) :
    Calls Tryd.prog 20 #[.agg (xs.map V).toArray, .agg (ys.map V).toArray] w fun e w' => e = .returned (.int .i64 (cmpB xs ys)) ∧ Below w.heap.size w w' := by
  go_enter Tryd.func20, Tryd.ntmps20
  go_upto_region 1 with fail
  refine code_any (fun w1 => HasV w1 w.heap.size 25 xs ∧ HasV w1 (w.heap.size + 1) 25 ys ∧ Below w.heap.size w w1) ?_ ?_
  · exact ⟨heap_alloc2_old _ _ _, heap_alloc2_new _ _ _, ((Below.refl _ _).alloc (Nat.le_refl _) _).alloc (by simp) _⟩
  rintro w1 ⟨hv1, hv2, hb1⟩
  go_quiet ((go_at_call 28; exact Calls.quiet_of_same (compare_any _ _ xs ys _ h1 h2 (by exact hv1.bytes) (by exact hv2.bytes))))
  go_wp2
  go_ret
  exact ⟨rfl, ⟨hb1.os, hb1.tape, hb1.output, hb1.size, hb1.block⟩⟩
end Go.Proofs.YtnchebajehgelaaDoor
