/- Plain: numbers in limbs as the reference reckons them, step by step, on words of 64 bits; arrays of such words in memory. -/
import Derived.Test.YtnchebajehgelaaDoorPn
namespace Go.Proofs.YtnchebajehgelaaDoor
open Go.RowKit
/-- A word's number. -/
def wl (x : BitVec 64) : Int := (x.toNat : Int)
theorem wl_range (x : BitVec 64) : 0 ≤ wl x := by unfold wl; omega
theorem wl_addw (x y : BitVec 64) : IntKind.u64.wrap (wl x + wl y) = wl (x + y) := by
  rw [IntKind.wrap_u64]; unfold wl; rw [BitVec.toNat_add]; omega
theorem wl_mulw (x y : BitVec 64) : IntKind.u64.wrap (wl x * wl y) = wl (x * y) := by
  rw [IntKind.wrap_u64]; unfold wl; rw [BitVec.toNat_mul]
  rw [← Int.natCast_mul]
  omega
theorem wl_add (x y : BitVec 64) : (wl x + wl y) % (18446744073709551616 : Int) = wl (x + y) := by
  rw [← IntKind.wrap_u64, wl_addw]
theorem wl_mul (x y : BitVec 64) : (wl x * wl y) % (18446744073709551616 : Int) = wl (x * y) := by
  rw [← IntKind.wrap_u64, wl_mulw]
theorem wl_id (x : BitVec 64) : IntKind.u64.wrap (wl x) = wl x := by
  rw [IntKind.wrap_u64]; unfold wl; have := x.isLt; omega
def q16 (x : BitVec 64) : BitVec 64 := x >>> 16
def r16 (x : BitVec 64) : BitVec 64 := BitVec.ofNat 64 (x.toNat % 65536)
theorem wl_q16 (x : BitVec 64) : wl x / (65536 : Int) = wl (q16 x) := by
  unfold wl q16; rw [BitVec.toNat_ushiftRight, Nat.shiftRight_eq_div_pow]; omega
theorem wl_r16 (x : BitVec 64) : wl x % (65536 : Int) = wl (r16 x) := by
  unfold wl r16; rw [BitVec.toNat_ofNat]; omega
theorem wl_q16t (x : BitVec 64) : (wl x).tdiv (65536 : Int) = wl (q16 x) := by
  rw [Int.tdiv_eq_ediv_of_nonneg (wl_range x), wl_q16]
theorem wl_r16t (x : BitVec 64) : (wl x).tmod (65536 : Int) = wl (r16 x) := by
  rw [Int.tmod_eq_emod_of_nonneg (wl_range x), wl_r16]
/-- A word in a cell. -/
def N64 (x : BitVec 64) : Value := .int .u64 (wl x)
def HasN (w : World) (b : Nat) (T : TypeId) (xs : List (BitVec 64)) : Prop := w.heap[b]? = some (.cells (xs.map N64).toArray T (0, 0))
theorem HasN.cell {w : World} {b : Nat} {T : TypeId} {xs : List (BitVec 64)} (h : HasN w b T xs) (i : Nat) (hi : i < xs.length) : w.cell? ⟨b, i, none⟩ = some (.int .u64 (wl (xs.getD i 0))) := by
  unfold HasN at h
  simp [World.cell?, h, hi, N64]
theorem HasN.frozen {w : World} {b : Nat} {T : TypeId} {xs : List (BitVec 64)} (h : HasN w b T xs) (i : Nat) : w.frozen? ⟨b, i, none⟩ = false := by
  unfold HasN at h
  simp [World.frozen?, h]
theorem HasN.set {w : World} {b : Nat} {T : TypeId} {xs : List (BitVec 64)} (h : HasN w b T xs) (i : Nat) (x : BitVec 64) : HasN (w.setCell ⟨b, i, none⟩ (.int .u64 (wl x))) b T (xs.set i x) := by
  unfold HasN at *
  simp [World.setCell, Array.getElem?_modify, h, N64, List.map_set]
theorem HasN.below {w w' : World} {B b : Nat} {T : TypeId} {xs : List (BitVec 64)} (h : HasN w b T xs) (hb : Below B w w') (hB : b < B) : HasN w' b T xs := by
  unfold HasN at *
  rw [hb.block b hB]; exact h
theorem HasN.drew {w : World} {b : Nat} {T : TypeId} {xs : List (BitVec 64)} (h : HasN w b T xs) : HasN w.drew b T xs := h
theorem HasN.other {w : World} {b : Nat} {T : TypeId} {xs : List (BitVec 64)} (h : HasN w b T xs) (a : Addr) (v : Value) (hne : b ≠ a.block) : HasN (w.setCell a v) b T xs := by
  unfold HasN at *
  rw [heap_setCell_other _ _ _ _ hne]; exact h
theorem HasN.lt {w : World} {b : Nat} {T : TypeId} {xs : List (BitVec 64)} (h : HasN w b T xs) : b < w.heap.size := (Array.getElem?_eq_some_iff.1 h).1
theorem N64_all (xs : List (BitVec 64)) : ((xs.map N64).toArray).all (·.oneCell') = true := by
  simp [N64, Value.oneCell']
def Z16 : List (BitVec 64) := List.replicate 16 0
/-- The limbs of a number: the first k, and what is left. -/
def ofR (x : BitVec 64) : Nat → BitVec 64
  | 0 => x
  | k + 1 => q16 (ofR x k)
def ofL (x : BitVec 64) : Nat → List (BitVec 64)
  | 0 => Z16
  | k + 1 => (ofL x k).set k (r16 (ofR x k))
theorem ofL_len (x : BitVec 64) (k : Nat) : (ofL x k).length = 16 := by
  induction k with
  | zero => rfl
  | succ k ih => simp [ofL, ih]
/-- The products of limb i, the first k. -/
def mulS (l a b : List (BitVec 64)) (i : Nat) : Nat → List (BitVec 64)
  | 0 => l
  | k + 1 => (mulS l a b i k).set (i + k) ((mulS l a b i k).getD (i + k) 0 + a.getD i 0 * b.getD k 0)
/-- One carry. -/
def cst (l : List (BitVec 64)) (k : Nat) : List (BitVec 64) :=
  let l1 := l.set (k + 1) (l.getD (k + 1) 0 + q16 (l.getD k 0))
  l1.set k (r16 (l1.getD k 0))
def car (l : List (BitVec 64)) : Nat → List (BitVec 64)
  | 0 => l
  | k + 1 => cst (car l k) k
/-- The product, the first i limbs. -/
def mulL (a b : List (BitVec 64)) : Nat → List (BitVec 64)
  | 0 => Z16
  | i + 1 => car (mulS (mulL a b i) a b i (16 - i)) 15
theorem mulS_len (l a b : List (BitVec 64)) (i k : Nat) : (mulS l a b i k).length = l.length := by
  induction k with
  | zero => rfl
  | succ k ih => simp [mulS, ih]
theorem cst_len (l : List (BitVec 64)) (k : Nat) : (cst l k).length = l.length := by simp [cst]
theorem car_len (l : List (BitVec 64)) (k : Nat) : (car l k).length = l.length := by
  induction k with
  | zero => rfl
  | succ k ih => simp [car, cst_len, ih]
theorem mulL_len (a b : List (BitVec 64)) (i : Nat) : (mulL a b i).length = 16 := by
  induction i with
  | zero => rfl
  | succ i ih => simp [mulL, car_len, mulS_len, ih]
theorem cst_eq (l : List (BitVec 64)) (k : Nat) : cst l k = (l.set (k + 1) (l.getD (k + 1) 0 + q16 (l.getD k 0))).set k (r16 (l.getD k 0)) := by
  unfold cst
  simp only
  congr 2
  rw [List.getD_eq_getElem?_getD, List.getElem?_set_ne (by omega), ← List.getD_eq_getElem?_getD]
/-- Is a above b, by the lowest k limbs? -/
def abv (a b : List (BitVec 64)) : Nat → Bool
  | 0 => false
  | k + 1 => if wl (a.getD k 0) = wl (b.getD k 0) then abv a b k else decide (wl (b.getD k 0) < wl (a.getD k 0))
/-- A prime times 2^(32 i), in limbs. -/
def goalL (p : BitVec 64) : Nat → List (BitVec 64)
  | 0 => ofL p 4
  | i + 1 => mulL (goalL p i) (ofL 4294967296 4) 16
/-- The power i of x, in limbs. -/
def powL (x : BitVec 64) : Nat → List (BitVec 64)
  | 0 => ofL 1 4
  | i + 1 => mulL (powL x i) (ofL x 4) 16
theorem goalL_len (p : BitVec 64) (i : Nat) : (goalL p i).length = 16 := by
  cases i with
  | zero => exact ofL_len _ _
  | succ i => exact mulL_len _ _ _
theorem powL_len (p : BitVec 64) (i : Nat) : (powL p i).length = 16 := by
  cases i with
  | zero => exact ofL_len _ _
  | succ i => exact mulL_len _ _ _
/-- The bit that is tried in round j. -/
def bitL (j : Nat) : BitVec 64 := (1099511627776 : BitVec 64) >>> j
/-- The root behind j rounds. -/
def rtL (p : BitVec 64) (n : Nat) : Nat → BitVec 64
  | 0 => 0
  | j + 1 => if abv (powL (rtL p n j + bitL j) n) (goalL p n) 16 then rtL p n j else rtL p n j + bitL j
theorem wl_half (x : BitVec 64) : wl x / (2 : Int) = wl (x >>> 1) := by
  unfold wl; rw [BitVec.toNat_ushiftRight, Nat.shiftRight_eq_div_pow]; omega
theorem wl_halft (x : BitVec 64) : (wl x).tdiv (2 : Int) = wl (x >>> 1) := by
  rw [Int.tdiv_eq_ediv_of_nonneg (wl_range x), wl_half]
theorem bitL_next (j : Nat) : bitL j >>> 1 = bitL (j + 1) := by
  unfold bitL; rw [BitVec.shiftRight_add]
theorem bitL_pos : ∀ j : Fin 41, 0 < wl (bitL j.val) := by decide +kernel
theorem bitL_end : wl (bitL 41) = 0 := by decide +kernel
def low32 (x : BitVec 64) : BitVec 32 := BitVec.ofNat 32 (x.toNat % 4294967296)
theorem wl_low (x : BitVec 64) : wl x % (4294967296 : Int) = vl (low32 x) := by
  unfold wl low32 vl; rw [BitVec.toNat_ofNat]; omega
theorem wl_lowt (x : BitVec 64) : (wl x).tmod (4294967296 : Int) = vl (low32 x) := by
  rw [Int.tmod_eq_emod_of_nonneg (wl_range x), wl_low]
theorem vl_id (x : BitVec 32) : IntKind.u32.wrap (vl x) = vl x := by
  rw [IntKind.wrap_u32']; have := vl_range x; omega
theorem vl_id64 (x : BitVec 32) : IntKind.u64.wrap (vl x) = vl x := by
  rw [IntKind.wrap_u64]; have := vl_range x; omega
theorem vl_idm (x : BitVec 32) : vl x % (4294967296 : Int) = vl x := by
  have := vl_range x; omega
theorem wl_lit32 : (4294967296 : Int) = wl 4294967296 := by decide +kernel
theorem wl_lit1 : (1 : Int) = wl 1 := by decide +kernel
end Go.Proofs.YtnchebajehgelaaDoor
