/- Numbers as bytes, the highest first. No program is spoken of. -/
import Derived.Test.YtkgfcddjjghohaaPn
import Derived.Laws.BitsAllLaws
namespace Go.Proofs.Ytkgfcddjjghohaa
open Go.RowKit
/-- The number that bytes are. -/
def num (bs : List (BitVec 8)) : Nat := bs.foldl (fun a x => a * 256 + x.toNat) 0
theorem num_nil : num [] = 0 := rfl
theorem num_snoc (xs : List (BitVec 8)) (x : BitVec 8) : num (xs ++ [x]) = num xs * 256 + x.toNat := by
  unfold num; rw [List.foldl_append]; rfl
theorem num_foldl (bs : List (BitVec 8)) : ∀ a, bs.foldl (fun a x => a * 256 + x.toNat) a = a * 256 ^ bs.length + num bs := by
  induction bs with
  | nil => intro a; simp [num]
  | cons x r ih =>
    intro a
    unfold num
    rw [List.foldl_cons, List.foldl_cons, ih, ih, List.length_cons, Nat.pow_succ]
    rw [Nat.add_mul, Nat.mul_assoc, Nat.mul_comm 256, Nat.add_mul, Nat.zero_mul]
    omega
theorem num_append (xs ys : List (BitVec 8)) : num (xs ++ ys) = num xs * 256 ^ ys.length + num ys := by
  unfold num; rw [List.foldl_append, num_foldl]; rfl
theorem num_lt (bs : List (BitVec 8)) : num bs < 256 ^ bs.length := by
  induction bs with
  | nil => simp [num]
  | cons x r ih =>
    have := num_append [x] r
    rw [List.singleton_append] at this
    rw [this, List.length_cons, Nat.pow_succ]
    have hx : num [x] = x.toNat := by simp [num]
    have := x.isLt
    have h2 : num [x] ≤ 255 := by omega
    have h3 : num [x] * 256 ^ r.length ≤ 255 * 256 ^ r.length := Nat.mul_le_mul_right _ h2
    omega
theorem num_take (bs : List (BitVec 8)) (k : Nat) (h : k < bs.length) : num (bs.take (k + 1)) = num (bs.take k) * 256 + (bs.getD k 0).toNat := by
  rw [List.take_add_one, List.getElem?_eq_getElem h]
  simp only [Option.toList_some]
  rw [num_snoc]
  simp [h]
theorem num_take_lt (bs : List (BitVec 8)) (k n : Nat) (h : k ≤ n) : num (bs.take k) < 256 ^ n :=
  Nat.lt_of_lt_of_le (num_lt _) (Nat.pow_le_pow_right (by omega) (by rw [List.length_take]; omega))
theorem or256 (a b : Nat) (h : b < 256) : (a * 256) ||| b = a * 256 + b := by
  have := Nat.two_pow_add_eq_or_of_lt (i := 8) h a
  rw [Nat.mul_comm a 256]; exact this.symm
/-- One more byte, as an unsigned number. -/
theorem u64_push (a : Nat) (x : BitVec 8) (h : a < 72057594037927936) : bits .or .u64 ((a : Int) * 256 % (18446744073709551616 : Int)) (bv x) = ((a * 256 + x.toNat : Nat) : Int) := by
  have hx := x.isLt
  have e : ((a : Int) * 256 % (18446744073709551616 : Int)) = ((a * 256 : Nat) : Int) := by omega
  unfold bv
  rw [e, u64_or_nat _ _ (by omega) (by omega), or256 _ _ hx]
theorem u64_push' (a : Nat) (x : BitVec 8) (h : a < 72057594037927936) : bits .or .u64 ((a : Int) * 256) (bv x) = ((a * 256 + x.toNat : Nat) : Int) := by
  have e : ((a : Int) * 256 % (18446744073709551616 : Int)) = ((a * 256 : Nat) : Int) := by omega
  rw [← u64_push a x h, e]; rfl
theorem ofInt_wrap (z : Int) : BitVec.ofInt 64 (IntKind.i64.wrap z) = BitVec.ofInt 64 z := by
  apply BitVec.eq_of_toNat_eq
  rw [BitVec.toNat_ofInt, BitVec.toNat_ofInt, IntKind.wrap_i64]
  omega
/-- One more byte, as a signed number. -/
theorem i64_push (a : Nat) (x : BitVec 8) : bits .or .i64 (IntKind.i64.wrap (IntKind.i64.wrap (a : Int) * 256)) (bv x) = IntKind.i64.wrap ((a * 256 + x.toNat : Nat) : Int) := by
  have hx := x.isLt
  have e1 : IntKind.i64.wrap (IntKind.i64.wrap (a : Int) * 256) = IntKind.i64.wrap ((a * 256 : Nat) : Int) := by
    rw [IntKind.wrap_i64, IntKind.wrap_i64, IntKind.wrap_i64]; omega
  rw [e1]
  show IntKind.i64.wrap ((BitVec.ofInt 64 (IntKind.i64.wrap ((a * 256 : Nat) : Int)) ||| BitVec.ofInt 64 (bv x)).toNat : Int) = _
  rw [ofInt_wrap, BitVec.toNat_or]
  unfold bv
  have e2 : (BitVec.ofInt 64 ((a * 256 : Nat) : Int)).toNat = (a % 72057594037927936) * 256 := by rw [BitVec.toNat_ofInt]; omega
  have e3 : (BitVec.ofInt 64 ((x.toNat : Nat) : Int)).toNat = x.toNat := by rw [BitVec.toNat_ofInt]; omega
  rw [e2, e3, or256 _ _ hx, IntKind.wrap_i64, IntKind.wrap_i64]
  omega
end Go.Proofs.Ytkgfcddjjghohaa
