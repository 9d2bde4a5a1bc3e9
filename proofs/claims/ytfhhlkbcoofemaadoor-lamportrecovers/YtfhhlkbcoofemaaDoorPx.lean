/- Steps of a drawn region over texts, bytes and bools. -/
import Derived.Test.YtfhhlkbcoofemaaDoorTf
import Derived.Laws.Concat
import Derived.Laws.Small
namespace Go.Proofs.YtfhhlkbcoofemaaDoor
open Go.RowKit
/-- The text of bytes. -/
def str (xs : List (BitVec 8)) : ByteArray := strOfNums (xs.map bv)
theorem byte_inj {x y : BitVec 8} (h : UInt8.ofNat (bv x).toNat = UInt8.ofNat (bv y).toNat) : x = y := by
  have := congrArg UInt8.toNat h
  simp only [bv, Int.toNat_natCast, UInt8.toNat_ofNat'] at this
  have h1 := x.isLt
  have h2 := y.isLt
  apply BitVec.eq_of_toNat_eq
  omega
theorem str_inj {xs ys : List (BitVec 8)} (h : str xs = str ys) : xs = ys := by
  have h2 : (str xs).data.toList = (str ys).data.toList := by rw [h]
  unfold str at h2
  rw [strOfNums_data, strOfNums_data, List.map_map, List.map_map] at h2
  induction xs generalizing ys with
  | nil => cases ys with
    | nil => rfl
    | cons y ys => simp at h2
  | cons x xs ih => cases ys with
    | nil => simp at h2
    | cons y ys =>
      simp only [List.map_cons, List.cons.injEq, Function.comp] at h2
      have e := byte_inj h2.1
      have hr : xs = ys := by
        refine ih (ys := ys) ?_ h2.2
        unfold str
        have : (strOfNums (xs.map bv)).data = (strOfNums (ys.map bv)).data := Array.toList_inj.1 (by rw [strOfNums_data, strOfNums_data, List.map_map, List.map_map]; exact h2.2)
        exact ByteArray.ext this
      rw [e, hr]
theorem str_append (xs ys : List (BitVec 8)) : str (xs ++ ys) = str xs ++ str ys := by
  apply ByteArray.ext
  apply Array.toList_inj.1
  simp [str, strOfNums]
theorem str_beq (s t : ByteArray) : (s.toList == t.toList) = decide (s = t) := by
  rw [ByteArray.toList_eq, ByteArray.toList_eq]
  by_cases h : s = t
  · subst h; simp
  · have : s.data ≠ t.data := fun e => h (ByteArray.ext e)
    simp [h, this]
theorem bv_eq (s t : BitVec 8) : (bv s == bv t) = decide (s = t) := by
  by_cases h : s = t
  · subst h; simp
  · have : bv s ≠ bv t := fun e => h (BitVec.eq_of_toNat_eq (by unfold bv at e; omega))
    simp [h, this]
theorem Tryd.under4 : Tryd.prog.underlying 4 = some .bool := by kernel_rfl
section
variable {Q : Exit → Act → World → Prop} {o : Oper} {a : Act} {w : World} {q : Fk}
theorem st_str (x : Operand) (ho : o.op = .convert 47 9 x) {bs : List (BitVec 8)} (hne : 0 < bs.length) (h : (Fk.sl bs).f (a.eval x) w) : o.wp Tryd.prog a w (Ends a o.dst w (Fk.eq (.string (str bs))).f) Q := by
  obtain ⟨sp, m, c, b, so, e, hs⟩ := h
  refine st_pure (v := .string (str bs)) ?_ rfl
  have hl := hs.len
  obtain ⟨rfl, _, hB⟩ := hs.src (by omega)
  have := run_convert_bytes_arg (P := Tryd.prog) w 47 5 Tryd.under47 Tryd.under5 b so m c (bs.map bv) (by simp [hl]) (fun i hi => by
    rw [hB i (by omega)]
    have : i < bs.length := by omega
    simp [this]) 9 Tryd.under9
  unfold execOp
  rw [ho]
  simp [e, this, str]
theorem st_eqs (x y : Operand) (ho : o.op = .binOp .eql 9 x y 9) (s t : ByteArray) (hx : a.eval x = .string s) (hy : a.eval y = .string t) (b : Bool) (hb : b = decide (s = t)) : o.wp Tryd.prog a w (Ends a o.dst w (Fk.eq (.bool b)).f) Q := by
  refine st_pure (v := .bool b) ?_ rfl
  unfold execOp
  rw [ho]
  subst hb
  simp [hx, hy, eqGuard, binOp, Op.stringOp, str_beq]
theorem st_adds (x y : Operand) (ho : o.op = .binOp .add 9 x y 9) (s t : ByteArray) (hx : a.eval x = .string s) (hy : a.eval y = .string t) (hle : s.size + t.size ≤ 1000000) : o.wp Tryd.prog a w (Ends a o.dst w (Fk.eq (.string (s ++ t))).f) Q := by
  refine st_pure (v := .string (s ++ t)) ?_ rfl
  unfold execOp
  rw [ho]
  have h2 := run_string_add_sum (P := Tryd.prog) (w := w) s t (by omega)
  simp [hx, hy, eqGuard, binOp, h2]
theorem st_conv8 (x : Operand) (ho : o.op = .convert 3 5 x) (z : Int) (hx : a.eval x = .int .i64 z) : o.wp Tryd.prog a w (Ends a o.dst w (Fk.eq (.int .u8 (bv (kb z)))).f) Q := by
  refine st_pure (v := .int .u8 (bv (kb z))) ?_ rfl
  unfold execOp
  rw [ho]
  simp [hx, convert, Conv.intToInt, IntKind.wrap_u8, ← kb_v]
theorem st_eq8 (x y : Operand) (ho : o.op = .binOp .eql 5 x y 5) (s t : BitVec 8) (hx : a.eval x = .int .u8 (bv s)) (hy : a.eval y = .int .u8 (bv t)) : o.wp Tryd.prog a w (Ends a o.dst w (Fk.eq (.bool (decide (s = t)))).f) Q := by
  refine st_pure (v := .bool (decide (s = t))) ?_ rfl
  unfold execOp
  rw [ho]
  simp [hx, hy, eqGuard, binOp, Op.intCmp, bv_eq]
theorem st_eqb (x y : Operand) (ho : o.op = .binOp .eql 4 x y 4) (s : Bool) (hx : a.eval x = .bool s) (hy : a.eval y = .bool s) : o.wp Tryd.prog a w (Ends a o.dst w (Fk.eq (.bool true)).f) Q := by
  refine st_pure (v := .bool true) ?_ rfl
  unfold execOp
  rw [ho]
  have h2 := run_equal_bool (P := Tryd.prog) w 4 s s Tryd.under4
  simp [hx, hy, eqGuard, binOp, h2]
end
end Go.Proofs.YtfhhlkbcoofemaaDoor
