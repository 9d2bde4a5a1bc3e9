/- Arrays of two hashes. slices.Reverse and slices.Contains at bools: the contracts of the shelf, laid at this dump. The turns of package proof. -/
import Derived.Test.YtfmeeimhfdnjpaaDoorM2
import Derived.Test.YtfmeeimhfdnjpaaDoorM3
import Derived.Test.YtfmeeimhfdnjpaaDoorM5
import Derived.Ground.SlgnProg
import Derived.Shelf.SlicesE.Index
import Derived.Shelf.SlicesE.Reverse
import Derived.Lib.OwnBridge
namespace Go.Proofs.YtfmeeimhfdnjpaaDoor
set_option maxRecDepth 100000
open Go.RowKit
theorem Tryd.under76h : Tryd.prog.underlying 76 = some (.array 2 33) := by kernel_rfl
theorem Tryd.isAgg33h (w : World) : (isAgg 33).run Tryd.prog w = .ok true w := by kernel_rfl
theorem Tryd.size33h (w : World) : (sizeOf 33).run Tryd.prog w = .ok 32 w := by kernel_rfl
theorem part_left {p q : List (BitVec 8)} (hp : p.length = 32) (w : World) : (part 33 ((p ++ q).map V).toArray 0).run Tryd.prog w = .ok (.agg (p.map V).toArray) w := by
  unfold part
  simp only [Sem.run_bind, Tryd.isAgg33h, Tryd.size33h, Result.andThen_ok, if_true, Sem.run_pure, List.extract_toArray]
  show Result.ok (Value.agg (((List.map V (p ++ q)).drop 0).take 32).toArray) w = _
  rw [List.map_append, List.drop_zero, List.take_left' (by rw [List.length_map, hp])]
theorem part_right {p q : List (BitVec 8)} (hp : p.length = 32) (hq : q.length = 32) (w : World) : (part 33 ((p ++ q).map V).toArray 32).run Tryd.prog w = .ok (.agg (q.map V).toArray) w := by
  unfold part
  simp only [Sem.run_bind, Tryd.isAgg33h, Tryd.size33h, Result.andThen_ok, if_true, Sem.run_pure, List.extract_toArray]
  show Result.ok (Value.agg (((List.map V (p ++ q)).drop 32).take 32).toArray) w = _
  rw [List.map_append, List.drop_left' (by rw [List.length_map, hp]), List.take_of_length_le (by rw [List.length_map, hq]; decide)]
theorem run_equal33m (m : Nat) (w : World) (xs ys : List (BitVec 8)) (h1 : xs.length = 32) (h2 : ys.length = 32) : (Op.equalIn (m + 1 + 1) 33 (.agg (xs.map V).toArray) (.agg (ys.map V).toArray)).run Tryd.prog w = .ok (decide (xs = ys)) w := by
  have h := run_equal33' (m + 1) (fun a b w => run_equalIn_int w m 5 .u8 .u8 a b Tryd.under5) w xs ys h1 h2
  have e : sameFrom xs ys 0 32 = decide (xs = ys) := by
    rw [Bool.eq_iff_iff, sameFrom_iff xs ys 32 0 (by omega) (by omega)]
    simp
  rw [← e]
  exact h
theorem run_equal76m (m : Nat) (hm : ∀ (w : World) (xs ys : List (BitVec 8)), xs.length = 32 → ys.length = 32 → (Op.equalIn m 33 (.agg (xs.map V).toArray) (.agg (ys.map V).toArray)).run Tryd.prog w = .ok (decide (xs = ys)) w) (w : World) {p q r s : List (BitVec 8)} (hp : p.length = 32) (hq : q.length = 32) (hr : r.length = 32) (hs : s.length = 32) : (Op.equalIn (m + 1) 76 (.agg ((p ++ q).map V).toArray) (.agg ((r ++ s).map V).toArray)).run Tryd.prog w = .ok (decide (p = r ∧ q = s)) w := by
  have a1 := part_left (q := q) hp w
  have a2 := part_right hp hq w
  have b1 := part_left (q := s) hr w
  have b2 := part_right hr hs w
  have c1 := hm w p r hp hr
  have c2 := hm w q s hq hs
  generalize hX : ((p ++ q).map V).toArray = X at a1 a2 ⊢
  generalize hY : ((r ++ s).map V).toArray = Y at b1 b2 ⊢
  clear hX hY
  simp only [Op.equalIn, Sem.run_bind, run_underlying Tryd.under76h, Result.andThen_ok, Tryd.size33h, Std.Legacy.Range.forIn_eq_forIn_range', Std.Legacy.Range.size]
  rw [show (2 - 0 + 1 - 1) / 1 = 2 from rfl]
  have e : decide (p = r ∧ q = s) = (decide (p = r) && decide (q = s)) := Bool.decide_and _ _
  rw [e]
  generalize decide (p = r) = u at c1 ⊢
  generalize decide (q = s) = v at c2 ⊢
  cases u
  · simp only [List.range'_succ, List.range'_zero, List.forIn_cons, List.forIn_nil, Sem.run_bind, Nat.zero_mul, Nat.zero_add, Nat.one_mul, a1, b1, c1, Result.andThen_ok, Bool.not_false, if_true, Sem.run_pure, Bool.false_and]
  · cases v
    · simp only [List.range'_succ, List.range'_zero, List.forIn_cons, List.forIn_nil, Sem.run_bind, Nat.zero_mul, Nat.zero_add, Nat.one_mul, a1, b1, c1, a2, b2, c2, Result.andThen_ok, Bool.not_false, Bool.not_true, Bool.false_eq_true, if_true, if_false, Sem.run_pure, Bool.true_and]
    · simp only [List.range'_succ, List.range'_zero, List.forIn_cons, List.forIn_nil, Sem.run_bind, Nat.zero_mul, Nat.zero_add, Nat.one_mul, a1, b1, c1, a2, b2, c2, Result.andThen_ok, Bool.not_true, Bool.false_eq_true, if_false, Sem.run_pure, Bool.true_and]
theorem run_equal76 (w : World) {p q r s : List (BitVec 8)} (hp : p.length = 32) (hq : q.length = 32) (hr : r.length = 32) (hs : s.length = 32) : (Op.equalIn 10000 76 (.agg ((p ++ q).map V).toArray) (.agg ((r ++ s).map V).toArray)).run Tryd.prog w = .ok (decide (p = r ∧ q = s)) w := run_equal76m 9999 (run_equal33m 9997) w hp hq hr hs
theorem Tryd.noGuard76 (x y : Operand) (a b : Array Value) (w : World) : (eqGuard .eql 76 x y (.agg a) (.agg b)).run Tryd.prog w = .ok () w := by kernel_rfl
theorem Tryd.build2hx (x0 x1 x2 x3 x4 x5 x6 x7 x8 x9 x10 x11 x12 x13 x14 x15 x16 x17 x18 x19 x20 x21 x22 x23 x24 x25 x26 x27 x28 x29 x30 x31 y0 y1 y2 y3 y4 y5 y6 y7 y8 y9 y10 y11 y12 y13 y14 y15 y16 y17 y18 y19 y20 y21 y22 y23 y24 y25 y26 y27 y28 y29 y30 y31 : BitVec 8) (w : World) : (Instr.build 76 #[(0, .agg ([x0, x1, x2, x3, x4, x5, x6, x7, x8, x9, x10, x11, x12, x13, x14, x15, x16, x17, x18, x19, x20, x21, x22, x23, x24, x25, x26, x27, x28, x29, x30, x31].map V).toArray), (1, .agg ([y0, y1, y2, y3, y4, y5, y6, y7, y8, y9, y10, y11, y12, y13, y14, y15, y16, y17, y18, y19, y20, y21, y22, y23, y24, y25, y26, y27, y28, y29, y30, y31].map V).toArray)]).run Tryd.prog w = .ok (.agg (([x0, x1, x2, x3, x4, x5, x6, x7, x8, x9, x10, x11, x12, x13, x14, x15, x16, x17, x18, x19, x20, x21, x22, x23, x24, x25, x26, x27, x28, x29, x30, x31] ++ [y0, y1, y2, y3, y4, y5, y6, y7, y8, y9, y10, y11, y12, y13, y14, y15, y16, y17, y18, y19, y20, y21, y22, y23, y24, y25, y26, y27, y28, y29, y30, y31]).map V).toArray) w := by kernel_rfl
theorem Tryd.build2h {p q : List (BitVec 8)} (hp : p.length = 32) (hq : q.length = 32) (w : World) : (Instr.build 76 #[(0, .agg (p.map V).toArray), (1, .agg (q.map V).toArray)]).run Tryd.prog w = .ok (.agg ((p ++ q).map V).toArray) w := by
  match p, hp with
  | [x0, x1, x2, x3, x4, x5, x6, x7, x8, x9, x10, x11, x12, x13, x14, x15, x16, x17, x18, x19, x20, x21, x22, x23, x24, x25, x26, x27, x28, x29, x30, x31], _ =>
    match q, hq with
    | [y0, y1, y2, y3, y4, y5, y6, y7, y8, y9, y10, y11, y12, y13, y14, y15, y16, y17, y18, y19, y20, y21, y22, y23, y24, y25, y26, y27, y28, y29, y30, y31], _ => exact Tryd.build2hx x0 x1 x2 x3 x4 x5 x6 x7 x8 x9 x10 x11 x12 x13 x14 x15 x16 x17 x18 x19 x20 x21 x22 x23 x24 x25 x26 x27 x28 x29 x30 x31 y0 y1 y2 y3 y4 y5 y6 y7 y8 y9 y10 y11 y12 y13 y14 y15 y16 y17 y18 y19 y20 y21 y22 y23 y24 y25 y26 y27 y28 y29 y30 y31 w
section
variable {Q : Exit → Act → World → Prop} {o : Oper} {a : Act} {w : World}
theorem st_eq2h (x y : Operand) (ho : o.op = .binOp .eql 76 x y 76) {p q r s : List (BitVec 8)} (hp : p.length = 32) (hq : q.length = 32) (hr : r.length = 32) (hs : s.length = 32) (hx : a.eval x = .agg ((p ++ q).map V).toArray) (hy : a.eval y = .agg ((r ++ s).map V).toArray) (b : Bool) (hb : b = decide (p = r ∧ q = s)) : o.wp Tryd.prog a w (Ends a o.dst w (Fk.eq (.bool b)).f) Q := by
  refine st_pure (v := .bool b) ?_ rfl
  subst hb
  have h1 := Tryd.noGuard76 x y ((p ++ q).map V).toArray ((r ++ s).map V).toArray w
  have h2 := run_equal76 w hp hq hr hs
  unfold execOp
  rw [ho]
  simp only [hx, hy, h1, binOp, Op.equal, Op.maxDepth, h2, Sem.run_bind, Result.andThen_ok, Sem.run_pure]
theorem st_build2h (x y : Operand) (ho : o.op = .build 76 #[(0, x), (1, y)]) {p q : List (BitVec 8)} (hp : p.length = 32) (hq : q.length = 32) (hx : a.eval x = .agg (p.map V).toArray) (hy : a.eval y = .agg (q.map V).toArray) : o.wp Tryd.prog a w (Ends a o.dst w (Fk.eq (.agg ((p ++ q).map V).toArray)).f) Q := by
  refine st_pure (v := .agg ((p ++ q).map V).toArray) ?_ rfl
  have h := Tryd.build2h hp hq w
  unfold execOp
  rw [ho]
  simp only [List.map_toArray, List.map_cons, List.map_nil, hx, hy, h, Sem.run_bind, Result.andThen_ok, Sem.run_pure]
theorem st_idx2h (x y : Operand) {T : TypeId} (ho : o.op = .indexAddr T x y) {p r : Addr} (hx : a.eval x = .pointer (some p)) (hr : (Instr.indexAt T (.pointer (some p)) (a.eval y)).run Tryd.prog w = .ok (.pointer (some r)) w) : o.wp Tryd.prog a w (Ends a o.dst w (Fk.eq (.pointer (some r))).f) Q := by
  refine st_pure (v := .pointer (some r)) ?_ rfl
  unfold execOp
  rw [ho]
  simp [hx, hr]
end
theorem len2h {p q : List (BitVec 8)} (hp : p.length = 32) (hq : q.length = 32) : (p ++ q).length = 64 := by rw [List.length_append, hp, hq]
theorem bytes_right {w : World} {b : Nat} {T : TypeId} {p q : List (BitVec 8)} (hp : p.length = 32) (h : Ob w b T ((p ++ q).map V)) : HasB w b 32 q := fun i hi => by
  have h1 : ((p ++ q).map V)[32 + i]? = some (V (q.getD i 0)) := by
    rw [List.map_append, List.getElem?_append_right (by rw [List.length_map, hp]; omega), List.length_map, hp, Nat.add_sub_cancel_left, List.getElem?_map, List.getElem?_eq_getElem hi]
    simp [List.getD_eq_getElem?_getD, hi]
  exact h.cell (32 + i) h1
theorem bytes_left {w : World} {b : Nat} {T : TypeId} {p q : List (BitVec 8)} (h : Ob w b T ((p ++ q).map V)) : HasB w b 0 p := by
  rw [List.map_append] at h
  exact Ob.bytes h
theorem V_all2h (xs : List (BitVec 8)) : ((xs.map V : List Value).toArray.all fun u => u.oneCell') = true := by
  rw [List.all_toArray]
  rw [List.all_eq_true]
  intro u hu
  obtain ⟨x, _, rfl⟩ := List.mem_map.1 hu
  rfl
end Go.Proofs.YtfmeeimhfdnjpaaDoor
namespace Go.Proofs.YtfmeeimhfdnjpaaDoor
set_option maxRecDepth 100000
open Go.RowKit
open Go.Shelf Go.Lib Go.Sort
def Tryd.laysSlE31_f54_ren : Go.Shelf.Ren := ⟨fun | 31 => 54 | 29 => 66 | n => n, fun | 22 => 81 | 23 => 4 | 4 => 4 | 3 => 3 | 0 => 0 | n => n, fun | n => n⟩
theorem Tryd.laysSlE31_f54 : Go.Proofs.SlLaysE.n31 Tryd.prog Tryd.laysSlE31_f54_ren := {
  mixed := by kernel_rfl
  f29 := ⟨Tryd.f66.name, by decide, Tryd.func66.trans (congrArg some (by kernel_rfl))⟩
  f31 := ⟨Tryd.f54.name, by decide, Tryd.func54.trans (congrArg some (by kernel_rfl))⟩
  t0 := Tryd.underlying0
  a0 := Tryd.isAgg0
  z0 := Tryd.sizeOf0
  v0 := Tryd.zeroValue0
  t3 := Tryd.underlying3
  a3 := Tryd.isAgg3
  z3 := Tryd.sizeOf3
  v3 := Tryd.zeroValue3
  t4 := Tryd.underlying4
  a4 := Tryd.isAgg4
  z4 := Tryd.sizeOf4
  v4 := Tryd.zeroValue4
  t22 := Tryd.underlying81
  a22 := Tryd.isAgg81
  z22 := Tryd.sizeOf81
  v22 := Tryd.zeroValue81
  a23 := Tryd.isAgg4
  z23 := Tryd.sizeOf4 }
theorem Tryd.slices_Contains {α : Type} [Inhabited α] (enc : α → Value) (eq : α → α → Bool) (heq : EqlAt Tryd.prog 4 enc eq) (b off n c : Nat) (zs : List α) (x : α) (w : World) (hz : n ≤ zs.length) (hbig : n ≤ 9223372036854775807) (hc : ∀ j, j < zs.length → w.cell? ⟨b, off + j, none⟩ = some (enc zs[j]!)) :
    Calls Tryd.prog 54 #[.slice (some ⟨b, off, none⟩) n c, enc x] w fun e w' => e = .returned (.bool ((zs.take n).any fun y => eq x y)) ∧ w' = w := AnyE.slices_Contains Tryd.laysSlE31_f54 enc eq heq b off n c zs x w hz hbig hc
theorem Tryd.slices_Contains_empty {α : Type} [Inhabited α] (a : Option Addr) (c : Nat) (xv : Value) (w : World) :
    Calls Tryd.prog 54 #[.slice a 0 c, xv] w fun e w' => e = .returned (.bool false) ∧ w' = w := AnyE.slices_Contains_empty Tryd.laysSlE31_f54 a c xv w
def Tryd.laysSlE35_f62_ren : Go.Shelf.Ren := ⟨fun | 35 => 62 | n => n, fun | 22 => 81 | 23 => 4 | 3 => 3 | 4 => 4 | 0 => 0 | n => n, fun | n => n⟩
theorem Tryd.laysSlE35_f62 : Go.Proofs.SlLaysE.n35 Tryd.prog Tryd.laysSlE35_f62_ren := {
  mixed := by kernel_rfl
  f35 := ⟨Tryd.f62.name, by decide, Tryd.func62.trans (congrArg some (by kernel_rfl))⟩
  t0 := Tryd.underlying0
  a0 := Tryd.isAgg0
  z0 := Tryd.sizeOf0
  v0 := Tryd.zeroValue0
  t3 := Tryd.underlying3
  a3 := Tryd.isAgg3
  z3 := Tryd.sizeOf3
  v3 := Tryd.zeroValue3
  t4 := Tryd.underlying4
  a4 := Tryd.isAgg4
  z4 := Tryd.sizeOf4
  v4 := Tryd.zeroValue4
  t22 := Tryd.underlying81
  a22 := Tryd.isAgg81
  z22 := Tryd.sizeOf81
  v22 := Tryd.zeroValue81
  a23 := Tryd.isAgg4
  z23 := Tryd.sizeOf4 }
theorem Tryd.slices_Reverse {α : Type} [Inhabited α] (enc : α → Value) (h1 : OneCell enc) (blk off cap : Nat) (zs : List α) (w : World) (hH : Holds enc w blk off zs.toArray) (hsz : zs.length ≤ 9223372036854775807) :
    Calls Tryd.prog 62 #[.slice (some ⟨blk, off, none⟩) zs.length cap] w fun e w' => e = .returned (.tuple #[]) ∧ ∃ n, w' = putRow enc (Sort.ahead w n) blk off zs.reverse.toArray := AnyE.slices_Reverse Tryd.laysSlE35_f62 enc h1 blk off cap zs w hH hsz
theorem Tryd.slices_Reverse_empty {α : Type} [Inhabited α] (a : Option Addr) (cap : Nat) (w : World) :
    Calls Tryd.prog 62 #[.slice a 0 cap] w fun e w' => e = .returned (.tuple #[]) ∧ w' = w := AnyE.slices_Reverse_empty Tryd.laysSlE35_f62 a cap w
/-- slices.Reverse turns round a slice of bools of the call's own. -/
theorem reverse_any {base : Nat} {S : List Bool} {v : Value} {w : World} (hv : (Fk.ob base S).f v w) (hl : S.length ≤ 1000000) :
    Calls Tryd.prog 62 #[v] w fun e w' => e = .returned (.tuple #[]) ∧ (Fk.ob base S.reverse).f v w' ∧ Below base w w' := by
  have ho : w.ownsRow base 4 1 v S.length (S.map Value.bool) := hv
  by_cases hn : v = .slice none 0 0
  · subst hn
    have h0 : S = [] := by
      have h1 := ho.1
      rcases ho.2 with ⟨_, h⟩ | ⟨g, cap, cur, e, _⟩
      · exact List.eq_nil_of_length_eq_zero h
      · cases e
    subst h0
    refine (Tryd.slices_Reverse_empty (α := Bool) none 0 w).mono ?_
    rintro e w' ⟨rfl, rfl⟩
    exact ⟨rfl, hv, Below.refl _ _⟩
  · obtain ⟨g, cap, rfl, hb, hg, hc, hm, hz, hH⟩ := holds_of_ownsRow ho hn
    refine (Tryd.slices_Reverse Value.bool (fun _ => rfl) g 0 cap S w hH (by omega)).mono ?_
    rintro e w' ⟨rfl, q, rfl⟩
    have h1 := ownsRow_putRow (q := q) (k := S.length) (ys := S.reverse) ho (by simp) (Nat.le_refl _)
    refine ⟨rfl, ?_, below_putRow (Below.refl _ _) hb⟩
    rw [List.take_of_length_le (by simp)] at h1
    show (putRow Value.bool (Sort.ahead w q) g 0 S.reverse.toArray).ownsRow base 4 1 _ S.reverse.length (S.reverse.map Value.bool)
    rw [List.length_reverse]
    exact h1
end Go.Proofs.YtfmeeimhfdnjpaaDoor
namespace Go.Proofs.YtfmeeimhfdnjpaaDoor
set_option maxRecDepth 100000
open Go.RowKit
theorem st_tri0 {Q : Exit → Act → World → Prop} {o : Oper} {a : Act} {w : World} (x : Operand) (ho : o.op = .extract x 0) {u v z : Value} (hx : a.eval x = .tuple #[u, v, z]) : o.wp Tryd.prog a w (Ends a o.dst w (Fk.eq (u)).f) Q := by
  refine st_pure (v := u) ?_ rfl
  unfold execOp
  rw [ho]
  simp [hx, Instr.extract]
theorem st_tri1 {Q : Exit → Act → World → Prop} {o : Oper} {a : Act} {w : World} (x : Operand) (ho : o.op = .extract x 1) {u v z : Value} (hx : a.eval x = .tuple #[u, v, z]) : o.wp Tryd.prog a w (Ends a o.dst w (Fk.eq (v)).f) Q := by
  refine st_pure (v := v) ?_ rfl
  unfold execOp
  rw [ho]
  simp [hx, Instr.extract]
theorem st_tri2 {Q : Exit → Act → World → Prop} {o : Oper} {a : Act} {w : World} (x : Operand) (ho : o.op = .extract x 2) {u v z : Value} (hx : a.eval x = .tuple #[u, v, z]) : o.wp Tryd.prog a w (Ends a o.dst w (Fk.eq (z)).f) Q := by
  refine st_pure (v := z) ?_ rfl
  unfold execOp
  rw [ho]
  simp [hx, Instr.extract]
theorem ret_three {fn : Func} {t u s : Tmp} (h : fn.results = #[.tmp t, .tmp u, .tmp s]) (a : Act) (x y z : Value) (ht : a.eval (.tmp t) = x) (hu : a.eval (.tmp u) = y) (hs : a.eval (.tmp s) = z) (P : Program) (w : World) : (results fn a.tmps).run P w = .ok (.tuple #[x, y, z]) w := by
  have h1 : a.tmps.getD t undef = x := ht
  have h2 : a.tmps.getD u undef = y := hu
  have h3 : a.tmps.getD s undef = z := hs
  rw [← h1, ← h2, ← h3]
  simp [results, h]
/-- The turns above the leaf i of n, from the top down: in the left half? -/
def tdn (i n : Nat) : List Bool :=
  if _h : n ≤ 1 then [] else if i < spl n then true :: tdn i (spl n) else false :: tdn (i - spl n) (n - spl n)
termination_by n
decreasing_by
  · exact spl_lt (by omega)
  · have := spl_pos n
    omega
theorem tdn_one {n : Nat} (h : n ≤ 1) (i : Nat) : tdn i n = [] := by rw [tdn, dif_pos h]
theorem tdn_left {i n : Nat} (h : 2 ≤ n) (hi : i < spl n) : tdn i n = true :: tdn i (spl n) := by rw [tdn, dif_neg (by omega), if_pos hi]
theorem tdn_right {i n : Nat} (h : 2 ≤ n) (hi : ¬ i < spl n) : tdn i n = false :: tdn (i - spl n) (n - spl n) := by rw [tdn, dif_neg (by omega), if_neg hi]
theorem tdn_sds (n : Nat) : ∀ i, (tdn i n).reverse = (sds i n).map (!·) := by
  induction n using Nat.strongRecOn with
  | ind n ih =>
    intro i
    by_cases h1 : n ≤ 1
    · rw [tdn_one h1, sds_one h1]; rfl
    · have h2 : 2 ≤ n := by omega
      have hs := spl_lt h2
      have hp := spl_pos n
      by_cases hi : i < spl n
      · rw [tdn_left h2 hi, sds_left h2 hi, List.reverse_cons, ih _ hs, List.map_append]; rfl
      · rw [tdn_right h2 hi, sds_right h2 hi, List.reverse_cons, ih _ (by omega), List.map_append]; rfl
theorem tdn_len (i n : Nat) : (tdn i n).length = (sds i n).length := by
  have := congrArg List.length (tdn_sds n i)
  rw [List.length_reverse, List.length_map] at this
  exact this
/-- The turns above the part that ends at x, from the top down. -/
def tdm (x n : Nat) : List Bool :=
  if _h : n ≤ x + 1 then [] else if x < spl n then true :: tdm x (spl n) else false :: tdm (x - spl n) (n - spl n)
termination_by n
decreasing_by
  · exact spl_lt (by omega)
  · have := spl_pos n
    omega
theorem tdm_end {x n : Nat} (h : n ≤ x + 1) : tdm x n = [] := by rw [tdm, dif_pos h]
theorem tdm_left {x n : Nat} (h : x + 1 < n) (hi : x < spl n) : tdm x n = true :: tdm x (spl n) := by rw [tdm, dif_neg (by omega), if_pos hi]
theorem tdm_right {x n : Nat} (h : x + 1 < n) (hi : ¬ x < spl n) : tdm x n = false :: tdm (x - spl n) (n - spl n) := by rw [tdm, dif_neg (by omega), if_neg hi]
theorem tdm_stp (n : Nat) : ∀ x b, x < n → (tdm x n).reverse = (stp (x + 1) n b).2.map (!·) := by
  induction n using Nat.strongRecOn with
  | ind n ih =>
    intro x b hx
    by_cases h1 : n ≤ x + 1
    · obtain rfl : n = x + 1 := by omega
      rw [tdm_end (Nat.le_refl _), stp_same]; rfl
    · have h2 : 2 ≤ n := by omega
      have hs := spl_lt h2
      have hp := spl_pos n
      by_cases hi : x < spl n
      · rw [tdm_left (by omega) hi, stp_left h2 (by omega) (by omega), List.reverse_cons, ih _ hs x b hi, List.map_append]; rfl
      · rw [tdm_right (by omega) hi, stp_right h2 (by omega) (by omega), List.reverse_cons, ih _ (by omega) (x - spl n) false (by omega), List.map_append, show x - spl n + 1 = x + 1 - spl n by omega]; rfl
theorem tdm_own (n : Nat) : ∀ x, x < n → ((tdm x n).any fun y => false == y) = (stp (x + 1) n true).1 := by
  induction n using Nat.strongRecOn with
  | ind n ih =>
    intro x hx
    by_cases h1 : n ≤ x + 1
    · obtain rfl : n = x + 1 := by omega
      rw [tdm_end (Nat.le_refl _), stp_same]; rfl
    · have h2 : 2 ≤ n := by omega
      have hs := spl_lt h2
      have hp := spl_pos n
      by_cases hi : x < spl n
      · rw [tdm_left (by omega) hi, stp_left h2 (by omega) (by omega), List.any_cons, ih _ hs x hi]; rfl
      · rw [tdm_right (by omega) hi, stp_right h2 (by omega) (by omega), List.any_cons]
        show true = (stp (x + 1 - spl n) (n - spl n) false).1
        rw [stp_false]
theorem tdm_len {x n : Nat} (b : Bool) (h : x < n) : (tdm x n).length = (stp (x + 1) n b).2.length := by
  have := congrArg List.length (tdm_stp n x b h)
  rw [List.length_reverse, List.length_map] at this
  exact this
theorem psplit_any (n : Nat) (h2 : 2 ≤ n) (h3 : n ≤ 9223372036854775807) (w : World) :
    Calls Tryd.prog 69 #[.int .i64 (n : Int)] w fun e w' => e = .returned (.int .i64 ((spl n : Nat) : Int)) ∧ Below w.heap.size w w' := by
  go_enter Tryd.func69, Tryd.ntmps69
  refine code_both (fun f w1 => f.tmps.size = 9 ∧ f.defers = [] ∧ f.eval (.tmp 0) = .int .i64 (n : Int) ∧ Below w.heap.size w (w1)) ⟨rfl, rfl, rfl, Below.refl _ _⟩ ?_
  rintro f0 w0 ⟨sz, df, x0, bl⟩
  have sd := And.intro sz df
  clear sz df
  have bl0 := bl
  refine wp_seq ?_
  refine wr_a [.eq (.int .i64 0)] (by rw [sd.1]; kernel_rfl) ⟨fun hw ac u K => ?_, trivial⟩ ?_
  · exact st_assign (.const (.int .i64 0)) rfl rfl
  intro f1 w1 A hb
  replace x0 := A.t x0 rfl
  replace bl := bgo bl hb
  replace sd := A.sd sd
  clear A hb
  show Code.wp _ _ _ _ _
  refine wp_seq ?_
  refine wr_a [.eq (.int .i64 (n : Int)), .eq (.int .i64 ((n - 1 : Nat) : Int)), .eq (.int .u64 ((n - 1 : Nat) : Int)), .eq (.int .i64 ((bln (n - 1) : Nat) : Int)), .eq (.int .i64 ((Nat.log2 (n - 1) : Nat) : Int)), .eq (.int .i64 ((spl n : Nat) : Int)), .eq (.int .i64 ((spl n : Nat) : Int))] (by rw [sd.1]; kernel_rfl) ⟨fun hw ac u K => ?_, fun hw ac u K => ?_, fun hw ac u K => ?_, fun hw ac u K => ?_, fun hw ac u K => ?_, fun hw ac u K => ?_, fun hw ac u K => ?_, trivial⟩ ?_
  · exact st_move (.tmp 0) rfl (K.t x0 rfl)
  · exact st_subz (.tmp 3) (.const (.int .i64 1)) rfl (n : Int) 1 _ (K.dep 0 3 rfl) rfl (by omega) (by omega) (by omega)
  · exact st_conv 3 84 (.tmp 4) rfl .i64 .u64 _ _ (K.dep 1 4 rfl) Tryd.under3 Tryd.under84 (by rw [IntKind.wrap_u64]; omega)
  · exact st_call 50 (.func 50) _ _ _ rfl rfl (one_arg (K.dep 2 5 rfl)) Tryd.enter50 (fk_of (len_any (n - 1) (by omega) _))
  · exact st_subz (.tmp 6) (.const (.int .i64 1)) rfl _ 1 _ (K.dep 3 6 rfl) rfl (by rw [spl_bln h2]; omega) (by omega) (by have := log_le h2 h3; omega)
  · exact st_shl1 (.const (.int .i64 1)) (.tmp 7) rfl (Nat.log2 (n - 1)) rfl (K.dep 4 7 rfl) (spl n) rfl (log_le h2 h3)
  · exact st_assign (.tmp 8) rfl (K.dep 5 8 rfl)
  intro f2 w2 A hb
  replace x0 := A.t x0 rfl
  have x2 := A.e 6 2 rfl rfl
  replace bl := bgo bl hb
  replace sd := A.sd sd
  clear A hb
  clear x0
  show Code.wp _ _ _ _ _
  refine wp_ret ?_
  repeat (first | with_reducible refine then_ret ?_ | with_reducible refine block_ret ?_)
  exact bodyPost_ret (v := .int .i64 ((spl n : Nat) : Int)) (ret_slot rfl f2 _ x2 _ _) sd.2 ⟨rfl, bl⟩
theorem half_left {i n : Nat} (h2 : 2 ≤ n) (h3 : n ≤ 1152921504606846976) (_hin : i < n) (hi : i < spl n) (w : World) :
    Calls Tryd.prog 61 #[.int .i64 (i : Int), .int .i64 (n : Int)] w fun e w' => e = .returned (.tuple #[.bool true, .int .i64 (i : Int), .int .i64 ((spl n : Nat) : Int)]) ∧ Below w.heap.size w w' := by
  have hsl := spl_lt h2
  go_enter Tryd.func61, Tryd.ntmps61
  refine code_both (fun f w1 => f.tmps.size = 21 ∧ f.defers = [] ∧ f.eval (.tmp 0) = .int .i64 (i : Int) ∧ f.eval (.tmp 1) = .int .i64 (n : Int) ∧ Below w.heap.size w (w1)) ⟨rfl, rfl, rfl, rfl, Below.refl _ _⟩ ?_
  rintro f0 w0 ⟨sz, df, x0, x1, bl⟩
  have sd := And.intro sz df
  clear sz df
  have bl0 := bl
  refine wp_seq ?_
  refine wr_a [.eq (.bool false), .eq (.int .i64 0), .eq (.int .i64 0)] (by rw [sd.1]; kernel_rfl) ⟨fun hw ac u K => ?_, fun hw ac u K => ?_, fun hw ac u K => ?_, trivial⟩ ?_
  · exact st_assign (.const (.bool false)) rfl rfl
  · exact st_assign (.const (.int .i64 0)) rfl rfl
  · exact st_assign (.const (.int .i64 0)) rfl rfl
  intro f1 w1 A hb
  replace x0 := A.t x0 rfl
  replace x1 := A.t x1 rfl
  replace bl := bgo bl hb
  replace sd := A.sd sd
  clear A hb
  show Code.wp _ _ _ _ _
  refine wp_seq ?_
  refine wr_a [.eq (.int .i64 (n : Int)), .eq (.int .i64 ((spl n : Nat) : Int)), .eq (.int .i64 ((spl n : Nat) : Int))] (by rw [sd.1]; kernel_rfl) ⟨fun hw ac u K => ?_, fun hw ac u K => ?_, fun hw ac u K => ?_, trivial⟩ ?_
  · exact st_move (.tmp 1) rfl (K.t x1 rfl)
  · exact st_call 69 (.func 69) _ _ _ rfl rfl (one_arg (K.dep 0 8 rfl)) Tryd.enter69 (fk_of (psplit_any n h2 (by omega) _))
  · exact st_assign (.tmp 9) rfl (K.dep 1 9 rfl)
  intro f2 w2 A hb
  replace x0 := A.t x0 rfl
  replace x1 := A.t x1 rfl
  have x7 := A.e 2 7 rfl rfl
  replace bl := bgo bl hb
  replace sd := A.sd sd
  clear A hb
  show Code.wp _ _ _ _ _
  refine wp_seq ?_
  refine wp_seq ?_
  refine wr_a [.eq (.int .i64 (i : Int)), .eq (.int .i64 ((spl n : Nat) : Int)), .eq (.bool true)] (by rw [sd.1]; kernel_rfl) ⟨fun hw ac u K => ?_, fun hw ac u K => ?_, fun hw ac u K => ?_, trivial⟩ ?_
  · exact st_move (.tmp 0) rfl (K.t x0 rfl)
  · exact st_move (.tmp 7) rfl (K.t x7 rfl)
  · exact st_lss 3 (.tmp 10) (.tmp 11) rfl .i64 ((i : Int)) (((spl n : Nat) : Int)) (K.dep 0 10 rfl) (K.dep 1 11 rfl) _ (by rw [eq_comm, decide_eq_true_iff]; omega)
  intro f3 w3 A hb
  replace x0 := A.t x0 rfl
  replace x1 := A.t x1 rfl
  replace x7 := A.t x7 rfl
  have x12 := A.e 2 12 rfl rfl
  replace bl := bgo bl hb
  replace sd := A.sd sd
  clear A hb
  show Code.wp _ _ _ _ _
  refine wp_cond_true x12 ?_
  refine wp_seq ?_
  refine wr_a [.eq (.int .i64 (i : Int)), .eq (.int .i64 ((spl n : Nat) : Int)), .eq (.bool true), .eq (.int .i64 (i : Int)), .eq (.int .i64 ((spl n : Nat) : Int))] (by rw [sd.1]; kernel_rfl) ⟨fun hw ac u K => ?_, fun hw ac u K => ?_, fun hw ac u K => ?_, fun hw ac u K => ?_, fun hw ac u K => ?_, trivial⟩ ?_
  · exact st_move (.tmp 0) rfl (K.t x0 rfl)
  · exact st_move (.tmp 7) rfl (K.t x7 rfl)
  · exact st_assign (.const (.bool true)) rfl rfl
  · exact st_assign (.tmp 13) rfl (K.dep 0 13 rfl)
  · exact st_assign (.tmp 14) rfl (K.dep 1 14 rfl)
  intro f4 w4 A hb
  replace x0 := A.t x0 rfl
  replace x1 := A.t x1 rfl
  replace x7 := A.t x7 rfl
  replace x12 := A.t x12 rfl
  have x4 := A.e 2 4 rfl rfl
  have x5 := A.e 3 5 rfl rfl
  have x6 := A.e 4 6 rfl rfl
  replace bl := bgo bl hb
  replace sd := A.sd sd
  clear A hb
  clear x0
  clear x1
  clear x7
  clear x12
  show Code.wp _ _ _ _ _
  refine wp_ret ?_
  repeat (first | with_reducible refine then_ret ?_ | with_reducible refine block_ret ?_)
  exact bodyPost_ret (v := .tuple #[.bool true, .int .i64 (i : Int), .int .i64 ((spl n : Nat) : Int)]) (ret_three rfl f4 _ _ _ x4 x5 x6 _ _) sd.2 ⟨rfl, bl⟩
theorem half_right {i n : Nat} (h2 : 2 ≤ n) (h3 : n ≤ 1152921504606846976) (hin : i < n) (hi : ¬ i < spl n) (w : World) :
    Calls Tryd.prog 61 #[.int .i64 (i : Int), .int .i64 (n : Int)] w fun e w' => e = .returned (.tuple #[.bool false, .int .i64 ((i - spl n : Nat) : Int), .int .i64 ((n - spl n : Nat) : Int)]) ∧ Below w.heap.size w w' := by
  have hsl := spl_lt h2
  go_enter Tryd.func61, Tryd.ntmps61
  refine code_both (fun f w1 => f.tmps.size = 21 ∧ f.defers = [] ∧ f.eval (.tmp 0) = .int .i64 (i : Int) ∧ f.eval (.tmp 1) = .int .i64 (n : Int) ∧ Below w.heap.size w (w1)) ⟨rfl, rfl, rfl, rfl, Below.refl _ _⟩ ?_
  rintro f0 w0 ⟨sz, df, x0, x1, bl⟩
  have sd := And.intro sz df
  clear sz df
  have bl0 := bl
  refine wp_seq ?_
  refine wr_a [.eq (.bool false), .eq (.int .i64 0), .eq (.int .i64 0)] (by rw [sd.1]; kernel_rfl) ⟨fun hw ac u K => ?_, fun hw ac u K => ?_, fun hw ac u K => ?_, trivial⟩ ?_
  · exact st_assign (.const (.bool false)) rfl rfl
  · exact st_assign (.const (.int .i64 0)) rfl rfl
  · exact st_assign (.const (.int .i64 0)) rfl rfl
  intro f1 w1 A hb
  replace x0 := A.t x0 rfl
  replace x1 := A.t x1 rfl
  replace bl := bgo bl hb
  replace sd := A.sd sd
  clear A hb
  show Code.wp _ _ _ _ _
  refine wp_seq ?_
  refine wr_a [.eq (.int .i64 (n : Int)), .eq (.int .i64 ((spl n : Nat) : Int)), .eq (.int .i64 ((spl n : Nat) : Int))] (by rw [sd.1]; kernel_rfl) ⟨fun hw ac u K => ?_, fun hw ac u K => ?_, fun hw ac u K => ?_, trivial⟩ ?_
  · exact st_move (.tmp 1) rfl (K.t x1 rfl)
  · exact st_call 69 (.func 69) _ _ _ rfl rfl (one_arg (K.dep 0 8 rfl)) Tryd.enter69 (fk_of (psplit_any n h2 (by omega) _))
  · exact st_assign (.tmp 9) rfl (K.dep 1 9 rfl)
  intro f2 w2 A hb
  replace x0 := A.t x0 rfl
  replace x1 := A.t x1 rfl
  have x7 := A.e 2 7 rfl rfl
  replace bl := bgo bl hb
  replace sd := A.sd sd
  clear A hb
  show Code.wp _ _ _ _ _
  refine wp_seq ?_
  refine wp_seq ?_
  refine wr_a [.eq (.int .i64 (i : Int)), .eq (.int .i64 ((spl n : Nat) : Int)), .eq (.bool false)] (by rw [sd.1]; kernel_rfl) ⟨fun hw ac u K => ?_, fun hw ac u K => ?_, fun hw ac u K => ?_, trivial⟩ ?_
  · exact st_move (.tmp 0) rfl (K.t x0 rfl)
  · exact st_move (.tmp 7) rfl (K.t x7 rfl)
  · exact st_lss 3 (.tmp 10) (.tmp 11) rfl .i64 ((i : Int)) (((spl n : Nat) : Int)) (K.dep 0 10 rfl) (K.dep 1 11 rfl) _ (by rw [eq_comm, decide_eq_false_iff_not]; omega)
  intro f3 w3 A hb
  replace x0 := A.t x0 rfl
  replace x1 := A.t x1 rfl
  replace x7 := A.t x7 rfl
  have x12 := A.e 2 12 rfl rfl
  replace bl := bgo bl hb
  replace sd := A.sd sd
  clear A hb
  show Code.wp _ _ _ _ _
  refine wp_cond_false x12 ?_
  refine wp_skip ?_
  show Code.wp _ _ _ _ _
  refine wp_seq ?_
  refine wr_a [.eq (.int .i64 (i : Int)), .eq (.int .i64 ((spl n : Nat) : Int)), .eq (.int .i64 ((i - spl n : Nat) : Int)), .eq (.int .i64 (n : Int)), .eq (.int .i64 ((spl n : Nat) : Int)), .eq (.int .i64 ((n - spl n : Nat) : Int)), .eq (.bool false), .eq (.int .i64 ((i - spl n : Nat) : Int)), .eq (.int .i64 ((n - spl n : Nat) : Int))] (by rw [sd.1]; kernel_rfl) ⟨fun hw ac u K => ?_, fun hw ac u K => ?_, fun hw ac u K => ?_, fun hw ac u K => ?_, fun hw ac u K => ?_, fun hw ac u K => ?_, fun hw ac u K => ?_, fun hw ac u K => ?_, fun hw ac u K => ?_, trivial⟩ ?_
  · exact st_move (.tmp 0) rfl (K.t x0 rfl)
  · exact st_move (.tmp 7) rfl (K.t x7 rfl)
  · exact st_subz (.tmp 15) (.tmp 16) rfl _ _ _ (K.dep 0 15 rfl) (K.dep 1 16 rfl) (by omega) (by omega) (by omega)
  · exact st_move (.tmp 1) rfl (K.t x1 rfl)
  · exact st_move (.tmp 7) rfl (K.t x7 rfl)
  · exact st_subz (.tmp 18) (.tmp 19) rfl _ _ _ (K.dep 3 18 rfl) (K.dep 4 19 rfl) (by omega) (by omega) (by omega)
  · exact st_assign (.const (.bool false)) rfl rfl
  · exact st_assign (.tmp 17) rfl (K.dep 2 17 rfl)
  · exact st_assign (.tmp 20) rfl (K.dep 5 20 rfl)
  intro f4 w4 A hb
  replace x0 := A.t x0 rfl
  replace x1 := A.t x1 rfl
  replace x7 := A.t x7 rfl
  replace x12 := A.t x12 rfl
  have x4 := A.e 6 4 rfl rfl
  have x5 := A.e 7 5 rfl rfl
  have x6 := A.e 8 6 rfl rfl
  replace bl := bgo bl hb
  replace sd := A.sd sd
  clear A hb
  clear x0
  clear x1
  clear x7
  clear x12
  show Code.wp _ _ _ _ _
  refine wp_ret ?_
  repeat (first | with_reducible refine then_ret ?_ | with_reducible refine block_ret ?_)
  exact bodyPost_ret (v := .tuple #[.bool false, .int .i64 ((i - spl n : Nat) : Int), .int .i64 ((n - spl n : Nat) : Int)]) (ret_three rfl f4 _ _ _ x4 x5 x6 _ _) sd.2 ⟨rfl, bl⟩
theorem pturns_any {i n : Nat} (hi : i < n) (h3 : n ≤ 1152921504606846976) (w : World) :
    Calls Tryd.prog 49 #[.int .i64 (i : Int), .int .i64 (n : Int)] w fun e w' => ∃ u, e = .returned u ∧ (Fk.ob w.heap.size (tdn i n).reverse).f u w' ∧ Below w.heap.size w w' := by
  have htl : (tdn i n).length ≤ 60 := by rw [tdn_len]; exact sds_log n i 60 (by omega)
  go_enter Tryd.func49, Tryd.ntmps49
  refine code_both (fun f w1 => f.tmps.size = 23 ∧ f.defers = [] ∧ f.eval (.tmp 0) = .int .i64 (i : Int) ∧ f.eval (.tmp 1) = .int .i64 (n : Int) ∧ Below w.heap.size w (w1)) ⟨rfl, rfl, rfl, rfl, Below.refl _ _⟩ ?_
  rintro f0 w0 ⟨sz, df, x0, x1, bl⟩
  have sd := And.intro sz df
  clear sz df
  have bl0 := bl
  refine wp_seq ?_
  refine wr_a [.eq (.slice none 0 0)] (by rw [sd.1]; kernel_rfl) ⟨fun hw ac u K => ?_, trivial⟩ ?_
  · exact st_assign (.const (.slice none 0 0)) rfl rfl
  intro f1 w1 A hb
  replace x0 := A.t x0 rfl
  replace x1 := A.t x1 rfl
  replace bl := bgo bl hb
  replace sd := A.sd sd
  clear A hb
  show Code.wp _ _ _ _ _
  refine wp_seq ?_
  refine wr_a [.eq (.slice none 0 0)] (by rw [sd.1]; kernel_rfl) ⟨fun hw ac u K => ?_, trivial⟩ ?_
  · exact st_assign (.const (.slice none 0 0)) rfl rfl
  intro f2 w2 A hb
  replace x0 := A.t x0 rfl
  replace x1 := A.t x1 rfl
  have x5 := A.e 0 5 rfl rfl
  replace bl := bgo bl hb
  replace sd := A.sd sd
  clear A hb
  show Code.wp _ _ _ _ _
  refine wp_seq ?_
  refine wp_block ?_
  refine wp_loop (fun f v1 => ∃ (i2 n2 : Nat) (acc : List Bool), acc ++ tdn i2 n2 = tdn i n ∧ i2 < n2 ∧ n2 ≤ n ∧ f.tmps.size = 23 ∧ f.defers = [] ∧ f.eval (.tmp 0) = .int .i64 (i2 : Int) ∧ f.eval (.tmp 1) = .int .i64 (n2 : Int) ∧ Fk.f (.ob w.heap.size (acc)) (f.eval (.tmp 5)) v1 ∧ Below w.heap.size w (v1)) (fun f _ => (intOf (f.eval (.tmp 1))).toNat) ⟨i, n, [], rfl, hi, Nat.le_refl _, sd.1, sd.2, x0, x1, (fk_val x5 (ob_nil _ _)), bl⟩ ?_
  intro f3 w3 hI
  clear sd bl bl0 x0 x1 x5
  obtain ⟨i2, n2, acc, hc, hin, hn2, sz, df, x0, x1, x5, bl⟩ := hI
  have sd := And.intro sz df
  clear sz df
  have bl0 := bl
  refine wp_seq ?_
  refine wp_seq ?_
  have hcnt := x1
  have hal : acc.length ≤ 60 := by have h1 := congrArg List.length hc; rw [List.length_append] at h1; omega
  by_cases hgo : 1 < n2
  rotate_left
  · skip
    refine wr_a [.eq (.int .i64 (n2 : Int)), .eq (.bool false)] (by rw [sd.1]; kernel_rfl) ⟨fun hw ac u K => ?_, fun hw ac u K => ?_, trivial⟩ ?_
    · exact st_move (.tmp 1) rfl (K.t x1 rfl)
    · exact st_gtr 3 (.tmp 7) (.const (.int .i64 1)) rfl .i64 ((n2 : Int)) (1) (K.dep 0 7 rfl) rfl _ (by rw [eq_comm, decide_eq_false_iff_not]; omega)
    intro f4 w4 A hb
    replace x0 := A.t x0 rfl
    replace x1 := A.t x1 rfl
    replace x5 := f_at (A.old 5 rfl) (Fk.mono _ _ _ _ x5 hb)
    have x8 := A.e 1 8 rfl rfl
    replace bl := bgo bl hb
    replace sd := A.sd sd
    clear A hb
    show Code.wp _ _ _ _ _
    refine wp_cond_false x8 ?_
    refine wp_exit ?_
    show Code.wp _ _ _ _ _
    refine wp_seq ?_
    rw [tdn_one (by omega), List.append_nil] at hc
    rw [hc] at x5
    obtain ⟨v5, e5⟩ : ∃ v, f4.eval (.tmp 5) = v := ⟨_, rfl⟩
    have h5 := x5
    rw [e5] at h5
    replace x5 := e5
    clear e5
    refine wr_s [.eq (v5)] (by rw [sd.1]; kernel_rfl) ⟨fun hw ac u K => ?_, trivial⟩ ?_
    · exact st_move (.tmp 5) rfl (K.t x5 rfl)
    intro f5 w5 A hb
    replace x0 := A.t x0 rfl
    replace x1 := A.t x1 rfl
    replace x5 := A.t x5 rfl
    replace x8 := A.t x8 rfl
    have x20 := A.e 0 20 rfl rfl
    replace h5 := Fk.mono _ _ _ _ h5 hb
    replace bl := bgo bl hb
    replace sd := A.sd sd
    clear A hb
    clear x8
    refine wl_call 62 (.func 62) _ _ #[v5] rfl 21 rfl (by rw [sd.1]; decide) rfl rfl (one_arg x20) Tryd.enter62 (fun u W' => (Fk.ob w.heap.size (tdn i n).reverse).f v5 W' ∧ Below w.heap.size w5 W') ((reverse_any h5 (by omega)).mono (by rintro e w' ⟨rfl, h1, h2⟩; exact ⟨_, rfl, h1, h2⟩)) ?_
    intro f6 w6 df2 sz2 old2 hR2
    replace x0 := tr old2 x0 rfl
    replace x1 := tr old2 x1 rfl
    replace x5 := tr old2 x5 rfl
    replace x20 := tr old2 x20 rfl
    replace h5 := hR2.1
    replace bl := bl.trans hR2.2
    replace bl0 := bl
    replace sd := sd2 sz2 df2 sd
    clear df2 sz2 old2 hR2
    refine wpList_nil ?_
    clear x20
    show Code.wp _ _ _ _ _
    refine wp_seq ?_
    refine wr_a [.eq (v5), .eq (v5)] (by rw [sd.1]; kernel_rfl) ⟨fun hw ac u K => ?_, fun hw ac u K => ?_, trivial⟩ ?_
    · exact st_move (.tmp 5) rfl (K.t x5 rfl)
    · exact st_assign (.tmp 22) rfl (K.dep 0 22 rfl)
    intro f7 w7 A hb
    replace x0 := A.t x0 rfl
    replace x1 := A.t x1 rfl
    replace x5 := A.t x5 rfl
    have x4 := A.e 1 4 rfl rfl
    replace h5 := Fk.mono _ _ _ _ h5 hb
    replace bl := bgo bl hb
    replace sd := A.sd sd
    clear A hb
    show Code.wp _ _ _ _ _
    refine wp_ret ?_
    repeat (first | with_reducible refine then_ret ?_ | with_reducible refine block_ret ?_)
    exact bodyPost_ret (v := v5) (ret_slot rfl f7 _ x4 _ _) sd.2 ⟨_, rfl, h5, bl⟩
  have h2 : 2 ≤ n2 := by omega
  have hs := spl_lt h2
  have hp := spl_pos n2
  refine wr_a [.eq (.int .i64 (n2 : Int)), .eq (.bool true)] (by rw [sd.1]; kernel_rfl) ⟨fun hw ac u K => ?_, fun hw ac u K => ?_, trivial⟩ ?_
  · exact st_move (.tmp 1) rfl (K.t x1 rfl)
  · exact st_gtr 3 (.tmp 7) (.const (.int .i64 1)) rfl .i64 ((n2 : Int)) (1) (K.dep 0 7 rfl) rfl _ (by rw [eq_comm, decide_eq_true_iff]; omega)
  intro f4 w4 A hb
  replace x0 := A.t x0 rfl
  replace x1 := A.t x1 rfl
  replace x5 := f_at (A.old 5 rfl) (Fk.mono _ _ _ _ x5 hb)
  have x8 := A.e 1 8 rfl rfl
  replace bl := bgo bl hb
  replace sd := A.sd sd
  clear A hb
  show Code.wp _ _ _ _ _
  refine wp_cond_true x8 ?_
  refine wp_skip ?_
  show Code.wp _ _ _ _ _
  refine wp_block ?_
  refine wp_seq ?_
  refine wr_a [.eq (.bool false)] (by rw [sd.1]; kernel_rfl) ⟨fun hw ac u K => ?_, trivial⟩ ?_
  · exact st_assign (.const (.bool false)) rfl rfl
  intro f5 w5 A hb
  replace x0 := A.t x0 rfl
  replace x1 := A.t x1 rfl
  replace x5 := f_at (A.old 5 rfl) (Fk.mono _ _ _ _ x5 hb)
  replace x8 := A.t x8 rfl
  replace bl := bgo bl hb
  replace sd := A.sd sd
  clear A hb
  clear x8
  show Code.wp _ _ _ _ _
  refine wp_seq ?_
  by_cases hlt : i2 < spl n2
  rotate_left
  · skip
    refine wr_s [.eq (.int .i64 (i2 : Int)), .eq (.int .i64 (n2 : Int)), .eq (.tuple #[.bool false, .int .i64 ((i2 - spl n2 : Nat) : Int), .int .i64 ((n2 - spl n2 : Nat) : Int)]), .eq (.tuple #[.bool false, .int .i64 ((i2 - spl n2 : Nat) : Int), .int .i64 ((n2 - spl n2 : Nat) : Int)]), .eq (.bool false), .eq (.int .i64 ((i2 - spl n2 : Nat) : Int)), .eq (.int .i64 ((n2 - spl n2 : Nat) : Int)), .eq (.bool false)] (by rw [sd.1]; kernel_rfl) ⟨fun hw ac u K => ?_, fun hw ac u K => ?_, fun hw ac u K => ?_, fun hw ac u K => ?_, fun hw ac u K => ?_, fun hw ac u K => ?_, fun hw ac u K => ?_, fun hw ac u K => ?_, trivial⟩ ?_
    · exact st_move (.tmp 0) rfl (K.t x0 rfl)
    · exact st_move (.tmp 1) rfl (K.t x1 rfl)
    · exact st_call 61 (.func 61) _ _ _ rfl rfl (arg2 (K.dep 0 10 rfl) (K.dep 1 11 rfl)) Tryd.enter61 (fk_of (half_right h2 (by omega) hin hlt _))
    · exact st_move (.tmp 12) rfl (K.dep 2 12 rfl)
    · exact st_tri0 (.tmp 9) rfl (K.dep 3 9 rfl)
    · exact st_tri1 (.tmp 9) rfl (K.dep 3 9 rfl)
    · exact st_tri2 (.tmp 9) rfl (K.dep 3 9 rfl)
    · exact st_assign (.tmp 13) rfl (K.dep 4 13 rfl)
    intro f6 w6 A hb
    replace x0 := A.t x0 rfl
    replace x1 := A.t x1 rfl
    replace x5 := f_at (A.old 5 rfl) (Fk.mono _ _ _ _ x5 hb)
    have x6 := A.e 7 6 rfl rfl
    have x14 := A.e 5 14 rfl rfl
    have x15 := A.e 6 15 rfl rfl
    replace bl := bgo bl hb
    replace sd := A.sd sd
    clear A hb
    refine wl_one (.eq (.int .i64 ((i2 - spl n2 : Nat) : Int))) rfl 0 rfl (by rw [sd.1]; decide) (st_assign (.tmp 14) rfl x14) ?_
    intro f7 w7 df2 sz2 old2 new2 hb
    clear x0
    replace x1 := tr old2 x1 rfl
    replace x5 := f_at (old2 5 rfl) (Fk.mono _ _ _ _ x5 hb)
    replace x6 := tr old2 x6 rfl
    replace x14 := tr old2 x14 rfl
    replace x15 := tr old2 x15 rfl
    have x0 := Fk.e new2
    replace bl := bgo bl hb
    replace sd := sd2 sz2 df2 sd
    clear df2 sz2 old2 new2 hb
    clear x14
    refine wl_one (.eq (.int .i64 ((n2 - spl n2 : Nat) : Int))) rfl 1 rfl (by rw [sd.1]; decide) (st_assign (.tmp 15) rfl x15) ?_
    intro f8 w8 df2 sz2 old2 new2 hb
    clear x1
    replace x5 := f_at (old2 5 rfl) (Fk.mono _ _ _ _ x5 hb)
    replace x6 := tr old2 x6 rfl
    replace x15 := tr old2 x15 rfl
    replace x0 := tr old2 x0 rfl
    have x1 := Fk.e new2
    replace bl := bgo bl hb
    replace sd := sd2 sz2 df2 sd
    clear df2 sz2 old2 new2 hb
    refine wpList_nil ?_
    clear x15
    show Code.wp _ _ _ _ _
    refine wr_s [.ob w.heap.size (acc), .eq (.bool false), .ob w.heap.size ([false])] (by rw [sd.1]; kernel_rfl) ⟨fun hw ac u K => ?_, fun hw ac u K => ?_, fun hw ac u K => ?_, trivial⟩ ?_
    · exact st_move (.tmp 5) rfl (f_at (K.old 5 rfl) (Fk.mono _ _ _ _ x5 K.grow))
    · exact st_move (.tmp 6) rfl (K.t x6 rfl)
    · exact st_bo1b (.tmp 17) rfl _ (K.dep 1 17 rfl) _ (bgo bl K.grow).size
    intro f9 w9 A hb
    replace x5 := f_at (A.old 5 rfl) (Fk.mono _ _ _ _ x5 hb)
    replace x6 := A.t x6 rfl
    replace x0 := A.t x0 rfl
    replace x1 := A.t x1 rfl
    have x16 : Fk.f (.ob w.heap.size (acc)) (f9.eval (.tmp 16)) w9 := A.has 0 16 rfl
    have x18 : Fk.f (.ob w.heap.size ([false])) (f9.eval (.tmp 18)) w9 := A.has 2 18 rfl
    replace bl := bgo bl hb
    replace sd := A.sd sd
    clear A hb
    clear x6
    refine wl_appendo rfl (.tmp 16) (.tmp 18) rfl 19 rfl (by rw [sd.1]; decide) x16 x18 (by simp) bl (by simp only [List.length_cons, List.length_nil]; omega) ?_
    intro f10 w10 df2 sz2 old2 new2 bl2
    clear x5
    clear x16
    clear x18
    replace x0 := tr old2 x0 rfl
    replace x1 := tr old2 x1 rfl
    have x19 : Fk.f (.ob w.heap.size (acc ++ [false])) (f10.eval (.tmp 19)) w10 := new2
    replace bl := bl2
    replace bl0 := bl
    replace sd := sd2 sz2 df2 sd
    clear df2 sz2 old2 new2 bl2
    refine wl_one (.ob w.heap.size (acc ++ [false])) rfl 5 rfl (by rw [sd.1]; decide) (st_assign (.tmp 19) rfl x19) ?_
    intro f11 w11 df2 sz2 old2 new2 hb
    replace x0 := tr old2 x0 rfl
    replace x1 := tr old2 x1 rfl
    replace x19 := f_at (old2 19 rfl) (Fk.mono _ _ _ _ x19 hb)
    have x5 : Fk.f (.ob w.heap.size (acc ++ [false])) (f11.eval (.tmp 5)) w11 := new2
    replace bl := bgo bl hb
    replace sd := sd2 sz2 df2 sd
    clear df2 sz2 old2 new2 hb
    refine wpList_nil ?_
    clear x19
    show (∃ _, _) ∧ _
    refine ⟨⟨i2 - spl n2, n2 - spl n2, acc ++ [false], by rw [← hc, tdn_right h2 hlt, List.append_assoc]; rfl, by omega, by omega, sd.1, sd.2, x0, x1, x5, bl⟩, ?_⟩
    rw [show f11.eval (.tmp 1) = _ from x1, show _ = _ from hcnt]
    simp only [intOf, Int.toNat_natCast]
    omega
  refine wr_s [.eq (.int .i64 (i2 : Int)), .eq (.int .i64 (n2 : Int)), .eq (.tuple #[.bool true, .int .i64 (i2 : Int), .int .i64 ((spl n2 : Nat) : Int)]), .eq (.tuple #[.bool true, .int .i64 (i2 : Int), .int .i64 ((spl n2 : Nat) : Int)]), .eq (.bool true), .eq (.int .i64 (i2 : Int)), .eq (.int .i64 ((spl n2 : Nat) : Int)), .eq (.bool true)] (by rw [sd.1]; kernel_rfl) ⟨fun hw ac u K => ?_, fun hw ac u K => ?_, fun hw ac u K => ?_, fun hw ac u K => ?_, fun hw ac u K => ?_, fun hw ac u K => ?_, fun hw ac u K => ?_, fun hw ac u K => ?_, trivial⟩ ?_
  · exact st_move (.tmp 0) rfl (K.t x0 rfl)
  · exact st_move (.tmp 1) rfl (K.t x1 rfl)
  · exact st_call 61 (.func 61) _ _ _ rfl rfl (arg2 (K.dep 0 10 rfl) (K.dep 1 11 rfl)) Tryd.enter61 (fk_of (half_left h2 (by omega) hin hlt _))
  · exact st_move (.tmp 12) rfl (K.dep 2 12 rfl)
  · exact st_tri0 (.tmp 9) rfl (K.dep 3 9 rfl)
  · exact st_tri1 (.tmp 9) rfl (K.dep 3 9 rfl)
  · exact st_tri2 (.tmp 9) rfl (K.dep 3 9 rfl)
  · exact st_assign (.tmp 13) rfl (K.dep 4 13 rfl)
  intro f6 w6 A hb
  replace x0 := A.t x0 rfl
  replace x1 := A.t x1 rfl
  replace x5 := f_at (A.old 5 rfl) (Fk.mono _ _ _ _ x5 hb)
  have x6 := A.e 7 6 rfl rfl
  have x14 := A.e 5 14 rfl rfl
  have x15 := A.e 6 15 rfl rfl
  replace bl := bgo bl hb
  replace sd := A.sd sd
  clear A hb
  refine wl_one (.eq (.int .i64 (i2 : Int))) rfl 0 rfl (by rw [sd.1]; decide) (st_assign (.tmp 14) rfl x14) ?_
  intro f7 w7 df2 sz2 old2 new2 hb
  clear x0
  replace x1 := tr old2 x1 rfl
  replace x5 := f_at (old2 5 rfl) (Fk.mono _ _ _ _ x5 hb)
  replace x6 := tr old2 x6 rfl
  replace x14 := tr old2 x14 rfl
  replace x15 := tr old2 x15 rfl
  have x0 := Fk.e new2
  replace bl := bgo bl hb
  replace sd := sd2 sz2 df2 sd
  clear df2 sz2 old2 new2 hb
  clear x14
  refine wl_one (.eq (.int .i64 ((spl n2 : Nat) : Int))) rfl 1 rfl (by rw [sd.1]; decide) (st_assign (.tmp 15) rfl x15) ?_
  intro f8 w8 df2 sz2 old2 new2 hb
  clear x1
  replace x5 := f_at (old2 5 rfl) (Fk.mono _ _ _ _ x5 hb)
  replace x6 := tr old2 x6 rfl
  replace x15 := tr old2 x15 rfl
  replace x0 := tr old2 x0 rfl
  have x1 := Fk.e new2
  replace bl := bgo bl hb
  replace sd := sd2 sz2 df2 sd
  clear df2 sz2 old2 new2 hb
  refine wpList_nil ?_
  clear x15
  show Code.wp _ _ _ _ _
  refine wr_s [.ob w.heap.size (acc), .eq (.bool true), .ob w.heap.size ([true])] (by rw [sd.1]; kernel_rfl) ⟨fun hw ac u K => ?_, fun hw ac u K => ?_, fun hw ac u K => ?_, trivial⟩ ?_
  · exact st_move (.tmp 5) rfl (f_at (K.old 5 rfl) (Fk.mono _ _ _ _ x5 K.grow))
  · exact st_move (.tmp 6) rfl (K.t x6 rfl)
  · exact st_bo1b (.tmp 17) rfl _ (K.dep 1 17 rfl) _ (bgo bl K.grow).size
  intro f9 w9 A hb
  replace x5 := f_at (A.old 5 rfl) (Fk.mono _ _ _ _ x5 hb)
  replace x6 := A.t x6 rfl
  replace x0 := A.t x0 rfl
  replace x1 := A.t x1 rfl
  have x16 : Fk.f (.ob w.heap.size (acc)) (f9.eval (.tmp 16)) w9 := A.has 0 16 rfl
  have x18 : Fk.f (.ob w.heap.size ([true])) (f9.eval (.tmp 18)) w9 := A.has 2 18 rfl
  replace bl := bgo bl hb
  replace sd := A.sd sd
  clear A hb
  clear x6
  refine wl_appendo rfl (.tmp 16) (.tmp 18) rfl 19 rfl (by rw [sd.1]; decide) x16 x18 (by simp) bl (by simp only [List.length_cons, List.length_nil]; omega) ?_
  intro f10 w10 df2 sz2 old2 new2 bl2
  clear x5
  clear x16
  clear x18
  replace x0 := tr old2 x0 rfl
  replace x1 := tr old2 x1 rfl
  have x19 : Fk.f (.ob w.heap.size (acc ++ [true])) (f10.eval (.tmp 19)) w10 := new2
  replace bl := bl2
  replace bl0 := bl
  replace sd := sd2 sz2 df2 sd
  clear df2 sz2 old2 new2 bl2
  refine wl_one (.ob w.heap.size (acc ++ [true])) rfl 5 rfl (by rw [sd.1]; decide) (st_assign (.tmp 19) rfl x19) ?_
  intro f11 w11 df2 sz2 old2 new2 hb
  replace x0 := tr old2 x0 rfl
  replace x1 := tr old2 x1 rfl
  replace x19 := f_at (old2 19 rfl) (Fk.mono _ _ _ _ x19 hb)
  have x5 : Fk.f (.ob w.heap.size (acc ++ [true])) (f11.eval (.tmp 5)) w11 := new2
  replace bl := bgo bl hb
  replace sd := sd2 sz2 df2 sd
  clear df2 sz2 old2 new2 hb
  refine wpList_nil ?_
  clear x19
  show (∃ _, _) ∧ _
  refine ⟨⟨i2, spl n2, acc ++ [true], by rw [← hc, tdn_left h2 hlt, List.append_assoc]; rfl, by omega, by omega, sd.1, sd.2, x0, x1, x5, bl⟩, ?_⟩
  rw [show f11.eval (.tmp 1) = _ from x1, show _ = _ from hcnt]
  simp only [intOf, Int.toNat_natCast]
  omega
theorem mturns_any {m x n : Nat} (hm : m = x + 1) (hx : x < n) (h3 : n ≤ 1152921504606846976) (w : World) :
    Calls Tryd.prog 53 #[.int .i64 (m : Int), .int .i64 (n : Int)] w fun e w' => ∃ u, e = .returned u ∧ (Fk.ob w.heap.size (tdm x n).reverse).f u w' ∧ Below w.heap.size w w' := by
  have htl : (tdm x n).length ≤ 60 := by rw [tdm_len true hx]; exact stp_log n (x + 1) true 60 (by omega)
  go_enter Tryd.func53, Tryd.ntmps53
  refine code_both (fun f w1 => f.tmps.size = 30 ∧ f.defers = [] ∧ f.eval (.tmp 0) = .int .i64 (m : Int) ∧ f.eval (.tmp 1) = .int .i64 (n : Int) ∧ Below w.heap.size w (w1)) ⟨rfl, rfl, rfl, rfl, Below.refl _ _⟩ ?_
  rintro f0 w0 ⟨sz, df, x0, x1, bl⟩
  have sd := And.intro sz df
  clear sz df
  have bl0 := bl
  refine wp_seq ?_
  refine wr_a [.eq (.slice none 0 0)] (by rw [sd.1]; kernel_rfl) ⟨fun hw ac u K => ?_, trivial⟩ ?_
  · exact st_assign (.const (.slice none 0 0)) rfl rfl
  intro f1 w1 A hb
  replace x0 := A.t x0 rfl
  replace x1 := A.t x1 rfl
  replace bl := bgo bl hb
  replace sd := A.sd sd
  clear A hb
  show Code.wp _ _ _ _ _
  refine wp_seq ?_
  refine wp_seq ?_
  refine wr_a [.eq (.int .i64 (m : Int)), .eq (.bool false)] (by rw [sd.1]; kernel_rfl) ⟨fun hw ac u K => ?_, fun hw ac u K => ?_, trivial⟩ ?_
  · exact st_move (.tmp 0) rfl (K.t x0 rfl)
  · exact st_eqi 3 (.tmp 8) (.const (.int .i64 0)) rfl .i64 ((m : Int)) (0) (K.dep 0 8 rfl) rfl _ (by rw [eq_comm, decide_eq_false_iff_not]; omega)
  intro f2 w2 A hb
  replace x0 := A.t x0 rfl
  replace x1 := A.t x1 rfl
  have x9 := A.e 1 9 rfl rfl
  replace bl := bgo bl hb
  replace sd := A.sd sd
  clear A hb
  show Code.wp _ _ _ _ _
  refine wp_cond_false x9 ?_
  refine wp_skip ?_
  show Code.wp _ _ _ _ _
  refine wp_seq ?_
  refine wr_a [.eq (.slice none 0 0)] (by rw [sd.1]; kernel_rfl) ⟨fun hw ac u K => ?_, trivial⟩ ?_
  · exact st_assign (.const (.slice none 0 0)) rfl rfl
  intro f3 w3 A hb
  replace x0 := A.t x0 rfl
  replace x1 := A.t x1 rfl
  replace x9 := A.t x9 rfl
  have x5 := A.e 0 5 rfl rfl
  replace bl := bgo bl hb
  replace sd := A.sd sd
  clear A hb
  clear x9
  show Code.wp _ _ _ _ _
  refine wp_seq ?_
  refine wr_a [.eq (.int .i64 (m : Int)), .eq (.int .i64 (x : Int)), .eq (.int .i64 (x : Int))] (by rw [sd.1]; kernel_rfl) ⟨fun hw ac u K => ?_, fun hw ac u K => ?_, fun hw ac u K => ?_, trivial⟩ ?_
  · exact st_move (.tmp 0) rfl (K.t x0 rfl)
  · exact st_subz (.tmp 10) (.const (.int .i64 1)) rfl _ 1 _ (K.dep 0 10 rfl) rfl (by omega) (by omega) (by omega)
  · exact st_assign (.tmp 11) rfl (K.dep 1 11 rfl)
  intro f4 w4 A hb
  replace x0 := A.t x0 rfl
  replace x1 := A.t x1 rfl
  replace x5 := A.t x5 rfl
  have x6 := A.e 2 6 rfl rfl
  replace bl := bgo bl hb
  replace sd := A.sd sd
  clear A hb
  clear x0
  show Code.wp _ _ _ _ _
  refine wp_seq ?_
  refine wp_block ?_
  refine wp_loop (fun f v1 => ∃ (i2 n2 : Nat) (acc : List Bool), acc ++ tdm i2 n2 = tdm x n ∧ i2 < n2 ∧ n2 ≤ n ∧ f.tmps.size = 30 ∧ f.defers = [] ∧ f.eval (.tmp 6) = .int .i64 (i2 : Int) ∧ f.eval (.tmp 1) = .int .i64 (n2 : Int) ∧ Fk.f (.ob w.heap.size (acc)) (f.eval (.tmp 5)) v1 ∧ Below w.heap.size w (v1)) (fun f _ => (intOf (f.eval (.tmp 1))).toNat) ⟨x, n, [], rfl, hx, Nat.le_refl _, sd.1, sd.2, x6, x1, (fk_val x5 (ob_nil _ _)), bl⟩ ?_
  intro f5 w5 hI
  clear sd bl bl0 x1 x5 x6
  obtain ⟨i2, n2, acc, hc, hin, hn2, sz, df, x6, x1, x5, bl⟩ := hI
  have sd := And.intro sz df
  clear sz df
  have bl0 := bl
  refine wp_seq ?_
  refine wp_seq ?_
  have hcnt := x1
  have hal : acc.length ≤ 60 := by have h1 := congrArg List.length hc; rw [List.length_append] at h1; omega
  by_cases hgo : i2 + 1 < n2
  rotate_left
  · skip
    refine wr_a [.eq (.int .i64 (i2 : Int)), .eq (.int .i64 (n2 : Int)), .eq (.int .i64 ((n2 - 1 : Nat) : Int)), .eq (.bool false)] (by rw [sd.1]; kernel_rfl) ⟨fun hw ac u K => ?_, fun hw ac u K => ?_, fun hw ac u K => ?_, fun hw ac u K => ?_, trivial⟩ ?_
    · exact st_move (.tmp 6) rfl (K.t x6 rfl)
    · exact st_move (.tmp 1) rfl (K.t x1 rfl)
    · exact st_subz (.tmp 13) (.const (.int .i64 1)) rfl _ 1 _ (K.dep 1 13 rfl) rfl (by omega) (by omega) (by omega)
    · exact st_lss 3 (.tmp 12) (.tmp 14) rfl .i64 ((i2 : Int)) (((n2 - 1 : Nat) : Int)) (K.dep 0 12 rfl) (K.dep 2 14 rfl) _ (by rw [eq_comm, decide_eq_false_iff_not]; omega)
    intro f6 w6 A hb
    replace x1 := A.t x1 rfl
    replace x5 := f_at (A.old 5 rfl) (Fk.mono _ _ _ _ x5 hb)
    replace x6 := A.t x6 rfl
    have x15 := A.e 3 15 rfl rfl
    replace bl := bgo bl hb
    replace sd := A.sd sd
    clear A hb
    show Code.wp _ _ _ _ _
    refine wp_cond_false x15 ?_
    refine wp_exit ?_
    show Code.wp _ _ _ _ _
    refine wp_seq ?_
    rw [tdm_end (by omega), List.append_nil] at hc
    rw [hc] at x5
    obtain ⟨v5, e5⟩ : ∃ v, f6.eval (.tmp 5) = v := ⟨_, rfl⟩
    have h5 := x5
    rw [e5] at h5
    replace x5 := e5
    clear e5
    refine wr_s [.eq (v5)] (by rw [sd.1]; kernel_rfl) ⟨fun hw ac u K => ?_, trivial⟩ ?_
    · exact st_move (.tmp 5) rfl (K.t x5 rfl)
    intro f7 w7 A hb
    replace x1 := A.t x1 rfl
    replace x5 := A.t x5 rfl
    replace x6 := A.t x6 rfl
    replace x15 := A.t x15 rfl
    have x27 := A.e 0 27 rfl rfl
    replace h5 := Fk.mono _ _ _ _ h5 hb
    replace bl := bgo bl hb
    replace sd := A.sd sd
    clear A hb
    clear x15
    refine wl_call 62 (.func 62) _ _ #[v5] rfl 28 rfl (by rw [sd.1]; decide) rfl rfl (one_arg x27) Tryd.enter62 (fun u W' => (Fk.ob w.heap.size (tdm x n).reverse).f v5 W' ∧ Below w.heap.size w7 W') ((reverse_any h5 (by omega)).mono (by rintro e w' ⟨rfl, h1, h2⟩; exact ⟨_, rfl, h1, h2⟩)) ?_
    intro f8 w8 df2 sz2 old2 hR2
    replace x1 := tr old2 x1 rfl
    replace x5 := tr old2 x5 rfl
    replace x6 := tr old2 x6 rfl
    replace x27 := tr old2 x27 rfl
    replace h5 := hR2.1
    replace bl := bl.trans hR2.2
    replace bl0 := bl
    replace sd := sd2 sz2 df2 sd
    clear df2 sz2 old2 hR2
    refine wpList_nil ?_
    clear x27
    show Code.wp _ _ _ _ _
    refine wp_seq ?_
    refine wr_a [.eq (v5), .eq (v5)] (by rw [sd.1]; kernel_rfl) ⟨fun hw ac u K => ?_, fun hw ac u K => ?_, trivial⟩ ?_
    · exact st_move (.tmp 5) rfl (K.t x5 rfl)
    · exact st_assign (.tmp 29) rfl (K.dep 0 29 rfl)
    intro f9 w9 A hb
    replace x1 := A.t x1 rfl
    replace x5 := A.t x5 rfl
    replace x6 := A.t x6 rfl
    have x4 := A.e 1 4 rfl rfl
    replace h5 := Fk.mono _ _ _ _ h5 hb
    replace bl := bgo bl hb
    replace sd := A.sd sd
    clear A hb
    show Code.wp _ _ _ _ _
    refine wp_ret ?_
    repeat (first | with_reducible refine then_ret ?_ | with_reducible refine block_ret ?_)
    exact bodyPost_ret (v := v5) (ret_slot rfl f9 _ x4 _ _) sd.2 ⟨_, rfl, h5, bl⟩
  have h2 : 2 ≤ n2 := by omega
  have hs := spl_lt h2
  have hp := spl_pos n2
  refine wr_a [.eq (.int .i64 (i2 : Int)), .eq (.int .i64 (n2 : Int)), .eq (.int .i64 ((n2 - 1 : Nat) : Int)), .eq (.bool true)] (by rw [sd.1]; kernel_rfl) ⟨fun hw ac u K => ?_, fun hw ac u K => ?_, fun hw ac u K => ?_, fun hw ac u K => ?_, trivial⟩ ?_
  · exact st_move (.tmp 6) rfl (K.t x6 rfl)
  · exact st_move (.tmp 1) rfl (K.t x1 rfl)
  · exact st_subz (.tmp 13) (.const (.int .i64 1)) rfl _ 1 _ (K.dep 1 13 rfl) rfl (by omega) (by omega) (by omega)
  · exact st_lss 3 (.tmp 12) (.tmp 14) rfl .i64 ((i2 : Int)) (((n2 - 1 : Nat) : Int)) (K.dep 0 12 rfl) (K.dep 2 14 rfl) _ (by rw [eq_comm, decide_eq_true_iff]; omega)
  intro f6 w6 A hb
  replace x1 := A.t x1 rfl
  replace x5 := f_at (A.old 5 rfl) (Fk.mono _ _ _ _ x5 hb)
  replace x6 := A.t x6 rfl
  have x15 := A.e 3 15 rfl rfl
  replace bl := bgo bl hb
  replace sd := A.sd sd
  clear A hb
  show Code.wp _ _ _ _ _
  refine wp_cond_true x15 ?_
  refine wp_skip ?_
  show Code.wp _ _ _ _ _
  refine wp_block ?_
  refine wp_seq ?_
  refine wr_a [.eq (.bool false)] (by rw [sd.1]; kernel_rfl) ⟨fun hw ac u K => ?_, trivial⟩ ?_
  · exact st_assign (.const (.bool false)) rfl rfl
  intro f7 w7 A hb
  replace x1 := A.t x1 rfl
  replace x5 := f_at (A.old 5 rfl) (Fk.mono _ _ _ _ x5 hb)
  replace x6 := A.t x6 rfl
  replace x15 := A.t x15 rfl
  replace bl := bgo bl hb
  replace sd := A.sd sd
  clear A hb
  clear x15
  show Code.wp _ _ _ _ _
  refine wp_seq ?_
  by_cases hlt : i2 < spl n2
  rotate_left
  · skip
    refine wr_s [.eq (.int .i64 (i2 : Int)), .eq (.int .i64 (n2 : Int)), .eq (.tuple #[.bool false, .int .i64 ((i2 - spl n2 : Nat) : Int), .int .i64 ((n2 - spl n2 : Nat) : Int)]), .eq (.tuple #[.bool false, .int .i64 ((i2 - spl n2 : Nat) : Int), .int .i64 ((n2 - spl n2 : Nat) : Int)]), .eq (.bool false), .eq (.int .i64 ((i2 - spl n2 : Nat) : Int)), .eq (.int .i64 ((n2 - spl n2 : Nat) : Int)), .eq (.bool false)] (by rw [sd.1]; kernel_rfl) ⟨fun hw ac u K => ?_, fun hw ac u K => ?_, fun hw ac u K => ?_, fun hw ac u K => ?_, fun hw ac u K => ?_, fun hw ac u K => ?_, fun hw ac u K => ?_, fun hw ac u K => ?_, trivial⟩ ?_
    · exact st_move (.tmp 6) rfl (K.t x6 rfl)
    · exact st_move (.tmp 1) rfl (K.t x1 rfl)
    · exact st_call 61 (.func 61) _ _ _ rfl rfl (arg2 (K.dep 0 17 rfl) (K.dep 1 18 rfl)) Tryd.enter61 (fk_of (half_right h2 (by omega) hin hlt _))
    · exact st_move (.tmp 19) rfl (K.dep 2 19 rfl)
    · exact st_tri0 (.tmp 16) rfl (K.dep 3 16 rfl)
    · exact st_tri1 (.tmp 16) rfl (K.dep 3 16 rfl)
    · exact st_tri2 (.tmp 16) rfl (K.dep 3 16 rfl)
    · exact st_assign (.tmp 20) rfl (K.dep 4 20 rfl)
    intro f8 w8 A hb
    replace x1 := A.t x1 rfl
    replace x5 := f_at (A.old 5 rfl) (Fk.mono _ _ _ _ x5 hb)
    replace x6 := A.t x6 rfl
    have x7 := A.e 7 7 rfl rfl
    have x21 := A.e 5 21 rfl rfl
    have x22 := A.e 6 22 rfl rfl
    replace bl := bgo bl hb
    replace sd := A.sd sd
    clear A hb
    refine wl_one (.eq (.int .i64 ((i2 - spl n2 : Nat) : Int))) rfl 6 rfl (by rw [sd.1]; decide) (st_assign (.tmp 21) rfl x21) ?_
    intro f9 w9 df2 sz2 old2 new2 hb
    replace x1 := tr old2 x1 rfl
    replace x5 := f_at (old2 5 rfl) (Fk.mono _ _ _ _ x5 hb)
    clear x6
    replace x7 := tr old2 x7 rfl
    replace x21 := tr old2 x21 rfl
    replace x22 := tr old2 x22 rfl
    have x6 := Fk.e new2
    replace bl := bgo bl hb
    replace sd := sd2 sz2 df2 sd
    clear df2 sz2 old2 new2 hb
    clear x21
    refine wl_one (.eq (.int .i64 ((n2 - spl n2 : Nat) : Int))) rfl 1 rfl (by rw [sd.1]; decide) (st_assign (.tmp 22) rfl x22) ?_
    intro f10 w10 df2 sz2 old2 new2 hb
    clear x1
    replace x5 := f_at (old2 5 rfl) (Fk.mono _ _ _ _ x5 hb)
    replace x7 := tr old2 x7 rfl
    replace x22 := tr old2 x22 rfl
    replace x6 := tr old2 x6 rfl
    have x1 := Fk.e new2
    replace bl := bgo bl hb
    replace sd := sd2 sz2 df2 sd
    clear df2 sz2 old2 new2 hb
    refine wpList_nil ?_
    clear x22
    show Code.wp _ _ _ _ _
    refine wr_s [.ob w.heap.size (acc), .eq (.bool false), .ob w.heap.size ([false])] (by rw [sd.1]; kernel_rfl) ⟨fun hw ac u K => ?_, fun hw ac u K => ?_, fun hw ac u K => ?_, trivial⟩ ?_
    · exact st_move (.tmp 5) rfl (f_at (K.old 5 rfl) (Fk.mono _ _ _ _ x5 K.grow))
    · exact st_move (.tmp 7) rfl (K.t x7 rfl)
    · exact st_bo1b (.tmp 24) rfl _ (K.dep 1 24 rfl) _ (bgo bl K.grow).size
    intro f11 w11 A hb
    replace x5 := f_at (A.old 5 rfl) (Fk.mono _ _ _ _ x5 hb)
    replace x7 := A.t x7 rfl
    replace x6 := A.t x6 rfl
    replace x1 := A.t x1 rfl
    have x23 : Fk.f (.ob w.heap.size (acc)) (f11.eval (.tmp 23)) w11 := A.has 0 23 rfl
    have x25 : Fk.f (.ob w.heap.size ([false])) (f11.eval (.tmp 25)) w11 := A.has 2 25 rfl
    replace bl := bgo bl hb
    replace sd := A.sd sd
    clear A hb
    clear x7
    refine wl_appendo rfl (.tmp 23) (.tmp 25) rfl 26 rfl (by rw [sd.1]; decide) x23 x25 (by simp) bl (by simp only [List.length_cons, List.length_nil]; omega) ?_
    intro f12 w12 df2 sz2 old2 new2 bl2
    clear x5
    clear x23
    clear x25
    replace x6 := tr old2 x6 rfl
    replace x1 := tr old2 x1 rfl
    have x26 : Fk.f (.ob w.heap.size (acc ++ [false])) (f12.eval (.tmp 26)) w12 := new2
    replace bl := bl2
    replace bl0 := bl
    replace sd := sd2 sz2 df2 sd
    clear df2 sz2 old2 new2 bl2
    refine wl_one (.ob w.heap.size (acc ++ [false])) rfl 5 rfl (by rw [sd.1]; decide) (st_assign (.tmp 26) rfl x26) ?_
    intro f13 w13 df2 sz2 old2 new2 hb
    replace x6 := tr old2 x6 rfl
    replace x1 := tr old2 x1 rfl
    replace x26 := f_at (old2 26 rfl) (Fk.mono _ _ _ _ x26 hb)
    have x5 : Fk.f (.ob w.heap.size (acc ++ [false])) (f13.eval (.tmp 5)) w13 := new2
    replace bl := bgo bl hb
    replace sd := sd2 sz2 df2 sd
    clear df2 sz2 old2 new2 hb
    refine wpList_nil ?_
    clear x26
    show (∃ _, _) ∧ _
    refine ⟨⟨i2 - spl n2, n2 - spl n2, acc ++ [false], by rw [← hc, tdm_right hgo hlt, List.append_assoc]; rfl, by omega, by omega, sd.1, sd.2, x6, x1, x5, bl⟩, ?_⟩
    rw [show f13.eval (.tmp 1) = _ from x1, show _ = _ from hcnt]
    simp only [intOf, Int.toNat_natCast]
    omega
  refine wr_s [.eq (.int .i64 (i2 : Int)), .eq (.int .i64 (n2 : Int)), .eq (.tuple #[.bool true, .int .i64 (i2 : Int), .int .i64 ((spl n2 : Nat) : Int)]), .eq (.tuple #[.bool true, .int .i64 (i2 : Int), .int .i64 ((spl n2 : Nat) : Int)]), .eq (.bool true), .eq (.int .i64 (i2 : Int)), .eq (.int .i64 ((spl n2 : Nat) : Int)), .eq (.bool true)] (by rw [sd.1]; kernel_rfl) ⟨fun hw ac u K => ?_, fun hw ac u K => ?_, fun hw ac u K => ?_, fun hw ac u K => ?_, fun hw ac u K => ?_, fun hw ac u K => ?_, fun hw ac u K => ?_, fun hw ac u K => ?_, trivial⟩ ?_
  · exact st_move (.tmp 6) rfl (K.t x6 rfl)
  · exact st_move (.tmp 1) rfl (K.t x1 rfl)
  · exact st_call 61 (.func 61) _ _ _ rfl rfl (arg2 (K.dep 0 17 rfl) (K.dep 1 18 rfl)) Tryd.enter61 (fk_of (half_left h2 (by omega) hin hlt _))
  · exact st_move (.tmp 19) rfl (K.dep 2 19 rfl)
  · exact st_tri0 (.tmp 16) rfl (K.dep 3 16 rfl)
  · exact st_tri1 (.tmp 16) rfl (K.dep 3 16 rfl)
  · exact st_tri2 (.tmp 16) rfl (K.dep 3 16 rfl)
  · exact st_assign (.tmp 20) rfl (K.dep 4 20 rfl)
  intro f8 w8 A hb
  replace x1 := A.t x1 rfl
  replace x5 := f_at (A.old 5 rfl) (Fk.mono _ _ _ _ x5 hb)
  replace x6 := A.t x6 rfl
  have x7 := A.e 7 7 rfl rfl
  have x21 := A.e 5 21 rfl rfl
  have x22 := A.e 6 22 rfl rfl
  replace bl := bgo bl hb
  replace sd := A.sd sd
  clear A hb
  refine wl_one (.eq (.int .i64 (i2 : Int))) rfl 6 rfl (by rw [sd.1]; decide) (st_assign (.tmp 21) rfl x21) ?_
  intro f9 w9 df2 sz2 old2 new2 hb
  replace x1 := tr old2 x1 rfl
  replace x5 := f_at (old2 5 rfl) (Fk.mono _ _ _ _ x5 hb)
  clear x6
  replace x7 := tr old2 x7 rfl
  replace x21 := tr old2 x21 rfl
  replace x22 := tr old2 x22 rfl
  have x6 := Fk.e new2
  replace bl := bgo bl hb
  replace sd := sd2 sz2 df2 sd
  clear df2 sz2 old2 new2 hb
  clear x21
  refine wl_one (.eq (.int .i64 ((spl n2 : Nat) : Int))) rfl 1 rfl (by rw [sd.1]; decide) (st_assign (.tmp 22) rfl x22) ?_
  intro f10 w10 df2 sz2 old2 new2 hb
  clear x1
  replace x5 := f_at (old2 5 rfl) (Fk.mono _ _ _ _ x5 hb)
  replace x7 := tr old2 x7 rfl
  replace x22 := tr old2 x22 rfl
  replace x6 := tr old2 x6 rfl
  have x1 := Fk.e new2
  replace bl := bgo bl hb
  replace sd := sd2 sz2 df2 sd
  clear df2 sz2 old2 new2 hb
  refine wpList_nil ?_
  clear x22
  show Code.wp _ _ _ _ _
  refine wr_s [.ob w.heap.size (acc), .eq (.bool true), .ob w.heap.size ([true])] (by rw [sd.1]; kernel_rfl) ⟨fun hw ac u K => ?_, fun hw ac u K => ?_, fun hw ac u K => ?_, trivial⟩ ?_
  · exact st_move (.tmp 5) rfl (f_at (K.old 5 rfl) (Fk.mono _ _ _ _ x5 K.grow))
  · exact st_move (.tmp 7) rfl (K.t x7 rfl)
  · exact st_bo1b (.tmp 24) rfl _ (K.dep 1 24 rfl) _ (bgo bl K.grow).size
  intro f11 w11 A hb
  replace x5 := f_at (A.old 5 rfl) (Fk.mono _ _ _ _ x5 hb)
  replace x7 := A.t x7 rfl
  replace x6 := A.t x6 rfl
  replace x1 := A.t x1 rfl
  have x23 : Fk.f (.ob w.heap.size (acc)) (f11.eval (.tmp 23)) w11 := A.has 0 23 rfl
  have x25 : Fk.f (.ob w.heap.size ([true])) (f11.eval (.tmp 25)) w11 := A.has 2 25 rfl
  replace bl := bgo bl hb
  replace sd := A.sd sd
  clear A hb
  clear x7
  refine wl_appendo rfl (.tmp 23) (.tmp 25) rfl 26 rfl (by rw [sd.1]; decide) x23 x25 (by simp) bl (by simp only [List.length_cons, List.length_nil]; omega) ?_
  intro f12 w12 df2 sz2 old2 new2 bl2
  clear x5
  clear x23
  clear x25
  replace x6 := tr old2 x6 rfl
  replace x1 := tr old2 x1 rfl
  have x26 : Fk.f (.ob w.heap.size (acc ++ [true])) (f12.eval (.tmp 26)) w12 := new2
  replace bl := bl2
  replace bl0 := bl
  replace sd := sd2 sz2 df2 sd
  clear df2 sz2 old2 new2 bl2
  refine wl_one (.ob w.heap.size (acc ++ [true])) rfl 5 rfl (by rw [sd.1]; decide) (st_assign (.tmp 26) rfl x26) ?_
  intro f13 w13 df2 sz2 old2 new2 hb
  replace x6 := tr old2 x6 rfl
  replace x1 := tr old2 x1 rfl
  replace x26 := f_at (old2 26 rfl) (Fk.mono _ _ _ _ x26 hb)
  have x5 : Fk.f (.ob w.heap.size (acc ++ [true])) (f13.eval (.tmp 5)) w13 := new2
  replace bl := bgo bl hb
  replace sd := sd2 sz2 df2 sd
  clear df2 sz2 old2 new2 hb
  refine wpList_nil ?_
  clear x26
  show (∃ _, _) ∧ _
  refine ⟨⟨i2, spl n2, acc ++ [true], by rw [← hc, tdm_left hgo hlt, List.append_assoc]; rfl, by omega, by omega, sd.1, sd.2, x6, x1, x5, bl⟩, ?_⟩
  rw [show f13.eval (.tmp 1) = _ from x1, show _ = _ from hcnt]
  simp only [intOf, Int.toNat_natCast]
  omega
theorem mturns_zero (n : Int) (w : World) :
    Calls Tryd.prog 53 #[.int .i64 0, .int .i64 n] w fun e w' => ∃ u, e = .returned u ∧ (Fk.ob w.heap.size []).f u w' ∧ Below w.heap.size w w' := by
  go_enter Tryd.func53, Tryd.ntmps53
  refine code_both (fun f w1 => f.tmps.size = 30 ∧ f.defers = [] ∧ f.eval (.tmp 0) = .int .i64 0 ∧ f.eval (.tmp 1) = .int .i64 n ∧ Below w.heap.size w (w1)) ⟨rfl, rfl, rfl, rfl, Below.refl _ _⟩ ?_
  rintro f0 w0 ⟨sz, df, x0, x1, bl⟩
  have sd := And.intro sz df
  clear sz df
  have bl0 := bl
  refine wp_seq ?_
  refine wr_a [.eq (.slice none 0 0)] (by rw [sd.1]; kernel_rfl) ⟨fun hw ac u K => ?_, trivial⟩ ?_
  · exact st_assign (.const (.slice none 0 0)) rfl rfl
  intro f1 w1 A hb
  replace x0 := A.t x0 rfl
  replace x1 := A.t x1 rfl
  replace bl := bgo bl hb
  replace sd := A.sd sd
  clear A hb
  show Code.wp _ _ _ _ _
  refine wp_seq ?_
  refine wp_seq ?_
  refine wr_a [.eq (.int .i64 0), .eq (.bool true)] (by rw [sd.1]; kernel_rfl) ⟨fun hw ac u K => ?_, fun hw ac u K => ?_, trivial⟩ ?_
  · exact st_move (.tmp 0) rfl (K.t x0 rfl)
  · exact st_eqi 3 (.tmp 8) (.const (.int .i64 0)) rfl .i64 (0) (0) (K.dep 0 8 rfl) rfl _ (by rfl)
  intro f2 w2 A hb
  replace x0 := A.t x0 rfl
  replace x1 := A.t x1 rfl
  have x9 := A.e 1 9 rfl rfl
  replace bl := bgo bl hb
  replace sd := A.sd sd
  clear A hb
  show Code.wp _ _ _ _ _
  refine wp_cond_true x9 ?_
  refine wp_seq ?_
  refine wr_a [.eq (.slice none 0 0)] (by rw [sd.1]; kernel_rfl) ⟨fun hw ac u K => ?_, trivial⟩ ?_
  · exact st_assign (.const (.slice none 0 0)) rfl rfl
  intro f3 w3 A hb
  replace x0 := A.t x0 rfl
  replace x1 := A.t x1 rfl
  replace x9 := A.t x9 rfl
  have x4 := A.e 0 4 rfl rfl
  replace bl := bgo bl hb
  replace sd := A.sd sd
  clear A hb
  clear x0
  clear x1
  clear x9
  show Code.wp _ _ _ _ _
  refine wp_ret ?_
  repeat (first | with_reducible refine then_ret ?_ | with_reducible refine block_ret ?_)
  exact bodyPost_ret (v := .slice none 0 0) (ret_slot rfl f3 _ x4 _ _) sd.2 ⟨_, rfl, ob_nil _ _, bl⟩
end Go.Proofs.YtfmeeimhfdnjpaaDoor
