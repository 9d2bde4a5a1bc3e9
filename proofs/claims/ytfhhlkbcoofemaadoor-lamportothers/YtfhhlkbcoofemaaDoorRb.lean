/- Steps over numbers, slice variables and rows of 512 hashes; the calls of lamport as steps meet them. -/
import Derived.Test.YtfhhlkbcoofemaaDoorRa
import Derived.Deep.MidRow
namespace Go.Proofs.YtfhhlkbcoofemaaDoor
open Go.RowKit
theorem sc_to (seed : List (BitVec 8)) (key : Int) (p b : Nat) (w : World) (hx : seed.length = 32) (hp : p ≤ 255) (hb : b ≤ 1) (hK : Tab w) {y : List (BitVec 8)} (hy : Box (sc seed key p b = y)) :
    Calls Tryd.prog 17 #[.agg (seed.map V).toArray, .int .i64 key, .int .i64 (p : Int), .int .i64 (b : Int)] w fun e w' => e = .returned (.agg (y.map V).toArray) ∧ Below w.heap.size w w' := by
  rw [← hy.out]; exact sc_any seed key p b w hx hp hb hK
theorem en_to (x : List (BitVec 8)) (p b : Nat) (w : World) (hx : x.length = 32) (hp : p ≤ 255) (hK : Tab w) {y : List (BitVec 8)} (hy : Box (en x p b = y)) :
    Calls Tryd.prog 16 #[.agg (x.map V).toArray, .int .i64 (p : Int), .int .i64 (b : Int)] w fun e w' => e = .returned (.agg (y.map V).toArray) ∧ Below w.heap.size w w' := by
  rw [← hy.out]; exact en_any x p b w hx hp hK
theorem ref_to (h : List (BitVec 8)) (k : Nat) (w : World) (hh : h.length = 32) (hk : k < 256) {b : Nat} (hb : bt h k = b) :
    Calls Tryd.prog 11 #[.agg (h.map V).toArray, .int .i64 (k : Int)] w fun e w' => e = .returned (.int .i64 (b : Int)) ∧ Below w.heap.size w w' := by
  rw [← hb]; exact ref_any h k w hh hk
theorem fk_public_to {hs : List (List (BitVec 8))} {v : Value} {w : World} (hN : hs.length ≤ 1000) (hK : Tab w) (h : (Fk.hs hs).f v w) {y : List (BitVec 8)} (hy : Box (pub hs = y)) : Calls Tryd.prog 10 #[v] w fun e w' => ∃ u, e = .returned u ∧ (Fk.eq (.agg (y.map V).toArray)).f u w' ∧ Below w.heap.size w w' := by
  rw [← hy.out]; exact fk_public hN hK h
theorem Tryd.enter6 (args : Array Value) (w : World) : (callFunc 6 args).run Tryd.prog w = .ok (.enter 6 args) w := by kernel_rfl
theorem Tryd.enter7 (args : Array Value) (w : World) : (callFunc 7 args).run Tryd.prog w = .ok (.enter 7 args) w := by kernel_rfl
theorem Tryd.enter8 (args : Array Value) (w : World) : (callFunc 8 args).run Tryd.prog w = .ok (.enter 8 args) w := by kernel_rfl
theorem Tryd.enter9 (args : Array Value) (w : World) : (callFunc 9 args).run Tryd.prog w = .ok (.enter 9 args) w := by kernel_rfl
theorem Tryd.enter11 (args : Array Value) (w : World) : (callFunc 11 args).run Tryd.prog w = .ok (.enter 11 args) w := by kernel_rfl
theorem Tryd.enter13 (args : Array Value) (w : World) : (callFunc 13 args).run Tryd.prog w = .ok (.enter 13 args) w := by kernel_rfl
theorem Tryd.enter15 (args : Array Value) (w : World) : (callFunc 15 args).run Tryd.prog w = .ok (.enter 15 args) w := by kernel_rfl
theorem Tryd.enter16 (args : Array Value) (w : World) : (callFunc 16 args).run Tryd.prog w = .ok (.enter 16 args) w := by kernel_rfl
theorem Tryd.enter17 (args : Array Value) (w : World) : (callFunc 17 args).run Tryd.prog w = .ok (.enter 17 args) w := by kernel_rfl
theorem Tryd.isAgg27 (w : World) : (isAgg 27).run Tryd.prog w = .ok false w := by kernel_rfl
/-- A pointer to a variable that holds v. -/
def Fk.pv (u : Value) : Fk := .inr (.inl ⟨fun v w => ∃ b o, v = .pointer (some ⟨b, o, none⟩) ∧ w.cell? ⟨b, o, none⟩ = some u, by
  rintro v w w' ⟨b, o, e, h⟩ hb
  exact ⟨b, o, e, by rw [hb.cell (block_lt_of_cell h)]; exact h⟩⟩)
/-- A pointer to a variable that holds a slice of hashes. -/
def Fk.pw (hs : List (List (BitVec 8))) : Fk := .inr (.inl ⟨fun v w => ∃ b o u, v = .pointer (some ⟨b, o, none⟩) ∧ w.cell? ⟨b, o, none⟩ = some u ∧ (Fk.hs hs).f u w, by
  rintro v w w' ⟨b, o, u, e, h, h2⟩ hb
  exact ⟨b, o, u, e, by rw [hb.cell (block_lt_of_cell h)]; exact h, Fk.mono _ _ _ _ h2 hb⟩⟩)
section
variable {Q : Exit → Act → World → Prop} {o : Oper} {a : Act} {w : World} {q : Fk} {ops : Array Oper} {rest : List Oper}
theorem st_loadv (x : Operand) (ho : o.op = .load 27 x) {u : Value} (h : (Fk.pv u).f (a.eval x) w) : o.wp Tryd.prog a w (Ends a o.dst w (Fk.eq u).f) Q := by
  obtain ⟨b, so, e, hc⟩ := h
  refine st_pure (v := u) ?_ rfl
  have h1 : (isAgg 27).run Tryd.prog w = .ok false w := Tryd.isAgg27 w
  unfold execOp
  rw [ho]
  simp [e, Instr.loadAt, Instr.sureAddr, loadVar, h1, run_load, hc]
theorem st_loadw (x : Operand) (ho : o.op = .load 27 x) {hs : List (List (BitVec 8))} (h : (Fk.pw hs).f (a.eval x) w) : o.wp Tryd.prog a w (Ends a o.dst w (Fk.hs hs).f) Q := by
  obtain ⟨b, so, u, e, hc, hu⟩ := h
  refine st_pure (v := u) ?_ hu
  have h1 : (isAgg 27).run Tryd.prog w = .ok false w := Tryd.isAgg27 w
  unfold execOp
  rw [ho]
  simp [e, Instr.loadAt, Instr.sureAddr, loadVar, h1, run_load, hc]
theorem st_idxrow (x y : Operand) (ho : o.op = .indexAddr 27 x y) (g i : Nat) (hx : a.eval x = .slice (some ⟨g, 0, none⟩) 512 512) (hy : a.eval y = .int .i64 (i : Int)) (hi : i < 512) : o.wp Tryd.prog a w (Ends a o.dst w (Fk.eq (.pointer (some ⟨g, i * 32, none⟩))).f) Q := by
  refine st_pure (v := .pointer (some ⟨g, i * 32, none⟩)) ?_ rfl
  have h1 := run_indexAt_slice (P := Tryd.prog) (w := w) 27 ⟨g, 0, none⟩ 512 512 .i64 (i : Int) (by rw [Tryd.elem27]; exact Tryd.under27')
  rw [if_pos (by omega), Tryd.elem27, Tryd.sizeOf23] at h1
  simp only [Result.andThen_ok, Int.toNat_natCast, Addr.add_mid, Nat.zero_add] at h1
  unfold execOp
  rw [ho]
  simp [hx, hy, h1]
theorem st_add (x y : Operand) (ho : o.op = .binOp .add 3 x y 3) (m n e : Nat) (hx : a.eval x = .int .i64 (m : Int)) (hy : a.eval y = .int .i64 (n : Int)) (he : e = m + n) (hk : e ≤ 1000000) : o.wp Tryd.prog a w (Ends a o.dst w (Fk.eq (.int .i64 (e : Int))).f) Q := by
  refine st_pure (v := .int .i64 (e : Int)) ?_ rfl
  unfold execOp
  rw [ho]
  have hw : IntKind.i64.wrap ((m : Int) + (n : Int)) = (e : Int) := by rw [IntKind.wrap_i64]; omega
  simp [hx, hy, eqGuard, binOp, Op.intArith, hw]
theorem st_sub (x y : Operand) (ho : o.op = .binOp .sub 3 x y 3) (m n e : Nat) (hx : a.eval x = .int .i64 (m : Int)) (hy : a.eval y = .int .i64 (n : Int)) (he : e + n = m) (hk : m ≤ 1000000) : o.wp Tryd.prog a w (Ends a o.dst w (Fk.eq (.int .i64 (e : Int))).f) Q := by
  refine st_pure (v := .int .i64 (e : Int)) ?_ rfl
  unfold execOp
  rw [ho]
  have hw : IntKind.i64.wrap ((m : Int) - (n : Int)) = (e : Int) := by rw [IntKind.wrap_i64]; omega
  simp [hx, hy, eqGuard, binOp, Op.intArith, hw]
theorem st_mul (x y : Operand) (ho : o.op = .binOp .mul 3 x y 3) (m n e : Nat) (hx : a.eval x = .int .i64 (m : Int)) (hy : a.eval y = .int .i64 (n : Int)) (he : e = m * n) (hk : e ≤ 1000000) : o.wp Tryd.prog a w (Ends a o.dst w (Fk.eq (.int .i64 (e : Int))).f) Q := by
  refine st_pure (v := .int .i64 (e : Int)) ?_ rfl
  unfold execOp
  rw [ho]
  have hw : IntKind.i64.wrap ((m : Int) * (n : Int)) = (e : Int) := by rw [show (m : Int) * (n : Int) = (e : Int) by rw [he]; simp, IntKind.wrap_i64]; omega
  simp [hx, hy, eqGuard, binOp, Op.intArith, hw]
theorem wl_storew (hgd : o.guard = none) (x y : Operand) (ho : o.op = .store 23 x y) (hd : o.dst = none) (g i : Nat) (zs : List (BitVec 8)) (hs : List (List (BitVec 8))) (hx : a.eval x = .pointer (some ⟨g, i * 32, none⟩)) (hy : a.eval y = .agg (zs.map V).toArray) (hR : Rw w g hs) (hi : i < hs.length) (hz : zs.length = 32)
    (h : wpList Tryd.prog ops Q rest a (w.setCells g (i * 32) (zs.map V))) : wpList Tryd.prog ops Q (o :: rest) a w := by
  refine wpList_store_mid hgd 23 x y ho g (i * 32) (zs.map V).toArray hx hy (by rw [List.size_toArray, List.length_map, hz]; exact hR.there i hi) (by rw [List.size_toArray, List.length_map, hz]; exact Tryd.size23) (V_all _) ?_
  rw [hd]
  exact h
theorem st_exth (x : Operand) (ho : o.op = .extract x 0) {hs : List (List (BitVec 8))} {n : Int} (h : (Fk.th hs n).f (a.eval x) w) : o.wp Tryd.prog a w (Ends a o.dst w (Fk.hs hs).f) Q := by
  obtain ⟨u, e, hu⟩ := h
  exact st_ext0 x ho e hu
theorem st_extn (x : Operand) (ho : o.op = .extract x 1) {hs : List (List (BitVec 8))} {n : Int} (h : (Fk.th hs n).f (a.eval x) w) : o.wp Tryd.prog a w (Ends a o.dst w (Fk.eq (.int .i64 n)).f) Q := by
  obtain ⟨u, e, hu⟩ := h
  exact st_ext1 x ho e rfl
end
/-- Two of each place, when some of the bits have come. -/
def ToldH (F : Nat → List (BitVec 8)) (pre : List (Fin 256)) (hs : List (List (BitVec 8))) : Prop := hs.length = 512 ∧ ∀ p ∈ pre, hs[2 * p.val]? = some (F (2 * p.val)) ∧ hs[2 * p.val + 1]? = some (F (2 * p.val + 1))
theorem z512_len : z512.length = 512 := by unfold z512; rw [List.length_replicate]
theorem toldH_nil (F : Nat → List (BitVec 8)) : ToldH F [] z512 := ⟨z512_len, fun _ hp => by cases hp⟩
theorem toldH_snoc {F : Nat → List (BitVec 8)} {pre : List (Fin 256)} {hs : List (List (BitVec 8))} (ht : ToldH F pre hs) (p : Fin 256) (i j : Nat) (h : (i = 2 * p.val ∧ j = 2 * p.val + 1) ∨ (j = 2 * p.val ∧ i = 2 * p.val + 1)) :
    ToldH F (pre ++ [p]) ((hs.set i (F i)).set j (F j)) := by
  have hp := p.isLt
  have hl := ht.1
  have hat : ∀ k, k = i ∨ k = j → ((hs.set i (F i)).set j (F j))[k]? = some (F k) := by
    intro k hk
    by_cases e : j = k
    · subst e; rw [List.getElem?_set_self (by rw [List.length_set, hl]; omega)]
    · rw [List.getElem?_set_ne e]
      obtain rfl : k = i := by omega
      rw [List.getElem?_set_self (by rw [hl]; omega)]
  refine ⟨by rw [List.length_set, List.length_set]; exact hl, fun q hq => ?_⟩
  by_cases e : q = p
  · subst e
    exact ⟨hat _ (by omega), hat _ (by omega)⟩
  · have e' : q.val ≠ p.val := fun h => e (Fin.ext h)
    rw [List.getElem?_set_ne (by omega), List.getElem?_set_ne (by omega), List.getElem?_set_ne (by omega), List.getElem?_set_ne (by omega)]
    rcases List.mem_append.1 hq with h1 | h1
    · exact ht.2 q h1
    · exact absurd (List.mem_singleton.1 h1) e
theorem toldH_all {F : Nat → List (BitVec 8)} {hs : List (List (BitVec 8))} (ht : ToldH F (ups 256) hs) : hs = all512 F := by
  apply List.ext_getElem?
  intro i
  by_cases hi : i < 512
  · rw [all_at F i hi]
    have := ht.2 ⟨i / 2, by omega⟩ (ups_all _)
    simp only at this
    rcases Nat.mod_two_eq_zero_or_one i with h | h
    · rw [show i = 2 * (i / 2) by omega]; exact this.1
    · rw [show i = 2 * (i / 2) + 1 by omega]; exact this.2
  · rw [List.getElem?_eq_none (by rw [ht.1]; omega), List.getElem?_eq_none (by rw [all_len]; omega)]
/-- What a signature has at number i. -/
def sgOf (seed : List (BitVec 8)) (key : Int) (h : List (BitVec 8)) (i : Nat) : List (BitVec 8) :=
  if i % 2 = 0 then sc seed key (i / 2) (bt h (i / 2)) else en (sc seed key (i / 2) (1 - bt h (i / 2))) (i / 2) (1 - bt h (i / 2))
theorem sgOf_len (seed : List (BitVec 8)) (key : Int) (h : List (BitVec 8)) (i : Nat) : (sgOf seed key h i).length = 32 := by
  unfold sgOf
  split
  · exact sc_len _ _ _ _
  · exact en_len _ _ _
theorem sgOf_even (seed : List (BitVec 8)) (key : Int) (h : List (BitVec 8)) (p : Nat) : sgOf seed key h (2 * p) = sc seed key p (bt h p) := by
  unfold sgOf
  rw [if_pos (by omega), show 2 * p / 2 = p by omega]
theorem sgOf_odd (seed : List (BitVec 8)) (key : Int) (h : List (BitVec 8)) (p : Nat) : sgOf seed key h (2 * p + 1) = en (sc seed key p (1 - bt h p)) p (1 - bt h p) := by
  unfold sgOf
  rw [if_neg (by omega), show (2 * p + 1) / 2 = p by omega]
/-- The end at number i. -/
def edOf (seed : List (BitVec 8)) (key : Int) (i : Nat) : List (BitVec 8) := en (sc seed key (i / 2) (i % 2)) (i / 2) (i % 2)
theorem edOf_at (seed : List (BitVec 8)) (key : Int) (p b : Nat) (hb : b ≤ 1) : edOf seed key (2 * p + b) = en (sc seed key p b) p b := by
  unfold edOf
  rw [show (2 * p + b) / 2 = p by omega, show (2 * p + b) % 2 = b by omega]
theorem edOf_len (seed : List (BitVec 8)) (key : Int) (i : Nat) : (edOf seed key i).length = 32 := en_len _ _ _
/-- What Recover has at number i. -/
def rcOf (h : List (BitVec 8)) (S : List (List (BitVec 8))) (i : Nat) : List (BitVec 8) :=
  if i % 2 = bt h (i / 2) then en (S.getD (2 * (i / 2)) []) (i / 2) (i % 2) else S.getD (2 * (i / 2) + 1) []
theorem rcOf_same (h : List (BitVec 8)) (S : List (List (BitVec 8))) (p b : Nat) (hb : bt h p = b) (x : List (BitVec 8)) (hx : S[2 * p]? = some x) : rcOf h S (2 * p + b) = en x p b := by
  have hle := bt_le h p
  unfold rcOf
  rw [show (2 * p + b) / 2 = p by omega, show (2 * p + b) % 2 = b by omega, if_pos hb.symm, List.getD_eq_getElem?_getD, hx]
  rfl
theorem rcOf_other (h : List (BitVec 8)) (S : List (List (BitVec 8))) (p c : Nat) (hc : c = 1 - bt h p) (x : List (BitVec 8)) (hx : S[2 * p + 1]? = some x) : rcOf h S (2 * p + c) = x := by
  have hle := bt_le h p
  unfold rcOf
  rw [show (2 * p + c) / 2 = p by omega, show (2 * p + c) % 2 = c by omega, if_neg (by omega), List.getD_eq_getElem?_getD, hx]
  rfl
theorem rc_sig (seed : List (BitVec 8)) (key : Int) (h : List (BitVec 8)) : all512 (rcOf h (all512 (sgOf seed key h))) = all512 (edOf seed key) := by
  unfold all512
  apply List.map_congr_left
  intro i hi
  have hi' : i < 512 := by simpa using hi
  have hle := bt_le h (i / 2)
  have e0 : ((List.range 512).map (sgOf seed key h))[2 * (i / 2)]? = some (sc seed key (i / 2) (bt h (i / 2))) := by
    have := all_at (sgOf seed key h) (2 * (i / 2)) (by omega)
    rw [sgOf_even] at this
    exact this
  have e1 : ((List.range 512).map (sgOf seed key h))[2 * (i / 2) + 1]? = some (en (sc seed key (i / 2) (1 - bt h (i / 2))) (i / 2) (1 - bt h (i / 2))) := by
    have := all_at (sgOf seed key h) (2 * (i / 2) + 1) (by omega)
    rw [sgOf_odd] at this
    exact this
  have ei : i = 2 * (i / 2) + i % 2 := by omega
  by_cases hb : bt h (i / 2) = i % 2
  · have := rcOf_same h _ (i / 2) (i % 2) hb _ e0
    rw [← ei, hb] at this
    rw [this]; rfl
  · have hc : i % 2 = 1 - bt h (i / 2) := by omega
    have := rcOf_other h _ (i / 2) (i % 2) hc _ e1
    rw [← ei, ← hc] at this
    rw [this]; rfl
/-- The row G alone was turned since W0. -/
theorem only_below {g : Nat} {A B C : World} (h : Only g A B) (hb : Below A.heap.size B C) : Only g A C :=
  ⟨hb.os.trans h.os, hb.tape.trans h.tape, hb.output.trans h.output, Nat.le_trans h.size hb.size, fun k hk hg => (hb.block k hk).trans (h.block k hk hg)⟩
theorem only_setCells {g : Nat} {A : World} : ∀ (vs : List Value) (o : Nat) (w : World), Only g A w → Only g A (w.setCells g o vs)
  | [], _, _, h => h
  | v :: r, o, _, h => only_setCells r (o + 1) _ (h.setCell o v)
theorem keeps_setCells {g : Nat} : ∀ (vs : List Value) (o : Nat) (w : World), KeepsOthers w (w.setCells g o vs)
  | [], _, _ => KeepsOthers.refl _
  | v :: r, o, w => (KeepsOthers.setCell w _ v).trans (keeps_setCells r (o + 1) _)
theorem keeps_below {w w' : World} (hb : Below w.heap.size w w') : KeepsOthers w w' := ⟨hb.size, fun k _ hk _ => (hb.block k (Array.getElem?_eq_some_iff.1 hk).1).trans hk⟩
/-- Only the row g was turned. -/
theorem HasV.onlyV {w w' : World} {g b : Nat} {T : TypeId} {xs : List (BitVec 8)} (h : HasV w b T xs) (hb : Only g w w') (hg : b ≠ g) : HasV w' b T xs := by
  have hl := h.lt
  unfold HasV at *
  rw [hb.block b hl hg]; exact h
theorem Rw.belowB {w w' : World} {g B : Nat} {hs : List (List (BitVec 8))} (h : Rw w g hs) (hb : Below B w w') (hB : g < B) : Rw w' g hs := by
  have hblk : w'.heap[g]? = w.heap[g]? := hb.block g hB
  refine ⟨⟨h.hl.ptr, fun _ => Nat.lt_of_lt_of_le h.lt hb.size, fun i x hi => ?_⟩, Nat.lt_of_lt_of_le h.lt hb.size, fun j => by rw [World.frozen?_of_block (w := w) hblk]; exact h.fz j⟩
  obtain ⟨h1, h2⟩ := h.hl.all i x hi
  exact ⟨h1, h2.below hb hB⟩
end Go.Proofs.YtfhhlkbcoofemaaDoor
