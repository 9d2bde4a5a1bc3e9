/- What mss is made of, plainly; the sums as steps meet them; rows of n hashes. How many bits a number has (math/bits.Len, Len64). How many bits a number has. Slices of hashes that are cut: what is told of them. -/
import Derived.Test.YtfbfngblocfdlaaDoorM4
namespace Go.Proofs.YtfbfngblocfdlaaDoor
set_option maxRecDepth 100000
open Go.RowKit
/-- The sum of a leaf, of a node, of a message. -/
def lf (bs : List (BitVec 8)) : List (BitVec 8) := shaOf (kb 0 :: bs)
def nd (xs ys : List (BitVec 8)) : List (BitVec 8) := shaOf (kb 1 :: (xs ++ ys))
def ms (bs : List (BitVec 8)) : List (BitVec 8) := shaOf (kb 5 :: bs)
theorem lf_len (bs : List (BitVec 8)) : (lf bs).length = 32 := shaOf_len _
theorem nd_len (xs ys : List (BitVec 8)) : (nd xs ys).length = 32 := shaOf_len _
theorem ms_len (bs : List (BitVec 8)) : (ms bs).length = 32 := shaOf_len _
theorem fk_leaf {bs : List (BitVec 8)} {v : Value} {w : World} (hT : bs.length ≤ 140737488351232) (hK : Tab w) (h : (Fk.sl bs).f v w) {y : List (BitVec 8)} (hy : Box (lf bs = y)) :
    Calls Tryd.prog 14 #[v] w fun e w' => ∃ u, e = .returned u ∧ (Fk.eq (.agg (y.map V).toArray)).f u w' ∧ Below w.heap.size w w' := by
  obtain ⟨sp, m, c, b, o, rfl, hs⟩ := h
  rw [← hy.out]
  exact fk_of (leaf_any b o sp m c bs w hs hT hK.K hK.pos)
theorem fk_node {xs ys : List (BitVec 8)} {w : World} (hx : xs.length = 32) (hl : ys.length = 32) (hK : Tab w) {y : List (BitVec 8)} (hy : Box (nd xs ys = y)) :
    Calls Tryd.prog 22 #[.agg (xs.map V).toArray, .agg (ys.map V).toArray] w fun e w' => ∃ u, e = .returned u ∧ (Fk.eq (.agg (y.map V).toArray)).f u w' ∧ Below w.heap.size w w' := by
  rw [← hy.out]
  exact fk_of (node_any xs ys w hx hl hK)
/-- The public key of a number, by its kind; its leaf. -/
def pk (seed : List (BitVec 8)) (kind i : Nat) : List (BitVec 8) := if kind = 1 then pub (all67 (endOf seed i)) else pub (all512 (edOf seed i))
theorem pk_len (seed : List (BitVec 8)) (kind i : Nat) : (pk seed kind i).length = 32 := by
  unfold pk
  split <;> exact pub_len _
theorem pk_one {seed : List (BitVec 8)} {kind i : Nat} {p : List (BitVec 8)} (hk : kind = 1) (h : Box (pk seed kind i = p)) : Box (pub (all67 (endOf seed i)) = p) := ⟨by rw [← h.out]; unfold pk; rw [if_pos hk]⟩
theorem pk_two {seed : List (BitVec 8)} {kind i : Nat} {p : List (BitVec 8)} (hk : kind = 2) (h : Box (pk seed kind i = p)) : Box (pub (all512 (edOf seed i)) = p) := ⟨by rw [← h.out]; unfold pk; rw [if_neg (by omega)]⟩
def lv (seed : List (BitVec 8)) (kind i : Nat) : List (BitVec 8) := lf (pk seed kind i)
theorem lv_len (seed : List (BitVec 8)) (kind i : Nat) : (lv seed kind i).length = 32 := lf_len _
/-- The root over 2^h leaves from a on. -/
def rt (L : Nat → List (BitVec 8)) (a : Nat) : Nat → List (BitVec 8)
  | 0 => L a
  | h + 1 => nd (rt L a h) (rt L (a + 2 ^ h) h)
theorem rt_len (seed : List (BitVec 8)) (kind : Nat) (a : Nat) (h : Nat) : (rt (lv seed kind) a h).length = 32 := by
  cases h with
  | zero => exact lv_len _ _ _
  | succ h => exact nd_len _ _
/-- Where the hash beside begins, at level l. -/
def bes (i l : Nat) : Nat := (i / 2 ^ l ^^^ 1) * 2 ^ l
/-- The path's hash at level l. -/
def pth (L : Nat → List (BitVec 8)) (i l : Nat) : List (BitVec 8) := rt L (bes i l) l
/-- The parts of a signature, by its kind. -/
def sgp (seed : List (BitVec 8)) (kind i : Nat) (h : List (BitVec 8)) : List (List (BitVec 8)) := if kind = 1 then all67 (sigOf seed i h) else all512 (sgOf seed i h)
theorem sgp_one {seed h : List (BitVec 8)} {kind i : Nat} {S : List (List (BitVec 8))} (hk : kind = 1) (e : Box (sgp seed kind i h = S)) : Box (all67 (sigOf seed i h) = S) := ⟨by rw [← e.out]; unfold sgp; rw [if_pos hk]⟩
theorem sgp_two {seed h : List (BitVec 8)} {kind i : Nat} {S : List (List (BitVec 8))} (hk : kind = 2) (e : Box (sgp seed kind i h = S)) : Box (all512 (sgOf seed i h) = S) := ⟨by rw [← e.out]; unfold sgp; rw [if_neg (by omega)]⟩
/-- Hashes in new memory. -/
def Fk.hn (g0 : Nat) (hs : List (List (BitVec 8))) : Fk := .inr (.inl ⟨fun v w => ∃ A C lb lo, v = .slice A hs.length C ∧ g0 ≤ lb ∧ Hl w A lb lo hs, by
  rintro v w w' ⟨A, C, lb, lo, e, hg, h⟩ hb
  exact ⟨A, C, lb, lo, e, hg, h.below hb⟩⟩)
theorem hn_hs {g0 : Nat} {hs : List (List (BitVec 8))} {v : Value} {w : World} (h : (Fk.hn g0 hs).f v w) : (Fk.hs hs).f v w := by
  obtain ⟨A, C, lb, lo, e, _, hl⟩ := h
  exact ⟨A, C, lb, lo, e, hl⟩
theorem hn_le {g0 g1 : Nat} (hg : g1 ≤ g0) {hs : List (List (BitVec 8))} {v : Value} {w : World} (h : (Fk.hn g0 hs).f v w) : (Fk.hn g1 hs).f v w := by
  obtain ⟨A, C, lb, lo, e, h1, hl⟩ := h
  exact ⟨A, C, lb, lo, e, Nat.le_trans hg h1, hl⟩
/-- n hashes of noughts, in cells. -/
def mkh (n : Nat) : Array Value := madeCells ((hz.map V).toArray) (n * 32)
theorem mkh_at (n j : Nat) (h : j < n * 32) : (mkh n)[j]? = some (.int .u8 (bv (hz.getD (j % 32) 0))) := by
  have h2 : j % 32 < hz.length := by rw [hz_len]; omega
  have h3 : (mkh n).size = n * 32 := by unfold mkh; simp [size_madeCells]
  rw [Array.getElem?_eq_getElem (by rw [h3]; exact h)]
  unfold mkh
  simp only [madeCells, Array.getElem_map, Array.getElem_range, List.size_toArray, List.length_map, hz_len]
  have : (hz.map V).toArray[j % 32]? = some (V (hz.getD (j % 32) 0)) := by
    rw [List.getElem?_toArray, List.getElem?_map, List.getElem?_eq_getElem h2, Option.map_some, List.getD_eq_getElem?_getD, List.getElem?_eq_getElem h2]
    rfl
  rw [getElem!_def, this]
  rfl
theorem Tryd.makehs (n : Nat) (hn : n ≤ 1000) (w : World) : (Instr.makeSlice 22 (.int .i64 (n : Int)) (.int .i64 (n : Int))).run Tryd.prog w = .ok (.slice (some ⟨w.heap.size, 0, none⟩) n n) (w.alloc (.cells (mkh n) 24)) := by
  obtain ⟨i0, hi, hz0, hz1, hz2⟩ := info_parts Tryd.info24
  have := run_make (P := Tryd.prog) w 22 24 i0 _ Tryd.under22' hi hz0 .i64 .i64 (n : Int) (n : Int) (by omega) (by omega) (by rw [hz2]; omega) (by omega)
  rw [hz1] at this
  simp only [Int.toNat_natCast] at this
  exact this
/-- n hashes of noughts. -/
def zhs (n : Nat) : List (List (BitVec 8)) := List.replicate n hz
theorem zhs_len (n : Nat) : (zhs n).length = n := List.length_replicate
theorem rw_newh (n : Nat) (w : World) : Rw (w.alloc (.cells (mkh n) 24)) w.heap.size (zhs n) := by
  unfold zhs
  refine ⟨⟨fun _ => rfl, fun _ => by simp, fun i x hi => ?_⟩, by simp, fun j => ?_⟩
  · obtain ⟨h1, h2⟩ := List.getElem?_eq_some_iff.1 hi
    simp only [List.length_replicate] at h1
    obtain rfl : hz = x := by rw [← h2, List.getElem_replicate]
    refine ⟨hz_len, fun j hj => ?_⟩
    rw [hz_len] at hj
    rw [World.cell?_alloc_mark, mkh_at _ _ (by omega), show (0 + i * 32 + j) % 32 = j by omega]
  · have := heap_alloc_new w (.cells (mkh n) 24)
    exact frozen_of_row _ _ j _ 24 this
/-- The first k of n are told, the others are noughts. -/
def prt (n : Nat) (F : Nat → List (BitVec 8)) (k : Nat) : List (List (BitVec 8)) := (List.range n).map fun i => if i < k then F i else hz
theorem prt_len (n : Nat) (F : Nat → List (BitVec 8)) (k : Nat) : (prt n F k).length = n := by simp [prt]
theorem prt_zero (n : Nat) (F : Nat → List (BitVec 8)) : prt n F 0 = zhs n := by
  unfold zhs
  apply List.ext_getElem (by rw [prt_len, List.length_replicate])
  intro i h1 h2
  rw [List.getElem_replicate]
  simp [prt]
theorem prt_set (n : Nat) (F : Nat → List (BitVec 8)) (k : Nat) : (prt n F k).set k (F k) = prt n F (k + 1) := by
  apply List.ext_getElem (by simp [prt])
  intro i h1 h2
  rw [List.getElem_set]
  simp only [prt, List.getElem_map, List.getElem_range]
  by_cases e : k = i
  · subst e; simp
  · rw [if_neg e]
    by_cases h : i < k
    · rw [if_pos h, if_pos (by omega)]
    · rw [if_neg h, if_neg (by omega)]
theorem prt_all (n : Nat) (F : Nat → List (BitVec 8)) : prt n F n = firsts F n := by
  apply List.ext_getElem (by simp [prt, firsts])
  intro i h1 h2
  simp only [prt, List.length_map, List.length_range] at h1
  simp [prt, firsts, h1]
/-- A new row of n hashes of noughts. -/
def Fk.nz (g0 n : Nat) : Fk := .inr (.inl ⟨fun v w => ∃ g, g0 ≤ g ∧ v = .slice (some ⟨g, 0, none⟩) n n ∧ Rw w g (zhs n), by
  rintro v w w' ⟨g, h, e, hv⟩ hb
  exact ⟨g, h, e, hv.below hb⟩⟩)
section
variable {Q : Exit → Act → World → Prop} {o : Oper} {a : Act} {w : World} {ops : Array Oper} {rest : List Oper}
theorem st_makeh (x y : Operand) (ho : o.op = .makeSlice 22 x y) (n : Nat) (hn : n ≤ 1000) (hx : a.eval x = .int .i64 (n : Int)) (hy : a.eval y = .int .i64 (n : Int)) (g0 : Nat) (hg : g0 ≤ w.heap.size) : o.wp Tryd.prog a w (Ends a o.dst w (Fk.nz g0 n).f) Q := by
  refine st_run (v := .slice (some ⟨w.heap.size, 0, none⟩) n n) (w' := w.alloc (.cells (mkh n) 24)) ?_ ((Below.refl _ _).alloc (Nat.le_refl _) _) ⟨w.heap.size, hg, rfl, rw_newh n w⟩
  unfold execOp
  rw [ho]
  simp [hx, hy, Tryd.makehs n hn]
theorem st_idxr (x y : Operand) (ho : o.op = .indexAddr 22 x y) (g i n : Nat) (hx : a.eval x = .slice (some ⟨g, 0, none⟩) n n) (hy : a.eval y = .int .i64 (i : Int)) (hi : i < n) : o.wp Tryd.prog a w (Ends a o.dst w (Fk.eq (.pointer (some ⟨g, i * 32, none⟩))).f) Q := by
  refine st_pure (v := .pointer (some ⟨g, i * 32, none⟩)) ?_ rfl
  have h1 := run_indexAt_slice (P := Tryd.prog) (w := w) 22 ⟨g, 0, none⟩ n n .i64 (i : Int) (by rw [Tryd.elem22]; exact Tryd.under22')
  rw [if_pos (by omega), Tryd.elem22, Tryd.sizeOf24] at h1
  simp only [Result.andThen_ok, Int.toNat_natCast, Addr.add_mid, Nat.zero_add] at h1
  unfold execOp
  rw [ho]
  simp [hx, hy, h1]
theorem st_xor1 (x y : Operand) (ho : o.op = .binOp .xor 3 x y 3) (m : Nat) (hm : m ≤ 1000000) (hx : a.eval x = .int .i64 (m : Int)) (hy : a.eval y = .int .i64 1) : o.wp Tryd.prog a w (Ends a o.dst w (Fk.eq (.int .i64 ((m ^^^ 1 : Nat) : Int))).f) Q := by
  refine st_bin .xor 3 3 x y ho hx hy ?_
  have h1 : m ^^^ 1 < 2 ^ 20 := Nat.xor_lt_two_pow (by omega) (by omega)
  have h2 : m % 2 ^ IntKind.i64.bits = m := Nat.mod_eq_of_lt (by show m < 18446744073709551616; omega)
  have h3 : 1 % 2 ^ IntKind.i64.bits = 1 := rfl
  simp [eqGuard, binOp, Op.intBits, h2, h3]
  rw [IntKind.wrap_i64]
  omega
theorem st_and1 (x y : Operand) (ho : o.op = .binOp .and 3 x y 3) (m : Nat) (hm : m ≤ 1000000) (hx : a.eval x = .int .i64 (m : Int)) (hy : a.eval y = .int .i64 1) : o.wp Tryd.prog a w (Ends a o.dst w (Fk.eq (.int .i64 ((m % 2 : Nat) : Int))).f) Q := by
  refine st_bin .and 3 3 x y ho hx hy ?_
  have h2 : m % 2 ^ IntKind.i64.bits = m := Nat.mod_eq_of_lt (by show m < 18446744073709551616; omega)
  have h3 : 1 % 2 ^ IntKind.i64.bits = 1 := rfl
  simp [eqGuard, binOp, Op.intBits, h2, h3]
  rw [IntKind.wrap_i64]
  omega
theorem st_loadz (T : TypeId) (x : Operand) (ho : o.op = .load T x) (b so : Nat) (cs : List Value) (hr : (Tryd.prog.underlying T).map (·.isRow) = some true) (hi : (Tryd.prog.info? T).map (·.size) = some cs.length) (hx : a.eval x = .pointer (some ⟨b, so, none⟩)) (hc : w.rangeAt b so cs) : o.wp Tryd.prog a w (Ends a o.dst w (Fk.eq (.agg cs.toArray)).f) Q := by
  cases hu : Tryd.prog.underlying T with
  | none => rw [hu] at hr; cases hr
  | some d =>
    rw [hu] at hr
    exact st_loadm T x ho b so cs hu (by simpa using hr) hi hx hc
end
theorem ret_hash {fn : Func} {p : Tmp} (h : fn.results = #[.cell p 24]) (a : Act) (w : World) (g : Nat) (xs : List (BitVec 8)) (hl : xs.length = 32) (hp : a.eval (.tmp p) = .pointer (some ⟨g, 0, none⟩)) (m : Ob w g 24 (xs.map V)) : (results fn a.tmps).run Tryd.prog w = .ok (.agg (xs.map V).toArray) w :=
  results_cell_row (P := Tryd.prog) (fn := fn) (p := p) (ty := 24) h _ _ g 24 _ (0, 0) _ hp m Tryd.under24 rfl (by rw [List.size_toArray, List.length_map, hl]; exact Tryd.size24)
theorem ret_hash2 {fn : Func} {p u : Tmp} (h : fn.results = #[.cell p 24, .tmp u]) (a : Act) (w : World) (g : Nat) (xs : List (BitVec 8)) (v : Value) (hl : xs.length = 32) (hp : a.eval (.tmp p) = .pointer (some ⟨g, 0, none⟩)) (m : Ob w g 24 (xs.map V)) (hu : a.eval (.tmp u) = v) : (results fn a.tmps).run Tryd.prog w = .ok (.tuple #[.agg (xs.map V).toArray, v]) w :=
  results_row_tmp (P := Tryd.prog) h _ _ g 24 _ (0, 0) _ v hp m Tryd.under24 rfl (by rw [List.size_toArray, List.length_map, hl]; exact Tryd.size24) hu
end Go.Proofs.YtfbfngblocfdlaaDoor
namespace Go.Proofs.YtfbfngblocfdlaaDoor
set_option maxRecDepth 100000
open Go.RowKit
/-- How many bits a number has. -/
def bln (x : Nat) : Nat := if x = 0 then 0 else Nat.log2 x + 1
theorem bln_pos {x : Nat} (h : x ≠ 0) : bln x = Nat.log2 x + 1 := if_neg h
theorem bln_shift {x k : Nat} (h : 2 ^ k ≤ x) : bln (x / 2 ^ k) + k = bln x := by
  have hp : 0 < 2 ^ k := Nat.two_pow_pos k
  have h0 : x ≠ 0 := by omega
  have h1 : x / 2 ^ k ≠ 0 := by
    have := (Nat.le_div_iff_mul_le hp (x := 1) (y := x)).2 (by omega)
    omega
  rw [bln_pos h0, bln_pos h1]
  have a1 : Nat.log2 (x / 2 ^ k) + k ≤ Nat.log2 x := by
    rw [Nat.le_log2 h0, Nat.pow_add]
    have := Nat.log2_self_le h1
    exact (Nat.le_div_iff_mul_le hp).1 this
  have a2 : Nat.log2 x < Nat.log2 (x / 2 ^ k) + 1 + k := by
    rw [Nat.log2_lt h0, Nat.pow_add]
    have := Nat.lt_log2_self (n := x / 2 ^ k)
    exact (Nat.div_lt_iff_lt_mul hp).1 this
  omega
/-- The table of the bits of a byte, as the program has it. -/
def len8 : ByteArray := { data := (([0, 1, 2, 2, 3, 3, 3, 3, 4, 4, 4, 4, 4, 4, 4, 4, 5, 5, 5, 5, 5, 5, 5, 5, 5, 5, 5, 5, 5, 5, 5, 5, 6, 6, 6, 6, 6, 6, 6, 6, 6, 6, 6, 6, 6, 6, 6, 6, 6, 6, 6, 6, 6, 6, 6, 6, 6, 6, 6, 6, 6, 6, 6, 6].append [7, 7, 7, 7, 7, 7, 7, 7, 7, 7, 7, 7, 7, 7, 7, 7, 7, 7, 7, 7, 7, 7, 7, 7, 7, 7, 7, 7, 7, 7, 7, 7, 7, 7, 7, 7, 7, 7, 7, 7, 7, 7, 7, 7, 7, 7, 7, 7, 7, 7, 7, 7, 7, 7, 7, 7, 7, 7, 7, 7, 7, 7, 7, 7]).append ([8, 8, 8, 8, 8, 8, 8, 8, 8, 8, 8, 8, 8, 8, 8, 8, 8, 8, 8, 8, 8, 8, 8, 8, 8, 8, 8, 8, 8, 8, 8, 8, 8, 8, 8, 8, 8, 8, 8, 8, 8, 8, 8, 8, 8, 8, 8, 8, 8, 8, 8, 8, 8, 8, 8, 8, 8, 8, 8, 8, 8, 8, 8, 8].append [8, 8, 8, 8, 8, 8, 8, 8, 8, 8, 8, 8, 8, 8, 8, 8, 8, 8, 8, 8, 8, 8, 8, 8, 8, 8, 8, 8, 8, 8, 8, 8, 8, 8, 8, 8, 8, 8, 8, 8, 8, 8, 8, 8, 8, 8, 8, 8, 8, 8, 8, 8, 8, 8, 8, 8, 8, 8, 8, 8, 8, 8, 8, 8])).toArray }
theorem len8_at : ∀ x : Fin 256, len8.data[x.val]? = some (UInt8.ofNat (bln x.val)) := by decide +kernel
theorem bln8 : ∀ x : Fin 256, bln x.val ≤ 8 := by decide +kernel
theorem len8_size : len8.size = 256 := by decide +kernel
theorem Tryd.under53 : Tryd.prog.underlying 53 = some (.int .u64) := by kernel_rfl
theorem Tryd.under65 : Tryd.prog.underlying 65 = some (.int .u64) := by kernel_rfl
section
variable {Q : Exit → Act → World → Prop} {o : Oper} {a : Act} {w : World}
theorem st_conv (t1 t2 : TypeId) (x : Operand) (ho : o.op = .convert t1 t2 x) (k1 k2 : IntKind) (z z2 : Int) (hx : a.eval x = .int k1 z) (h1 : Tryd.prog.underlying t1 = some (.int k1)) (h2 : Tryd.prog.underlying t2 = some (.int k2)) (hw : k2.wrap z = z2) : o.wp Tryd.prog a w (Ends a o.dst w (Fk.eq (.int k2 z2)).f) Q := by
  refine st_pure (v := .int k2 z2) ?_ rfl
  unfold execOp
  rw [ho]
  simp [hx, convert, run_underlying h1, run_underlying h2, Conv.intToInt, hw]
theorem st_shru (t t2 : TypeId) (x y : Operand) (ho : o.op = .binOp .shr t x y t2) (m k : Nat) (hx : a.eval x = .int .u64 (m : Int)) (hy : a.eval y = .int .u64 (k : Int)) (e : Nat) (he : e = m / 2 ^ k) (hk : k ≤ 63) : o.wp Tryd.prog a w (Ends a o.dst w (Fk.eq (.int .u64 (e : Int))).f) Q := by
  refine st_bin .shr t t2 x y ho hx hy ?_
  have hw : (m : Int) / 2 ^ k = (e : Int) := by rw [he]; simp
  simp [eqGuard, binOp, hw]
  try omega
theorem st_len8 (x y : Operand) (ho : o.op = .index 9 x y) (hx : a.eval x = .string len8) (k : Nat) (hk : k < 256) (hy : a.eval y = .int .u8 (k : Int)) : o.wp Tryd.prog a w (Ends a o.dst w (Fk.eq (.int .u8 ((bln k : Nat) : Int))).f) Q := by
  refine st_pure (v := .int .u8 ((bln k : Nat) : Int)) ?_ rfl
  have h1 := run_index_string (P := Tryd.prog) w 9 len8 .u8 (k : Int) Tryd.under9
  have h2 := len8_at ⟨k, hk⟩
  have h3 := bln8 ⟨k, hk⟩
  have hs : k < len8.size := by rw [len8_size]; exact hk
  have h4 : len8[k] = UInt8.ofNat (bln k) := (Array.getElem?_eq_some_iff.1 h2).2
  rw [dif_pos (by rw [len8_size]; omega)] at h1
  simp only [Int.toNat_natCast, h4] at h1
  rw [show (UInt8.ofNat (bln k)).toNat = bln k from UInt8.toNat_ofNat_of_lt' (Nat.lt_of_le_of_lt h3 (by decide))] at h1
  unfold execOp
  rw [ho]
  simp [hx, hy, h1]
end
end Go.Proofs.YtfbfngblocfdlaaDoor
namespace Go.Proofs.YtfbfngblocfdlaaDoor
set_option maxRecDepth 100000
open Go.RowKit
set_option maxHeartbeats 1000000 in
theorem len64_any (x L : Nat) (hx : x < 18446744073709551616) (hL : bln x = L) (w : World) :
    Calls Tryd.prog 39 #[.int .u64 ((x : Nat) : Int)] w fun e w' => e = .returned (.int .i64 ((L : Nat) : Int)) ∧ Below w.heap.size w w' := by
  go_enter Tryd.func39, Tryd.ntmps39
  refine code_both (fun f w1 => f.tmps.size = 25 ∧ f.defers = [] ∧ f.eval (.tmp 0) = .int .u64 ((x : Nat) : Int) ∧ Below w.heap.size w (w1)) ⟨rfl, rfl, rfl, Below.refl _ _⟩ ?_
  rintro f0 w0 ⟨sz, df, x0, bl⟩
  have bl0 := bl
  refine wp_seq ?_
  -- R0
  refine wp_all_seq [.eq (.int .i64 0)] (by kernel_rfl) (by kernel_rfl) (by rw [sz]; kernel_rfl) (by kernel_rfl) ⟨fun hw ac u K => ?_, trivial⟩ ?_
  · exact st_assign (.const (.int .i64 0)) rfl rfl
  intro f1 w1 A hb
  replace bl0 := bl
  replace x0 := (A.old 0 rfl).trans x0
  have x2 : f1.eval (.tmp 2) = .int .i64 0 := A.has 0 2 rfl
  replace bl := (bl.trans (Below.mono hb bl.size))
  replace sz := A.size.trans sz
  replace df := A.defs.trans df
  clear A hb
  show Code.wp _ _ _ _ _
  refine wp_seq ?_
  refine wp_seq ?_
  have e : bln x + 0 = L := hL
  have l : x < 18446744073709551616 := hx
  by_cases h32 : 2 ^ 32 ≤ x
  rotate_left
  · skip
    replace l : x < 4294967296 := by omega
    -- R1
    refine wp_all_seq [.eq (.int .u64 ((x : Nat) : Int)), .eq (.bool false)] (by kernel_rfl) (by kernel_rfl) (by rw [sz]; kernel_rfl) (by kernel_rfl) ⟨fun hw ac u K => ?_, fun hw ac u K => ?_, trivial⟩ ?_
    · exact st_move (.tmp 0) rfl ((K.old 0 rfl).trans x0)
    · exact st_geq 65 (.tmp 3) (.const (.int .u64 4294967296)) rfl .u64 _ _ (K.dep 0 3 rfl) rfl _ (by rw [eq_comm, decide_eq_false_iff_not]; omega)
    intro f2 w2 A hb
    replace bl0 := bl
    replace x0 := (A.old 0 rfl).trans x0
    replace x2 := (A.old 2 rfl).trans x2
    have x4 : f2.eval (.tmp 4) = .bool false := A.has 1 4 rfl
    replace bl := (bl.trans (Below.mono hb bl.size))
    replace sz := A.size.trans sz
    replace df := A.defs.trans df
    clear A hb
    show Code.wp _ _ _ _ _
    refine wp_cond_false x4 ?_
    refine wp_skip ?_
    show Code.wp _ _ _ _ _
    refine wp_seq ?_
    refine wp_seq ?_
    obtain ⟨y32, hy⟩ : ∃ p, x = p := ⟨_, rfl⟩
    rw [hy] at x0 l e
    clear hy
    replace x2 : Fk.f (.eq (.int .i64 0)) (f2.eval (.tmp 2)) w2 := x2
    by_cases h16 : 2 ^ 16 ≤ y32
    rotate_left
    · skip
      replace l : y32 < 65536 := by omega
      -- R4
      refine wp_all_seq [.eq (.int .u64 ((y32 : Nat) : Int)), .eq (.bool false)] (by kernel_rfl) (by kernel_rfl) (by rw [sz]; kernel_rfl) (by kernel_rfl) ⟨fun hw ac u K => ?_, fun hw ac u K => ?_, trivial⟩ ?_
      · exact st_move (.tmp 0) rfl ((K.old 0 rfl).trans x0)
      · exact st_geq 65 (.tmp 7) (.const (.int .u64 65536)) rfl .u64 _ _ (K.dep 0 7 rfl) rfl _ (by rw [eq_comm, decide_eq_false_iff_not]; omega)
      intro f3 w3 A hb
      replace bl0 := bl
      replace x0 := (A.old 0 rfl).trans x0
      replace x2 := (A.old 2 rfl).trans x2
      replace x4 := (A.old 4 rfl).trans x4
      have x8 : f3.eval (.tmp 8) = .bool false := A.has 1 8 rfl
      replace bl := (bl.trans (Below.mono hb bl.size))
      replace sz := A.size.trans sz
      replace df := A.defs.trans df
      clear A hb
      show Code.wp _ _ _ _ _
      refine wp_cond_false x8 ?_
      refine wp_skip ?_
      show Code.wp _ _ _ _ _
      refine wp_seq ?_
      refine wp_seq ?_
      obtain ⟨y16, hy⟩ : ∃ p, y32 = p := ⟨_, rfl⟩
      rw [hy] at x0 l e
      clear hy
      replace x2 : Fk.f (.eq (.int .i64 0)) (f3.eval (.tmp 2)) w3 := x2
      by_cases h8 : 2 ^ 8 ≤ y16
      rotate_left
      · skip
        replace l : y16 < 256 := by omega
        -- R7
        refine wp_all_seq [.eq (.int .u64 ((y16 : Nat) : Int)), .eq (.bool false)] (by kernel_rfl) (by kernel_rfl) (by rw [sz]; kernel_rfl) (by kernel_rfl) ⟨fun hw ac u K => ?_, fun hw ac u K => ?_, trivial⟩ ?_
        · exact st_move (.tmp 0) rfl ((K.old 0 rfl).trans x0)
        · exact st_geq 65 (.tmp 13) (.const (.int .u64 256)) rfl .u64 _ _ (K.dep 0 13 rfl) rfl _ (by rw [eq_comm, decide_eq_false_iff_not]; omega)
        intro f4 w4 A hb
        replace bl0 := bl
        replace x0 := (A.old 0 rfl).trans x0
        replace x2 := (A.old 2 rfl).trans x2
        replace x4 := (A.old 4 rfl).trans x4
        replace x8 := (A.old 8 rfl).trans x8
        have x14 : f4.eval (.tmp 14) = .bool false := A.has 1 14 rfl
        replace bl := (bl.trans (Below.mono hb bl.size))
        replace sz := A.size.trans sz
        replace df := A.defs.trans df
        clear A hb
        show Code.wp _ _ _ _ _
        refine wp_cond_false x14 ?_
        refine wp_skip ?_
        show Code.wp _ _ _ _ _
        refine wp_seq ?_
        obtain ⟨y8, hy⟩ : ∃ p, y16 = p := ⟨_, rfl⟩
        rw [hy] at x0 l e
        clear hy
        replace x2 : Fk.f (.eq (.int .i64 0)) (f4.eval (.tmp 2)) w4 := x2
        have hq8 := bln8 ⟨y8, l⟩
        dsimp only at hq8
        -- R10
        refine wp_region_seq [.eq (.int .i64 0), .eq (.int .u64 ((y8 : Nat) : Int)), .eq (.int .u8 ((y8 : Nat) : Int)), .eq (.int .u8 ((bln y8 : Nat) : Int)), .eq (.int .i64 ((bln y8 : Nat) : Int)), .eq (.int .i64 ((L : Nat) : Int))] (by kernel_rfl) (by kernel_rfl) (by rw [sz]; kernel_rfl) (by kernel_rfl) ⟨fun hw ac u K => ?_, fun hw ac u K => ?_, fun hw ac u K => ?_, fun hw ac u K => ?_, fun hw ac u K => ?_, fun hw ac u K => ?_, trivial⟩ ?_
        · exact st_move (.tmp 2) rfl ((K.old 2 rfl).trans x2)
        · exact st_move (.tmp 0) rfl ((K.old 0 rfl).trans x0)
        · exact st_conv 65 5 (.tmp 20) rfl .u64 .u8 _ _ (K.dep 1 20 rfl) Tryd.under65 Tryd.under5 (by rw [IntKind.wrap_u8]; omega)
        · exact st_len8 _ (.tmp 21) rfl rfl y8 l (K.dep 2 21 rfl)
        · exact st_conv 5 3 (.tmp 22) rfl .u8 .i64 _ _ (K.dep 3 22 rfl) Tryd.under5 Tryd.under3 (by rw [IntKind.wrap_i64]; omega)
        · exact st_add (.tmp 19) (.tmp 23) rfl (0) (bln y8) (L) (K.dep 0 19 rfl) (K.dep 4 23 rfl) (by omega) (by omega)
        intro f5 w5 A hb
        replace bl0 := bl
        replace x0 := (A.old 0 rfl).trans x0
        replace x2 := (A.old 2 rfl).trans x2
        replace x4 := (A.old 4 rfl).trans x4
        replace x8 := (A.old 8 rfl).trans x8
        replace x14 := (A.old 14 rfl).trans x14
        have x24 : f5.eval (.tmp 24) = .int .i64 ((L : Nat) : Int) := A.has 5 24 rfl
        replace bl := (bl.trans (Below.mono hb bl.size))
        replace sz := A.size.trans sz
        replace df := A.defs.trans df
        clear A hb
        refine wl_one (.eq (.int .i64 ((L : Nat) : Int))) rfl 2 rfl (by rw [sz]; decide) (st_assign (.tmp 24) rfl x24) ?_
        intro f6 w6 df2 sz2 old2 new2 hb
        replace bl0 := bl
        replace x0 := (old2 0 rfl).trans x0
        clear x2
        replace x4 := (old2 4 rfl).trans x4
        replace x8 := (old2 8 rfl).trans x8
        replace x14 := (old2 14 rfl).trans x14
        replace x24 := (old2 24 rfl).trans x24
        have x2 : f6.eval (.tmp 2) = .int .i64 ((L : Nat) : Int) := new2
        replace bl := (bl.trans (Below.mono hb bl.size))
        replace sz := sz2.trans sz
        replace df := df2.trans df
        clear df2 sz2 old2 new2 hb
        refine wpList_nil ?_
        clear x24
        show Code.wp _ _ _ _ _
        refine wp_ret ?_
        repeat (first | with_reducible refine then_ret ?_ | with_reducible refine block_ret ?_)
        exact bodyPost_ret (v := .int .i64 ((L : Nat) : Int)) (ret_slot rfl f6 _ x2 _ _) df ⟨rfl, bl⟩
      replace e : bln (y16 / 2 ^ 8) + 8 = L := by have := bln_shift h8; omega
      replace l : y16 / 2 ^ 8 < 256 := by omega
      -- R7
      refine wp_all_seq [.eq (.int .u64 ((y16 : Nat) : Int)), .eq (.bool true)] (by kernel_rfl) (by kernel_rfl) (by rw [sz]; kernel_rfl) (by kernel_rfl) ⟨fun hw ac u K => ?_, fun hw ac u K => ?_, trivial⟩ ?_
      · exact st_move (.tmp 0) rfl ((K.old 0 rfl).trans x0)
      · exact st_geq 65 (.tmp 13) (.const (.int .u64 256)) rfl .u64 _ _ (K.dep 0 13 rfl) rfl _ (by rw [eq_comm, decide_eq_true_iff]; omega)
      intro f4 w4 A hb
      replace bl0 := bl
      replace x0 := (A.old 0 rfl).trans x0
      replace x2 := (A.old 2 rfl).trans x2
      replace x4 := (A.old 4 rfl).trans x4
      replace x8 := (A.old 8 rfl).trans x8
      have x14 : f4.eval (.tmp 14) = .bool true := A.has 1 14 rfl
      replace bl := (bl.trans (Below.mono hb bl.size))
      replace sz := A.size.trans sz
      replace df := A.defs.trans df
      clear A hb
      show Code.wp _ _ _ _ _
      refine wp_cond_true x14 ?_
      refine wp_seq ?_
      -- R8
      refine wp_region_seq [.eq (.int .u64 ((y16 : Nat) : Int)), .eq (.int .u64 ((y16 / 2 ^ 8 : Nat) : Int))] (by kernel_rfl) (by kernel_rfl) (by rw [sz]; kernel_rfl) (by kernel_rfl) ⟨fun hw ac u K => ?_, fun hw ac u K => ?_, trivial⟩ ?_
      · exact st_move (.tmp 0) rfl ((K.old 0 rfl).trans x0)
      · exact st_shru 65 53 (.tmp 15) (.const (.int .u64 8)) rfl (y16) 8 (K.dep 0 15 rfl) rfl _ rfl (by decide)
      intro f5 w5 A hb
      replace bl0 := bl
      replace x0 := (A.old 0 rfl).trans x0
      replace x2 := (A.old 2 rfl).trans x2
      replace x4 := (A.old 4 rfl).trans x4
      replace x8 := (A.old 8 rfl).trans x8
      replace x14 := (A.old 14 rfl).trans x14
      have x16 : f5.eval (.tmp 16) = .int .u64 ((y16 / 2 ^ 8 : Nat) : Int) := A.has 1 16 rfl
      replace bl := (bl.trans (Below.mono hb bl.size))
      replace sz := A.size.trans sz
      replace df := A.defs.trans df
      clear A hb
      refine wl_one (.eq (.int .u64 ((y16 / 2 ^ 8 : Nat) : Int))) rfl 0 rfl (by rw [sz]; decide) (st_assign (.tmp 16) rfl x16) ?_
      intro f6 w6 df2 sz2 old2 new2 hb
      replace bl0 := bl
      clear x0
      replace x2 := (old2 2 rfl).trans x2
      replace x4 := (old2 4 rfl).trans x4
      replace x8 := (old2 8 rfl).trans x8
      replace x14 := (old2 14 rfl).trans x14
      replace x16 := (old2 16 rfl).trans x16
      have x0 : f6.eval (.tmp 0) = .int .u64 ((y16 / 2 ^ 8 : Nat) : Int) := new2
      replace bl := (bl.trans (Below.mono hb bl.size))
      replace sz := sz2.trans sz
      replace df := df2.trans df
      clear df2 sz2 old2 new2 hb
      refine wpList_nil ?_
      clear x16
      show Code.wp _ _ _ _ _
      -- R9
      refine wp_region_seq [.eq (.int .i64 0), .eq (.int .i64 ((0 + 8 : Nat) : Int))] (by kernel_rfl) (by kernel_rfl) (by rw [sz]; kernel_rfl) (by kernel_rfl) ⟨fun hw ac u K => ?_, fun hw ac u K => ?_, trivial⟩ ?_
      · exact st_move (.tmp 2) rfl ((K.old 2 rfl).trans x2)
      · exact st_add (.tmp 17) (.const (.int .i64 8)) rfl (0) (8) (0 + 8) (K.dep 0 17 rfl) rfl (by omega) (by omega)
      intro f7 w7 A hb
      replace bl0 := bl
      replace x2 := (A.old 2 rfl).trans x2
      replace x4 := (A.old 4 rfl).trans x4
      replace x8 := (A.old 8 rfl).trans x8
      replace x14 := (A.old 14 rfl).trans x14
      replace x0 := (A.old 0 rfl).trans x0
      have x18 : f7.eval (.tmp 18) = .int .i64 ((0 + 8 : Nat) : Int) := A.has 1 18 rfl
      replace bl := (bl.trans (Below.mono hb bl.size))
      replace sz := A.size.trans sz
      replace df := A.defs.trans df
      clear A hb
      refine wl_one (.eq (.int .i64 ((0 + 8 : Nat) : Int))) rfl 2 rfl (by rw [sz]; decide) (st_assign (.tmp 18) rfl x18) ?_
      intro f8 w8 df2 sz2 old2 new2 hb
      replace bl0 := bl
      clear x2
      replace x4 := (old2 4 rfl).trans x4
      replace x8 := (old2 8 rfl).trans x8
      replace x14 := (old2 14 rfl).trans x14
      replace x0 := (old2 0 rfl).trans x0
      replace x18 := (old2 18 rfl).trans x18
      have x2 : f8.eval (.tmp 2) = .int .i64 ((0 + 8 : Nat) : Int) := new2
      replace bl := (bl.trans (Below.mono hb bl.size))
      replace sz := sz2.trans sz
      replace df := df2.trans df
      clear df2 sz2 old2 new2 hb
      refine wpList_nil ?_
      clear x18
      show Code.wp _ _ _ _ _
      refine wp_seq ?_
      obtain ⟨y8, hy⟩ : ∃ p, y16 / 2 ^ 8 = p := ⟨_, rfl⟩
      rw [hy] at x0 l e
      clear hy
      replace x2 : Fk.f (.eq (.int .i64 8)) (f8.eval (.tmp 2)) w8 := x2
      have hq8 := bln8 ⟨y8, l⟩
      dsimp only at hq8
      -- R10
      refine wp_region_seq [.eq (.int .i64 8), .eq (.int .u64 ((y8 : Nat) : Int)), .eq (.int .u8 ((y8 : Nat) : Int)), .eq (.int .u8 ((bln y8 : Nat) : Int)), .eq (.int .i64 ((bln y8 : Nat) : Int)), .eq (.int .i64 ((L : Nat) : Int))] (by kernel_rfl) (by kernel_rfl) (by rw [sz]; kernel_rfl) (by kernel_rfl) ⟨fun hw ac u K => ?_, fun hw ac u K => ?_, fun hw ac u K => ?_, fun hw ac u K => ?_, fun hw ac u K => ?_, fun hw ac u K => ?_, trivial⟩ ?_
      · exact st_move (.tmp 2) rfl ((K.old 2 rfl).trans x2)
      · exact st_move (.tmp 0) rfl ((K.old 0 rfl).trans x0)
      · exact st_conv 65 5 (.tmp 20) rfl .u64 .u8 _ _ (K.dep 1 20 rfl) Tryd.under65 Tryd.under5 (by rw [IntKind.wrap_u8]; omega)
      · exact st_len8 _ (.tmp 21) rfl rfl y8 l (K.dep 2 21 rfl)
      · exact st_conv 5 3 (.tmp 22) rfl .u8 .i64 _ _ (K.dep 3 22 rfl) Tryd.under5 Tryd.under3 (by rw [IntKind.wrap_i64]; omega)
      · exact st_add (.tmp 19) (.tmp 23) rfl (8) (bln y8) (L) (K.dep 0 19 rfl) (K.dep 4 23 rfl) (by omega) (by omega)
      intro f9 w9 A hb
      replace bl0 := bl
      replace x4 := (A.old 4 rfl).trans x4
      replace x8 := (A.old 8 rfl).trans x8
      replace x14 := (A.old 14 rfl).trans x14
      replace x0 := (A.old 0 rfl).trans x0
      replace x2 := (A.old 2 rfl).trans x2
      have x24 : f9.eval (.tmp 24) = .int .i64 ((L : Nat) : Int) := A.has 5 24 rfl
      replace bl := (bl.trans (Below.mono hb bl.size))
      replace sz := A.size.trans sz
      replace df := A.defs.trans df
      clear A hb
      refine wl_one (.eq (.int .i64 ((L : Nat) : Int))) rfl 2 rfl (by rw [sz]; decide) (st_assign (.tmp 24) rfl x24) ?_
      intro f10 w10 df2 sz2 old2 new2 hb
      replace bl0 := bl
      replace x4 := (old2 4 rfl).trans x4
      replace x8 := (old2 8 rfl).trans x8
      replace x14 := (old2 14 rfl).trans x14
      replace x0 := (old2 0 rfl).trans x0
      clear x2
      replace x24 := (old2 24 rfl).trans x24
      have x2 : f10.eval (.tmp 2) = .int .i64 ((L : Nat) : Int) := new2
      replace bl := (bl.trans (Below.mono hb bl.size))
      replace sz := sz2.trans sz
      replace df := df2.trans df
      clear df2 sz2 old2 new2 hb
      refine wpList_nil ?_
      clear x24
      show Code.wp _ _ _ _ _
      refine wp_ret ?_
      repeat (first | with_reducible refine then_ret ?_ | with_reducible refine block_ret ?_)
      exact bodyPost_ret (v := .int .i64 ((L : Nat) : Int)) (ret_slot rfl f10 _ x2 _ _) df ⟨rfl, bl⟩
    replace e : bln (y32 / 2 ^ 16) + 16 = L := by have := bln_shift h16; omega
    replace l : y32 / 2 ^ 16 < 65536 := by omega
    -- R4
    refine wp_all_seq [.eq (.int .u64 ((y32 : Nat) : Int)), .eq (.bool true)] (by kernel_rfl) (by kernel_rfl) (by rw [sz]; kernel_rfl) (by kernel_rfl) ⟨fun hw ac u K => ?_, fun hw ac u K => ?_, trivial⟩ ?_
    · exact st_move (.tmp 0) rfl ((K.old 0 rfl).trans x0)
    · exact st_geq 65 (.tmp 7) (.const (.int .u64 65536)) rfl .u64 _ _ (K.dep 0 7 rfl) rfl _ (by rw [eq_comm, decide_eq_true_iff]; omega)
    intro f3 w3 A hb
    replace bl0 := bl
    replace x0 := (A.old 0 rfl).trans x0
    replace x2 := (A.old 2 rfl).trans x2
    replace x4 := (A.old 4 rfl).trans x4
    have x8 : f3.eval (.tmp 8) = .bool true := A.has 1 8 rfl
    replace bl := (bl.trans (Below.mono hb bl.size))
    replace sz := A.size.trans sz
    replace df := A.defs.trans df
    clear A hb
    show Code.wp _ _ _ _ _
    refine wp_cond_true x8 ?_
    refine wp_seq ?_
    -- R5
    refine wp_region_seq [.eq (.int .u64 ((y32 : Nat) : Int)), .eq (.int .u64 ((y32 / 2 ^ 16 : Nat) : Int))] (by kernel_rfl) (by kernel_rfl) (by rw [sz]; kernel_rfl) (by kernel_rfl) ⟨fun hw ac u K => ?_, fun hw ac u K => ?_, trivial⟩ ?_
    · exact st_move (.tmp 0) rfl ((K.old 0 rfl).trans x0)
    · exact st_shru 65 53 (.tmp 9) (.const (.int .u64 16)) rfl (y32) 16 (K.dep 0 9 rfl) rfl _ rfl (by decide)
    intro f4 w4 A hb
    replace bl0 := bl
    replace x0 := (A.old 0 rfl).trans x0
    replace x2 := (A.old 2 rfl).trans x2
    replace x4 := (A.old 4 rfl).trans x4
    replace x8 := (A.old 8 rfl).trans x8
    have x10 : f4.eval (.tmp 10) = .int .u64 ((y32 / 2 ^ 16 : Nat) : Int) := A.has 1 10 rfl
    replace bl := (bl.trans (Below.mono hb bl.size))
    replace sz := A.size.trans sz
    replace df := A.defs.trans df
    clear A hb
    refine wl_one (.eq (.int .u64 ((y32 / 2 ^ 16 : Nat) : Int))) rfl 0 rfl (by rw [sz]; decide) (st_assign (.tmp 10) rfl x10) ?_
    intro f5 w5 df2 sz2 old2 new2 hb
    replace bl0 := bl
    clear x0
    replace x2 := (old2 2 rfl).trans x2
    replace x4 := (old2 4 rfl).trans x4
    replace x8 := (old2 8 rfl).trans x8
    replace x10 := (old2 10 rfl).trans x10
    have x0 : f5.eval (.tmp 0) = .int .u64 ((y32 / 2 ^ 16 : Nat) : Int) := new2
    replace bl := (bl.trans (Below.mono hb bl.size))
    replace sz := sz2.trans sz
    replace df := df2.trans df
    clear df2 sz2 old2 new2 hb
    refine wpList_nil ?_
    clear x10
    show Code.wp _ _ _ _ _
    -- R6
    refine wp_region_seq [.eq (.int .i64 0), .eq (.int .i64 ((0 + 16 : Nat) : Int))] (by kernel_rfl) (by kernel_rfl) (by rw [sz]; kernel_rfl) (by kernel_rfl) ⟨fun hw ac u K => ?_, fun hw ac u K => ?_, trivial⟩ ?_
    · exact st_move (.tmp 2) rfl ((K.old 2 rfl).trans x2)
    · exact st_add (.tmp 11) (.const (.int .i64 16)) rfl (0) (16) (0 + 16) (K.dep 0 11 rfl) rfl (by omega) (by omega)
    intro f6 w6 A hb
    replace bl0 := bl
    replace x2 := (A.old 2 rfl).trans x2
    replace x4 := (A.old 4 rfl).trans x4
    replace x8 := (A.old 8 rfl).trans x8
    replace x0 := (A.old 0 rfl).trans x0
    have x12 : f6.eval (.tmp 12) = .int .i64 ((0 + 16 : Nat) : Int) := A.has 1 12 rfl
    replace bl := (bl.trans (Below.mono hb bl.size))
    replace sz := A.size.trans sz
    replace df := A.defs.trans df
    clear A hb
    refine wl_one (.eq (.int .i64 ((0 + 16 : Nat) : Int))) rfl 2 rfl (by rw [sz]; decide) (st_assign (.tmp 12) rfl x12) ?_
    intro f7 w7 df2 sz2 old2 new2 hb
    replace bl0 := bl
    clear x2
    replace x4 := (old2 4 rfl).trans x4
    replace x8 := (old2 8 rfl).trans x8
    replace x0 := (old2 0 rfl).trans x0
    replace x12 := (old2 12 rfl).trans x12
    have x2 : f7.eval (.tmp 2) = .int .i64 ((0 + 16 : Nat) : Int) := new2
    replace bl := (bl.trans (Below.mono hb bl.size))
    replace sz := sz2.trans sz
    replace df := df2.trans df
    clear df2 sz2 old2 new2 hb
    refine wpList_nil ?_
    clear x12
    show Code.wp _ _ _ _ _
    refine wp_seq ?_
    refine wp_seq ?_
    obtain ⟨y16, hy⟩ : ∃ p, y32 / 2 ^ 16 = p := ⟨_, rfl⟩
    rw [hy] at x0 l e
    clear hy
    replace x2 : Fk.f (.eq (.int .i64 16)) (f7.eval (.tmp 2)) w7 := x2
    by_cases h8 : 2 ^ 8 ≤ y16
    rotate_left
    · skip
      replace l : y16 < 256 := by omega
      -- R7
      refine wp_all_seq [.eq (.int .u64 ((y16 : Nat) : Int)), .eq (.bool false)] (by kernel_rfl) (by kernel_rfl) (by rw [sz]; kernel_rfl) (by kernel_rfl) ⟨fun hw ac u K => ?_, fun hw ac u K => ?_, trivial⟩ ?_
      · exact st_move (.tmp 0) rfl ((K.old 0 rfl).trans x0)
      · exact st_geq 65 (.tmp 13) (.const (.int .u64 256)) rfl .u64 _ _ (K.dep 0 13 rfl) rfl _ (by rw [eq_comm, decide_eq_false_iff_not]; omega)
      intro f8 w8 A hb
      replace bl0 := bl
      replace x4 := (A.old 4 rfl).trans x4
      replace x8 := (A.old 8 rfl).trans x8
      replace x0 := (A.old 0 rfl).trans x0
      replace x2 := (A.old 2 rfl).trans x2
      have x14 : f8.eval (.tmp 14) = .bool false := A.has 1 14 rfl
      replace bl := (bl.trans (Below.mono hb bl.size))
      replace sz := A.size.trans sz
      replace df := A.defs.trans df
      clear A hb
      show Code.wp _ _ _ _ _
      refine wp_cond_false x14 ?_
      refine wp_skip ?_
      show Code.wp _ _ _ _ _
      refine wp_seq ?_
      obtain ⟨y8, hy⟩ : ∃ p, y16 = p := ⟨_, rfl⟩
      rw [hy] at x0 l e
      clear hy
      replace x2 : Fk.f (.eq (.int .i64 16)) (f8.eval (.tmp 2)) w8 := x2
      have hq8 := bln8 ⟨y8, l⟩
      dsimp only at hq8
      -- R10
      refine wp_region_seq [.eq (.int .i64 16), .eq (.int .u64 ((y8 : Nat) : Int)), .eq (.int .u8 ((y8 : Nat) : Int)), .eq (.int .u8 ((bln y8 : Nat) : Int)), .eq (.int .i64 ((bln y8 : Nat) : Int)), .eq (.int .i64 ((L : Nat) : Int))] (by kernel_rfl) (by kernel_rfl) (by rw [sz]; kernel_rfl) (by kernel_rfl) ⟨fun hw ac u K => ?_, fun hw ac u K => ?_, fun hw ac u K => ?_, fun hw ac u K => ?_, fun hw ac u K => ?_, fun hw ac u K => ?_, trivial⟩ ?_
      · exact st_move (.tmp 2) rfl ((K.old 2 rfl).trans x2)
      · exact st_move (.tmp 0) rfl ((K.old 0 rfl).trans x0)
      · exact st_conv 65 5 (.tmp 20) rfl .u64 .u8 _ _ (K.dep 1 20 rfl) Tryd.under65 Tryd.under5 (by rw [IntKind.wrap_u8]; omega)
      · exact st_len8 _ (.tmp 21) rfl rfl y8 l (K.dep 2 21 rfl)
      · exact st_conv 5 3 (.tmp 22) rfl .u8 .i64 _ _ (K.dep 3 22 rfl) Tryd.under5 Tryd.under3 (by rw [IntKind.wrap_i64]; omega)
      · exact st_add (.tmp 19) (.tmp 23) rfl (16) (bln y8) (L) (K.dep 0 19 rfl) (K.dep 4 23 rfl) (by omega) (by omega)
      intro f9 w9 A hb
      replace bl0 := bl
      replace x4 := (A.old 4 rfl).trans x4
      replace x8 := (A.old 8 rfl).trans x8
      replace x0 := (A.old 0 rfl).trans x0
      replace x2 := (A.old 2 rfl).trans x2
      replace x14 := (A.old 14 rfl).trans x14
      have x24 : f9.eval (.tmp 24) = .int .i64 ((L : Nat) : Int) := A.has 5 24 rfl
      replace bl := (bl.trans (Below.mono hb bl.size))
      replace sz := A.size.trans sz
      replace df := A.defs.trans df
      clear A hb
      refine wl_one (.eq (.int .i64 ((L : Nat) : Int))) rfl 2 rfl (by rw [sz]; decide) (st_assign (.tmp 24) rfl x24) ?_
      intro f10 w10 df2 sz2 old2 new2 hb
      replace bl0 := bl
      replace x4 := (old2 4 rfl).trans x4
      replace x8 := (old2 8 rfl).trans x8
      replace x0 := (old2 0 rfl).trans x0
      clear x2
      replace x14 := (old2 14 rfl).trans x14
      replace x24 := (old2 24 rfl).trans x24
      have x2 : f10.eval (.tmp 2) = .int .i64 ((L : Nat) : Int) := new2
      replace bl := (bl.trans (Below.mono hb bl.size))
      replace sz := sz2.trans sz
      replace df := df2.trans df
      clear df2 sz2 old2 new2 hb
      refine wpList_nil ?_
      clear x24
      show Code.wp _ _ _ _ _
      refine wp_ret ?_
      repeat (first | with_reducible refine then_ret ?_ | with_reducible refine block_ret ?_)
      exact bodyPost_ret (v := .int .i64 ((L : Nat) : Int)) (ret_slot rfl f10 _ x2 _ _) df ⟨rfl, bl⟩
    replace e : bln (y16 / 2 ^ 8) + 24 = L := by have := bln_shift h8; omega
    replace l : y16 / 2 ^ 8 < 256 := by omega
    -- R7
    refine wp_all_seq [.eq (.int .u64 ((y16 : Nat) : Int)), .eq (.bool true)] (by kernel_rfl) (by kernel_rfl) (by rw [sz]; kernel_rfl) (by kernel_rfl) ⟨fun hw ac u K => ?_, fun hw ac u K => ?_, trivial⟩ ?_
    · exact st_move (.tmp 0) rfl ((K.old 0 rfl).trans x0)
    · exact st_geq 65 (.tmp 13) (.const (.int .u64 256)) rfl .u64 _ _ (K.dep 0 13 rfl) rfl _ (by rw [eq_comm, decide_eq_true_iff]; omega)
    intro f8 w8 A hb
    replace bl0 := bl
    replace x4 := (A.old 4 rfl).trans x4
    replace x8 := (A.old 8 rfl).trans x8
    replace x0 := (A.old 0 rfl).trans x0
    replace x2 := (A.old 2 rfl).trans x2
    have x14 : f8.eval (.tmp 14) = .bool true := A.has 1 14 rfl
    replace bl := (bl.trans (Below.mono hb bl.size))
    replace sz := A.size.trans sz
    replace df := A.defs.trans df
    clear A hb
    show Code.wp _ _ _ _ _
    refine wp_cond_true x14 ?_
    refine wp_seq ?_
    -- R8
    refine wp_region_seq [.eq (.int .u64 ((y16 : Nat) : Int)), .eq (.int .u64 ((y16 / 2 ^ 8 : Nat) : Int))] (by kernel_rfl) (by kernel_rfl) (by rw [sz]; kernel_rfl) (by kernel_rfl) ⟨fun hw ac u K => ?_, fun hw ac u K => ?_, trivial⟩ ?_
    · exact st_move (.tmp 0) rfl ((K.old 0 rfl).trans x0)
    · exact st_shru 65 53 (.tmp 15) (.const (.int .u64 8)) rfl (y16) 8 (K.dep 0 15 rfl) rfl _ rfl (by decide)
    intro f9 w9 A hb
    replace bl0 := bl
    replace x4 := (A.old 4 rfl).trans x4
    replace x8 := (A.old 8 rfl).trans x8
    replace x0 := (A.old 0 rfl).trans x0
    replace x2 := (A.old 2 rfl).trans x2
    replace x14 := (A.old 14 rfl).trans x14
    have x16 : f9.eval (.tmp 16) = .int .u64 ((y16 / 2 ^ 8 : Nat) : Int) := A.has 1 16 rfl
    replace bl := (bl.trans (Below.mono hb bl.size))
    replace sz := A.size.trans sz
    replace df := A.defs.trans df
    clear A hb
    refine wl_one (.eq (.int .u64 ((y16 / 2 ^ 8 : Nat) : Int))) rfl 0 rfl (by rw [sz]; decide) (st_assign (.tmp 16) rfl x16) ?_
    intro f10 w10 df2 sz2 old2 new2 hb
    replace bl0 := bl
    replace x4 := (old2 4 rfl).trans x4
    replace x8 := (old2 8 rfl).trans x8
    clear x0
    replace x2 := (old2 2 rfl).trans x2
    replace x14 := (old2 14 rfl).trans x14
    replace x16 := (old2 16 rfl).trans x16
    have x0 : f10.eval (.tmp 0) = .int .u64 ((y16 / 2 ^ 8 : Nat) : Int) := new2
    replace bl := (bl.trans (Below.mono hb bl.size))
    replace sz := sz2.trans sz
    replace df := df2.trans df
    clear df2 sz2 old2 new2 hb
    refine wpList_nil ?_
    clear x16
    show Code.wp _ _ _ _ _
    -- R9
    refine wp_region_seq [.eq (.int .i64 16), .eq (.int .i64 ((16 + 8 : Nat) : Int))] (by kernel_rfl) (by kernel_rfl) (by rw [sz]; kernel_rfl) (by kernel_rfl) ⟨fun hw ac u K => ?_, fun hw ac u K => ?_, trivial⟩ ?_
    · exact st_move (.tmp 2) rfl ((K.old 2 rfl).trans x2)
    · exact st_add (.tmp 17) (.const (.int .i64 8)) rfl (16) (8) (16 + 8) (K.dep 0 17 rfl) rfl (by omega) (by omega)
    intro f11 w11 A hb
    replace bl0 := bl
    replace x4 := (A.old 4 rfl).trans x4
    replace x8 := (A.old 8 rfl).trans x8
    replace x2 := (A.old 2 rfl).trans x2
    replace x14 := (A.old 14 rfl).trans x14
    replace x0 := (A.old 0 rfl).trans x0
    have x18 : f11.eval (.tmp 18) = .int .i64 ((16 + 8 : Nat) : Int) := A.has 1 18 rfl
    replace bl := (bl.trans (Below.mono hb bl.size))
    replace sz := A.size.trans sz
    replace df := A.defs.trans df
    clear A hb
    refine wl_one (.eq (.int .i64 ((16 + 8 : Nat) : Int))) rfl 2 rfl (by rw [sz]; decide) (st_assign (.tmp 18) rfl x18) ?_
    intro f12 w12 df2 sz2 old2 new2 hb
    replace bl0 := bl
    replace x4 := (old2 4 rfl).trans x4
    replace x8 := (old2 8 rfl).trans x8
    clear x2
    replace x14 := (old2 14 rfl).trans x14
    replace x0 := (old2 0 rfl).trans x0
    replace x18 := (old2 18 rfl).trans x18
    have x2 : f12.eval (.tmp 2) = .int .i64 ((16 + 8 : Nat) : Int) := new2
    replace bl := (bl.trans (Below.mono hb bl.size))
    replace sz := sz2.trans sz
    replace df := df2.trans df
    clear df2 sz2 old2 new2 hb
    refine wpList_nil ?_
    clear x18
    show Code.wp _ _ _ _ _
    refine wp_seq ?_
    obtain ⟨y8, hy⟩ : ∃ p, y16 / 2 ^ 8 = p := ⟨_, rfl⟩
    rw [hy] at x0 l e
    clear hy
    replace x2 : Fk.f (.eq (.int .i64 24)) (f12.eval (.tmp 2)) w12 := x2
    have hq8 := bln8 ⟨y8, l⟩
    dsimp only at hq8
    -- R10
    refine wp_region_seq [.eq (.int .i64 24), .eq (.int .u64 ((y8 : Nat) : Int)), .eq (.int .u8 ((y8 : Nat) : Int)), .eq (.int .u8 ((bln y8 : Nat) : Int)), .eq (.int .i64 ((bln y8 : Nat) : Int)), .eq (.int .i64 ((L : Nat) : Int))] (by kernel_rfl) (by kernel_rfl) (by rw [sz]; kernel_rfl) (by kernel_rfl) ⟨fun hw ac u K => ?_, fun hw ac u K => ?_, fun hw ac u K => ?_, fun hw ac u K => ?_, fun hw ac u K => ?_, fun hw ac u K => ?_, trivial⟩ ?_
    · exact st_move (.tmp 2) rfl ((K.old 2 rfl).trans x2)
    · exact st_move (.tmp 0) rfl ((K.old 0 rfl).trans x0)
    · exact st_conv 65 5 (.tmp 20) rfl .u64 .u8 _ _ (K.dep 1 20 rfl) Tryd.under65 Tryd.under5 (by rw [IntKind.wrap_u8]; omega)
    · exact st_len8 _ (.tmp 21) rfl rfl y8 l (K.dep 2 21 rfl)
    · exact st_conv 5 3 (.tmp 22) rfl .u8 .i64 _ _ (K.dep 3 22 rfl) Tryd.under5 Tryd.under3 (by rw [IntKind.wrap_i64]; omega)
    · exact st_add (.tmp 19) (.tmp 23) rfl (24) (bln y8) (L) (K.dep 0 19 rfl) (K.dep 4 23 rfl) (by omega) (by omega)
    intro f13 w13 A hb
    replace bl0 := bl
    replace x4 := (A.old 4 rfl).trans x4
    replace x8 := (A.old 8 rfl).trans x8
    replace x14 := (A.old 14 rfl).trans x14
    replace x0 := (A.old 0 rfl).trans x0
    replace x2 := (A.old 2 rfl).trans x2
    have x24 : f13.eval (.tmp 24) = .int .i64 ((L : Nat) : Int) := A.has 5 24 rfl
    replace bl := (bl.trans (Below.mono hb bl.size))
    replace sz := A.size.trans sz
    replace df := A.defs.trans df
    clear A hb
    refine wl_one (.eq (.int .i64 ((L : Nat) : Int))) rfl 2 rfl (by rw [sz]; decide) (st_assign (.tmp 24) rfl x24) ?_
    intro f14 w14 df2 sz2 old2 new2 hb
    replace bl0 := bl
    replace x4 := (old2 4 rfl).trans x4
    replace x8 := (old2 8 rfl).trans x8
    replace x14 := (old2 14 rfl).trans x14
    replace x0 := (old2 0 rfl).trans x0
    clear x2
    replace x24 := (old2 24 rfl).trans x24
    have x2 : f14.eval (.tmp 2) = .int .i64 ((L : Nat) : Int) := new2
    replace bl := (bl.trans (Below.mono hb bl.size))
    replace sz := sz2.trans sz
    replace df := df2.trans df
    clear df2 sz2 old2 new2 hb
    refine wpList_nil ?_
    clear x24
    show Code.wp _ _ _ _ _
    refine wp_ret ?_
    repeat (first | with_reducible refine then_ret ?_ | with_reducible refine block_ret ?_)
    exact bodyPost_ret (v := .int .i64 ((L : Nat) : Int)) (ret_slot rfl f14 _ x2 _ _) df ⟨rfl, bl⟩
  replace e : bln (x / 2 ^ 32) + 32 = L := by have := bln_shift h32; omega
  replace l : x / 2 ^ 32 < 4294967296 := by omega
  -- R1
  refine wp_all_seq [.eq (.int .u64 ((x : Nat) : Int)), .eq (.bool true)] (by kernel_rfl) (by kernel_rfl) (by rw [sz]; kernel_rfl) (by kernel_rfl) ⟨fun hw ac u K => ?_, fun hw ac u K => ?_, trivial⟩ ?_
  · exact st_move (.tmp 0) rfl ((K.old 0 rfl).trans x0)
  · exact st_geq 65 (.tmp 3) (.const (.int .u64 4294967296)) rfl .u64 _ _ (K.dep 0 3 rfl) rfl _ (by rw [eq_comm, decide_eq_true_iff]; omega)
  intro f2 w2 A hb
  replace bl0 := bl
  replace x0 := (A.old 0 rfl).trans x0
  replace x2 := (A.old 2 rfl).trans x2
  have x4 : f2.eval (.tmp 4) = .bool true := A.has 1 4 rfl
  replace bl := (bl.trans (Below.mono hb bl.size))
  replace sz := A.size.trans sz
  replace df := A.defs.trans df
  clear A hb
  show Code.wp _ _ _ _ _
  refine wp_cond_true x4 ?_
  refine wp_seq ?_
  -- R2
  refine wp_region_seq [.eq (.int .u64 ((x : Nat) : Int)), .eq (.int .u64 ((x / 2 ^ 32 : Nat) : Int))] (by kernel_rfl) (by kernel_rfl) (by rw [sz]; kernel_rfl) (by kernel_rfl) ⟨fun hw ac u K => ?_, fun hw ac u K => ?_, trivial⟩ ?_
  · exact st_move (.tmp 0) rfl ((K.old 0 rfl).trans x0)
  · exact st_shru 65 53 (.tmp 5) (.const (.int .u64 32)) rfl (x) 32 (K.dep 0 5 rfl) rfl _ rfl (by decide)
  intro f3 w3 A hb
  replace bl0 := bl
  replace x0 := (A.old 0 rfl).trans x0
  replace x2 := (A.old 2 rfl).trans x2
  replace x4 := (A.old 4 rfl).trans x4
  have x6 : f3.eval (.tmp 6) = .int .u64 ((x / 2 ^ 32 : Nat) : Int) := A.has 1 6 rfl
  replace bl := (bl.trans (Below.mono hb bl.size))
  replace sz := A.size.trans sz
  replace df := A.defs.trans df
  clear A hb
  refine wl_one (.eq (.int .u64 ((x / 2 ^ 32 : Nat) : Int))) rfl 0 rfl (by rw [sz]; decide) (st_assign (.tmp 6) rfl x6) ?_
  intro f4 w4 df2 sz2 old2 new2 hb
  replace bl0 := bl
  clear x0
  replace x2 := (old2 2 rfl).trans x2
  replace x4 := (old2 4 rfl).trans x4
  replace x6 := (old2 6 rfl).trans x6
  have x0 : f4.eval (.tmp 0) = .int .u64 ((x / 2 ^ 32 : Nat) : Int) := new2
  replace bl := (bl.trans (Below.mono hb bl.size))
  replace sz := sz2.trans sz
  replace df := df2.trans df
  clear df2 sz2 old2 new2 hb
  refine wpList_nil ?_
  clear x6
  show Code.wp _ _ _ _ _
  -- R3
  refine wp_all_seq [.eq (.int .i64 32)] (by kernel_rfl) (by kernel_rfl) (by rw [sz]; kernel_rfl) (by kernel_rfl) ⟨fun hw ac u K => ?_, trivial⟩ ?_
  · exact st_assign (.const (.int .i64 32)) rfl rfl
  intro f5 w5 A hb
  replace bl0 := bl
  clear x2
  replace x4 := (A.old 4 rfl).trans x4
  replace x0 := (A.old 0 rfl).trans x0
  have x2 : f5.eval (.tmp 2) = .int .i64 32 := A.has 0 2 rfl
  replace bl := (bl.trans (Below.mono hb bl.size))
  replace sz := A.size.trans sz
  replace df := A.defs.trans df
  clear A hb
  show Code.wp _ _ _ _ _
  refine wp_seq ?_
  refine wp_seq ?_
  obtain ⟨y32, hy⟩ : ∃ p, x / 2 ^ 32 = p := ⟨_, rfl⟩
  rw [hy] at x0 l e
  clear hy
  replace x2 : Fk.f (.eq (.int .i64 32)) (f5.eval (.tmp 2)) w5 := x2
  by_cases h16 : 2 ^ 16 ≤ y32
  rotate_left
  · skip
    replace l : y32 < 65536 := by omega
    -- R4
    refine wp_all_seq [.eq (.int .u64 ((y32 : Nat) : Int)), .eq (.bool false)] (by kernel_rfl) (by kernel_rfl) (by rw [sz]; kernel_rfl) (by kernel_rfl) ⟨fun hw ac u K => ?_, fun hw ac u K => ?_, trivial⟩ ?_
    · exact st_move (.tmp 0) rfl ((K.old 0 rfl).trans x0)
    · exact st_geq 65 (.tmp 7) (.const (.int .u64 65536)) rfl .u64 _ _ (K.dep 0 7 rfl) rfl _ (by rw [eq_comm, decide_eq_false_iff_not]; omega)
    intro f6 w6 A hb
    replace bl0 := bl
    replace x4 := (A.old 4 rfl).trans x4
    replace x0 := (A.old 0 rfl).trans x0
    replace x2 := (A.old 2 rfl).trans x2
    have x8 : f6.eval (.tmp 8) = .bool false := A.has 1 8 rfl
    replace bl := (bl.trans (Below.mono hb bl.size))
    replace sz := A.size.trans sz
    replace df := A.defs.trans df
    clear A hb
    show Code.wp _ _ _ _ _
    refine wp_cond_false x8 ?_
    refine wp_skip ?_
    show Code.wp _ _ _ _ _
    refine wp_seq ?_
    refine wp_seq ?_
    obtain ⟨y16, hy⟩ : ∃ p, y32 = p := ⟨_, rfl⟩
    rw [hy] at x0 l e
    clear hy
    replace x2 : Fk.f (.eq (.int .i64 32)) (f6.eval (.tmp 2)) w6 := x2
    by_cases h8 : 2 ^ 8 ≤ y16
    rotate_left
    · skip
      replace l : y16 < 256 := by omega
      -- R7
      refine wp_all_seq [.eq (.int .u64 ((y16 : Nat) : Int)), .eq (.bool false)] (by kernel_rfl) (by kernel_rfl) (by rw [sz]; kernel_rfl) (by kernel_rfl) ⟨fun hw ac u K => ?_, fun hw ac u K => ?_, trivial⟩ ?_
      · exact st_move (.tmp 0) rfl ((K.old 0 rfl).trans x0)
      · exact st_geq 65 (.tmp 13) (.const (.int .u64 256)) rfl .u64 _ _ (K.dep 0 13 rfl) rfl _ (by rw [eq_comm, decide_eq_false_iff_not]; omega)
      intro f7 w7 A hb
      replace bl0 := bl
      replace x4 := (A.old 4 rfl).trans x4
      replace x0 := (A.old 0 rfl).trans x0
      replace x2 := (A.old 2 rfl).trans x2
      replace x8 := (A.old 8 rfl).trans x8
      have x14 : f7.eval (.tmp 14) = .bool false := A.has 1 14 rfl
      replace bl := (bl.trans (Below.mono hb bl.size))
      replace sz := A.size.trans sz
      replace df := A.defs.trans df
      clear A hb
      show Code.wp _ _ _ _ _
      refine wp_cond_false x14 ?_
      refine wp_skip ?_
      show Code.wp _ _ _ _ _
      refine wp_seq ?_
      obtain ⟨y8, hy⟩ : ∃ p, y16 = p := ⟨_, rfl⟩
      rw [hy] at x0 l e
      clear hy
      replace x2 : Fk.f (.eq (.int .i64 32)) (f7.eval (.tmp 2)) w7 := x2
      have hq8 := bln8 ⟨y8, l⟩
      dsimp only at hq8
      -- R10
      refine wp_region_seq [.eq (.int .i64 32), .eq (.int .u64 ((y8 : Nat) : Int)), .eq (.int .u8 ((y8 : Nat) : Int)), .eq (.int .u8 ((bln y8 : Nat) : Int)), .eq (.int .i64 ((bln y8 : Nat) : Int)), .eq (.int .i64 ((L : Nat) : Int))] (by kernel_rfl) (by kernel_rfl) (by rw [sz]; kernel_rfl) (by kernel_rfl) ⟨fun hw ac u K => ?_, fun hw ac u K => ?_, fun hw ac u K => ?_, fun hw ac u K => ?_, fun hw ac u K => ?_, fun hw ac u K => ?_, trivial⟩ ?_
      · exact st_move (.tmp 2) rfl ((K.old 2 rfl).trans x2)
      · exact st_move (.tmp 0) rfl ((K.old 0 rfl).trans x0)
      · exact st_conv 65 5 (.tmp 20) rfl .u64 .u8 _ _ (K.dep 1 20 rfl) Tryd.under65 Tryd.under5 (by rw [IntKind.wrap_u8]; omega)
      · exact st_len8 _ (.tmp 21) rfl rfl y8 l (K.dep 2 21 rfl)
      · exact st_conv 5 3 (.tmp 22) rfl .u8 .i64 _ _ (K.dep 3 22 rfl) Tryd.under5 Tryd.under3 (by rw [IntKind.wrap_i64]; omega)
      · exact st_add (.tmp 19) (.tmp 23) rfl (32) (bln y8) (L) (K.dep 0 19 rfl) (K.dep 4 23 rfl) (by omega) (by omega)
      intro f8 w8 A hb
      replace bl0 := bl
      replace x4 := (A.old 4 rfl).trans x4
      replace x0 := (A.old 0 rfl).trans x0
      replace x2 := (A.old 2 rfl).trans x2
      replace x8 := (A.old 8 rfl).trans x8
      replace x14 := (A.old 14 rfl).trans x14
      have x24 : f8.eval (.tmp 24) = .int .i64 ((L : Nat) : Int) := A.has 5 24 rfl
      replace bl := (bl.trans (Below.mono hb bl.size))
      replace sz := A.size.trans sz
      replace df := A.defs.trans df
      clear A hb
      refine wl_one (.eq (.int .i64 ((L : Nat) : Int))) rfl 2 rfl (by rw [sz]; decide) (st_assign (.tmp 24) rfl x24) ?_
      intro f9 w9 df2 sz2 old2 new2 hb
      replace bl0 := bl
      replace x4 := (old2 4 rfl).trans x4
      replace x0 := (old2 0 rfl).trans x0
      clear x2
      replace x8 := (old2 8 rfl).trans x8
      replace x14 := (old2 14 rfl).trans x14
      replace x24 := (old2 24 rfl).trans x24
      have x2 : f9.eval (.tmp 2) = .int .i64 ((L : Nat) : Int) := new2
      replace bl := (bl.trans (Below.mono hb bl.size))
      replace sz := sz2.trans sz
      replace df := df2.trans df
      clear df2 sz2 old2 new2 hb
      refine wpList_nil ?_
      clear x24
      show Code.wp _ _ _ _ _
      refine wp_ret ?_
      repeat (first | with_reducible refine then_ret ?_ | with_reducible refine block_ret ?_)
      exact bodyPost_ret (v := .int .i64 ((L : Nat) : Int)) (ret_slot rfl f9 _ x2 _ _) df ⟨rfl, bl⟩
    replace e : bln (y16 / 2 ^ 8) + 40 = L := by have := bln_shift h8; omega
    replace l : y16 / 2 ^ 8 < 256 := by omega
    -- R7
    refine wp_all_seq [.eq (.int .u64 ((y16 : Nat) : Int)), .eq (.bool true)] (by kernel_rfl) (by kernel_rfl) (by rw [sz]; kernel_rfl) (by kernel_rfl) ⟨fun hw ac u K => ?_, fun hw ac u K => ?_, trivial⟩ ?_
    · exact st_move (.tmp 0) rfl ((K.old 0 rfl).trans x0)
    · exact st_geq 65 (.tmp 13) (.const (.int .u64 256)) rfl .u64 _ _ (K.dep 0 13 rfl) rfl _ (by rw [eq_comm, decide_eq_true_iff]; omega)
    intro f7 w7 A hb
    replace bl0 := bl
    replace x4 := (A.old 4 rfl).trans x4
    replace x0 := (A.old 0 rfl).trans x0
    replace x2 := (A.old 2 rfl).trans x2
    replace x8 := (A.old 8 rfl).trans x8
    have x14 : f7.eval (.tmp 14) = .bool true := A.has 1 14 rfl
    replace bl := (bl.trans (Below.mono hb bl.size))
    replace sz := A.size.trans sz
    replace df := A.defs.trans df
    clear A hb
    show Code.wp _ _ _ _ _
    refine wp_cond_true x14 ?_
    refine wp_seq ?_
    -- R8
    refine wp_region_seq [.eq (.int .u64 ((y16 : Nat) : Int)), .eq (.int .u64 ((y16 / 2 ^ 8 : Nat) : Int))] (by kernel_rfl) (by kernel_rfl) (by rw [sz]; kernel_rfl) (by kernel_rfl) ⟨fun hw ac u K => ?_, fun hw ac u K => ?_, trivial⟩ ?_
    · exact st_move (.tmp 0) rfl ((K.old 0 rfl).trans x0)
    · exact st_shru 65 53 (.tmp 15) (.const (.int .u64 8)) rfl (y16) 8 (K.dep 0 15 rfl) rfl _ rfl (by decide)
    intro f8 w8 A hb
    replace bl0 := bl
    replace x4 := (A.old 4 rfl).trans x4
    replace x0 := (A.old 0 rfl).trans x0
    replace x2 := (A.old 2 rfl).trans x2
    replace x8 := (A.old 8 rfl).trans x8
    replace x14 := (A.old 14 rfl).trans x14
    have x16 : f8.eval (.tmp 16) = .int .u64 ((y16 / 2 ^ 8 : Nat) : Int) := A.has 1 16 rfl
    replace bl := (bl.trans (Below.mono hb bl.size))
    replace sz := A.size.trans sz
    replace df := A.defs.trans df
    clear A hb
    refine wl_one (.eq (.int .u64 ((y16 / 2 ^ 8 : Nat) : Int))) rfl 0 rfl (by rw [sz]; decide) (st_assign (.tmp 16) rfl x16) ?_
    intro f9 w9 df2 sz2 old2 new2 hb
    replace bl0 := bl
    replace x4 := (old2 4 rfl).trans x4
    clear x0
    replace x2 := (old2 2 rfl).trans x2
    replace x8 := (old2 8 rfl).trans x8
    replace x14 := (old2 14 rfl).trans x14
    replace x16 := (old2 16 rfl).trans x16
    have x0 : f9.eval (.tmp 0) = .int .u64 ((y16 / 2 ^ 8 : Nat) : Int) := new2
    replace bl := (bl.trans (Below.mono hb bl.size))
    replace sz := sz2.trans sz
    replace df := df2.trans df
    clear df2 sz2 old2 new2 hb
    refine wpList_nil ?_
    clear x16
    show Code.wp _ _ _ _ _
    -- R9
    refine wp_region_seq [.eq (.int .i64 32), .eq (.int .i64 ((32 + 8 : Nat) : Int))] (by kernel_rfl) (by kernel_rfl) (by rw [sz]; kernel_rfl) (by kernel_rfl) ⟨fun hw ac u K => ?_, fun hw ac u K => ?_, trivial⟩ ?_
    · exact st_move (.tmp 2) rfl ((K.old 2 rfl).trans x2)
    · exact st_add (.tmp 17) (.const (.int .i64 8)) rfl (32) (8) (32 + 8) (K.dep 0 17 rfl) rfl (by omega) (by omega)
    intro f10 w10 A hb
    replace bl0 := bl
    replace x4 := (A.old 4 rfl).trans x4
    replace x2 := (A.old 2 rfl).trans x2
    replace x8 := (A.old 8 rfl).trans x8
    replace x14 := (A.old 14 rfl).trans x14
    replace x0 := (A.old 0 rfl).trans x0
    have x18 : f10.eval (.tmp 18) = .int .i64 ((32 + 8 : Nat) : Int) := A.has 1 18 rfl
    replace bl := (bl.trans (Below.mono hb bl.size))
    replace sz := A.size.trans sz
    replace df := A.defs.trans df
    clear A hb
    refine wl_one (.eq (.int .i64 ((32 + 8 : Nat) : Int))) rfl 2 rfl (by rw [sz]; decide) (st_assign (.tmp 18) rfl x18) ?_
    intro f11 w11 df2 sz2 old2 new2 hb
    replace bl0 := bl
    replace x4 := (old2 4 rfl).trans x4
    clear x2
    replace x8 := (old2 8 rfl).trans x8
    replace x14 := (old2 14 rfl).trans x14
    replace x0 := (old2 0 rfl).trans x0
    replace x18 := (old2 18 rfl).trans x18
    have x2 : f11.eval (.tmp 2) = .int .i64 ((32 + 8 : Nat) : Int) := new2
    replace bl := (bl.trans (Below.mono hb bl.size))
    replace sz := sz2.trans sz
    replace df := df2.trans df
    clear df2 sz2 old2 new2 hb
    refine wpList_nil ?_
    clear x18
    show Code.wp _ _ _ _ _
    refine wp_seq ?_
    obtain ⟨y8, hy⟩ : ∃ p, y16 / 2 ^ 8 = p := ⟨_, rfl⟩
    rw [hy] at x0 l e
    clear hy
    replace x2 : Fk.f (.eq (.int .i64 40)) (f11.eval (.tmp 2)) w11 := x2
    have hq8 := bln8 ⟨y8, l⟩
    dsimp only at hq8
    -- R10
    refine wp_region_seq [.eq (.int .i64 40), .eq (.int .u64 ((y8 : Nat) : Int)), .eq (.int .u8 ((y8 : Nat) : Int)), .eq (.int .u8 ((bln y8 : Nat) : Int)), .eq (.int .i64 ((bln y8 : Nat) : Int)), .eq (.int .i64 ((L : Nat) : Int))] (by kernel_rfl) (by kernel_rfl) (by rw [sz]; kernel_rfl) (by kernel_rfl) ⟨fun hw ac u K => ?_, fun hw ac u K => ?_, fun hw ac u K => ?_, fun hw ac u K => ?_, fun hw ac u K => ?_, fun hw ac u K => ?_, trivial⟩ ?_
    · exact st_move (.tmp 2) rfl ((K.old 2 rfl).trans x2)
    · exact st_move (.tmp 0) rfl ((K.old 0 rfl).trans x0)
    · exact st_conv 65 5 (.tmp 20) rfl .u64 .u8 _ _ (K.dep 1 20 rfl) Tryd.under65 Tryd.under5 (by rw [IntKind.wrap_u8]; omega)
    · exact st_len8 _ (.tmp 21) rfl rfl y8 l (K.dep 2 21 rfl)
    · exact st_conv 5 3 (.tmp 22) rfl .u8 .i64 _ _ (K.dep 3 22 rfl) Tryd.under5 Tryd.under3 (by rw [IntKind.wrap_i64]; omega)
    · exact st_add (.tmp 19) (.tmp 23) rfl (40) (bln y8) (L) (K.dep 0 19 rfl) (K.dep 4 23 rfl) (by omega) (by omega)
    intro f12 w12 A hb
    replace bl0 := bl
    replace x4 := (A.old 4 rfl).trans x4
    replace x8 := (A.old 8 rfl).trans x8
    replace x14 := (A.old 14 rfl).trans x14
    replace x0 := (A.old 0 rfl).trans x0
    replace x2 := (A.old 2 rfl).trans x2
    have x24 : f12.eval (.tmp 24) = .int .i64 ((L : Nat) : Int) := A.has 5 24 rfl
    replace bl := (bl.trans (Below.mono hb bl.size))
    replace sz := A.size.trans sz
    replace df := A.defs.trans df
    clear A hb
    refine wl_one (.eq (.int .i64 ((L : Nat) : Int))) rfl 2 rfl (by rw [sz]; decide) (st_assign (.tmp 24) rfl x24) ?_
    intro f13 w13 df2 sz2 old2 new2 hb
    replace bl0 := bl
    replace x4 := (old2 4 rfl).trans x4
    replace x8 := (old2 8 rfl).trans x8
    replace x14 := (old2 14 rfl).trans x14
    replace x0 := (old2 0 rfl).trans x0
    clear x2
    replace x24 := (old2 24 rfl).trans x24
    have x2 : f13.eval (.tmp 2) = .int .i64 ((L : Nat) : Int) := new2
    replace bl := (bl.trans (Below.mono hb bl.size))
    replace sz := sz2.trans sz
    replace df := df2.trans df
    clear df2 sz2 old2 new2 hb
    refine wpList_nil ?_
    clear x24
    show Code.wp _ _ _ _ _
    refine wp_ret ?_
    repeat (first | with_reducible refine then_ret ?_ | with_reducible refine block_ret ?_)
    exact bodyPost_ret (v := .int .i64 ((L : Nat) : Int)) (ret_slot rfl f13 _ x2 _ _) df ⟨rfl, bl⟩
  replace e : bln (y32 / 2 ^ 16) + 48 = L := by have := bln_shift h16; omega
  replace l : y32 / 2 ^ 16 < 65536 := by omega
  -- R4
  refine wp_all_seq [.eq (.int .u64 ((y32 : Nat) : Int)), .eq (.bool true)] (by kernel_rfl) (by kernel_rfl) (by rw [sz]; kernel_rfl) (by kernel_rfl) ⟨fun hw ac u K => ?_, fun hw ac u K => ?_, trivial⟩ ?_
  · exact st_move (.tmp 0) rfl ((K.old 0 rfl).trans x0)
  · exact st_geq 65 (.tmp 7) (.const (.int .u64 65536)) rfl .u64 _ _ (K.dep 0 7 rfl) rfl _ (by rw [eq_comm, decide_eq_true_iff]; omega)
  intro f6 w6 A hb
  replace bl0 := bl
  replace x4 := (A.old 4 rfl).trans x4
  replace x0 := (A.old 0 rfl).trans x0
  replace x2 := (A.old 2 rfl).trans x2
  have x8 : f6.eval (.tmp 8) = .bool true := A.has 1 8 rfl
  replace bl := (bl.trans (Below.mono hb bl.size))
  replace sz := A.size.trans sz
  replace df := A.defs.trans df
  clear A hb
  show Code.wp _ _ _ _ _
  refine wp_cond_true x8 ?_
  refine wp_seq ?_
  -- R5
  refine wp_region_seq [.eq (.int .u64 ((y32 : Nat) : Int)), .eq (.int .u64 ((y32 / 2 ^ 16 : Nat) : Int))] (by kernel_rfl) (by kernel_rfl) (by rw [sz]; kernel_rfl) (by kernel_rfl) ⟨fun hw ac u K => ?_, fun hw ac u K => ?_, trivial⟩ ?_
  · exact st_move (.tmp 0) rfl ((K.old 0 rfl).trans x0)
  · exact st_shru 65 53 (.tmp 9) (.const (.int .u64 16)) rfl (y32) 16 (K.dep 0 9 rfl) rfl _ rfl (by decide)
  intro f7 w7 A hb
  replace bl0 := bl
  replace x4 := (A.old 4 rfl).trans x4
  replace x0 := (A.old 0 rfl).trans x0
  replace x2 := (A.old 2 rfl).trans x2
  replace x8 := (A.old 8 rfl).trans x8
  have x10 : f7.eval (.tmp 10) = .int .u64 ((y32 / 2 ^ 16 : Nat) : Int) := A.has 1 10 rfl
  replace bl := (bl.trans (Below.mono hb bl.size))
  replace sz := A.size.trans sz
  replace df := A.defs.trans df
  clear A hb
  refine wl_one (.eq (.int .u64 ((y32 / 2 ^ 16 : Nat) : Int))) rfl 0 rfl (by rw [sz]; decide) (st_assign (.tmp 10) rfl x10) ?_
  intro f8 w8 df2 sz2 old2 new2 hb
  replace bl0 := bl
  replace x4 := (old2 4 rfl).trans x4
  clear x0
  replace x2 := (old2 2 rfl).trans x2
  replace x8 := (old2 8 rfl).trans x8
  replace x10 := (old2 10 rfl).trans x10
  have x0 : f8.eval (.tmp 0) = .int .u64 ((y32 / 2 ^ 16 : Nat) : Int) := new2
  replace bl := (bl.trans (Below.mono hb bl.size))
  replace sz := sz2.trans sz
  replace df := df2.trans df
  clear df2 sz2 old2 new2 hb
  refine wpList_nil ?_
  clear x10
  show Code.wp _ _ _ _ _
  -- R6
  refine wp_region_seq [.eq (.int .i64 32), .eq (.int .i64 ((32 + 16 : Nat) : Int))] (by kernel_rfl) (by kernel_rfl) (by rw [sz]; kernel_rfl) (by kernel_rfl) ⟨fun hw ac u K => ?_, fun hw ac u K => ?_, trivial⟩ ?_
  · exact st_move (.tmp 2) rfl ((K.old 2 rfl).trans x2)
  · exact st_add (.tmp 11) (.const (.int .i64 16)) rfl (32) (16) (32 + 16) (K.dep 0 11 rfl) rfl (by omega) (by omega)
  intro f9 w9 A hb
  replace bl0 := bl
  replace x4 := (A.old 4 rfl).trans x4
  replace x2 := (A.old 2 rfl).trans x2
  replace x8 := (A.old 8 rfl).trans x8
  replace x0 := (A.old 0 rfl).trans x0
  have x12 : f9.eval (.tmp 12) = .int .i64 ((32 + 16 : Nat) : Int) := A.has 1 12 rfl
  replace bl := (bl.trans (Below.mono hb bl.size))
  replace sz := A.size.trans sz
  replace df := A.defs.trans df
  clear A hb
  refine wl_one (.eq (.int .i64 ((32 + 16 : Nat) : Int))) rfl 2 rfl (by rw [sz]; decide) (st_assign (.tmp 12) rfl x12) ?_
  intro f10 w10 df2 sz2 old2 new2 hb
  replace bl0 := bl
  replace x4 := (old2 4 rfl).trans x4
  clear x2
  replace x8 := (old2 8 rfl).trans x8
  replace x0 := (old2 0 rfl).trans x0
  replace x12 := (old2 12 rfl).trans x12
  have x2 : f10.eval (.tmp 2) = .int .i64 ((32 + 16 : Nat) : Int) := new2
  replace bl := (bl.trans (Below.mono hb bl.size))
  replace sz := sz2.trans sz
  replace df := df2.trans df
  clear df2 sz2 old2 new2 hb
  refine wpList_nil ?_
  clear x12
  show Code.wp _ _ _ _ _
  refine wp_seq ?_
  refine wp_seq ?_
  obtain ⟨y16, hy⟩ : ∃ p, y32 / 2 ^ 16 = p := ⟨_, rfl⟩
  rw [hy] at x0 l e
  clear hy
  replace x2 : Fk.f (.eq (.int .i64 48)) (f10.eval (.tmp 2)) w10 := x2
  by_cases h8 : 2 ^ 8 ≤ y16
  rotate_left
  · skip
    replace l : y16 < 256 := by omega
    -- R7
    refine wp_all_seq [.eq (.int .u64 ((y16 : Nat) : Int)), .eq (.bool false)] (by kernel_rfl) (by kernel_rfl) (by rw [sz]; kernel_rfl) (by kernel_rfl) ⟨fun hw ac u K => ?_, fun hw ac u K => ?_, trivial⟩ ?_
    · exact st_move (.tmp 0) rfl ((K.old 0 rfl).trans x0)
    · exact st_geq 65 (.tmp 13) (.const (.int .u64 256)) rfl .u64 _ _ (K.dep 0 13 rfl) rfl _ (by rw [eq_comm, decide_eq_false_iff_not]; omega)
    intro f11 w11 A hb
    replace bl0 := bl
    replace x4 := (A.old 4 rfl).trans x4
    replace x8 := (A.old 8 rfl).trans x8
    replace x0 := (A.old 0 rfl).trans x0
    replace x2 := (A.old 2 rfl).trans x2
    have x14 : f11.eval (.tmp 14) = .bool false := A.has 1 14 rfl
    replace bl := (bl.trans (Below.mono hb bl.size))
    replace sz := A.size.trans sz
    replace df := A.defs.trans df
    clear A hb
    show Code.wp _ _ _ _ _
    refine wp_cond_false x14 ?_
    refine wp_skip ?_
    show Code.wp _ _ _ _ _
    refine wp_seq ?_
    obtain ⟨y8, hy⟩ : ∃ p, y16 = p := ⟨_, rfl⟩
    rw [hy] at x0 l e
    clear hy
    replace x2 : Fk.f (.eq (.int .i64 48)) (f11.eval (.tmp 2)) w11 := x2
    have hq8 := bln8 ⟨y8, l⟩
    dsimp only at hq8
    -- R10
    refine wp_region_seq [.eq (.int .i64 48), .eq (.int .u64 ((y8 : Nat) : Int)), .eq (.int .u8 ((y8 : Nat) : Int)), .eq (.int .u8 ((bln y8 : Nat) : Int)), .eq (.int .i64 ((bln y8 : Nat) : Int)), .eq (.int .i64 ((L : Nat) : Int))] (by kernel_rfl) (by kernel_rfl) (by rw [sz]; kernel_rfl) (by kernel_rfl) ⟨fun hw ac u K => ?_, fun hw ac u K => ?_, fun hw ac u K => ?_, fun hw ac u K => ?_, fun hw ac u K => ?_, fun hw ac u K => ?_, trivial⟩ ?_
    · exact st_move (.tmp 2) rfl ((K.old 2 rfl).trans x2)
    · exact st_move (.tmp 0) rfl ((K.old 0 rfl).trans x0)
    · exact st_conv 65 5 (.tmp 20) rfl .u64 .u8 _ _ (K.dep 1 20 rfl) Tryd.under65 Tryd.under5 (by rw [IntKind.wrap_u8]; omega)
    · exact st_len8 _ (.tmp 21) rfl rfl y8 l (K.dep 2 21 rfl)
    · exact st_conv 5 3 (.tmp 22) rfl .u8 .i64 _ _ (K.dep 3 22 rfl) Tryd.under5 Tryd.under3 (by rw [IntKind.wrap_i64]; omega)
    · exact st_add (.tmp 19) (.tmp 23) rfl (48) (bln y8) (L) (K.dep 0 19 rfl) (K.dep 4 23 rfl) (by omega) (by omega)
    intro f12 w12 A hb
    replace bl0 := bl
    replace x4 := (A.old 4 rfl).trans x4
    replace x8 := (A.old 8 rfl).trans x8
    replace x0 := (A.old 0 rfl).trans x0
    replace x2 := (A.old 2 rfl).trans x2
    replace x14 := (A.old 14 rfl).trans x14
    have x24 : f12.eval (.tmp 24) = .int .i64 ((L : Nat) : Int) := A.has 5 24 rfl
    replace bl := (bl.trans (Below.mono hb bl.size))
    replace sz := A.size.trans sz
    replace df := A.defs.trans df
    clear A hb
    refine wl_one (.eq (.int .i64 ((L : Nat) : Int))) rfl 2 rfl (by rw [sz]; decide) (st_assign (.tmp 24) rfl x24) ?_
    intro f13 w13 df2 sz2 old2 new2 hb
    replace bl0 := bl
    replace x4 := (old2 4 rfl).trans x4
    replace x8 := (old2 8 rfl).trans x8
    replace x0 := (old2 0 rfl).trans x0
    clear x2
    replace x14 := (old2 14 rfl).trans x14
    replace x24 := (old2 24 rfl).trans x24
    have x2 : f13.eval (.tmp 2) = .int .i64 ((L : Nat) : Int) := new2
    replace bl := (bl.trans (Below.mono hb bl.size))
    replace sz := sz2.trans sz
    replace df := df2.trans df
    clear df2 sz2 old2 new2 hb
    refine wpList_nil ?_
    clear x24
    show Code.wp _ _ _ _ _
    refine wp_ret ?_
    repeat (first | with_reducible refine then_ret ?_ | with_reducible refine block_ret ?_)
    exact bodyPost_ret (v := .int .i64 ((L : Nat) : Int)) (ret_slot rfl f13 _ x2 _ _) df ⟨rfl, bl⟩
  replace e : bln (y16 / 2 ^ 8) + 56 = L := by have := bln_shift h8; omega
  replace l : y16 / 2 ^ 8 < 256 := by omega
  -- R7
  refine wp_all_seq [.eq (.int .u64 ((y16 : Nat) : Int)), .eq (.bool true)] (by kernel_rfl) (by kernel_rfl) (by rw [sz]; kernel_rfl) (by kernel_rfl) ⟨fun hw ac u K => ?_, fun hw ac u K => ?_, trivial⟩ ?_
  · exact st_move (.tmp 0) rfl ((K.old 0 rfl).trans x0)
  · exact st_geq 65 (.tmp 13) (.const (.int .u64 256)) rfl .u64 _ _ (K.dep 0 13 rfl) rfl _ (by rw [eq_comm, decide_eq_true_iff]; omega)
  intro f11 w11 A hb
  replace bl0 := bl
  replace x4 := (A.old 4 rfl).trans x4
  replace x8 := (A.old 8 rfl).trans x8
  replace x0 := (A.old 0 rfl).trans x0
  replace x2 := (A.old 2 rfl).trans x2
  have x14 : f11.eval (.tmp 14) = .bool true := A.has 1 14 rfl
  replace bl := (bl.trans (Below.mono hb bl.size))
  replace sz := A.size.trans sz
  replace df := A.defs.trans df
  clear A hb
  show Code.wp _ _ _ _ _
  refine wp_cond_true x14 ?_
  refine wp_seq ?_
  -- R8
  refine wp_region_seq [.eq (.int .u64 ((y16 : Nat) : Int)), .eq (.int .u64 ((y16 / 2 ^ 8 : Nat) : Int))] (by kernel_rfl) (by kernel_rfl) (by rw [sz]; kernel_rfl) (by kernel_rfl) ⟨fun hw ac u K => ?_, fun hw ac u K => ?_, trivial⟩ ?_
  · exact st_move (.tmp 0) rfl ((K.old 0 rfl).trans x0)
  · exact st_shru 65 53 (.tmp 15) (.const (.int .u64 8)) rfl (y16) 8 (K.dep 0 15 rfl) rfl _ rfl (by decide)
  intro f12 w12 A hb
  replace bl0 := bl
  replace x4 := (A.old 4 rfl).trans x4
  replace x8 := (A.old 8 rfl).trans x8
  replace x0 := (A.old 0 rfl).trans x0
  replace x2 := (A.old 2 rfl).trans x2
  replace x14 := (A.old 14 rfl).trans x14
  have x16 : f12.eval (.tmp 16) = .int .u64 ((y16 / 2 ^ 8 : Nat) : Int) := A.has 1 16 rfl
  replace bl := (bl.trans (Below.mono hb bl.size))
  replace sz := A.size.trans sz
  replace df := A.defs.trans df
  clear A hb
  refine wl_one (.eq (.int .u64 ((y16 / 2 ^ 8 : Nat) : Int))) rfl 0 rfl (by rw [sz]; decide) (st_assign (.tmp 16) rfl x16) ?_
  intro f13 w13 df2 sz2 old2 new2 hb
  replace bl0 := bl
  replace x4 := (old2 4 rfl).trans x4
  replace x8 := (old2 8 rfl).trans x8
  clear x0
  replace x2 := (old2 2 rfl).trans x2
  replace x14 := (old2 14 rfl).trans x14
  replace x16 := (old2 16 rfl).trans x16
  have x0 : f13.eval (.tmp 0) = .int .u64 ((y16 / 2 ^ 8 : Nat) : Int) := new2
  replace bl := (bl.trans (Below.mono hb bl.size))
  replace sz := sz2.trans sz
  replace df := df2.trans df
  clear df2 sz2 old2 new2 hb
  refine wpList_nil ?_
  clear x16
  show Code.wp _ _ _ _ _
  -- R9
  refine wp_region_seq [.eq (.int .i64 48), .eq (.int .i64 ((48 + 8 : Nat) : Int))] (by kernel_rfl) (by kernel_rfl) (by rw [sz]; kernel_rfl) (by kernel_rfl) ⟨fun hw ac u K => ?_, fun hw ac u K => ?_, trivial⟩ ?_
  · exact st_move (.tmp 2) rfl ((K.old 2 rfl).trans x2)
  · exact st_add (.tmp 17) (.const (.int .i64 8)) rfl (48) (8) (48 + 8) (K.dep 0 17 rfl) rfl (by omega) (by omega)
  intro f14 w14 A hb
  replace bl0 := bl
  replace x4 := (A.old 4 rfl).trans x4
  replace x8 := (A.old 8 rfl).trans x8
  replace x2 := (A.old 2 rfl).trans x2
  replace x14 := (A.old 14 rfl).trans x14
  replace x0 := (A.old 0 rfl).trans x0
  have x18 : f14.eval (.tmp 18) = .int .i64 ((48 + 8 : Nat) : Int) := A.has 1 18 rfl
  replace bl := (bl.trans (Below.mono hb bl.size))
  replace sz := A.size.trans sz
  replace df := A.defs.trans df
  clear A hb
  refine wl_one (.eq (.int .i64 ((48 + 8 : Nat) : Int))) rfl 2 rfl (by rw [sz]; decide) (st_assign (.tmp 18) rfl x18) ?_
  intro f15 w15 df2 sz2 old2 new2 hb
  replace bl0 := bl
  replace x4 := (old2 4 rfl).trans x4
  replace x8 := (old2 8 rfl).trans x8
  clear x2
  replace x14 := (old2 14 rfl).trans x14
  replace x0 := (old2 0 rfl).trans x0
  replace x18 := (old2 18 rfl).trans x18
  have x2 : f15.eval (.tmp 2) = .int .i64 ((48 + 8 : Nat) : Int) := new2
  replace bl := (bl.trans (Below.mono hb bl.size))
  replace sz := sz2.trans sz
  replace df := df2.trans df
  clear df2 sz2 old2 new2 hb
  refine wpList_nil ?_
  clear x18
  show Code.wp _ _ _ _ _
  refine wp_seq ?_
  obtain ⟨y8, hy⟩ : ∃ p, y16 / 2 ^ 8 = p := ⟨_, rfl⟩
  rw [hy] at x0 l e
  clear hy
  replace x2 : Fk.f (.eq (.int .i64 56)) (f15.eval (.tmp 2)) w15 := x2
  have hq8 := bln8 ⟨y8, l⟩
  dsimp only at hq8
  -- R10
  refine wp_region_seq [.eq (.int .i64 56), .eq (.int .u64 ((y8 : Nat) : Int)), .eq (.int .u8 ((y8 : Nat) : Int)), .eq (.int .u8 ((bln y8 : Nat) : Int)), .eq (.int .i64 ((bln y8 : Nat) : Int)), .eq (.int .i64 ((L : Nat) : Int))] (by kernel_rfl) (by kernel_rfl) (by rw [sz]; kernel_rfl) (by kernel_rfl) ⟨fun hw ac u K => ?_, fun hw ac u K => ?_, fun hw ac u K => ?_, fun hw ac u K => ?_, fun hw ac u K => ?_, fun hw ac u K => ?_, trivial⟩ ?_
  · exact st_move (.tmp 2) rfl ((K.old 2 rfl).trans x2)
  · exact st_move (.tmp 0) rfl ((K.old 0 rfl).trans x0)
  · exact st_conv 65 5 (.tmp 20) rfl .u64 .u8 _ _ (K.dep 1 20 rfl) Tryd.under65 Tryd.under5 (by rw [IntKind.wrap_u8]; omega)
  · exact st_len8 _ (.tmp 21) rfl rfl y8 l (K.dep 2 21 rfl)
  · exact st_conv 5 3 (.tmp 22) rfl .u8 .i64 _ _ (K.dep 3 22 rfl) Tryd.under5 Tryd.under3 (by rw [IntKind.wrap_i64]; omega)
  · exact st_add (.tmp 19) (.tmp 23) rfl (56) (bln y8) (L) (K.dep 0 19 rfl) (K.dep 4 23 rfl) (by omega) (by omega)
  intro f16 w16 A hb
  replace bl0 := bl
  replace x4 := (A.old 4 rfl).trans x4
  replace x8 := (A.old 8 rfl).trans x8
  replace x14 := (A.old 14 rfl).trans x14
  replace x0 := (A.old 0 rfl).trans x0
  replace x2 := (A.old 2 rfl).trans x2
  have x24 : f16.eval (.tmp 24) = .int .i64 ((L : Nat) : Int) := A.has 5 24 rfl
  replace bl := (bl.trans (Below.mono hb bl.size))
  replace sz := A.size.trans sz
  replace df := A.defs.trans df
  clear A hb
  refine wl_one (.eq (.int .i64 ((L : Nat) : Int))) rfl 2 rfl (by rw [sz]; decide) (st_assign (.tmp 24) rfl x24) ?_
  intro f17 w17 df2 sz2 old2 new2 hb
  replace bl0 := bl
  replace x4 := (old2 4 rfl).trans x4
  replace x8 := (old2 8 rfl).trans x8
  replace x14 := (old2 14 rfl).trans x14
  replace x0 := (old2 0 rfl).trans x0
  clear x2
  replace x24 := (old2 24 rfl).trans x24
  have x2 : f17.eval (.tmp 2) = .int .i64 ((L : Nat) : Int) := new2
  replace bl := (bl.trans (Below.mono hb bl.size))
  replace sz := sz2.trans sz
  replace df := df2.trans df
  clear df2 sz2 old2 new2 hb
  refine wpList_nil ?_
  clear x24
  show Code.wp _ _ _ _ _
  refine wp_ret ?_
  repeat (first | with_reducible refine then_ret ?_ | with_reducible refine block_ret ?_)
  exact bodyPost_ret (v := .int .i64 ((L : Nat) : Int)) (ret_slot rfl f17 _ x2 _ _) df ⟨rfl, bl⟩
theorem len_any (x : Nat) (hx : x < 18446744073709551616) (w : World) :
    Calls Tryd.prog 28 #[.int .u64 ((x : Nat) : Int)] w fun e w' => e = .returned (.int .i64 ((bln x : Nat) : Int)) ∧ Below w.heap.size w w' := by
  go_enter Tryd.func28, Tryd.ntmps28
  refine code_both (fun f w1 => f.tmps.size = 8 ∧ f.defers = [] ∧ f.eval (.tmp 0) = .int .u64 ((x : Nat) : Int) ∧ Below w.heap.size w (w1)) ⟨rfl, rfl, rfl, Below.refl _ _⟩ ?_
  rintro f0 w0 ⟨sz, df, x0, bl⟩
  have bl0 := bl
  refine wp_seq ?_
  -- R0
  refine wp_all_seq [.eq (.int .i64 0)] (by kernel_rfl) (by kernel_rfl) (by rw [sz]; kernel_rfl) (by kernel_rfl) ⟨fun hw ac u K => ?_, trivial⟩ ?_
  · exact st_assign (.const (.int .i64 0)) rfl rfl
  intro f1 w1 A hb
  replace bl0 := bl
  replace x0 := (A.old 0 rfl).trans x0
  have x2 : f1.eval (.tmp 2) = .int .i64 0 := A.has 0 2 rfl
  replace bl := (bl.trans (Below.mono hb bl.size))
  replace sz := A.size.trans sz
  replace df := A.defs.trans df
  clear A hb
  show Code.wp _ _ _ _ _
  refine wp_seq ?_
  refine wp_cond_false rfl ?_
  refine wp_skip ?_
  show Code.wp _ _ _ _ _
  refine wp_seq ?_
  -- R2
  refine wp_all_seq [.eq (.int .u64 ((x : Nat) : Int)), .eq (.int .i64 ((bln x : Nat) : Int)), .eq (.int .i64 ((bln x : Nat) : Int))] (by kernel_rfl) (by kernel_rfl) (by rw [sz]; kernel_rfl) (by kernel_rfl) ⟨fun hw ac u K => ?_, fun hw ac u K => ?_, fun hw ac u K => ?_, trivial⟩ ?_
  · exact st_move (.tmp 0) rfl ((K.old 0 rfl).trans x0)
  · exact st_call 39 (.func 39) _ _ #[.int .u64 ((x : Nat) : Int)] rfl rfl (one_arg (K.dep 0 6 rfl)) Tryd.enter39 (fk_of (len64_any x _ hx rfl _))
  · exact st_assign (.tmp 7) rfl (K.dep 1 7 rfl)
  intro f2 w2 A hb
  replace bl0 := bl
  replace x0 := (A.old 0 rfl).trans x0
  clear x2
  have x2 : f2.eval (.tmp 2) = .int .i64 ((bln x : Nat) : Int) := A.has 2 2 rfl
  replace bl := (bl.trans (Below.mono hb bl.size))
  replace sz := A.size.trans sz
  replace df := A.defs.trans df
  clear A hb
  show Code.wp _ _ _ _ _
  refine wp_ret ?_
  repeat (first | with_reducible refine then_ret ?_ | with_reducible refine block_ret ?_)
  exact bodyPost_ret (v := .int .i64 ((bln x : Nat) : Int)) (ret_slot rfl f2 _ x2 _ _) df ⟨rfl, bl⟩
end Go.Proofs.YtfbfngblocfdlaaDoor
namespace Go.Proofs.YtfbfngblocfdlaaDoor
set_option maxRecDepth 100000
open Go.RowKit
/-- A slice that has these hashes, and room for them. -/
def Fk.hc (hs : List (List (BitVec 8))) : Fk := .inr (.inl ⟨fun v w => ∃ A C lb lo, v = .slice A hs.length C ∧ hs.length ≤ C ∧ Hl w A lb lo hs, by
  rintro v w w' ⟨A, C, lb, lo, e, hg, h⟩ hb
  exact ⟨A, C, lb, lo, e, hg, h.below hb⟩⟩)
theorem hc_hs {hs : List (List (BitVec 8))} {v : Value} {w : World} (h : (Fk.hc hs).f v w) : (Fk.hs hs).f v w := by
  obtain ⟨A, C, lb, lo, e, _, hl⟩ := h
  exact ⟨A, C, lb, lo, e, hl⟩
theorem ow_hc {base : Nat} {hs : List (List (BitVec 8))} {v : Value} {w : World} (h : (Fk.ow base hs).f v w) : (Fk.hc hs).f v w := by
  obtain ⟨A, C, lb, lo, e, hl⟩ := ow_hs h
  refine ⟨A, C, lb, lo, e, ?_, hl⟩
  obtain ⟨⟨h1, h2⟩, h3⟩ := h
  rcases h2 with ⟨h4, hn⟩ | ⟨g, cap, cur, h4, hbg, hg, hnc, _⟩
  · rw [hn]; exact Nat.zero_le _
  · rw [e] at h4
    cases h4
    exact hnc
theorem ow_le {g0 g1 : Nat} (hg : g1 ≤ g0) {hs : List (List (BitVec 8))} {v : Value} {w : World} (h : (Fk.ow g0 hs).f v w) : (Fk.ow g1 hs).f v w := by
  obtain ⟨⟨h1, h2⟩, h3⟩ := h
  refine ⟨⟨h1, ?_⟩, h3⟩
  rcases h2 with h2 | ⟨g, cap, cur, e, hbg, r⟩
  · exact .inl h2
  · exact .inr ⟨g, cap, cur, e, Nat.le_trans hg hbg, r⟩
theorem fk_ow {f : FuncId} {args : Array Value} {w : World} {g0 : Nat} {S : List (List (BitVec 8))} (hg : g0 ≤ w.heap.size) (h : Calls Tryd.prog f args w fun e w' => ∃ u, e = .returned u ∧ (Fk.ow w.heap.size S).f u w' ∧ Below w.heap.size w w') :
    Calls Tryd.prog f args w fun e w' => ∃ u, e = .returned u ∧ (Fk.ow g0 S).f u w' ∧ Below w.heap.size w w' := by
  refine h.mono ?_
  rintro e w' ⟨u, rfl, h1, h3⟩
  exact ⟨u, rfl, ow_le hg h1, h3⟩
section
variable {Q : Exit → Act → World → Prop} {o : Oper} {a : Act} {w : World}
theorem st_cuth (x y : Operand) (ho : o.op = .slice 22 x none (some y) none) {hs : List (List (BitVec 8))} (h : (Fk.hc hs).f (a.eval x) w) (n : Nat) (hy : a.eval y = .int .i64 (n : Int)) (hn : n ≤ hs.length) : o.wp Tryd.prog a w (Ends a o.dst w (Fk.hc (hs.take n)).f) Q := by
  obtain ⟨A, C, lb, lo, e, hc, hl⟩ := h
  refine st_pure (v := sliced A 0 n C 32) ?_ ⟨if C = 0 then A else A.map (·.add (0 * 32)), C, lb, lo, ?_, ?_, fun hp => ?_, fun hp => ?_, fun i x hi => ?_⟩
  · have h1 := run_slice_h (P := Tryd.prog) (w := w) 22 A hs.length C (by rw [Tryd.elem22]; exact Tryd.under22') .i64 (n : Int) (by omega) (by omega)
    rw [Tryd.elem22, Tryd.sizeOf24] at h1
    simp only [Result.andThen_ok, Int.toNat_natCast] at h1
    have h2 := run_sliceAt_slice (P := Tryd.prog) (w := w) 22 (.slice A hs.length C) none (some (.int .i64 (n : Int))) none (by rw [Tryd.elem22]; exact Tryd.under22')
    unfold execOp
    rw [ho]
    simp [e, hy, h2, h1]
  · simp only [sliced, List.length_take, Nat.sub_zero, Nat.min_eq_left hn]
  · rw [List.length_take]; omega
  · rw [List.length_take] at hp
    rw [if_neg (by omega), hl.ptr (by omega)]
    simp [Addr.add_mid]
  · rw [List.length_take] at hp
    exact hl.lt (by omega)
  · rw [List.getElem?_take] at hi
    split at hi
    · exact hl.all i x hi
    · cases hi
theorem st_restc (x y : Operand) (ho : o.op = .slice 22 x (some y) none none) {hs : List (List (BitVec 8))} (h : (Fk.hc hs).f (a.eval x) w) (n : Nat) (hy : a.eval y = .int .i64 (n : Int)) (hn : n ≤ hs.length) : o.wp Tryd.prog a w (Ends a o.dst w (Fk.hc (hs.drop n)).f) Q := by
  obtain ⟨A, C, lb, lo, e, hc, hl⟩ := h
  refine st_pure (v := sliced A n hs.length C 32) ?_ ⟨if C = n then A else A.map (·.add (n * 32)), C - n, lb, lo + n * 32, ?_, ?_, fun hp => ?_, fun hp => ?_, fun i x hi => ?_⟩
  · have h1 := run_slice_l (P := Tryd.prog) (w := w) 22 A hs.length C (by rw [Tryd.elem22]; exact Tryd.under22') .i64 (n : Int) (by omega) (by omega)
    rw [Tryd.elem22, Tryd.sizeOf24] at h1
    simp only [Result.andThen_ok, Int.toNat_natCast] at h1
    have h2 := run_sliceAt_slice (P := Tryd.prog) (w := w) 22 (.slice A hs.length C) (some (.int .i64 (n : Int))) none none (by rw [Tryd.elem22]; exact Tryd.under22')
    unfold execOp
    rw [ho]
    simp [e, hy, h2, h1]
  · simp only [sliced, List.length_drop]
  · rw [List.length_drop]; omega
  · rw [List.length_drop] at hp
    rw [if_neg (by omega), hl.ptr (by omega)]
    simp [Addr.add_mid]
  · rw [List.length_drop] at hp
    exact hl.lt (by omega)
  · rw [List.getElem?_drop] at hi
    have := hl.all (n + i) x hi
    rw [Nat.add_mul, ← Nat.add_assoc] at this
    exact this
theorem st_lenc (x : Operand) (ho : o.op = .call { callee := .builtin .len, args := #[x], argTypes := #[22] }) {hs : List (List (BitVec 8))} (n : Nat) (hn : hs.length = n) (h : (Fk.hc hs).f (a.eval x) w) : o.wp Tryd.prog a w (Ends a o.dst w (Fk.eq (.int .i64 ((n : Nat) : Int))).f) Q := by
  subst hn
  exact st_lenh x ho (hc_hs h)
theorem st_half (x y : Operand) (ho : o.op = .binOp .quo 3 x y 3) (m e : Nat) (he : e = m / 2) (hm : m ≤ 1000000) (hx : a.eval x = .int .i64 (m : Int)) (hy : a.eval y = .int .i64 2) : o.wp Tryd.prog a w (Ends a o.dst w (Fk.eq (.int .i64 ((e : Nat) : Int))).f) Q := by
  subst he
  refine st_bin .quo 3 3 x y ho hx hy ?_
  have h1 : Int.tdiv (m : Int) 2 = ((m / 2 : Nat) : Int) := by
    rw [Int.tdiv_eq_ediv_of_nonneg (by omega)]
    omega
  simp only [eqGuard, binOp, Op.intDiv]
  simp [h1]
  rw [IntKind.wrap_i64]
  omega
end
end Go.Proofs.YtfbfngblocfdlaaDoor
