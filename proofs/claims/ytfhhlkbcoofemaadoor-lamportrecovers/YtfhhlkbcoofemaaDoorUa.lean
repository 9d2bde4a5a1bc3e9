/- Numbers in memory, append of numbers, and the digits of a hash, plain. -/
import Derived.Test.YtfhhlkbcoofemaaDoorWp
namespace Go.Proofs.YtfhhlkbcoofemaaDoor
open Go.RowKit
/-- A number in a cell. -/
def Nv (n : Nat) : Value := .int .i64 (n : Int)
theorem Nv_one (ns : List Nat) : ∀ v ∈ ns.map Nv, v.oneCell' = true := by
  intro v hv
  obtain ⟨x, _, rfl⟩ := List.mem_map.1 hv
  rfl
/-- A slice value that has the numbers ds. -/
structure Is (w : World) (sp : Option Addr) (b o : Nat) (ds : List Nat) : Prop where
  ptr : 0 < ds.length → sp = some ⟨b, o, none⟩
  cell : ∀ (i : Nat) (d : Nat), ds[i]? = some d → w.cell? ⟨b, o + i, none⟩ = some (.int .i64 (d : Int))
theorem Is.lt {w : World} {sp : Option Addr} {b o : Nat} {ds : List Nat} (h : Is w sp b o ds) {i d : Nat} (hi : ds[i]? = some d) : b < w.heap.size := block_lt_of_cell (h.cell i d hi)
theorem Is.below {w w' : World} {sp : Option Addr} {b o : Nat} {ds : List Nat} (h : Is w sp b o ds) (hb : Below w.heap.size w w') : Is w' sp b o ds :=
  ⟨h.ptr, fun i d hi => by rw [hb.cell (h.lt hi)]; exact h.cell i d hi⟩
theorem own_is {w : World} {base n : Nat} {v : Value} {xs : List Nat} (h : w.ownsRow base 3 1 v n (xs.map Nv)) : ∃ g sp c, v = .slice sp xs.length c ∧ Is w sp g 0 xs ∧ (0 < n → base ≤ g) := by
  obtain ⟨hl, h⟩ := h
  have hn : n = xs.length := by simpa using hl.symm
  rcases h with ⟨rfl, rfl⟩ | ⟨g, cap, cur, rfl, hbg, hg, hnc, _, hcs, ht⟩
  · have : xs = [] := List.eq_nil_of_length_eq_zero hn.symm
    subst this
    exact ⟨0, none, 0, rfl, ⟨fun h => by simp at h, fun i d hi => by simp at hi⟩, fun h => absurd h (by omega)⟩
  · subst hn
    refine ⟨g, some ⟨g, 0, none⟩, cap, rfl, ⟨fun _ => rfl, ?_⟩, fun _ => hbg⟩
    intro i d hi
    have hil : i < xs.length := (List.getElem?_eq_some_iff.1 hi).1
    rw [Nat.zero_add, cell_of_row _ _ _ _ _ _ hg]
    have e2 := congrArg (·[i]?) ht
    simp only [Nat.mul_one, List.getElem?_take, if_pos hil, List.getElem?_map, hi, Option.map_some, Array.getElem?_toList] at e2
    exact e2
theorem Tryd.info3 : (Tryd.prog.info? 3).map (fun i => (i.zero, i.size, i.bytes)) = some (some (.int .i64 0), 1, 8) := by kernel_rfl
theorem Tryd.under44 : Tryd.prog.underlying 44 = some (.slice 3) := by kernel_rfl
/-- append of numbers onto a slice of the call's own. -/
theorem appendI {ops : Array Oper} {rest : List Oper} {o : Oper} {a : Act} {w : World} {Q : Exit → Act → World → Prop} (hgd : o.guard = none) (s x : Operand)
    (ho : o.op = .call { callee := .builtin .append, args := #[s, x], argTypes := #[44, 44] })
    (base : Nat) (v : Value) (n : Nat) (xs : List Nat) (hs : a.eval s = v) (hown : w.ownsRow base 3 1 v n (xs.map Nv))
    (ad : Addr) (m c : Nat) (ys : List Nat) (hx : a.eval x = .slice (some ad) m c) (hl : ys.length = m) (hnews : ∀ j u, (ys.map Nv)[j]? = some u → w.cell? (ad.add j) = some u) (hb : n + m ≤ 1000000) (hbase : base ≤ w.heap.size)
    (h : ∀ v' w', w'.ownsRow base 3 1 v' (n + m) ((xs ++ ys).map Nv) → w.grownBy w' v.ownBlock → wpList Tryd.prog ops Q rest (a.put o.dst v') w') : wpList Tryd.prog ops Q (o :: rest) a w := by
  obtain ⟨i0, hi, hz0, hz1, hz2⟩ := info_parts Tryd.info3
  refine wpList_append_own w hgd s x 44 ho base 3 i0 (.int .i64 0) 1 8 Tryd.under44 hi hz0 hz1 hz2 rfl (by decide) v n (xs.map Nv) hs hown ad m c (ys.map Nv) hx (by rw [List.length_map, Nat.mul_one]; exact hl) hnews (Nv_one ys) (by unfold maxLen; omega) (by omega) hbase ?_
  intro v' w' h1 h2 _
  rw [← List.map_append] at h1
  exact h v' w' h1 h2
theorem news_new (w : World) (T : TypeId) (ys : List Nat) : ∀ j u, (ys.map Nv)[j]? = some u → (w.alloc (.cells (ys.map Nv).toArray T)).cell? ((⟨w.heap.size, 0, none⟩ : Addr).add j) = some u := by
  intro j u hj
  have hadd : (⟨w.heap.size, 0, none⟩ : Addr).add j = ⟨w.heap.size, j, none⟩ := by unfold Addr.add; split <;> simp_all
  rw [hadd, World.cell?_alloc_mark]
  simpa using hj
/- The digits. -/
/-- Digit i of the first 64. -/
def half (h : List (BitVec 8)) (i : Nat) : Nat := if i % 2 = 0 then (h.getD (i / 2) 0).toNat / 16 else (h.getD (i / 2) 0).toNat % 16
/-- The first k. -/
def hds (h : List (BitVec 8)) (k : Nat) : List Nat := (List.range k).map (half h)
/-- What is left to 15, of the first k, added. -/
def lef (h : List (BitVec 8)) : Nat → Nat
  | 0 => 0
  | k + 1 => lef h k + (15 - half h k)
/-- All 67. -/
def dig (h : List (BitVec 8)) : List Nat := hds h 64 ++ [lef h 64 / 256, lef h 64 / 16 % 16, lef h 64 % 16]
theorem half_le (h : List (BitVec 8)) (i : Nat) : half h i ≤ 15 := by
  unfold half
  have := (h.getD (i / 2) 0).isLt
  split <;> omega
theorem lef_le (h : List (BitVec 8)) (k : Nat) : lef h k ≤ 15 * k := by
  induction k with
  | zero => simp [lef]
  | succ k ih => simp only [lef]; omega
theorem hds_len (h : List (BitVec 8)) (k : Nat) : (hds h k).length = k := by simp [hds]
theorem hds_succ (h : List (BitVec 8)) (k : Nat) : hds h (k + 1) = hds h k ++ [half h k] := by simp [hds, List.range_succ]
theorem dig_len (h : List (BitVec 8)) : (dig h).length = 67 := by simp [dig, hds_len]
theorem dig_le (h : List (BitVec 8)) (i d : Nat) (hi : (dig h)[i]? = some d) : d ≤ 15 := by
  have hm := List.mem_of_getElem? hi
  unfold dig at hm
  have hl := lef_le h 64
  rcases List.mem_append.1 hm with hm | hm
  · unfold hds at hm
    obtain ⟨j, _, rfl⟩ := List.mem_map.1 hm
    exact half_le h j
  · simp at hm; omega
theorem half_even (h : List (BitVec 8)) (k : Nat) : half h (2 * k) = (h.getD k 0).toNat / 16 := by
  unfold half; rw [if_pos (by omega), show 2 * k / 2 = k by omega]
theorem half_odd (h : List (BitVec 8)) (k : Nat) : half h (2 * k + 1) = (h.getD k 0).toNat % 16 := by
  unfold half; rw [if_neg (by omega), show (2 * k + 1) / 2 = k by omega]
theorem hds_two (h : List (BitVec 8)) (k : Nat) : hds h (2 * (k + 1)) = hds h (2 * k) ++ [(h.getD k 0).toNat / 16, (h.getD k 0).toNat % 16] := by
  rw [show 2 * (k + 1) = 2 * k + 1 + 1 by omega, hds_succ, hds_succ, half_even, half_odd, List.append_assoc]
  rfl
theorem lef_two (h : List (BitVec 8)) (k : Nat) : lef h (2 * (k + 1)) = lef h (2 * k) + (15 - (h.getD k 0).toNat / 16) + (15 - (h.getD k 0).toNat % 16) := by
  rw [show 2 * (k + 1) = 2 * k + 1 + 1 by omega, lef, lef, half_even, half_odd]
end Go.Proofs.YtfhhlkbcoofemaaDoor
