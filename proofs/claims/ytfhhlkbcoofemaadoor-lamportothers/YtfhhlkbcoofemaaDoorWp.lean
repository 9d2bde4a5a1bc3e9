/- Digests by the bytes that they have: what New, Write, Sum, Len and Copy do; and the bytes that append makes. -/
import Derived.Test.YtfhhlkbcoofemaaDoorPq
import Derived.Test.YtfhhlkbcoofemaaDoorWh
import Derived.Laws.AppendOwnNone
namespace Go.Proofs.YtfhhlkbcoofemaaDoor
open Go.RowKit
theorem Tryd.info5 : (Tryd.prog.info? 5).map (fun i => (i.zero, i.size, i.bytes)) = some (some (.int .u8 0), 1, 1) := by kernel_rfl
/-- In block b lies a digest that has the bytes m. -/
def HasM (w : World) (b : Nat) (m : List (BitVec 8)) : Prop := ∃ d, HasD w b 63 d ∧ Rep d m
theorem HasM.lt {w : World} {b : Nat} {m : List (BitVec 8)} (h : HasM w b m) : b < w.heap.size := by obtain ⟨d, hd, _⟩ := h; exact hd.lt
theorem HasM.only {w w' : World} {g b : Nat} {m : List (BitVec 8)} (h : HasM w b m) (hb : Only g w w') (hg : b ≠ g) : HasM w' b m := by obtain ⟨d, hd, hr⟩ := h; exact ⟨d, hd.only hb hg, hr⟩
theorem HasM.below {w w' : World} {b : Nat} {m : List (BitVec 8)} (h : HasM w b m) (hb : Below w.heap.size w w') : HasM w' b m := by obtain ⟨d, hd, hr⟩ := h; exact ⟨d, hd.below hb, hr⟩
theorem HasM.belowB {w w' : World} {B b : Nat} {m : List (BitVec 8)} (h : HasM w b m) (hb : Below B w w') (hB : b < B) : HasM w' b m := by
  obtain ⟨d, hd, hr⟩ := h
  exact ⟨d, ⟨hd.1, by rw [hb.block b hB]; exact hd.2⟩, hr⟩
theorem new_m (w : World) : Calls Tryd.prog 26 #[] w fun e w' => ∃ b, e = .returned (.pointer (some ⟨b, 0, none⟩)) ∧ w.heap.size ≤ b ∧ HasM w' b [] ∧ Below w.heap.size w w' := by
  refine (new_any w).mono ?_
  rintro e w' ⟨b, rfl, h1, h2, h3⟩
  exact ⟨b, rfl, h1, ⟨_, h2, rep_new⟩, h3⟩
theorem write_m (db ab ao : Nat) (a : Option Addr) (n c : Nat) (bs m : List (BitVec 8)) (w : World) (hd : HasM w db m) (hs : Src w db ab ao a n c bs) (hlen : m.length + n ≤ 1152921504606846976) (hK : HasK w 0) (h0 : 0 < w.heap.size) (hdb : db ≠ 0) :
    Calls Tryd.prog 27 #[.pointer (some ⟨db, 0, none⟩), .slice a n c] w fun e w' => e = .returned (.tuple #[]) ∧ HasM w' db (m ++ bs) ∧ Only db w w' := by
  obtain ⟨d, h, hr⟩ := hd
  refine (write_any db ab ao a n c bs d w h hs (by rw [hr.len]; exact hlen) hK h0 hdb).mono ?_
  rintro e w' ⟨rfl, h1, h2⟩
  exact ⟨rfl, ⟨_, h1, rep_write hr bs⟩, h2⟩
theorem dsum_m (db : Nat) (m : List (BitVec 8)) (w : World) (hd : HasM w db m) (hlen : m.length ≤ 576460752303423488) (hK : HasK w 0) (h0 : 0 < w.heap.size) :
    Calls Tryd.prog 28 #[.pointer (some ⟨db, 0, none⟩)] w fun e w' => e = .returned (.agg ((shaOf m).map V).toArray) ∧ Below w.heap.size w w' := by
  obtain ⟨d, h, hr⟩ := hd
  refine (dsum_any db d w h (by rw [hr.len]; exact hlen) hK h0).mono ?_
  rintro e w' ⟨rfl, h1⟩
  rw [rep_sum hr]
  exact ⟨rfl, h1⟩
/-- A slice value of bytes that came in. -/
structure Sl (w : World) (sp : Option Addr) (m c : Nat) (bs : List (BitVec 8)) (b o : Nat) : Prop where
  len : m = bs.length
  cap : m ≤ c
  nil : sp = none → m = 0 ∧ c = 0
  src : 0 < m → sp = some ⟨b, o, none⟩ ∧ b < w.heap.size ∧ HasB w b o bs
theorem Sl.only {w w' : World} {g : Nat} {sp : Option Addr} {m c : Nat} {bs : List (BitVec 8)} {b o : Nat} (h : Sl w sp m c bs b o) (ho : Only g w w') (hg : 0 < m → b ≠ g) : Sl w' sp m c bs b o :=
  ⟨h.len, h.cap, h.nil, fun hm => by
    obtain ⟨e, hl, hB⟩ := h.src hm
    exact ⟨e, Nat.lt_of_lt_of_le hl ho.size, hB.only ho hl (hg hm)⟩⟩
theorem Sl.below {w w' : World} {B : Nat} {sp : Option Addr} {m c : Nat} {bs : List (BitVec 8)} {b o : Nat} (h : Sl w sp m c bs b o) (ho : Below B w w') (hg : 0 < m → b < B) : Sl w' sp m c bs b o :=
  ⟨h.len, h.cap, h.nil, fun hm => by
    obtain ⟨e, hl, hB⟩ := h.src hm
    exact ⟨e, Nat.lt_of_lt_of_le hl ho.size, hB.below ho (hg hm)⟩⟩
theorem Sl.toSrc {w : World} {db : Nat} {sp : Option Addr} {m c : Nat} {bs : List (BitVec 8)} {b o : Nat} (h : Sl w sp m c bs b o) (hne : 0 < m → b ≠ db) : Src w db b o sp m c bs :=
  ⟨h.len, h.cap, fun hm => by
    obtain ⟨e, hl, hB⟩ := h.src hm
    exact ⟨e, hl, hne hm, hB⟩⟩
theorem own_slice {w : World} {base n : Nat} {v : Value} {xs : List (BitVec 8)} (h : w.ownsRow base 5 1 v n (xs.map V)) : ∃ g sp c, v = .slice sp n c ∧ Sl w sp n c xs g 0 ∧ (0 < n → base ≤ g) := by
  obtain ⟨hl, h⟩ := h
  have hn : n = xs.length := by simpa using hl.symm
  rcases h with ⟨rfl, rfl⟩ | ⟨g, cap, cur, rfl, hbg, hg, hnc, _, hcs, ht⟩
  · exact ⟨0, none, 0, rfl, ⟨hn, Nat.le_refl _, fun _ => ⟨rfl, rfl⟩, fun h => absurd h (by omega)⟩, fun h => absurd h (by omega)⟩
  · refine ⟨g, some ⟨g, 0, none⟩, cap, rfl, ⟨hn, hnc, fun h => by (cases h), fun _ => ⟨rfl, (Array.getElem?_eq_some_iff.1 hg).1, ?_⟩⟩, fun _ => hbg⟩
    intro i hi
    rw [Nat.zero_add, cell_of_row _ _ _ _ _ _ hg]
    have e2 := congrArg (·[i]?) ht
    simp [show i < n by omega, hi] at e2
    simp [e2, hi, V]
/-- append of bytes onto a slice of the call's own. -/
theorem append47 {ops : Array Oper} {rest : List Oper} {o : Oper} {a : Act} {w : World} {Q : Exit → Act → World → Prop} (hgd : o.guard = none) (s x : Operand)
    (ho : o.op = .call { callee := .builtin .append, args := #[s, x], argTypes := #[47, 47] })
    (base : Nat) (v : Value) (n : Nat) (xs : List (BitVec 8)) (hs : a.eval s = v) (hown : w.ownsRow base 5 1 v n (xs.map V))
    (sp : Option Addr) (m c : Nat) (bs : List (BitVec 8)) (sb so : Nat) (hx : a.eval x = .slice sp m c) (hsl : Sl w sp m c bs sb so) (hb : n + m ≤ 1000000) (hbase : base ≤ w.heap.size)
    (h : ∀ v' w', w'.ownsRow base 5 1 v' (n + m) ((xs ++ bs).map V) → w.grownBy w' v.ownBlock → wpList Tryd.prog ops Q rest (a.put o.dst v') w') : wpList Tryd.prog ops Q (o :: rest) a w := by
  obtain ⟨i0, hi, hz0, hz1, hz2⟩ := info_parts Tryd.info5
  cases sp with
  | none =>
    obtain ⟨rfl, rfl⟩ := hsl.nil rfl
    have hbs : bs = [] := List.eq_nil_of_length_eq_zero hsl.len.symm
    subst hbs
    refine wpList_append_own_none hgd s x 47 ho base 5 i0 1 Tryd.under47 hi v n _ hs hown hx (h v w ?_ ⟨rfl, rfl, rfl, Nat.le_refl _, fun _ _ _ => rfl⟩)
    rw [List.append_nil]; exact hown
  | some ad =>
    refine wpList_append_own w hgd s x 47 ho base 5 i0 (.int .u8 0) 1 1 Tryd.under47 hi hz0 hz1 hz2 rfl (by decide) v n (xs.map V) hs hown ad m c (bs.map V) hx (by rw [List.length_map, Nat.mul_one]; exact hsl.len.symm) ?_ (V_one bs) (by unfold maxLen; omega) (by omega) hbase ?_
    · intro j u hj
      have hjl : j < bs.length := by have := (List.getElem?_eq_some_iff.1 hj).1; simpa using this
      have hl := hsl.len
      obtain ⟨e, _, hB⟩ := hsl.src (by omega)
      obtain rfl := Option.some.inj e
      have := hB.src bs.length j u
      rw [List.take_of_length_le (Nat.le_refl _)] at this
      exact this hj
    · intro v' w' h1 h2 _
      rw [← List.map_append] at h1
      exact h v' w' h1 h2
theorem own_empty (w : World) (base : Nat) (h : base ≤ w.heap.size) : (w.alloc (.cells #[] 5)).ownsRow base 5 1 (.slice (some ⟨w.heap.size, 0, none⟩) 0 0) 0 (([] : List (BitVec 8)).map V) :=
  ⟨rfl, .inr ⟨w.heap.size, 0, #[], rfl, h, heap_alloc_new _ _, Nat.le_refl _, by unfold maxLen; omega, rfl, rfl⟩⟩
end Go.Proofs.YtfhhlkbcoofemaaDoor
