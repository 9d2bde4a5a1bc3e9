/- Things in memory; and what told does. -/
import Derived.Test.YtkgfcddjjghohaaWp
import Derived.Test.YtkgfcddjjghohaaPp
import Derived.Deep.RegionHeld3
namespace Go.Proofs.Ytkgfcddjjghohaa
open Go.RowKit
/-- A thing, and where its hashes lie. -/
structure Th where
  kind : Int
  n : Int
  text : ByteArray
  hash : List (BitVec 8)
  A : Option Addr
  N : Nat
  C : Nat
  lb : Nat
  lo : Nat
  D : List (BitVec 8)
  flag : Bool
def Th.head (t : Th) : List Value := [.int .i64 t.kind, .int .i64 t.n, .string t.text]
def Th.cells (t : Th) : List Value := t.head ++ (t.hash.map V ++ [.slice t.A t.N t.C, .bool t.flag])
structure Th.ok (w : World) (t : Th) : Prop where
  hl : t.hash.length = 32
  fl : Fl w t.A t.lb t.lo t.N t.D
  n1 : -9223372036854775808 ≤ t.n
  n2 : t.n ≤ 9223372036854775807
theorem Th.len {t : Th} (h : t.hash.length = 32) : t.cells.length = 37 := by simp [Th.cells, Th.head, h]
/-- Block b holds the thing t. -/
def HasT (w : World) (b : Nat) (t : Th) : Prop := w.heap[b]? = some (.cells t.cells.toArray 32 (0, 0))
theorem HasT.at {w : World} {b : Nat} {t : Th} (h : HasT w b t) (i : Nat) : w.cell? ⟨b, i, none⟩ = t.cells[i]? := by
  unfold HasT at h
  rw [cell_of_row w b i _ 32 _ h]; simp
theorem HasT.c0 {w : World} {b : Nat} {t : Th} (h : HasT w b t) : w.cell? ⟨b, 0, none⟩ = some (.int .i64 t.kind) := by rw [h.at]; rfl
theorem HasT.c1 {w : World} {b : Nat} {t : Th} (h : HasT w b t) : w.cell? ⟨b, 1, none⟩ = some (.int .i64 t.n) := by rw [h.at]; rfl
theorem HasT.c2 {w : World} {b : Nat} {t : Th} (h : HasT w b t) : w.cell? ⟨b, 2, none⟩ = some (.string t.text) := by rw [h.at]; rfl
theorem HasT.c35 {w : World} {b : Nat} {t : Th} (h : HasT w b t) (hl : t.hash.length = 32) : w.cell? ⟨b, 35, none⟩ = some (.slice t.A t.N t.C) := by
  rw [h.at]; unfold Th.cells Th.head
  rw [List.getElem?_append_right (by simp), List.getElem?_append_right (by simp [hl])]
  simp [hl]
theorem HasT.c36 {w : World} {b : Nat} {t : Th} (h : HasT w b t) (hl : t.hash.length = 32) : w.cell? ⟨b, 36, none⟩ = some (.bool t.flag) := by
  rw [h.at]; unfold Th.cells Th.head
  rw [List.getElem?_append_right (by simp), List.getElem?_append_right (by simp [hl])]
  simp [hl]
theorem HasT.hash {w : World} {b : Nat} {t : Th} (h : HasT w b t) (_hl : t.hash.length = 32) : HasB w b 3 t.hash := by
  intro i hi
  rw [h.at]; unfold Th.cells Th.head
  rw [List.getElem?_append_right (by simp), List.getElem?_append_left (by simp; omega)]
  simp [V, hi]
theorem HasT.lt {w : World} {b : Nat} {t : Th} (h : HasT w b t) : b < w.heap.size := (Array.getElem?_eq_some_iff.1 h).1
theorem HasT.keep {w w' : World} {b : Nat} {t : Th} (h : HasT w b t) (e : w'.heap[b]? = w.heap[b]?) : HasT w' b t := by unfold HasT at *; rw [e]; exact h
theorem range_of {w : World} {g o : Nat} {xs : List (BitVec 8)} (h : HasB w g o xs) : w.rangeAt g o (xs.map V) := by
  intro j v hj
  have := h.src xs.length j v
  rw [List.take_of_length_le (Nat.le_refl _)] at this
  have h2 := this hj
  rw [Addr.add_mid] at h2
  exact h2
theorem load_mid (w : World) (g o : Nat) (xs : List (BitVec 8)) (h : HasB w g o xs) (hl : xs.length = 32) : (Instr.loadAt 29 (.pointer (some ⟨g, o, none⟩))).run Try.prog w = .ok (.agg (xs.map V).toArray) w :=
  run_loadAt_mid w g o 29 (xs.map V) _ (fun j v hj => by
    have := h.src xs.length j v
    rw [List.take_of_length_le (Nat.le_refl _)] at this
    have h2 := this hj
    rw [Addr.add_mid] at h2
    exact h2) Try.under29 rfl (by rw [List.length_map, hl]; exact Try.size29)
theorem Try.noGuard29e (x y : Operand) (a b : Array Value) (w : World) : (eqGuard .eql 29 x y (.agg a) (.agg b)).run Try.prog w = .ok () w := by kernel_rfl
theorem Th.one (t : Th) : ∀ v ∈ t.cells, v.oneCell' = true := by
  intro v hv
  simp only [Th.cells, Th.head, List.mem_append, List.mem_cons, List.not_mem_nil, or_false] at hv
  rcases hv with (rfl | rfl | rfl) | hv | rfl | rfl
  · rfl
  · rfl
  · rfl
  · exact V_one _ v hv
  · rfl
  · rfl
set_option maxHeartbeats 1000000 in
theorem told_hash (w0 w : World) (ib : Nat) (t : Th) (rest R O : List (BitVec 8)) (bad X : Bool) (s : Sin w0 w ib rest bad) (hok : t.hash.length = 32) (hk : t.kind = 2) (hh : hOf rest = O ∧ dropB rest 32 = R ∧ badB rest bad 32 = X) :
    Calls Try.prog 14 #[.pointer (some ⟨ib, 0, none⟩), .agg t.cells.toArray] w fun e w' => e = .returned (.bool (decide (O = t.hash))) ∧ Box (Sin w0 w' ib R X) := by
  have hO : O.length = 32 := by rw [← hh.1]; exact hOf_len _
  have hib := s.has.lt
  have s' := Box.mk s
  clear s
  obtain ⟨cs, hcs⟩ : ∃ cs, Box (t.cells = cs) := ⟨_, ⟨rfl⟩⟩
  rw [hcs.out]
  go_enter Try.func14, Try.ntmps14
  go_upto_region 1 with fail
  refine code_any (fun w1 => HasT w1 w.heap.size t ∧ Below w.heap.size w w1) ?_ ?_
  · exact ⟨by unfold HasT; rw [hcs.out]; exact heap_alloc_new _ _, (Below.refl _ _).alloc (Nat.le_refl _) _⟩
  rintro w1 ⟨ht, hb1⟩
  have c0 := ht.c0
  rw [hk] at c0
  have hS1 := range_of (ht.hash hok)
  have g1 := Try.under29
  have g2 : (Try.prog.info? 29).map (·.size) = some (t.hash.map V).length := by rw [List.length_map, hok]; exact Try.size29
  have g3 : (t.hash.map V).length = 32 := by rw [List.length_map, hok]
  have g4 := V_one t.hash
  have ht' := Box.mk ht
  have hi : ∀ w7, Below w.heap.size w w7 → Box (Calls Try.prog 22 #[.pointer (some ⟨ib, 0, none⟩)] w7 fun e w' => e = .returned (.agg (O.map V).toArray) ∧ Box (Sin w0 w' ib R X) ∧ Box (Only ib w7 w')) := fun w7 b7 => ⟨r_hash ⟨s'.out.grow b7⟩ hh⟩
  have hq := fun W => run_equal29 W O t.hash hO hok
  have hg := fun W => Try.noGuard29e (.tmp 26) (.tmp 28) (O.map V).toArray (t.hash.map V).toArray W
  clear ht hcs hk
  go_wp2
  go_region_held3 (fun W => W.rangeAt w.heap.size 3 (t.hash.map V)) (first | exact hS1 | exact hS2) (first | (go_at_call 22; refine (hi _ (by first | exact hb1.drew | exact hb1)).out.mono ?_; rintro e w2 ⟨rfl, s2, o2⟩; have hS2 : w2.rangeAt w.heap.size 3 (t.hash.map V) := range_of ((ht'.out.keep (o2.out.block w.heap.size ht'.out.lt (by omega))).hash hok)))
  all_goals
    clear hi hS1 hS2 hq hg g1 g2 g3 g4
    go_wp2
    go_ret
    exact ⟨rfl, s2⟩
end Go.Proofs.Ytkgfcddjjghohaa
