/- More steps: heads of structs, tuples, lengths; each function is entered as itself. What tag's sum, Leaf, Message, File and Record hand back: the sums of just their bytes. What Node, Chain, Secret and Record hand back: the sums of just their bytes. What mss is made of, plainly; the sums as steps meet them; rows of n hashes. Regions in which a yield is called; regions of steps alone, in a round. How many bits a number has (math/bits.Len, Len64). -/
import Derived.Test.YtfbfngblocfdlaaDoorM4
import Derived.Test.YtfbfngblocfdlaaDoorM2
namespace Go.Proofs.YtfbfngblocfdlaaDoor
set_option maxRecDepth 100000
open Go.RowKit
theorem Tryd.enter3 (args : Array Value) (w : World) : (callFunc 3 args).run Tryd.prog w = .ok (.enter 3 args) w := by kernel_rfl
theorem Tryd.enter4 (args : Array Value) (w : World) : (callFunc 4 args).run Tryd.prog w = .ok (.enter 4 args) w := by kernel_rfl
theorem Tryd.enter5 (args : Array Value) (w : World) : (callFunc 5 args).run Tryd.prog w = .ok (.enter 5 args) w := by kernel_rfl
theorem Tryd.enter6 (args : Array Value) (w : World) : (callFunc 6 args).run Tryd.prog w = .ok (.enter 6 args) w := by kernel_rfl
theorem Tryd.enter7 (args : Array Value) (w : World) : (callFunc 7 args).run Tryd.prog w = .ok (.enter 7 args) w := by kernel_rfl
theorem Tryd.enter8 (args : Array Value) (w : World) : (callFunc 8 args).run Tryd.prog w = .ok (.enter 8 args) w := by kernel_rfl
theorem Tryd.enter9 (args : Array Value) (w : World) : (callFunc 9 args).run Tryd.prog w = .ok (.enter 9 args) w := by kernel_rfl
theorem Tryd.enter10 (args : Array Value) (w : World) : (callFunc 10 args).run Tryd.prog w = .ok (.enter 10 args) w := by kernel_rfl
theorem Tryd.enter11 (args : Array Value) (w : World) : (callFunc 11 args).run Tryd.prog w = .ok (.enter 11 args) w := by kernel_rfl
theorem Tryd.enter12 (args : Array Value) (w : World) : (callFunc 12 args).run Tryd.prog w = .ok (.enter 12 args) w := by kernel_rfl
theorem Tryd.enter13 (args : Array Value) (w : World) : (callFunc 13 args).run Tryd.prog w = .ok (.enter 13 args) w := by kernel_rfl
theorem Tryd.enter14 (args : Array Value) (w : World) : (callFunc 14 args).run Tryd.prog w = .ok (.enter 14 args) w := by kernel_rfl
theorem Tryd.enter15 (args : Array Value) (w : World) : (callFunc 15 args).run Tryd.prog w = .ok (.enter 15 args) w := by kernel_rfl
theorem Tryd.enter16 (args : Array Value) (w : World) : (callFunc 16 args).run Tryd.prog w = .ok (.enter 16 args) w := by kernel_rfl
theorem Tryd.enter17 (args : Array Value) (w : World) : (callFunc 17 args).run Tryd.prog w = .ok (.enter 17 args) w := by kernel_rfl
theorem Tryd.enter18 (args : Array Value) (w : World) : (callFunc 18 args).run Tryd.prog w = .ok (.enter 18 args) w := by kernel_rfl
theorem Tryd.enter19 (args : Array Value) (w : World) : (callFunc 19 args).run Tryd.prog w = .ok (.enter 19 args) w := by kernel_rfl
theorem Tryd.enter20 (args : Array Value) (w : World) : (callFunc 20 args).run Tryd.prog w = .ok (.enter 20 args) w := by kernel_rfl
theorem Tryd.enter22 (args : Array Value) (w : World) : (callFunc 22 args).run Tryd.prog w = .ok (.enter 22 args) w := by kernel_rfl
theorem Tryd.enter23 (args : Array Value) (w : World) : (callFunc 23 args).run Tryd.prog w = .ok (.enter 23 args) w := by kernel_rfl
theorem Tryd.enter24 (args : Array Value) (w : World) : (callFunc 24 args).run Tryd.prog w = .ok (.enter 24 args) w := by kernel_rfl
theorem Tryd.enter25 (args : Array Value) (w : World) : (callFunc 25 args).run Tryd.prog w = .ok (.enter 25 args) w := by kernel_rfl
theorem Tryd.enter26 (args : Array Value) (w : World) : (callFunc 26 args).run Tryd.prog w = .ok (.enter 26 args) w := by kernel_rfl
theorem Tryd.enter27 (args : Array Value) (w : World) : (callFunc 27 args).run Tryd.prog w = .ok (.enter 27 args) w := by kernel_rfl
theorem Tryd.enter28 (args : Array Value) (w : World) : (callFunc 28 args).run Tryd.prog w = .ok (.enter 28 args) w := by kernel_rfl
theorem Tryd.enter30 (args : Array Value) (w : World) : (callFunc 30 args).run Tryd.prog w = .ok (.enter 30 args) w := by kernel_rfl
theorem Tryd.enter31 (args : Array Value) (w : World) : (callFunc 31 args).run Tryd.prog w = .ok (.enter 31 args) w := by kernel_rfl
theorem Tryd.enter32 (args : Array Value) (w : World) : (callFunc 32 args).run Tryd.prog w = .ok (.enter 32 args) w := by kernel_rfl
theorem Tryd.enter33 (args : Array Value) (w : World) : (callFunc 33 args).run Tryd.prog w = .ok (.enter 33 args) w := by kernel_rfl
theorem Tryd.enter34 (args : Array Value) (w : World) : (callFunc 34 args).run Tryd.prog w = .ok (.enter 34 args) w := by kernel_rfl
theorem Tryd.enter35 (args : Array Value) (w : World) : (callFunc 35 args).run Tryd.prog w = .ok (.enter 35 args) w := by kernel_rfl
theorem Tryd.enter36 (args : Array Value) (w : World) : (callFunc 36 args).run Tryd.prog w = .ok (.enter 36 args) w := by kernel_rfl
theorem Tryd.enter37 (args : Array Value) (w : World) : (callFunc 37 args).run Tryd.prog w = .ok (.enter 37 args) w := by kernel_rfl
theorem Tryd.enter38 (args : Array Value) (w : World) : (callFunc 38 args).run Tryd.prog w = .ok (.enter 38 args) w := by kernel_rfl
theorem Tryd.enter39 (args : Array Value) (w : World) : (callFunc 39 args).run Tryd.prog w = .ok (.enter 39 args) w := by kernel_rfl
theorem Tryd.enter41 (args : Array Value) (w : World) : (callFunc 41 args).run Tryd.prog w = .ok (.enter 41 args) w := by kernel_rfl
theorem Tryd.enter42 (args : Array Value) (w : World) : (callFunc 42 args).run Tryd.prog w = .ok (.enter 42 args) w := by kernel_rfl
theorem Tryd.enter43 (args : Array Value) (w : World) : (callFunc 43 args).run Tryd.prog w = .ok (.enter 43 args) w := by kernel_rfl
theorem Tryd.enter44 (args : Array Value) (w : World) : (callFunc 44 args).run Tryd.prog w = .ok (.enter 44 args) w := by kernel_rfl
theorem Tryd.enter45 (args : Array Value) (w : World) : (callFunc 45 args).run Tryd.prog w = .ok (.enter 45 args) w := by kernel_rfl
theorem Tryd.enter46 (args : Array Value) (w : World) : (callFunc 46 args).run Tryd.prog w = .ok (.enter 46 args) w := by kernel_rfl
theorem Tryd.enter47 (args : Array Value) (w : World) : (callFunc 47 args).run Tryd.prog w = .ok (.enter 47 args) w := by kernel_rfl
theorem Tryd.enter48 (args : Array Value) (w : World) : (callFunc 48 args).run Tryd.prog w = .ok (.enter 48 args) w := by kernel_rfl
theorem Tryd.enter49 (args : Array Value) (w : World) : (callFunc 49 args).run Tryd.prog w = .ok (.enter 49 args) w := by kernel_rfl
theorem Tryd.enter50 (args : Array Value) (w : World) : (callFunc 50 args).run Tryd.prog w = .ok (.enter 50 args) w := by kernel_rfl
theorem at_head {xs : List (BitVec 8)} (hx : xs.length = 32) (j : Nat) (l : List Value) : (xs.map V ++ l)[32 + j]? = l[j]? := by
  rw [List.getElem?_append_right (by rw [List.length_map, hx]; omega), List.length_map, hx, Nat.add_sub_cancel_left]
theorem range_of_head {xs : List (BitVec 8)} (hx : xs.length = 32) (j : Nat) (l m : List Value) (hm : (l.drop j).take m.length = m) : ∀ (i : Nat) (v : Value), m[i]? = some v → (xs.map V ++ l)[32 + j + i]? = some v := by
  intro i v hi
  rw [Nat.add_assoc, at_head hx, ← List.getElem?_drop, ← hi]
  conv => rhs; rw [← hm]
  have : i < m.length := by
    rcases Nat.lt_or_ge i m.length with h | h
    · exact h
    · rw [List.getElem?_eq_none h] at hi; cases hi
  rw [List.getElem?_take, if_pos this]
theorem range_of_drop (j : Nat) (l m : List Value) (hm : (l.drop j).take m.length = m) : ∀ (i : Nat) (v : Value), m[i]? = some v → l[j + i]? = some v := by
  intro i v hi
  rw [← List.getElem?_drop, ← hi]
  conv => rhs; rw [← hm]
  have : i < m.length := by
    rcases Nat.lt_or_ge i m.length with h | h
    · exact h
    · rw [List.getElem?_eq_none h] at hi; cases hi
  rw [List.getElem?_take, if_pos this]
theorem Ob.there {w : World} {b : Nat} {T : TypeId} {cs : List Value} (h : Ob w b T cs) (i : Nat) (hi : i < cs.length) : w.there b i 1 := by
  intro j hj
  obtain rfl : j = 0 := by omega
  refine ⟨?_, frozen_of_row w b (i + 0) _ T h⟩
  rw [h.cell (i + 0) (List.getElem?_eq_getElem (by simpa using hi))]
  rfl
theorem Ob.setCell_other {w : World} {b g : Nat} {T : TypeId} {cs : List Value} (h : Ob w b T cs) (i : Nat) (v : Value) (hne : b ≠ g) : Ob (w.setCell ⟨g, i, none⟩ v) b T cs := h.only ((Only.refl g w).setCell i v) hne
theorem below_setCell (B g i : Nat) (w : World) (v : Value) (hB : B ≤ g) : Below B w (w.setCell ⟨g, i, none⟩ v) := (Below.refl _ _).setCell (by exact hB) v
theorem Ob.bytes {w : World} {b : Nat} {T : TypeId} {xs : List (BitVec 8)} {cs : List Value} (h : Ob w b T (xs.map V ++ cs)) : HasB w b 0 xs := fun i hi => by
  rw [h.cell (0 + i) (v := V (xs.getD i 0)) ?_]
  · rfl
  · rw [Nat.zero_add, List.getElem?_append_left (by simpa using hi), List.getElem?_map, List.getElem?_eq_getElem hi]
    simp [List.getD_eq_getElem?_getD, hi]
/-- A tuple of something and a value. -/
def Fk.t2 (q : Fk) (n : Value) : Fk := .inr (.inl ⟨fun v w => ∃ u, v = .tuple #[u, n] ∧ q.f u w, by
  rintro v w w' ⟨u, e, h⟩ hb
  exact ⟨u, e, Fk.mono _ _ _ _ h hb⟩⟩)
section
variable {Q : Exit → Act → World → Prop} {o : Oper} {a : Act} {w : World} {q : Fk}
theorem st_t2a (x : Operand) (ho : o.op = .extract x 0) {n : Value} (h : (Fk.t2 q n).f (a.eval x) w) : o.wp Tryd.prog a w (Ends a o.dst w q.f) Q := by
  obtain ⟨u, e, hu⟩ := h
  exact st_ext0 x ho e hu
theorem st_t2b (x : Operand) (ho : o.op = .extract x 1) {n : Value} (h : (Fk.t2 q n).f (a.eval x) w) : o.wp Tryd.prog a w (Ends a o.dst w (Fk.eq n).f) Q := by
  obtain ⟨u, e, hu⟩ := h
  exact st_ext1 x ho e rfl
theorem st_loadhd (x : Operand) (ho : o.op = .load 24 x) (b : Nat) {T : TypeId} (xs : List (BitVec 8)) {cs : List Value} (hx : a.eval x = .pointer (some ⟨b, 0, none⟩)) (hl : xs.length = 32) (h : Ob w b T (xs.map V ++ cs)) : o.wp Tryd.prog a w (Ends a o.dst w (Fk.eq (.agg (xs.map V).toArray)).f) Q :=
  st_loadh x ho ⟨b, 0, hx, hl, h.lt, h.bytes⟩
theorem Tryd.elem35b : Tryd.prog.elem 35 = 5 := by kernel_rfl
theorem st_lenb (x : Operand) (ho : o.op = .call { callee := .builtin .len, args := #[x], argTypes := #[35] }) {bs : List (BitVec 8)} (h : (Fk.sl bs).f (a.eval x) w) : o.wp Tryd.prog a w (Ends a o.dst w (Fk.eq (.int .i64 (bs.length : Int))).f) Q := by
  obtain ⟨sp, m, c, b, so, e, hs⟩ := h
  refine st_pure (v := .int .i64 (bs.length : Int)) ?_ rfl
  have h1 := run_len_slice (P := Tryd.prog) (w := w) 35 o.type sp m c (by rw [Tryd.elem35b]; exact Tryd.under35)
  rw [hs.len] at h1 e
  unfold execOp
  simp [ho, resolve, invoke, builtin, e, h1, goInt]
end
theorem wl_str {P : Program} {ops : Array Oper} {rest : List Oper} {o : Oper} {a : Act} {w : World} {Q : Exit → Act → World → Prop} (hgd : o.guard = none) (ty : TypeId) (x y : Operand) (ho : o.op = .store ty x y) (hd : o.dst = none) (g : Nat) (cells : Array Value) (hx : a.eval x = .pointer (some ⟨g, 0, none⟩)) (hy : a.eval y = .agg cells)
    (t : TypeId) (old : Array Value) (hg : w.heap[g]? = some (.cells old t (0, 0))) (hi : (P.info? ty).map (·.size) = some cells.size) (hold : old.size = cells.size) (h1 : cells.all (·.oneCell') = true)
    (h : wpList P ops Q rest a (w.setRow g cells)) : wpList P ops Q (o :: rest) a w :=
  wpList_store_row hgd ty x y ho g cells hx hy t old hg hi hold h1 (by rw [hd]; exact h)
theorem ret_two {fn : Func} {t u : Tmp} (h : fn.results = #[.tmp t, .tmp u]) (a : Act) (x y : Value) (ht : a.eval (.tmp t) = x) (hu : a.eval (.tmp u) = y) (P : Program) (w : World) : (results fn a.tmps).run P w = .ok (.tuple #[x, y]) w := by
  have h1 : a.tmps.getD t undef = x := ht
  have h2 : a.tmps.getD u undef = y := hu
  rw [← h1, ← h2]
  simp [results, h]
end Go.Proofs.YtfbfngblocfdlaaDoor
namespace Go.Proofs.YtfbfngblocfdlaaDoor
set_option maxRecDepth 100000
open Go.RowKit
set_option maxHeartbeats 400000 in
theorem leaf_any (b o : Nat) (a : Option Addr) (n c : Nat) (bs : List (BitVec 8)) (w : World) (hs : Sl w a n c bs b o) (hT : bs.length ≤ 140737488351232) (hK : HasK w 0) (h0 : 0 < w.heap.size) :
    Calls Tryd.prog 14 #[.slice a n c] w fun e w' => e = .returned (.agg ((shaOf (kb 0 :: bs)).map V).toArray) ∧ Below w.heap.size w w' := by
  have hs' : Box (Sl w a n c bs b o) := ⟨hs⟩
  clear hs
  have hl : Box (((shaOf (kb 0 :: bs)).map V).toArray.size = 32) := ⟨by simp [shaOf_len]⟩
  obtain ⟨hh, hS⟩ : ∃ hh, Box (shaOf (kb 0 :: bs) = hh) := ⟨_, ⟨rfl⟩⟩
  rw [hS.out] at hl ⊢
  go_enter Tryd.func14, Tryd.ntmps14
  go_upto_region 1 with fail
  refine code_any (fun w1 => HasV w1 w.heap.size 24 (hsh St.first 0) ∧ Below w.heap.size w w1) ?_ ?_
  · exact ⟨heap_alloc_new _ _, (Below.refl _ _).alloc (Nat.le_refl _) _⟩
  rintro w1 ⟨hv1, hb1⟩
  go_wp2_with fail
  have hba : ∀ ob, Below w1.heap.size w1 (w1.alloc ob) := fun ob => (Below.refl _ _).alloc (Nat.le_refl _) _
  refine (tsum_any 0 _ 1 1 w1.heap.size 0 [⟨a, n, c, bs, b, o⟩] _ rfl (fun _ => rfl) (ls_new w1 35 [⟨a, n, c, bs, b, o⟩] (.cons (Pt.ok_below (p := ⟨a, n, c, bs, b, o⟩) hs'.out hb1) .nil)) (by simpa [cat] using hT) (by omega) ((hK.below hb1 h0).below (hba _) (by have := hb1.size; omega)) (by simp)).mono ?_
  rintro e w4 ⟨rfl, hb4⟩
  have hb5 := (hba _).trans (hb4.mono (by simp))
  have hv5 : w4.heap[w.heap.size]? = some (.cells ((hsh St.first 0).map V).toArray 24 (0, 0)) := hv1.below hb5 hv1.lt
  have hb6 : Below w.heap.size w w4 := hb1.trans (hb5.mono hb1.size)
  clear hv1 hb1 hb4 hb5 hs' hba
  rw [cat_one]
  rw [hS.out]
  go_wp2_with (refine wpList_store_row rfl 24 (.tmp 2) (.tmp 5) rfl w.heap.size (hh.map V).toArray rfl rfl 24 _ hv5 (by rw [hl.out]; exact Tryd.size24) (by rw [hl.out]; rfl) (V_all _) ?_)
  refine bodyPost_ret (v := .agg (hh.map V).toArray) ?_ rfl ⟨rfl, ?_⟩
  · exact results_cell_row (P := Tryd.prog) (fn := Tryd.f14) (p := 2) (ty := 24) rfl _ _ w.heap.size 24 _ (0, 0) _ rfl (setRow_heap _ _ _ _ 24 (0, 0) hv5) Tryd.under24 rfl (by rw [hl.out]; exact Tryd.size24)
  · exact hb6.trans (below_setRow _ _ _ _ (Nat.le_refl _))
end Go.Proofs.YtfbfngblocfdlaaDoor
namespace Go.Proofs.YtfbfngblocfdlaaDoor
set_option maxRecDepth 100000
open Go.RowKit
set_option maxHeartbeats 400000 in
theorem node_any (xs ys : List (BitVec 8)) (w : World) (hx : xs.length = 32) (hy : ys.length = 32) (hK : Tab w) :
    Calls Tryd.prog 22 #[.agg (xs.map V).toArray, .agg (ys.map V).toArray] w fun e w' => e = .returned (.agg ((shaOf (kb 1 :: (xs ++ ys))).map V).toArray) ∧ Below w.heap.size w w' := by
  have hl : Box (((shaOf (kb 1 :: (xs ++ ys))).map V).toArray.size = 32) := ⟨by simp [shaOf_len]⟩
  obtain ⟨hh, hS⟩ : ∃ hh, Box (shaOf (kb 1 :: (xs ++ ys)) = hh) := ⟨_, ⟨rfl⟩⟩
  rw [hS.out] at hl ⊢
  go_enter Tryd.func22, Tryd.ntmps22
  go_upto_region 1 with fail
  refine code_any (fun w1 => HasV w1 w.heap.size 24 xs ∧ HasV w1 (w.heap.size + 1) 24 ys ∧ HasV w1 (w.heap.size + 1 + 1) 24 (hsh St.first 0) ∧ Below w.heap.size w w1) ?_ ?_
  · refine ⟨?_, ?_, heap_alloc3_new _ _ _ _, (((Below.refl _ _).alloc (Nat.le_refl _) _).alloc (by simp) _).alloc (by simp; omega) _⟩
    · exact HasV.alloc (heap_alloc2_old _ _ _) _
    · exact HasV.alloc (heap_alloc2_new _ _ _) _
  rintro w1 ⟨hv1, hv2, hv3, hb1⟩
  have hT1 : Tab w1 := hK.below hb1
  refine wp_region_end [.sl xs, .sl ys, .ls 2 (xs ++ ys), .eq (.agg (hh.map V).toArray)] Tryd.mixed (by kernel_rfl) (by kernel_rfl) (by kernel_rfl) (by kernel_rfl) ⟨fun _ a w' K => ?_, fun _ a w' K => ?_, fun _ a w' K => ?_, fun _ a w' K => ?_, trivial⟩ ?_
  · exact st_slice24 (.tmp 2) rfl _ _ xs (K.old 2 rfl) hx (hv1.below K.grow hv1.lt).lt (hv1.below K.grow hv1.lt).bytes
  · exact st_slice24 (.tmp 3) rfl _ _ ys (K.old 3 rfl) hy (hv2.below K.grow hv2.lt).lt (hv2.below K.grow hv2.lt).bytes
  · exact st_build2 (.tmp 5) (.tmp 6) rfl (K.dep 0 5 rfl) (K.dep 1 6 rfl)
  · rw [← hS.out]
    exact st_call 29 (.func 29) _ _ #[.int .i64 1, a.eval (.tmp 7)] rfl rfl rfl Tryd.enter29 (fk_tsum 1 (by simp; omega) (by omega) (hT1.below K.grow) (K.dep 2 7 rfl))
  · intro af w4 fin hb4
    have e3 : af.eval (.tmp 8) = .agg (hh.map V).toArray := fin.has 3 8 rfl
    have hv5 : w4.heap[w.heap.size + 1 + 1]? = some (.cells ((hsh St.first 0).map V).toArray 24 (0, 0)) := hv3.below hb4 hv3.lt
    have hb6 : Below w.heap.size w w4 := hb1.trans (hb4.mono hb1.size)
    refine wpList_store_row rfl 24 (.tmp 4) (.tmp 8) rfl (w.heap.size + 1 + 1) (hh.map V).toArray (fin.old 4 rfl) e3 24 _ hv5 (by rw [hl.out]; exact Tryd.size24) (by rw [hl.out]; rfl) (V_all _) ?_
    go_wp2
    refine bodyPost_ret (v := .agg (hh.map V).toArray) ?_ fin.defs ⟨rfl, ?_⟩
    · exact results_cell_row (P := Tryd.prog) (fn := Tryd.f22) (p := 4) (ty := 24) rfl _ _ (w.heap.size + 1 + 1) 24 _ (0, 0) _ (fin.old 4 rfl) (setRow_heap _ _ _ _ 24 (0, 0) hv5) Tryd.under24 rfl (by rw [hl.out]; exact Tryd.size24)
    · exact hb6.trans (below_setRow _ _ _ _ (by omega))
end Go.Proofs.YtfbfngblocfdlaaDoor
namespace Go.Proofs.YtfbfngblocfdlaaDoor
set_option maxRecDepth 100000
open Go.RowKit
/-- The sum of a leaf, of a node, of a message. -/
def lf (bs : List (BitVec 8)) : List (BitVec 8) := shaOf (kb 0 :: bs)
def nd (xs ys : List (BitVec 8)) : List (BitVec 8) := shaOf (kb 1 :: (xs ++ ys))
def ms (bs : List (BitVec 8)) : List (BitVec 8) := shaOf (kb 5 :: bs)
theorem lf_len (bs : List (BitVec 8)) : (lf bs).length = 32 := shaOf_len _
theorem nd_len (xs ys : List (BitVec 8)) : (nd xs ys).length = 32 := shaOf_len _
theorem ms_len (bs : List (BitVec 8)) : (ms bs).length = 32 := shaOf_len _
theorem fk_leaf {bs : List (BitVec 8)} {v : Value} {w : World} (hT : bs.length ≤ 140737488351232) (hK : Tab w) (h : (Fk.sl bs).f v w) {y : List (BitVec 8)} (hy : Box (lf bs = y)) :
    Calls Tryd.prog 14 #[v] w fun e w' => ∃ u, e = .returned u ∧ (Fk.eq (.agg (y.map V).toArray)).f u w' ∧ Below w.heap.size w w' := by
  obtain ⟨sp, m, c, b, o, rfl, hs⟩ := h
  rw [← hy.out]
  exact fk_of (leaf_any b o sp m c bs w hs hT hK.K hK.pos)
theorem fk_node {xs ys : List (BitVec 8)} {w : World} (hx : xs.length = 32) (hl : ys.length = 32) (hK : Tab w) {y : List (BitVec 8)} (hy : Box (nd xs ys = y)) :
    Calls Tryd.prog 22 #[.agg (xs.map V).toArray, .agg (ys.map V).toArray] w fun e w' => ∃ u, e = .returned u ∧ (Fk.eq (.agg (y.map V).toArray)).f u w' ∧ Below w.heap.size w w' := by
  rw [← hy.out]
  exact fk_of (node_any xs ys w hx hl hK)
/-- The public key of a number, by its kind; its leaf. -/
def pk (seed : List (BitVec 8)) (kind i : Nat) : List (BitVec 8) := if kind = 1 then pub (all67 (endOf seed i)) else pub (all512 (edOf seed i))
theorem pk_len (seed : List (BitVec 8)) (kind i : Nat) : (pk seed kind i).length = 32 := by
  unfold pk
  split <;> exact pub_len _
theorem pk_one {seed : List (BitVec 8)} {kind i : Nat} {p : List (BitVec 8)} (hk : kind = 1) (h : Box (pk seed kind i = p)) : Box (pub (all67 (endOf seed i)) = p) := ⟨by rw [← h.out]; unfold pk; rw [if_pos hk]⟩
theorem pk_two {seed : List (BitVec 8)} {kind i : Nat} {p : List (BitVec 8)} (hk : kind = 2) (h : Box (pk seed kind i = p)) : Box (pub (all512 (edOf seed i)) = p) := ⟨by rw [← h.out]; unfold pk; rw [if_neg (by omega)]⟩
def lv (seed : List (BitVec 8)) (kind i : Nat) : List (BitVec 8) := lf (pk seed kind i)
theorem lv_len (seed : List (BitVec 8)) (kind i : Nat) : (lv seed kind i).length = 32 := lf_len _
/-- The root over 2^h leaves from a on. -/
def rt (L : Nat → List (BitVec 8)) (a : Nat) : Nat → List (BitVec 8)
  | 0 => L a
  | h + 1 => nd (rt L a h) (rt L (a + 2 ^ h) h)
theorem rt_len (seed : List (BitVec 8)) (kind : Nat) (a : Nat) (h : Nat) : (rt (lv seed kind) a h).length = 32 := by
  cases h with
  | zero => exact lv_len _ _ _
  | succ h => exact nd_len _ _
/-- Where the hash beside begins, at level l. -/
def bes (i l : Nat) : Nat := (i / 2 ^ l ^^^ 1) * 2 ^ l
/-- The path's hash at level l. -/
def pth (L : Nat → List (BitVec 8)) (i l : Nat) : List (BitVec 8) := rt L (bes i l) l
/-- The parts of a signature, by its kind. -/
def sgp (seed : List (BitVec 8)) (kind i : Nat) (h : List (BitVec 8)) : List (List (BitVec 8)) := if kind = 1 then all67 (sigOf seed i h) else all512 (sgOf seed i h)
theorem sgp_one {seed h : List (BitVec 8)} {kind i : Nat} {S : List (List (BitVec 8))} (hk : kind = 1) (e : Box (sgp seed kind i h = S)) : Box (all67 (sigOf seed i h) = S) := ⟨by rw [← e.out]; unfold sgp; rw [if_pos hk]⟩
theorem sgp_two {seed h : List (BitVec 8)} {kind i : Nat} {S : List (List (BitVec 8))} (hk : kind = 2) (e : Box (sgp seed kind i h = S)) : Box (all512 (sgOf seed i h) = S) := ⟨by rw [← e.out]; unfold sgp; rw [if_neg (by omega)]⟩
/-- Hashes in new memory. -/
def Fk.hn (g0 : Nat) (hs : List (List (BitVec 8))) : Fk := .inr (.inl ⟨fun v w => ∃ A C lb lo, v = .slice A hs.length C ∧ g0 ≤ lb ∧ Hl w A lb lo hs, by
  rintro v w w' ⟨A, C, lb, lo, e, hg, h⟩ hb
  exact ⟨A, C, lb, lo, e, hg, h.below hb⟩⟩)
theorem hn_hs {g0 : Nat} {hs : List (List (BitVec 8))} {v : Value} {w : World} (h : (Fk.hn g0 hs).f v w) : (Fk.hs hs).f v w := by
  obtain ⟨A, C, lb, lo, e, _, hl⟩ := h
  exact ⟨A, C, lb, lo, e, hl⟩
theorem hn_le {g0 g1 : Nat} (hg : g1 ≤ g0) {hs : List (List (BitVec 8))} {v : Value} {w : World} (h : (Fk.hn g0 hs).f v w) : (Fk.hn g1 hs).f v w := by
  obtain ⟨A, C, lb, lo, e, h1, hl⟩ := h
  exact ⟨A, C, lb, lo, e, Nat.le_trans hg h1, hl⟩
/-- n hashes of noughts, in cells. -/
def mkh (n : Nat) : Array Value := madeCells ((hz.map V).toArray) (n * 32)
theorem mkh_at (n j : Nat) (h : j < n * 32) : (mkh n)[j]? = some (.int .u8 (bv (hz.getD (j % 32) 0))) := by
  have h2 : j % 32 < hz.length := by rw [hz_len]; omega
  have h3 : (mkh n).size = n * 32 := by unfold mkh; simp [size_madeCells]
  rw [Array.getElem?_eq_getElem (by rw [h3]; exact h)]
  unfold mkh
  simp only [madeCells, Array.getElem_map, Array.getElem_range, List.size_toArray, List.length_map, hz_len]
  have : (hz.map V).toArray[j % 32]? = some (V (hz.getD (j % 32) 0)) := by
    rw [List.getElem?_toArray, List.getElem?_map, List.getElem?_eq_getElem h2, Option.map_some, List.getD_eq_getElem?_getD, List.getElem?_eq_getElem h2]
    rfl
  rw [getElem!_def, this]
  rfl
theorem Tryd.makehs (n : Nat) (hn : n ≤ 1000) (w : World) : (Instr.makeSlice 22 (.int .i64 (n : Int)) (.int .i64 (n : Int))).run Tryd.prog w = .ok (.slice (some ⟨w.heap.size, 0, none⟩) n n) (w.alloc (.cells (mkh n) 24)) := by
  obtain ⟨i0, hi, hz0, hz1, hz2⟩ := info_parts Tryd.info24
  have := run_make (P := Tryd.prog) w 22 24 i0 _ Tryd.under22' hi hz0 .i64 .i64 (n : Int) (n : Int) (by omega) (by omega) (by rw [hz2]; omega) (by omega)
  rw [hz1] at this
  simp only [Int.toNat_natCast] at this
  exact this
/-- n hashes of noughts. -/
def zhs (n : Nat) : List (List (BitVec 8)) := List.replicate n hz
theorem zhs_len (n : Nat) : (zhs n).length = n := List.length_replicate
theorem rw_newh (n : Nat) (w : World) : Rw (w.alloc (.cells (mkh n) 24)) w.heap.size (zhs n) := by
  unfold zhs
  refine ⟨⟨fun _ => rfl, fun _ => by simp, fun i x hi => ?_⟩, by simp, fun j => ?_⟩
  · obtain ⟨h1, h2⟩ := List.getElem?_eq_some_iff.1 hi
    simp only [List.length_replicate] at h1
    obtain rfl : hz = x := by rw [← h2, List.getElem_replicate]
    refine ⟨hz_len, fun j hj => ?_⟩
    rw [hz_len] at hj
    rw [World.cell?_alloc_mark, mkh_at _ _ (by omega), show (0 + i * 32 + j) % 32 = j by omega]
  · have := heap_alloc_new w (.cells (mkh n) 24)
    exact frozen_of_row _ _ j _ 24 this
/-- The first k of n are told, the others are noughts. -/
def prt (n : Nat) (F : Nat → List (BitVec 8)) (k : Nat) : List (List (BitVec 8)) := (List.range n).map fun i => if i < k then F i else hz
theorem prt_len (n : Nat) (F : Nat → List (BitVec 8)) (k : Nat) : (prt n F k).length = n := by simp [prt]
theorem prt_zero (n : Nat) (F : Nat → List (BitVec 8)) : prt n F 0 = zhs n := by
  unfold zhs
  apply List.ext_getElem (by rw [prt_len, List.length_replicate])
  intro i h1 h2
  rw [List.getElem_replicate]
  simp [prt]
theorem prt_set (n : Nat) (F : Nat → List (BitVec 8)) (k : Nat) : (prt n F k).set k (F k) = prt n F (k + 1) := by
  apply List.ext_getElem (by simp [prt])
  intro i h1 h2
  rw [List.getElem_set]
  simp only [prt, List.getElem_map, List.getElem_range]
  by_cases e : k = i
  · subst e; simp
  · rw [if_neg e]
    by_cases h : i < k
    · rw [if_pos h, if_pos (by omega)]
    · rw [if_neg h, if_neg (by omega)]
theorem prt_all (n : Nat) (F : Nat → List (BitVec 8)) : prt n F n = firsts F n := by
  apply List.ext_getElem (by simp [prt, firsts])
  intro i h1 h2
  simp only [prt, List.length_map, List.length_range] at h1
  simp [prt, firsts, h1]
/-- A new row of n hashes of noughts. -/
def Fk.nz (g0 n : Nat) : Fk := .inr (.inl ⟨fun v w => ∃ g, g0 ≤ g ∧ v = .slice (some ⟨g, 0, none⟩) n n ∧ Rw w g (zhs n), by
  rintro v w w' ⟨g, h, e, hv⟩ hb
  exact ⟨g, h, e, hv.below hb⟩⟩)
section
variable {Q : Exit → Act → World → Prop} {o : Oper} {a : Act} {w : World} {ops : Array Oper} {rest : List Oper}
theorem st_makeh (x y : Operand) (ho : o.op = .makeSlice 22 x y) (n : Nat) (hn : n ≤ 1000) (hx : a.eval x = .int .i64 (n : Int)) (hy : a.eval y = .int .i64 (n : Int)) (g0 : Nat) (hg : g0 ≤ w.heap.size) : o.wp Tryd.prog a w (Ends a o.dst w (Fk.nz g0 n).f) Q := by
  refine st_run (v := .slice (some ⟨w.heap.size, 0, none⟩) n n) (w' := w.alloc (.cells (mkh n) 24)) ?_ ((Below.refl _ _).alloc (Nat.le_refl _) _) ⟨w.heap.size, hg, rfl, rw_newh n w⟩
  unfold execOp
  rw [ho]
  simp [hx, hy, Tryd.makehs n hn]
theorem st_idxr (x y : Operand) (ho : o.op = .indexAddr 22 x y) (g i n : Nat) (hx : a.eval x = .slice (some ⟨g, 0, none⟩) n n) (hy : a.eval y = .int .i64 (i : Int)) (hi : i < n) : o.wp Tryd.prog a w (Ends a o.dst w (Fk.eq (.pointer (some ⟨g, i * 32, none⟩))).f) Q := by
  refine st_pure (v := .pointer (some ⟨g, i * 32, none⟩)) ?_ rfl
  have h1 := run_indexAt_slice (P := Tryd.prog) (w := w) 22 ⟨g, 0, none⟩ n n .i64 (i : Int) (by rw [Tryd.elem22]; exact Tryd.under22')
  rw [if_pos (by omega), Tryd.elem22, Tryd.sizeOf24] at h1
  simp only [Result.andThen_ok, Int.toNat_natCast, Addr.add_mid, Nat.zero_add] at h1
  unfold execOp
  rw [ho]
  simp [hx, hy, h1]
theorem st_xor1 (x y : Operand) (ho : o.op = .binOp .xor 3 x y 3) (m : Nat) (hm : m ≤ 1000000) (hx : a.eval x = .int .i64 (m : Int)) (hy : a.eval y = .int .i64 1) : o.wp Tryd.prog a w (Ends a o.dst w (Fk.eq (.int .i64 ((m ^^^ 1 : Nat) : Int))).f) Q := by
  refine st_bin .xor 3 3 x y ho hx hy ?_
  have h1 : m ^^^ 1 < 2 ^ 20 := Nat.xor_lt_two_pow (by omega) (by omega)
  have h2 : m % 2 ^ IntKind.i64.bits = m := Nat.mod_eq_of_lt (by show m < 18446744073709551616; omega)
  have h3 : 1 % 2 ^ IntKind.i64.bits = 1 := rfl
  simp [eqGuard, binOp, Op.intBits, h2, h3]
  rw [IntKind.wrap_i64]
  omega
theorem st_and1 (x y : Operand) (ho : o.op = .binOp .and 3 x y 3) (m : Nat) (hm : m ≤ 1000000) (hx : a.eval x = .int .i64 (m : Int)) (hy : a.eval y = .int .i64 1) : o.wp Tryd.prog a w (Ends a o.dst w (Fk.eq (.int .i64 ((m % 2 : Nat) : Int))).f) Q := by
  refine st_bin .and 3 3 x y ho hx hy ?_
  have h2 : m % 2 ^ IntKind.i64.bits = m := Nat.mod_eq_of_lt (by show m < 18446744073709551616; omega)
  have h3 : 1 % 2 ^ IntKind.i64.bits = 1 := rfl
  simp [eqGuard, binOp, Op.intBits, h2, h3]
  rw [IntKind.wrap_i64]
  omega
theorem st_loadz (T : TypeId) (x : Operand) (ho : o.op = .load T x) (b so : Nat) (cs : List Value) (hr : (Tryd.prog.underlying T).map (·.isRow) = some true) (hi : (Tryd.prog.info? T).map (·.size) = some cs.length) (hx : a.eval x = .pointer (some ⟨b, so, none⟩)) (hc : w.rangeAt b so cs) : o.wp Tryd.prog a w (Ends a o.dst w (Fk.eq (.agg cs.toArray)).f) Q := by
  cases hu : Tryd.prog.underlying T with
  | none => rw [hu] at hr; cases hr
  | some d =>
    rw [hu] at hr
    exact st_loadm T x ho b so cs hu (by simpa using hr) hi hx hc
end
theorem ret_hash {fn : Func} {p : Tmp} (h : fn.results = #[.cell p 24]) (a : Act) (w : World) (g : Nat) (xs : List (BitVec 8)) (hl : xs.length = 32) (hp : a.eval (.tmp p) = .pointer (some ⟨g, 0, none⟩)) (m : Ob w g 24 (xs.map V)) : (results fn a.tmps).run Tryd.prog w = .ok (.agg (xs.map V).toArray) w :=
  results_cell_row (P := Tryd.prog) (fn := fn) (p := p) (ty := 24) h _ _ g 24 _ (0, 0) _ hp m Tryd.under24 rfl (by rw [List.size_toArray, List.length_map, hl]; exact Tryd.size24)
theorem ret_hash2 {fn : Func} {p u : Tmp} (h : fn.results = #[.cell p 24, .tmp u]) (a : Act) (w : World) (g : Nat) (xs : List (BitVec 8)) (v : Value) (hl : xs.length = 32) (hp : a.eval (.tmp p) = .pointer (some ⟨g, 0, none⟩)) (m : Ob w g 24 (xs.map V)) (hu : a.eval (.tmp u) = v) : (results fn a.tmps).run Tryd.prog w = .ok (.tuple #[.agg (xs.map V).toArray, v]) w :=
  results_row_tmp (P := Tryd.prog) h _ _ g 24 _ (0, 0) _ v hp m Tryd.under24 rfl (by rw [List.size_toArray, List.length_map, hl]; exact Tryd.size24) hu
end Go.Proofs.YtfbfngblocfdlaaDoor
namespace Go.Proofs.YtfbfngblocfdlaaDoor
set_option maxRecDepth 100000
open Go.RowKit
section
variable {P : Program} {Q : Exit → Act → World → Prop} {m : Nat} {ops : Array Oper} {rest : List Oper} {o : Oper} {a : Act} {w : World}
theorem wide_oper {K : Act → World → Prop} (h : o.wp P a w K Q) : o.wpIn Fence.wide m P a w K Q := by
  refine ⟨fun _ _ => trivial, ?_⟩
  rw [show Fence.wide.round = none from rfl, Oper.semAt_none]
  unfold Oper.wp at h
  generalize (execOp a.eval o).run P w = r at *
  cases r with
  | ok x w' =>
    cases x <;> simp only [Oper.upon, Oper.uponIn] at h ⊢ <;>
      first
        | exact h
        | exact h.elim
        | exact ⟨fun h => (by cases h), callsIn_wide.2 (Calls.mono h (fun e w'' he => by cases e <;> exact he))⟩
        | exact ⟨fun h => (by cases h), fun c cs _ => by obtain ⟨v, w', hr, hs⟩ := h c cs; exact ⟨v, w', hr, stepsIn_wide.2 hs⟩⟩
  | halt x w' => cases x <;> simp only [Oper.upon, Oper.uponIn] at h ⊢ <;> exact h
theorem wp_region_li (m : Nat) {id : Nat} (h : wpListIn Fence.wide m P ops Q ops.toList a w) : (Code.region id ops false).wp P Q a w := wpIn_wide.1 (wpIn_region_list h)
theorem wli_nil (h : Q .normal a w) : wpListIn Fence.wide m P ops Q [] a w := h
theorem wli_one (q : Fk) (hgd : o.guard = none) (d : Nat) (hd : o.dst = some d) (hsz : d < a.tmps.size) (hs : o.wp P a w (Ends a o.dst w q.f) Q)
    (h : ∀ a2 w2, a2.defers = a.defers → a2.tmps.size = a.tmps.size → (∀ t, (t == d) = false → a2.eval (.tmp t) = a.eval (.tmp t)) → q.f (a2.eval (.tmp d)) w2 → Below w.heap.size w w2 → wpListIn Fence.wide m P ops Q rest a2 w2) : wpListIn Fence.wide m P ops Q (o :: rest) a w := by
  unfold wpListIn
  rw [if_pos (by unfold Region.wanted; rw [hgd])]
  refine wide_oper (Oper.wp_mono ?_ hs)
  rintro a' w' ⟨v, rfl, hb, hf⟩
  rw [hd]
  refine h _ _ (put_def _ _ _) (put_size _ _ _) (fun t ht => put_eval_other _ _ _ _ (fun e => by subst e; simp at ht)) ?_ hb
  rw [put_eval_same _ _ _ hsz]
  exact hf
theorem wli_not {o : Oper} {rest : List Oper} (hgd : o.guard = none) (x : Operand) (ho : o.op = .unOp .not 4 x) (d : Nat) (hd : o.dst = some d) (hsz : d < a.tmps.size) (s : Bool) (hx : a.eval x = .bool s)
    (h : ∀ a2, a2.defers = a.defers → a2.tmps.size = a.tmps.size → (∀ t, (t == d) = false → a2.eval (.tmp t) = a.eval (.tmp t)) → a2.eval (.tmp d) = .bool !s → wpListIn Fence.wide m P ops Q rest a2 w) : wpListIn Fence.wide m P ops Q (o :: rest) a w := by
  unfold wpListIn
  rw [if_pos (by unfold Region.wanted; rw [hgd])]
  refine wide_oper ?_
  have hr : (execOp a.eval o).run P w = .ok (.value (.bool !s)) w := by
    unfold execOp
    rw [ho]
    simp [hx, Op.unary]
  unfold Oper.wp
  rw [hr]
  show wpListIn _ _ _ _ _ _ _ _
  rw [hd]
  refine h _ (put_def _ _ _) (put_size _ _ _) (fun t ht => put_eval_other _ _ _ _ (fun e => by subst e; simp at ht)) ?_
  rw [put_eval_same _ _ _ hsz]
theorem then_exit {K : Act → World → Prop} {id : Nat} (h : Q (.exit id) a w) : Exit.then K Q (.exit id) a w := h
theorem block_exit {id : Nat} (h : Q .normal a w) : Exit.inBlock id Q (.exit id) a w := by
  show (if id = id then Q .normal a w else Q (.exit id) a w)
  rw [if_pos rfl]
  exact h
/-- A yield. -/
theorem wli_yield (x : Operand) (xs : Array Operand) (ts : Array TypeId) (vs : Array Value) (hgd : o.guard = none) (d : Nat) (hd : o.dst = some d) (hsz : d < a.tmps.size) (ho : o.op = .call { callee := .value x, args := xs, argTypes := ts }) (l : Nat) (hx : a.eval x = .func (.yield l) #[] #[]) (hv : (xs.toList.map a.eval).toArray = vs)
    {k : Nat} {X Y : World → Prop} (hy : YieldAt Fence.wide k P l vs w fun e W' => (e = .returned (.bool true) ∧ X W') ∨ (e = .returned (.bool false) ∧ Y W'))
    (ht : ∀ a2 w2, a2.defers = a.defers → a2.tmps.size = a.tmps.size → (∀ t, (t == d) = false → a2.eval (.tmp t) = a.eval (.tmp t)) → a2.eval (.tmp d) = .bool true → X w2 → wpListIn Fence.wide m P ops Q rest a2 w2)
    (hf : ∀ a2 w2, a2.defers = a.defers → a2.tmps.size = a.tmps.size → (∀ t, (t == d) = false → a2.eval (.tmp t) = a.eval (.tmp t)) → a2.eval (.tmp d) = .bool false → Y w2 → wpListIn Fence.wide m P ops Q rest a2 w2) : wpListIn Fence.wide m P ops Q (o :: rest) a w := by
  obtain ⟨fn, tmps, assign, body, hrun, hR⟩ := hy
  have hv' : xs.map a.eval = vs := by rw [← hv]; apply Array.toList_inj.1; simp
  have hr : (execOp a.eval o).run P w = .ok (.round l fn tmps assign body) w := by
    unfold execOp; rw [ho]
    simp [resolve, hx, Deferred.ofValue, invoke, hv', hrun]
  unfold wpListIn
  rw [if_pos (by unfold Region.wanted; rw [hgd])]
  refine ⟨fun _ _ => trivial, ?_⟩
  rw [show Fence.wide.round = none from rfl, Oper.semAt_none, hr]
  refine ⟨fun h => (by cases h), RoundIn.mono ⟨trivial, fun c cs _ => hR.2 c cs (room_wide _)⟩ ?_⟩
  rintro e w' (⟨rfl, hX⟩ | ⟨rfl, hY⟩)
  · rw [hd]
    refine ht _ _ (put_def _ _ _) (put_size _ _ _) (fun t ht => put_eval_other _ _ _ _ (fun e => by subst e; simp at ht)) ?_ hX
    rw [put_eval_same _ _ _ hsz]
  · rw [hd]
    refine hf _ _ (put_def _ _ _) (put_size _ _ _) (fun t ht => put_eval_other _ _ _ _ (fun e => by subst e; simp at ht)) ?_ hY
    rw [put_eval_same _ _ _ hsz]
end
section
variable {P : Program} {Q : Exit → Act → World → Prop} {l n : Nat} {ops : Array Oper}
/-- A region of steps alone, in a round. -/
theorem in_all_seq {id : Nat} {a0 : Act} {w : World} (qs : List Fk) (hQ : ¬ LetsOut Q) (hp : ops.toList.all plainB = true) (hn : decide (qs.length = ops.size) = true) (hE : backOk ops.toList = true)
    (hD : dstsOk a0.tmps.size (ops.toList.take qs.length) = true) (hG : guardsOk ops.toList qs.length qs ops.toList qs = true)
    (hS : Steps P Q ops.toList qs.length qs a0 w ops.toList qs)
    (hF : ∀ af w', Final ops.toList qs a0 af w' → Below w.heap.size w w' → Q .normal af w') :
    (Code.region id ops false).wpIn (Fence.wide.inRound l) n P Q a0 w := by
  have hn' : qs.length = ops.size := of_decide_eq_true hn
  refine in_region_seq qs hQ hp (decide_eq_true (by omega)) hE hD hG hS ?_
  intro af w' fin hb
  rw [List.drop_of_length_le (by simp; omega)]
  exact hF af w' fin hb
theorem in_all {id : Nat} {a0 : Act} {w : World} (qs : List Fk) (hQ : ¬ LetsOut Q) (hp : ops.toList.all plainB = true) (hm : P.follows .mixedOrders = true) (hn : decide (qs.length = ops.size) = true) (hE : backOk ops.toList = true) (hC : coverOk ops.toList qs.length = true) (hJ : chainOk ops (firstK qs.length ops.size) [] = true)
    (hD : dstsOk a0.tmps.size (ops.toList.take qs.length) = true) (hG : guardsOk ops.toList qs.length qs ops.toList qs = true)
    (hS : Steps P Q ops.toList qs.length qs a0 w ops.toList qs)
    (hF : ∀ af w', Final ops.toList qs a0 af w' → Below w.heap.size w w' → Q .normal af w') :
    (Code.region id ops true).wpIn (Fence.wide.inRound l) n P Q a0 w := by
  have hn' : qs.length = ops.size := of_decide_eq_true hn
  exact in_region_tail qs [] hQ hp hm (decide_eq_true (by omega)) hE hC hJ hD hG hS (fun af w' fin hb => hF af w' fin hb)
end
end Go.Proofs.YtfbfngblocfdlaaDoor
namespace Go.Proofs.YtfbfngblocfdlaaDoor
set_option maxRecDepth 100000
open Go.RowKit
/-- How many bits a number has. -/
def bln (x : Nat) : Nat := if x = 0 then 0 else Nat.log2 x + 1
theorem bln_pos {x : Nat} (h : x ≠ 0) : bln x = Nat.log2 x + 1 := if_neg h
theorem bln_shift {x k : Nat} (h : 2 ^ k ≤ x) : bln (x / 2 ^ k) + k = bln x := by
  have hp : 0 < 2 ^ k := Nat.two_pow_pos k
  have h0 : x ≠ 0 := by omega
  have h1 : x / 2 ^ k ≠ 0 := by
    have := (Nat.le_div_iff_mul_le hp (x := 1) (y := x)).2 (by omega)
    omega
  rw [bln_pos h0, bln_pos h1]
  have a1 : Nat.log2 (x / 2 ^ k) + k ≤ Nat.log2 x := by
    rw [Nat.le_log2 h0, Nat.pow_add]
    have := Nat.log2_self_le h1
    exact (Nat.le_div_iff_mul_le hp).1 this
  have a2 : Nat.log2 x < Nat.log2 (x / 2 ^ k) + 1 + k := by
    rw [Nat.log2_lt h0, Nat.pow_add]
    have := Nat.lt_log2_self (n := x / 2 ^ k)
    exact (Nat.div_lt_iff_lt_mul hp).1 this
  omega
/-- The table of the bits of a byte, as the program has it. -/
def len8 : ByteArray := { data := (([0, 1, 2, 2, 3, 3, 3, 3, 4, 4, 4, 4, 4, 4, 4, 4, 5, 5, 5, 5, 5, 5, 5, 5, 5, 5, 5, 5, 5, 5, 5, 5, 6, 6, 6, 6, 6, 6, 6, 6, 6, 6, 6, 6, 6, 6, 6, 6, 6, 6, 6, 6, 6, 6, 6, 6, 6, 6, 6, 6, 6, 6, 6, 6].append [7, 7, 7, 7, 7, 7, 7, 7, 7, 7, 7, 7, 7, 7, 7, 7, 7, 7, 7, 7, 7, 7, 7, 7, 7, 7, 7, 7, 7, 7, 7, 7, 7, 7, 7, 7, 7, 7, 7, 7, 7, 7, 7, 7, 7, 7, 7, 7, 7, 7, 7, 7, 7, 7, 7, 7, 7, 7, 7, 7, 7, 7, 7, 7]).append ([8, 8, 8, 8, 8, 8, 8, 8, 8, 8, 8, 8, 8, 8, 8, 8, 8, 8, 8, 8, 8, 8, 8, 8, 8, 8, 8, 8, 8, 8, 8, 8, 8, 8, 8, 8, 8, 8, 8, 8, 8, 8, 8, 8, 8, 8, 8, 8, 8, 8, 8, 8, 8, 8, 8, 8, 8, 8, 8, 8, 8, 8, 8, 8].append [8, 8, 8, 8, 8, 8, 8, 8, 8, 8, 8, 8, 8, 8, 8, 8, 8, 8, 8, 8, 8, 8, 8, 8, 8, 8, 8, 8, 8, 8, 8, 8, 8, 8, 8, 8, 8, 8, 8, 8, 8, 8, 8, 8, 8, 8, 8, 8, 8, 8, 8, 8, 8, 8, 8, 8, 8, 8, 8, 8, 8, 8, 8, 8])).toArray }
theorem len8_at : ∀ x : Fin 256, len8.data[x.val]? = some (UInt8.ofNat (bln x.val)) := by decide +kernel
theorem bln8 : ∀ x : Fin 256, bln x.val ≤ 8 := by decide +kernel
theorem len8_size : len8.size = 256 := by decide +kernel
theorem Tryd.under53 : Tryd.prog.underlying 53 = some (.int .u64) := by kernel_rfl
theorem Tryd.under65 : Tryd.prog.underlying 65 = some (.int .u64) := by kernel_rfl
section
variable {Q : Exit → Act → World → Prop} {o : Oper} {a : Act} {w : World}
theorem st_conv (t1 t2 : TypeId) (x : Operand) (ho : o.op = .convert t1 t2 x) (k1 k2 : IntKind) (z z2 : Int) (hx : a.eval x = .int k1 z) (h1 : Tryd.prog.underlying t1 = some (.int k1)) (h2 : Tryd.prog.underlying t2 = some (.int k2)) (hw : k2.wrap z = z2) : o.wp Tryd.prog a w (Ends a o.dst w (Fk.eq (.int k2 z2)).f) Q := by
  refine st_pure (v := .int k2 z2) ?_ rfl
  unfold execOp
  rw [ho]
  simp [hx, convert, run_underlying h1, run_underlying h2, Conv.intToInt, hw]
theorem st_shru (t t2 : TypeId) (x y : Operand) (ho : o.op = .binOp .shr t x y t2) (m k : Nat) (hx : a.eval x = .int .u64 (m : Int)) (hy : a.eval y = .int .u64 (k : Int)) (e : Nat) (he : e = m / 2 ^ k) (hk : k ≤ 63) : o.wp Tryd.prog a w (Ends a o.dst w (Fk.eq (.int .u64 (e : Int))).f) Q := by
  refine st_bin .shr t t2 x y ho hx hy ?_
  have hw : (m : Int) / 2 ^ k = (e : Int) := by rw [he]; simp
  simp [eqGuard, binOp, hw]
  try omega
theorem st_len8 (x y : Operand) (ho : o.op = .index 9 x y) (hx : a.eval x = .string len8) (k : Nat) (hk : k < 256) (hy : a.eval y = .int .u8 (k : Int)) : o.wp Tryd.prog a w (Ends a o.dst w (Fk.eq (.int .u8 ((bln k : Nat) : Int))).f) Q := by
  refine st_pure (v := .int .u8 ((bln k : Nat) : Int)) ?_ rfl
  have h1 := run_index_string (P := Tryd.prog) w 9 len8 .u8 (k : Int) Tryd.under9
  have h2 := len8_at ⟨k, hk⟩
  have h3 := bln8 ⟨k, hk⟩
  have hs : k < len8.size := by rw [len8_size]; exact hk
  have h4 : len8[k] = UInt8.ofNat (bln k) := (Array.getElem?_eq_some_iff.1 h2).2
  rw [dif_pos (by rw [len8_size]; omega)] at h1
  simp only [Int.toNat_natCast, h4] at h1
  rw [show (UInt8.ofNat (bln k)).toNat = bln k from UInt8.toNat_ofNat_of_lt' (Nat.lt_of_le_of_lt h3 (by decide))] at h1
  unfold execOp
  rw [ho]
  simp [hx, hy, h1]
end
end Go.Proofs.YtfbfngblocfdlaaDoor
