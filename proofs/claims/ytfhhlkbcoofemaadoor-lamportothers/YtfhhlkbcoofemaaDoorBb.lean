/- What lamport.Bits hands back. -/
import Derived.Test.YtfhhlkbcoofemaaDoorBa
import Derived.Laws.MakeOwn
import Derived.Laws.Rows
import Derived.Laws.Tables
namespace Go.Proofs.YtfhhlkbcoofemaaDoor
open Go.RowKit Go.Shelf
attribute [local go_sem] Oper.semAt_some
/-- A number in a cell. -/
def NV (n : Nat) : Value := .int .i64 (n : Int)
/-- Block b of the world is a row of numbers. -/
def HasN (w : World) (b : Nat) (ds : List Nat) : Prop := w.heap[b]? = some (.cells (ds.map NV).toArray 3 (0, 0))
theorem HasN.cell {w : World} {b : Nat} {ds : List Nat} (h : HasN w b ds) (i d : Nat) (hi : ds[i]? = some d) : w.cell? ⟨b, i, none⟩ = some (.int .i64 (d : Int)) := by
  unfold HasN at h
  simp [World.cell?, h, hi, NV]
theorem HasN.frozen {w : World} {b : Nat} {ds : List Nat} (h : HasN w b ds) (i : Nat) : w.frozen? ⟨b, i, none⟩ = false := by
  unfold HasN at h
  simp [World.frozen?, h]
theorem HasN.set {w : World} {b : Nat} {ds : List Nat} (h : HasN w b ds) (i x : Nat) : HasN (w.setCell ⟨b, i, none⟩ (.int .i64 (x : Int))) b (ds.set i x) := by
  unfold HasN at *
  simp [World.setCell, Array.getElem?_modify, h, NV, List.map_set]
theorem HasN.lt {w : World} {b : Nat} {ds : List Nat} (h : HasN w b ds) : b < w.heap.size := (Array.getElem?_eq_some_iff.1 h).1
/-- Noughts. -/
def zns (n : Nat) : List Nat := List.replicate n 0
theorem zns_len (n : Nat) : (zns n).length = n := by simp [zns]
theorem made_zns (n : Nat) : madeCells #[.int .i64 0] n = ((zns n).map NV).toArray := by
  unfold zns
  apply Array.ext (by simp [size_madeCells])
  intro i h1 h2
  simp [madeCells, NV, Nat.mod_one]
/-- 256 noughts. -/
def zn : List Nat := zns 256
theorem zn_len : zn.length = 256 := zns_len 256
theorem made_zn : madeCells #[.int .i64 0] 256 = (zn.map NV).toArray := made_zns 256
theorem Tryd.u23 : Tryd.prog.underlying 23 = some (.array 32 5) := by kernel_rfl
theorem Tryd.s23 : (Tryd.prog.info? 23).map (·.size) = some 32 := by kernel_rfl
theorem Tryd.info3n : (Tryd.prog.info? 3).map (fun i => (i.zero, i.size, i.bytes)) = some (some (.int .i64 0), 1, 8) := by kernel_rfl
theorem Tryd.underI : Tryd.prog.underlying 44 = some (.slice 3) := by kernel_rfl
theorem Tryd.makeI (w : World) : (Instr.makeSlice 44 (.int .i64 256) (.int .i64 256)).run Tryd.prog w = .ok (.slice (some ⟨w.heap.size, 0, none⟩) 256 256) (w.alloc (.cells (zn.map NV).toArray 3)) := by
  obtain ⟨i0, hi, hz0, hz1, hz2⟩ := info_parts Tryd.info3n
  have := run_make (P := Tryd.prog) w 44 3 i0 _ Tryd.underI hi hz0 .i64 .i64 256 256 (by omega) (by omega) (by rw [hz2]; omega) (by omega)
  rw [hz1] at this
  rw [← made_zn]
  exact this
/-- All bits. -/
def bts (h : List (BitVec 8)) : List Nat := (List.range 256).map (bt h)
theorem bts_len (h : List (BitVec 8)) : (bts h).length = 256 := by simp [bts]
theorem bts_at (h : List (BitVec 8)) (i : Nat) (hi : i < 256) : (bts h)[i]? = some (bt h i) := by simp [bts, hi]
/-- What is told of a row of numbers when some of the bits have come. -/
def Told (h : List (BitVec 8)) (pre : List (Fin 256)) (ds : List Nat) : Prop := ds.length = 256 ∧ ∀ p ∈ pre, ds[p.val]? = some (bt h p.val)
theorem told_nil (h : List (BitVec 8)) : Told h [] zn := ⟨zn_len, fun _ hp => by cases hp⟩
theorem told_snoc {h : List (BitVec 8)} {pre : List (Fin 256)} {ds : List Nat} (ht : Told h pre ds) (p : Fin 256) : Told h (pre ++ [p]) (ds.set p.val (bt h p.val)) := by
  refine ⟨by rw [List.length_set]; exact ht.1, fun q hq => ?_⟩
  by_cases e : q = p
  · subst e; rw [List.getElem?_set_self (by rw [ht.1]; exact q.isLt)]
  · rw [List.getElem?_set_ne (fun h => e (Fin.ext h.symm))]
    rcases List.mem_append.1 hq with h1 | h1
    · exact ht.2 q h1
    · exact absurd (List.mem_singleton.1 h1) e
theorem told_all {h : List (BitVec 8)} {ds : List Nat} (ht : Told h (ups 256) ds) : ds = bts h := by
  apply List.ext_getElem? 
  intro i
  by_cases hi : i < 256
  · rw [bts_at h i hi]; exact ht.2 ⟨i, hi⟩ (ups_all _)
  · rw [List.getElem?_eq_none (by rw [ht.1]; omega), List.getElem?_eq_none (by rw [bts_len]; omega)]
theorem block_alloc {w : World} {b : Nat} {o p : Obj} (h : w.heap[b]? = some o) : (w.alloc p).heap[b]? = some o := (Below.heap_alloc w p b (Array.getElem?_eq_some_iff.1 h).1).trans h
theorem any_world {P : Program} {c : Code} {Q : Exit → Act → World → Prop} {a : Act} {w : World} (F : World → Prop) (hF : F w) (h : ∀ w2, F w2 → Code.wp P c Q a w2) : Code.wp P c Q a w := h w hF
/-- A variable that holds a slice. -/
def HasS (w : World) (b : Nat) (T : TypeId) (v : Value) : Prop := w.heap[b]? = some (.cells #[v] T (0, 0))
theorem HasS.cell {w : World} {b : Nat} {T : TypeId} {v : Value} (h : HasS w b T v) : w.cell? ⟨b, 0, none⟩ = some v := by
  unfold HasS at h
  simp [World.cell?, h]
theorem block_setCell {w : World} {a : Addr} {v : Value} {b : Nat} {o : Obj} (h : w.heap[b]? = some o) (hne : b ≠ a.block) : (w.setCell a v).heap[b]? = some o := by
  rw [heap_setCell_other _ _ _ _ hne]; exact h
set_option maxRecDepth 100000 in
set_option maxHeartbeats 2000000 in
theorem bits_any (h : List (BitVec 8)) (w : World) (hh : h.length = 32) :
    Calls Tryd.prog 19 #[.agg (h.map V).toArray] w fun e w' => ∃ g, e = .returned (.slice (some ⟨g, 0, none⟩) 256 256) ∧ HasN w' g (bts h) ∧ w.heap.size ≤ g ∧ Below w.heap.size w w' := by
  refine (callsIn_wide (n := 6)).1 ?_
  have hmk := Tryd.makeI
  refine callsIn_of_wp_marks Tryd.func19 rfl trivial ?_ rfl
  simp only [Tryd.ntmps19, List.size_toArray, List.length_cons, List.length_nil, Nat.reduceAdd, Nat.reduceSub, Array.replicate_succ, Array.replicate_zero, List.push_toArray, List.append_toArray, List.nil_append, List.cons_append]
  refine wpIn_wide.2 ?_
  have hof := Box.mk (of_any h)
  have hsz : Box ((h.map V).toArray.size = 32) := ⟨by simp [hh]⟩
  have hv : Box (HasV (((w.alloc (Obj.cells (List.map V h).toArray 23)).alloc (Obj.cells (List.map NV zn).toArray 3)).alloc (Obj.cells #[Value.slice (some { block := w.heap.size + 1, off := 0 }) 256 256] 44)) w.heap.size 23 h) := ⟨HasV.alloc (HasV.alloc (heap_alloc_new _ _) _) _⟩
  go_wp2_with (first | (refine wpList_load_row rfl 23 (.tmp 1) rfl w.heap.size rfl 23 _ (0, 0) _ hv.out Tryd.u23 rfl (by rw [hsz.out]; exact Tryd.s23) ?_) | (go_at_call 18; refine (hof.out _).mono ?_; rintro e w' ⟨rfl, rfl⟩))
  clear hv hsz hof hmk
  refine any_world (fun W => HasN W (w.heap.size + 1) zn ∧ HasS W (w.heap.size + 1 + 1) 44 (.slice (some ⟨w.heap.size + 1, 0, none⟩) 256 256) ∧ HasV W (w.heap.size + 1 + 1 + 1) 23 h ∧ W.heap.size = w.heap.size + 4 ∧ Below w.heap.size w W) ?_ ?_
  · refine ⟨?_, ?_, ?_, by simp, ((((Below.refl _ _).alloc (Nat.le_refl _) _).alloc (by simp) _).alloc (by simp; omega) _).alloc (by simp; omega) _⟩
    · have := heap_alloc_new (w.alloc (Obj.cells (List.map V h).toArray 23)) (Obj.cells (List.map NV zn).toArray 3)
      rw [World.size_alloc] at this
      exact block_alloc (block_alloc this)
    · have := heap_alloc_new ((w.alloc (Obj.cells (List.map V h).toArray 23)).alloc (Obj.cells (List.map NV zn).toArray 3)) (Obj.cells #[Value.slice (some { block := w.heap.size + 1, off := 0 }) 256 256] 44)
      rw [World.size_alloc, World.size_alloc] at this
      exact block_alloc this
    · have := heap_alloc_new (((w.alloc (Obj.cells (List.map V h).toArray 23)).alloc (Obj.cells (List.map NV zn).toArray 3)).alloc (Obj.cells #[Value.slice (some { block := w.heap.size + 1, off := 0 }) 256 256] 44)) (Obj.cells (List.map V h).toArray 23)
      rw [World.size_alloc, World.size_alloc, World.size_alloc] at this
      exact this
  rintro W ⟨hN, hS, hv, hsz, hB⟩
  refine (wpIn_wide (n := 6)).1 ?_
  refine wpIn_rangeFunc_ownG rfl (by omega) (gf := 23) (lb := #[.pointer (some ⟨w.heap.size + 1 + 1 + 1, 0, none⟩)]) rfl trivial (enters_of Tryd.func23 (by kernel_rfl) rfl)
    (it_stops Fence.wide 5 trivial rfl (by omega) (w.heap.size + 1 + 1 + 1) h hh W hv) kg_t (kg_b (by omega)) (Below.refl _ _) (fun _ => rfl)
    (fun pre W => (∃ ds, Box (Told h pre ds) ∧ HasN W (w.heap.size + 1) ds ∧ HasS W (w.heap.size + 1 + 1) 44 (.slice (some ⟨w.heap.size + 1, 0, none⟩) 256 256)) ∧ Below w.heap.size w W)
    (fun _ _ _ => False)
    (OwnFrom.and (fun s A B row hs hg hr => by obtain ⟨ds, h1, h2, h3⟩ := hs; exact ⟨ds, h1, own_block h2 rfl hg hr, own_block h3 rfl hg hr⟩) (ownFrom_below (Nat.le_refl _) (by omega)))
    (fun _ _ _ _ _ hs _ _ => hs)
    ⟨⟨zn, ⟨told_nil h⟩, hN, hS⟩, hB⟩
    (fun x => { tmps := #[Value.agg (List.map V h).toArray, Value.pointer (some { block := w.heap.size, off := 0 }), Value.slice none 0 0, Value.pointer (some { block := w.heap.size + 1 + 1, off := 0 }), .int .i64 (x.val : Int), .int .i64 (bt h x.val : Int), Value.slice (some { block := w.heap.size + 1, off := 0 }) 256 256, Value.agg (List.map V h).toArray, .func (.func 23) #[] #[.pointer (some ⟨w.heap.size + 1 + 1 + 1, 0, none⟩)], .int .i64 (x.val : Int), .int .i64 (bt h x.val : Int), undef, undef, undef, undef, undef], defers := [] }) ?assign ?body ?done ?stop
  case assign =>
    intro l x W K hK
    dsimp only [enc]
    gi_wp2
    exact hK
  case body =>
    rintro l pre x W1 ⟨⟨ds, ht, h2, h3⟩, hb⟩ _
    have c3 := h3.cell
    have hx := x.isLt
    obtain ⟨d, hd⟩ : ∃ d, ds[x.val]? = some d := ⟨_, List.getElem?_eq_getElem (by rw [ht.out.1]; exact hx)⟩
    have c2 := h2.cell x.val d hd
    have f2 := h2.frozen x.val
    have c2B := Box.mk h2
    have c3B := Box.mk h3
    clear h2 h3
    gi_wp2
    exact ⟨(KeepsOthers.setCell _ _ _).from _, heap_setCell_other _ _ _ _ (by dsimp only; omega), ⟨ds.set x.val (bt h x.val), ⟨told_snoc ht.out x⟩, c2B.out.set _ _, block_setCell c3B.out (by dsimp only; omega)⟩, hb.setCell (by simp) _⟩
  case done =>
    rintro D ys W hD rfl ⟨⟨ds, ht, h2, h3⟩, hb⟩ hK
    have c3 := h3.cell
    have c2B := Box.mk h2
    have hbB := Box.mk hb
    clear h2 hb
    go_wp2
    refine ⟨by simp, .inl ⟨_, _, rfl, run_takeDeferred hK, ?_⟩⟩
    refine ⟨_, results_tmp rfl _ _ _, w.heap.size + 1, rfl, ?_, by omega, hbB.out.trans (belowK_b (w := w) (Nat.le_refl _) _ D _ _ (by omega) hK rfl rfl)⟩
    rw [← told_all ht.out]
    exact own_put c2B.out rfl hK rfl
  case stop =>
    rintro D c pre W _ _ h _
    exact h.elim
end Go.Proofs.YtfhhlkbcoofemaaDoor
