/- Walks over frames that are letters: the start, regions that are steps as a whole, stores and assignments behind steps. -/
import Derived.Test.YtfhhlkbcoofemaaDoorUh
namespace Go.Proofs.YtfhhlkbcoofemaaDoor
open Go.RowKit
theorem chn_to (xs : List (BitVec 8)) (m n : Int) (w : World) (hx : xs.length = 32) (hK : Tab w) {y : List (BitVec 8)} (hy : Box (chn m n xs = y)) :
    Calls Tryd.prog 14 #[.agg (xs.map V).toArray, .int .i64 m, .int .i64 n] w fun e w' => e = .returned (.agg (y.map V).toArray) ∧ Below w.heap.size w w' := by
  rw [← hy.out]; exact chn_any xs m n w hx hK
theorem sec_to (xs : List (BitVec 8)) (m n : Int) (w : World) (hx : xs.length = 32) (hK : Tab w) {y : List (BitVec 8)} (hy : Box (sec xs m n = y)) :
    Calls Tryd.prog 12 #[.agg (xs.map V).toArray, .int .i64 m, .int .i64 n] w fun e w' => e = .returned (.agg (y.map V).toArray) ∧ Below w.heap.size w w' := by
  rw [← hy.out]; exact sec_any xs m n w hx hK
theorem then_ret {K : Act → World → Prop} {Q : Exit → Act → World → Prop} {a : Act} {w : World} (h : Q .ret a w) : Exit.then K Q .ret a w := h
theorem block_ret {id : Nat} {Q : Exit → Act → World → Prop} {a : Act} {w : World} (h : Q .ret a w) : Exit.inBlock id Q .ret a w := h
theorem code_both {P : Program} {c : Code} {Q : Exit → Act → World → Prop} {a : Act} {w : World} (F : Act → World → Prop) (h0 : F a w) (h : ∀ f w, F f w → Code.wp P c Q f w) : Code.wp P c Q a w := h a w h0
theorem f_at {q : Fk} {a b : Act} {x y : Operand} {w : World} (h : a.eval x = b.eval y) (hq : q.f (b.eval y) w) : q.f (a.eval x) w := by rw [h]; exact hq
theorem wp_all {P : Program} {Q : Exit → Act → World → Prop} {ops : Array Oper} {id : Nat} {a0 : Act} {w : World} (qs : List Fk) (hm : P.follows .mixedOrders = true) (hn : decide (qs.length = ops.size) = true) (hE : edgesOk ops.toList qs.length = true)
    (hD : dstsOk a0.tmps.size (ops.toList.take qs.length) = true) (hG : guardsOk ops.toList qs.length qs ops.toList qs = true)
    (hS : Steps P Q ops.toList qs.length qs a0 w ops.toList qs)
    (hF : ∀ af w', Final ops.toList qs a0 af w' → Below w.heap.size w w' → Q .normal af w') :
    (Code.region id ops true).wp P Q a0 w := by
  have hn' : qs.length = ops.size := of_decide_eq_true hn
  refine wp_region_end qs hm (decide_eq_true (by omega)) hE hD hG hS ?_
  intro af w' fin hb
  rw [List.drop_of_length_le (by simp; omega)]
  exact hF af w' fin hb
theorem wp_all_seq {P : Program} {Q : Exit → Act → World → Prop} {ops : Array Oper} {id : Nat} {a0 : Act} {w : World} (qs : List Fk) (hn : decide (qs.length = ops.size) = true) (hE : backOk ops.toList = true)
    (hD : dstsOk a0.tmps.size (ops.toList.take qs.length) = true) (hG : guardsOk ops.toList qs.length qs ops.toList qs = true)
    (hS : Steps P Q ops.toList qs.length qs a0 w ops.toList qs)
    (hF : ∀ af w', Final ops.toList qs a0 af w' → Below w.heap.size w w' → Q .normal af w') :
    (Code.region id ops false).wp P Q a0 w := by
  have hn' : qs.length = ops.size := of_decide_eq_true hn
  refine wp_region_seq qs (decide_eq_true (by omega)) hE hD hG hS ?_
  intro af w' fin hb
  rw [List.drop_of_length_le (by simp; omega)]
  exact hF af w' fin hb
/-- A pointer to a hash variable that is new. -/
def Fk.pn (g0 : Nat) (xs : List (BitVec 8)) : Fk := .inr (.inl ⟨fun v w => ∃ g, g0 ≤ g ∧ v = .pointer (some ⟨g, 0, none⟩) ∧ HasV w g 23 xs, by
  rintro v w w' ⟨g, h, e, hv⟩ hb
  exact ⟨g, h, e, hv.below hb hv.lt⟩⟩)
section
variable {Q : Exit → Act → World → Prop} {o : Oper} {a : Act} {w : World} {q : Fk} {ops : Array Oper} {rest : List Oper}
theorem Tryd.alloc23 (ρ : Operand → Value) (d : Option Tmp) (ty : TypeId) (pos : String) (aft : Array Edge) (gd : Option (Nat × Bool)) (w : World) : (execOp ρ ⟨d, .alloc 23, ty, pos, aft, gd⟩).run Tryd.prog w = .ok (.value (.pointer (some ⟨w.heap.size, 0, none⟩))) (w.alloc (.cells (hz.map V).toArray 23)) := by kernel_rfl
theorem st_alloc23 (ho : o.op = .alloc 23) (g0 : Nat) (hg : g0 ≤ w.heap.size) : o.wp Tryd.prog a w (Ends a o.dst w (Fk.pn g0 hz).f) Q := by
  refine st_run (v := .pointer (some ⟨w.heap.size, 0, none⟩)) (w' := w.alloc (.cells (hz.map V).toArray 23)) ?_ ((Below.refl _ _).alloc (Nat.le_refl _) _) ⟨w.heap.size, hg, rfl, heap_alloc_new _ _⟩
  obtain ⟨d, op, ty, pos, aft, gd⟩ := o
  subst ho
  exact Tryd.alloc23 _ _ _ _ _ _ _
theorem wl_store (hgd : o.guard = none) (x y : Operand) (ho : o.op = .store 23 x y) (hd : o.dst = none) (g : Nat) (zs ys : List (BitVec 8)) (hx : a.eval x = .pointer (some ⟨g, 0, none⟩)) (hy : a.eval y = .agg (zs.map V).toArray) (hv : HasV w g 23 ys) (hl : ys.length = 32) (hz : zs.length = 32)
    (h : wpList Tryd.prog ops Q rest a (w.setRow g (zs.map V).toArray)) : wpList Tryd.prog ops Q (o :: rest) a w := by
  refine wpList_store_row hgd 23 x y ho g (zs.map V).toArray hx hy 23 _ hv (by rw [List.size_toArray, List.length_map, hz]; exact Tryd.size23) (by simp [hl, hz]) (V_all _) ?_
  rw [hd]
  exact h
theorem wl_assign {P : Program} (hgd : o.guard = none) (x : Operand) (ho : o.op = .assign x) (d : Nat) (hd : o.dst = some d) (hsz : d < a.tmps.size)
    (h : ∀ a2, a2.defers = a.defers → a2.tmps.size = a.tmps.size → (∀ t, (t == d) = false → a2.eval (.tmp t) = a.eval (.tmp t)) → a2.eval (.tmp d) = a.eval x → wpList P ops Q rest a2 w) : wpList P ops Q (o :: rest) a w := by
  unfold wpList
  rw [if_pos (by unfold Region.wanted; rw [hgd])]
  refine .inl ?_
  unfold Oper.wp execOp
  rw [ho]
  refine h _ (put_def _ _ _) (put_size _ _ _) (fun t ht => ?_) ?_
  · rw [hd]
    exact put_eval_other _ _ _ _ (fun e => by subst e; simp at ht)
  · rw [hd]
    exact put_eval_same _ _ _ hsz
end
end Go.Proofs.YtfhhlkbcoofemaaDoor
