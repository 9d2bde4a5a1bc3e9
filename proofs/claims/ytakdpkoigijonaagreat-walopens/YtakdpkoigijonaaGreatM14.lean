/- The landed wal: journaled. -/
import Derived.Test.YtakdpkoigijonaaGreatM13
namespace Go.Proofs.YtakdpkoigijonaaGreat
set_option maxRecDepth 100000
open Go.RowKit
theorem rep2_get (a b : Value) : ∀ (c i : Nat), i < 2 * c → (List.replicate c [a, b]).flatten[i]? = some (if i % 2 = 0 then a else b) := by
  intro c
  induction c with
  | zero => exact fun i h => absurd h (by omega)
  | succ c ih =>
    intro i h
    rw [List.replicate_succ, List.flatten_cons]
    obtain _ | _ | i := i
    · rfl
    · rfl
    · show ((List.replicate c [a, b]).flatten)[i]? = _
      rw [ih i (by omega), show (i + 1 + 1) % 2 = i % 2 by omega]
theorem rep2_len (a b : Value) (c : Nat) : ((List.replicate c [a, b]).flatten).length = 2 * c := by
  induction c with
  | zero => rfl
  | succ c ih => rw [List.replicate_succ, List.flatten_cons, List.length_append, ih]; show 2 + 2 * c = _; omega
/-- The cells of a row of changes: those that are there, and so many zero ones. -/
def cellsL (l : List Cng) (r : Nat) : List Value := l.flatMap Cng.cells ++ (List.replicate r [(.int .i64 0 : Value), .slice none 0 0]).flatten
theorem flatC_len (l : List Cng) : (l.flatMap Cng.cells).length = 2 * l.length := by
  induction l with
  | nil => rfl
  | cons c l ih => rw [List.flatMap_cons, List.length_append, ih, List.length_cons]; show 2 + 2 * l.length = _; omega
theorem cellsL_len (l : List Cng) (r : Nat) : (cellsL l r).length = 2 * (l.length + r) := by
  unfold cellsL
  rw [List.length_append, flatC_len, rep2_len]
  omega
theorem cellsL_set (l : List Cng) (r : Nat) (q : Cng) : ((cellsL l (r + 1)).set (l.length * 2) (.int .i64 q.p)).set (l.length * 2 + 1) q.vb = cellsL (l ++ [q]) r := by
  have h := flatC_len l
  unfold cellsL
  rw [List.set_append_right _ _ (by omega), h, show l.length * 2 - 2 * l.length = 0 by omega, List.set_append_right _ _ (by omega), h, show l.length * 2 + 1 - 2 * l.length = 1 by omega, List.replicate_succ, List.flatten_cons, List.flatMap_append, List.append_assoc]
  rfl
theorem cellsL_at {l : List Cng} {r : Nat} : ∀ {i : Nat} {q : Cng}, l[i]? = some q → ∀ (j : Nat) (u : Value), (Cng.cells q)[j]? = some u → (cellsL l r)[i * 2 + j]? = some u := by
  unfold cellsL
  induction l with
  | nil => exact fun h => by cases h
  | cons c l ih =>
    intro i q h j u hj
    have hj2 : j < 2 := (List.getElem?_eq_some_iff.1 hj).1
    rw [List.flatMap_cons, List.append_assoc]
    obtain _ | i := i
    · cases h
      rw [Nat.zero_mul, Nat.zero_add, List.getElem?_append_left (by exact hj2)]
      exact hj
    · rw [List.getElem?_append_right (by show 2 ≤ _; omega), show (i + 1) * 2 + j - (Cng.cells c).length = i * 2 + j by show _ - 2 = _; omega]
      exact ih h j u hj
theorem madeC_eq (c : Nat) : madeCells (Value.agg #[.int .i64 0, .slice none 0 0]).cells (c * 2) = (cellsL [] c).toArray := by
  apply Array.ext_getElem?
  intro i
  unfold cellsL
  rw [List.flatMap_nil, List.nil_append]
  by_cases hi : i < 2 * c
  · rw [show ((List.replicate c [(.int .i64 0 : Value), .slice none 0 0]).flatten.toArray)[i]? = ((List.replicate c [(.int .i64 0 : Value), .slice none 0 0]).flatten)[i]? from List.getElem?_toArray, rep2_get _ _ c i hi]
    have hs : i < (madeCells (Value.agg #[.int .i64 0, .slice none 0 0]).cells (c * 2)).size := by rw [size_madeCells]; show i < c * 2; omega
    rw [Array.getElem?_eq_getElem hs]
    simp only [madeCells, Array.getElem_map, Array.getElem_range]
    show some ((#[Value.int .i64 0, Value.slice none 0 0] : Array Value)[i % 2]!) = _
    have : i % 2 = 0 ∨ i % 2 = 1 := by omega
    rcases this with h | h <;> rw [h] <;> rfl
  · rw [Array.getElem?_eq_none (by rw [size_madeCells]; show c * 2 ≤ i; omega), show ((List.replicate c [(.int .i64 0 : Value), .slice none 0 0]).flatten.toArray)[i]? = ((List.replicate c [(.int .i64 0 : Value), .slice none 0 0]).flatten)[i]? from List.getElem?_toArray, List.getElem?_eq_none (by rw [rep2_len]; omega)]
/-- What was read: it lies apart from the disk's own blocks, and from block g. -/
def SLs (M : Nat → Prop) (g : Nat) (l : List Cng) (w : World) : Prop := ∀ c ∈ l, ∃ b o, Sl w c.ab c.nb c.cb c.bs b o ∧ (0 < c.nb → ¬ M b ∧ b ≠ g)
theorem Sl.keep {w w' : World} {sp : Option Addr} {m c : Nat} {bs : List (BitVec 8)} {b o : Nat} (h : Sl w sp m c bs b o) (hs : w.heap.size ≤ w'.heap.size) (hb : 0 < m → w'.heap[b]? = w.heap[b]?) : Sl w' sp m c bs b o := ⟨h.len, h.cap, h.nil, fun hm => by
  obtain ⟨e, hl, hB⟩ := h.src hm
  refine ⟨e, Nat.lt_of_lt_of_le hl hs, fun i hi => ?_⟩
  have h9 := hB i hi
  simp only [World.cell?, hb hm] at h9 ⊢
  exact h9⟩
theorem SLs.fr {M : Nat → Prop} {g : Nat} {l : List Cng} {w w' : World} (h : SLs M g l w) (hf : Fr (fun j => M j ∨ j = g) w w') : SLs M g l w' := fun c hc => by
  obtain ⟨b, o, h1, h2⟩ := h c hc
  exact ⟨b, o, h1.keep hf.size (fun hm => hf.block b (h1.src hm).2.1 (fun q => q.elim (h2 hm).1 (h2 hm).2)), h2⟩
theorem SLs.below {M : Nat → Prop} {g : Nat} {l : List Cng} {w w' : World} (h : SLs M g l w) (hb : Below w.heap.size w w') : SLs M g l w' := h.fr (Fr.of_below hb)
theorem SLs.sr {M : Nat → Prop} {g : Nat} {l : List Cng} {w : World} (h : SLs M g l w) (mg : Ob w g 55 (cellsL l 0)) (hp : ∀ c ∈ l, 0 ≤ c.p ∧ c.p ≤ 100000) : (Fk.sr RC l).f (.slice (some ⟨g, 0, none⟩) l.length l.length) w := by
  refine ⟨_, _, g, 0, rfl, Nat.le_refl _, fun _ => rfl, fun i q hi => ⟨?_, fun j u hj => ?_⟩⟩
  · obtain ⟨b, o, h1, _⟩ := h q (List.mem_of_getElem? hi)
    have := hp q (List.mem_of_getElem? hi)
    exact ⟨⟨_, _, _, b, o, rfl, h1⟩, by omega, by omega⟩
  · rw [Nat.zero_add]
    exact Ob.cell mg _ (cellsL_at hi j u hj)
theorem is_fr12 {l : List Int} {v : Value} {w w' : World} {S : Nat → Prop} (h : (Fk.is l).f v w) (hv : 0 < l.length → ∀ a n C, v = .slice (some a) n C → ¬ S a.block) (O : Fr S w w') : (Fk.is l).f v w' := by
  obtain ⟨A, C, lb, lo, e, h1, h2, h3⟩ := h
  refine ⟨A, C, lb, lo, e, h1, h2, fun j u hj => ?_⟩
  have h4 := h3 j u hj
  have h5 : 0 < l.length := by
    rcases Nat.eq_zero_or_pos l.length with h0 | h0
    · rw [zv, List.getElem?_map, List.getElem?_eq_none (by omega)] at hj
      cases hj
    · exact h0
  have h6 := hv h5 ⟨lb, lo, none⟩ l.length C (by rw [e, h1 h5])
  have h7 := O.block lb (block_lt_of_cell h4) h6
  simp only [World.cell?, h7] at h4 ⊢
  exact h4
theorem is_lt12 {l : List Int} {v : Value} {w : World} (h : (Fk.is l).f v w) : 0 < l.length → ∀ a n C, v = .slice (some a) n C → a.block < w.heap.size := fun h5 a n C e2 => by
  obtain ⟨A, C', lb, lo, e, h1, h2, h3⟩ := h
  rw [e, h1 h5] at e2
  cases e2
  have h4 := h3 0 (.int .i64 (l[0])) (by rw [zv, List.getElem?_map, List.getElem?_eq_getElem h5]; rfl)
  exact block_lt_of_cell h4
theorem jr_get (f : Nat → Byt) (l : List Nat) : ∀ (p i a : Nat), l[i]? = some a → (jr f p l)[i]? = some (a, f (p + i)) := by
  induction l with
  | nil => exact fun p i a h => by cases h
  | cons a' l ih =>
    intro p i a h
    obtain _ | i := i
    · cases h; rfl
    · show (jr f (p + 1) l)[i]? = _
      rw [ih (p + 1) i a h, show p + 1 + i = p + (i + 1) by omega]
theorem jr_len (f : Nat → Byt) (l : List Nat) (p : Nat) : (jr f p l).length = l.length := by
  have := congrArg List.length (jr_fst f l p)
  rw [List.length_map] at this
  exact this
section
variable {Q : Exit → Act → World → Prop} {o : Oper} {a : Act} {w : World} {ops : Array Oper} {rest : List Oper}
theorem st_idxC (x y : Operand) (ho : o.op = .indexAddr 74 x y) {g n C : Nat} (hx : a.eval x = .slice (some ⟨g, 0, none⟩) n C) (i : Nat) (hy : a.eval y = .int .i64 (i : Int)) (hi : i < n) : o.wp Tryz.prog a w (Ends a o.dst w (Fk.eq (.pointer (some ⟨g, i * 2, none⟩))).f) Q := by
  refine st_pure (v := .pointer (some ⟨g, i * 2, none⟩)) ?_ rfl
  have h1 := run_indexAt_slice (P := Tryz.prog) (w := w) 74 ⟨g, 0, none⟩ n C .i64 (i : Int) (by rw [show Tryz.prog.elem 74 = 55 by kernel_rfl]; kernel_rfl)
  rw [if_pos (by omega), show Tryz.prog.elem 74 = 55 by kernel_rfl, show (sizeOf 55).run Tryz.prog w = .ok 2 w by kernel_rfl] at h1
  simp only [Result.andThen_ok, Int.toNat_natCast, Addr.add_mid, Nat.zero_add] at h1
  unfold execOp
  rw [ho]
  simp [hx, hy, h1]
theorem wl_makeC (hgd : o.guard = none) (x y : Operand) (ho : o.op = .makeSlice 74 x y) (d : Nat) (hd : o.dst = some d) (hsz : d < a.tmps.size) (n : Nat) (hn : n ≤ 100000) (hx : a.eval x = .int .i64 (n : Int)) (hy : a.eval y = .int .i64 (n : Int))
    (h : ∀ a2 w2 g, a2.defers = a.defers → a2.tmps.size = a.tmps.size → (∀ t, (t == d) = false → a2.eval (.tmp t) = a.eval (.tmp t)) → a2.eval (.tmp d) = .slice (some ⟨g, 0, none⟩) n n → w.heap.size ≤ g → Ob w2 g 55 (cellsL [] n) → Below w.heap.size w w2 → wpList Tryz.prog ops Q rest a2 w2) : wpList Tryz.prog ops Q (o :: rest) a w := by
  have hr : (Instr.makeSlice 74 (.int .i64 (n : Int)) (.int .i64 (n : Int))).run Tryz.prog w = .ok (.slice (some ⟨w.heap.size, 0, none⟩) n n) (w.alloc (.cells (cellsL [] n).toArray 55)) := by
    obtain ⟨i0, hi, hz0, hz1, hz2⟩ := info_parts (show (Tryz.prog.info? 55).map (fun i => (i.zero, i.size, i.bytes)) = some (some (.agg #[.int .i64 0, .slice none 0 0]), 2, 32) by kernel_rfl)
    have := run_make (P := Tryz.prog) w 74 55 i0 (.agg #[.int .i64 0, .slice none 0 0]) underCL12 hi hz0 .i64 .i64 (n : Int) (n : Int) (by omega) (by omega) (by rw [hz2]; omega) (by omega)
    rw [hz1, Int.toNat_natCast, madeC_eq] at this
    exact this
  unfold wpList
  rw [if_pos (by unfold Region.wanted; rw [hgd])]
  refine .inl ?_
  unfold Oper.wp execOp
  simp only [ho, Sem.run_bind, Sem.run_pure, Result.andThen_ok, hx, hy, hr]
  refine h _ _ w.heap.size (put_def _ _ _) (put_size _ _ _) (fun t ht => ?_) ?_ (Nat.le_refl _) (heap_alloc_new _ _) ((Below.refl _ _).alloc (Nat.le_refl _) _)
  · rw [hd]
    exact put_eval_other _ _ _ _ (fun e => by subst e; simp at ht)
  · rw [hd, put_eval_same _ _ _ hsz]
/-- A change is written into a row of them. -/
theorem wl_storeC (hgd : o.guard = none) (x y : Operand) (ho : o.op = .store 55 x y) (hd : o.dst = none) {g : Nat} {l : List Cng} {r : Nat} (q : Cng) (hx : a.eval x = .pointer (some ⟨g, l.length * 2, none⟩)) (hy : a.eval y = .agg (Cng.cells q).toArray) (mg : Ob w g 55 (cellsL l (r + 1)))
    (h : ∀ w2, Ob w2 g 55 (cellsL (l ++ [q]) r) → Only g w w2 → wpList Tryz.prog ops Q rest a w2) : wpList Tryz.prog ops Q (o :: rest) a w := by
  refine wpList_store_mid hgd 55 x y ho g (l.length * 2) (Cng.cells q).toArray hx hy (fun j hj => ?_) (by kernel_rfl) (by simp [Cng.cells, Cng.vb, Value.oneCell']) ?_
  · have hj2 : j < 2 := hj
    have := Ob.there mg (l.length * 2 + j) (by rw [cellsL_len]; omega) 0 (by omega)
    exact this
  · rw [hd]
    refine h _ ?_ ?_
    · have h1 := Ob.set (Ob.set mg (l.length * 2) (.int .i64 q.p)) (l.length * 2 + 1) q.vb
      rw [cellsL_set] at h1
      exact h1
    · exact ((Only.refl g w).setCell (l.length * 2) (.int .i64 q.p)).setCell (l.length * 2 + 1) q.vb
end
section
variable {Q : Exit → Act → World → Prop} {o : Oper} {a : Act} {w : World}
theorem st_lenis12 (x : Operand) (ho : o.op = .call { callee := .builtin .len, args := #[x], argTypes := #[31] }) {ds : List Int} {n : Nat} (h : (Fk.is ds).f (a.eval x) w) (hn : ds.length = n) : o.wp Tryz.prog a w (Ends a o.dst w (Fk.eq (.int .i64 (n : Int))).f) Q := by
  subst hn
  exact st_lenis x ho h
end
theorem fk_xjournaled {w : World} {gw gd n z k9 : Nat} {M D : Nat → Prop} {dn : Bool} {s : Dst} (mw : Ob w gw 62 [.pointer (some ⟨gd, 0, none⟩), .bool dn]) (hd : HD w gd M D s) (gs : Gd s n z k9) (hgM : ¬ M gw) (h3 : 3 ≤ n) (h32 : 32 ≤ z) (gw9 : Gw s n z) :
    Calls Tryz.prog 45 #[.pointer (some ⟨gw, 0, none⟩)] w fun e w' => ∃ D' u r, e = .returned (.tuple #[u, .int .i64 r]) ∧ HD w' gd M D' s ∧ (∀ j, D' j → D j ∨ w.heap.size ≤ j) ∧ Fr M w w' ∧ ((s.down = true ∧ r = 30) ∨ (s.down = false ∧ prsP n (nowd s 0) = none ∧ r = 32) ∨ (s.down = false ∧ ∃ at9 l, prsP n (nowd s 0) = some at9 ∧ r = 0 ∧ l.length = at9.length ∧ prc l = jr (nowO s) (1 + homN n) at9 ∧ (∀ c ∈ l, 0 ≤ c.p ∧ c.p ≤ 100000) ∧ ∀ W, Fr M w' W → (Fk.sr RC l).f u W)) := by
  obtain ⟨⟨hn1, hn2⟩, hz1, hz2⟩ := HD.nz hd gs
  have hMlt : ∀ j, M j → j < w.heap.size := fun j q => hd.lt j (hd.sub j q)
  obtain ⟨DD, hD9⟩ : ∃ E, E = D := ⟨_, rfl⟩
  rw [← hD9] at hd
  have hDD : ∀ j, DD j → D j ∨ w.heap.size ≤ j := fun j q => .inl (hD9 ▸ q)
  clear hD9
  go_enter Tryz.func45, Tryz.ntmps45
  refine code_both (fun f w1 => f.tmps.size = 67 ∧ f.defers = [] ∧ f.eval (.tmp 0) = .pointer (some ⟨gw, 0, none⟩) ∧ HD w1 gd M DD s ∧ Fr (M) w (w1)) ⟨rfl, rfl, rfl, hd, Fr.refl _ _⟩ ?_
  clear hd
  rintro f0 w0 ⟨sz, df, x0, hd, bl⟩
  have sd := And.intro sz df
  clear sz df
  have bl0 := bl
  refine wp_seq ?_
  refine wr_a [.eq (.slice none 0 0), .eq (.int .i64 0)] (by rw [sd.1]; kernel_rfl) ⟨fun hw ac u K => ?_, fun hw ac u K => ?_, trivial⟩ ?_
  · exact st_assign (.const (.slice none 0 0)) rfl rfl
  · exact st_assign (.const (.int .i64 0)) rfl rfl
  intro f1 w1 A hb
  replace x0 := A.t x0 rfl
  replace hd := HD.below hd hb
  replace bl := (Fr.grow bl hb)
  replace sd := A.sd sd
  clear A hb
  show Code.wp _ _ _ _ _
  refine wp_seq ?_
  obtain ⟨r9, b9, hrd, hrr⟩ : ∃ r9 b9, rd s 0 = (r9, b9) ∧ ((s.down = true ∧ r9 = 30) ∨ (s.down = false ∧ r9 = 0 ∧ b9 = nowd s 0)) := by
    by_cases hdn : s.down = true
    · exact ⟨30, [], by unfold rd; rw [if_pos hdn], .inl ⟨hdn, rfl⟩⟩
    · refine ⟨0, nowd s 0, ?_, .inr ⟨by simpa using hdn, rfl, rfl⟩⟩
      unfold rd
      rw [if_neg hdn, if_neg (by rw [gs.has]; omega)]
      rfl
  refine wr_s [.eq (.pointer (some ⟨gw, 0, none⟩)), .eq (.pointer (some ⟨gw, 0, none⟩)), .eq (.pointer (some ⟨gw, 0, none⟩)), .eq (.pointer (some ⟨gd, 0, none⟩))] (by rw [sd.1]; kernel_rfl) ⟨fun hw ac u K => ?_, fun hw ac u K => ?_, fun hw ac u K => ?_, fun hw ac u K => ?_, trivial⟩ ?_
  · exact st_move (.tmp 0) rfl (K.t x0 rfl)
  · exact st_nil (.tmp 14) rfl (K.dep 0 14 rfl)
  · exact st_field 62 0 (.tmp 15) rfl (K.dep 1 15 rfl) (by kernel_rfl)
  · exact st_loadc 24 (.tmp 16) rfl (by kernel_rfl) (K.dep 2 16 rfl) (Ob.cell (Ob.keep mw ((Fr.grow bl K.grow).block _ (Ob.lt mw) hgM)) 0 rfl)
  intro f2 w2 A hb
  replace x0 := A.t x0 rfl
  have x17 := A.e 3 17 rfl rfl
  replace hd := HD.below hd hb
  replace bl := (Fr.grow bl hb)
  replace sd := A.sd sd
  clear A hb
  refine wl_call 11 (.func 11) _ _ #[.pointer (some ⟨gd, 0, none⟩), .int .i64 0] rfl 18 rfl (by rw [sd.1]; decide) rfl rfl (two_arg x17 rfl) Tryz.enter11 (fun u W' => ∃ (D2 : Nat → Prop) (A : Option Addr) (C : Nat), u = .tuple #[.slice A (rd s 0).2.length C, .int .i64 (rd s 0).1] ∧ (Fk.sl (rd s 0).2).f (.slice A (rd s 0).2.length C) W' ∧ HD W' gd M D2 s ∧ (∀ j, D2 j → DD j ∨ w2.heap.size ≤ j) ∧ Fr M w2 W') ((fk_dread hd 0).mono (by
    rintro e w' ⟨D', A, C, rfl, q1, _, q3, q4, q5⟩
    exact ⟨_, rfl, D', A, C, rfl, q1, q3, q4, q5⟩)) ?_
  rintro f3 w3 df2 sz2 old2 ⟨D2, A1, C1, x18, hv1, hd2, hD2, O⟩
  replace hd := hd2
  clear hd2
  replace x0 := tr old2 x0 rfl
  replace x17 := tr old2 x17 rfl
  replace hDD : ∀ j, D2 j → D j ∨ w.heap.size ≤ j := fun j q => (hD2 j q).elim (hDD j) (fun q => .inr (Nat.le_trans bl.size q))
  replace bl := bl.trans O
  replace bl0 := bl
  clear hD2 O
  obtain ⟨DD, rfl⟩ : ∃ E, E = D2 := ⟨_, rfl⟩
  replace sd := sd2 sz2 df2 sd
  clear df2 sz2 old2
  rw [hrd] at hv1 x18
  clear x17
  refine wl_one (.eq (.tuple #[.slice A1 b9.length C1, .int .i64 r9])) rfl 13 rfl (by rw [sd.1]; decide) (st_move (.tmp 18) rfl x18) ?_
  intro f4 w4 df2 sz2 old2 new2 hb
  replace x0 := tr old2 x0 rfl
  replace x18 := tr old2 x18 rfl
  have x13 := Fk.e new2
  replace hv1 := Fk.mono _ _ _ _ hv1 hb
  replace hd := HD.below hd hb
  replace bl := (Fr.grow bl hb)
  replace sd := sd2 sz2 df2 sd
  clear df2 sz2 old2 new2 hb
  clear x18
  refine wl_one (.eq (.slice A1 b9.length C1)) rfl 19 rfl (by rw [sd.1]; decide) (st_extv (.tmp 13) 0 rfl x13 rfl) ?_
  intro f5 w5 df2 sz2 old2 new2 hb
  replace x0 := tr old2 x0 rfl
  replace x13 := tr old2 x13 rfl
  have x19 := Fk.e new2
  replace hv1 := Fk.mono _ _ _ _ hv1 hb
  replace hd := HD.below hd hb
  replace bl := (Fr.grow bl hb)
  replace sd := sd2 sz2 df2 sd
  clear df2 sz2 old2 new2 hb
  refine wl_one (.eq (.int .i64 r9)) rfl 20 rfl (by rw [sd.1]; decide) (st_extv (.tmp 13) 1 rfl x13 rfl) ?_
  intro f6 w6 df2 sz2 old2 new2 hb
  replace x0 := tr old2 x0 rfl
  replace x13 := tr old2 x13 rfl
  replace x19 := tr old2 x19 rfl
  have x20 := Fk.e new2
  replace hv1 := Fk.mono _ _ _ _ hv1 hb
  replace hd := HD.below hd hb
  replace bl := (Fr.grow bl hb)
  replace sd := sd2 sz2 df2 sd
  clear df2 sz2 old2 new2 hb
  clear x13
  refine wl_one (.eq (.slice A1 b9.length C1)) rfl 4 rfl (by rw [sd.1]; decide) (st_assign (.tmp 19) rfl x19) ?_
  intro f7 w7 df2 sz2 old2 new2 hb
  replace x0 := tr old2 x0 rfl
  replace x19 := tr old2 x19 rfl
  replace x20 := tr old2 x20 rfl
  have x4 := Fk.e new2
  replace hv1 := Fk.mono _ _ _ _ hv1 hb
  replace hd := HD.below hd hb
  replace bl := (Fr.grow bl hb)
  replace sd := sd2 sz2 df2 sd
  clear df2 sz2 old2 new2 hb
  clear x19
  refine wl_one (.eq (.int .i64 r9)) rfl 5 rfl (by rw [sd.1]; decide) (st_assign (.tmp 20) rfl x20) ?_
  intro f8 w8 df2 sz2 old2 new2 hb
  replace x0 := tr old2 x0 rfl
  replace x20 := tr old2 x20 rfl
  replace x4 := tr old2 x4 rfl
  have x5 := Fk.e new2
  replace hv1 := Fk.mono _ _ _ _ hv1 hb
  replace hd := HD.below hd hb
  replace bl := (Fr.grow bl hb)
  replace sd := sd2 sz2 df2 sd
  clear df2 sz2 old2 new2 hb
  refine wpList_nil ?_
  clear x20
  show Code.wp _ _ _ _ _
  refine wp_seq ?_
  refine wp_seq ?_
  have hor : (s.down = true ∧ r9 = 30) ∨ (s.down = false ∧ r9 = 0 ∧ b9 = nowd s 0 ∧ prsP n b9 = none) ∨ (s.down = false ∧ r9 = 0 ∧ b9 = nowd s 0 ∧ ∃ at9, prsP n b9 = some at9) := by
    rcases hrr with q | ⟨q1, q2, q3⟩
    · exact .inl q
    · cases h : prsP n b9 with
      | none => exact .inr (.inl ⟨q1, q2, q3, rfl⟩)
      | some l => exact .inr (.inr ⟨q1, q2, q3, l, rfl⟩)
  rcases hor with ⟨hdn, hr9⟩ | ⟨hdn, hr9, hb9, hpr⟩ | ⟨hdn, hr9, hb9, at9, hpr⟩
  · skip
    refine wr_a [.eq (.int .i64 r9), .eq (.bool true)] (by rw [sd.1]; kernel_rfl) ⟨fun hw ac u K => ?_, fun hw ac u K => ?_, trivial⟩ ?_
    · exact st_move (.tmp 5) rfl (K.t x5 rfl)
    · exact st_neqi 27 (.tmp 21) (.const (.int .i64 0)) rfl .i64 (r9) (0) (K.dep 0 21 rfl) rfl _ (by rw [hr9]; decide)
    intro f9 w9 A hb
    replace x0 := A.t x0 rfl
    replace x4 := A.t x4 rfl
    replace x5 := A.t x5 rfl
    have x22 := A.e 1 22 rfl rfl
    replace hv1 := Fk.mono _ _ _ _ hv1 hb
    replace hd := HD.below hd hb
    replace bl := (Fr.grow bl hb)
    replace sd := A.sd sd
    clear A hb
    show Code.wp _ _ _ _ _
    refine wp_cond_true x22 ?_
    refine wp_seq ?_
    refine wr_a [.eq (.int .i64 r9), .eq (.slice none 0 0), .eq (.int .i64 r9)] (by rw [sd.1]; kernel_rfl) ⟨fun hw ac u K => ?_, fun hw ac u K => ?_, fun hw ac u K => ?_, trivial⟩ ?_
    · exact st_move (.tmp 5) rfl (K.t x5 rfl)
    · exact st_assign (.const (.slice none 0 0)) rfl rfl
    · exact st_assign (.tmp 23) rfl (K.dep 0 23 rfl)
    intro f10 w10 A hb
    replace x0 := A.t x0 rfl
    replace x4 := A.t x4 rfl
    replace x5 := A.t x5 rfl
    replace x22 := A.t x22 rfl
    have x2 := A.e 1 2 rfl rfl
    have x3 := A.e 2 3 rfl rfl
    replace hv1 := Fk.mono _ _ _ _ hv1 hb
    replace hd := HD.below hd hb
    replace bl := (Fr.grow bl hb)
    replace sd := A.sd sd
    clear A hb
    clear x0
    clear x4
    clear x5
    clear x22
    show Code.wp _ _ _ _ _
    refine wp_ret ?_
    repeat (first | with_reducible refine then_ret ?_ | with_reducible refine block_ret ?_)
    exact bodyPost_ret (v := .tuple #[.slice none 0 0, .int .i64 r9]) (ret_two rfl f10 _ _ x2 x3 _ _) sd.2 ⟨DD, _, _, rfl, hd, hDD, bl, .inl ⟨hdn, hr9⟩⟩
  · skip
    have hbz : b9.length = z := by rw [hb9]; exact gw9.now (by omega)
    refine wr_a [.eq (.int .i64 r9), .eq (.bool false)] (by rw [sd.1]; kernel_rfl) ⟨fun hw ac u K => ?_, fun hw ac u K => ?_, trivial⟩ ?_
    · exact st_move (.tmp 5) rfl (K.t x5 rfl)
    · exact st_neqi 27 (.tmp 21) (.const (.int .i64 0)) rfl .i64 (r9) (0) (K.dep 0 21 rfl) rfl _ (by rw [hr9]; simp)
    intro f9 w9 A hb
    replace x0 := A.t x0 rfl
    replace x4 := A.t x4 rfl
    replace x5 := A.t x5 rfl
    have x22 := A.e 1 22 rfl rfl
    replace hv1 := Fk.mono _ _ _ _ hv1 hb
    replace hd := HD.below hd hb
    replace bl := (Fr.grow bl hb)
    replace sd := A.sd sd
    clear A hb
    show Code.wp _ _ _ _ _
    refine wp_cond_false x22 ?_
    refine wp_skip ?_
    show Code.wp _ _ _ _ _
    refine wp_seq ?_
    refine wr_s [.eq (.slice A1 b9.length C1), .eq (.pointer (some ⟨gw, 0, none⟩)), .eq (.int .i64 ((homN n : Nat) : Int)), .eq (.pointer (some ⟨gw, 0, none⟩)), .eq (.int .i64 ((roomN n z : Nat) : Int))] (by rw [sd.1]; kernel_rfl) ⟨fun hw ac u K => ?_, fun hw ac u K => ?_, fun hw ac u K => ?_, fun hw ac u K => ?_, fun hw ac u K => ?_, trivial⟩ ?_
    · exact st_move (.tmp 4) rfl (K.t x4 rfl)
    · exact st_move (.tmp 0) rfl (K.t x0 rfl)
    · exact st_call 17 (.func 17) _ _ _ rfl rfl (one_arg (K.dep 1 26 rfl)) Tryz.enter17 (fk_xhome (Ob.keep mw ((Fr.grow bl K.grow).block _ (Ob.lt mw) hgM)) (HD.below hd K.grow) gs)
    · exact st_move (.tmp 0) rfl (K.t x0 rfl)
    · exact st_call 18 (.func 18) _ _ _ rfl rfl (one_arg (K.dep 3 28 rfl)) Tryz.enter18 (fk_xroom (Ob.keep mw ((Fr.grow bl K.grow).block _ (Ob.lt mw) hgM)) (HD.below hd K.grow) gs (by omega))
    intro f10 w10 A hb
    replace x0 := A.t x0 rfl
    replace x4 := A.t x4 rfl
    replace x5 := A.t x5 rfl
    replace x22 := A.t x22 rfl
    have x25 := A.e 0 25 rfl rfl
    have x27 := A.e 2 27 rfl rfl
    have x29 := A.e 4 29 rfl rfl
    replace hv1 := Fk.mono _ _ _ _ hv1 hb
    replace hd := HD.below hd hb
    replace bl := (Fr.grow bl hb)
    replace sd := A.sd sd
    clear A hb
    clear x4
    clear x5
    clear x22
    refine wl_call 61 (.func 61) _ _ #[.slice A1 b9.length C1, .int .i64 ((homN n : Nat) : Int), .int .i64 ((roomN n z : Nat) : Int)] rfl 30 rfl (by rw [sd.1]; decide) rfl rfl (three_arg x25 x27 x29) Tryz.enter61 (fun u W' => ((Fk.t2 (.any) (.bool false)).f u W') ∧ Below w10.heap.size w10 W') ((fk_xreadHead hbz h3 (by omega) h32 (by omega) rfl rfl hv1).mono (by
      rintro e w' ⟨u, r, rfl, q1, q2⟩
      refine ⟨_, rfl, ?_, q2⟩
      rcases q1 with ⟨q1, rfl⟩ | ⟨l, q1, rfl, q3, q4⟩
      · exact ⟨u, rfl, trivial⟩
      · rw [hpr] at q1; cases q1)) ?_
    rintro f11 w11 df2 sz2 old2 ⟨x30, hb⟩
    replace bl0 := bl
    replace x0 := tr old2 x0 rfl
    replace x25 := tr old2 x25 rfl
    replace x27 := tr old2 x27 rfl
    replace x29 := tr old2 x29 rfl
    replace hv1 := Fk.mono _ _ _ _ hv1 hb
    replace hd := HD.below hd hb
    replace bl := (Fr.grow bl hb)
    replace sd := sd2 sz2 df2 sd
    replace bl0 := bl
    clear df2 sz2 old2 hb
    clear x25
    clear x27
    clear x29
    refine wl_one (.t2 (.any) (.bool false)) rfl 24 rfl (by rw [sd.1]; decide) (st_move (.tmp 30) rfl x30) ?_
    intro f12 w12 df2 sz2 old2 new2 hb
    replace x0 := tr old2 x0 rfl
    replace x30 := f_at (old2 30 rfl) (Fk.mono _ _ _ _ x30 hb)
    have x24 : Fk.f (.t2 (.any) (.bool false)) (f12.eval (.tmp 24)) w12 := new2
    replace hv1 := Fk.mono _ _ _ _ hv1 hb
    replace hd := HD.below hd hb
    replace bl := (Fr.grow bl hb)
    replace sd := sd2 sz2 df2 sd
    clear df2 sz2 old2 new2 hb
    clear x30
    refine wl_one (.any) rfl 31 rfl (by rw [sd.1]; decide) (st_t2a (.tmp 24) rfl x24) ?_
    intro f13 w13 df2 sz2 old2 new2 hb
    replace x0 := tr old2 x0 rfl
    replace x24 := f_at (old2 24 rfl) (Fk.mono _ _ _ _ x24 hb)
    have x31 : Fk.f (.any) (f13.eval (.tmp 31)) w13 := new2
    replace hv1 := Fk.mono _ _ _ _ hv1 hb
    replace hd := HD.below hd hb
    replace bl := (Fr.grow bl hb)
    replace sd := sd2 sz2 df2 sd
    clear df2 sz2 old2 new2 hb
    refine wl_one (.eq (.bool false)) rfl 32 rfl (by rw [sd.1]; decide) (st_t2b (.tmp 24) rfl x24) ?_
    intro f14 w14 df2 sz2 old2 new2 hb
    replace x0 := tr old2 x0 rfl
    replace x24 := f_at (old2 24 rfl) (Fk.mono _ _ _ _ x24 hb)
    replace x31 := f_at (old2 31 rfl) (Fk.mono _ _ _ _ x31 hb)
    have x32 := Fk.e new2
    replace hv1 := Fk.mono _ _ _ _ hv1 hb
    replace hd := HD.below hd hb
    replace bl := (Fr.grow bl hb)
    replace sd := sd2 sz2 df2 sd
    clear df2 sz2 old2 new2 hb
    clear x24
    refine wl_one (.any) rfl 6 rfl (by rw [sd.1]; decide) (st_assign (.tmp 31) rfl x31) ?_
    intro f15 w15 df2 sz2 old2 new2 hb
    replace x0 := tr old2 x0 rfl
    replace x31 := f_at (old2 31 rfl) (Fk.mono _ _ _ _ x31 hb)
    replace x32 := tr old2 x32 rfl
    have x6 : Fk.f (.any) (f15.eval (.tmp 6)) w15 := new2
    replace hv1 := Fk.mono _ _ _ _ hv1 hb
    replace hd := HD.below hd hb
    replace bl := (Fr.grow bl hb)
    replace sd := sd2 sz2 df2 sd
    clear df2 sz2 old2 new2 hb
    clear x31
    refine wl_one (.eq (.bool false)) rfl 7 rfl (by rw [sd.1]; decide) (st_assign (.tmp 32) rfl x32) ?_
    intro f16 w16 df2 sz2 old2 new2 hb
    replace x0 := tr old2 x0 rfl
    replace x32 := tr old2 x32 rfl
    replace x6 := f_at (old2 6 rfl) (Fk.mono _ _ _ _ x6 hb)
    have x7 := Fk.e new2
    replace hv1 := Fk.mono _ _ _ _ hv1 hb
    replace hd := HD.below hd hb
    replace bl := (Fr.grow bl hb)
    replace sd := sd2 sz2 df2 sd
    clear df2 sz2 old2 new2 hb
    refine wpList_nil ?_
    clear x32
    show Code.wp _ _ _ _ _
    refine wp_seq ?_
    refine wp_seq ?_
    refine wr_a [.eq (.bool false), .eq (.bool true)] (by rw [sd.1]; kernel_rfl) ⟨fun hw ac u K => ?_, fun hw ac u K => ?_, trivial⟩ ?_
    · exact st_move (.tmp 7) rfl (K.t x7 rfl)
    · exact st_not (.tmp 33) rfl false (K.dep 0 33 rfl)
    intro f17 w17 A hb
    replace x0 := A.t x0 rfl
    replace x6 := f_at (A.old 6 rfl) (Fk.mono _ _ _ _ x6 hb)
    replace x7 := A.t x7 rfl
    have x34 := A.e 1 34 rfl rfl
    replace hv1 := Fk.mono _ _ _ _ hv1 hb
    replace hd := HD.below hd hb
    replace bl := (Fr.grow bl hb)
    replace sd := A.sd sd
    clear A hb
    clear x7
    show Code.wp _ _ _ _ _
    refine wp_cond_true x34 ?_
    refine wp_seq ?_
    refine wr_a [.eq (.slice none 0 0), .eq (.int .i64 32)] (by rw [sd.1]; kernel_rfl) ⟨fun hw ac u K => ?_, fun hw ac u K => ?_, trivial⟩ ?_
    · exact st_assign (.const (.slice none 0 0)) rfl rfl
    · exact st_assign (.const (.int .i64 32)) rfl rfl
    intro f18 w18 A hb
    replace x0 := A.t x0 rfl
    replace x6 := f_at (A.old 6 rfl) (Fk.mono _ _ _ _ x6 hb)
    replace x34 := A.t x34 rfl
    have x2 := A.e 0 2 rfl rfl
    have x3 := A.e 1 3 rfl rfl
    replace hv1 := Fk.mono _ _ _ _ hv1 hb
    replace hd := HD.below hd hb
    replace bl := (Fr.grow bl hb)
    replace sd := A.sd sd
    clear A hb
    clear x0
    clear x6
    clear x34
    show Code.wp _ _ _ _ _
    refine wp_ret ?_
    repeat (first | with_reducible refine then_ret ?_ | with_reducible refine block_ret ?_)
    exact bodyPost_ret (v := .tuple #[.slice none 0 0, .int .i64 32]) (ret_two rfl f18 _ _ x2 x3 _ _) sd.2 ⟨DD, _, _, rfl, hd, hDD, bl, .inr (.inl ⟨hdn, by rw [← hb9]; exact hpr, rfl⟩)⟩
  have hbz : b9.length = z := by rw [hb9]; exact gw9.now (by omega)
  have hokl := (hd_ok h3 h32 (by omega)).okl b9 at9 hbz hpr
  have hroom := (hd_ok h3 h32 (show n ≤ 100000 by omega)).room
  have hatl : (at9.map fun k : Nat => (k : Int)).length = at9.length := List.length_map _
  refine wr_a [.eq (.int .i64 r9), .eq (.bool false)] (by rw [sd.1]; kernel_rfl) ⟨fun hw ac u K => ?_, fun hw ac u K => ?_, trivial⟩ ?_
  · exact st_move (.tmp 5) rfl (K.t x5 rfl)
  · exact st_neqi 27 (.tmp 21) (.const (.int .i64 0)) rfl .i64 (r9) (0) (K.dep 0 21 rfl) rfl _ (by rw [hr9]; simp)
  intro f9 w9 A hb
  replace x0 := A.t x0 rfl
  replace x4 := A.t x4 rfl
  replace x5 := A.t x5 rfl
  have x22 := A.e 1 22 rfl rfl
  replace hv1 := Fk.mono _ _ _ _ hv1 hb
  replace hd := HD.below hd hb
  replace bl := (Fr.grow bl hb)
  replace sd := A.sd sd
  clear A hb
  show Code.wp _ _ _ _ _
  refine wp_cond_false x22 ?_
  refine wp_skip ?_
  show Code.wp _ _ _ _ _
  refine wp_seq ?_
  refine wr_s [.eq (.slice A1 b9.length C1), .eq (.pointer (some ⟨gw, 0, none⟩)), .eq (.int .i64 ((homN n : Nat) : Int)), .eq (.pointer (some ⟨gw, 0, none⟩)), .eq (.int .i64 ((roomN n z : Nat) : Int))] (by rw [sd.1]; kernel_rfl) ⟨fun hw ac u K => ?_, fun hw ac u K => ?_, fun hw ac u K => ?_, fun hw ac u K => ?_, fun hw ac u K => ?_, trivial⟩ ?_
  · exact st_move (.tmp 4) rfl (K.t x4 rfl)
  · exact st_move (.tmp 0) rfl (K.t x0 rfl)
  · exact st_call 17 (.func 17) _ _ _ rfl rfl (one_arg (K.dep 1 26 rfl)) Tryz.enter17 (fk_xhome (Ob.keep mw ((Fr.grow bl K.grow).block _ (Ob.lt mw) hgM)) (HD.below hd K.grow) gs)
  · exact st_move (.tmp 0) rfl (K.t x0 rfl)
  · exact st_call 18 (.func 18) _ _ _ rfl rfl (one_arg (K.dep 3 28 rfl)) Tryz.enter18 (fk_xroom (Ob.keep mw ((Fr.grow bl K.grow).block _ (Ob.lt mw) hgM)) (HD.below hd K.grow) gs (by omega))
  intro f10 w10 A hb
  replace x0 := A.t x0 rfl
  replace x4 := A.t x4 rfl
  replace x5 := A.t x5 rfl
  replace x22 := A.t x22 rfl
  have x25 := A.e 0 25 rfl rfl
  have x27 := A.e 2 27 rfl rfl
  have x29 := A.e 4 29 rfl rfl
  replace hv1 := Fk.mono _ _ _ _ hv1 hb
  replace hd := HD.below hd hb
  replace bl := (Fr.grow bl hb)
  replace sd := A.sd sd
  clear A hb
  clear x4
  clear x5
  clear x22
  refine wl_call 61 (.func 61) _ _ #[.slice A1 b9.length C1, .int .i64 ((homN n : Nat) : Int), .int .i64 ((roomN n z : Nat) : Int)] rfl 30 rfl (by rw [sd.1]; decide) rfl rfl (three_arg x25 x27 x29) Tryz.enter61 (fun u W' => (∃ va, u = .tuple #[va, .bool true] ∧ (Fk.is (at9.map fun k : Nat => (k : Int))).f va W' ∧ (∀ a n C, va = .slice (some a) n C → w10.heap.size ≤ a.block)) ∧ Below w10.heap.size w10 W') ((fk_xreadHead hbz h3 (by omega) h32 (by omega) rfl rfl hv1).mono (by
    rintro e w' ⟨u, r, rfl, q1, q2⟩
    refine ⟨_, rfl, ?_, q2⟩
    rcases q1 with ⟨q1, rfl⟩ | ⟨l, q1, rfl, q3, q4⟩
    · rw [hpr] at q1; cases q1
    · rw [hpr] at q1; cases q1; exact ⟨u, rfl, q3, q4⟩)) ?_
  rintro f11 w11 df2 sz2 old2 ⟨⟨va, x30, hat6, hnw9⟩, hb⟩
  have hnw : ∀ a n C, va = .slice (some a) n C → w.heap.size ≤ a.block := fun a n C e8 => Nat.le_trans bl.size (hnw9 a n C e8)
  clear hnw9
  replace bl0 := bl
  replace x0 := tr old2 x0 rfl
  replace x25 := tr old2 x25 rfl
  replace x27 := tr old2 x27 rfl
  replace x29 := tr old2 x29 rfl
  replace hv1 := Fk.mono _ _ _ _ hv1 hb
  replace hd := HD.below hd hb
  replace bl := (Fr.grow bl hb)
  replace sd := sd2 sz2 df2 sd
  replace bl0 := bl
  clear df2 sz2 old2 hb
  clear x25
  clear x27
  clear x29
  refine wl_one (.eq (.tuple #[va, .bool true])) rfl 24 rfl (by rw [sd.1]; decide) (st_move (.tmp 30) rfl x30) ?_
  intro f12 w12 df2 sz2 old2 new2 hb
  replace x0 := tr old2 x0 rfl
  replace x30 := tr old2 x30 rfl
  have x24 := Fk.e new2
  replace hv1 := Fk.mono _ _ _ _ hv1 hb
  replace hat6 := Fk.mono _ _ _ _ hat6 hb
  replace hd := HD.below hd hb
  replace bl := (Fr.grow bl hb)
  replace sd := sd2 sz2 df2 sd
  clear df2 sz2 old2 new2 hb
  clear x30
  refine wl_one (.eq (va)) rfl 31 rfl (by rw [sd.1]; decide) (st_extv (.tmp 24) 0 rfl x24 rfl) ?_
  intro f13 w13 df2 sz2 old2 new2 hb
  replace x0 := tr old2 x0 rfl
  replace x24 := tr old2 x24 rfl
  have x31 := Fk.e new2
  replace hv1 := Fk.mono _ _ _ _ hv1 hb
  replace hat6 := Fk.mono _ _ _ _ hat6 hb
  replace hd := HD.below hd hb
  replace bl := (Fr.grow bl hb)
  replace sd := sd2 sz2 df2 sd
  clear df2 sz2 old2 new2 hb
  refine wl_one (.eq (.bool true)) rfl 32 rfl (by rw [sd.1]; decide) (st_extv (.tmp 24) 1 rfl x24 rfl) ?_
  intro f14 w14 df2 sz2 old2 new2 hb
  replace x0 := tr old2 x0 rfl
  replace x24 := tr old2 x24 rfl
  replace x31 := tr old2 x31 rfl
  have x32 := Fk.e new2
  replace hv1 := Fk.mono _ _ _ _ hv1 hb
  replace hat6 := Fk.mono _ _ _ _ hat6 hb
  replace hd := HD.below hd hb
  replace bl := (Fr.grow bl hb)
  replace sd := sd2 sz2 df2 sd
  clear df2 sz2 old2 new2 hb
  clear x24
  refine wl_one (.eq (va)) rfl 6 rfl (by rw [sd.1]; decide) (st_assign (.tmp 31) rfl x31) ?_
  intro f15 w15 df2 sz2 old2 new2 hb
  replace x0 := tr old2 x0 rfl
  replace x31 := tr old2 x31 rfl
  replace x32 := tr old2 x32 rfl
  have x6 := Fk.e new2
  replace hv1 := Fk.mono _ _ _ _ hv1 hb
  replace hat6 := Fk.mono _ _ _ _ hat6 hb
  replace hd := HD.below hd hb
  replace bl := (Fr.grow bl hb)
  replace sd := sd2 sz2 df2 sd
  clear df2 sz2 old2 new2 hb
  clear x31
  refine wl_one (.eq (.bool true)) rfl 7 rfl (by rw [sd.1]; decide) (st_assign (.tmp 32) rfl x32) ?_
  intro f16 w16 df2 sz2 old2 new2 hb
  replace x0 := tr old2 x0 rfl
  replace x32 := tr old2 x32 rfl
  replace x6 := tr old2 x6 rfl
  have x7 := Fk.e new2
  replace hv1 := Fk.mono _ _ _ _ hv1 hb
  replace hat6 := Fk.mono _ _ _ _ hat6 hb
  replace hd := HD.below hd hb
  replace bl := (Fr.grow bl hb)
  replace sd := sd2 sz2 df2 sd
  clear df2 sz2 old2 new2 hb
  refine wpList_nil ?_
  clear x32
  show Code.wp _ _ _ _ _
  refine wp_seq ?_
  refine wp_seq ?_
  refine wr_a [.eq (.bool true), .eq (.bool false)] (by rw [sd.1]; kernel_rfl) ⟨fun hw ac u K => ?_, fun hw ac u K => ?_, trivial⟩ ?_
  · exact st_move (.tmp 7) rfl (K.t x7 rfl)
  · exact st_not (.tmp 33) rfl true (K.dep 0 33 rfl)
  intro f17 w17 A hb
  replace x0 := A.t x0 rfl
  replace x6 := A.t x6 rfl
  replace x7 := A.t x7 rfl
  have x34 := A.e 1 34 rfl rfl
  replace hv1 := Fk.mono _ _ _ _ hv1 hb
  replace hat6 := Fk.mono _ _ _ _ hat6 hb
  replace hd := HD.below hd hb
  replace bl := (Fr.grow bl hb)
  replace sd := A.sd sd
  clear A hb
  clear x7
  show Code.wp _ _ _ _ _
  refine wp_cond_false x34 ?_
  refine wp_skip ?_
  show Code.wp _ _ _ _ _
  refine wp_seq ?_
  clear hv1
  refine wr_s [.eq (va), .eq (.int .i64 (at9.length : Int))] (by rw [sd.1]; kernel_rfl) ⟨fun hw ac u K => ?_, fun hw ac u K => ?_, trivial⟩ ?_
  · exact st_move (.tmp 6) rfl (K.t x6 rfl)
  · exact st_lenis12 (.tmp 35) rfl (fk_val (K.dep 0 35 rfl) (Fk.mono _ _ _ _ hat6 K.grow)) hatl
  intro f18 w18 A hb
  replace x0 := A.t x0 rfl
  replace x6 := A.t x6 rfl
  replace x34 := A.t x34 rfl
  have x36 := A.e 1 36 rfl rfl
  replace hat6 := Fk.mono _ _ _ _ hat6 hb
  replace hd := HD.below hd hb
  replace bl := (Fr.grow bl hb)
  replace sd := A.sd sd
  clear A hb
  clear x34
  refine wl_makeC rfl _ _ rfl 37 rfl (by rw [sd.1]; decide) (at9.length) (by omega) x36 x36 ?_
  intro f19 w19 g df2 sz2 old2 x37 hgg mg hb
  replace x0 := tr old2 x0 rfl
  replace x6 := tr old2 x6 rfl
  replace x36 := tr old2 x36 rfl
  have hwg : w.heap.size ≤ g := Nat.le_trans bl.size hgg
  have hgM9 : ¬ M g := fun q => by have := hMlt _ q; omega
  have hgD : ¬ DD g := fun q => by have := hd.lt _ q; omega
  have hvN : 0 < (at9.map fun k : Nat => (k : Int)).length → ∀ a n C, va = .slice (some a) n C → ¬ (M a.block ∨ a.block = g) := fun h5 a n C e q => by
    have q1 := hnw a n C e
    have q2 := is_lt12 hat6 h5 a n C e
    rcases q with q | q
    · have := hMlt _ q; omega
    · omega
  clear hnw
  replace hd := HD.below hd hb
  replace hat6 := Fk.mono _ _ _ _ hat6 hb
  replace bl := Fr.grow bl hb
  replace bl0 := bl
  replace sd := sd2 sz2 df2 sd
  clear df2 sz2 old2 hb
  have hsl : SLs M g [] w19 := fun c hc => by cases hc
  clear x36
  refine wl_one (.eq (.slice (some ⟨g, 0, none⟩) at9.length at9.length)) rfl 8 rfl (by rw [sd.1]; decide) (st_assign (.tmp 37) rfl x37) ?_
  intro f20 w20 df2 sz2 old2 new2 hb
  replace x0 := tr old2 x0 rfl
  replace x6 := tr old2 x6 rfl
  replace x37 := tr old2 x37 rfl
  have x8 := Fk.e new2
  replace hat6 := Fk.mono _ _ _ _ hat6 hb
  replace hd := HD.below hd hb
  replace mg := Ob.below mg hb
  replace hsl := SLs.below hsl hb
  replace bl := (Fr.grow bl hb)
  replace sd := sd2 sz2 df2 sd
  clear df2 sz2 old2 new2 hb
  refine wpList_nil ?_
  clear x37
  show Code.wp _ _ _ _ _
  refine wp_seq ?_
  refine wp_seq ?_
  refine wr_a [.eq (va), .eq (.int .i64 (at9.length : Int)), .eq (.int .i64 0)] (by rw [sd.1]; kernel_rfl) ⟨fun hw ac u K => ?_, fun hw ac u K => ?_, fun hw ac u K => ?_, trivial⟩ ?_
  · exact st_move (.tmp 6) rfl (K.t x6 rfl)
  · exact st_lenis12 (.tmp 38) rfl (fk_val (K.dep 0 38 rfl) (Fk.mono _ _ _ _ hat6 K.grow)) hatl
  · exact st_move (.const (.int .i64 0)) rfl rfl
  intro f21 w21 A hb
  replace x0 := A.t x0 rfl
  replace x6 := A.t x6 rfl
  replace x8 := A.t x8 rfl
  have x38 := A.e 0 38 rfl rfl
  have x39 := A.e 1 39 rfl rfl
  have x40 := A.e 2 40 rfl rfl
  replace hat6 := Fk.mono _ _ _ _ hat6 hb
  replace hd := HD.below hd hb
  replace mg := Ob.below mg hb
  replace hsl := SLs.below hsl hb
  replace bl := (Fr.grow bl hb)
  replace sd := A.sd sd
  clear A hb
  clear x6
  show Code.wp _ _ _ _ _
  refine wp_block ?_
  refine wp_loop (fun f v1 => ∃ (k : Nat) (DD : Nat → Prop) (l9 : List Cng), k ≤ at9.length ∧ (∀ j, DD j → D j ∨ w.heap.size ≤ j) ∧ ¬ DD g ∧ l9.length = k ∧ prc l9 = (jr (nowO s) (1 + homN n) at9).take k ∧ (∀ c ∈ l9, 0 ≤ c.p ∧ c.p ≤ 100000) ∧ f.tmps.size = 67 ∧ f.defers = [] ∧ f.eval (.tmp 0) = .pointer (some ⟨gw, 0, none⟩) ∧ f.eval (.tmp 8) = .slice (some ⟨g, 0, none⟩) at9.length at9.length ∧ f.eval (.tmp 38) = va ∧ f.eval (.tmp 39) = .int .i64 (at9.length : Int) ∧ f.eval (.tmp 40) = .int .i64 (k : Int) ∧ Fk.f (.is (at9.map fun k : Nat => (k : Int))) (va) v1 ∧ HD v1 gd M DD s ∧ Ob v1 g 55 (cellsL l9 (at9.length - k)) ∧ SLs M g l9 v1 ∧ Fr (M) w (v1)) (fun f _ => at9.length - (intOf (f.eval (.tmp 40))).toNat) ⟨0, DD, [], Nat.zero_le _, hDD, hgD, rfl, rfl, (fun c hc => by cases hc), sd.1, sd.2, x0, x8, x38, x39, x40, hat6, hd, mg, hsl, bl⟩ ?_
  intro f22 w22 hI
  clear sd bl bl0 x0 x8 x38 x39 x40 hat6 hd mg hsl
  obtain ⟨k, DD, l9, hk8, hDD, hgD, hll, hprc, hpp, sz, df, x0, x8, x38, x39, x40, hat6, hd, mg, hsl, bl⟩ := hI
  have sd := And.intro sz df
  clear sz df
  have bl0 := bl
  have hcnt := x40
  refine wp_seq ?_
  by_cases hlt : k < at9.length
  rotate_left
  · skip
    refine wr_a [.eq (.bool false)] (by rw [sd.1]; kernel_rfl) ⟨fun hw ac u K => ?_, trivial⟩ ?_
    · exact st_lss 3 (.tmp 40) (.tmp 39) rfl .i64 ((k : Int)) ((at9.length : Int)) (K.t x40 rfl) (K.t x39 rfl) _ (by rw [eq_comm, decide_eq_false_iff_not]; exact fun h => hlt (Int.ofNat_lt.1 h))
    intro f23 w23 A hb
    replace x0 := A.t x0 rfl
    replace x8 := A.t x8 rfl
    replace x38 := A.t x38 rfl
    replace x39 := A.t x39 rfl
    replace x40 := A.t x40 rfl
    have x41 := A.e 0 41 rfl rfl
    replace hat6 := Fk.mono _ _ _ _ hat6 hb
    replace hd := HD.below hd hb
    replace mg := Ob.below mg hb
    replace hsl := SLs.below hsl hb
    replace bl := (Fr.grow bl hb)
    replace sd := A.sd sd
    clear A hb
    show Code.wp _ _ _ _ _
    refine wp_seq ?_
    refine wp_cond_false x41 ?_
    refine wp_exit ?_
    show Code.wp _ _ _ _ _
    refine wp_seq ?_
    refine wr_a [.eq (.slice (some ⟨g, 0, none⟩) at9.length at9.length), .eq (.slice (some ⟨g, 0, none⟩) at9.length at9.length), .eq (.int .i64 0)] (by rw [sd.1]; kernel_rfl) ⟨fun hw ac u K => ?_, fun hw ac u K => ?_, fun hw ac u K => ?_, trivial⟩ ?_
    · exact st_move (.tmp 8) rfl (K.t x8 rfl)
    · exact st_assign (.tmp 66) rfl (K.dep 0 66 rfl)
    · exact st_assign (.const (.int .i64 0)) rfl rfl
    intro f24 w24 A hb
    replace x0 := A.t x0 rfl
    replace x8 := A.t x8 rfl
    replace x38 := A.t x38 rfl
    replace x39 := A.t x39 rfl
    replace x40 := A.t x40 rfl
    replace x41 := A.t x41 rfl
    have x2 := A.e 1 2 rfl rfl
    have x3 := A.e 2 3 rfl rfl
    replace hat6 := Fk.mono _ _ _ _ hat6 hb
    replace hd := HD.below hd hb
    replace mg := Ob.below mg hb
    replace hsl := SLs.below hsl hb
    replace bl := (Fr.grow bl hb)
    replace sd := A.sd sd
    clear A hb
    clear x41
    show Code.wp _ _ _ _ _
    refine wp_ret ?_
    repeat (first | with_reducible refine then_ret ?_ | with_reducible refine block_ret ?_)
    have hkl : k = at9.length := by omega
    rw [hkl, Nat.sub_self] at mg
    have hall : prc l9 = (jr (nowO s) (1 + homN n) at9) := by rw [hprc]; exact List.take_of_length_le (by rw [jr_len]; omega)
    have hsrW : ∀ W, Fr M w24 W → (Fk.sr RC l9).f (.slice (some ⟨g, 0, none⟩) at9.length at9.length) W := fun W hF => by
      have h9 := (hsl.fr (hF.mono (fun j q => .inl q))).sr (Ob.keep mg (hF.block _ (Ob.lt mg) hgM9)) hpp
      rw [hll, hkl] at h9
      exact h9
    exact bodyPost_ret (v := .tuple #[.slice (some ⟨g, 0, none⟩) at9.length at9.length, .int .i64 0]) (ret_two rfl f24 _ _ x2 x3 _ _) sd.2 ⟨DD, _, _, rfl, hd, hDD, bl, .inr (.inr ⟨hdn, at9, l9, by rw [← hb9]; exact hpr, rfl, by omega, hall, hpp, hsrW⟩)⟩
  obtain ⟨a9, ha9⟩ : ∃ p, at9[k]? = some p := ⟨_, List.getElem?_eq_getElem hlt⟩
  have hat9 : (at9.map fun k : Nat => (k : Int))[k]? = some (a9 : Int) := by rw [List.getElem?_map, ha9]; rfl
  have hah := hokl.2 a9 (List.mem_of_getElem? ha9)
  refine wr_a [.eq (.bool true)] (by rw [sd.1]; kernel_rfl) ⟨fun hw ac u K => ?_, trivial⟩ ?_
  · exact st_lss 3 (.tmp 40) (.tmp 39) rfl .i64 ((k : Int)) ((at9.length : Int)) (K.t x40 rfl) (K.t x39 rfl) _ (by rw [eq_comm, decide_eq_true_iff]; exact Int.ofNat_lt.2 hlt)
  intro f23 w23 A hb
  replace x0 := A.t x0 rfl
  replace x8 := A.t x8 rfl
  replace x38 := A.t x38 rfl
  replace x39 := A.t x39 rfl
  replace x40 := A.t x40 rfl
  have x41 := A.e 0 41 rfl rfl
  replace hat6 := Fk.mono _ _ _ _ hat6 hb
  replace hd := HD.below hd hb
  replace mg := Ob.below mg hb
  replace hsl := SLs.below hsl hb
  replace bl := (Fr.grow bl hb)
  replace sd := A.sd sd
  clear A hb
  show Code.wp _ _ _ _ _
  refine wp_seq ?_
  refine wp_cond_true x41 ?_
  refine wp_skip ?_
  show Code.wp _ _ _ _ _
  refine wp_seq ?_
  refine wp_block ?_
  refine wp_seq ?_
  refine wr_a [.eq (.int .i64 (k : Int)), .prg [.int .i64 (a9 : Int)], .eq (.int .i64 (a9 : Int)), .eq (.int .i64 (k : Int)), .eq (.int .i64 (a9 : Int))] (by rw [sd.1]; kernel_rfl) ⟨fun hw ac u K => ?_, fun hw ac u K => ?_, fun hw ac u K => ?_, fun hw ac u K => ?_, fun hw ac u K => ?_, trivial⟩ ?_
  · exact st_move (.tmp 40) rfl (K.t x40 rfl)
  · exact st_idxis (.tmp 38) (.tmp 40) rfl (fk_val (K.t x38 rfl) (Fk.mono _ _ _ _ hat6 K.grow)) k (K.t x40 rfl) (a9 : Int) hat9
  · exact st_loadr1 3 (.tmp 43) rfl (by kernel_rfl) (K.dep 1 43 rfl)
  · exact st_assign (.tmp 42) rfl (K.dep 0 42 rfl)
  · exact st_assign (.tmp 44) rfl (K.dep 2 44 rfl)
  intro f24 w24 A hb
  replace x0 := A.t x0 rfl
  replace x8 := A.t x8 rfl
  replace x38 := A.t x38 rfl
  replace x39 := A.t x39 rfl
  replace x40 := A.t x40 rfl
  replace x41 := A.t x41 rfl
  have x9 := A.e 3 9 rfl rfl
  have x10 := A.e 4 10 rfl rfl
  replace hat6 := Fk.mono _ _ _ _ hat6 hb
  replace hd := HD.below hd hb
  replace mg := Ob.below mg hb
  replace hsl := SLs.below hsl hb
  replace bl := (Fr.grow bl hb)
  replace sd := A.sd sd
  clear A hb
  clear x41
  show Code.wp _ _ _ _ _
  refine wp_seq ?_
  obtain ⟨nb9, hnb9⟩ : ∃ b, b = nowO s (1 + homN n + k) := ⟨_, rfl⟩
  have hb : Below w24.heap.size w24 w24.drew := (Below.refl _ _).drew
  have mwh := Ob.keep mw (bl.block _ (Ob.lt mw) hgM)
  refine wp_region_held_drew (S := fun W => Ob W gw 62 [.pointer (some ⟨gd, 0, none⟩), .bool dn]) Tryz.mixed (Ob.below mwh hb) (fun hS => ?_)
  clear mwh
  replace hd := HD.below hd hb
  replace mg := Ob.below mg hb
  replace hsl := SLs.below hsl hb
  replace hat6 := Fk.mono _ _ _ _ hat6 hb
  replace bl := Fr.grow bl hb
  clear hb
  generalize w24.drew = w25 at hd bl hS mg hsl hat6 ⊢
  refine wh_take 0 46 (v := .pointer (some ⟨gw, 0, none⟩)) rfl rfl (by rw [sd.1]; decide) rfl (by kernel_rfl) (by kernel_rfl) (by kernel_rfl) (fun _ _ _ h => h) (run_mv rfl x0) hS ?_
  intro f26 df2 sz2 old2 new2
  replace x0 := tr old2 x0 rfl
  replace x8 := tr old2 x8 rfl
  replace x38 := tr old2 x38 rfl
  replace x39 := tr old2 x39 rfl
  replace x40 := tr old2 x40 rfl
  replace x9 := tr old2 x9 rfl
  replace x10 := tr old2 x10 rfl
  replace sd := sd2 sz2 df2 sd
  have x46 := new2
  clear df2 sz2 old2 new2
  refine wh_take 1 47 (v := .pointer (some ⟨gw, 0, none⟩)) rfl rfl (by rw [sd.1]; decide) rfl (by kernel_rfl) (by kernel_rfl) (by kernel_rfl) (fun _ _ _ h => h) (run_nilq rfl x46) hS ?_
  intro f27 df2 sz2 old2 new2
  replace x0 := tr old2 x0 rfl
  replace x8 := tr old2 x8 rfl
  replace x38 := tr old2 x38 rfl
  replace x39 := tr old2 x39 rfl
  replace x40 := tr old2 x40 rfl
  replace x9 := tr old2 x9 rfl
  replace x10 := tr old2 x10 rfl
  replace x46 := tr old2 x46 rfl
  replace sd := sd2 sz2 df2 sd
  have x47 := new2
  clear df2 sz2 old2 new2
  refine wh_take 2 48 (v := .pointer (some ⟨gw, 0, none⟩)) rfl rfl (by rw [sd.1]; decide) rfl (by kernel_rfl) (by kernel_rfl) (by kernel_rfl) (fun _ _ _ h => h) (run_field rfl x47 (fun w => by kernel_rfl)) hS ?_
  intro f28 df2 sz2 old2 new2
  replace x0 := tr old2 x0 rfl
  replace x8 := tr old2 x8 rfl
  replace x38 := tr old2 x38 rfl
  replace x39 := tr old2 x39 rfl
  replace x40 := tr old2 x40 rfl
  replace x9 := tr old2 x9 rfl
  replace x10 := tr old2 x10 rfl
  replace x46 := tr old2 x46 rfl
  replace x47 := tr old2 x47 rfl
  replace sd := sd2 sz2 df2 sd
  have x48 := new2
  clear df2 sz2 old2 new2
  refine wh_take 3 49 (v := .pointer (some ⟨gd, 0, none⟩)) rfl rfl (by rw [sd.1]; decide) rfl (by kernel_rfl) (by kernel_rfl) (by kernel_rfl) (fun _ _ _ h => h) (run_loadc rfl (fun w => by kernel_rfl) x48 (fun W hW => Ob.cell hW 0 rfl)) hS ?_
  intro f29 df2 sz2 old2 new2
  replace x0 := tr old2 x0 rfl
  replace x8 := tr old2 x8 rfl
  replace x38 := tr old2 x38 rfl
  replace x39 := tr old2 x39 rfl
  replace x40 := tr old2 x40 rfl
  replace x9 := tr old2 x9 rfl
  replace x10 := tr old2 x10 rfl
  replace x46 := tr old2 x46 rfl
  replace x47 := tr old2 x47 rfl
  replace x48 := tr old2 x48 rfl
  replace sd := sd2 sz2 df2 sd
  have x49 := new2
  clear df2 sz2 old2 new2
  refine wh_take 4 50 (v := .pointer (some ⟨gw, 0, none⟩)) rfl rfl (by rw [sd.1]; decide) rfl (by kernel_rfl) (by kernel_rfl) (by kernel_rfl) (fun _ _ _ h => h) (run_mv rfl x0) hS ?_
  intro f30 df2 sz2 old2 new2
  replace x0 := tr old2 x0 rfl
  replace x8 := tr old2 x8 rfl
  replace x38 := tr old2 x38 rfl
  replace x39 := tr old2 x39 rfl
  replace x40 := tr old2 x40 rfl
  replace x9 := tr old2 x9 rfl
  replace x10 := tr old2 x10 rfl
  replace x46 := tr old2 x46 rfl
  replace x47 := tr old2 x47 rfl
  replace x48 := tr old2 x48 rfl
  replace x49 := tr old2 x49 rfl
  replace sd := sd2 sz2 df2 sd
  have x50 := new2
  clear df2 sz2 old2 new2
  refine wh_take 5 51 (v := .int .i64 (k : Int)) rfl rfl (by rw [sd.1]; decide) rfl (by kernel_rfl) (by kernel_rfl) (by kernel_rfl) (fun _ _ _ h => h) (run_mv rfl x9) hS ?_
  intro f31 df2 sz2 old2 new2
  replace x0 := tr old2 x0 rfl
  replace x8 := tr old2 x8 rfl
  replace x38 := tr old2 x38 rfl
  replace x39 := tr old2 x39 rfl
  replace x40 := tr old2 x40 rfl
  replace x9 := tr old2 x9 rfl
  replace x10 := tr old2 x10 rfl
  replace x46 := tr old2 x46 rfl
  replace x47 := tr old2 x47 rfl
  replace x48 := tr old2 x48 rfl
  replace x49 := tr old2 x49 rfl
  replace x50 := tr old2 x50 rfl
  replace sd := sd2 sz2 df2 sd
  have x51 := new2
  clear df2 sz2 old2 new2
  refine wh_call 6 52 rfl rfl (by rw [sd.1]; decide) rfl (by kernel_rfl) 37 (.func 37) _ _ #[.pointer (some ⟨gw, 0, none⟩), .int .i64 (k : Int)] rfl rfl (two_arg x50 x51) Tryz.enter37 (fun u W' => u = .int .i64 ((1 + homN n + k : Nat) : Int) ∧ Below w25.heap.size w25 W') ((fk_xjs hS hd gs (by omega)).mono (by rintro e w' ⟨u, rfl, q1, q2⟩; exact ⟨_, rfl, q1, q2⟩)) ?_
  rintro f32 w32 df2 sz2 old2 ⟨x52, hb⟩
  replace hS := Ob.below hS hb
  refine ⟨hS, ?_⟩
  replace hd := HD.below hd hb
  replace mg := Ob.below mg hb
  replace hsl := SLs.below hsl hb
  replace hat6 := Fk.mono _ _ _ _ hat6 hb
  replace bl := Fr.grow bl hb
  replace x0 := tr old2 x0 rfl
  replace x8 := tr old2 x8 rfl
  replace x38 := tr old2 x38 rfl
  replace x39 := tr old2 x39 rfl
  replace x40 := tr old2 x40 rfl
  replace x9 := tr old2 x9 rfl
  replace x10 := tr old2 x10 rfl
  replace x46 := tr old2 x46 rfl
  replace x47 := tr old2 x47 rfl
  replace x48 := tr old2 x48 rfl
  replace x49 := tr old2 x49 rfl
  replace x50 := tr old2 x50 rfl
  replace x51 := tr old2 x51 rfl
  replace sd := sd2 sz2 df2 sd
  clear df2 sz2 old2 hb
  refine wh_call 7 53 rfl rfl (by rw [sd.1]; decide) rfl (by kernel_rfl) 11 (.func 11) _ _ #[.pointer (some ⟨gd, 0, none⟩), .int .i64 ((1 + homN n + k : Nat) : Int)] rfl rfl (two_arg x49 x52) Tryz.enter11 (fun u W' => ∃ (D2 : Nat → Prop) (A : Option Addr) (C : Nat), u = .tuple #[.slice A nb9.length C, .int .i64 0] ∧ (Fk.sl nb9).f (.slice A nb9.length C) W' ∧ (0 < nb9.length → ∃ g, A = some ⟨g, 0, none⟩ ∧ w32.heap.size ≤ g) ∧ HD W' gd M D2 s ∧ (∀ j, D2 j → DD j ∨ w32.heap.size ≤ j) ∧ Fr M w32 W') ((fk_dread hd ((1 + homN n + k : Nat) : Int)).mono (by
    rintro e w' ⟨D', A, C, rfl, q1, q2, q3, q4, q5⟩
    have e9 : rd s ((1 + homN n + k : Nat) : Int) = (0, nb9) := by
      unfold rd
      rw [if_neg (by rw [hdn]; simp), if_neg (by rw [gs.has]; omega), Int.toNat_natCast, hnb9]
      rfl
    rw [e9] at q1 q2 ⊢
    exact ⟨_, rfl, D', A, C, rfl, q1, (fun q => by obtain ⟨g9, r1, r2, _⟩ := q2 q; exact ⟨g9, r1, r2⟩), q3, q4, q5⟩)) ?_
  rintro f33 w33 df2 sz2 old2 ⟨D2, A1, C1, x53, hv9, hnew, hd2, hD2, O⟩
  replace hS := Ob.keep hS (O.block _ (Ob.lt hS) hgM)
  refine ⟨hS, ?_⟩
  replace hd := hd2
  have hmlt := Ob.lt mg
  replace hgD : ¬ D2 g := fun q => (hD2 _ q).elim hgD (fun q => by omega)
  replace mg := Ob.keep mg (O.block _ (Ob.lt mg) hgM9)
  replace hsl := hsl.fr (O.mono (fun j q => .inl q))
  clear hd2
  obtain ⟨q9, hq9⟩ : ∃ q : Cng, q = ⟨(a9 : Int), nb9, A1, nb9.length, C1⟩ := ⟨_, rfl⟩
  have hsq : SLs M g [q9] w33 := fun c hc => by
    rw [List.mem_singleton.1 hc]
    obtain ⟨sp, m, c, b, o, e, h9⟩ := hv9
    cases e
    rw [hq9]
    refine ⟨b, o, h9, fun hm => ?_⟩
    obtain ⟨g9, e1, e2⟩ := hnew hm
    have e3 := (h9.src hm).1
    rw [e1] at e3
    cases e3
    exact ⟨fun q => by have := hMlt _ q; have := bl.size; omega, by omega⟩
  replace hat6 := is_fr12 (S := fun j => M j ∨ j = g) hat6 hvN (O.mono (fun j q => .inl q))
  replace hDD : ∀ j, D2 j → D j ∨ w.heap.size ≤ j := fun j q => (hD2 j q).elim (hDD j) (fun q => .inr (Nat.le_trans bl.size q))
  replace bl := bl.trans O
  clear hD2 O hv9 hnew hmlt
  obtain ⟨DD, rfl⟩ : ∃ E, E = D2 := ⟨_, rfl⟩
  replace x0 := tr old2 x0 rfl
  replace x8 := tr old2 x8 rfl
  replace x38 := tr old2 x38 rfl
  replace x39 := tr old2 x39 rfl
  replace x40 := tr old2 x40 rfl
  replace x9 := tr old2 x9 rfl
  replace x10 := tr old2 x10 rfl
  replace x46 := tr old2 x46 rfl
  replace x47 := tr old2 x47 rfl
  replace x48 := tr old2 x48 rfl
  replace x49 := tr old2 x49 rfl
  replace x50 := tr old2 x50 rfl
  replace x51 := tr old2 x51 rfl
  replace x52 := tr old2 x52 rfl
  replace sd := sd2 sz2 df2 sd
  clear df2 sz2 old2
  refine wh_take 8 45 (v := .tuple #[.slice A1 nb9.length C1, .int .i64 0]) rfl rfl (by rw [sd.1]; decide) rfl (by kernel_rfl) (by kernel_rfl) (by kernel_rfl) (fun _ _ _ h => h) (run_mv rfl x53) hS ?_
  intro f34 df2 sz2 old2 new2
  replace x0 := tr old2 x0 rfl
  replace x8 := tr old2 x8 rfl
  replace x38 := tr old2 x38 rfl
  replace x39 := tr old2 x39 rfl
  replace x40 := tr old2 x40 rfl
  replace x9 := tr old2 x9 rfl
  replace x10 := tr old2 x10 rfl
  replace x46 := tr old2 x46 rfl
  replace x47 := tr old2 x47 rfl
  replace x48 := tr old2 x48 rfl
  replace x49 := tr old2 x49 rfl
  replace x50 := tr old2 x50 rfl
  replace x51 := tr old2 x51 rfl
  replace x52 := tr old2 x52 rfl
  replace x53 := tr old2 x53 rfl
  replace sd := sd2 sz2 df2 sd
  have x45 := new2
  clear df2 sz2 old2 new2
  refine wh_take 9 54 (v := .slice A1 nb9.length C1) rfl rfl (by rw [sd.1]; decide) rfl (by kernel_rfl) (by kernel_rfl) (by kernel_rfl) (fun _ _ _ h => h) (run_extv rfl x45 (by rfl)) hS ?_
  intro f35 df2 sz2 old2 new2
  replace x0 := tr old2 x0 rfl
  replace x8 := tr old2 x8 rfl
  replace x38 := tr old2 x38 rfl
  replace x39 := tr old2 x39 rfl
  replace x40 := tr old2 x40 rfl
  replace x9 := tr old2 x9 rfl
  replace x10 := tr old2 x10 rfl
  replace x46 := tr old2 x46 rfl
  replace x47 := tr old2 x47 rfl
  replace x48 := tr old2 x48 rfl
  replace x49 := tr old2 x49 rfl
  replace x50 := tr old2 x50 rfl
  replace x51 := tr old2 x51 rfl
  replace x52 := tr old2 x52 rfl
  replace x53 := tr old2 x53 rfl
  replace x45 := tr old2 x45 rfl
  replace sd := sd2 sz2 df2 sd
  have x54 := new2
  clear df2 sz2 old2 new2
  refine wh_take 10 55 (v := .int .i64 0) rfl rfl (by rw [sd.1]; decide) rfl (by kernel_rfl) (by kernel_rfl) (by kernel_rfl) (fun _ _ _ h => h) (run_extv rfl x45 (by rfl)) hS ?_
  intro f36 df2 sz2 old2 new2
  replace x0 := tr old2 x0 rfl
  replace x8 := tr old2 x8 rfl
  replace x38 := tr old2 x38 rfl
  replace x39 := tr old2 x39 rfl
  replace x40 := tr old2 x40 rfl
  replace x9 := tr old2 x9 rfl
  replace x10 := tr old2 x10 rfl
  replace x46 := tr old2 x46 rfl
  replace x47 := tr old2 x47 rfl
  replace x48 := tr old2 x48 rfl
  replace x49 := tr old2 x49 rfl
  replace x50 := tr old2 x50 rfl
  replace x51 := tr old2 x51 rfl
  replace x52 := tr old2 x52 rfl
  replace x53 := tr old2 x53 rfl
  replace x45 := tr old2 x45 rfl
  replace x54 := tr old2 x54 rfl
  replace sd := sd2 sz2 df2 sd
  have x55 := new2
  clear df2 sz2 old2 new2
  refine wh_assign 11 11 rfl rfl (by rw [sd.1]; decide) rfl (by kernel_rfl) (.tmp 54) rfl hS ?_
  intro f37 df2 sz2 old2 new2
  have x11 : f37.eval (.tmp 11) = .slice A1 nb9.length C1 := new2.trans x54
  replace x0 := tr old2 x0 rfl
  replace x8 := tr old2 x8 rfl
  replace x38 := tr old2 x38 rfl
  replace x39 := tr old2 x39 rfl
  replace x40 := tr old2 x40 rfl
  replace x9 := tr old2 x9 rfl
  replace x10 := tr old2 x10 rfl
  replace x46 := tr old2 x46 rfl
  replace x47 := tr old2 x47 rfl
  replace x48 := tr old2 x48 rfl
  replace x49 := tr old2 x49 rfl
  replace x50 := tr old2 x50 rfl
  replace x51 := tr old2 x51 rfl
  replace x52 := tr old2 x52 rfl
  replace x53 := tr old2 x53 rfl
  replace x45 := tr old2 x45 rfl
  replace x54 := tr old2 x54 rfl
  replace x55 := tr old2 x55 rfl
  replace sd := sd2 sz2 df2 sd
  clear df2 sz2 old2 new2
  refine wh_assign 12 12 rfl rfl (by rw [sd.1]; decide) rfl (by kernel_rfl) (.tmp 55) rfl hS ?_
  intro f38 df2 sz2 old2 new2
  have x12 : f38.eval (.tmp 12) = .int .i64 0 := new2.trans x55
  replace x0 := tr old2 x0 rfl
  replace x8 := tr old2 x8 rfl
  replace x38 := tr old2 x38 rfl
  replace x39 := tr old2 x39 rfl
  replace x40 := tr old2 x40 rfl
  replace x9 := tr old2 x9 rfl
  replace x10 := tr old2 x10 rfl
  replace x46 := tr old2 x46 rfl
  replace x47 := tr old2 x47 rfl
  replace x48 := tr old2 x48 rfl
  replace x49 := tr old2 x49 rfl
  replace x50 := tr old2 x50 rfl
  replace x51 := tr old2 x51 rfl
  replace x52 := tr old2 x52 rfl
  replace x53 := tr old2 x53 rfl
  replace x45 := tr old2 x45 rfl
  replace x54 := tr old2 x54 rfl
  replace x55 := tr old2 x55 rfl
  replace x11 := tr old2 x11 rfl
  replace sd := sd2 sz2 df2 sd
  clear df2 sz2 old2 new2
  refine wpAnyH_done (by kernel_rfl) ?_ _
  clear hS
  replace bl0 := bl
  clear x46
  clear x47
  clear x48
  clear x49
  clear x50
  clear x51
  clear x52
  clear x53
  clear x45
  clear x54
  clear x55
  show Code.wp _ _ _ _ _
  refine wp_seq ?_
  refine wp_seq ?_
  refine wr_a [.eq (.int .i64 0), .eq (.bool false)] (by rw [sd.1]; kernel_rfl) ⟨fun hw ac u K => ?_, fun hw ac u K => ?_, trivial⟩ ?_
  · exact st_move (.tmp 12) rfl (K.t x12 rfl)
  · exact st_neqi 27 (.tmp 56) (.const (.int .i64 0)) rfl .i64 (0) (0) (K.dep 0 56 rfl) rfl _ (by rfl)
  intro f39 w39 A hb
  replace x0 := A.t x0 rfl
  replace x8 := A.t x8 rfl
  replace x38 := A.t x38 rfl
  replace x39 := A.t x39 rfl
  replace x40 := A.t x40 rfl
  replace x9 := A.t x9 rfl
  replace x10 := A.t x10 rfl
  replace x11 := A.t x11 rfl
  replace x12 := A.t x12 rfl
  have x57 := A.e 1 57 rfl rfl
  replace hat6 := Fk.mono _ _ _ _ hat6 hb
  replace hd := HD.below hd hb
  replace mg := Ob.below mg hb
  replace hsl := SLs.below hsl hb
  replace hsq := SLs.below hsq hb
  replace bl := (Fr.grow bl hb)
  replace sd := A.sd sd
  clear A hb
  show Code.wp _ _ _ _ _
  refine wp_cond_false x57 ?_
  refine wp_skip ?_
  show Code.wp _ _ _ _ _
  refine wr_s [.eq (.slice (some ⟨g, 0, none⟩) at9.length at9.length), .eq (.int .i64 (k : Int)), .eq (.int .i64 (a9 : Int)), .eq (.slice A1 nb9.length C1), .eq (.agg ([.int .i64 (a9 : Int), .slice A1 nb9.length C1] : List Value).toArray), .eq (.pointer (some ⟨g, k * 2, none⟩))] (by rw [sd.1]; kernel_rfl) ⟨fun hw ac u K => ?_, fun hw ac u K => ?_, fun hw ac u K => ?_, fun hw ac u K => ?_, fun hw ac u K => ?_, fun hw ac u K => ?_, trivial⟩ ?_
  · exact st_move (.tmp 8) rfl (K.t x8 rfl)
  · exact st_move (.tmp 9) rfl (K.t x9 rfl)
  · exact st_move (.tmp 10) rfl (K.t x10 rfl)
  · exact st_move (.tmp 11) rfl (K.t x11 rfl)
  · exact st_build 55 _ rfl (by simp only [List.map_toArray, List.map_cons, List.map_nil, show ac.eval (.tmp 61) = _ from (K.dep 2 61 rfl), show ac.eval (.tmp 62) = _ from (K.dep 3 62 rfl)]; kernel_rfl)
  · exact st_idxC (.tmp 59) (.tmp 60) rfl (K.dep 0 59 rfl) k (K.dep 1 60 rfl) hlt
  intro f40 w40 A hb
  replace x0 := A.t x0 rfl
  replace x8 := A.t x8 rfl
  replace x38 := A.t x38 rfl
  replace x39 := A.t x39 rfl
  replace x40 := A.t x40 rfl
  replace x9 := A.t x9 rfl
  replace x10 := A.t x10 rfl
  replace x11 := A.t x11 rfl
  replace x12 := A.t x12 rfl
  replace x57 := A.t x57 rfl
  have x63 := A.e 4 63 rfl rfl
  have x64 := A.e 5 64 rfl rfl
  replace hat6 := Fk.mono _ _ _ _ hat6 hb
  replace hd := HD.below hd hb
  replace mg := Ob.below mg hb
  replace hsl := SLs.below hsl hb
  replace hsq := SLs.below hsq hb
  replace bl := (Fr.grow bl hb)
  replace sd := A.sd sd
  clear A hb
  clear x9
  clear x10
  clear x11
  clear x12
  clear x57
  have hqc : f40.eval (.tmp 63) = .agg (Cng.cells q9).toArray := by rw [show f40.eval (.tmp 63) = _ from x63, hq9]; rfl
  rw [← hll] at x64
  rw [show at9.length - k = at9.length - (k + 1) + 1 by omega] at mg
  refine wl_storeC rfl _ _ rfl rfl q9 x64 hqc mg ?_
  intro w41b mg2 O
  replace mg := mg2
  clear mg2 hqc
  replace hd := hd.keep (fun j hj => O.block j (hd.lt j hj) (fun e => hgD (e ▸ hj))) O.size
  replace hsl := hsl.fr (Fr.of_only O (.inr rfl))
  replace hsl : SLs M g (l9 ++ [q9]) w41b := fun c hc => by
    rcases List.mem_append.1 hc with hc | hc
    · exact hsl c hc
    · exact (hsq.fr (Fr.of_only O (.inr rfl))) c hc
  have hprc2 : prc (l9 ++ [q9]) = (jr (nowO s) (1 + homN n) at9).take (k + 1) := by
    rw [take_one12 (jr_get (nowO s) at9 (1 + homN n) k a9 ha9), ← hprc, hq9, hnb9]
    unfold prc
    rw [List.map_append]
    rfl
  have hpp2 : ∀ c ∈ l9 ++ [q9], 0 ≤ c.p ∧ c.p ≤ 100000 := fun c hc => by
    rcases List.mem_append.1 hc with hc | hc
    · exact hpp c hc
    · rw [List.mem_singleton.1 hc, hq9]
      show 0 ≤ (a9 : Int) ∧ (a9 : Int) ≤ 100000
      omega
  replace bl : Fr M w w41b := ⟨O.os.trans bl.os, O.tape.trans bl.tape, O.output.trans bl.output, Nat.le_trans bl.size O.size, fun j hj hn => (O.block j (Nat.lt_of_lt_of_le hj bl.size) (fun e => by omega)).trans (bl.block j hj hn)⟩
  replace bl0 := bl
  replace hat6 := is_fr12 (S := fun j => M j ∨ j = g) hat6 hvN (Fr.of_only O (.inr rfl))
  clear O hsq
  refine wpList_nil ?_
  clear x63
  clear x64
  show Code.wp _ _ _ _ _
  refine wr_s [.eq (.int .i64 ((k + 1 : Nat) : Int))] (by rw [sd.1]; kernel_rfl) ⟨fun hw ac u K => ?_, trivial⟩ ?_
  · exact st_addz (.tmp 40) (.const (.int .i64 1)) rfl _ _ _ (K.t x40 rfl) rfl (by omega) (by omega) (by omega)
  intro f42 w42 A hb
  replace x0 := A.t x0 rfl
  replace x8 := A.t x8 rfl
  replace x38 := A.t x38 rfl
  replace x39 := A.t x39 rfl
  replace x40 := A.t x40 rfl
  have x65 := A.e 0 65 rfl rfl
  replace hat6 := Fk.mono _ _ _ _ hat6 hb
  replace hd := HD.below hd hb
  replace mg := Ob.below mg hb
  replace hsl := SLs.below hsl hb
  replace bl := (Fr.grow bl hb)
  replace sd := A.sd sd
  clear A hb
  refine wl_one (.eq (.int .i64 ((k + 1 : Nat) : Int))) rfl 40 rfl (by rw [sd.1]; decide) (st_move (.tmp 65) rfl x65) ?_
  intro f43 w43 df2 sz2 old2 new2 hb
  replace x0 := tr old2 x0 rfl
  replace x8 := tr old2 x8 rfl
  replace x38 := tr old2 x38 rfl
  replace x39 := tr old2 x39 rfl
  clear x40
  replace x65 := tr old2 x65 rfl
  have x40 := Fk.e new2
  replace hat6 := Fk.mono _ _ _ _ hat6 hb
  replace hd := HD.below hd hb
  replace mg := Ob.below mg hb
  replace hsl := SLs.below hsl hb
  replace bl := (Fr.grow bl hb)
  replace sd := sd2 sz2 df2 sd
  clear df2 sz2 old2 new2 hb
  refine wpList_nil ?_
  clear x65
  show (∃ _, _) ∧ _
  refine ⟨⟨k + 1, DD, l9 ++ [q9], by omega, hDD, hgD, (by rw [List.length_append, hll]; rfl), hprc2, hpp2, sd.1, sd.2, x0, x8, x38, x39, x40, hat6, hd, mg, hsl, bl⟩, ?_⟩
  rw [show f43.eval (.tmp 40) = _ from x40, show _ = _ from hcnt]
  first | (simp [intOf]; done) | (simp [intOf]; omega)
end Go.Proofs.YtakdpkoigijonaaGreat
