/- Slices of numbers, and of pairs of numbers: of the call's own, and to be read. The reference's Crash. Rows of texts that grow; the reference's New. What the rows of this seat share: what the listed variable gives a walk, an array of bytes opened, the start that fits. A slice of bytes that came in, opened. A slice of hashes that came in, opened. Signatures and structs with them that came in, opened. Arguments opened: numbers with their bounds, slices of hashes with their room. Lists of slices of bytes in memory. Lists of slices of bytes that came in, opened: with the bounds of their sizes. Lists of calls of layer 11 that came in, opened. The laws' own functions over calls that came in: small. Own bytes written byte by byte; the law's full. Maps with numbers as keys that the call itself turns: what they hold, as a list; what becomes of it. The program's disk in memory. Drawn regions with a chain of calls that turn one object: what only looks is taken first. A drawn region in which a store does not wait for what is read beside it: looks at hashes and slices, and the store. Drawn regions with guards, a call that turns an object in their midst: operations one by one, each guard told. -/
import Derived.Test.YtakdpkoigijonaaGreatM2
import Derived.Laws.AppendOwnNone
import Derived.Test.YtakdpkoigijonaaGreatRows
import Derived.Test.YtakdpkoigijonaaGreatM1
import Derived.ProofKit
import Derived.LaidMore
import Derived.OpenShut
import Derived.ShutString
import Derived.ChangeOld
import Derived.Lib.LaidTab
import Derived.SevenTiedAt
import Derived.Deep.Slices
import Derived.Deep.Strs
import Derived.Maps.RangeRun
import Derived.Maps.Own
import Derived.Carry
import Derived.Deep.RegionHeld
namespace Go.Proofs.YtakdpkoigijonaaGreat
set_option maxRecDepth 100000
open Go.RowKit
/-- A slice of the call's own: n things of a type, of so many cells each. -/
def Fk.orw (base T sz n : Nat) (cs : List Value) : Fk := .inr (.inl ⟨fun v w => w.ownsRow base T sz v n cs, by
  rintro v w w' ⟨h1, h2⟩ hb
  refine ⟨h1, ?_⟩
  rcases h2 with h2 | ⟨g, cap, cur, e, hbg, hg, r⟩
  · exact .inl h2
  · exact .inr ⟨g, cap, cur, e, hbg, by rw [hb.block g (Array.getElem?_eq_some_iff.1 hg).1]; exact hg, r⟩⟩)
/-- A slice that may be read: n things, of so many cells each. -/
def Fk.rdw (sz n : Nat) (cs : List Value) : Fk := .inr (.inl ⟨fun v w => ∃ A C lb lo, v = .slice A n C ∧ (0 < n → A = some ⟨lb, lo, none⟩) ∧ cs.length = n * sz ∧ w.rangeAt lb lo cs, by
  rintro v w w' ⟨A, C, lb, lo, e, h1, h2, h3⟩ hb
  exact ⟨A, C, lb, lo, e, h1, h2, fun j u hj => by have := h3 j u hj; rw [hb.cell (block_lt_of_cell this)]; exact this⟩⟩)
theorem orw_rdw {base T sz n : Nat} {cs : List Value} {v : Value} {w : World} (h : (Fk.orw base T sz n cs).f v w) : (Fk.rdw sz n cs).f v w := by
  obtain ⟨h1, h2⟩ := h
  rcases h2 with ⟨rfl, rfl⟩ | ⟨g, cap, cur, rfl, hbg, hg, hnc, _, hcs, ht⟩
  · have : cs = [] := List.eq_nil_of_length_eq_zero (by rw [h1]; simp)
    subst this
    exact ⟨none, 0, 0, 0, rfl, fun h => absurd h (by decide), by simp, fun j u hj => by simp at hj⟩
  · refine ⟨_, cap, g, 0, rfl, fun _ => rfl, h1, fun j u hj => ?_⟩
    have hjl : j < n * sz := by rw [← h1]; exact (List.getElem?_eq_some_iff.1 hj).1
    rw [cell_of_row _ _ _ _ _ _ hg, Nat.zero_add]
    have e := congrArg (·[j]?) ht
    simp only [List.getElem?_take, hj, if_pos hjl, Array.getElem?_toList] at e
    exact e
theorem orw_le {g0 g1 : Nat} (hg : g1 ≤ g0) {T sz n : Nat} {cs : List Value} {v : Value} {w : World} (h : (Fk.orw g0 T sz n cs).f v w) : (Fk.orw g1 T sz n cs).f v w := by
  obtain ⟨h1, h2⟩ := h
  refine ⟨h1, ?_⟩
  rcases h2 with h2 | ⟨g, cap, cur, e, hbg, r⟩
  · exact .inl h2
  · exact .inr ⟨g, cap, cur, e, Nat.le_trans hg hbg, r⟩
theorem orw_nil (base T sz : Nat) (w : World) : (Fk.orw base T sz 0 []).f (.slice none 0 0) w := World.ownsRow_nil _ _ _ _
theorem fk_orw {f : FuncId} {args : Array Value} {w : World} {g0 T sz n : Nat} {cs : List Value} (hg : g0 ≤ w.heap.size) (h : Calls Tryz.prog f args w fun e w' => ∃ u, e = .returned u ∧ (Fk.orw w.heap.size T sz n cs).f u w' ∧ Below w.heap.size w w') :
    Calls Tryz.prog f args w fun e w' => ∃ u, e = .returned u ∧ (Fk.orw g0 T sz n cs).f u w' ∧ Below w.heap.size w w' := by
  refine h.mono ?_
  rintro e w' ⟨u, rfl, h1, h3⟩
  exact ⟨u, rfl, orw_le hg h1, h3⟩
theorem orw_new {w : World} {base T sz : Nat} {cs : List Value} (hl : cs.length = sz) (hb : base ≤ w.heap.size) : (Fk.orw base T sz 1 cs).f (.slice (some ⟨w.heap.size, 0, none⟩) 1 1) (w.alloc (.cells cs.toArray T)) :=
  ⟨by rw [hl, Nat.one_mul], .inr ⟨w.heap.size, 1, cs.toArray, rfl, hb, heap_alloc_new _ _, Nat.le_refl _, by unfold maxLen; omega, by simp [hl], by simp [← hl]⟩⟩
section
variable {Q : Exit → Act → World → Prop} {o : Oper} {a : Act} {w : World} {ops : Array Oper} {rest : List Oper}
theorem wl_appr (ST T sz by_ : Nat) {z : Value} (hu : Tryz.prog.underlying ST = some (.slice T)) (hinf : (Tryz.prog.info? T).map (fun i => (i.zero, i.size, i.bytes)) = some (some z, sz, by_)) (hzs : z.cells.size = sz) (hpos : 0 < sz)
    (hgd : o.guard = none) (s x : Operand) (ho : o.op = .call { callee := .builtin .append, args := #[s, x], argTypes := #[ST, ST] }) (d : Nat) (hd : o.dst = some d) (hsz : d < a.tmps.size)
    {wL : World} {b n m : Nat} {cs ds : List Value} (hs1 : (Fk.orw wL.heap.size T sz n cs).f (a.eval s) w) (hx : (Fk.orw b T sz m ds).f (a.eval x) w) (hm : 1 ≤ m) (hone : ∀ u ∈ ds, u.oneCell' = true) (hL : Below wL.heap.size wL w) (hN : n + m ≤ 100000) (hby : by_ ≤ 1000)
    (h : ∀ a2 w2, a2.defers = a.defers → a2.tmps.size = a.tmps.size → (∀ t, (t == d) = false → a2.eval (.tmp t) = a.eval (.tmp t)) → (Fk.orw wL.heap.size T sz (n + m) (cs ++ ds)).f (a2.eval (.tmp d)) w2 → Below wL.heap.size wL w2 → wpList Tryz.prog ops Q rest a2 w2) : wpList Tryz.prog ops Q (o :: rest) a w := by
  obtain ⟨i0, hi, hz0, hz1, hz2⟩ := info_parts hinf
  obtain ⟨A, C, lb, lo, e, hp, hl, hr⟩ := orw_rdw hx
  have hp := hp (by omega)
  subst hp
  have hown : w.ownsRow wL.heap.size T sz (a.eval s) n cs := hs1
  refine wpList_append_own w hgd s x ST ho wL.heap.size T i0 z sz by_ hu hi hz0 hz1 hz2 hzs hpos _ n cs rfl hown ⟨lb, lo, none⟩ m C ds e hl (fun j u hj => by rw [Addr.add_mid]; exact hr j u hj) hone (by unfold maxLen; omega) ?_ hL.size ?_
  · have := Nat.mul_le_mul hN hby
    omega
  · intro v' w' h1 h2 _
    refine h _ _ (put_def _ _ _) (put_size _ _ _) (fun t ht => ?_) ?_ (hL.grown h2 hL.size (fun k e => (World.ownsRow.lt hown k e).1))
    · rw [hd]
      exact put_eval_other _ _ _ _ (fun e => by subst e; simp at ht)
    · rw [hd, put_eval_same _ _ _ hsz]
      exact h1
theorem st_lenr (ST T : Nat) (hu : Tryz.prog.underlying ST = some (.slice T)) (he : Tryz.prog.elem ST = T) (x : Operand) (ho : o.op = .call { callee := .builtin .len, args := #[x], argTypes := #[ST] }) {sz n : Nat} {cs : List Value} (h : (Fk.rdw sz n cs).f (a.eval x) w) : o.wp Tryz.prog a w (Ends a o.dst w (Fk.eq (.int .i64 ((n : Nat) : Int))).f) Q := by
  obtain ⟨A, C, lb, lo, e, _⟩ := h
  refine st_pure (v := .int .i64 (n : Int)) ?_ rfl
  have h1 := run_len_slice (P := Tryz.prog) (w := w) ST o.type A n C (by rw [he]; exact hu)
  unfold execOp
  simp [ho, resolve, invoke, builtin, e, h1, goInt]
/-- A pointer to these cells. -/
def Fk.prg (cs : List Value) : Fk := .inr (.inl ⟨fun v w => ∃ b o, v = .pointer (some ⟨b, o, none⟩) ∧ w.rangeAt b o cs, by
  rintro v w w' ⟨b, o, e, h⟩ hb
  exact ⟨b, o, e, fun j u hj => by have := h j u hj; rw [hb.cell (block_lt_of_cell this)]; exact this⟩⟩)
theorem st_idxr2 (ST T : Nat) (hu : Tryz.prog.underlying ST = some (.slice T)) (he : Tryz.prog.elem ST = T) {sz : Nat} (hs : ∀ w, (sizeOf T).run Tryz.prog w = .ok sz w) (x y : Operand) (ho : o.op = .indexAddr ST x y) {n : Nat} {cs : List Value} (h : (Fk.rdw sz n cs).f (a.eval x) w) (i : Nat) (hy : a.eval y = .int .i64 (i : Int)) (hi : i < n) (ds : List Value) (hd : ∀ (j : Nat) (v : Value), ds[j]? = some v → cs[i * sz + j]? = some v) : o.wp Tryz.prog a w (Ends a o.dst w (Fk.prg ds).f) Q := by
  obtain ⟨A, C, lb, lo, e, hp, hl, hr⟩ := h
  have hp := hp (by omega)
  subst hp
  refine st_pure (v := .pointer (some ⟨lb, lo + i * sz, none⟩)) ?_ ⟨lb, lo + i * sz, rfl, fun j u hj => by rw [Nat.add_assoc]; exact hr _ _ (hd j u hj)⟩
  have h1 := run_indexAt_slice (P := Tryz.prog) (w := w) ST ⟨lb, lo, none⟩ n C .i64 (i : Int) (by rw [he]; exact hu)
  rw [if_pos (by omega), he, hs] at h1
  simp only [Result.andThen_ok, Int.toNat_natCast, Addr.add_mid] at h1
  unfold execOp
  rw [ho]
  simp [e, hy, h1]
theorem st_loadr1 (T : TypeId) (x : Operand) (ho : o.op = .load T x) (h1 : (isAgg T).run Tryz.prog w = .ok false w) {u : Value} (h : (Fk.prg [u]).f (a.eval x) w) : o.wp Tryz.prog a w (Ends a o.dst w (Fk.eq u).f) Q := by
  obtain ⟨b, so, e, hr⟩ := h
  exact st_loadc T x ho h1 e (by have := hr 0 u rfl; simpa using this)
theorem st_bldr (ST T sz : Nat) (x : Operand) (ho : o.op = .buildSlice ST 1 #[(0, x)]) {u : Value} (cs : List Value) (hx : a.eval x = u) (hr : ∀ w, (Instr.buildSlice ST 1 #[(0, u)]).run Tryz.prog w = .ok (.slice (some ⟨w.heap.size, 0, none⟩) 1 1) (w.alloc (.cells cs.toArray T))) (hl : cs.length = sz) (g0 : Nat) (hg : g0 ≤ w.heap.size) : o.wp Tryz.prog a w (Ends a o.dst w (Fk.orw g0 T sz 1 cs).f) Q := by
  refine st_run (v := .slice (some ⟨w.heap.size, 0, none⟩) 1 1) (w' := w.alloc (.cells cs.toArray T)) ?_ ((Below.refl _ _).alloc (Nat.le_refl _) _) (orw_new hl hg)
  unfold execOp
  rw [ho]
  simp [hx, hr]
end
/-- Numbers in cells. -/
def zv (ds : List Int) : List Value := ds.map fun z => .int .i64 z
theorem zv_len (ds : List Int) : (zv ds).length = ds.length := List.length_map _
theorem zv_append (a b : List Int) : zv (a ++ b) = zv a ++ zv b := List.map_append
theorem zv_one (ds : List Int) : ∀ u ∈ zv ds, u.oneCell' = true := by
  intro u hu
  obtain ⟨z, _, rfl⟩ := List.mem_map.1 hu
  rfl
theorem zv_at {ds : List Int} {i : Nat} {z : Int} (h : ds[i]? = some z) : ∀ (j : Nat) (v : Value), ([.int .i64 z] : List Value)[j]? = some v → (zv ds)[i * 1 + j]? = some v := by
  intro j v hj
  cases j with
  | zero =>
    obtain rfl : Value.int .i64 z = v := by simpa using hj
    simp [zv, h]
  | succ j => simp at hj
/-- Pairs of numbers in cells. -/
def pv2 (ps : List (Nat × Nat)) : List Value := ps.flatMap fun p => [.int .i64 (p.1 : Int), .int .i64 (p.2 : Int)]
/-- Numbers of the call's own; to be read. -/
def Fk.oi (base : Nat) (ds : List Int) : Fk := Fk.orw base 3 1 ds.length (zv ds)
def Fk.is (ds : List Int) : Fk := Fk.rdw 1 ds.length (zv ds)
def Fk.ps (ps : List (Nat × Nat)) : Fk := Fk.rdw 2 ps.length (pv2 ps)
theorem Tryz.under31z : Tryz.prog.underlying 31 = some (.slice 3) := by kernel_rfl
theorem Tryz.elem31z : Tryz.prog.elem 31 = 3 := by kernel_rfl
theorem Tryz.info3z : (Tryz.prog.info? 3).map (fun i => (i.zero, i.size, i.bytes)) = some (some (.int .i64 0), 1, 8) := by kernel_rfl
theorem Tryz.size3z (w : World) : (sizeOf 3).run Tryz.prog w = .ok 1 w := by kernel_rfl
theorem Tryz.bld3z (z : Int) (w : World) : (Instr.buildSlice 31 1 #[(0, .int .i64 z)]).run Tryz.prog w = .ok (.slice (some ⟨w.heap.size, 0, none⟩) 1 1) (w.alloc (.cells (zv [z]).toArray 3)) := by kernel_rfl
theorem oi_is {base : Nat} {ds : List Int} {v : Value} {w : World} (h : (Fk.oi base ds).f v w) : (Fk.is ds).f v w := orw_rdw h
theorem oi_nil (base : Nat) (w : World) : (Fk.oi base []).f (.slice none 0 0) w := orw_nil _ _ _ _
section
variable {Q : Exit → Act → World → Prop} {o : Oper} {a : Act} {w : World} {ops : Array Oper} {rest : List Oper}
theorem wl_appendi (hgd : o.guard = none) (s x : Operand) (ho : o.op = .call { callee := .builtin .append, args := #[s, x], argTypes := #[31, 31] }) (d : Nat) (hd : o.dst = some d) (hsz : d < a.tmps.size)
    {wL : World} {b : Nat} {cs ds : List Int} (hs1 : (Fk.oi wL.heap.size cs).f (a.eval s) w) (hx : (Fk.oi b ds).f (a.eval x) w) (hm : 1 ≤ ds.length) (hL : Below wL.heap.size wL w) (hN : cs.length + ds.length ≤ 100000)
    (h : ∀ a2 w2, a2.defers = a.defers → a2.tmps.size = a.tmps.size → (∀ t, (t == d) = false → a2.eval (.tmp t) = a.eval (.tmp t)) → (Fk.oi wL.heap.size (cs ++ ds)).f (a2.eval (.tmp d)) w2 → Below wL.heap.size wL w2 → wpList Tryz.prog ops Q rest a2 w2) : wpList Tryz.prog ops Q (o :: rest) a w :=
  wl_appr 31 3 1 8 Tryz.under31z Tryz.info3z rfl (by decide) hgd s x ho d hd hsz hs1 hx hm (zv_one ds) hL hN (by decide) (fun a2 w2 h1 h2 h3 h4 h5 => h a2 w2 h1 h2 h3 (by unfold Fk.oi; rw [List.length_append, zv_append]; exact h4) h5)
theorem st_lenis (x : Operand) (ho : o.op = .call { callee := .builtin .len, args := #[x], argTypes := #[31] }) {ds : List Int} (h : (Fk.is ds).f (a.eval x) w) : o.wp Tryz.prog a w (Ends a o.dst w (Fk.eq (.int .i64 ((ds.length : Nat) : Int))).f) Q := st_lenr 31 3 Tryz.under31z Tryz.elem31z x ho h
theorem st_idxis (x y : Operand) (ho : o.op = .indexAddr 31 x y) {ds : List Int} (h : (Fk.is ds).f (a.eval x) w) (i : Nat) (hy : a.eval y = .int .i64 (i : Int)) (z : Int) (hi : ds[i]? = some z) : o.wp Tryz.prog a w (Ends a o.dst w (Fk.prg [.int .i64 z]).f) Q :=
  st_idxr2 31 3 Tryz.under31z Tryz.elem31z Tryz.size3z x y ho h i hy (List.getElem?_eq_some_iff.1 hi).1 _ (zv_at hi)
theorem st_bi1 (x : Operand) (ho : o.op = .buildSlice 31 1 #[(0, x)]) (z : Int) (hx : a.eval x = .int .i64 z) (g0 : Nat) (hg : g0 ≤ w.heap.size) : o.wp Tryz.prog a w (Ends a o.dst w (Fk.oi g0 [z]).f) Q := st_bldr 31 3 1 x ho _ hx (Tryz.bld3z z) rfl g0 hg
end
end Go.Proofs.YtakdpkoigijonaaGreat
namespace Go.Proofs.YtakdpkoigijonaaGreat
set_option maxRecDepth 100000
open Go.RowKit
/-- One loss. -/
def lose1 (c : List (List (BitVec 8))) (k : Int) : List (List (BitVec 8)) := if 0 ≤ k ∧ k < (c.length : Int) then c.set k.toNat [] else c
theorem lose1_len (c : List (List (BitVec 8))) (k : Int) : (lose1 c k).length = c.length := by
  unfold lose1
  split
  · rw [List.length_set]
  · rfl
end Go.Proofs.YtakdpkoigijonaaGreat
namespace Go.Proofs.YtakdpkoigijonaaGreat
set_option maxRecDepth 100000
open Go.RowKit
theorem append_where {P : Program} (w : World) (base : Nat) (t ty e : TypeId) (i : TypeInfo) (z : Value) (size bytes : Nat) (ht : P.underlying t = some (.slice e)) (hi : P.info? e = some i) (hz : i.zero = some z)
    (hsize : i.size = size) (hby : i.bytes = bytes)
    (v : Value) (n : Nat) (xs : List Value) (hown : w.ownsRow base e size v n xs)
    (a : Addr) (m c : Nat) (news : List Value) (hl : news.length = m * size) (hnews : ∀ j u, news[j]? = some u → w.cell? (a.add j) = some u) (h1 : ∀ u ∈ news, u.oneCell' = true)
    (h63 : n + m ≤ maxLen) (hbytes : (n + m) * bytes ≤ 140737488355328) :
    ∀ v' w', (Builtin.append_ #[t, t] ty #[v, .slice (some a) m c]).run P w = .ok v' w' → v'.ownBlock = v.ownBlock ∨ v'.ownBlock = some w.heap.size := by
  subst hsize
  subst hby
  intro v' w' hr
  have hsmall : n + m ≤ 9223372036854775807 := by simp only [maxLen] at h63; omega
  rcases hown.2 with ⟨rfl, rfl⟩ | ⟨g, cap, cur, rfl, hbg, hg, hnc, hcm, hcs, htake⟩
  · by_cases hm : m = 0
    · subst hm
      left
      have : (Builtin.append_ #[t, t] ty #[.slice none 0 0, .slice (some a) 0 c]).run P w = .ok (.slice none 0 0) w := by
        simp [Builtin.append_, run_underlying ht, sizeOf, typeInfo, hi, Builtin.lenOf, Builtin.firstCells, loadCells, loadCellsFrom]
      rw [this] at hr
      obtain ⟨rfl, _⟩ := Result.ok.inj hr
      rfl
    · right
      rw [run_append_nil (P := P) w t ty e i z ht hi hz a m c news hl hnews (by omega) (by omega) (by have hb := hbytes; simp only [Nat.zero_add] at hb; omega)] at hr
      obtain ⟨rfl, _⟩ := Result.ok.inj hr
      rfl
  · by_cases hroom : n + m ≤ cap
    · left
      rw [run_append_room (P := P) w t ty e i ht hi g n cap cur hg a m c news hl hnews h1 hroom (by rw [hl, hcs, ← Nat.add_mul]; exact Nat.mul_le_mul_right _ hroom)] at hr
      obtain ⟨rfl, _⟩ := Result.ok.inj hr
      rfl
    · right
      rw [run_append_grow (P := P) w t ty e i z ht hi hz ⟨g, 0, none⟩ n cap xs hown.1 (hown.cells (g := g) rfl) a m c news hl hnews (by omega) (by omega) (growslice_fits (by omega) hbytes)] at hr
      obtain ⟨rfl, _⟩ := Result.ok.inj hr
      rfl
/-- Texts in cells. -/
def sv (l : List (List (BitVec 8))) : List Value := l.map fun x => .string (str x)
theorem sv_one (l : List (List (BitVec 8))) : ∀ u ∈ sv l, u.oneCell' = true := by
  intro u hu
  obtain ⟨z, _, rfl⟩ := List.mem_map.1 hu
  rfl
/-- Texts of the call's own. -/
def Fk.os (base : Nat) (l : List (List (BitVec 8))) : Fk := Fk.orw base 9 1 l.length (sv l)
theorem os_nil (base : Nat) (w : World) : (Fk.os base []).f (.slice none 0 0) w := orw_nil _ _ _ _
theorem Tryz.info9s : (Tryz.prog.info? 9).map (fun i => (i.zero, i.size, i.bytes)) = some (some (.string ByteArray.empty), 1, 16) := by kernel_rfl
theorem Tryz.under29s : Tryz.prog.underlying 29 = some (.slice 9) := by kernel_rfl
theorem Tryz.bld29s (t : ByteArray) (w : World) : (Instr.buildSlice 29 1 #[(0, .string t)]).run Tryz.prog w = .ok (.slice (some ⟨w.heap.size, 0, none⟩) 1 1) (w.alloc (.cells #[.string t] 9)) := by kernel_rfl
theorem run_appS (ty : TypeId) {B : Nat} {P : List (List (BitVec 8))} {y : List (BitVec 8)} {v u : Value} {w : World} (hB : B ≤ w.heap.size) (hs1 : (Fk.os B P).f v w) (hx : (Fk.os 0 [y]).f u w) (hN : P.length ≤ 100000) :
    ∃ v' w', (Builtin.append_ #[29, 29] ty #[v, u]).run Tryz.prog w = .ok v' w' ∧ (Fk.os B (P ++ [y])).f v' w' ∧ w.grownBy w' v.ownBlock ∧ (v'.ownBlock = v.ownBlock ∨ v'.ownBlock = some w.heap.size) := by
  obtain ⟨i0, hi, hz0, hz1, hz2⟩ := info_parts Tryz.info9s
  obtain ⟨A, C, lb, lo, e, hp, hl, hr⟩ := orw_rdw hx
  have hp := hp (by simp)
  subst hp
  subst e
  have hown : w.ownsRow B 9 1 v P.length (sv P) := hs1
  have hnews : ∀ (j : Nat) (u : Value), (sv [y])[j]? = some u → w.cell? ((⟨lb, lo, none⟩ : Addr).add j) = some u := fun j u hj => by rw [Addr.add_mid]; exact hr j u hj
  obtain ⟨v', w', hrun, h2, h3, _⟩ := run_append_own (P := Tryz.prog) w B 29 ty 9 i0 _ 1 16 Tryz.under29s hi hz0 hz1 hz2 (by rfl) (by decide) v P.length (sv P) hown ⟨lb, lo, none⟩ 1 C (sv [y]) (by simp [sv]) hnews (sv_one _) (by unfold maxLen; omega) (by omega) (by omega)
  have h4 := append_where (P := Tryz.prog) w B 29 ty 9 i0 _ 1 16 Tryz.under29s hi hz0 hz1 hz2 v P.length (sv P) hown ⟨lb, lo, none⟩ 1 C (sv [y]) (by simp [sv]) hnews (sv_one _) (by unfold maxLen; omega) (by omega) v' w' hrun
  refine ⟨v', w', hrun, ?_, h3, h4⟩
  show w'.ownsRow B 9 1 v' (P ++ [y]).length (sv (P ++ [y]))
  rw [List.length_append, show sv (P ++ [y]) = sv P ++ sv [y] from List.map_append]
  exact h2
section
variable {Q : Exit → Act → World → Prop} {o : Oper} {a : Act} {w : World} {ops : Array Oper} {rest : List Oper}
theorem wl_appS (hgd : o.guard = none) (s x : Operand) (ho : o.op = .call { callee := .builtin .append, args := #[s, x], argTypes := #[29, 29] }) (d : Nat) (hd : o.dst = some d) (hsz : d < a.tmps.size)
    {B : Nat} {P : List (List (BitVec 8))} {y : List (BitVec 8)} {v : Value} (hB : B ≤ w.heap.size) (e : a.eval s = v) (hs1 : (Fk.os B P).f v w) (hx : (Fk.os 0 [y]).f (a.eval x) w) (hN : P.length ≤ 100000)
    (h : ∀ a2 w2 v2, a2.defers = a.defers → a2.tmps.size = a.tmps.size → (∀ t, (t == d) = false → a2.eval (.tmp t) = a.eval (.tmp t)) → a2.eval (.tmp d) = v2 → (Fk.os B (P ++ [y])).f v2 w2 → w.grownBy w2 v.ownBlock → (v2.ownBlock = v.ownBlock ∨ v2.ownBlock = some w.heap.size) → wpList Tryz.prog ops Q rest a2 w2) : wpList Tryz.prog ops Q (o :: rest) a w := by
  obtain ⟨v', w', hr, h2, h3, h4⟩ := run_appS o.type hB hs1 hx hN
  unfold wpList
  rw [if_pos (by unfold Region.wanted; rw [hgd])]
  refine .inl ?_
  unfold Oper.wp execOp
  simp only [ho, resolve, invoke, builtin, Sem.run_bind, Sem.run_pure, Result.andThen_ok, List.map_toArray, List.map_cons, List.map_nil, e, hr]
  refine h _ _ v' (put_def _ _ _) (put_size _ _ _) (fun t ht => ?_) ?_ h2 h3 h4
  · rw [hd]
    exact put_eval_other _ _ _ _ (fun e => by subst e; simp at ht)
  · rw [hd, put_eval_same _ _ _ hsz]
theorem st_blds (x : Operand) (ho : o.op = .buildSlice 29 1 #[(0, x)]) {y : List (BitVec 8)} (hx : a.eval x = .string (str y)) : o.wp Tryz.prog a w (Ends a o.dst w (Fk.os 0 [y]).f) Q := st_bldr 29 9 1 x ho (sv [y]) hx (fun w => Tryz.bld29s (str y) w) (by rfl) 0 (Nat.zero_le _)
end
section
variable {Q : Exit → Act → World → Prop} {o : Oper} {a : Act} {w : World}
theorem st_makeb (x y : Operand) (ho : o.op = .makeSlice 22 x y) (n : Nat) (hn : n ≤ 100000) (hx : a.eval x = .int .i64 (n : Int)) (hy : a.eval y = .int .i64 (n : Int)) : o.wp Tryz.prog a w (Ends a o.dst w (Fk.sl (zs n)).f) Q := by
  have hr : (Instr.makeSlice 22 (.int .i64 (n : Int)) (.int .i64 (n : Int))).run Tryz.prog w = .ok (.slice (some ⟨w.heap.size, 0, none⟩) n n) (w.alloc (.cells ((zs n).map V).toArray 5)) := by
    obtain ⟨i0, hi, hz0, hz1, hz2⟩ := info_parts Tryz.info5
    have := run_make (P := Tryz.prog) w 22 5 i0 (.int .u8 0) Tryz.under22 hi hz0 .i64 .i64 (n : Int) (n : Int) (by omega) (by omega) (by rw [hz2]; omega) (by omega)
    rw [hz1, Int.toNat_natCast, Nat.mul_one, made_eq] at this
    exact this
  refine st_run (v := .slice (some ⟨w.heap.size, 0, none⟩) n n) (w' := w.alloc (.cells ((zs n).map V).toArray 5)) ?_ ((Below.refl _ _).alloc (Nat.le_refl _) _) ⟨_, _, _, w.heap.size, 0, rfl, (zs_len n).symm, Nat.le_refl _, (fun e => by cases e), fun _ => ⟨rfl, Ob.lt (T := 5) (cs := (zs n).map V) (heap_alloc_new _ _), ?_⟩⟩
  · unfold execOp
    rw [ho]
    simp [hx, hy, hr]
  · exact Ob.bytes (T := 5) (cs := []) (by rw [List.append_nil]; exact heap_alloc_new _ _)
end
end Go.Proofs.YtakdpkoigijonaaGreat
namespace Go.Proofs.YtakdpkoigijonaaGreat
set_option maxRecDepth 100000
open Go.ChangeShapes Go.WideShapes Go.ChangeAt Go.RowKit

theorem own : ownKnob Tryz.prog.godebug = none := by kernel_rfl
theorem laidOut : laidOutB Tryz.prog = true := by kernel_rfl
end Go.Proofs.YtakdpkoigijonaaGreat
namespace Go.Proofs.YtakdpkoigijonaaGreat
set_option maxRecDepth 100000
open Go.ChangeShapes Go.WideShapes Go.ChangeAt Go.RowKit
theorem bv_ofInt (z : Int) (h0 : 0 ≤ z) (h1 : z < 256) : bv (BitVec.ofInt 8 z) = z := by
  unfold bv
  rw [BitVec.toNat_ofInt]
  omega
theorem sl_of {H : Type} {enc : TypeId × Value → H} {W : World} {a : Option Addr} {len cap : Nat} {d : DataW H} {p : List MemPlace}
    (h : DataW.Trod enc Tryz.prog W 0 (fun _ => true) true 22 (.slice a len cap) d p) : ∃ bs b o, Sl W a len cap bs b o ∧ len ≤ maxLen := by
  obtain ⟨fuel, hf⟩ := h
  rcases open_ints Tryz.under22 Tryz.under5 (by kernel_rfl) hf with ⟨hcs, _⟩ | ⟨x, l, c, zs, hcs, _, hl, hm, hz, _, hcell, hwz⟩
  · simp [Value.cells] at hcs
    obtain ⟨rfl, rfl, rfl⟩ := hcs
    exact ⟨[], 0, 0, ⟨rfl, Nat.le_refl _, fun _ => ⟨rfl, rfl⟩, fun h => absurd h (by omega)⟩, by unfold maxLen; omega⟩
  · simp [Value.cells] at hcs
    obtain ⟨rfl, rfl, rfl⟩ := hcs
    have hlen : zs.length = cap := by simpa using hz
    refine ⟨(zs.take len).map (BitVec.ofInt 8), x.block, x.off, ⟨?_, hl, fun h => by (cases h), fun hp => ?_⟩, by unfold maxLen at *; omega⟩
    · rw [List.length_map, List.length_take]; omega
    · have hspot : x.spot = none := by
        have := hcell 0 (by omega)
        simp only [Addr.add, if_true] at this
        unfold World.cell? at this
        split at this
        · split at this
          · cases this
          · rename_i h; simpa using h
        · cases this
      have hx : x = ⟨x.block, x.off, none⟩ := by rw [← hspot]
      have hadd : ∀ i, x.add i = ⟨x.block, x.off + i, none⟩ := fun i => by
        unfold Addr.add
        split
        · rename_i h; subst h; rw [Nat.add_zero]; exact hx
        · rfl
      refine ⟨by rw [← hx], ?_, ?_⟩
      · have := block_lt_of_cell (hcell 0 (by omega))
        simpa [Addr.add] using this
      · intro i hi
        have hil : i < zs.length := by rw [List.length_map, List.length_take] at hi; omega
        have hin : i < len := by rw [List.length_map, List.length_take] at hi; omega
        rw [← hadd, hcell i hil]
        have hb := bounds_u8 (hwz (zs[i]) (List.getElem_mem hil))
        have e1 : zs.getD i 0 = zs[i] := by simp [hil]
        have e2 : ((zs.take len).map (BitVec.ofInt 8)).getD i 0 = BitVec.ofInt 8 zs[i] := by simp [hil, hin]
        rw [e1, e2, bv_ofInt _ (by omega) (by omega)]
end Go.Proofs.YtakdpkoigijonaaGreat
namespace Go.Proofs.YtakdpkoigijonaaGreat
set_option maxRecDepth 100000
open Go.ChangeShapes Go.WideShapes Go.ChangeAt Go.RowKit
theorem add_plain {w : World} {x : Addr} {v : Value} (h : w.cell? x = some v) : ∀ i, x.add i = ⟨x.block, x.off + i, none⟩ := by
  have hspot : x.spot = none := by
    unfold World.cell? at h
    split at h
    · split at h
      · cases h
      · rename_i h2; simpa using h2
    · cases h
  intro i
  unfold Addr.add
  split
  · rename_i h2; subst h2; rw [Nat.add_zero, ← hspot]
  · rfl
end Go.Proofs.YtakdpkoigijonaaGreat
namespace Go.Proofs.YtakdpkoigijonaaGreat
set_option maxRecDepth 100000
open Go.ChangeShapes Go.WideShapes Go.ChangeAt Go.RowKit
section
variable {H : Type} {enc : TypeId × Value → H} {W : World}
theorem sl_part {n : Nat} {cs : List Value} {y : DataW H × List MemPlace} (h : DataW.trod enc Tryz.prog W 0 (fun _ => true) true n 22 cs = some y) : ∃ v bs, cs = [v] ∧ (Fk.sl bs).f v W := by
  have key : ∀ A N C, cs = [.slice A N C] → ∃ v bs, cs = [v] ∧ (Fk.sl bs).f v W := by
    intro A N C e
    obtain ⟨bs, b, o, hs, _⟩ := sl_of (a := A) (len := N) (cap := C) (d := y.1) (p := y.2) ⟨n, by rw [show (Value.slice A N C).cells.toList = cs from by rw [e]; rfl]; exact h⟩
    exact ⟨_, bs, e, A, N, C, b, o, rfl, hs⟩
  rcases Deep.open_slice Tryz.under22 h with ⟨hcs, _⟩ | ⟨a, len, cap, m, n', D, Pl, hcs, _⟩
  · exact key _ _ _ hcs
  · exact key _ _ _ hcs
theorem cells22 : Tryz.prog.cellsOf 22 = 1 := by kernel_rfl
end
end Go.Proofs.YtakdpkoigijonaaGreat
namespace Go.Proofs.YtakdpkoigijonaaGreat
set_option maxRecDepth 100000
set_option maxRecDepth 100000
open Go.ChangeShapes Go.WideShapes Go.ChangeAt Go.RowKit
variable {H : Type} {enc : TypeId × Value → H} {W : World}
end Go.Proofs.YtakdpkoigijonaaGreat
namespace Go.Proofs.YtakdpkoigijonaaGreat
set_option maxRecDepth 100000
open Go.RowKit
/-- A slice that has these slices of bytes. -/
def Fk.mg (ps : List Pt) : Fk := .inr (.inl ⟨fun v w => ∃ A C lb lo, v = .slice A ps.length C ∧ (0 < ps.length → A = some ⟨lb, lo, none⟩) ∧ Ls w lb lo ps, by
  rintro v w w' ⟨A, C, lb, lo, e, hg, h⟩ hb
  exact ⟨A, C, lb, lo, e, hg, h.below hb⟩⟩)
theorem mg_ok {ps : List Pt} {v : Value} {w : World} (h : (Fk.mg ps).f v w) {i : Nat} {p : Pt} (hi : ps[i]? = some p) : Sl w p.sp p.m p.c p.bs p.b p.o := by
  obtain ⟨A, C, lb, lo, e, _, hl⟩ := h
  exact hl.ok i p hi
theorem Tryz.elem23 : Tryz.prog.elem 23 = 22 := by kernel_rfl
theorem Tryz.sizeOf22m (w : World) : (sizeOf 22).run Tryz.prog w = .ok 1 w := by kernel_rfl
section
variable {Q : Exit → Act → World → Prop} {o : Oper} {a : Act} {w : World}
theorem st_lenm (x : Operand) (ho : o.op = .call { callee := .builtin .len, args := #[x], argTypes := #[23] }) {ps : List Pt} (h : (Fk.mg ps).f (a.eval x) w) : o.wp Tryz.prog a w (Ends a o.dst w (Fk.eq (.int .i64 ((ps.length : Nat) : Int))).f) Q := by
  obtain ⟨A, C, lb, lo, e, _, hl⟩ := h
  refine st_pure (v := .int .i64 (ps.length : Int)) ?_ rfl
  have h1 := run_len_slice (P := Tryz.prog) (w := w) 23 o.type A ps.length C (by rw [Tryz.elem23]; exact Tryz.under23)
  unfold execOp
  simp [ho, resolve, invoke, builtin, e, h1, goInt]
theorem st_idxm (x y : Operand) (ho : o.op = .indexAddr 23 x y) {ps : List Pt} (h : (Fk.mg ps).f (a.eval x) w) (i : Nat) (p : Pt) (hy : a.eval y = .int .i64 (i : Int)) (hi : ps[i]? = some p) : o.wp Tryz.prog a w (Ends a o.dst w (Fk.pv (.slice p.sp p.m p.c)).f) Q := by
  obtain ⟨A, C, lb, lo, e, hp, hl⟩ := h
  have hil : i < ps.length := (List.getElem?_eq_some_iff.1 hi).1
  have hp := hp (by omega)
  subst hp
  refine st_pure (v := .pointer (some ⟨lb, lo + i, none⟩)) ?_ ⟨lb, lo + i, rfl, hl.cell i p hi⟩
  have h1 := run_indexAt_slice (P := Tryz.prog) (w := w) 23 ⟨lb, lo, none⟩ ps.length C .i64 (i : Int) (by rw [Tryz.elem23]; exact Tryz.under23)
  rw [if_pos (by omega), Tryz.elem23, Tryz.sizeOf22m] at h1
  simp only [Result.andThen_ok, Int.toNat_natCast, Addr.add_mid, Nat.mul_one] at h1
  unfold execOp
  rw [ho]
  simp [e, hy, h1]
theorem st_loadsl (x : Operand) (ho : o.op = .load 22 x) {u : Value} (h : (Fk.pv u).f (a.eval x) w) : o.wp Tryz.prog a w (Ends a o.dst w (Fk.eq u).f) Q := by
  obtain ⟨b, so, e, hc⟩ := h
  exact st_loadc 22 x ho (by kernel_rfl) e hc
end
end Go.Proofs.YtakdpkoigijonaaGreat
namespace Go.Proofs.YtakdpkoigijonaaGreat
set_option maxRecDepth 100000
open Go.ChangeShapes Go.WideShapes Go.ChangeAt Go.RowKit
/-- What holds of each number below n holds of the members of a list. -/
theorem list_of {P : Nat → Pt → Prop} (n : Nat) (h : ∀ k, k < n → ∃ p, P k p) : ∃ ps : List Pt, ps.length = n ∧ ∀ k p, ps[k]? = some p → P k p := by
  induction n with
  | zero => exact ⟨[], rfl, fun k p hk => by simp at hk⟩
  | succ n ih =>
    obtain ⟨ps, hl, hp⟩ := ih (fun k hk => h k (by omega))
    obtain ⟨q, hq⟩ := h n (by omega)
    refine ⟨ps ++ [q], by simp [hl], fun k p hk => ?_⟩
    rw [List.getElem?_append] at hk
    split at hk
    · exact hp k p hk
    · rename_i hge
      have hkn : k - ps.length = 0 := by
        by_cases h0 : k - ps.length = 0
        · exact h0
        · rw [List.getElem?_eq_none (by simp; omega)] at hk
          cases hk
      rw [hkn] at hk
      obtain rfl : q = p := by simpa using hk
      obtain rfl : k = n := by omega
      exact hq
section
variable {H : Type} {enc : TypeId × Value → H} {W : World}
theorem mg_part {n : Nat} {cs : List Value} {y : DataW H × List MemPlace} (h : DataW.trod enc Tryz.prog W 0 (fun _ => true) true n 23 cs = some y) : ∃ A C ps, cs = [.slice A ps.length C] ∧ (Fk.mg ps).f (.slice A ps.length C) W := by
  rcases Deep.open_slice1 Tryz.under23 cells22 h with ⟨hcs, _⟩ | ⟨a, len, cap, m, n', V', D, Pl, hcs, _, hl, hm, hmm, _, hel⟩
  · exact ⟨none, 0, [], hcs, none, 0, 0, 0, rfl, fun h => by simp at h, fun i p hi => by simp at hi, fun i p hi => by simp at hi⟩
  · have hmc : m = cap := by simpa using hmm
    subst hmc
    have hE : ∀ k, k < len → ∃ p : Pt, W.cell? ⟨a.block, a.off + k, none⟩ = some (.slice p.sp p.m p.c) ∧ p.ok W := by
      intro k hk
      have h0 := (hel 0 (by omega)).1
      have e0 : a.add 0 = a := by simp [Addr.add]
      rw [e0] at h0
      obtain ⟨hc, ht⟩ := hel k (by omega)
      rw [add_plain h0 k] at hc
      obtain ⟨sp, l, c, hv⟩ : ∃ sp l c, V' k = .slice sp l c := by
        rcases Deep.open_slice Tryz.under22 ht with ⟨hcs, _⟩ | ⟨a', len', cap', _, _, _, _, hcs, _⟩
        · exact ⟨_, _, _, by simpa using hcs⟩
        · exact ⟨_, _, _, by simpa using hcs⟩
      rw [hv] at hc ht
      obtain ⟨bs, b, o, hsl, hml⟩ := sl_of (enc := enc) (W := W) (a := sp) (len := l) (cap := c) (d := D k) (p := Pl k) ⟨n', by simpa [Value.cells] using ht⟩
      exact ⟨⟨sp, l, c, bs, b, o⟩, hc, hsl⟩
    obtain ⟨ps, hps, hp⟩ := list_of len hE
    subst hps
    refine ⟨some a, _, ps, hcs, some a, _, a.block, a.off, rfl, fun hp0 => ?_, fun i p hi => (hp i p hi).1, fun i p hi => (hp i p hi).2⟩
    have h0 := (hel 0 (by omega)).1
    have e0 : a.add 0 = a := by simp [Addr.add]
    rw [e0] at h0
    have := add_plain h0 0
    rw [e0, Nat.add_zero] at this
    rw [← this]
end
section
variable {H : Type} {enc : TypeId × Value → H} {W : World}
end
end Go.Proofs.YtakdpkoigijonaaGreat
namespace Go.Proofs.YtakdpkoigijonaaGreat
set_option maxRecDepth 100000
set_option maxRecDepth 100000
open Go.ChangeShapes Go.WideShapes Go.ChangeAt Go.RowKit
/-- One call that came in. -/
structure Opn where
  k : Int
  s : Int
  n : Int
  bs : List (BitVec 8)
  ls : List Int
  ab : Option Addr
  nb : Nat
  cb : Nat
  al : Option Addr
  cl : Nat
def Opn.vb (o : Opn) : Value := .slice o.ab o.nb o.cb
def Opn.vl (o : Opn) : Value := .slice o.al o.ls.length o.cl
def Opn.cells (o : Opn) : List Value := [.int .i64 o.k, .int .i64 o.s, .int .i64 o.n, o.vb, o.vl]
def Opn.val (o : Opn) : Value := .agg o.cells.toArray
structure Opn.ok (W : World) (o : Opn) : Prop where
  b : (Fk.sl o.bs).f o.vb W
  l : (Fk.is o.ls).f o.vl W
  n : o.n ≤ 9223372036854775807
  w : ∀ z ∈ o.ls, (Lit.int .i64 z).wf = true
theorem Opn.ok.below {w w' : World} {o : Opn} (h : o.ok w) (hb : Below w.heap.size w w') : o.ok w' := ⟨Fk.mono _ _ _ _ h.b hb, Fk.mono _ _ _ _ h.l hb, h.n, h.w⟩
variable {H : Type} {enc : TypeId × Value → H} {W : World}
end Go.Proofs.YtakdpkoigijonaaGreat
namespace Go.Proofs.YtakdpkoigijonaaGreat
set_option maxRecDepth 100000
open Go.RowKit
/-- A list of calls that the laws go through. -/
def smallO (l : List Opn) (n : Int) : Prop := (∀ o ∈ l, o.bs.length ≤ 200 ∧ o.ls.length ≤ 40) ∧ (l.length : Int) ≤ n
instance (l : List Opn) (n : Int) : Decidable (smallO l n) := by unfold smallO; infer_instance
section
variable {Q : Exit → Act → World → Prop} {o : Oper} {a : Act} {w : World}
end
end Go.Proofs.YtakdpkoigijonaaGreat
namespace Go.Proofs.YtakdpkoigijonaaGreat
set_option maxRecDepth 100000
open Go.RowKit
theorem map_setV (xs : List (BitVec 8)) (k : Nat) (c : BitVec 8) : (xs.map V).set k (V c) = (xs.set k c).map V := by rw [List.map_set]
section
variable {Q : Exit → Act → World → Prop} {o : Oper} {a : Act} {w : World} {ops : Array Oper} {rest : List Oper}
theorem st_idxB (x y : Operand) (ho : o.op = .indexAddr 22 x y) {g n C : Nat} (hx : a.eval x = .slice (some ⟨g, 0, none⟩) n C) (i : Nat) (hy : a.eval y = .int .i64 (i : Int)) (hi : i < n) : o.wp Tryz.prog a w (Ends a o.dst w (Fk.eq (.pointer (some ⟨g, i, none⟩))).f) Q := by
  refine st_pure (v := .pointer (some ⟨g, i, none⟩)) ?_ rfl
  have h1 := run_indexAt_slice (P := Tryz.prog) (w := w) 22 ⟨g, 0, none⟩ n C .i64 (i : Int) (by rw [show Tryz.prog.elem 22 = 5 by kernel_rfl]; kernel_rfl)
  rw [if_pos (by omega), show Tryz.prog.elem 22 = 5 by kernel_rfl, show (sizeOf 5).run Tryz.prog w = .ok 1 w by kernel_rfl] at h1
  simp only [Result.andThen_ok, Int.toNat_natCast, Addr.add_mid, Nat.mul_one, Nat.zero_add] at h1
  unfold execOp
  rw [ho]
  simp [hx, hy, h1]
theorem st_lenB (x : Operand) (ho : o.op = .call { callee := .builtin .len, args := #[x], argTypes := #[22] }) {p : Option Addr} {n C : Nat} (hx : a.eval x = .slice p n C) : o.wp Tryz.prog a w (Ends a o.dst w (Fk.eq (.int .i64 (n : Int))).f) Q := by
  refine st_pure (v := .int .i64 (n : Int)) ?_ rfl
  have h1 := run_len_slice (P := Tryz.prog) (w := w) 22 o.type p n C (by rw [show Tryz.prog.elem 22 = 5 by kernel_rfl]; kernel_rfl)
  unfold execOp
  simp [ho, resolve, invoke, builtin, hx, h1, goInt]
theorem wl_makeB (hgd : o.guard = none) (x y : Operand) (ho : o.op = .makeSlice 22 x y) (d : Nat) (hd : o.dst = some d) (hsz : d < a.tmps.size) (n : Nat) (hn : n ≤ 100000) (hx : a.eval x = .int .i64 (n : Int)) (hy : a.eval y = .int .i64 (n : Int))
    (h : ∀ a2 w2 g, a2.defers = a.defers → a2.tmps.size = a.tmps.size → (∀ t, (t == d) = false → a2.eval (.tmp t) = a.eval (.tmp t)) → a2.eval (.tmp d) = .slice (some ⟨g, 0, none⟩) n n → w.heap.size ≤ g → Ob w2 g 5 ((zs n).map V) → Below w.heap.size w w2 → wpList Tryz.prog ops Q rest a2 w2) : wpList Tryz.prog ops Q (o :: rest) a w := by
  have hr : (Instr.makeSlice 22 (.int .i64 (n : Int)) (.int .i64 (n : Int))).run Tryz.prog w = .ok (.slice (some ⟨w.heap.size, 0, none⟩) n n) (w.alloc (.cells ((zs n).map V).toArray 5)) := by
    obtain ⟨i0, hi, hz0, hz1, hz2⟩ := info_parts Tryz.info5
    have := run_make (P := Tryz.prog) w 22 5 i0 (.int .u8 0) Tryz.under22 hi hz0 .i64 .i64 (n : Int) (n : Int) (by omega) (by omega) (by rw [hz2]; omega) (by omega)
    rw [hz1, Int.toNat_natCast, Nat.mul_one, made_eq] at this
    exact this
  unfold wpList
  rw [if_pos (by unfold Region.wanted; rw [hgd])]
  refine .inl ?_
  unfold Oper.wp execOp
  simp only [ho, Sem.run_bind, Sem.run_pure, Result.andThen_ok, hx, hy, hr]
  refine h _ _ w.heap.size (put_def _ _ _) (put_size _ _ _) (fun t ht => ?_) ?_ (Nat.le_refl _) (heap_alloc_new _ _) ((Below.refl _ _).alloc (Nat.le_refl _) _)
  · rw [hd]
    exact put_eval_other _ _ _ _ (fun e => by subst e; simp at ht)
  · rw [hd, put_eval_same _ _ _ hsz]
end
end Go.Proofs.YtakdpkoigijonaaGreat
namespace Go.Proofs.YtakdpkoigijonaaGreat
set_option maxRecDepth 100000
open Go.RowKit
open Go.ChangeMaps (setBlock)
/-- What a list of keys and values has at a key. -/
def mget : List (Int × Value) → Int → Option Value
  | [], _ => none
  | p :: r, k => if p.1 = k then some p.2 else mget r k
def mput (l : List (Int × Value)) (k : Int) (v : Value) : List (Int × Value) := if (mget l k).isSome then l.map (fun p => if p.1 = k then (k, v) else p) else l ++ [(k, v)]
def mdel (l : List (Int × Value)) (k : Int) : List (Int × Value) := l.filter fun p => decide (p.1 ≠ k)
theorem mget_none {l : List (Int × Value)} {k : Int} : mget l k = none ↔ ∀ p ∈ l, p.1 ≠ k := by
  induction l with
  | nil => simp [mget]
  | cons p r ih =>
    unfold mget
    by_cases h : p.1 = k
    · simp [h]
    · simp [h, ih]
theorem mget_mem {l : List (Int × Value)} {k : Int} {v : Value} (h : mget l k = some v) : (k, v) ∈ l := by
  induction l with
  | nil => cases h
  | cons p r ih =>
    unfold mget at h
    by_cases h1 : p.1 = k
    · rw [if_pos h1] at h
      have : p = (k, v) := by rw [← h1, ← Option.some.inj h]
      rw [this]; exact List.mem_cons_self
    · rw [if_neg h1] at h
      exact List.mem_cons_of_mem _ (ih h)
theorem mget_of_mem {l : List (Int × Value)} (hn : (l.map (·.1)).Nodup) {k : Int} {v : Value} (h : (k, v) ∈ l) : mget l k = some v := by
  induction l with
  | nil => cases h
  | cons p r ih =>
    rw [List.map_cons, List.nodup_cons] at hn
    unfold mget
    rcases List.mem_cons.1 h with h1 | h1
    · rw [← h1]; simp
    · have h2 : p.1 ≠ k := fun e => hn.1 (by rw [e]; exact List.mem_map.2 ⟨(k, v), h1, rfl⟩)
      rw [if_neg h2]
      exact ih hn.2 h1
theorem mget_append {l : List (Int × Value)} {k : Int} {v : Value} (h : mget l k = none) (j : Int) : mget (l ++ [(k, v)]) j = if j = k then some v else mget l j := by
  induction l with
  | nil =>
    simp only [List.nil_append, mget]
    by_cases e : j = k
    · simp [e]
    · rw [if_neg e, if_neg (fun h => e h.symm)]
  | cons p r ih =>
    have hr : mget r k = none := by
      unfold mget at h
      by_cases h1 : p.1 = k
      · rw [if_pos h1] at h; cases h
      · rw [if_neg h1] at h; exact h
    have hp : p.1 ≠ k := mget_none.1 h p List.mem_cons_self
    rw [List.cons_append, mget, ih hr, mget]
    by_cases e : p.1 = j
    · rw [if_pos e, if_pos e, if_neg (fun e2 => hp (e.trans e2))]
    · rw [if_neg e, if_neg e]
theorem mget_over {l : List (Int × Value)} {k : Int} {v : Value} (h : (mget l k).isSome = true) (j : Int) : mget (l.map (fun p => if p.1 = k then (k, v) else p)) j = if j = k then some v else mget l j := by
  induction l with
  | nil => cases h
  | cons p r ih =>
    rw [List.map_cons, mget, mget]
    by_cases h1 : p.1 = k
    · rw [if_pos h1]
      dsimp only
      by_cases e : j = k
      · rw [if_pos e.symm, if_pos e]
      · rw [if_neg (fun e2 => e e2.symm), if_neg e, if_neg (fun e2 => e (e2.symm.trans h1))]
        have : ∀ r : List (Int × Value), mget (r.map (fun p => if p.1 = k then (k, v) else p)) j = mget r j := by
          intro r
          induction r with
          | nil => rfl
          | cons q r ih =>
            rw [List.map_cons, mget, mget, ih]
            by_cases h3 : q.1 = k
            · rw [if_pos h3]
              dsimp only
              rw [if_neg (fun e2 => e e2.symm), if_neg (fun e2 => e (e2.symm.trans h3))]
            · rw [if_neg h3]
        exact this r
    · rw [if_neg h1]
      have hr : (mget r k).isSome = true := by unfold mget at h; rw [if_neg h1] at h; exact h
      rw [ih hr]
      by_cases e : p.1 = j
      · rw [if_pos e, if_pos e, if_neg (fun e2 => h1 (e.trans e2))]
      · rw [if_neg e, if_neg e]
theorem mget_put (l : List (Int × Value)) (k : Int) (v : Value) (j : Int) : mget (mput l k v) j = if j = k then some v else mget l j := by
  unfold mput
  by_cases h : (mget l k).isSome = true
  · rw [if_pos h]; exact mget_over h j
  · rw [if_neg h]; exact mget_append (by simpa using h) j
theorem mget_del (l : List (Int × Value)) (k j : Int) : mget (mdel l k) j = if j = k then none else mget l j := by
  unfold mdel
  induction l with
  | nil => simp [mget]
  | cons p r ih =>
    rw [List.filter_cons]
    by_cases h1 : p.1 = k
    · rw [if_neg (by simp [h1]), ih, mget]
      by_cases e : j = k
      · rw [if_pos e, if_pos e]
      · rw [if_neg e, if_neg e, if_neg (fun e2 => e (e2.symm.trans h1))]
    · rw [if_pos (by simp [h1]), mget, mget, ih]
      by_cases e : p.1 = j
      · rw [if_pos e, if_pos e, if_neg (fun e2 => h1 (e.trans e2))]
      · rw [if_neg e, if_neg e]
/-- No key comes twice, and each is a number of int. -/
structure Mok (l : List (Int × Value)) : Prop where
  keys : (l.map (·.1)).Nodup
  fits : ∀ p ∈ l, (Lit.int .i64 p.1).wf = true
theorem Mok.nil : Mok [] := ⟨List.nodup_nil, fun p hp => by cases hp⟩
theorem over_keys (l : List (Int × Value)) (k : Int) (v : Value) : (l.map (fun p => if p.1 = k then (k, v) else p)).map (·.1) = l.map (·.1) := by
  rw [List.map_map]
  refine List.map_congr_left fun p _ => ?_
  show (if p.1 = k then (k, v) else p).1 = p.1
  by_cases h : p.1 = k
  · rw [if_pos h]; exact h.symm
  · rw [if_neg h]
theorem Mok.put {l : List (Int × Value)} (h : Mok l) {k : Int} (hk : (Lit.int .i64 k).wf = true) (v : Value) : Mok (mput l k v) := by
  unfold mput
  by_cases h1 : (mget l k).isSome = true
  · rw [if_pos h1]
    refine ⟨by rw [over_keys]; exact h.keys, fun p hp => ?_⟩
    obtain ⟨q, hq, rfl⟩ := List.mem_map.1 hp
    by_cases h2 : q.1 = k
    · rw [if_pos h2]; exact hk
    · rw [if_neg h2]; exact h.fits q hq
  · rw [if_neg h1]
    have h2 := mget_none.1 (show mget l k = none by simpa using h1)
    refine ⟨?_, fun p hp => ?_⟩
    · rw [List.map_append, List.nodup_append]
      refine ⟨h.keys, by simp, fun a ha b hb => ?_⟩
      obtain ⟨p, hp, rfl⟩ := List.mem_map.1 ha
      have : b = k := by simpa using hb
      rw [this]; exact h2 p hp
    · rcases List.mem_append.1 hp with h3 | h3
      · exact h.fits p h3
      · have : p = (k, v) := by simpa using h3
        rw [this]; exact hk
theorem Mok.del {l : List (Int × Value)} (h : Mok l) (k : Int) : Mok (mdel l k) := ⟨(List.filter_sublist.map _).nodup h.keys, fun p hp => h.fits p (List.mem_filter.1 hp).1⟩
/-- The entries of a map are this list. -/
def Ents (es : Array MapEntry) (clock : Nat) (l : List (Int × Value)) : Prop := es.toList.map (fun e => (e.key, e.val)) = l.map (fun p => (Value.int .i64 p.1, p.2)) ∧ (es.toList.map (·.born)).Nodup ∧ ∀ e ∈ es.toList, e.born < clock
/-- Block b is a map that has these. -/
def Im (w : World) (b : Nat) (l : List (Int × Value)) : Prop := Mok l ∧ ∃ es clock, w.heap[b]? = some (.map es clock) ∧ Ents es clock l
theorem Im.ok {w : World} {b : Nat} {l : List (Int × Value)} (h : Im w b l) : Mok l := h.1
theorem Im.lt {w : World} {b : Nat} {l : List (Int × Value)} (h : Im w b l) : b < w.heap.size := by
  obtain ⟨_, es, clock, hb, _⟩ := h
  exact (Array.getElem?_eq_some_iff.1 hb).1
theorem Im.keep {w w' : World} {b : Nat} {l : List (Int × Value)} (h : Im w b l) (hb : w'.heap[b]? = w.heap[b]?) : Im w' b l := by
  obtain ⟨ho, es, clock, h1, h2⟩ := h
  exact ⟨ho, es, clock, by rw [hb]; exact h1, h2⟩
theorem Im.below {w w' : World} {b : Nat} {l : List (Int × Value)} (h : Im w b l) (hb : Below w.heap.size w w') : Im w' b l := h.keep (hb.block b h.lt)
theorem Im.only {w w' : World} {b g : Nat} {l : List (Int × Value)} (h : Im w b l) (hb : Only g w w') (hne : b ≠ g) : Im w' b l := h.keep (hb.block b h.lt hne)
theorem only_setBlock (w : World) (b : Nat) (o : Obj) : Only b w (setBlock w b o) := ⟨rfl, rfl, rfl, by simp [setBlock], fun k _ hk => by simp [setBlock, Ne.symm hk]⟩
theorem get_setBlock {w : World} {b : Nat} (hlt : b < w.heap.size) (o : Obj) : (setBlock w b o).heap[b]? = some o := by simp [setBlock, hlt]
theorem Ents.at {es : Array MapEntry} {clock : Nat} {l : List (Int × Value)} (h : Ents es clock l) {j : Nat} {e : MapEntry} (hj : es.toList[j]? = some e) : ∃ k, e.key = .int .i64 k ∧ l[j]? = some (k, e.val) := by
  have h1 := congrArg (fun x => x[j]?) h.1
  simp only [List.getElem?_map, hj, Option.map_some] at h1
  cases hl : l[j]? with
  | none => rw [hl] at h1; cases h1
  | some p =>
    rw [hl] at h1
    simp only [Option.map_some, Option.some.injEq, Prod.mk.injEq] at h1
    exact ⟨p.1, h1.1, by rw [h1.2]⟩
theorem Ents.mem {es : Array MapEntry} {clock : Nat} {l : List (Int × Value)} (h : Ents es clock l) {e : MapEntry} (he : e ∈ es.toList) : ∃ k, e.key = .int .i64 k ∧ (k, e.val) ∈ l := by
  obtain ⟨j, hj⟩ := List.mem_iff_getElem?.1 he
  obtain ⟨k, h1, h2⟩ := h.at hj
  exact ⟨k, h1, List.mem_of_getElem? h2⟩
theorem Ents.of_mem {es : Array MapEntry} {clock : Nat} {l : List (Int × Value)} (h : Ents es clock l) {k : Int} {v : Value} (hk : (k, v) ∈ l) : ∃ e ∈ es.toList, e.key = .int .i64 k ∧ e.val = v := by
  have h1 : (Value.int .i64 k, v) ∈ l.map (fun p => (Value.int .i64 p.1, p.2)) := List.mem_map.2 ⟨(k, v), hk, rfl⟩
  rw [← h.1] at h1
  obtain ⟨e, he, e2⟩ := List.mem_map.1 h1
  simp only [Prod.mk.injEq] at e2
  exact ⟨e, he, e2.1, e2.2⟩
section
variable {P : Program} {t e : TypeId}
theorem key3 (h3 : P.underlying 3 = some (.int .i64)) {k : Int} (hk : (Lit.int .i64 k).wf = true) : keyOf P 3 (.int .i64 k) = some (.int .i64 k) := Maps.keyOf_int_mk h3 hk
theorem ents_keys (h3 : P.underlying 3 = some (.int .i64)) {es : Array MapEntry} {clock : Nat} {l : List (Int × Value)} (h : Ents es clock l) (ho : Mok l) : ∀ e ∈ es.toList, ∃ x, keyOf P 3 e.key = some x := fun e he => by
  obtain ⟨k, h1, h2⟩ := h.mem he
  rw [h1]
  exact ⟨_, key3 h3 (ho.fits _ h2)⟩
/-- Looking for a key. -/
theorem im_find (h3 : P.underlying 3 = some (.int .i64)) {w : World} {es : Array MapEntry} {clock : Nat} {l : List (Int × Value)} (h : Ents es clock l) (ho : Mok l) {k : Int} (hk : (Lit.int .i64 k).wf = true) :
    ((Instr.findKey 3 (.int .i64 k) es.toList).run P w = .ok none w ∧ mget l k = none) ∨ ∃ j e, (Instr.findKey 3 (.int .i64 k) es.toList).run P w = .ok (some (j, e.val)) w ∧ es.toList[j]? = some e ∧ e.key = .int .i64 k ∧ mget l k = some e.val := by
  rcases (Maps.int_keyed h3).find w (key3 h3 hk) es.toList (ents_keys h3 h ho) with ⟨h1, h2⟩ | ⟨j, e, h1, h2, h4⟩
  · refine .inl ⟨h1, mget_none.2 fun p hp e => ?_⟩
    obtain ⟨x, hx, e1, _⟩ := h.of_mem (k := p.1) (v := p.2) hp
    exact h2 x hx (by rw [e1, e])
  · refine .inr ⟨j, e, h1, h2, h4, ?_⟩
    obtain ⟨k', e1, e2⟩ := h.at h2
    rw [h4] at e1
    obtain rfl : k = k' := by injection e1
    exact mget_of_mem ho.keys (List.mem_of_getElem? e2)
/-- m[k] with ok. -/
theorem run_lookupI (h3 : P.underlying 3 = some (.int .i64)) (ht : P.underlying t = some (.map 3 e)) {w : World} {z : Value} (hz : (zeroValue e).run P w = .ok z w) {b : Nat} {l : List (Int × Value)} (h : Im w b l) {k : Int} (hk : (Lit.int .i64 k).wf = true) :
    (Instr.lookup t (.map (some b)) (.int .i64 k) true).run P w = .ok (.tuple #[(mget l k).getD z, .bool (mget l k).isSome]) w := by
  obtain ⟨ho, es, clock, hb, hE⟩ := h
  have hc := (Maps.int_keyed h3).check w es.isEmpty (key3 h3 hk)
  have hg := MapKept.run_getObj_map (P := P) hb
  rcases im_find (w := w) h3 hE ho hk with ⟨h1, h2⟩ | ⟨j, e0, h1, _, _, h2⟩
  · rw [h2]
    simp [Instr.lookup, run_underlying ht, hg, hc, h1, hz, Result.andThen]
  · rw [h2]
    simp [Instr.lookup, run_underlying ht, hg, hc, h1, Result.andThen]
/-- m[k] = v. -/
theorem run_updateI (h3 : P.underlying 3 = some (.int .i64)) (ht : P.underlying t = some (.map 3 e)) {w : World} {b : Nat} {l : List (Int × Value)} (h : Im w b l) {k : Int} (hk : (Lit.int .i64 k).wf = true) (v : Value) :
    ∃ w', (Instr.mapUpdate t (.map (some b)) (.int .i64 k) v).run P w = .ok () w' ∧ Im w' b (mput l k v) ∧ Only b w w' := by
  obtain ⟨ho, es, clock, hb, hE⟩ := h
  have hc := (Maps.int_keyed h3).check w false (key3 h3 hk)
  have hs := (Maps.int_keyed h3).stays w (key3 h3 hk)
  have hg := MapKept.run_getObj_map (P := P) hb
  have hlt := (Array.getElem?_eq_some_iff.1 hb).1
  rcases im_find (w := w) h3 hE ho hk with ⟨h1, h2⟩ | ⟨j, e0, h1, h4, h5, h2⟩
  · refine ⟨setBlock w b (.map (es.push ⟨.int .i64 k, v, clock⟩) (clock + 1)), ?_, ⟨ho.put hk v, es.push ⟨.int .i64 k, v, clock⟩, clock + 1, get_setBlock hlt _, ?_, ?_, ?_⟩, only_setBlock _ _ _⟩
    · simp [Instr.mapUpdate, run_underlying ht, hg, hc, h1, MapKept.run_setObj_map _ hb, Result.andThen, setBlock]
    · unfold mput
      rw [h2]
      simp [hE.1]
    · rw [Array.toList_push, List.map_append, List.nodup_append]
      refine ⟨hE.2.1, by simp, fun a ha b hb => ?_⟩
      obtain ⟨x, hx, rfl⟩ := List.mem_map.1 ha
      have : b = clock := by simpa using hb
      have := hE.2.2 x hx
      omega
    · intro x hx
      rw [Array.toList_push] at hx
      rcases List.mem_append.1 hx with h6 | h6
      · have := hE.2.2 x h6; omega
      · have : x = ⟨.int .i64 k, v, clock⟩ := by simpa using h6
        rw [this]; exact Nat.lt_succ_self _
  · have hj : es[j]? = some e0 := by rw [← Array.getElem?_toList]; exact h4
    have hjl : j < es.size := (Array.getElem?_eq_some_iff.1 hj).1
    have hl2 : (es.modify j fun e => { e with key := .int .i64 k, val := v }).toList = es.toList.modify j fun e => { e with key := .int .i64 k, val := v } := by simp
    refine ⟨setBlock w b (.map (es.modify j fun e => { e with key := .int .i64 k, val := v }) clock), ?_, ⟨ho.put hk v, es.modify j fun e => { e with key := .int .i64 k, val := v }, clock, get_setBlock hlt _, ?_, ?_, ?_⟩, only_setBlock _ _ _⟩
    · have h6 : ((es[j]?).map (·.key)).getD (.int .i64 k) = .int .i64 k := by rw [hj]; simp [h5]
      simp [Instr.mapUpdate, run_underlying ht, hg, hc, h1, h6, hs, MapKept.run_setObj_map _ hb, Result.andThen, setBlock]
    · rw [hl2]
      unfold mput
      rw [h2]
      simp only [Option.isSome_some, if_true]
      apply List.ext_getElem?
      intro i
      rw [List.getElem?_map, List.getElem?_map, List.getElem?_map, List.getElem?_modify]
      have h7 := congrArg (fun x => x[i]?) hE.1
      simp only [List.getElem?_map] at h7
      by_cases hij : j = i
      · subst hij
        obtain ⟨k', e1, e2⟩ := hE.at h4
        rw [h5] at e1
        obtain rfl : k = k' := by injection e1
        simp [h4, e2]
      · cases hl : l[i]? with
        | none =>
          rw [hl] at h7
          cases hx : es.toList[i]? with
          | none => simp
          | some x => rw [hx] at h7; cases h7
        | some p =>
          rw [hl] at h7
          cases hx : es.toList[i]? with
          | none => rw [hx] at h7; cases h7
          | some x =>
            rw [hx] at h7
            have hpk : p.1 ≠ k := by
              obtain ⟨k', e1, e2⟩ := hE.at h4
              rw [h5] at e1
              obtain rfl : k = k' := by injection e1
              intro e
              have h8 : (l.map (·.1))[i]? = some k := by rw [List.getElem?_map, hl]; simp [e]
              have h9 : (l.map (·.1))[j]? = some k := by rw [List.getElem?_map, e2]; rfl
              have hi9 := (List.getElem?_eq_some_iff.1 h8)
              have hj9 := (List.getElem?_eq_some_iff.1 h9)
              obtain ⟨hi1, hi2⟩ := hi9
              obtain ⟨hj1, hj2⟩ := hj9
              have hp9 := List.pairwise_iff_getElem.1 ho.keys
              rcases Nat.lt_or_gt_of_ne hij with h10 | h10
              · exact hp9 j i hj1 hi1 h10 (hj2.trans hi2.symm)
              · exact hp9 i j hi1 hj1 h10 (hi2.trans hj2.symm)
            simp only [Option.map_some, Option.some.injEq] at h7
            simp [hij, hpk, h7]
    · rw [hl2]
      have : (es.toList.modify j fun e => { e with key := .int .i64 k, val := v }).map (·.born) = es.toList.map (·.born) := by
        apply List.ext_getElem?
        intro i
        rw [List.getElem?_map, List.getElem?_map, List.getElem?_modify]
        cases es.toList[i]? with
        | none => simp
        | some x => by_cases hij : j = i <;> simp [hij]
      rw [this]
      exact hE.2.1
    · intro x hx
      rw [hl2] at hx
      obtain ⟨i, hi⟩ := List.mem_iff_getElem?.1 hx
      rw [List.getElem?_modify] at hi
      cases hy : es.toList[i]? with
      | none => rw [hy] at hi; simp at hi
      | some y =>
        rw [hy] at hi
        have := hE.2.2 y (List.mem_of_getElem? hy)
        by_cases hij : j = i
        · simp [hij] at hi; rw [← hi]; exact this
        · simp [hij] at hi; rw [← hi]; exact this
theorem filter_erase : ∀ {l : List (Int × Value)}, (l.map (·.1)).Nodup → ∀ {j : Nat} {k : Int} {v : Value}, l[j]? = some (k, v) → l.eraseIdx j = mdel l k
  | [], _, j, k, v, h => by simp at h
  | p :: r, hn, 0, k, v, h => by
    rw [List.map_cons, List.nodup_cons] at hn
    obtain rfl : p = (k, v) := by simpa using h
    show r = mdel ((k, v) :: r) k
    unfold mdel
    rw [List.filter_cons, if_neg (by simp)]
    refine (List.filter_eq_self.2 fun q hq => ?_).symm
    rw [decide_eq_true_iff]
    exact fun e => hn.1 (by rw [← e]; exact List.mem_map.2 ⟨q, hq, rfl⟩)
  | p :: r, hn, j + 1, k, v, h => by
    rw [List.map_cons, List.nodup_cons] at hn
    have h1 : r[j]? = some (k, v) := by simpa using h
    have hpk : p.1 ≠ k := fun e => hn.1 (by rw [e]; exact List.mem_map.2 ⟨(k, v), List.mem_of_getElem? h1, rfl⟩)
    have ih := filter_erase hn.2 h1
    unfold mdel at ih ⊢
    rw [List.filter_cons, if_pos (by simp [hpk]), List.eraseIdx_cons_succ, ih]
theorem mdel_none {l : List (Int × Value)} {k : Int} (h : mget l k = none) : mdel l k = l := List.filter_eq_self.2 fun q hq => by rw [decide_eq_true_iff]; exact mget_none.1 h q hq
/-- delete(m, k). -/
theorem run_deleteI (h3 : P.underlying 3 = some (.int .i64)) (ht : P.underlying t = some (.map 3 e)) {w : World} {b : Nat} {l : List (Int × Value)} (h : Im w b l) {k : Int} (hk : (Lit.int .i64 k).wf = true) (t2 ty : TypeId) :
    ∃ w', (Builtin.delete_ #[t, t2] ty #[.map (some b), .int .i64 k]).run P w = .ok (.tuple #[]) w' ∧ Im w' b (mdel l k) ∧ Only b w w' := by
  obtain ⟨ho, es, clock, hb, hE⟩ := h
  have hc := (Maps.int_keyed h3).check w es.isEmpty (key3 h3 hk)
  have hg := MapKept.run_getObj_map (P := P) hb
  have hlt := (Array.getElem?_eq_some_iff.1 hb).1
  rcases im_find (w := w) h3 hE ho hk with ⟨h1, h2⟩ | ⟨j, e0, h1, h4, h5, h2⟩
  · refine ⟨setBlock w b (.map es clock), ?_, ⟨ho.del k, es, clock, get_setBlock hlt _, by rw [mdel_none h2]; exact hE⟩, only_setBlock _ _ _⟩
    simp [Builtin.delete_, run_underlying ht, hg, hc, h1, MapKept.run_setObj_map _ hb, Result.andThen, setBlock]
  · obtain ⟨k', e1, e2⟩ := hE.at h4
    rw [h5] at e1
    obtain rfl : k = k' := by injection e1
    have hl2 : (es.eraseIdxIfInBounds j).toList = es.toList.eraseIdx j := by simp
    refine ⟨setBlock w b (.map (es.eraseIdxIfInBounds j) clock), ?_, ⟨ho.del k, es.eraseIdxIfInBounds j, clock, get_setBlock hlt _, ?_, ?_, ?_⟩, only_setBlock _ _ _⟩
    · simp [Builtin.delete_, run_underlying ht, hg, hc, h1, MapKept.run_setObj_map _ hb, Result.andThen, setBlock]
    · rw [hl2, ← filter_erase ho.keys e2, ChangeMaps.map_eraseIdx, hE.1, ChangeMaps.map_eraseIdx]
    · rw [hl2, ChangeMaps.map_eraseIdx]
      exact (List.eraseIdx_sublist _ _).nodup hE.2.1
    · intro x hx
      rw [hl2] at hx
      exact hE.2.2 x ((List.eraseIdx_sublist _ _).subset hx)
/-- clear(m). -/
theorem run_clearI (ht : P.underlying t = some (.map 3 e)) {w : World} {b : Nat} {l : List (Int × Value)} (h : Im w b l) (ty : TypeId) :
    ∃ w', (Builtin.clear_ #[t] ty #[.map (some b)]).run P w = .ok (.tuple #[]) w' ∧ Im w' b [] ∧ Only b w w' := by
  obtain ⟨ho, es, clock, hb, hE⟩ := h
  have hg := MapKept.run_getObj_map (P := P) hb
  have hlt := (Array.getElem?_eq_some_iff.1 hb).1
  refine ⟨setBlock w b (.map #[] clock), ?_, ⟨Mok.nil, #[], clock, get_setBlock hlt _, ⟨rfl, by simp, fun x hx => by simp at hx⟩⟩, only_setBlock _ _ _⟩
  simp [Builtin.clear_, run_underlying ht, hg, MapKept.run_setObj_map _ hb, Result.andThen, setBlock]
/-- make(map[int]T). -/
theorem run_makeI (w : World) : (Instr.makeMap t none).run P w = .ok (.map (some w.heap.size)) (w.alloc (.map #[] 0)) ∧ Im (w.alloc (.map #[] 0)) w.heap.size [] := by
  exact ⟨run_makeMap t w, Mok.nil, #[], 0, (MapKept.heap_alloc w _).1, ⟨rfl, by simp, fun x hx => by simp at hx⟩⟩
/-- Block r goes through the map at b, which has the list l; V has come. -/
def It (w : World) (r b : Nat) (l V : List (Int × Value)) : Prop := Mok l ∧ ∃ (es : Array MapEntry) (clock since : Nat) (seen : Array Nat) (vs : List MapEntry), w.heap[b]? = some (.map es clock) ∧ Ents es clock l ∧ w.heap[r]? = some (.mapIter (some b) since seen clock) ∧ since = clock ∧
  seen.toList = vs.map (·.born) ∧ (∀ x ∈ vs, x ∈ es.toList) ∧ (vs.map (·.born)).Nodup ∧ vs.map (fun e => (e.key, e.val)) = V.map (fun p => (Value.int .i64 p.1, p.2))
theorem It.im {w : World} {r b : Nat} {l V : List (Int × Value)} (h : It w r b l V) : Im w b l := by
  obtain ⟨ho, es, clock, since, seen, vs, hb, hE, _⟩ := h
  exact ⟨ho, es, clock, hb, hE⟩
theorem It.lt {w : World} {r b : Nat} {l V : List (Int × Value)} (h : It w r b l V) : r < w.heap.size ∧ b < w.heap.size ∧ r ≠ b := by
  obtain ⟨ho, es, clock, since, seen, vs, hb, hE, hr, _⟩ := h
  exact ⟨(Array.getElem?_eq_some_iff.1 hr).1, (Array.getElem?_eq_some_iff.1 hb).1, fun e => by rw [e, hb] at hr; cases hr⟩
theorem It.keep {w w' : World} {r b : Nat} {l V : List (Int × Value)} (h : It w r b l V) (h1 : w'.heap[r]? = w.heap[r]?) (h2 : w'.heap[b]? = w.heap[b]?) : It w' r b l V := by
  obtain ⟨ho, es, clock, since, seen, vs, hb, hE, hr, rest⟩ := h
  exact ⟨ho, es, clock, since, seen, vs, by rw [h2]; exact hb, hE, by rw [h1]; exact hr, rest⟩
theorem It.sub {w : World} {r b : Nat} {l V : List (Int × Value)} (h : It w r b l V) : ∀ p ∈ V, p ∈ l := by
  obtain ⟨ho, es, clock, since, seen, vs, hb, hE, hr, _, _, hvs, _, hV⟩ := h
  intro p hp
  have : (Value.int .i64 p.1, p.2) ∈ V.map (fun p => (Value.int .i64 p.1, p.2)) := List.mem_map.2 ⟨p, hp, rfl⟩
  rw [← hV] at this
  obtain ⟨x, hx, e⟩ := List.mem_map.1 this
  obtain ⟨k, h1, h2⟩ := hE.mem (hvs x hx)
  simp only [Prod.mk.injEq] at e
  rw [e.1] at h1
  have hk : p.1 = k := by injection h1
  rw [← hk, e.2] at h2
  exact h2
/-- for .. range m: the iterator is made. -/
theorem run_rangeI (ht : P.underlying t = some (.map 3 e)) {w : World} {b : Nat} {l : List (Int × Value)} (h : Im w b l) :
    ∃ w', (Instr.range t (.map (some b))).run P w = .ok (.pointer (some ⟨w.heap.size, 0, none⟩)) w' ∧ It w' w.heap.size b l [] ∧ Below w.heap.size w w' := by
  obtain ⟨ho, es, clock, hb, hE⟩ := h
  have hg := MapKept.run_getObj_map (P := P) hb
  have hlt := (Array.getElem?_eq_some_iff.1 hb).1
  refine ⟨w.alloc (.mapIter (some b) clock #[] clock), ?_, ⟨ho, es, clock, clock, #[], [], ?_, hE, (MapKept.heap_alloc w _).1, rfl, rfl, fun x hx => by (cases hx), List.nodup_nil, rfl⟩, (Below.refl _ _).alloc (Nat.le_refl _) _⟩
  · exact run_range_map w t 3 e b es clock ht hb
  · have := ((Below.refl w.heap.size w).alloc (Nat.le_refl _) (.mapIter (some b) clock #[] clock)).block b hlt
    rw [this]; exact hb
/-- One step: nothing is left, or one that has not come comes. -/
theorem run_nextI {w : World} {r b : Nat} {l V : List (Int × Value)} (h : It w r b l V) (ty : TypeId) :
    ((∀ p ∈ l, p ∈ V) ∧ (Instr.next (.pointer (some ⟨r, 0, none⟩)) false ty).run P w = .ok (.tuple #[.bool false]) w) ∨
    ∃ p w', p ∈ l ∧ p ∉ V ∧ (Instr.next (.pointer (some ⟨r, 0, none⟩)) false ty).run P w = .ok (.tuple #[.bool true, .int .i64 p.1, p.2]) w' ∧ It w' r b l (V ++ [p]) ∧ Only r w w' := by
  have hlt := h.lt
  obtain ⟨ho, es, clock, since, seen, vs, hb, hE, hr, hsc, hseen, hvs, hvn, hV⟩ := h
  subst hsc
  have hmem : ∀ x ∈ es.toList, (x ∈ (leftOf es seen).toList ↔ x ∉ vs) := by
    intro x hx
    unfold leftOf
    rw [Array.toList_filter, List.mem_filter]
    have hc : seen.contains x.born = true ↔ x ∈ vs := by
      rw [Array.contains_iff_mem, ← Array.mem_toList_iff, hseen, List.mem_map]
      constructor
      · rintro ⟨y, hy, e⟩
        have hp := List.pairwise_iff_getElem.1 hE.2.1
        obtain ⟨i, hi⟩ := List.mem_iff_getElem?.1 hx
        obtain ⟨j, hj⟩ := List.mem_iff_getElem?.1 (hvs y hy)
        by_cases hij : i = j
        · subst hij
          rw [hi] at hj
          rw [Option.some.inj hj]
          exact hy
        · obtain ⟨i1, i2⟩ := List.getElem?_eq_some_iff.1 hi
          obtain ⟨j1, j2⟩ := List.getElem?_eq_some_iff.1 hj
          exfalso
          rcases Nat.lt_or_gt_of_ne hij with h10 | h10
          · exact hp i j (by simpa using i1) (by simpa using j1) h10 (by rw [List.getElem_map, List.getElem_map, i2, j2, e])
          · exact hp j i (by simpa using j1) (by simpa using i1) h10 (by rw [List.getElem_map, List.getElem_map, i2, j2, e])
      · intro h1
        exact ⟨x, h1, rfl⟩
    constructor
    · rintro ⟨_, h1⟩ h2
      rw [hc.2 h2] at h1
      cases h1
    · intro h1
      refine ⟨hx, ?_⟩
      cases h2 : seen.contains x.born with
      | false => rfl
      | true => exact absurd (hc.1 h2) h1
  have hkv : ∀ x ∈ es.toList, ∀ k, x.key = .int .i64 k → (x ∈ vs ↔ (k, x.val) ∈ V) := by
    intro x hx k hk
    constructor
    · intro h1
      have h2 : (x.key, x.val) ∈ vs.map (fun e => (e.key, e.val)) := List.mem_map.2 ⟨x, h1, rfl⟩
      rw [hV] at h2
      obtain ⟨p, hp, e⟩ := List.mem_map.1 h2
      simp only [Prod.mk.injEq] at e
      rw [hk] at e
      have e1 : p.1 = k := by have := e.1; injection this
      have : p = (k, x.val) := by rw [← e1, ← e.2]
      rw [← this]; exact hp
    · intro h1
      have h2 : (Value.int .i64 k, x.val) ∈ V.map (fun p => (Value.int .i64 p.1, p.2)) := List.mem_map.2 ⟨(k, x.val), h1, rfl⟩
      rw [← hV] at h2
      obtain ⟨y, hy, e⟩ := List.mem_map.1 h2
      simp only [Prod.mk.injEq] at e
      -- x and y have one key, so they are one
      obtain ⟨i, hi⟩ := List.mem_iff_getElem?.1 hx
      obtain ⟨j, hj⟩ := List.mem_iff_getElem?.1 (hvs y hy)
      obtain ⟨k1, a1, a2⟩ := hE.at hi
      obtain ⟨k2, b1, b2⟩ := hE.at hj
      rw [hk] at a1
      rw [e.1] at b1
      obtain rfl : k = k1 := by injection a1
      obtain rfl : k = k2 := by injection b1
      have hp := List.pairwise_iff_getElem.1 ho.keys
      by_cases hij : i = j
      · subst hij
        rw [hi] at hj
        rw [Option.some.inj hj]
        exact hy
      · exfalso
        obtain ⟨i1, i2⟩ := List.getElem?_eq_some_iff.1 a2
        obtain ⟨j1, j2⟩ := List.getElem?_eq_some_iff.1 b2
        rcases Nat.lt_or_gt_of_ne hij with h10 | h10
        · exact hp i j (by simpa using i1) (by simpa using j1) h10 (by rw [List.getElem_map, List.getElem_map, i2, j2])
        · exact hp j i (by simpa using j1) (by simpa using i1) h10 (by rw [List.getElem_map, List.getElem_map, i2, j2])
  rcases run_next_at (P := P) w ty r b since since seen es since hr hb hE.2.2 (Nat.le_refl _) with ⟨h0, hrun⟩ | ⟨x, hx, w1, hw1, hrun⟩
  · refine .inl ⟨fun p hp => ?_, hrun⟩
    obtain ⟨x, hx, e1, e2⟩ := hE.of_mem (k := p.1) (v := p.2) hp
    have h1 : x ∈ vs := by
      refine Classical.byContradiction fun h2 => ?_
      have h3 := (hmem x hx).2 h2
      have h4 : (leftOf es seen).toList = [] := List.eq_nil_of_length_eq_zero (by simpa using h0)
      rw [h4] at h3
      cases h3
    have := (hkv x hx p.1 e1).1 h1
    rw [e2] at this
    exact this
  · have hxe : x ∈ es.toList := by
      unfold leftOf at hx
      rw [Array.toList_filter] at hx
      exact (List.mem_filter.1 hx).1
    have hxv := (hmem x hxe).1 hx
    obtain ⟨k, e1, e2⟩ := hE.mem hxe
    have hw : w1.heap = w.heap ∧ w1.os = w.os ∧ w1.tape = w.tape ∧ w1.output = w.output := by rcases hw1 with rfl | rfl <;> exact ⟨rfl, rfl, rfl, rfl⟩
    refine .inr ⟨(k, x.val), setBlock w1 r (.mapIter (some b) since (seen.push x.born) since), e2, fun h1 => hxv ((hkv x hxe k e1).2 h1), ?_, ⟨ho, es, since, since, seen.push x.born, vs ++ [x], ?_, hE, ?_, rfl, ?_, ?_, ?_, ?_⟩, ?_⟩
    · rw [hrun, e1]
    · have := (only_setBlock w1 r (.mapIter (some b) since (seen.push x.born) since)).block b (by rw [hw.1]; exact hlt.2.1) hlt.2.2.symm
      rw [this, hw.1]
      exact hb
    · exact get_setBlock (by rw [hw.1]; exact hlt.1) _
    · simp [hseen]
    · intro y hy
      rcases List.mem_append.1 hy with h1 | h1
      · exact hvs y h1
      · have : y = x := by simpa using h1
        rw [this]; exact hxe
    · rw [List.map_append, List.nodup_append]
      refine ⟨hvn, by simp, fun a ha c hc => ?_⟩
      have hcx : c = x.born := by simpa using hc
      obtain ⟨y, hy, rfl⟩ := List.mem_map.1 ha
      rw [hcx]
      intro e
      have hp := List.pairwise_iff_getElem.1 hE.2.1
      obtain ⟨i, hi⟩ := List.mem_iff_getElem?.1 hxe
      obtain ⟨j, hj⟩ := List.mem_iff_getElem?.1 (hvs y hy)
      by_cases hij : i = j
      · subst hij
        rw [hi] at hj
        exact hxv (by rw [Option.some.inj hj]; exact hy)
      · obtain ⟨i1, i2⟩ := List.getElem?_eq_some_iff.1 hi
        obtain ⟨j1, j2⟩ := List.getElem?_eq_some_iff.1 hj
        rcases Nat.lt_or_gt_of_ne hij with h10 | h10
        · exact hp i j (by simpa using i1) (by simpa using j1) h10 (by rw [List.getElem_map, List.getElem_map, i2, j2, e])
        · exact hp j i (by simpa using j1) (by simpa using i1) h10 (by rw [List.getElem_map, List.getElem_map, i2, j2, e])
    · simp [hV, e1]
    · have := only_setBlock w1 r (.mapIter (some b) since (seen.push x.born) since)
      exact ⟨this.os.trans hw.2.1, this.tape.trans hw.2.2.1, this.output.trans hw.2.2.2, by rw [← hw.1]; exact this.size, fun j hj hne => by rw [this.block j (by rw [hw.1]; exact hj) hne, hw.1]⟩
/-- The entry that has come, asked again. -/
theorem run_entryI {w : World} {r b : Nat} {l V : List (Int × Value)} {p : Int × Value} (h : It w r b l (V ++ [p])) : (Instr.entry (.pointer (some ⟨r, 0, none⟩))).run P w = .ok (.tuple #[.int .i64 p.1, p.2]) w := by
  obtain ⟨ho, es, clock, since, seen, vs, hb, hE, hr, hsc, hseen, hvs, hvn, hV⟩ := h
  rcases List.eq_nil_or_concat vs with h1 | ⟨vs0, x, h1⟩
  · rw [h1] at hV; simp at hV
  · rw [List.concat_eq_append] at h1
    subst h1
    rw [List.map_append, List.map_append] at hV
    have h2 := List.append_inj_right' hV (by simp)
    simp only [List.map_cons, List.map_nil, List.cons.injEq, Prod.mk.injEq, and_true] at h2
    have h3 : seen = (vs0.map (·.born)).toArray.push x.born := by
      apply Array.toList_inj.1
      rw [hseen]; simp
    rw [h3] at hr
    rw [run_entry_at w r b since _ es clock x hr hb (hvs x (by simp)) hE.2.1, h2.1, h2.2]
end
end Go.Proofs.YtakdpkoigijonaaGreat
namespace Go.Proofs.YtakdpkoigijonaaGreat
set_option maxRecDepth 100000
open Go.RowKit
theorem Fr.mono {S T : Nat → Prop} {w w1 : World} (h : Fr S w w1) (hT : ∀ j, S j → T j) : Fr T w w1 := ⟨h.os, h.tape, h.output, h.size, fun j hj h1 => h.block j hj (fun q => h1 (hT j q))⟩
/-- A slice of bytes, not empty, in a block of its kind. -/
def Fz (w : World) (N : Nat → Prop) (v : Value) (bs : List (BitVec 8)) : Prop := ∃ b c o, v = .slice (some ⟨b, o, none⟩) bs.length c ∧ bs.length ≤ c ∧ 0 < bs.length ∧ N b ∧ b < w.heap.size ∧ HasB w b o bs
theorem Fz.keep {w w' : World} {N N' : Nat → Prop} {v : Value} {bs : List (BitVec 8)} (h : Fz w N v bs) (hk : ∀ j, N j → j < w.heap.size → w'.heap[j]? = w.heap[j]?) (hz : w.heap.size ≤ w'.heap.size) (hN : ∀ j, N j → j < w.heap.size → N' j) : Fz w' N' v bs := by
  obtain ⟨b, c, o, e, h1, h2, h3, h4, h5⟩ := h
  exact ⟨b, c, o, e, h1, h2, hN b h3 h4, Nat.lt_of_lt_of_le h4 hz, fun i hi => by have := h5 i hi; simp only [World.cell?, hk b h3 h4] at this ⊢; exact this⟩
theorem Fz.sl {w : World} {N : Nat → Prop} {v : Value} {bs : List (BitVec 8)} (h : Fz w N v bs) : (Fk.sl bs).f v w := by
  obtain ⟨b, c, o, e, h1, h2, h3, h4, h5⟩ := h
  exact ⟨_, _, c, b, o, e, rfl, h1, (fun q => by cases q), fun _ => ⟨rfl, h4, h5⟩⟩
theorem Fz.one {w : World} {N : Nat → Prop} {v : Value} {bs : List (BitVec 8)} (h : Fz w N v bs) : v.oneCell' = true := by
  obtain ⟨b, c, o, rfl, _⟩ := h
  rfl
theorem Fz.pos {w : World} {N : Nat → Prop} {v : Value} {bs : List (BitVec 8)} (h : Fz w N v bs) : 0 < bs.length := by
  obtain ⟨b, c, o, e, h1, h2, _⟩ := h
  exact h2
/-- What the program keeps of the power. -/
def Pl (s : Dst) (pl : Int) : Prop := s.armed = decide (0 ≤ pl) ∧ (0 ≤ pl → s.left = pl) ∧ pl ≤ 9223372036854775807
/-- The program's disk in memory: its struct at g, its row of sectors at sb, its map at cb. -/
structure Dk (w : World) (g sb cb C : Nat) (pl : Int) (vs : Array Value) (l : List (Int × Value)) (M D : Nat → Prop) (s : Dst) : Prop where
  hM : ∀ j, M j ↔ (j = g ∨ j = sb ∨ j = cb)
  n1 : g ≠ sb
  n2 : g ≠ cb
  n3 : sb ≠ cb
  sub : ∀ j, M j → D j
  lt : ∀ j, D j → j < w.heap.size
  ob : Ob w g 51 [.int .i64 (s.size : Int), .slice (some ⟨sb, 0, none⟩) s.has.length C, .map (some cb), .int .i64 pl, .bool s.down, .int .i64 (s.done : Int)]
  row : w.heap[sb]? = some (.cells vs 22 (0, 0))
  im : Im w cb l
  pw : Pl s pl
  pos : 0 < s.size
  zmax : s.size ≤ 4096
  nmax : 0 < s.has.length ∧ s.has.length ≤ 65536
  cl : s.cch.length = s.has.length
  sec : ∀ (i : Nat) (bs : List (BitVec 8)), s.has[i]? = some bs → bs.length = s.size ∧ ∃ v, vs[i]? = some v ∧ Fz w (fun b => D b ∧ ¬ M b) v bs
  key : ∀ (k : Int) (v : Value), mget l k = some v → ∃ (i : Nat) (bs : List (BitVec 8)), k = i ∧ i < s.has.length ∧ s.cch[i]? = some bs ∧ bs.length = s.size ∧ Fz w (fun b => D b ∧ ¬ M b) v bs
  cch : ∀ (i : Nat) (bs : List (BitVec 8)), s.cch[i]? = some bs → bs ≠ [] → ∃ v, mget l (i : Int) = some v
/-- The program's disk: its struct's block, the blocks that it turns, all that are its own, what it holds. -/
def HD (w : World) (g : Nat) (M D : Nat → Prop) (s : Dst) : Prop := ∃ sb cb C pl vs l, Dk w g sb cb C pl vs l M D s
section
variable {w w' : World} {g sb cb C : Nat} {pl : Int} {vs : Array Value} {l : List (Int × Value)} {M D D' : Nat → Prop} {s : Dst}
theorem Dk.mg (r : Dk w g sb cb C pl vs l M D s) : M g := (r.hM g).2 (.inl rfl)
theorem Dk.ms (r : Dk w g sb cb C pl vs l M D s) : M sb := (r.hM sb).2 (.inr (.inl rfl))
theorem Dk.mc (r : Dk w g sb cb C pl vs l M D s) : M cb := (r.hM cb).2 (.inr (.inr rfl))
theorem Dk.keep (r : Dk w g sb cb C pl vs l M D s) (h : ∀ j, D j → w'.heap[j]? = w.heap[j]?) (hz : w.heap.size ≤ w'.heap.size) : Dk w' g sb cb C pl vs l M D s := by
  refine ⟨r.hM, r.n1, r.n2, r.n3, r.sub, fun j q => Nat.lt_of_lt_of_le (r.lt j q) hz, ?_, by rw [h _ (r.sub _ r.ms)]; exact r.row, r.im.keep (h _ (r.sub _ r.mc)), r.pw, r.pos, r.zmax, r.nmax, r.cl, fun i bs q => ?_, fun k v q => ?_, r.cch⟩
  · have := r.ob
    unfold Ob at *
    rw [h _ (r.sub _ r.mg)]
    exact this
  · obtain ⟨h1, v, h2, h3⟩ := r.sec i bs q
    exact ⟨h1, v, h2, h3.keep (fun j q _ => h j q.1) hz (fun _ q _ => q)⟩
  · obtain ⟨i, bs, h1, h2, h3, h4, h5⟩ := r.key k v q
    exact ⟨i, bs, h1, h2, h3, h4, h5.keep (fun j q _ => h j q.1) hz (fun _ q _ => q)⟩
theorem Dk.none_iff (r : Dk w g sb cb C pl vs l M D s) {i : Nat} {bs : List (BitVec 8)} (hb : s.cch[i]? = some bs) : bs = [] ↔ mget l (i : Int) = none := by
  constructor
  · intro e
    cases hq : mget l (i : Int) with
    | none => rfl
    | some v =>
      obtain ⟨i', bs', h1, _, h3, h4, _⟩ := r.key _ v hq
      obtain rfl : i = i' := by omega
      rw [hb] at h3
      cases h3
      rw [e] at h4
      have := r.pos
      simp at h4
      omega
  · intro e
    by_cases h : bs = []
    · exact h
    · obtain ⟨v, hv⟩ := r.cch i bs hb h
      rw [hv] at e
      cases e
theorem Dk.got (r : Dk w g sb cb C pl vs l M D s) {i : Nat} {bs : List (BitVec 8)} (hb : s.cch[i]? = some bs) {v : Value} (hv : mget l (i : Int) = some v) : bs ≠ [] ∧ Fz w (fun b => D b ∧ ¬ M b) v bs := by
  obtain ⟨i', bs', h1, _, h3, h4, h5⟩ := r.key _ v hv
  obtain rfl : i = i' := by omega
  rw [hb] at h3
  cases h3
  refine ⟨fun e => ?_, h5⟩
  rw [e] at h4
  have := r.pos
  simp at h4
  omega
theorem Dk.vsn (r : Dk w g sb cb C pl vs l M D s) {i : Nat} (hi : i < s.has.length) : i < vs.size := by
  obtain ⟨_, v, h2, _⟩ := r.sec i _ (List.getElem?_eq_getElem hi)
  exact (Array.getElem?_eq_some_iff.1 h2).1
theorem HD.lt (r : HD w g M D s) : ∀ j, D j → j < w.heap.size := by
  obtain ⟨_, _, _, _, _, _, r⟩ := r
  exact r.lt
theorem HD.sub (r : HD w g M D s) : ∀ j, M j → D j := by
  obtain ⟨_, _, _, _, _, _, r⟩ := r
  exact r.sub
theorem HD.keep (r : HD w g M D s) (h : ∀ j, D j → w'.heap[j]? = w.heap[j]?) (hz : w.heap.size ≤ w'.heap.size) : HD w' g M D s := by
  obtain ⟨_, _, _, _, _, _, r⟩ := r
  exact ⟨_, _, _, _, _, _, r.keep h hz⟩
theorem HD.below (r : HD w g M D s) (hb : Below w.heap.size w w') : HD w' g M D s := r.keep (fun j hj => hb.block j (r.lt j hj)) hb.size
end
end Go.Proofs.YtakdpkoigijonaaGreat
namespace Go.Proofs.YtakdpkoigijonaaGreat
set_option maxRecDepth 100000
open Go.RowKit
section
variable {P : Program} {ops : Array Oper} {Q : Exit → Act → World → Prop} {S : World → Prop} {o : Oper} {a : Act}
theorem wh_take (i : Nat) (d : Nat) {v : Value} {fuel : Nat} {listed : Array Bool} {w : World} (hi : ops[i]? = some o) (hd : o.dst = some d) (hsz : d < a.tmps.size) (hg : o.guard = none)
    (hs : Region.noSelect ops = true) (hf : Region.free .any ops listed i = true) (hr : (Region.ready .any ops listed).contains i = true)
    (hQ : ∀ c a w, Q (.panic c) (a.put o.dst v) w → Q (.panic c) a w) (hy : ∀ w, S w → (execOp a.eval o).run P w = .ok (.value v) w) (hS : S w)
    (h : ∀ a2, a2.defers = a.defers → a2.tmps.size = a.tmps.size → (∀ t, (t == d) = false → a2.eval (.tmp t) = a.eval (.tmp t)) → a2.eval (.tmp d) = v → wpAnyH P .any ops Q S fuel (listed.setIfInBounds i true) a2 w) : wpAnyH P .any ops Q S (fuel + 1) listed a w := by
  refine wpAnyH_take hi hs hf hr hQ (.inl ⟨by unfold Region.wanted; rw [hg], hy⟩) hS ?_
  rw [hd]
  exact h _ (put_def _ _ _) (put_size _ _ _) (fun t ht => put_eval_other _ _ _ _ (fun e => by subst e; simp at ht)) (put_eval_same _ _ _ hsz)
theorem wh_call (i : Nat) (d : Nat) {fuel : Nat} {listed : Array Bool} {w : World} (hi : ops[i]? = some o) (hd : o.dst = some d) (hsz : d < a.tmps.size) (hg : o.guard = none) (hr : (Region.ready .any ops listed == [i]) = true)
    (f : FuncId) (x : Operand) (xs : Array Operand) (ts : Array TypeId) (vs : Array Value) (ho : o.op = .call { callee := .value x, args := xs, argTypes := ts }) (hx : a.eval x = .func (.func f) #[] #[]) (hv : (xs.toList.map a.eval).toArray = vs)
    (hf : ∀ args w, (callFunc f args).run P w = .ok (.enter f args) w) (R : Value → World → Prop) (hc : Calls P f vs w fun e w' => ∃ v, e = .returned v ∧ R v w')
    (h : ∀ a2 w2, a2.defers = a.defers → a2.tmps.size = a.tmps.size → (∀ t, (t == d) = false → a2.eval (.tmp t) = a.eval (.tmp t)) → R (a2.eval (.tmp d)) w2 → S w2 ∧ wpAnyH P .any ops Q S fuel (listed.setIfInBounds i true) a2 w2) : wpAnyH P .any ops Q S (fuel + 1) listed a w := by
  refine wpAnyH_all (eq_of_beq hr) (by simp) (fun j hj => ?_)
  obtain rfl : j = i := by simpa using hj
  have hrun : (execOp a.eval o).run P w = .ok (.enter f vs) w := by
    have hv' : xs.map a.eval = vs := by rw [← hv]; apply Array.toList_inj.1; simp
    unfold execOp; rw [ho]
    simp [resolve, hx, Deferred.ofValue, invoke, hv', hf]
  unfold wpOp
  rw [hi]
  show if Region.wanted o (yielded ops a.tmps) = true then _ else _
  rw [if_pos (by unfold Region.wanted; rw [hg])]
  refine .inl ?_
  unfold Oper.wp; rw [hrun]
  refine Calls.mono hc ?_
  rintro e w' ⟨v, rfl, h1⟩
  rw [hd]
  refine h _ _ (put_def _ _ _) (put_size _ _ _) (fun t ht => put_eval_other _ _ _ _ (fun e => by subst e; simp at ht)) ?_
  rw [put_eval_same _ _ _ hsz]
  exact h1
theorem wh_assign (i : Nat) (d : Nat) {fuel : Nat} {listed : Array Bool} {w : World} (hi : ops[i]? = some o) (hd : o.dst = some d) (hsz : d < a.tmps.size) (hg : o.guard = none) (hr : (Region.ready .any ops listed == [i]) = true) (x : Operand) (ho : o.op = .assign x) (hS : S w)
    (h : ∀ a2, a2.defers = a.defers → a2.tmps.size = a.tmps.size → (∀ t, (t == d) = false → a2.eval (.tmp t) = a.eval (.tmp t)) → a2.eval (.tmp d) = a.eval x → wpAnyH P .any ops Q S fuel (listed.setIfInBounds i true) a2 w) : wpAnyH P .any ops Q S (fuel + 1) listed a w := by
  refine wpAnyH_all (eq_of_beq hr) (by simp) (fun j hj => ?_)
  obtain rfl : j = i := by simpa using hj
  unfold wpOp
  rw [hi]
  show if Region.wanted o (yielded ops a.tmps) = true then _ else _
  rw [if_pos (by unfold Region.wanted; rw [hg])]
  refine .inl ?_
  unfold Oper.wp execOp
  rw [ho]
  show S w ∧ wpAnyH P .any ops Q S fuel _ (a.put o.dst (a.eval x)) w
  rw [hd]
  exact ⟨hS, h _ (put_def _ _ _) (put_size _ _ _) (fun t ht => put_eval_other _ _ _ _ (fun e => by subst e; simp at ht)) (put_eval_same _ _ _ hsz)⟩
theorem run_field {T f : Nat} {x : Operand} (ho : o.op = .fieldAddr T x f) {p r : Addr} (hx : a.eval x = .pointer (some p)) (hr : ∀ w, (Instr.fieldAt T (.pointer (some p)) f).run P w = .ok (.pointer (some r)) w) : ∀ w, S w → (execOp a.eval o).run P w = .ok (.value (.pointer (some r))) w := by
  intro w _
  unfold execOp
  rw [ho]
  simp [hx, hr]
theorem run_loadc {T : TypeId} {x : Operand} (ho : o.op = .load T x) (h1 : ∀ w, (isAgg T).run P w = .ok false w) {p : Addr} {u : Value} (hx : a.eval x = .pointer (some p)) (hc : ∀ w, S w → w.cell? p = some u) : ∀ w, S w → (execOp a.eval o).run P w = .ok (.value u) w := by
  intro w hS
  unfold execOp
  rw [ho]
  simp [hx, Instr.loadAt, Instr.sureAddr, loadVar, h1, run_load, hc w hS]
theorem run_mv {x : Operand} (ho : o.op = .move x) {v : Value} (hx : a.eval x = v) : ∀ w, S w → (execOp a.eval o).run P w = .ok (.value v) w := by
  intro w _
  unfold execOp
  rw [ho, ← hx]
  rfl
end
end Go.Proofs.YtakdpkoigijonaaGreat
namespace Go.Proofs.YtakdpkoigijonaaGreat
set_option maxRecDepth 100000
open Go.RowKit
section
variable {S : World → Prop} {o : Oper} {a : Act} {Q : Exit → Act → World → Prop} {ops : Array Oper}
end
end Go.Proofs.YtakdpkoigijonaaGreat
namespace Go.Proofs.YtakdpkoigijonaaGreat
set_option maxRecDepth 100000
open Go.RowKit
section
variable {P : Program} {ops : Array Oper} {Q : Exit → Act → World → Prop} {S : World → Prop} {o : Oper} {a : Act}
theorem yield_of {j d : Nat} {b : Bool} (hj : (ops[j]?).bind (·.dst) = some d) (h : a.eval (.tmp d) = .bool b) : yielded ops a.tmps j = some b := by
  simp only [Act.eval, Array.getD_eq_getD_getElem?] at h
  unfold yielded
  rw [hj]
  simp only [Option.bind_some]
  cases hq : a.tmps[d]? with
  | none => rw [hq] at h; simp [undef] at h
  | some u => rw [hq] at h; simp at h; rw [h]
theorem want_of {j d : Nat} {b : Bool} (hg : o.guard = some (j, b)) (hj : (ops[j]?).bind (·.dst) = some d) (h : a.eval (.tmp d) = .bool b) : Region.wanted o (yielded ops a.tmps) = true := by
  unfold Region.wanted
  rw [hg]
  show (yielded ops a.tmps j == some b) = true
  rw [yield_of hj h]
  simp
theorem unwant_of {j d : Nat} {b c : Bool} (hg : o.guard = some (j, b)) (hj : (ops[j]?).bind (·.dst) = some d) (h : a.eval (.tmp d) = .bool c) (hne : (c == b) = false) : Region.wanted o (yielded ops a.tmps) = false := by
  unfold Region.wanted
  rw [hg]
  show (yielded ops a.tmps j == some b) = false
  rw [yield_of hj h]
  cases b <;> cases c <;> first | rfl | (simp at hne)
variable {rest : List Oper} {w : World}
/-- A step in a chain, wanted. -/
theorem wl_onew (q : Fk) (hw : Region.wanted o (yielded ops a.tmps) = true) (d : Nat) (hd : o.dst = some d) (hsz : d < a.tmps.size) (hs2 : o.wp P a w (Ends a o.dst w q.f) Q)
    (h : ∀ a2 w2, a2.defers = a.defers → a2.tmps.size = a.tmps.size → (∀ t, (t == d) = false → a2.eval (.tmp t) = a.eval (.tmp t)) → q.f (a2.eval (.tmp d)) w2 → Below w.heap.size w w2 → wpList P ops Q rest a2 w2) : wpList P ops Q (o :: rest) a w := by
  unfold wpList
  rw [if_pos hw]
  refine .inl (Oper.wp_mono ?_ hs2)
  rintro a2 w2 ⟨v, rfl, hb, hq⟩
  rw [hd]
  refine h _ _ (put_def _ _ _) (put_size _ _ _) (fun t ht => put_eval_other _ _ _ _ (fun e => by subst e; simp at ht)) ?_ hb
  rw [put_eval_same _ _ _ hsz]
  exact hq
/-- A step in a chain that is not wanted. -/
theorem wl_skipw (hw : Region.wanted o (yielded ops a.tmps) = false) (d : Nat) (hd : o.dst = some d)
    (h : ∀ a2, a2.defers = a.defers → a2.tmps.size = a.tmps.size → (∀ t, (t == d) = false → a2.eval (.tmp t) = a.eval (.tmp t)) → wpList P ops Q rest a2 w) : wpList P ops Q (o :: rest) a w := by
  unfold wpList
  rw [if_neg (by rw [hw]; simp), hd]
  exact h _ (put_def _ _ _) (put_size _ _ _) (fun t ht => put_eval_other _ _ _ _ (fun e => by subst e; simp at ht))
/-- A call in a chain, wanted; it may turn old blocks. -/
theorem wl_callw (f : FuncId) (x : Operand) (xs : Array Operand) (ts : Array TypeId) (vs : Array Value) (hw : Region.wanted o (yielded ops a.tmps) = true) (d : Nat) (hd : o.dst = some d) (hsz : d < a.tmps.size) (ho : o.op = .call { callee := .value x, args := xs, argTypes := ts }) (hx : a.eval x = .func (.func f) #[] #[]) (hv : (xs.toList.map a.eval).toArray = vs)
    (hf : ∀ args w, (callFunc f args).run P w = .ok (.enter f args) w) (R : Value → World → Prop) (hc : Calls P f vs w fun e w' => ∃ v, e = .returned v ∧ R v w')
    (h : ∀ a2 w2, a2.defers = a.defers → a2.tmps.size = a.tmps.size → (∀ t, (t == d) = false → a2.eval (.tmp t) = a.eval (.tmp t)) → R (a2.eval (.tmp d)) w2 → wpList P ops Q rest a2 w2) : wpList P ops Q (o :: rest) a w := by
  have hr : (execOp a.eval o).run P w = .ok (.enter f vs) w := by
    have hv' : xs.map a.eval = vs := by rw [← hv]; apply Array.toList_inj.1; simp
    unfold execOp; rw [ho]
    simp [resolve, hx, Deferred.ofValue, invoke, hv', hf]
  unfold wpList
  rw [if_pos hw]
  refine .inl ?_
  unfold Oper.wp; rw [hr]
  refine Calls.mono hc ?_
  rintro e w' ⟨v, rfl, h1⟩
  rw [hd]
  refine h _ _ (put_def _ _ _) (put_size _ _ _) (fun t ht => put_eval_other _ _ _ _ (fun e => by subst e; simp at ht)) ?_
  rw [put_eval_same _ _ _ hsz]
  exact h1
end
end Go.Proofs.YtakdpkoigijonaaGreat
