/- More that is told of slots, and steps over it: numbers and hashes in slices, comparisons, the calls of wots. Made by gen_uf.py. isKey; the digits by a pointer; what awake answers. A row of hashes that is written hash by hash. What wots.Public, Sign and Recover hand back. What wots.Sign hands back. What wots.Recover hands back. Walks over frames that are letters: the start, regions that are steps as a whole, stores and assignments behind steps. Slices of hashes of the call's own that grow by one: what is told of them, and append. Plain: a drawn region whose first operations come in any order, and whose last ones, in a chain, wait for them all. As in Pz; and variables that are made among the first operations are apart, whatever order is picked. A row of hashes that is written hash by hash. Secrets and ends; isKey. The bits of a hash: the function that is ranged over, at every body that keeps what lay below. What lamport.Bits hands back. What the reference's Bit and the law's awake hand back. Regions inside a round of a range over a function: what is shown of a region anywhere serves in a round. Steps over numbers, slice variables and rows of 512 hashes; the calls of lamport as steps meet them. Made by gen_rc.py. What lamport.Sign hands back. Made by gen_re.py. What lamport.Recover hands back. What lamport.Public hands back. What the law's ends hands back. The calls of lamport and of ends as the laws' steps meet them. The calls of Public and Sign as steps meet them; what a signature leads to. Steps over structs in memory: fields, boxes, whole structs; one step of a list by itself; numbers that are shifted and compared. More steps: heads of structs, tuples, lengths; each function is entered as itself. What tag's sum, Leaf, Message, File and Record hand back: the sums of just their bytes. What Node, Chain, Secret and Record hand back: the sums of just their bytes. What mss is made of, plainly; the sums as steps meet them; rows of n hashes. -/
import Derived.Test.YtfmeeimhfdnjpaaDoorM2
import Derived.Laws.ResultCell
import Derived.RangeFuncNested
import Derived.RangeFuncBound
import Derived.RangeFuncCalls
import Derived.RangeFuncLeaves
import Derived.Shelf.Abstract
import Derived.Shelf.RegionOpen
import Derived.WalkKit
import Derived.OwnWalkIn
import Derived.TacticsInMore
import Derived.LoopNIn
import Derived.LoopIn
import Derived.Test.YtfmeeimhfdnjpaaDoorProg
import Derived.Laws.MakeOwn
import Derived.Laws.Rows
import Derived.Laws.Tables
import Derived.OrdersIn
import Derived.Deep.MidRow
namespace Go.Proofs.YtfmeeimhfdnjpaaDoor
set_option maxRecDepth 100000
open Go.RowKit
/-- A pointer to a hash. -/
def Fk.ph (xs : List (BitVec 8)) : Fk := .inr (.inl ⟨fun v w => ∃ b o, v = .pointer (some ⟨b, o, none⟩) ∧ xs.length = 32 ∧ b < w.heap.size ∧ HasB w b o xs, by
  rintro v w w' ⟨b, o, e, hl, hlt, h⟩ hb
  exact ⟨b, o, e, hl, Nat.lt_of_lt_of_le hlt hb.size, h.below hb hlt⟩⟩)
/-- A slice of numbers. -/
def Fk.ds (ds : List Nat) : Fk := .inr (.inl ⟨fun v w => ∃ sp c b o, v = .slice sp ds.length c ∧ Is w sp b o ds, by
  rintro v w w' ⟨sp, c, b, o, e, h⟩ hb
  exact ⟨sp, c, b, o, e, h.below hb⟩⟩)
/-- A slice of hashes. -/
def Fk.hs (hs : List (List (BitVec 8))) : Fk := .inr (.inl ⟨fun v w => ∃ A C lb lo, v = .slice A hs.length C ∧ Hl w A lb lo hs, by
  rintro v w w' ⟨A, C, lb, lo, e, h⟩ hb
  exact ⟨A, C, lb, lo, e, h.below hb⟩⟩)
theorem arg2 {a : Act} {x y : Operand} {u v : Value} (h : a.eval x = u) (h2 : a.eval y = v) : ((#[x, y].toList.map a.eval).toArray : Array Value) = #[u, v] := by rw [← h, ← h2]; rfl
theorem arg3 {a : Act} {x y z : Operand} {u v t : Value} (h : a.eval x = u) (h2 : a.eval y = v) (h3 : a.eval z = t) : ((#[x, y, z].toList.map a.eval).toArray : Array Value) = #[u, v, t] := by rw [← h, ← h2, ← h3]; rfl
theorem arg4 {a : Act} {x y z p : Operand} {u v t s : Value} (h : a.eval x = u) (h2 : a.eval y = v) (h3 : a.eval z = t) (h4 : a.eval p = s) : ((#[x, y, z, p].toList.map a.eval).toArray : Array Value) = #[u, v, t, s] := by rw [← h, ← h2, ← h3, ← h4]; rfl
theorem fk_of {f : FuncId} {args : Array Value} {w : World} {v : Value} (h : Calls Tryd.prog f args w fun e w' => e = .returned v ∧ Below w.heap.size w w') : Calls Tryd.prog f args w fun e w' => ∃ u, e = .returned u ∧ (Fk.eq v).f u w' ∧ Below w.heap.size w w' := by
  refine h.mono ?_
  rintro e w' ⟨rfl, hb⟩
  exact ⟨_, rfl, rfl, hb⟩
theorem Tryd.elem35 : Tryd.prog.elem 35 = 33 := by kernel_rfl
theorem Tryd.sizeOf3 (w : World) : (sizeOf 3).run Tryd.prog w = .ok 1 w := by kernel_rfl
theorem Tryd.sizeOf33 (w : World) : (sizeOf 33).run Tryd.prog w = .ok 32 w := by kernel_rfl
theorem Tryd.under35' : Tryd.prog.underlying 35 = some (.slice 33) := by kernel_rfl
theorem Tryd.zero33 (w : World) : (Instr.build 33 #[]).run Tryd.prog w = .ok (.agg ((hsh St.first 0).map V).toArray) w := by kernel_rfl
section
variable {Q : Exit → Act → World → Prop} {o : Oper} {a : Act} {w : World} {q : Fk}
theorem st_loadh (x : Operand) (ho : o.op = .load 33 x) {xs : List (BitVec 8)} (h : (Fk.ph xs).f (a.eval x) w) : o.wp Tryd.prog a w (Ends a o.dst w (Fk.eq (.agg (xs.map V).toArray)).f) Q := by
  obtain ⟨b, so, e, hl, hlt, hB⟩ := h
  refine wp_load_mid 33 x ho b so e (xs.map V) _ ?_ Tryd.under33 rfl (by rw [List.length_map, hl]; exact Tryd.size33) ⟨_, rfl, Below.refl _ _, rfl⟩
  intro j v hj
  have := hB.src xs.length j v
  rw [List.take_of_length_le (Nat.le_refl _)] at this
  have h2 := this hj
  rw [Addr.add_mid] at h2
  exact h2
theorem st_idxh (x y : Operand) (ho : o.op = .indexAddr 35 x y) {hs : List (List (BitVec 8))} (h : (Fk.hs hs).f (a.eval x) w) (i : Nat) (xs : List (BitVec 8)) (hy : a.eval y = .int .i64 (i : Int)) (hi : hs[i]? = some xs) : o.wp Tryd.prog a w (Ends a o.dst w (Fk.ph xs).f) Q := by
  obtain ⟨A, C, lb, lo, e, hl⟩ := h
  have hil : i < hs.length := (List.getElem?_eq_some_iff.1 hi).1
  have hp := hl.ptr (by omega)
  subst hp
  obtain ⟨h32, hB⟩ := hl.all i xs hi
  refine st_pure (v := .pointer (some ⟨lb, lo + i * 32, none⟩)) ?_ ⟨lb, lo + i * 32, rfl, h32, hl.lt (by omega), hB⟩
  have h1 := run_indexAt_slice (P := Tryd.prog) (w := w) 35 ⟨lb, lo, none⟩ hs.length C .i64 (i : Int) (by rw [Tryd.elem35]; exact Tryd.under35')
  rw [if_pos (by omega), Tryd.elem35, Tryd.sizeOf33] at h1
  simp only [Result.andThen_ok, Int.toNat_natCast, Addr.add_mid] at h1
  unfold execOp
  rw [ho]
  simp [e, hy, h1]
theorem st_zero33 (ho : o.op = .build 33 #[]) : o.wp Tryd.prog a w (Ends a o.dst w (Fk.eq (.agg ((hsh St.first 0).map V).toArray)).f) Q := by
  refine st_pure (v := .agg ((hsh St.first 0).map V).toArray) ?_ rfl
  have := Tryd.zero33 w
  unfold execOp
  rw [ho]
  simp [this]
theorem st_lenh (x : Operand) (ho : o.op = .call { callee := .builtin .len, args := #[x], argTypes := #[35] }) {hs : List (List (BitVec 8))} (h : (Fk.hs hs).f (a.eval x) w) : o.wp Tryd.prog a w (Ends a o.dst w (Fk.eq (.int .i64 (hs.length : Int))).f) Q := by
  obtain ⟨A, C, lb, lo, e, hl⟩ := h
  refine st_pure (v := .int .i64 (hs.length : Int)) ?_ rfl
  have h1 := run_len_slice (P := Tryd.prog) (w := w) 35 o.type A hs.length C (by rw [Tryd.elem35]; exact Tryd.under35')
  unfold execOp
  simp [ho, resolve, invoke, builtin, e, h1, goInt]
theorem st_neqi (t : TypeId) (x y : Operand) (ho : o.op = .binOp .neq t x y t) (k : IntKind) (s u : Int) (hx : a.eval x = .int k s) (hy : a.eval y = .int k u) (b : Bool) (hb : b = decide (s ≠ u)) : o.wp Tryd.prog a w (Ends a o.dst w (Fk.eq (.bool b)).f) Q := by
  refine st_pure (v := .bool b) ?_ rfl
  subst hb
  unfold execOp
  rw [ho]
  simp [hx, hy, eqGuard, binOp, Op.intCmp]
  by_cases h : s = u
  · simp [h]
  · simp [h]
theorem st_lss (t : TypeId) (x y : Operand) (ho : o.op = .binOp .lss t x y t) (k : IntKind) (s u : Int) (hx : a.eval x = .int k s) (hy : a.eval y = .int k u) (b : Bool) (hb : b = decide (s < u)) : o.wp Tryd.prog a w (Ends a o.dst w (Fk.eq (.bool b)).f) Q := by
  refine st_pure (v := .bool b) ?_ rfl
  subst hb
  unfold execOp
  rw [ho]
  simp [hx, hy, eqGuard, binOp, Op.intCmp]
theorem st_gtr (t : TypeId) (x y : Operand) (ho : o.op = .binOp .gtr t x y t) (k : IntKind) (s u : Int) (hx : a.eval x = .int k s) (hy : a.eval y = .int k u) (b : Bool) (hb : b = decide (u < s)) : o.wp Tryd.prog a w (Ends a o.dst w (Fk.eq (.bool b)).f) Q := by
  refine st_pure (v := .bool b) ?_ rfl
  subst hb
  unfold execOp
  rw [ho]
  simp [hx, hy, eqGuard, binOp, Op.intCmp]
theorem st_not (x : Operand) (ho : o.op = .unOp .not 4 x) (s : Bool) (hx : a.eval x = .bool s) : o.wp Tryd.prog a w (Ends a o.dst w (Fk.eq (.bool !s)).f) Q := by
  refine st_pure (v := .bool !s) ?_ rfl
  unfold execOp
  rw [ho]
  simp [hx, Op.unary]
theorem st_eqh (x y : Operand) (ho : o.op = .binOp .eql 33 x y 33) (xs ys : List (BitVec 8)) (hl : xs.length = 32) (hl2 : ys.length = 32) (hx : a.eval x = .agg (xs.map V).toArray) (hy : a.eval y = .agg (ys.map V).toArray) (b : Bool) (hb : b = decide (xs = ys)) : o.wp Tryd.prog a w (Ends a o.dst w (Fk.eq (.bool b)).f) Q := by
  refine st_pure (v := .bool b) ?_ rfl
  subst hb
  have h1 := Tryd.noGuard33 x y (xs.map V).toArray (ys.map V).toArray w
  have h2 := run_equal33 w xs ys hl hl2
  unfold execOp
  rw [ho]
  simp [hx, hy, h1, binOp, Op.equal, Op.maxDepth, h2]
theorem st_neqh (x y : Operand) (ho : o.op = .binOp .neq 33 x y 33) (xs ys : List (BitVec 8)) (hl : xs.length = 32) (hl2 : ys.length = 32) (hx : a.eval x = .agg (xs.map V).toArray) (hy : a.eval y = .agg (ys.map V).toArray) (b : Bool) (hb : b = decide (xs ≠ ys)) : o.wp Tryd.prog a w (Ends a o.dst w (Fk.eq (.bool b)).f) Q := by
  refine st_pure (v := .bool b) ?_ rfl
  subst hb
  have h1 := Tryd.noGuard33n x y (xs.map V).toArray (ys.map V).toArray w
  have h2 := run_equal33 w xs ys hl hl2
  unfold execOp
  rw [ho]
  simp [hx, hy, h1, binOp, Op.equal, Op.maxDepth, h2]
theorem st_ext0 (x : Operand) (ho : o.op = .extract x 0) {u v : Value} (hx : a.eval x = .tuple #[u, v]) (h : q.f u w) : o.wp Tryd.prog a w (Ends a o.dst w q.f) Q := by
  refine st_pure (v := u) ?_ h
  unfold execOp
  rw [ho]
  simp [hx, Instr.extract]
theorem st_ext1 (x : Operand) (ho : o.op = .extract x 1) {u v : Value} (hx : a.eval x = .tuple #[u, v]) (h : q.f v w) : o.wp Tryd.prog a w (Ends a o.dst w q.f) Q := by
  refine st_pure (v := v) ?_ h
  unfold execOp
  rw [ho]
  simp [hx, Instr.extract]
end
end Go.Proofs.YtfmeeimhfdnjpaaDoor
namespace Go.Proofs.YtfmeeimhfdnjpaaDoor
set_option maxRecDepth 100000
open Go.RowKit
theorem Tryd.enter26 (args : Array Value) (w : World) : (callFunc 26 args).run Tryd.prog w = .ok (.enter 26 args) w := by kernel_rfl
theorem Tryd.enter48 (args : Array Value) (w : World) : (callFunc 48 args).run Tryd.prog w = .ok (.enter 48 args) w := by kernel_rfl
/-- The hash of noughts. -/
def hz : List (BitVec 8) := hsh St.first 0
theorem hz_len : hz.length = 32 := rfl
end Go.Proofs.YtfmeeimhfdnjpaaDoor
namespace Go.Proofs.YtfmeeimhfdnjpaaDoor
set_option maxRecDepth 100000
open Go.RowKit
/-- Block g is a row of hashes that may be written. -/
structure Rw (w : World) (g : Nat) (hs : List (List (BitVec 8))) : Prop where
  hl : Hl w (some ⟨g, 0, none⟩) g 0 hs
  lt : g < w.heap.size
  fz : ∀ j, w.frozen? ⟨g, j, none⟩ = false
theorem Rw.below {w w' : World} {g : Nat} {hs : List (List (BitVec 8))} (h : Rw w g hs) (hb : Below w.heap.size w w') : Rw w' g hs :=
  ⟨h.hl.below hb, Nat.lt_of_lt_of_le h.lt hb.size, fun j => by rw [World.frozen?_of_block (w := w) (hb.block g h.lt)]; exact h.fz j⟩
theorem Rw.there {w : World} {g : Nat} {hs : List (List (BitVec 8))} (h : Rw w g hs) (k : Nat) (hk : k < hs.length) : w.there g (k * 32) 32 := by
  intro j hj
  obtain ⟨h1, h2⟩ := h.hl.all k hs[k] (List.getElem?_eq_getElem hk)
  have := h2 j (by rw [h1]; exact hj)
  rw [Nat.zero_add] at this
  exact ⟨by rw [this]; rfl, h.fz _⟩
theorem size_setCells (b : Nat) : ∀ (vs : List Value) (o : Nat) (w : World), (w.setCells b o vs).heap.size = w.heap.size
  | [], _, _ => rfl
  | v :: r, o, w => by rw [World.setCells, size_setCells b r]; simp [World.setCell]
theorem below_setCells {B g : Nat} {a : World} (hb : B ≤ g) : ∀ (vs : List Value) (o : Nat) (w : World), Below B a w → Below B a (w.setCells g o vs)
  | [], _, _, h => h
  | v :: r, o, w, h => below_setCells hb r (o + 1) _ (h.setCell (by exact hb) v)
theorem Rw.store {w : World} {g : Nat} {hs : List (List (BitVec 8))} (h : Rw w g hs) (k : Nat) (x : List (BitVec 8)) (hk : k < hs.length) (hx : x.length = 32) : Rw (w.setCells g (k * 32) (x.map V)) g (hs.set k x) := by
  have ht := h.there k hk
  refine ⟨⟨fun _ => rfl, fun _ => by rw [size_setCells]; exact h.lt, fun i y hi => ?_⟩, by rw [size_setCells]; exact h.lt, fun j => by rw [World.frozen?_setCells]; exact h.fz j⟩
  by_cases e : i = k
  · subst e
    rw [List.getElem?_set_self hk] at hi
    obtain rfl := Option.some.inj hi
    refine ⟨hx, fun j hj => ?_⟩
    have := World.rangeAt_setCells_same w g (i * 32) (x.map V) (by rw [List.length_map, hx]; exact ht) j (V (x.getD j 0)) (by simp [hj])
    rw [Nat.zero_add]
    exact this
  · rw [List.getElem?_set_ne (fun h => e h.symm)] at hi
    obtain ⟨h1, h2⟩ := h.hl.all i y hi
    refine ⟨h1, fun j hj => ?_⟩
    rw [World.cell?_setCells_out _ _ _ _ _ (fun _ _ => ?_)]
    · exact h2 j hj
    · show 0 + i * 32 + j < k * 32 ∨ k * 32 + (x.map V).length ≤ 0 + i * 32 + j
      rw [List.length_map, hx]
      rw [h1] at hj
      omega
theorem Tryd.info33 : (Tryd.prog.info? 33).map (fun i => (i.zero, i.size, i.bytes)) = some (some (.agg (hz.map V).toArray), 32, 32) := by kernel_rfl
/-- All 67. -/
def all67 (F : Nat → List (BitVec 8)) : List (List (BitVec 8)) := (List.range 67).map F
end Go.Proofs.YtfmeeimhfdnjpaaDoor
namespace Go.Proofs.YtfmeeimhfdnjpaaDoor
set_option maxRecDepth 100000
open Go.RowKit
/-- The end of chain i. -/
def endOf (seed : List (BitVec 8)) (key : Nat) (i : Nat) : List (BitVec 8) := wk (i : Int) 0 (sec seed key i) 15
theorem results_row_tmp {P : Program} {fn : Func} {p u : Tmp} {ty : TypeId} (h : fn.results = #[.cell p ty, .tmp u]) (tmps : Array Value) (w : World) (g : Nat) (t : TypeId) (cs : Array Value) (fr : Nat × Nat) (d : TypeDesc) (v : Value)
    (hp : tmps.getD p undef = .pointer (some ⟨g, 0, none⟩)) (hg : w.heap[g]? = some (.cells cs t fr))
    (hu : P.underlying ty = some d) (hd : (match d with | .struct _ | .array _ _ => true | _ => false) = true) (hi : (P.info? ty).map (·.size) = some cs.size) (hv : tmps.getD u undef = v) :
    (results fn tmps).run P w = .ok (.tuple #[.agg cs, v]) w := by
  rw [results_cell_tmp h, hp, hv]
  simp [asAddr, run_loadVar_row w g t ty cs fr d hg hu hd hi]
end Go.Proofs.YtfmeeimhfdnjpaaDoor
namespace Go.Proofs.YtfmeeimhfdnjpaaDoor
set_option maxRecDepth 100000
open Go.RowKit
end Go.Proofs.YtfmeeimhfdnjpaaDoor
namespace Go.Proofs.YtfmeeimhfdnjpaaDoor
set_option maxRecDepth 100000
open Go.RowKit
theorem Hl.range {w : World} {A : Option Addr} {lb lo : Nat} {hs : List (List (BitVec 8))} (h : Hl w A lb lo hs) (k : Nat) (x : List (BitVec 8)) (hk : hs[k]? = some x) : w.rangeAt lb (lo + k * 32) (x.map V) := by
  intro j v hj
  obtain ⟨_, hB⟩ := h.all k x hk
  have := hB.src x.length j v
  rw [List.take_of_length_le (Nat.le_refl _)] at this
  have h2 := this hj
  rw [Addr.add_mid] at h2
  exact h2
end Go.Proofs.YtfmeeimhfdnjpaaDoor
namespace Go.Proofs.YtfmeeimhfdnjpaaDoor
set_option maxRecDepth 100000
open Go.RowKit
theorem then_ret {K : Act → World → Prop} {Q : Exit → Act → World → Prop} {a : Act} {w : World} (h : Q .ret a w) : Exit.then K Q .ret a w := h
theorem block_ret {id : Nat} {Q : Exit → Act → World → Prop} {a : Act} {w : World} (h : Q .ret a w) : Exit.inBlock id Q .ret a w := h
theorem code_both {P : Program} {c : Code} {Q : Exit → Act → World → Prop} {a : Act} {w : World} (F : Act → World → Prop) (h0 : F a w) (h : ∀ f w, F f w → Code.wp P c Q f w) : Code.wp P c Q a w := h a w h0
theorem f_at {q : Fk} {a b : Act} {x y : Operand} {w : World} (h : a.eval x = b.eval y) (hq : q.f (b.eval y) w) : q.f (a.eval x) w := by rw [h]; exact hq
theorem wp_all {P : Program} {Q : Exit → Act → World → Prop} {ops : Array Oper} {id : Nat} {a0 : Act} {w : World} (qs : List Fk) (hm : P.follows .mixedOrders = true) (hn : decide (qs.length = ops.size) = true) (hE : edgesOk ops.toList qs.length = true)
    (hD : dstsOk a0.tmps.size (ops.toList.take qs.length) = true) (hG : guardsOk ops.toList qs.length qs ops.toList qs = true)
    (hS : Steps P Q ops.toList qs.length qs a0 w ops.toList qs)
    (hF : ∀ af w', Final ops.toList qs a0 af w' → Below w.heap.size w w' → Q .normal af w') :
    (Code.region id ops true).wp P Q a0 w := by
  have hn' : qs.length = ops.size := of_decide_eq_true hn
  refine wp_region_end qs hm (decide_eq_true (by omega)) hE hD hG hS ?_
  intro af w' fin hb
  rw [List.drop_of_length_le (by simp; omega)]
  exact hF af w' fin hb
theorem wp_all_seq {P : Program} {Q : Exit → Act → World → Prop} {ops : Array Oper} {id : Nat} {a0 : Act} {w : World} (qs : List Fk) (hn : decide (qs.length = ops.size) = true) (hE : backOk ops.toList = true)
    (hD : dstsOk a0.tmps.size (ops.toList.take qs.length) = true) (hG : guardsOk ops.toList qs.length qs ops.toList qs = true)
    (hS : Steps P Q ops.toList qs.length qs a0 w ops.toList qs)
    (hF : ∀ af w', Final ops.toList qs a0 af w' → Below w.heap.size w w' → Q .normal af w') :
    (Code.region id ops false).wp P Q a0 w := by
  have hn' : qs.length = ops.size := of_decide_eq_true hn
  refine wp_region_seq qs (decide_eq_true (by omega)) hE hD hG hS ?_
  intro af w' fin hb
  rw [List.drop_of_length_le (by simp; omega)]
  exact hF af w' fin hb
theorem wr_s {P : Program} {Q : Exit → Act → World → Prop} {ops : Array Oper} {id : Nat} {a0 : Act} {w : World} (qs : List Fk) (hc : (decide (qs.length ≤ ops.size) && backOk ops.toList && dstsOk a0.tmps.size (ops.toList.take qs.length) && guardsOk ops.toList qs.length qs ops.toList qs) = true)
    (hS : Steps P Q ops.toList qs.length qs a0 w ops.toList qs)
    (hF : ∀ af w', Final ops.toList qs a0 af w' → Below w.heap.size w w' → wpList P ops Q (ops.toList.drop qs.length) af w') :
    (Code.region id ops false).wp P Q a0 w := by
  simp only [Bool.and_eq_true] at hc
  exact wp_region_seq qs hc.1.1.1 hc.1.1.2 hc.1.2 hc.2 hS hF
theorem wr_a {P : Program} {Q : Exit → Act → World → Prop} {ops : Array Oper} {id : Nat} {a0 : Act} {w : World} (qs : List Fk) (hc : (decide (qs.length = ops.size) && backOk ops.toList && dstsOk a0.tmps.size (ops.toList.take qs.length) && guardsOk ops.toList qs.length qs ops.toList qs) = true)
    (hS : Steps P Q ops.toList qs.length qs a0 w ops.toList qs)
    (hF : ∀ af w', Final ops.toList qs a0 af w' → Below w.heap.size w w' → Q .normal af w') :
    (Code.region id ops false).wp P Q a0 w := by
  simp only [Bool.and_eq_true] at hc
  exact wp_all_seq qs hc.1.1.1 hc.1.1.2 hc.1.2 hc.2 hS hF
theorem wr_d {P : Program} {Q : Exit → Act → World → Prop} {ops : Array Oper} {id : Nat} {a0 : Act} {w : World} (qs : List Fk) (hm : P.follows .mixedOrders = true) (hc : (decide (qs.length = ops.size) && edgesOk ops.toList qs.length && dstsOk a0.tmps.size (ops.toList.take qs.length) && guardsOk ops.toList qs.length qs ops.toList qs) = true)
    (hS : Steps P Q ops.toList qs.length qs a0 w ops.toList qs)
    (hF : ∀ af w', Final ops.toList qs a0 af w' → Below w.heap.size w w' → Q .normal af w') :
    (Code.region id ops true).wp P Q a0 w := by
  simp only [Bool.and_eq_true] at hc
  exact wp_all qs hm hc.1.1.1 hc.1.1.2 hc.1.2 hc.2 hS hF
/-- A pointer to a hash variable that is new. -/
def Fk.pn (g0 : Nat) (xs : List (BitVec 8)) : Fk := .inr (.inl ⟨fun v w => ∃ g, g0 ≤ g ∧ v = .pointer (some ⟨g, 0, none⟩) ∧ HasV w g 33 xs, by
  rintro v w w' ⟨g, h, e, hv⟩ hb
  exact ⟨g, h, e, hv.below hb hv.lt⟩⟩)
section
variable {Q : Exit → Act → World → Prop} {o : Oper} {a : Act} {w : World} {q : Fk} {ops : Array Oper} {rest : List Oper}
theorem Tryd.alloc33 (ρ : Operand → Value) (d : Option Tmp) (ty : TypeId) (pos : String) (aft : Array Edge) (gd : Option (Nat × Bool)) (w : World) : (execOp ρ ⟨d, .alloc 33, ty, pos, aft, gd⟩).run Tryd.prog w = .ok (.value (.pointer (some ⟨w.heap.size, 0, none⟩))) (w.alloc (.cells (hz.map V).toArray 33)) := by kernel_rfl
theorem st_alloc33 (ho : o.op = .alloc 33) (g0 : Nat) (hg : g0 ≤ w.heap.size) : o.wp Tryd.prog a w (Ends a o.dst w (Fk.pn g0 hz).f) Q := by
  refine st_run (v := .pointer (some ⟨w.heap.size, 0, none⟩)) (w' := w.alloc (.cells (hz.map V).toArray 33)) ?_ ((Below.refl _ _).alloc (Nat.le_refl _) _) ⟨w.heap.size, hg, rfl, heap_alloc_new _ _⟩
  obtain ⟨d, op, ty, pos, aft, gd⟩ := o
  subst ho
  exact Tryd.alloc33 _ _ _ _ _ _ _
theorem wl_store (hgd : o.guard = none) (x y : Operand) (ho : o.op = .store 33 x y) (hd : o.dst = none) (g : Nat) (zs ys : List (BitVec 8)) (hx : a.eval x = .pointer (some ⟨g, 0, none⟩)) (hy : a.eval y = .agg (zs.map V).toArray) (hv : HasV w g 33 ys) (hl : ys.length = 32) (hz : zs.length = 32)
    (h : wpList Tryd.prog ops Q rest a (w.setRow g (zs.map V).toArray)) : wpList Tryd.prog ops Q (o :: rest) a w := by
  refine wpList_store_row hgd 33 x y ho g (zs.map V).toArray hx hy 33 _ hv (by rw [List.size_toArray, List.length_map, hz]; exact Tryd.size33) (by simp [hl, hz]) (V_all _) ?_
  rw [hd]
  exact h
end
end Go.Proofs.YtfmeeimhfdnjpaaDoor
namespace Go.Proofs.YtfmeeimhfdnjpaaDoor
set_option maxRecDepth 100000
open Go.RowKit
theorem Tryd.build35x (x0 x1 x2 x3 x4 x5 x6 x7 x8 x9 x10 x11 x12 x13 x14 x15 x16 x17 x18 x19 x20 x21 x22 x23 x24 x25 x26 x27 x28 x29 x30 x31 : BitVec 8) (w : World) : (Instr.buildSlice 35 1 #[(0, .agg ([x0, x1, x2, x3, x4, x5, x6, x7, x8, x9, x10, x11, x12, x13, x14, x15, x16, x17, x18, x19, x20, x21, x22, x23, x24, x25, x26, x27, x28, x29, x30, x31].map V).toArray)]).run Tryd.prog w = .ok (.slice (some ⟨w.heap.size, 0, none⟩) 1 1) (w.alloc (.cells ([x0, x1, x2, x3, x4, x5, x6, x7, x8, x9, x10, x11, x12, x13, x14, x15, x16, x17, x18, x19, x20, x21, x22, x23, x24, x25, x26, x27, x28, x29, x30, x31].map V).toArray 33)) := by kernel_rfl
theorem Tryd.build35 (hh : List (BitVec 8)) (h : hh.length = 32) (w : World) : (Instr.buildSlice 35 1 #[(0, .agg (hh.map V).toArray)]).run Tryd.prog w = .ok (.slice (some ⟨w.heap.size, 0, none⟩) 1 1) (w.alloc (.cells (hh.map V).toArray 33)) := by
  match hh, h with
  | [x0, x1, x2, x3, x4, x5, x6, x7, x8, x9, x10, x11, x12, x13, x14, x15, x16, x17, x18, x19, x20, x21, x22, x23, x24, x25, x26, x27, x28, x29, x30, x31], _ => exact Tryd.build35x x0 x1 x2 x3 x4 x5 x6 x7 x8 x9 x10 x11 x12 x13 x14 x15 x16 x17 x18 x19 x20 x21 x22 x23 x24 x25 x26 x27 x28 x29 x30 x31 w
theorem hl_one {w : World} {g : Nat} {hh : List (BitVec 8)} (hv : HasV w g 33 hh) (h : hh.length = 32) : Hl w (some ⟨g, 0, none⟩) g 0 [hh] :=
  ⟨fun _ => rfl, fun _ => hv.lt, fun i x hi => by
    cases i with
    | zero =>
      obtain rfl : hh = x := by simpa using hi
      exact ⟨h, hv.bytes⟩
    | succ i => simp at hi⟩
/-- A slice of the call's own that has the hashes hs; its row lies at base or behind it. -/
def Fk.ow (base : Nat) (hs : List (List (BitVec 8))) : Fk := .inr (.inl ⟨fun v w => w.ownsRow base 33 32 v hs.length (hs.flatten.map V) ∧ ∀ (i : Nat) (x : List (BitVec 8)), hs[i]? = some x → x.length = 32, by
  rintro v w w' ⟨⟨h1, h2⟩, h3⟩ hb
  refine ⟨⟨h1, ?_⟩, h3⟩
  rcases h2 with h2 | ⟨g, cap, cur, e, hbg, hg, r⟩
  · exact .inl h2
  · exact .inr ⟨g, cap, cur, e, hbg, by rw [hb.block g (Array.getElem?_eq_some_iff.1 hg).1]; exact hg, r⟩⟩)
theorem flat_at : ∀ (hs : List (List (BitVec 8))), (∀ (i : Nat) (x : List (BitVec 8)), hs[i]? = some x → x.length = 32) → ∀ (i : Nat) (x : List (BitVec 8)), hs[i]? = some x → ∀ j, j < 32 → hs.flatten[i * 32 + j]? = x[j]?
  | [], _, i, x, hi, _, _ => by simp at hi
  | y :: r, hl, i, x, hi, j, hj => by
    have hy := hl 0 y rfl
    rw [List.flatten_cons]
    cases i with
    | zero =>
      obtain rfl : y = x := by simpa using hi
      rw [List.getElem?_append_left (by omega), Nat.zero_mul, Nat.zero_add]
    | succ i =>
      rw [List.getElem?_append_right (by omega), hy, show (i + 1) * 32 + j - 32 = i * 32 + j by omega]
      exact flat_at r (fun i x h => hl (i + 1) x (by simpa using h)) i x (by simpa using hi) j hj
theorem ow_hs {base : Nat} {hs : List (List (BitVec 8))} {v : Value} {w : World} (h : (Fk.ow base hs).f v w) : (Fk.hs hs).f v w := by
  obtain ⟨⟨h1, h2⟩, h3⟩ := h
  rcases h2 with ⟨rfl, hn⟩ | ⟨g, cap, cur, rfl, hbg, hg, hnc, _, hcs, ht⟩
  · have : hs = [] := List.eq_nil_of_length_eq_zero hn
    subst this
    exact ⟨none, 0, 0, 0, rfl, fun h => by simp at h, fun h => by simp at h, fun i x hi => by simp at hi⟩
  · refine ⟨_, cap, g, 0, rfl, fun _ => rfl, fun _ => (Array.getElem?_eq_some_iff.1 hg).1, fun i x hi => ⟨h3 i x hi, fun j hj => ?_⟩⟩
    have hil : i < hs.length := (List.getElem?_eq_some_iff.1 hi).1
    rw [h3 i x hi] at hj
    rw [cell_of_row _ _ _ _ _ _ hg, Nat.zero_add]
    have e := congrArg (·[i * 32 + j]?) ht
    simp only [List.getElem?_take, List.getElem?_map, flat_at hs h3 i x hi j hj] at e
    rw [if_pos (by omega), Array.getElem?_toList] at e
    rw [e]
    have : j < x.length := by rw [h3 i x hi]; exact hj
    simp [this, V]
theorem ow_nil (base : Nat) (w : World) : (Fk.ow base []).f (.slice none 0 0) w := ⟨World.ownsRow_nil _ _ _ _, fun i x hi => by simp at hi⟩
section
variable {Q : Exit → Act → World → Prop} {o : Oper} {a : Act} {w : World} {q : Fk} {ops : Array Oper} {rest : List Oper}
theorem st_bh1 (x : Operand) (ho : o.op = .buildSlice 35 1 #[(0, x)]) {hh : List (BitVec 8)} (hl : hh.length = 32) (hx : a.eval x = .agg (hh.map V).toArray) : o.wp Tryd.prog a w (Ends a o.dst w (Fk.hs [hh]).f) Q := by
  refine st_run (v := .slice (some ⟨w.heap.size, 0, none⟩) 1 1) (w' := w.alloc (.cells (hh.map V).toArray 33)) ?_ ((Below.refl _ _).alloc (Nat.le_refl _) _) ⟨_, 1, w.heap.size, 0, rfl, hl_one (heap_alloc_new _ _) hl⟩
  have := Tryd.build35 hh hl w
  unfold execOp
  rw [ho]
  simp [hx, this]
theorem wl_append (hgd : o.guard = none) (s x : Operand) (ho : o.op = .call { callee := .builtin .append, args := #[s, x], argTypes := #[35, 35] }) (d : Nat) (hd : o.dst = some d) (hsz : d < a.tmps.size)
    {wL : World} {hs : List (List (BitVec 8))} {hh : List (BitVec 8)} (hs1 : (Fk.ow wL.heap.size hs).f (a.eval s) w) (hx : (Fk.hs [hh]).f (a.eval x) w) (hL : Below wL.heap.size wL w) (hN : hs.length ≤ 1000)
    (h : ∀ a2 w2, a2.defers = a.defers → a2.tmps.size = a.tmps.size → (∀ t, (t == d) = false → a2.eval (.tmp t) = a.eval (.tmp t)) → (Fk.ow wL.heap.size (hs ++ [hh])).f (a2.eval (.tmp d)) w2 → Below wL.heap.size wL w2 → wpList Tryd.prog ops Q rest a2 w2) : wpList Tryd.prog ops Q (o :: rest) a w := by
  obtain ⟨i0, hi, hz0, hz1, hz2⟩ := info_parts Tryd.info33
  obtain ⟨A, C, lb, lo, e, hl⟩ := hx
  obtain ⟨hown, h32⟩ := hs1
  obtain ⟨hhl, hB⟩ := hl.all 0 hh rfl
  have hp := hl.ptr (by simp)
  subst hp
  refine wpList_append_own w hgd s x 35 ho wL.heap.size 33 i0 _ 32 32 Tryd.under35' hi hz0 hz1 hz2 (by simp [Value.cells, hz_len]) (by decide) _ hs.length _ rfl hown ⟨lb, lo, none⟩ 1 C (hh.map V) (by simpa using e) (by simp [hhl]) ?_ (V_one hh) (by unfold maxLen; omega) (by omega) hL.size ?_
  · intro j u hj
    have := hB.src hh.length j u
    rw [List.take_of_length_le (Nat.le_refl _), Nat.zero_mul, Nat.add_zero] at this
    exact this hj
  · intro v' w' h1 h2 _
    refine h _ _ (put_def _ _ _) (put_size _ _ _) (fun t ht => ?_) ?_ (hL.grown h2 hL.size (fun k e => (World.ownsRow.lt hown k e).1))
    · rw [hd]
      exact put_eval_other _ _ _ _ (fun e => by subst e; simp at ht)
    · rw [hd, put_eval_same _ _ _ hsz]
      refine ⟨?_, fun i y hi => ?_⟩
      · rw [List.length_append, List.flatten_append, List.map_append]
        simpa using h1
      · by_cases hil : i < hs.length
        · exact h32 i y (by rw [List.getElem?_append_left hil] at hi; exact hi)
        · rw [List.getElem?_append_right (by omega)] at hi
          cases hq : i - hs.length with
          | zero =>
            rw [hq] at hi
            obtain rfl : hh = y := by simpa using hi
            exact hhl
          | succ n => rw [hq] at hi; simp at hi
end
section
variable {Q : Exit → Act → World → Prop} {o : Oper} {a : Act} {w : World} {ops : Array Oper} {rest : List Oper}
end
/-- The first k. -/
def firsts (F : Nat → List (BitVec 8)) (k : Nat) : List (List (BitVec 8)) := (List.range k).map F
theorem firsts_len (F : Nat → List (BitVec 8)) (k : Nat) : (firsts F k).length = k := by simp [firsts]
end Go.Proofs.YtfmeeimhfdnjpaaDoor
namespace Go.Proofs.YtfmeeimhfdnjpaaDoor
set_option maxRecDepth 100000
open Go.RowKit
section
variable {P : Program} {ops : Array Oper} {Q : Exit → Act → World → Prop}
/-- From here on just these come up, one behind the other. -/
def chainOk (ops : Array Oper) : Array Bool → List Nat → Bool
  | listed, [] => (Region.ready .any ops listed).isEmpty
  | listed, j :: r => (Region.ready .any ops listed == [j]) && chainOk ops (listed.setIfInBounds j true) r
theorem any_list : ∀ (js : List Nat) (fuel : Nat) (listed : Array Bool) (a : Act) (w : World), chainOk ops listed js = true → js.length ≤ fuel → wpList P ops Q (js.filterMap (ops[·]?)) a w → wpAny P .any ops Q fuel listed a w
  | [], fuel, listed, a, w, hc, _, h => by
    have hr : Region.ready .any ops listed = [] := by simpa [chainOk] using hc
    exact wpAny_nil hr h
  | j :: r, 0, _, _, _, _, hl, _ => by simp at hl
  | j :: r, fuel + 1, listed, a, w, hc, hl, h => by
    simp only [chainOk, Bool.and_eq_true, beq_iff_eq] at hc
    obtain ⟨hr, hc⟩ := hc
    have ih := any_list r fuel (listed.setIfInBounds j true)
    refine ⟨fun h0 => (by rw [hr] at h0; cases h0), fun i hi => ?_⟩
    rw [hr] at hi
    obtain rfl : i = j := by simpa using hi
    have hm : i ∈ Region.ready .any ops listed := by rw [hr]; exact List.mem_cons_self
    obtain ⟨_, o, ho, _⟩ := mem_ready.1 hm
    rw [List.filterMap_cons, ho] at h
    unfold wpOp
    rw [ho]
    show if Region.wanted o (yielded ops a.tmps) = true then _ else _
    simp only [wpList] at h
    by_cases hw : Region.wanted o (yielded ops a.tmps) = true
    · rw [if_pos hw] at h ⊢
      rcases h with h | h
      · exact .inl (Oper.wp_mono (fun a' w' h' => ih a' w' hc (by simpa using hl) h') h)
      · exact .inr h
    · rw [if_neg hw] at h ⊢
      exact ih _ _ hc (by simpa using hl) h
/-- What an operation waits for. -/
def tgt (o : Oper) : List Nat := (o.after.toList.filter fun e => Region.binds .any e).map (·.on)
def tgts (ops : List Oper) (i : Nat) : List Nat := ((ops[i]?).map tgt).getD []
/-- And what these wait for, n times over. -/
def clo (ops : List Oper) : Nat → List Nat → List Nat
  | 0, L => L
  | n + 1, L => clo ops n (L ++ L.flatMap (tgts ops)).eraseDups
/-- Each from number k on waits, in the end, for all ahead of number k. -/
def coverOk (ops : List Oper) (k : Nat) : Bool := (List.range ops.length).all fun j => decide (j < k) || (List.range k).all fun i => (clo ops 8 (tgts ops j)).contains i
theorem mem_tgt {o : Oper} {i : Nat} : i ∈ tgt o ↔ ∃ e ∈ o.after, Region.binds .any e = true ∧ e.on = i := by
  unfold tgt
  simp only [List.mem_map, List.mem_filter, Array.mem_toList_iff]
  constructor
  · rintro ⟨e, ⟨h1, h2⟩, h3⟩; exact ⟨e, h1, h2, h3⟩
  · rintro ⟨e, h1, h2, h3⟩; exact ⟨e, ⟨h1, h2⟩, h3⟩
/-- What is listed is closed. -/
def Closed (ops : Array Oper) (listed : Array Bool) : Prop := ∀ (i : Nat) (o : Oper), ops[i]? = some o → listed.getD i false = true → ∀ j ∈ tgt o, listed.getD j false = true
theorem clo_listed {listed : Array Bool} (hc : Closed ops listed) : ∀ (n : Nat) (L : List Nat), (∀ i ∈ L, listed.getD i false = true) → ∀ i ∈ clo ops.toList n L, listed.getD i false = true
  | 0, L, h, i, hi => h i hi
  | n + 1, L, h, i, hi => by
    refine clo_listed hc n _ (fun j hj => ?_) i hi
    rw [List.mem_eraseDups] at hj
    rcases List.mem_append.1 hj with hj | hj
    · exact h j hj
    · obtain ⟨m, hm, hj⟩ := List.mem_flatMap.1 hj
      unfold tgts at hj
      rw [Array.getElem?_toList] at hj
      cases ho : ops[m]? with
      | none => rw [ho] at hj; simp at hj
      | some o =>
        rw [ho] at hj
        exact hc m o ho (h m hm) j (by simpa using hj)
theorem ready_back (hE : backOk ops.toList = true) {listed : Array Bool} (hs : listed.size = ops.size) (h : Region.ready .any ops listed = []) : unl listed = 0 := by
  unfold backOk at hE
  have hback := List.all_eq_true.1 hE
  have key : ∀ n i, i < n → i < listed.size → listed.getD i true = true := by
    intro n
    induction n with
    | zero => intro i h; omega
    | succ n ih =>
      intro i hi hl
      cases hc : listed.getD i true with
      | true => rfl
      | false =>
        exfalso
        have hio : i < ops.size := by omega
        have hm : i ∈ Region.ready .any ops listed := by
          refine mem_ready.2 ⟨hc, ops[i], Array.getElem?_eq_getElem hio, fun e he hbd => ?_⟩
          have hb := hback i (by simp; exact hio)
          simp only [Array.getElem?_toList, Array.getElem?_eq_getElem hio, Option.map_some, Option.getD_some] at hb
          have hb2 : e.on < i := by
            have := List.all_eq_true.1 hb e (by simpa using he)
            simpa [hbd] using this
          have := ih e.on (by omega) (by omega)
          rw [← getD_tf (by omega)]; exact this
        rw [h] at hm
        cases hm
  unfold unl
  rw [Array.countP_eq_zero]
  intro b hb
  obtain ⟨i, hi, rfl⟩ := Array.mem_iff_getElem.1 hb
  have := key (i + 1) i (by omega) hi
  simpa [hi] using this
theorem chain_len : ∀ (js : List Nat) (listed : Array Bool), chainOk ops listed js = true → js.length ≤ unl listed
  | [], _, _ => Nat.zero_le _
  | j :: r, listed, hc => by
    simp only [chainOk, Bool.and_eq_true, beq_iff_eq] at hc
    obtain ⟨hr, hc⟩ := hc
    have hm : j ∈ Region.ready .any ops listed := by rw [hr]; exact List.mem_cons_self
    obtain ⟨hun, _, _, _⟩ := mem_ready.1 hm
    have h1 := chain_len r _ hc
    have h2 := unl_set hun
    rw [List.length_cons]
    omega
/-- The first k are listed. -/
def firstK (k n : Nat) : Array Bool := Array.ofFn (n := n) fun i => decide (i.val < k)
theorem wp_mids_tail {qs : List Fk} {a0 : Act} {w0 : World} (js : List Nat) (hk : qs.length ≤ ops.size) (hE : backOk ops.toList = true) (hC : coverOk ops.toList qs.length = true) (hJ : chainOk ops (firstK qs.length ops.size) js = true)
    (hD : dstsOk a0.tmps.size (ops.toList.take qs.length) = true) (hG : guardsOk ops.toList qs.length qs ops.toList qs = true)
    (hS : Steps P Q ops.toList qs.length qs a0 w0 ops.toList qs)
    (hF : ∀ af w', Final ops.toList qs a0 af w' → Below w0.heap.size w0 w' → wpList P ops Q (js.filterMap (ops[·]?)) af w') :
    ∀ (fuel : Nat) (listed : Array Bool) (a : Act) (w : World), unl listed ≤ fuel → Closed ops listed → Mids ops qs.length (fkAt qs) a0 w0 listed a w → wpAny P .any ops Q fuel listed a w := by
  have hend : ∀ (fuel : Nat) (listed : Array Bool) (a : Act) (w : World), unl listed ≤ fuel → Mids ops qs.length (fkAt qs) a0 w0 listed a w → (∀ i, i < qs.length → listed.getD i false = true) → wpAny P .any ops Q fuel listed a w := by
    intro fuel listed a w hu hm hall
    have he : listed = firstK qs.length ops.size := by
      apply Array.ext (by simp [firstK, hm.lsize])
      intro i h1 h2
      simp only [firstK, Array.getElem_ofFn]
      by_cases hi : i < qs.length
      · have := hall i hi
        simp [h1] at this
        simp [this, hi]
      · have h3 : i < ops.size := by rw [hm.lsize] at h1; exact h1
        have := hm.last i (by omega) h3
        simp [h1] at this
        simp [this, hi]
    have hJ' : chainOk ops listed js = true := by rw [he]; exact hJ
    have hlen := chain_len js listed hJ'
    refine any_list js fuel listed a w hJ' (by omega) ?_
    refine hF a w ⟨hm.defs, hm.size, fun t ht => eval_of_get (hm.old t ht), fun i d h => ?_⟩ hm.grow
    simp only [Bool.and_eq_true, decide_eq_true_eq, beq_iff_eq] at h
    obtain ⟨hi, hd⟩ := h
    cases ho : ops.toList[i]? with
    | none => rw [ho] at hd; simp at hd
    | some o =>
      rw [ho] at hd
      exact hm.has i o d hi (by rw [← Array.getElem?_toList]; exact ho) (by simpa using hd) (hall i hi)
  intro fuel
  induction fuel with
  | zero =>
    intro listed a w hu hcl hm
    have hall := unl_zero (listed := listed) (by omega)
    refine hend 0 listed a w hu hm (fun i hi => ?_)
    have hil : i < listed.size := by rw [hm.lsize]; omega
    rw [← getD_tf hil]; exact hall i hil
  | succ fuel ih =>
    intro listed a w hu hcl hm
    by_cases hall : ∀ i, i < qs.length → listed.getD i false = true
    · exact hend (fuel + 1) listed a w hu hm hall
    · have hex : ∃ i0, i0 < qs.length ∧ listed.getD i0 false = false := by
        apply Classical.byContradiction
        intro hno
        apply hall
        intro i hi
        cases hq : listed.getD i false with
        | true => rfl
        | false => exact absurd ⟨i, hi, hq⟩ hno
      obtain ⟨i0, hi0, hi0u⟩ := hex
      refine ⟨fun hr => ?_, fun i hi => ?_⟩
      · exfalso
        have hu0 := ready_back hE hm.lsize hr
        have hil : i0 < listed.size := by rw [hm.lsize]; omega
        have := unl_zero hu0 i0 hil
        rw [getD_tf hil, hi0u] at this
        cases this
      · obtain ⟨hun, o, ho, hdep⟩ := mem_ready.1 hi
        have hio : i < ops.size := (Array.getElem?_eq_some_iff.1 ho).1
        have hu' := unl_set hun
        have hil : i < listed.size := by rw [hm.lsize]; exact hio
        have htg : ∀ j ∈ tgt o, listed.getD j false = true := fun j hj => by
          obtain ⟨e, he, hb, rfl⟩ := mem_tgt.1 hj
          exact hdep e he hb
        have hik : i < qs.length := by
          rcases Nat.lt_or_ge i qs.length with h | h
          · exact h
          · exfalso
            unfold coverOk at hC
            have h1 := List.all_eq_true.1 hC i (by simpa using hio)
            simp only [Bool.or_eq_true, decide_eq_true_eq] at h1
            rcases h1 with h1 | h1
            · omega
            · have h2 := List.all_eq_true.1 h1 i0 (by simpa using hi0)
              have h3 : i0 ∈ clo ops.toList 8 (tgts ops.toList i) := by simpa using h2
              have h4 := clo_listed hcl 8 (tgts ops.toList i) (fun j hj => by
                unfold tgts at hj
                rw [Array.getElem?_toList, ho] at hj
                exact htg j (by simpa using hj)) i0 h3
              rw [hi0u] at h4
              cases h4
        have hK : Known ops.toList qs.length (fkAt qs) a0 w0 o a w := by
          refine ⟨fun t ht => eval_of_get (hm.old t ht), fun j d hj => ?_, hm.grow⟩
          unfold depOk at hj
          simp only [Bool.and_eq_true, decide_eq_true_eq, beq_iff_eq, Array.getElem?_toList] at hj
          obtain ⟨⟨hjk, hany⟩, hd⟩ := hj
          obtain ⟨e, he, hb⟩ := List.any_eq_true.1 hany
          simp only [Bool.and_eq_true, beq_iff_eq] at hb
          have hl := hdep e (by simpa using he) hb.2
          rw [hb.1] at hl
          cases hoj : ops[j]? with
          | none => rw [hoj] at hd; simp at hd
          | some oj =>
            rw [hoj] at hd
            exact hm.has j oj d hjk hoj (by simpa using hd) hl
        have hto : (ops.toList.take qs.length)[i]? = some o := by rw [List.getElem?_take, if_pos hik, Array.getElem?_toList]; exact ho
        obtain ⟨d, hd, hlt, hallD⟩ := dstsOk_spec hD i o hto
        have hcl' : Closed ops (listed.setIfInBounds i true) := by
          intro m om hom hml j hj
          by_cases e : m = i
          · subst e
            obtain rfl : om = o := Option.some.inj (hom.symm.trans ho)
            have h1 := htg j hj
            by_cases e2 : j = m
            · subst e2; exact getD_set_same hil
            · have hne : m ≠ j := fun h => e2 h.symm
              simpa [Array.getElem?_setIfInBounds, hne] using h1
          · have hne : i ≠ m := fun h => e h.symm
            have hml' : listed.getD m false = true := by simpa [Array.getElem?_setIfInBounds, hne] using hml
            have h1 := hcl m om hom hml' j hj
            by_cases e2 : j = i
            · subst e2; exact getD_set_same hil
            · have hne2 : i ≠ j := fun h => e2 h.symm
              simpa [Array.getElem?_setIfInBounds, hne2] using h1
        have hnext : ∀ v w', Below w.heap.size w w' → fkAt qs i v w' → wpAny P .any ops Q fuel (listed.setIfInBounds i true) (a.put o.dst v) w' := by
          intro v w' hb hf
          refine ih _ _ _ (by omega) hcl' ⟨by rw [put_size]; exact hm.size, by rw [put_def]; exact hm.defs, by simp; exact hm.lsize, fun t ht => ?_, fun j oj dj hj hoj hdj hlj => ?_, fun j hj1 hj2 => ?_, hm.grow.trans (hb.mono hm.grow.size)⟩
          · rw [put_other _ _ _ _ (freeOf_spec ht hto)]; exact hm.old t ht
          · by_cases e : j = i
            · subst e
              obtain rfl : oj = o := Option.some.inj (hoj.symm.trans ho)
              obtain rfl : dj = d := Option.some.inj (hdj.symm.trans hd)
              have hev : (a.put oj.dst v).eval (.tmp dj) = v := by
                have := put_same a dj v (by rw [hm.size]; exact hlt)
                rw [← hd] at this
                simp [Act.eval, this]
              rw [hev]; exact hf
            · have htj : (ops.toList.take qs.length)[j]? = some oj := by rw [List.getElem?_take, if_pos hj, Array.getElem?_toList]; exact hoj
              have hne : o.dst ≠ some dj := fun h => by
                have : d = dj := Option.some.inj (hd.symm.trans h)
                exact hallD j oj htj e (by rw [this]; exact hdj)
              rw [eval_of_get (put_other a o.dst v dj hne)]
              refine Fk.mono _ _ w w' (hm.has j oj dj hj hoj hdj ?_) hb
              have hne2 : i ≠ j := fun h => e h.symm
              simpa [Array.getElem?_setIfInBounds, hne2] using hlj
          · have hne : i ≠ j := by omega
            have := hm.last j hj1 hj2
            simpa [Array.getElem?_setIfInBounds, hne] using this
        have hyield : ∀ (j : Nat) (b c : Bool), o.guard = some (j, b) → (∃ d, depOk ops.toList qs.length o j d = true) → (∀ v w, fkAt qs j v w → v = .bool c) → yielded ops a.tmps j = some c := by
          rintro j b c hg ⟨d, hd⟩ hbool
          have hv := hbool _ _ (hK.dep j d hd)
          have hd2 : (ops[j]?).bind (·.dst) = some d := by
            unfold depOk at hd
            simp only [Bool.and_eq_true, decide_eq_true_eq, beq_iff_eq, Array.getElem?_toList] at hd
            exact hd.2
          have hget : a.tmps[d]? = some (.bool c) := by
            simp only [Act.eval, Array.getD_eq_getD_getElem?] at hv
            cases hq : a.tmps[d]? with
            | none => rw [hq] at hv; simp [undef] at hv
            | some u => rw [hq] at hv; simp at hv; rw [hv]
          unfold yielded
          rw [hd2]
          simp only [Option.bind_some, hget]
        unfold wpOp
        rw [ho]
        show if Region.wanted o (yielded ops a.tmps) = true then _ else _
        have hyes : Region.wanted o (yielded ops a.tmps) = true → wantedBy qs o = true → (if Region.wanted o (yielded ops a.tmps) = true then o.wp P a w (wpAny P .any ops Q fuel (listed.setIfInBounds i true)) Q ∨ (o.asks P a w ∧ LetsOut Q) else wpAny P .any ops Q fuel (listed.setIfInBounds i true) (a.put o.dst undef) w) := by
          intro hwant hwb
          rw [if_pos hwant]
          refine .inl (Oper.wp_mono ?_ (hS.get i o hik (by rw [Array.getElem?_toList]; exact ho) hwb a w hK))
          rintro a' w' ⟨v, rfl, hb, hf⟩
          exact hnext v w' hb hf
        cases hg : o.guard with
        | none => exact hyes (by unfold Region.wanted; rw [hg]) (by unfold wantedBy; rw [hg])
        | some jb =>
          obtain ⟨j, b⟩ := jb
          obtain ⟨hdp, h2⟩ := guardsOk_spec hG i o j b hik (by rw [Array.getElem?_toList]; exact ho) hg
          rcases h2 with h2 | h2
          · refine hyes ?_ (by unfold wantedBy; rw [hg]; exact h2)
            unfold Region.wanted
            rw [hg]
            show (yielded ops a.tmps j == some b) = true
            rw [hyield j b b hg hdp (Fk.isBool_spec h2)]; simp
          · have hno : Region.wanted o (yielded ops a.tmps) = false := by
              unfold Region.wanted
              rw [hg]
              show (yielded ops a.tmps j == some b) = false
              rw [hyield j b (!b) hg hdp (Fk.isBool_spec h2.1)]; cases b <;> rfl
            rw [if_neg (by rw [hno]; simp)]
            exact hnext undef w (Below.refl _ _) (Fk.isAny_spec h2.2 _ _)
/-- A drawn region: its first operations by steps, whatever order is picked; the others, in the order js, behind them. -/
theorem wp_region_tail {id : Nat} {a0 : Act} {w : World} (qs : List Fk) (js : List Nat) (hm : P.follows .mixedOrders = true) (hk : decide (qs.length ≤ ops.size) = true) (hE : backOk ops.toList = true) (hC : coverOk ops.toList qs.length = true) (hJ : chainOk ops (firstK qs.length ops.size) js = true)
    (hD : dstsOk a0.tmps.size (ops.toList.take qs.length) = true) (hG : guardsOk ops.toList qs.length qs ops.toList qs = true)
    (hS : Steps P Q ops.toList qs.length qs a0 w ops.toList qs)
    (hF : ∀ af w', Final ops.toList qs a0 af w' → Below w.heap.size w w' → wpList P ops Q (js.filterMap (ops[·]?)) af w') :
    (Code.region id ops true).wp P Q a0 w := by
  refine wp_region_any hm ?_
  refine wp_mids_tail js (of_decide_eq_true hk) hE hC hJ hD hG hS hF ops.size _ a0 _ ?_ ?_ ?_
  · unfold unl
    exact Nat.le_trans (Array.countP_le_size) (by simp)
  · intro i o ho hl
    have : i < ops.size := (Array.getElem?_eq_some_iff.1 ho).1
    simp [this] at hl
  · refine ⟨rfl, rfl, by simp, fun _ _ => rfl, fun i o d _ ho _ hl => ?_, fun i _ hi => ?_, (Below.refl _ _).drew⟩
    · have : i < ops.size := (Array.getElem?_eq_some_iff.1 ho).1
      simp [this] at hl
    · simp [hi]
theorem wr_t {id : Nat} {a0 : Act} {w : World} (qs : List Fk) (js : List Nat) (hm : P.follows .mixedOrders = true) (hc : (decide (qs.length ≤ ops.size) && backOk ops.toList && coverOk ops.toList qs.length && chainOk ops (firstK qs.length ops.size) js && dstsOk a0.tmps.size (ops.toList.take qs.length) && guardsOk ops.toList qs.length qs ops.toList qs) = true)
    (hS : Steps P Q ops.toList qs.length qs a0 w ops.toList qs)
    (hF : ∀ af w', Final ops.toList qs a0 af w' → Below w.heap.size w w' → wpList P ops Q (js.filterMap (ops[·]?)) af w') :
    (Code.region id ops true).wp P Q a0 w := by
  simp only [Bool.and_eq_true] at hc
  exact wp_region_tail qs js hm hc.1.1.1.1.1 hc.1.1.1.1.2 hc.1.1.1.2 hc.1.1.2 hc.1.2 hc.2 hS hF
end
end Go.Proofs.YtfmeeimhfdnjpaaDoor
namespace Go.Proofs.YtfmeeimhfdnjpaaDoor
set_option maxRecDepth 100000
open Go.RowKit
section
variable {ops : Array Oper} {Q : Exit → Act → World → Prop}
end
end Go.Proofs.YtfmeeimhfdnjpaaDoor
namespace Go.Proofs.YtfmeeimhfdnjpaaDoor
set_option maxRecDepth 100000
open Go.RowKit
/-- All 512. -/
def all512 (F : Nat → List (BitVec 8)) : List (List (BitVec 8)) := (List.range 512).map F
end Go.Proofs.YtfmeeimhfdnjpaaDoor
namespace Go.Proofs.YtfmeeimhfdnjpaaDoor
set_option maxRecDepth 100000
open Go.RowKit
/-- The secret of bit p for b. -/
def sc (seed : List (BitVec 8)) (key : Int) (p b : Nat) : List (BitVec 8) := sec seed key ((67 + 2 * p + b : Nat) : Int)
/-- The end of what stands for bit p, for b. -/
def en (x : List (BitVec 8)) (p b : Nat) : List (BitVec 8) := chn ((67 + p : Nat) : Int) (b : Int) x
end Go.Proofs.YtfmeeimhfdnjpaaDoor
namespace Go.Proofs.YtfmeeimhfdnjpaaDoor
set_option maxRecDepth 100000
open Go.RowKit Go.Shelf
attribute [local go_sem] Oper.semAt_some
/-- Bit k of a hash. -/
def bt (h : List (BitVec 8)) (k : Nat) : Nat := (h.getD (k / 8) 0).toNat / 2 ^ (7 - k % 8) % 2
/-- What a round is handed. -/
def enc (h : List (BitVec 8)) (p : Fin 256) : Array Value := #[.int .i64 (p.val : Int), .int .i64 (bt h p.val : Int)]
end Go.Proofs.YtfmeeimhfdnjpaaDoor
namespace Go.Proofs.YtfmeeimhfdnjpaaDoor
set_option maxRecDepth 100000
open Go.RowKit Go.Shelf
attribute [local go_sem] Oper.semAt_some
/-- A number in a cell. -/
def NV (n : Nat) : Value := .int .i64 (n : Int)
/-- Block b of the world is a row of numbers. -/
def HasN (w : World) (b : Nat) (ds : List Nat) : Prop := w.heap[b]? = some (.cells (ds.map NV).toArray 3 (0, 0))
theorem HasN.cell {w : World} {b : Nat} {ds : List Nat} (h : HasN w b ds) (i d : Nat) (hi : ds[i]? = some d) : w.cell? ⟨b, i, none⟩ = some (.int .i64 (d : Int)) := by
  unfold HasN at h
  simp [World.cell?, h, hi, NV]
theorem HasN.frozen {w : World} {b : Nat} {ds : List Nat} (h : HasN w b ds) (i : Nat) : w.frozen? ⟨b, i, none⟩ = false := by
  unfold HasN at h
  simp [World.frozen?, h]
theorem HasN.set {w : World} {b : Nat} {ds : List Nat} (h : HasN w b ds) (i x : Nat) : HasN (w.setCell ⟨b, i, none⟩ (.int .i64 (x : Int))) b (ds.set i x) := by
  unfold HasN at *
  simp [World.setCell, Array.getElem?_modify, h, NV, List.map_set]
theorem HasN.lt {w : World} {b : Nat} {ds : List Nat} (h : HasN w b ds) : b < w.heap.size := (Array.getElem?_eq_some_iff.1 h).1
/-- A variable that holds a slice. -/
def HasS (w : World) (b : Nat) (T : TypeId) (v : Value) : Prop := w.heap[b]? = some (.cells #[v] T (0, 0))
theorem HasS.cell {w : World} {b : Nat} {T : TypeId} {v : Value} (h : HasS w b T v) : w.cell? ⟨b, 0, none⟩ = some v := by
  unfold HasS at h
  simp [World.cell?, h]
end Go.Proofs.YtfmeeimhfdnjpaaDoor
namespace Go.Proofs.YtfmeeimhfdnjpaaDoor
set_option maxRecDepth 100000
open Go.RowKit
end Go.Proofs.YtfmeeimhfdnjpaaDoor
namespace Go.Proofs.YtfmeeimhfdnjpaaDoor
set_option maxRecDepth 100000
open Go.RowKit
section
variable {P : Program} {Q : Exit → Act → World → Prop} {l n : Nat}
variable {ops : Array Oper}
end
end Go.Proofs.YtfmeeimhfdnjpaaDoor
namespace Go.Proofs.YtfmeeimhfdnjpaaDoor
set_option maxRecDepth 100000
open Go.RowKit
/-- A pointer to a variable that holds v. -/
def Fk.pv (u : Value) : Fk := .inr (.inl ⟨fun v w => ∃ b o, v = .pointer (some ⟨b, o, none⟩) ∧ w.cell? ⟨b, o, none⟩ = some u, by
  rintro v w w' ⟨b, o, e, h⟩ hb
  exact ⟨b, o, e, by rw [hb.cell (block_lt_of_cell h)]; exact h⟩⟩)
section
variable {Q : Exit → Act → World → Prop} {o : Oper} {a : Act} {w : World} {q : Fk} {ops : Array Oper} {rest : List Oper}
theorem st_add (x y : Operand) (ho : o.op = .binOp .add 3 x y 3) (m n e : Nat) (hx : a.eval x = .int .i64 (m : Int)) (hy : a.eval y = .int .i64 (n : Int)) (he : e = m + n) (hk : e ≤ 1000000) : o.wp Tryd.prog a w (Ends a o.dst w (Fk.eq (.int .i64 (e : Int))).f) Q := by
  refine st_pure (v := .int .i64 (e : Int)) ?_ rfl
  unfold execOp
  rw [ho]
  have hw : IntKind.i64.wrap ((m : Int) + (n : Int)) = (e : Int) := by rw [IntKind.wrap_i64]; omega
  simp [hx, hy, eqGuard, binOp, Op.intArith, hw]
theorem st_sub (x y : Operand) (ho : o.op = .binOp .sub 3 x y 3) (m n e : Nat) (hx : a.eval x = .int .i64 (m : Int)) (hy : a.eval y = .int .i64 (n : Int)) (he : e + n = m) (hk : m ≤ 1000000) : o.wp Tryd.prog a w (Ends a o.dst w (Fk.eq (.int .i64 (e : Int))).f) Q := by
  refine st_pure (v := .int .i64 (e : Int)) ?_ rfl
  unfold execOp
  rw [ho]
  have hw : IntKind.i64.wrap ((m : Int) - (n : Int)) = (e : Int) := by rw [IntKind.wrap_i64]; omega
  simp [hx, hy, eqGuard, binOp, Op.intArith, hw]
theorem wl_storew (hgd : o.guard = none) (x y : Operand) (ho : o.op = .store 33 x y) (hd : o.dst = none) (g i : Nat) (zs : List (BitVec 8)) (hs : List (List (BitVec 8))) (hx : a.eval x = .pointer (some ⟨g, i * 32, none⟩)) (hy : a.eval y = .agg (zs.map V).toArray) (hR : Rw w g hs) (hi : i < hs.length) (hz : zs.length = 32)
    (h : wpList Tryd.prog ops Q rest a (w.setCells g (i * 32) (zs.map V))) : wpList Tryd.prog ops Q (o :: rest) a w := by
  refine wpList_store_mid hgd 33 x y ho g (i * 32) (zs.map V).toArray hx hy (by rw [List.size_toArray, List.length_map, hz]; exact hR.there i hi) (by rw [List.size_toArray, List.length_map, hz]; exact Tryd.size33) (V_all _) ?_
  rw [hd]
  exact h
end
/-- The end at number i. -/
def edOf (seed : List (BitVec 8)) (key : Int) (i : Nat) : List (BitVec 8) := en (sc seed key (i / 2) (i % 2)) (i / 2) (i % 2)
end Go.Proofs.YtfmeeimhfdnjpaaDoor
namespace Go.Proofs.YtfmeeimhfdnjpaaDoor
set_option maxRecDepth 100000
open Go.RowKit Go.Shelf
attribute [local go_sem] Oper.semAt_some
end Go.Proofs.YtfmeeimhfdnjpaaDoor
namespace Go.Proofs.YtfmeeimhfdnjpaaDoor
set_option maxRecDepth 100000
open Go.RowKit Go.Shelf
attribute [local go_sem] Oper.semAt_some
end Go.Proofs.YtfmeeimhfdnjpaaDoor
namespace Go.Proofs.YtfmeeimhfdnjpaaDoor
set_option maxRecDepth 100000
open Go.RowKit
end Go.Proofs.YtfmeeimhfdnjpaaDoor
namespace Go.Proofs.YtfmeeimhfdnjpaaDoor
set_option maxRecDepth 100000
open Go.RowKit
section
variable {Q : Exit → Act → World → Prop} {o : Oper} {a : Act} {w : World} {ops : Array Oper} {rest : List Oper}
end
end Go.Proofs.YtfmeeimhfdnjpaaDoor
namespace Go.Proofs.YtfmeeimhfdnjpaaDoor
set_option maxRecDepth 100000
open Go.RowKit
end Go.Proofs.YtfmeeimhfdnjpaaDoor
namespace Go.Proofs.YtfmeeimhfdnjpaaDoor
set_option maxRecDepth 100000
open Go.RowKit
section
variable {Q : Exit → Act → World → Prop} {o : Oper} {a : Act} {w : World}
end
end Go.Proofs.YtfmeeimhfdnjpaaDoor
namespace Go.Proofs.YtfmeeimhfdnjpaaDoor
set_option maxRecDepth 100000
open Go.RowKit
/-- Block b holds just these cells. -/
def Ob (w : World) (b : Nat) (T : TypeId) (cs : List Value) : Prop := w.heap[b]? = some (.cells cs.toArray T (0, 0))
theorem Ob.lt {w : World} {b : Nat} {T : TypeId} {cs : List Value} (h : Ob w b T cs) : b < w.heap.size := (Array.getElem?_eq_some_iff.1 h).1
theorem Ob.below {w w' : World} {b : Nat} {T : TypeId} {cs : List Value} (h : Ob w b T cs) (hb : Below w.heap.size w w') : Ob w' b T cs := by
  have := hb.block b h.lt
  unfold Ob at *
  rw [this]; exact h
theorem Ob.only {w w' : World} {b g : Nat} {T : TypeId} {cs : List Value} (h : Ob w b T cs) (hb : Only g w w') (hg : b ≠ g) : Ob w' b T cs := by
  have := hb.block b h.lt hg
  unfold Ob at *
  rw [this]; exact h
theorem Ob.cell {w : World} {b : Nat} {T : TypeId} {cs : List Value} (h : Ob w b T cs) (i : Nat) {v : Value} (hi : cs[i]? = some v) : w.cell? ⟨b, i, none⟩ = some v := by
  unfold Ob at h
  simp [World.cell?, h, hi]
theorem Ob.set {w : World} {b : Nat} {T : TypeId} {cs : List Value} (h : Ob w b T cs) (i : Nat) (v : Value) : Ob (w.setCell ⟨b, i, none⟩ v) b T (cs.set i v) := by
  unfold Ob at *
  simp [World.setCell, Array.getElem?_modify, h]
theorem Ob.alloc (w : World) (T : TypeId) (cs : List Value) : Ob (w.alloc (.cells cs.toArray T)) w.heap.size T cs := heap_alloc_new _ _
theorem Ob.range {w : World} {b : Nat} {T : TypeId} {cs : List Value} (h : Ob w b T cs) (o : Nat) (l : List Value) (hl : ∀ (j : Nat) (v : Value), l[j]? = some v → cs[o + j]? = some v) : w.rangeAt b o l := fun j v hj => h.cell (o + j) (hl j v hj)
theorem Ob.setRow {w : World} {b : Nat} {T : TypeId} {cs : List Value} (h : Ob w b T cs) (ds : List Value) : Ob (w.setRow b ds.toArray) b T ds := setRow_heap _ _ _ _ T (0, 0) h
theorem Ob.setRow_other {w : World} {b g : Nat} {T : TypeId} {cs : List Value} (h : Ob w b T cs) (ds : Array Value) (hne : b ≠ g) : Ob (w.setRow g ds) b T cs := by
  have := (Only.refl g w).setRow ds
  exact h.only this hne
/-- A pointer to a new block with these cells. -/
def Fk.nw (g0 : Nat) (T : TypeId) (cs : List Value) : Fk := .inr (.inl ⟨fun v w => ∃ g, g0 ≤ g ∧ v = .pointer (some ⟨g, 0, none⟩) ∧ Ob w g T cs, by
  rintro v w w' ⟨g, h, e, hv⟩ hb
  exact ⟨g, h, e, hv.below hb⟩⟩)
theorem fk_val {q : Fk} {a : Act} {x : Operand} {u : Value} {w : World} (h : a.eval x = u) (hq : q.f u w) : q.f (a.eval x) w := by rw [h]; exact hq
section
variable {P : Program} {Q : Exit → Act → World → Prop} {o : Oper} {a : Act} {w : World} {q : Fk} {ops : Array Oper} {rest : List Oper}
theorem st_pick_f' (c x y : Operand) (ho : o.op = .pick c x y) (hc : a.eval c = .bool false) (h : q.f (a.eval y) w) : o.wp P a w (Ends a o.dst w q.f) Q :=
  st_pure (v := a.eval y) (by unfold execOp; rw [ho]; simp [hc, asBool]) h
theorem st_field (T f : Nat) (x : Operand) (ho : o.op = .fieldAddr T x f) {p r : Addr} (hx : a.eval x = .pointer (some p)) (hr : (Instr.fieldAt T (.pointer (some p)) f).run P w = .ok (.pointer (some r)) w) : o.wp P a w (Ends a o.dst w (Fk.eq (.pointer (some r))).f) Q := by
  refine st_pure (v := .pointer (some r)) ?_ rfl
  unfold execOp
  rw [ho]
  simp [hx, hr]
theorem st_loadc (T : TypeId) (x : Operand) (ho : o.op = .load T x) (h1 : (isAgg T).run P w = .ok false w) {p : Addr} {u : Value} (hx : a.eval x = .pointer (some p)) (hc : w.cell? p = some u) : o.wp P a w (Ends a o.dst w (Fk.eq u).f) Q := by
  refine st_pure (v := u) ?_ rfl
  unfold execOp
  rw [ho]
  simp [hx, Instr.loadAt, Instr.sureAddr, loadVar, h1, run_load, hc]
theorem st_loadm (T : TypeId) (x : Operand) (ho : o.op = .load T x) (b so : Nat) (cs : List Value) {d : TypeDesc} (hu : P.underlying T = some d) (hd : d.isRow = true) (hi : (P.info? T).map (·.size) = some cs.length) (hx : a.eval x = .pointer (some ⟨b, so, none⟩)) (hc : w.rangeAt b so cs) : o.wp P a w (Ends a o.dst w (Fk.eq (.agg cs.toArray)).f) Q :=
  wp_load_mid T x ho b so hx cs _ hc hu hd hi ⟨_, rfl, Below.refl _ _, rfl⟩
theorem st_build (T : TypeId) (ps : Array (Nat × Operand)) (ho : o.op = .build T ps) {u : Value} (hr : (Instr.build T (ps.map fun (i, x) => (i, a.eval x))).run P w = .ok u w) : o.wp P a w (Ends a o.dst w (Fk.eq u).f) Q := by
  refine st_pure (v := u) ?_ rfl
  unfold execOp
  rw [ho]
  simp only [hr, Sem.run_bind, Result.andThen_ok, Sem.run_pure]
theorem st_box (T : TypeId) (x : Operand) (ho : o.op = .box T x) (g0 : Nat) (cs : List Value) (hr : (Instr.box T (a.eval x)).run P w = .ok (.pointer (some ⟨w.heap.size, 0, none⟩)) (w.alloc (.cells cs.toArray T))) (hg : g0 ≤ w.heap.size) : o.wp P a w (Ends a o.dst w (Fk.nw g0 T cs).f) Q := by
  refine st_run (v := .pointer (some ⟨w.heap.size, 0, none⟩)) (w' := w.alloc (.cells cs.toArray T)) ?_ ((Below.refl _ _).alloc (Nat.le_refl _) _) ⟨_, hg, rfl, Ob.alloc _ _ _⟩
  unfold execOp
  rw [ho]
  simp [hr]
theorem st_alloc (T : TypeId) (ho : o.op = .alloc T) (g0 : Nat) (cs : List Value) (hr : (Instr.alloc T true (.tuple #[])).run P w = .ok (.pointer (some ⟨w.heap.size, 0, none⟩)) (w.alloc (.cells cs.toArray T))) (hg : g0 ≤ w.heap.size) : o.wp P a w (Ends a o.dst w (Fk.nw g0 T cs).f) Q := by
  refine st_run (v := .pointer (some ⟨w.heap.size, 0, none⟩)) (w' := w.alloc (.cells cs.toArray T)) ?_ ((Below.refl _ _).alloc (Nat.le_refl _) _) ⟨_, hg, rfl, Ob.alloc _ _ _⟩
  unfold execOp
  rw [ho]
  simp [hr]
theorem st_bin (op : BinOp) (t t2 : TypeId) (x y : Operand) (ho : o.op = .binOp op t x y t2) {u v r : Value} (hx : a.eval x = u) (hy : a.eval y = v) (hr : (do eqGuard op t x y u v; binOp op t u v : Sem Value).run P w = .ok r w) : o.wp P a w (Ends a o.dst w (Fk.eq r).f) Q := by
  refine st_pure (v := r) ?_ rfl
  subst hx hy
  unfold execOp
  rw [ho]
  simp only [Sem.run_bind, hr, Result.andThen_ok, Sem.run_pure]
theorem st_geq (t : TypeId) (x y : Operand) (ho : o.op = .binOp .geq t x y t) (k : IntKind) (s u : Int) (hx : a.eval x = .int k s) (hy : a.eval y = .int k u) (b : Bool) (hb : b = decide (u ≤ s)) : o.wp P a w (Ends a o.dst w (Fk.eq (.bool b)).f) Q := by
  subst hb
  exact st_bin .geq t t x y ho hx hy (by simp [eqGuard, binOp, Op.intCmp])
theorem st_leq (t : TypeId) (x y : Operand) (ho : o.op = .binOp .leq t x y t) (k : IntKind) (s u : Int) (hx : a.eval x = .int k s) (hy : a.eval y = .int k u) (b : Bool) (hb : b = decide (s ≤ u)) : o.wp P a w (Ends a o.dst w (Fk.eq (.bool b)).f) Q := by
  subst hb
  exact st_bin .leq t t x y ho hx hy (by simp [eqGuard, binOp, Op.intCmp])
/-- One step by itself. -/
theorem wl_one (q : Fk) (hgd : o.guard = none) (d : Nat) (hd : o.dst = some d) (hsz : d < a.tmps.size) (hs : o.wp P a w (Ends a o.dst w q.f) Q)
    (h : ∀ a2 w2, a2.defers = a.defers → a2.tmps.size = a.tmps.size → (∀ t, (t == d) = false → a2.eval (.tmp t) = a.eval (.tmp t)) → q.f (a2.eval (.tmp d)) w2 → Below w.heap.size w w2 → wpList P ops Q rest a2 w2) : wpList P ops Q (o :: rest) a w := by
  unfold wpList
  rw [if_pos (by unfold Region.wanted; rw [hgd])]
  refine .inl (Oper.wp_mono ?_ hs)
  rintro a' w' ⟨v, rfl, hb, hf⟩
  rw [hd]
  refine h _ _ (put_def _ _ _) (put_size _ _ _) (fun t ht => put_eval_other _ _ _ _ (fun e => by subst e; simp at ht)) ?_ hb
  rw [put_eval_same _ _ _ hsz]
  exact hf
/-- A call by itself, whatever it does. -/
theorem wl_call (f : FuncId) (x : Operand) (xs : Array Operand) (ts : Array TypeId) (vs : Array Value) (hgd : o.guard = none) (d : Nat) (hd : o.dst = some d) (hsz : d < a.tmps.size) (ho : o.op = .call { callee := .value x, args := xs, argTypes := ts }) (hx : a.eval x = .func (.func f) #[] #[]) (hv : (xs.toList.map a.eval).toArray = vs)
    (hf : ∀ args w, (callFunc f args).run P w = .ok (.enter f args) w) (R : Value → World → Prop) (hc : Calls P f vs w fun e w' => ∃ v, e = .returned v ∧ R v w')
    (h : ∀ a2 w2, a2.defers = a.defers → a2.tmps.size = a.tmps.size → (∀ t, (t == d) = false → a2.eval (.tmp t) = a.eval (.tmp t)) → R (a2.eval (.tmp d)) w2 → wpList P ops Q rest a2 w2) : wpList P ops Q (o :: rest) a w := by
  have hr : (execOp a.eval o).run P w = .ok (.enter f vs) w := by
    have hv' : xs.map a.eval = vs := by rw [← hv]; apply Array.toList_inj.1; simp
    unfold execOp; rw [ho]
    simp [resolve, hx, Deferred.ofValue, invoke, hv', hf]
  unfold wpList
  rw [if_pos (by unfold Region.wanted; rw [hgd])]
  refine .inl ?_
  unfold Oper.wp; rw [hr]
  refine Calls.mono hc ?_
  rintro e w' ⟨v, rfl, h1⟩
  rw [hd]
  refine h _ _ (put_def _ _ _) (put_size _ _ _) (fun t ht => put_eval_other _ _ _ _ (fun e => by subst e; simp at ht)) ?_
  rw [put_eval_same _ _ _ hsz]
  exact h1
end
end Go.Proofs.YtfmeeimhfdnjpaaDoor
namespace Go.Proofs.YtfmeeimhfdnjpaaDoor
set_option maxRecDepth 100000
open Go.RowKit
theorem Tryd.enter8 (args : Array Value) (w : World) : (callFunc 8 args).run Tryd.prog w = .ok (.enter 8 args) w := by kernel_rfl
theorem Tryd.enter10 (args : Array Value) (w : World) : (callFunc 10 args).run Tryd.prog w = .ok (.enter 10 args) w := by kernel_rfl
theorem Tryd.enter11 (args : Array Value) (w : World) : (callFunc 11 args).run Tryd.prog w = .ok (.enter 11 args) w := by kernel_rfl
theorem Tryd.enter12 (args : Array Value) (w : World) : (callFunc 12 args).run Tryd.prog w = .ok (.enter 12 args) w := by kernel_rfl
theorem Tryd.enter14 (args : Array Value) (w : World) : (callFunc 14 args).run Tryd.prog w = .ok (.enter 14 args) w := by kernel_rfl
theorem Tryd.enter15 (args : Array Value) (w : World) : (callFunc 15 args).run Tryd.prog w = .ok (.enter 15 args) w := by kernel_rfl
theorem Tryd.enter16 (args : Array Value) (w : World) : (callFunc 16 args).run Tryd.prog w = .ok (.enter 16 args) w := by kernel_rfl
theorem Tryd.enter17 (args : Array Value) (w : World) : (callFunc 17 args).run Tryd.prog w = .ok (.enter 17 args) w := by kernel_rfl
theorem Tryd.enter18 (args : Array Value) (w : World) : (callFunc 18 args).run Tryd.prog w = .ok (.enter 18 args) w := by kernel_rfl
theorem Tryd.enter19 (args : Array Value) (w : World) : (callFunc 19 args).run Tryd.prog w = .ok (.enter 19 args) w := by kernel_rfl
theorem Tryd.enter20 (args : Array Value) (w : World) : (callFunc 20 args).run Tryd.prog w = .ok (.enter 20 args) w := by kernel_rfl
theorem Tryd.enter21 (args : Array Value) (w : World) : (callFunc 21 args).run Tryd.prog w = .ok (.enter 21 args) w := by kernel_rfl
theorem Tryd.enter22 (args : Array Value) (w : World) : (callFunc 22 args).run Tryd.prog w = .ok (.enter 22 args) w := by kernel_rfl
theorem Tryd.enter23 (args : Array Value) (w : World) : (callFunc 23 args).run Tryd.prog w = .ok (.enter 23 args) w := by kernel_rfl
theorem Tryd.enter25 (args : Array Value) (w : World) : (callFunc 25 args).run Tryd.prog w = .ok (.enter 25 args) w := by kernel_rfl
theorem Tryd.enter27 (args : Array Value) (w : World) : (callFunc 27 args).run Tryd.prog w = .ok (.enter 27 args) w := by kernel_rfl
theorem Tryd.enter28 (args : Array Value) (w : World) : (callFunc 28 args).run Tryd.prog w = .ok (.enter 28 args) w := by kernel_rfl
theorem Tryd.enter30 (args : Array Value) (w : World) : (callFunc 30 args).run Tryd.prog w = .ok (.enter 30 args) w := by kernel_rfl
theorem Tryd.enter31 (args : Array Value) (w : World) : (callFunc 31 args).run Tryd.prog w = .ok (.enter 31 args) w := by kernel_rfl
theorem Tryd.enter32 (args : Array Value) (w : World) : (callFunc 32 args).run Tryd.prog w = .ok (.enter 32 args) w := by kernel_rfl
theorem Tryd.enter33 (args : Array Value) (w : World) : (callFunc 33 args).run Tryd.prog w = .ok (.enter 33 args) w := by kernel_rfl
theorem Tryd.enter35 (args : Array Value) (w : World) : (callFunc 35 args).run Tryd.prog w = .ok (.enter 35 args) w := by kernel_rfl
theorem Tryd.enter36 (args : Array Value) (w : World) : (callFunc 36 args).run Tryd.prog w = .ok (.enter 36 args) w := by kernel_rfl
theorem Tryd.enter37 (args : Array Value) (w : World) : (callFunc 37 args).run Tryd.prog w = .ok (.enter 37 args) w := by kernel_rfl
theorem Tryd.enter38 (args : Array Value) (w : World) : (callFunc 38 args).run Tryd.prog w = .ok (.enter 38 args) w := by kernel_rfl
theorem Tryd.enter39 (args : Array Value) (w : World) : (callFunc 39 args).run Tryd.prog w = .ok (.enter 39 args) w := by kernel_rfl
theorem Tryd.enter45 (args : Array Value) (w : World) : (callFunc 45 args).run Tryd.prog w = .ok (.enter 45 args) w := by kernel_rfl
theorem Tryd.enter46 (args : Array Value) (w : World) : (callFunc 46 args).run Tryd.prog w = .ok (.enter 46 args) w := by kernel_rfl
theorem Tryd.enter47 (args : Array Value) (w : World) : (callFunc 47 args).run Tryd.prog w = .ok (.enter 47 args) w := by kernel_rfl
theorem Tryd.enter49 (args : Array Value) (w : World) : (callFunc 49 args).run Tryd.prog w = .ok (.enter 49 args) w := by kernel_rfl
theorem Tryd.enter50 (args : Array Value) (w : World) : (callFunc 50 args).run Tryd.prog w = .ok (.enter 50 args) w := by kernel_rfl
theorem Tryd.enter51 (args : Array Value) (w : World) : (callFunc 51 args).run Tryd.prog w = .ok (.enter 51 args) w := by kernel_rfl
theorem Tryd.enter52 (args : Array Value) (w : World) : (callFunc 52 args).run Tryd.prog w = .ok (.enter 52 args) w := by kernel_rfl
theorem Tryd.enter53 (args : Array Value) (w : World) : (callFunc 53 args).run Tryd.prog w = .ok (.enter 53 args) w := by kernel_rfl
theorem Tryd.enter54 (args : Array Value) (w : World) : (callFunc 54 args).run Tryd.prog w = .ok (.enter 54 args) w := by kernel_rfl
theorem Tryd.enter55 (args : Array Value) (w : World) : (callFunc 55 args).run Tryd.prog w = .ok (.enter 55 args) w := by kernel_rfl
theorem Tryd.enter60 (args : Array Value) (w : World) : (callFunc 60 args).run Tryd.prog w = .ok (.enter 60 args) w := by kernel_rfl
theorem Tryd.enter61 (args : Array Value) (w : World) : (callFunc 61 args).run Tryd.prog w = .ok (.enter 61 args) w := by kernel_rfl
theorem Tryd.enter62 (args : Array Value) (w : World) : (callFunc 62 args).run Tryd.prog w = .ok (.enter 62 args) w := by kernel_rfl
theorem Tryd.enter64 (args : Array Value) (w : World) : (callFunc 64 args).run Tryd.prog w = .ok (.enter 64 args) w := by kernel_rfl
theorem Tryd.enter65 (args : Array Value) (w : World) : (callFunc 65 args).run Tryd.prog w = .ok (.enter 65 args) w := by kernel_rfl
theorem Tryd.enter69 (args : Array Value) (w : World) : (callFunc 69 args).run Tryd.prog w = .ok (.enter 69 args) w := by kernel_rfl
theorem Ob.there {w : World} {b : Nat} {T : TypeId} {cs : List Value} (h : Ob w b T cs) (i : Nat) (hi : i < cs.length) : w.there b i 1 := by
  intro j hj
  obtain rfl : j = 0 := by omega
  refine ⟨?_, frozen_of_row w b (i + 0) _ T h⟩
  rw [h.cell (i + 0) (List.getElem?_eq_getElem (by simpa using hi))]
  rfl
theorem Ob.bytes {w : World} {b : Nat} {T : TypeId} {xs : List (BitVec 8)} {cs : List Value} (h : Ob w b T (xs.map V ++ cs)) : HasB w b 0 xs := fun i hi => by
  rw [h.cell (0 + i) (v := V (xs.getD i 0)) ?_]
  · rfl
  · rw [Nat.zero_add, List.getElem?_append_left (by simpa using hi), List.getElem?_map, List.getElem?_eq_getElem hi]
    simp [List.getD_eq_getElem?_getD, hi]
/-- A tuple of something and a value. -/
def Fk.t2 (q : Fk) (n : Value) : Fk := .inr (.inl ⟨fun v w => ∃ u, v = .tuple #[u, n] ∧ q.f u w, by
  rintro v w w' ⟨u, e, h⟩ hb
  exact ⟨u, e, Fk.mono _ _ _ _ h hb⟩⟩)
section
variable {Q : Exit → Act → World → Prop} {o : Oper} {a : Act} {w : World} {q : Fk}
theorem st_t2a (x : Operand) (ho : o.op = .extract x 0) {n : Value} (h : (Fk.t2 q n).f (a.eval x) w) : o.wp Tryd.prog a w (Ends a o.dst w q.f) Q := by
  obtain ⟨u, e, hu⟩ := h
  exact st_ext0 x ho e hu
theorem st_t2b (x : Operand) (ho : o.op = .extract x 1) {n : Value} (h : (Fk.t2 q n).f (a.eval x) w) : o.wp Tryd.prog a w (Ends a o.dst w (Fk.eq n).f) Q := by
  obtain ⟨u, e, hu⟩ := h
  exact st_ext1 x ho e rfl
theorem Tryd.elem22b : Tryd.prog.elem 22 = 5 := by kernel_rfl
theorem st_lenb (x : Operand) (ho : o.op = .call { callee := .builtin .len, args := #[x], argTypes := #[22] }) {bs : List (BitVec 8)} (h : (Fk.sl bs).f (a.eval x) w) : o.wp Tryd.prog a w (Ends a o.dst w (Fk.eq (.int .i64 (bs.length : Int))).f) Q := by
  obtain ⟨sp, m, c, b, so, e, hs⟩ := h
  refine st_pure (v := .int .i64 (bs.length : Int)) ?_ rfl
  have h1 := run_len_slice (P := Tryd.prog) (w := w) 22 o.type sp m c (by rw [Tryd.elem22b]; exact Tryd.under22)
  rw [hs.len] at h1 e
  unfold execOp
  simp [ho, resolve, invoke, builtin, e, h1, goInt]
end
theorem wl_str {P : Program} {ops : Array Oper} {rest : List Oper} {o : Oper} {a : Act} {w : World} {Q : Exit → Act → World → Prop} (hgd : o.guard = none) (ty : TypeId) (x y : Operand) (ho : o.op = .store ty x y) (hd : o.dst = none) (g : Nat) (cells : Array Value) (hx : a.eval x = .pointer (some ⟨g, 0, none⟩)) (hy : a.eval y = .agg cells)
    (t : TypeId) (old : Array Value) (hg : w.heap[g]? = some (.cells old t (0, 0))) (hi : (P.info? ty).map (·.size) = some cells.size) (hold : old.size = cells.size) (h1 : cells.all (·.oneCell') = true)
    (h : wpList P ops Q rest a (w.setRow g cells)) : wpList P ops Q (o :: rest) a w :=
  wpList_store_row hgd ty x y ho g cells hx hy t old hg hi hold h1 (by rw [hd]; exact h)
theorem ret_two {fn : Func} {t u : Tmp} (h : fn.results = #[.tmp t, .tmp u]) (a : Act) (x y : Value) (ht : a.eval (.tmp t) = x) (hu : a.eval (.tmp u) = y) (P : Program) (w : World) : (results fn a.tmps).run P w = .ok (.tuple #[x, y]) w := by
  have h1 : a.tmps.getD t undef = x := ht
  have h2 : a.tmps.getD u undef = y := hu
  rw [← h1, ← h2]
  simp [results, h]
end Go.Proofs.YtfmeeimhfdnjpaaDoor
namespace Go.Proofs.YtfmeeimhfdnjpaaDoor
set_option maxRecDepth 100000
open Go.RowKit
set_option maxHeartbeats 400000 in
theorem leaf_any (b o : Nat) (a : Option Addr) (n c : Nat) (bs : List (BitVec 8)) (w : World) (hs : Sl w a n c bs b o) (hT : bs.length ≤ 140737488351232) (hK : HasK w 0) (h0 : 0 < w.heap.size) :
    Calls Tryd.prog 18 #[.slice a n c] w fun e w' => e = .returned (.agg ((shaOf (kb 0 :: bs)).map V).toArray) ∧ Below w.heap.size w w' := by
  have hs' : Box (Sl w a n c bs b o) := ⟨hs⟩
  clear hs
  have hl : Box (((shaOf (kb 0 :: bs)).map V).toArray.size = 32) := ⟨by simp [shaOf_len]⟩
  obtain ⟨hh, hS⟩ : ∃ hh, Box (shaOf (kb 0 :: bs) = hh) := ⟨_, ⟨rfl⟩⟩
  rw [hS.out] at hl ⊢
  go_enter Tryd.func18, Tryd.ntmps18
  go_upto_region 1 with fail
  refine code_any (fun w1 => HasV w1 w.heap.size 33 (hsh St.first 0) ∧ Below w.heap.size w w1) ?_ ?_
  · exact ⟨heap_alloc_new _ _, (Below.refl _ _).alloc (Nat.le_refl _) _⟩
  rintro w1 ⟨hv1, hb1⟩
  go_wp2_with fail
  have hba : ∀ ob, Below w1.heap.size w1 (w1.alloc ob) := fun ob => (Below.refl _ _).alloc (Nat.le_refl _) _
  refine (tsum_any 0 _ 1 1 w1.heap.size 0 [⟨a, n, c, bs, b, o⟩] _ rfl (fun _ => rfl) (ls_new w1 22 [⟨a, n, c, bs, b, o⟩] (.cons (Pt.ok_below (p := ⟨a, n, c, bs, b, o⟩) hs'.out hb1) .nil)) (by simpa [cat] using hT) (by omega) ((hK.below hb1 h0).below (hba _) (by have := hb1.size; omega)) (by simp)).mono ?_
  rintro e w4 ⟨rfl, hb4⟩
  have hb5 := (hba _).trans (hb4.mono (by simp))
  have hv5 : w4.heap[w.heap.size]? = some (.cells ((hsh St.first 0).map V).toArray 33 (0, 0)) := hv1.below hb5 hv1.lt
  have hb6 : Below w.heap.size w w4 := hb1.trans (hb5.mono hb1.size)
  clear hv1 hb1 hb4 hb5 hs' hba
  rw [cat_one]
  rw [hS.out]
  go_wp2_with (refine wpList_store_row rfl 33 (.tmp 2) (.tmp 5) rfl w.heap.size (hh.map V).toArray rfl rfl 33 _ hv5 (by rw [hl.out]; exact Tryd.size33) (by rw [hl.out]; rfl) (V_all _) ?_)
  refine bodyPost_ret (v := .agg (hh.map V).toArray) ?_ rfl ⟨rfl, ?_⟩
  · exact results_cell_row (P := Tryd.prog) (fn := Tryd.f18) (p := 2) (ty := 33) rfl _ _ w.heap.size 33 _ (0, 0) _ rfl (setRow_heap _ _ _ _ 33 (0, 0) hv5) Tryd.under33 rfl (by rw [hl.out]; exact Tryd.size33)
  · exact hb6.trans (below_setRow _ _ _ _ (Nat.le_refl _))
end Go.Proofs.YtfmeeimhfdnjpaaDoor
namespace Go.Proofs.YtfmeeimhfdnjpaaDoor
set_option maxRecDepth 100000
open Go.RowKit
set_option maxHeartbeats 400000 in
theorem node_any (xs ys : List (BitVec 8)) (w : World) (hx : xs.length = 32) (hy : ys.length = 32) (hK : Tab w) :
    Calls Tryd.prog 30 #[.agg (xs.map V).toArray, .agg (ys.map V).toArray] w fun e w' => e = .returned (.agg ((shaOf (kb 1 :: (xs ++ ys))).map V).toArray) ∧ Below w.heap.size w w' := by
  have hl : Box (((shaOf (kb 1 :: (xs ++ ys))).map V).toArray.size = 32) := ⟨by simp [shaOf_len]⟩
  obtain ⟨hh, hS⟩ : ∃ hh, Box (shaOf (kb 1 :: (xs ++ ys)) = hh) := ⟨_, ⟨rfl⟩⟩
  rw [hS.out] at hl ⊢
  go_enter Tryd.func30, Tryd.ntmps30
  go_upto_region 1 with fail
  refine code_any (fun w1 => HasV w1 w.heap.size 33 xs ∧ HasV w1 (w.heap.size + 1) 33 ys ∧ HasV w1 (w.heap.size + 1 + 1) 33 (hsh St.first 0) ∧ Below w.heap.size w w1) ?_ ?_
  · refine ⟨?_, ?_, heap_alloc3_new _ _ _ _, (((Below.refl _ _).alloc (Nat.le_refl _) _).alloc (by simp) _).alloc (by simp; omega) _⟩
    · exact HasV.alloc (heap_alloc2_old _ _ _) _
    · exact HasV.alloc (heap_alloc2_new _ _ _) _
  rintro w1 ⟨hv1, hv2, hv3, hb1⟩
  have hT1 : Tab w1 := hK.below hb1
  refine wp_region_end [.sl xs, .sl ys, .ls 2 (xs ++ ys), .eq (.agg (hh.map V).toArray)] Tryd.mixed (by kernel_rfl) (by kernel_rfl) (by kernel_rfl) (by kernel_rfl) ⟨fun _ a w' K => ?_, fun _ a w' K => ?_, fun _ a w' K => ?_, fun _ a w' K => ?_, trivial⟩ ?_
  · exact st_slice33 (.tmp 2) rfl _ _ xs (K.old 2 rfl) hx (hv1.below K.grow hv1.lt).lt (hv1.below K.grow hv1.lt).bytes
  · exact st_slice33 (.tmp 3) rfl _ _ ys (K.old 3 rfl) hy (hv2.below K.grow hv2.lt).lt (hv2.below K.grow hv2.lt).bytes
  · exact st_build2 (.tmp 5) (.tmp 6) rfl (K.dep 0 5 rfl) (K.dep 1 6 rfl)
  · rw [← hS.out]
    exact st_call 34 (.func 34) _ _ #[.int .i64 1, a.eval (.tmp 7)] rfl rfl rfl Tryd.enter34 (fk_tsum 1 (by simp; omega) (by omega) (hT1.below K.grow) (K.dep 2 7 rfl))
  · intro af w4 fin hb4
    have e3 : af.eval (.tmp 8) = .agg (hh.map V).toArray := fin.has 3 8 rfl
    have hv5 : w4.heap[w.heap.size + 1 + 1]? = some (.cells ((hsh St.first 0).map V).toArray 33 (0, 0)) := hv3.below hb4 hv3.lt
    have hb6 : Below w.heap.size w w4 := hb1.trans (hb4.mono hb1.size)
    refine wpList_store_row rfl 33 (.tmp 4) (.tmp 8) rfl (w.heap.size + 1 + 1) (hh.map V).toArray (fin.old 4 rfl) e3 33 _ hv5 (by rw [hl.out]; exact Tryd.size33) (by rw [hl.out]; rfl) (V_all _) ?_
    go_wp2
    refine bodyPost_ret (v := .agg (hh.map V).toArray) ?_ fin.defs ⟨rfl, ?_⟩
    · exact results_cell_row (P := Tryd.prog) (fn := Tryd.f30) (p := 4) (ty := 33) rfl _ _ (w.heap.size + 1 + 1) 33 _ (0, 0) _ (fin.old 4 rfl) (setRow_heap _ _ _ _ 33 (0, 0) hv5) Tryd.under33 rfl (by rw [hl.out]; exact Tryd.size33)
    · exact hb6.trans (below_setRow _ _ _ _ (by omega))
end Go.Proofs.YtfmeeimhfdnjpaaDoor
namespace Go.Proofs.YtfmeeimhfdnjpaaDoor
set_option maxRecDepth 100000
open Go.RowKit
/-- The sum of a leaf, of a node, of a message. -/
def lf (bs : List (BitVec 8)) : List (BitVec 8) := shaOf (kb 0 :: bs)
def nd (xs ys : List (BitVec 8)) : List (BitVec 8) := shaOf (kb 1 :: (xs ++ ys))
def ms (bs : List (BitVec 8)) : List (BitVec 8) := shaOf (kb 5 :: bs)
theorem lf_len (bs : List (BitVec 8)) : (lf bs).length = 32 := shaOf_len _
theorem nd_len (xs ys : List (BitVec 8)) : (nd xs ys).length = 32 := shaOf_len _
theorem fk_leaf {bs : List (BitVec 8)} {v : Value} {w : World} (hT : bs.length ≤ 140737488351232) (hK : Tab w) (h : (Fk.sl bs).f v w) {y : List (BitVec 8)} (hy : Box (lf bs = y)) :
    Calls Tryd.prog 18 #[v] w fun e w' => ∃ u, e = .returned u ∧ (Fk.eq (.agg (y.map V).toArray)).f u w' ∧ Below w.heap.size w w' := by
  obtain ⟨sp, m, c, b, o, rfl, hs⟩ := h
  rw [← hy.out]
  exact fk_of (leaf_any b o sp m c bs w hs hT hK.K hK.pos)
theorem fk_node {xs ys : List (BitVec 8)} {w : World} (hx : xs.length = 32) (hl : ys.length = 32) (hK : Tab w) {y : List (BitVec 8)} (hy : Box (nd xs ys = y)) :
    Calls Tryd.prog 30 #[.agg (xs.map V).toArray, .agg (ys.map V).toArray] w fun e w' => ∃ u, e = .returned u ∧ (Fk.eq (.agg (y.map V).toArray)).f u w' ∧ Below w.heap.size w w' := by
  rw [← hy.out]
  exact fk_of (node_any xs ys w hx hl hK)
/-- The public key of a number, by its kind; its leaf. -/
def pk (seed : List (BitVec 8)) (kind i : Nat) : List (BitVec 8) := if kind = 1 then pub (all67 (endOf seed i)) else pub (all512 (edOf seed i))
def lv (seed : List (BitVec 8)) (kind i : Nat) : List (BitVec 8) := lf (pk seed kind i)
/-- The root over 2^h leaves from a on. -/
def rt (L : Nat → List (BitVec 8)) (a : Nat) : Nat → List (BitVec 8)
  | 0 => L a
  | h + 1 => nd (rt L a h) (rt L (a + 2 ^ h) h)
/-- Hashes in new memory. -/
def Fk.hn (g0 : Nat) (hs : List (List (BitVec 8))) : Fk := .inr (.inl ⟨fun v w => ∃ A C lb lo, v = .slice A hs.length C ∧ g0 ≤ lb ∧ Hl w A lb lo hs, by
  rintro v w w' ⟨A, C, lb, lo, e, hg, h⟩ hb
  exact ⟨A, C, lb, lo, e, hg, h.below hb⟩⟩)
/-- n hashes of noughts, in cells. -/
def mkh (n : Nat) : Array Value := madeCells ((hz.map V).toArray) (n * 32)
theorem mkh_at (n j : Nat) (h : j < n * 32) : (mkh n)[j]? = some (.int .u8 (bv (hz.getD (j % 32) 0))) := by
  have h2 : j % 32 < hz.length := by rw [hz_len]; omega
  have h3 : (mkh n).size = n * 32 := by unfold mkh; simp [size_madeCells]
  rw [Array.getElem?_eq_getElem (by rw [h3]; exact h)]
  unfold mkh
  simp only [madeCells, Array.getElem_map, Array.getElem_range, List.size_toArray, List.length_map, hz_len]
  have : (hz.map V).toArray[j % 32]? = some (V (hz.getD (j % 32) 0)) := by
    rw [List.getElem?_toArray, List.getElem?_map, List.getElem?_eq_getElem h2, Option.map_some, List.getD_eq_getElem?_getD, List.getElem?_eq_getElem h2]
    rfl
  rw [getElem!_def, this]
  rfl
theorem Tryd.makehs (n : Nat) (hn : n ≤ 1000) (w : World) : (Instr.makeSlice 35 (.int .i64 (n : Int)) (.int .i64 (n : Int))).run Tryd.prog w = .ok (.slice (some ⟨w.heap.size, 0, none⟩) n n) (w.alloc (.cells (mkh n) 33)) := by
  obtain ⟨i0, hi, hz0, hz1, hz2⟩ := info_parts Tryd.info33
  have := run_make (P := Tryd.prog) w 35 33 i0 _ Tryd.under35' hi hz0 .i64 .i64 (n : Int) (n : Int) (by omega) (by omega) (by rw [hz2]; omega) (by omega)
  rw [hz1] at this
  simp only [Int.toNat_natCast] at this
  exact this
/-- n hashes of noughts. -/
def zhs (n : Nat) : List (List (BitVec 8)) := List.replicate n hz
theorem rw_newh (n : Nat) (w : World) : Rw (w.alloc (.cells (mkh n) 33)) w.heap.size (zhs n) := by
  unfold zhs
  refine ⟨⟨fun _ => rfl, fun _ => by simp, fun i x hi => ?_⟩, by simp, fun j => ?_⟩
  · obtain ⟨h1, h2⟩ := List.getElem?_eq_some_iff.1 hi
    simp only [List.length_replicate] at h1
    obtain rfl : hz = x := by rw [← h2, List.getElem_replicate]
    refine ⟨hz_len, fun j hj => ?_⟩
    rw [hz_len] at hj
    rw [World.cell?_alloc_mark, mkh_at _ _ (by omega), show (0 + i * 32 + j) % 32 = j by omega]
  · have := heap_alloc_new w (.cells (mkh n) 33)
    exact frozen_of_row _ _ j _ 33 this
/-- The first k of n are told, the others are noughts. -/
def prt (n : Nat) (F : Nat → List (BitVec 8)) (k : Nat) : List (List (BitVec 8)) := (List.range n).map fun i => if i < k then F i else hz
theorem prt_len (n : Nat) (F : Nat → List (BitVec 8)) (k : Nat) : (prt n F k).length = n := by simp [prt]
theorem prt_zero (n : Nat) (F : Nat → List (BitVec 8)) : prt n F 0 = zhs n := by
  unfold zhs
  apply List.ext_getElem (by rw [prt_len, List.length_replicate])
  intro i h1 h2
  rw [List.getElem_replicate]
  simp [prt]
theorem prt_set (n : Nat) (F : Nat → List (BitVec 8)) (k : Nat) : (prt n F k).set k (F k) = prt n F (k + 1) := by
  apply List.ext_getElem (by simp [prt])
  intro i h1 h2
  rw [List.getElem_set]
  simp only [prt, List.getElem_map, List.getElem_range]
  by_cases e : k = i
  · subst e; simp
  · rw [if_neg e]
    by_cases h : i < k
    · rw [if_pos h, if_pos (by omega)]
    · rw [if_neg h, if_neg (by omega)]
theorem prt_all (n : Nat) (F : Nat → List (BitVec 8)) : prt n F n = firsts F n := by
  apply List.ext_getElem (by simp [prt, firsts])
  intro i h1 h2
  simp only [prt, List.length_map, List.length_range] at h1
  simp [prt, firsts, h1]
/-- A new row of n hashes of noughts. -/
def Fk.nz (g0 n : Nat) : Fk := .inr (.inl ⟨fun v w => ∃ g, g0 ≤ g ∧ v = .slice (some ⟨g, 0, none⟩) n n ∧ Rw w g (zhs n), by
  rintro v w w' ⟨g, h, e, hv⟩ hb
  exact ⟨g, h, e, hv.below hb⟩⟩)
section
variable {Q : Exit → Act → World → Prop} {o : Oper} {a : Act} {w : World} {ops : Array Oper} {rest : List Oper}
theorem st_makeh (x y : Operand) (ho : o.op = .makeSlice 35 x y) (n : Nat) (hn : n ≤ 1000) (hx : a.eval x = .int .i64 (n : Int)) (hy : a.eval y = .int .i64 (n : Int)) (g0 : Nat) (hg : g0 ≤ w.heap.size) : o.wp Tryd.prog a w (Ends a o.dst w (Fk.nz g0 n).f) Q := by
  refine st_run (v := .slice (some ⟨w.heap.size, 0, none⟩) n n) (w' := w.alloc (.cells (mkh n) 33)) ?_ ((Below.refl _ _).alloc (Nat.le_refl _) _) ⟨w.heap.size, hg, rfl, rw_newh n w⟩
  unfold execOp
  rw [ho]
  simp [hx, hy, Tryd.makehs n hn]
theorem st_idxr (x y : Operand) (ho : o.op = .indexAddr 35 x y) (g i n : Nat) (hx : a.eval x = .slice (some ⟨g, 0, none⟩) n n) (hy : a.eval y = .int .i64 (i : Int)) (hi : i < n) : o.wp Tryd.prog a w (Ends a o.dst w (Fk.eq (.pointer (some ⟨g, i * 32, none⟩))).f) Q := by
  refine st_pure (v := .pointer (some ⟨g, i * 32, none⟩)) ?_ rfl
  have h1 := run_indexAt_slice (P := Tryd.prog) (w := w) 35 ⟨g, 0, none⟩ n n .i64 (i : Int) (by rw [Tryd.elem35]; exact Tryd.under35')
  rw [if_pos (by omega), Tryd.elem35, Tryd.sizeOf33] at h1
  simp only [Result.andThen_ok, Int.toNat_natCast, Addr.add_mid, Nat.zero_add] at h1
  unfold execOp
  rw [ho]
  simp [hx, hy, h1]
theorem st_loadz (T : TypeId) (x : Operand) (ho : o.op = .load T x) (b so : Nat) (cs : List Value) (hr : (Tryd.prog.underlying T).map (·.isRow) = some true) (hi : (Tryd.prog.info? T).map (·.size) = some cs.length) (hx : a.eval x = .pointer (some ⟨b, so, none⟩)) (hc : w.rangeAt b so cs) : o.wp Tryd.prog a w (Ends a o.dst w (Fk.eq (.agg cs.toArray)).f) Q := by
  cases hu : Tryd.prog.underlying T with
  | none => rw [hu] at hr; cases hr
  | some d =>
    rw [hu] at hr
    exact st_loadm T x ho b so cs hu (by simpa using hr) hi hx hc
end
theorem ret_hash {fn : Func} {p : Tmp} (h : fn.results = #[.cell p 33]) (a : Act) (w : World) (g : Nat) (xs : List (BitVec 8)) (hl : xs.length = 32) (hp : a.eval (.tmp p) = .pointer (some ⟨g, 0, none⟩)) (m : Ob w g 33 (xs.map V)) : (results fn a.tmps).run Tryd.prog w = .ok (.agg (xs.map V).toArray) w :=
  results_cell_row (P := Tryd.prog) (fn := fn) (p := p) (ty := 33) h _ _ g 33 _ (0, 0) _ hp m Tryd.under33 rfl (by rw [List.size_toArray, List.length_map, hl]; exact Tryd.size33)
theorem ret_hash2 {fn : Func} {p u : Tmp} (h : fn.results = #[.cell p 33, .tmp u]) (a : Act) (w : World) (g : Nat) (xs : List (BitVec 8)) (v : Value) (hl : xs.length = 32) (hp : a.eval (.tmp p) = .pointer (some ⟨g, 0, none⟩)) (m : Ob w g 33 (xs.map V)) (hu : a.eval (.tmp u) = v) : (results fn a.tmps).run Tryd.prog w = .ok (.tuple #[.agg (xs.map V).toArray, v]) w :=
  results_row_tmp (P := Tryd.prog) h _ _ g 33 _ (0, 0) _ v hp m Tryd.under33 rfl (by rw [List.size_toArray, List.length_map, hl]; exact Tryd.size33) hu
end Go.Proofs.YtfmeeimhfdnjpaaDoor
