/- More that is told of slots, and steps over it: numbers and hashes in slices, comparisons, the calls of wots. Made by gen_uf.py. isKey; the digits by a pointer; what awake answers. A row of hashes that is written hash by hash. What wots.Public, Sign and Recover hand back. What wots.Sign hands back. What wots.Recover hands back. Walks over frames that are letters: the start, regions that are steps as a whole, stores and assignments behind steps. Slices of hashes of the call's own that grow by one: what is told of them, and append. Plain: a drawn region whose first operations come in any order, and whose last ones, in a chain, wait for them all. As in Pz; and variables that are made among the first operations are apart, whatever order is picked. A row of hashes that is written hash by hash. Secrets and ends; isKey. The bits of a hash: the function that is ranged over, at every body that keeps what lay below. What lamport.Bits hands back. What the reference's Bit and the law's awake hand back. Regions inside a round of a range over a function: what is shown of a region anywhere serves in a round. Steps over numbers, slice variables and rows of 512 hashes; the calls of lamport as steps meet them. Made by gen_rc.py. What lamport.Sign hands back. Made by gen_re.py. What lamport.Recover hands back. What lamport.Public hands back. What the law's ends hands back. The calls of lamport and of ends as the laws' steps meet them. The calls of Public and Sign as steps meet them; what a signature leads to. Steps over structs in memory: fields, boxes, whole structs; one step of a list by itself; numbers that are shifted and compared. More steps: heads of structs, tuples, lengths; each function is entered as itself. Plain: a drawn region whose last store may come ahead of one operation that only takes a value out: both orders come to one end. Disks, plainly; rows of texts; steps. What tag's sum, Leaf, Message, File and Record hand back: the sums of just their bytes. What Node, Chain, Secret and Record hand back: the sums of just their bytes. What mss is made of, plainly; the sums as steps meet them; rows of n hashes. How many bits a number has (math/bits.Len, Len64). The reference's command. The reference's disk. The reference's settle, Flush, Crash. Slices of hashes that are cut: what is told of them. -/
import Derived.Test.YtakdpkoigijonaaGreatM1
import Derived.Laws.ResultCell
import Derived.RangeFuncNested
import Derived.RangeFuncBound
import Derived.RangeFuncCalls
import Derived.RangeFuncLeaves
import Derived.Shelf.Abstract
import Derived.Shelf.RegionOpen
import Derived.WalkKit
import Derived.OwnWalkIn
import Derived.TacticsInMore
import Derived.LoopNIn
import Derived.LoopIn
import Derived.Test.YtakdpkoigijonaaGreatProg
import Derived.Laws.MakeOwn
import Derived.Laws.Rows
import Derived.Laws.Tables
import Derived.OrdersIn
import Derived.Deep.MidRow
import Derived.Laws.BytesArg
namespace Go.Proofs.YtakdpkoigijonaaGreat
set_option maxRecDepth 100000
open Go.RowKit
/-- A slice of numbers. -/
def Fk.ds (ds : List Nat) : Fk := .inr (.inl ⟨fun v w => ∃ sp c b o, v = .slice sp ds.length c ∧ Is w sp b o ds, by
  rintro v w w' ⟨sp, c, b, o, e, h⟩ hb
  exact ⟨sp, c, b, o, e, h.below hb⟩⟩)
/-- A slice of hashes. -/
def Fk.hs (hs : List (List (BitVec 8))) : Fk := .inr (.inl ⟨fun v w => ∃ A C lb lo, v = .slice A hs.length C ∧ Hl w A lb lo hs, by
  rintro v w w' ⟨A, C, lb, lo, e, h⟩ hb
  exact ⟨A, C, lb, lo, e, h.below hb⟩⟩)
theorem arg2 {a : Act} {x y : Operand} {u v : Value} (h : a.eval x = u) (h2 : a.eval y = v) : ((#[x, y].toList.map a.eval).toArray : Array Value) = #[u, v] := by rw [← h, ← h2]; rfl
theorem arg3 {a : Act} {x y z : Operand} {u v t : Value} (h : a.eval x = u) (h2 : a.eval y = v) (h3 : a.eval z = t) : ((#[x, y, z].toList.map a.eval).toArray : Array Value) = #[u, v, t] := by rw [← h, ← h2, ← h3]; rfl
theorem Tryz.sizeOf3 (w : World) : (sizeOf 3).run Tryz.prog w = .ok 1 w := by kernel_rfl
section
variable {Q : Exit → Act → World → Prop} {o : Oper} {a : Act} {w : World} {q : Fk}
theorem st_neqi (t : TypeId) (x y : Operand) (ho : o.op = .binOp .neq t x y t) (k : IntKind) (s u : Int) (hx : a.eval x = .int k s) (hy : a.eval y = .int k u) (b : Bool) (hb : b = decide (s ≠ u)) : o.wp Tryz.prog a w (Ends a o.dst w (Fk.eq (.bool b)).f) Q := by
  refine st_pure (v := .bool b) ?_ rfl
  subst hb
  unfold execOp
  rw [ho]
  simp [hx, hy, eqGuard, binOp, Op.intCmp]
  by_cases h : s = u
  · simp [h]
  · simp [h]
theorem st_lss (t : TypeId) (x y : Operand) (ho : o.op = .binOp .lss t x y t) (k : IntKind) (s u : Int) (hx : a.eval x = .int k s) (hy : a.eval y = .int k u) (b : Bool) (hb : b = decide (s < u)) : o.wp Tryz.prog a w (Ends a o.dst w (Fk.eq (.bool b)).f) Q := by
  refine st_pure (v := .bool b) ?_ rfl
  subst hb
  unfold execOp
  rw [ho]
  simp [hx, hy, eqGuard, binOp, Op.intCmp]
theorem st_gtr (t : TypeId) (x y : Operand) (ho : o.op = .binOp .gtr t x y t) (k : IntKind) (s u : Int) (hx : a.eval x = .int k s) (hy : a.eval y = .int k u) (b : Bool) (hb : b = decide (u < s)) : o.wp Tryz.prog a w (Ends a o.dst w (Fk.eq (.bool b)).f) Q := by
  refine st_pure (v := .bool b) ?_ rfl
  subst hb
  unfold execOp
  rw [ho]
  simp [hx, hy, eqGuard, binOp, Op.intCmp]
theorem st_not (x : Operand) (ho : o.op = .unOp .not 4 x) (s : Bool) (hx : a.eval x = .bool s) : o.wp Tryz.prog a w (Ends a o.dst w (Fk.eq (.bool !s)).f) Q := by
  refine st_pure (v := .bool !s) ?_ rfl
  unfold execOp
  rw [ho]
  simp [hx, Op.unary]
theorem st_ext0 (x : Operand) (ho : o.op = .extract x 0) {u v : Value} (hx : a.eval x = .tuple #[u, v]) (h : q.f u w) : o.wp Tryz.prog a w (Ends a o.dst w q.f) Q := by
  refine st_pure (v := u) ?_ h
  unfold execOp
  rw [ho]
  simp [hx, Instr.extract]
theorem st_ext1 (x : Operand) (ho : o.op = .extract x 1) {u v : Value} (hx : a.eval x = .tuple #[u, v]) (h : q.f v w) : o.wp Tryz.prog a w (Ends a o.dst w q.f) Q := by
  refine st_pure (v := v) ?_ h
  unfold execOp
  rw [ho]
  simp [hx, Instr.extract]
end
end Go.Proofs.YtakdpkoigijonaaGreat
namespace Go.Proofs.YtakdpkoigijonaaGreat
set_option maxRecDepth 100000
open Go.RowKit
/-- The hash of noughts. -/
def hz : List (BitVec 8) := hsh St.first 0
end Go.Proofs.YtakdpkoigijonaaGreat
namespace Go.Proofs.YtakdpkoigijonaaGreat
set_option maxRecDepth 100000
open Go.RowKit
/-- Block g is a row of hashes that may be written. -/
structure Rw (w : World) (g : Nat) (hs : List (List (BitVec 8))) : Prop where
  hl : Hl w (some ⟨g, 0, none⟩) g 0 hs
  lt : g < w.heap.size
  fz : ∀ j, w.frozen? ⟨g, j, none⟩ = false
theorem Rw.below {w w' : World} {g : Nat} {hs : List (List (BitVec 8))} (h : Rw w g hs) (hb : Below w.heap.size w w') : Rw w' g hs :=
  ⟨h.hl.below hb, Nat.lt_of_lt_of_le h.lt hb.size, fun j => by rw [World.frozen?_of_block (w := w) (hb.block g h.lt)]; exact h.fz j⟩
theorem Rw.there {w : World} {g : Nat} {hs : List (List (BitVec 8))} (h : Rw w g hs) (k : Nat) (hk : k < hs.length) : w.there g (k * 32) 32 := by
  intro j hj
  obtain ⟨h1, h2⟩ := h.hl.all k hs[k] (List.getElem?_eq_getElem hk)
  have := h2 j (by rw [h1]; exact hj)
  rw [Nat.zero_add] at this
  exact ⟨by rw [this]; rfl, h.fz _⟩
theorem size_setCells (b : Nat) : ∀ (vs : List Value) (o : Nat) (w : World), (w.setCells b o vs).heap.size = w.heap.size
  | [], _, _ => rfl
  | v :: r, o, w => by rw [World.setCells, size_setCells b r]; simp [World.setCell]
theorem Rw.store {w : World} {g : Nat} {hs : List (List (BitVec 8))} (h : Rw w g hs) (k : Nat) (x : List (BitVec 8)) (hk : k < hs.length) (hx : x.length = 32) : Rw (w.setCells g (k * 32) (x.map V)) g (hs.set k x) := by
  have ht := h.there k hk
  refine ⟨⟨fun _ => rfl, fun _ => by rw [size_setCells]; exact h.lt, fun i y hi => ?_⟩, by rw [size_setCells]; exact h.lt, fun j => by rw [World.frozen?_setCells]; exact h.fz j⟩
  by_cases e : i = k
  · subst e
    rw [List.getElem?_set_self hk] at hi
    obtain rfl := Option.some.inj hi
    refine ⟨hx, fun j hj => ?_⟩
    have := World.rangeAt_setCells_same w g (i * 32) (x.map V) (by rw [List.length_map, hx]; exact ht) j (V (x.getD j 0)) (by simp [hj])
    rw [Nat.zero_add]
    exact this
  · rw [List.getElem?_set_ne (fun h => e h.symm)] at hi
    obtain ⟨h1, h2⟩ := h.hl.all i y hi
    refine ⟨h1, fun j hj => ?_⟩
    rw [World.cell?_setCells_out _ _ _ _ _ (fun _ _ => ?_)]
    · exact h2 j hj
    · show 0 + i * 32 + j < k * 32 ∨ k * 32 + (x.map V).length ≤ 0 + i * 32 + j
      rw [List.length_map, hx]
      rw [h1] at hj
      omega
end Go.Proofs.YtakdpkoigijonaaGreat
namespace Go.Proofs.YtakdpkoigijonaaGreat
set_option maxRecDepth 100000
open Go.RowKit
end Go.Proofs.YtakdpkoigijonaaGreat
namespace Go.Proofs.YtakdpkoigijonaaGreat
set_option maxRecDepth 100000
open Go.RowKit
end Go.Proofs.YtakdpkoigijonaaGreat
namespace Go.Proofs.YtakdpkoigijonaaGreat
set_option maxRecDepth 100000
open Go.RowKit
theorem Hl.range {w : World} {A : Option Addr} {lb lo : Nat} {hs : List (List (BitVec 8))} (h : Hl w A lb lo hs) (k : Nat) (x : List (BitVec 8)) (hk : hs[k]? = some x) : w.rangeAt lb (lo + k * 32) (x.map V) := by
  intro j v hj
  obtain ⟨_, hB⟩ := h.all k x hk
  have := hB.src x.length j v
  rw [List.take_of_length_le (Nat.le_refl _)] at this
  have h2 := this hj
  rw [Addr.add_mid] at h2
  exact h2
end Go.Proofs.YtakdpkoigijonaaGreat
namespace Go.Proofs.YtakdpkoigijonaaGreat
set_option maxRecDepth 100000
open Go.RowKit
theorem then_ret {K : Act → World → Prop} {Q : Exit → Act → World → Prop} {a : Act} {w : World} (h : Q .ret a w) : Exit.then K Q .ret a w := h
theorem block_ret {id : Nat} {Q : Exit → Act → World → Prop} {a : Act} {w : World} (h : Q .ret a w) : Exit.inBlock id Q .ret a w := h
theorem code_both {P : Program} {c : Code} {Q : Exit → Act → World → Prop} {a : Act} {w : World} (F : Act → World → Prop) (h0 : F a w) (h : ∀ f w, F f w → Code.wp P c Q f w) : Code.wp P c Q a w := h a w h0
theorem f_at {q : Fk} {a b : Act} {x y : Operand} {w : World} (h : a.eval x = b.eval y) (hq : q.f (b.eval y) w) : q.f (a.eval x) w := by rw [h]; exact hq
theorem wp_all {P : Program} {Q : Exit → Act → World → Prop} {ops : Array Oper} {id : Nat} {a0 : Act} {w : World} (qs : List Fk) (hm : P.follows .mixedOrders = true) (hn : decide (qs.length = ops.size) = true) (hE : edgesOk ops.toList qs.length = true)
    (hD : dstsOk a0.tmps.size (ops.toList.take qs.length) = true) (hG : guardsOk ops.toList qs.length qs ops.toList qs = true)
    (hS : Steps P Q ops.toList qs.length qs a0 w ops.toList qs)
    (hF : ∀ af w', Final ops.toList qs a0 af w' → Below w.heap.size w w' → Q .normal af w') :
    (Code.region id ops true).wp P Q a0 w := by
  have hn' : qs.length = ops.size := of_decide_eq_true hn
  refine wp_region_end qs hm (decide_eq_true (by omega)) hE hD hG hS ?_
  intro af w' fin hb
  rw [List.drop_of_length_le (by simp; omega)]
  exact hF af w' fin hb
theorem wp_all_seq {P : Program} {Q : Exit → Act → World → Prop} {ops : Array Oper} {id : Nat} {a0 : Act} {w : World} (qs : List Fk) (hn : decide (qs.length = ops.size) = true) (hE : backOk ops.toList = true)
    (hD : dstsOk a0.tmps.size (ops.toList.take qs.length) = true) (hG : guardsOk ops.toList qs.length qs ops.toList qs = true)
    (hS : Steps P Q ops.toList qs.length qs a0 w ops.toList qs)
    (hF : ∀ af w', Final ops.toList qs a0 af w' → Below w.heap.size w w' → Q .normal af w') :
    (Code.region id ops false).wp P Q a0 w := by
  have hn' : qs.length = ops.size := of_decide_eq_true hn
  refine wp_region_seq qs (decide_eq_true (by omega)) hE hD hG hS ?_
  intro af w' fin hb
  rw [List.drop_of_length_le (by simp; omega)]
  exact hF af w' fin hb
theorem wr_s {P : Program} {Q : Exit → Act → World → Prop} {ops : Array Oper} {id : Nat} {a0 : Act} {w : World} (qs : List Fk) (hc : (decide (qs.length ≤ ops.size) && backOk ops.toList && dstsOk a0.tmps.size (ops.toList.take qs.length) && guardsOk ops.toList qs.length qs ops.toList qs) = true)
    (hS : Steps P Q ops.toList qs.length qs a0 w ops.toList qs)
    (hF : ∀ af w', Final ops.toList qs a0 af w' → Below w.heap.size w w' → wpList P ops Q (ops.toList.drop qs.length) af w') :
    (Code.region id ops false).wp P Q a0 w := by
  simp only [Bool.and_eq_true] at hc
  exact wp_region_seq qs hc.1.1.1 hc.1.1.2 hc.1.2 hc.2 hS hF
theorem wr_a {P : Program} {Q : Exit → Act → World → Prop} {ops : Array Oper} {id : Nat} {a0 : Act} {w : World} (qs : List Fk) (hc : (decide (qs.length = ops.size) && backOk ops.toList && dstsOk a0.tmps.size (ops.toList.take qs.length) && guardsOk ops.toList qs.length qs ops.toList qs) = true)
    (hS : Steps P Q ops.toList qs.length qs a0 w ops.toList qs)
    (hF : ∀ af w', Final ops.toList qs a0 af w' → Below w.heap.size w w' → Q .normal af w') :
    (Code.region id ops false).wp P Q a0 w := by
  simp only [Bool.and_eq_true] at hc
  exact wp_all_seq qs hc.1.1.1 hc.1.1.2 hc.1.2 hc.2 hS hF
theorem wr_d {P : Program} {Q : Exit → Act → World → Prop} {ops : Array Oper} {id : Nat} {a0 : Act} {w : World} (qs : List Fk) (hm : P.follows .mixedOrders = true) (hc : (decide (qs.length = ops.size) && edgesOk ops.toList qs.length && dstsOk a0.tmps.size (ops.toList.take qs.length) && guardsOk ops.toList qs.length qs ops.toList qs) = true)
    (hS : Steps P Q ops.toList qs.length qs a0 w ops.toList qs)
    (hF : ∀ af w', Final ops.toList qs a0 af w' → Below w.heap.size w w' → Q .normal af w') :
    (Code.region id ops true).wp P Q a0 w := by
  simp only [Bool.and_eq_true] at hc
  exact wp_all qs hm hc.1.1.1 hc.1.1.2 hc.1.2 hc.2 hS hF
section
variable {Q : Exit → Act → World → Prop} {o : Oper} {a : Act} {w : World} {q : Fk} {ops : Array Oper} {rest : List Oper}
end
end Go.Proofs.YtakdpkoigijonaaGreat
namespace Go.Proofs.YtakdpkoigijonaaGreat
set_option maxRecDepth 100000
open Go.RowKit
section
variable {Q : Exit → Act → World → Prop} {o : Oper} {a : Act} {w : World} {q : Fk} {ops : Array Oper} {rest : List Oper}
end
section
variable {Q : Exit → Act → World → Prop} {o : Oper} {a : Act} {w : World} {ops : Array Oper} {rest : List Oper}
end
end Go.Proofs.YtakdpkoigijonaaGreat
namespace Go.Proofs.YtakdpkoigijonaaGreat
set_option maxRecDepth 100000
open Go.RowKit
section
variable {P : Program} {ops : Array Oper} {Q : Exit → Act → World → Prop}
/-- From here on just these come up, one behind the other. -/
def chainOk (ops : Array Oper) : Array Bool → List Nat → Bool
  | listed, [] => (Region.ready .any ops listed).isEmpty
  | listed, j :: r => (Region.ready .any ops listed == [j]) && chainOk ops (listed.setIfInBounds j true) r
theorem any_list : ∀ (js : List Nat) (fuel : Nat) (listed : Array Bool) (a : Act) (w : World), chainOk ops listed js = true → js.length ≤ fuel → wpList P ops Q (js.filterMap (ops[·]?)) a w → wpAny P .any ops Q fuel listed a w
  | [], fuel, listed, a, w, hc, _, h => by
    have hr : Region.ready .any ops listed = [] := by simpa [chainOk] using hc
    exact wpAny_nil hr h
  | j :: r, 0, _, _, _, _, hl, _ => by simp at hl
  | j :: r, fuel + 1, listed, a, w, hc, hl, h => by
    simp only [chainOk, Bool.and_eq_true, beq_iff_eq] at hc
    obtain ⟨hr, hc⟩ := hc
    have ih := any_list r fuel (listed.setIfInBounds j true)
    refine ⟨fun h0 => (by rw [hr] at h0; cases h0), fun i hi => ?_⟩
    rw [hr] at hi
    obtain rfl : i = j := by simpa using hi
    have hm : i ∈ Region.ready .any ops listed := by rw [hr]; exact List.mem_cons_self
    obtain ⟨_, o, ho, _⟩ := mem_ready.1 hm
    rw [List.filterMap_cons, ho] at h
    unfold wpOp
    rw [ho]
    show if Region.wanted o (yielded ops a.tmps) = true then _ else _
    simp only [wpList] at h
    by_cases hw : Region.wanted o (yielded ops a.tmps) = true
    · rw [if_pos hw] at h ⊢
      rcases h with h | h
      · exact .inl (Oper.wp_mono (fun a' w' h' => ih a' w' hc (by simpa using hl) h') h)
      · exact .inr h
    · rw [if_neg hw] at h ⊢
      exact ih _ _ hc (by simpa using hl) h
/-- What an operation waits for. -/
def tgt (o : Oper) : List Nat := (o.after.toList.filter fun e => Region.binds .any e).map (·.on)
def tgts (ops : List Oper) (i : Nat) : List Nat := ((ops[i]?).map tgt).getD []
/-- And what these wait for, n times over. -/
def clo (ops : List Oper) : Nat → List Nat → List Nat
  | 0, L => L
  | n + 1, L => clo ops n (L ++ L.flatMap (tgts ops)).eraseDups
/-- Each from number k on waits, in the end, for all ahead of number k. -/
def coverOk (ops : List Oper) (k : Nat) : Bool := (List.range ops.length).all fun j => decide (j < k) || (List.range k).all fun i => (clo ops 8 (tgts ops j)).contains i
theorem mem_tgt {o : Oper} {i : Nat} : i ∈ tgt o ↔ ∃ e ∈ o.after, Region.binds .any e = true ∧ e.on = i := by
  unfold tgt
  simp only [List.mem_map, List.mem_filter, Array.mem_toList_iff]
  constructor
  · rintro ⟨e, ⟨h1, h2⟩, h3⟩; exact ⟨e, h1, h2, h3⟩
  · rintro ⟨e, h1, h2, h3⟩; exact ⟨e, ⟨h1, h2⟩, h3⟩
/-- What is listed is closed. -/
def Closed (ops : Array Oper) (listed : Array Bool) : Prop := ∀ (i : Nat) (o : Oper), ops[i]? = some o → listed.getD i false = true → ∀ j ∈ tgt o, listed.getD j false = true
theorem clo_listed {listed : Array Bool} (hc : Closed ops listed) : ∀ (n : Nat) (L : List Nat), (∀ i ∈ L, listed.getD i false = true) → ∀ i ∈ clo ops.toList n L, listed.getD i false = true
  | 0, L, h, i, hi => h i hi
  | n + 1, L, h, i, hi => by
    refine clo_listed hc n _ (fun j hj => ?_) i hi
    rw [List.mem_eraseDups] at hj
    rcases List.mem_append.1 hj with hj | hj
    · exact h j hj
    · obtain ⟨m, hm, hj⟩ := List.mem_flatMap.1 hj
      unfold tgts at hj
      rw [Array.getElem?_toList] at hj
      cases ho : ops[m]? with
      | none => rw [ho] at hj; simp at hj
      | some o =>
        rw [ho] at hj
        exact hc m o ho (h m hm) j (by simpa using hj)
theorem ready_back (hE : backOk ops.toList = true) {listed : Array Bool} (hs : listed.size = ops.size) (h : Region.ready .any ops listed = []) : unl listed = 0 := by
  unfold backOk at hE
  have hback := List.all_eq_true.1 hE
  have key : ∀ n i, i < n → i < listed.size → listed.getD i true = true := by
    intro n
    induction n with
    | zero => intro i h; omega
    | succ n ih =>
      intro i hi hl
      cases hc : listed.getD i true with
      | true => rfl
      | false =>
        exfalso
        have hio : i < ops.size := by omega
        have hm : i ∈ Region.ready .any ops listed := by
          refine mem_ready.2 ⟨hc, ops[i], Array.getElem?_eq_getElem hio, fun e he hbd => ?_⟩
          have hb := hback i (by simp; exact hio)
          simp only [Array.getElem?_toList, Array.getElem?_eq_getElem hio, Option.map_some, Option.getD_some] at hb
          have hb2 : e.on < i := by
            have := List.all_eq_true.1 hb e (by simpa using he)
            simpa [hbd] using this
          have := ih e.on (by omega) (by omega)
          rw [← getD_tf (by omega)]; exact this
        rw [h] at hm
        cases hm
  unfold unl
  rw [Array.countP_eq_zero]
  intro b hb
  obtain ⟨i, hi, rfl⟩ := Array.mem_iff_getElem.1 hb
  have := key (i + 1) i (by omega) hi
  simpa [hi] using this
theorem chain_len : ∀ (js : List Nat) (listed : Array Bool), chainOk ops listed js = true → js.length ≤ unl listed
  | [], _, _ => Nat.zero_le _
  | j :: r, listed, hc => by
    simp only [chainOk, Bool.and_eq_true, beq_iff_eq] at hc
    obtain ⟨hr, hc⟩ := hc
    have hm : j ∈ Region.ready .any ops listed := by rw [hr]; exact List.mem_cons_self
    obtain ⟨hun, _, _, _⟩ := mem_ready.1 hm
    have h1 := chain_len r _ hc
    have h2 := unl_set hun
    rw [List.length_cons]
    omega
/-- The first k are listed. -/
def firstK (k n : Nat) : Array Bool := Array.ofFn (n := n) fun i => decide (i.val < k)
theorem wp_mids_tail {qs : List Fk} {a0 : Act} {w0 : World} (js : List Nat) (hk : qs.length ≤ ops.size) (hE : backOk ops.toList = true) (hC : coverOk ops.toList qs.length = true) (hJ : chainOk ops (firstK qs.length ops.size) js = true)
    (hD : dstsOk a0.tmps.size (ops.toList.take qs.length) = true) (hG : guardsOk ops.toList qs.length qs ops.toList qs = true)
    (hS : Steps P Q ops.toList qs.length qs a0 w0 ops.toList qs)
    (hF : ∀ af w', Final ops.toList qs a0 af w' → Below w0.heap.size w0 w' → wpList P ops Q (js.filterMap (ops[·]?)) af w') :
    ∀ (fuel : Nat) (listed : Array Bool) (a : Act) (w : World), unl listed ≤ fuel → Closed ops listed → Mids ops qs.length (fkAt qs) a0 w0 listed a w → wpAny P .any ops Q fuel listed a w := by
  have hend : ∀ (fuel : Nat) (listed : Array Bool) (a : Act) (w : World), unl listed ≤ fuel → Mids ops qs.length (fkAt qs) a0 w0 listed a w → (∀ i, i < qs.length → listed.getD i false = true) → wpAny P .any ops Q fuel listed a w := by
    intro fuel listed a w hu hm hall
    have he : listed = firstK qs.length ops.size := by
      apply Array.ext (by simp [firstK, hm.lsize])
      intro i h1 h2
      simp only [firstK, Array.getElem_ofFn]
      by_cases hi : i < qs.length
      · have := hall i hi
        simp [h1] at this
        simp [this, hi]
      · have h3 : i < ops.size := by rw [hm.lsize] at h1; exact h1
        have := hm.last i (by omega) h3
        simp [h1] at this
        simp [this, hi]
    have hJ' : chainOk ops listed js = true := by rw [he]; exact hJ
    have hlen := chain_len js listed hJ'
    refine any_list js fuel listed a w hJ' (by omega) ?_
    refine hF a w ⟨hm.defs, hm.size, fun t ht => eval_of_get (hm.old t ht), fun i d h => ?_⟩ hm.grow
    simp only [Bool.and_eq_true, decide_eq_true_eq, beq_iff_eq] at h
    obtain ⟨hi, hd⟩ := h
    cases ho : ops.toList[i]? with
    | none => rw [ho] at hd; simp at hd
    | some o =>
      rw [ho] at hd
      exact hm.has i o d hi (by rw [← Array.getElem?_toList]; exact ho) (by simpa using hd) (hall i hi)
  intro fuel
  induction fuel with
  | zero =>
    intro listed a w hu hcl hm
    have hall := unl_zero (listed := listed) (by omega)
    refine hend 0 listed a w hu hm (fun i hi => ?_)
    have hil : i < listed.size := by rw [hm.lsize]; omega
    rw [← getD_tf hil]; exact hall i hil
  | succ fuel ih =>
    intro listed a w hu hcl hm
    by_cases hall : ∀ i, i < qs.length → listed.getD i false = true
    · exact hend (fuel + 1) listed a w hu hm hall
    · have hex : ∃ i0, i0 < qs.length ∧ listed.getD i0 false = false := by
        apply Classical.byContradiction
        intro hno
        apply hall
        intro i hi
        cases hq : listed.getD i false with
        | true => rfl
        | false => exact absurd ⟨i, hi, hq⟩ hno
      obtain ⟨i0, hi0, hi0u⟩ := hex
      refine ⟨fun hr => ?_, fun i hi => ?_⟩
      · exfalso
        have hu0 := ready_back hE hm.lsize hr
        have hil : i0 < listed.size := by rw [hm.lsize]; omega
        have := unl_zero hu0 i0 hil
        rw [getD_tf hil, hi0u] at this
        cases this
      · obtain ⟨hun, o, ho, hdep⟩ := mem_ready.1 hi
        have hio : i < ops.size := (Array.getElem?_eq_some_iff.1 ho).1
        have hu' := unl_set hun
        have hil : i < listed.size := by rw [hm.lsize]; exact hio
        have htg : ∀ j ∈ tgt o, listed.getD j false = true := fun j hj => by
          obtain ⟨e, he, hb, rfl⟩ := mem_tgt.1 hj
          exact hdep e he hb
        have hik : i < qs.length := by
          rcases Nat.lt_or_ge i qs.length with h | h
          · exact h
          · exfalso
            unfold coverOk at hC
            have h1 := List.all_eq_true.1 hC i (by simpa using hio)
            simp only [Bool.or_eq_true, decide_eq_true_eq] at h1
            rcases h1 with h1 | h1
            · omega
            · have h2 := List.all_eq_true.1 h1 i0 (by simpa using hi0)
              have h3 : i0 ∈ clo ops.toList 8 (tgts ops.toList i) := by simpa using h2
              have h4 := clo_listed hcl 8 (tgts ops.toList i) (fun j hj => by
                unfold tgts at hj
                rw [Array.getElem?_toList, ho] at hj
                exact htg j (by simpa using hj)) i0 h3
              rw [hi0u] at h4
              cases h4
        have hK : Known ops.toList qs.length (fkAt qs) a0 w0 o a w := by
          refine ⟨fun t ht => eval_of_get (hm.old t ht), fun j d hj => ?_, hm.grow⟩
          unfold depOk at hj
          simp only [Bool.and_eq_true, decide_eq_true_eq, beq_iff_eq, Array.getElem?_toList] at hj
          obtain ⟨⟨hjk, hany⟩, hd⟩ := hj
          obtain ⟨e, he, hb⟩ := List.any_eq_true.1 hany
          simp only [Bool.and_eq_true, beq_iff_eq] at hb
          have hl := hdep e (by simpa using he) hb.2
          rw [hb.1] at hl
          cases hoj : ops[j]? with
          | none => rw [hoj] at hd; simp at hd
          | some oj =>
            rw [hoj] at hd
            exact hm.has j oj d hjk hoj (by simpa using hd) hl
        have hto : (ops.toList.take qs.length)[i]? = some o := by rw [List.getElem?_take, if_pos hik, Array.getElem?_toList]; exact ho
        obtain ⟨d, hd, hlt, hallD⟩ := dstsOk_spec hD i o hto
        have hcl' : Closed ops (listed.setIfInBounds i true) := by
          intro m om hom hml j hj
          by_cases e : m = i
          · subst e
            obtain rfl : om = o := Option.some.inj (hom.symm.trans ho)
            have h1 := htg j hj
            by_cases e2 : j = m
            · subst e2; exact getD_set_same hil
            · have hne : m ≠ j := fun h => e2 h.symm
              simpa [Array.getElem?_setIfInBounds, hne] using h1
          · have hne : i ≠ m := fun h => e h.symm
            have hml' : listed.getD m false = true := by simpa [Array.getElem?_setIfInBounds, hne] using hml
            have h1 := hcl m om hom hml' j hj
            by_cases e2 : j = i
            · subst e2; exact getD_set_same hil
            · have hne2 : i ≠ j := fun h => e2 h.symm
              simpa [Array.getElem?_setIfInBounds, hne2] using h1
        have hnext : ∀ v w', Below w.heap.size w w' → fkAt qs i v w' → wpAny P .any ops Q fuel (listed.setIfInBounds i true) (a.put o.dst v) w' := by
          intro v w' hb hf
          refine ih _ _ _ (by omega) hcl' ⟨by rw [put_size]; exact hm.size, by rw [put_def]; exact hm.defs, by simp; exact hm.lsize, fun t ht => ?_, fun j oj dj hj hoj hdj hlj => ?_, fun j hj1 hj2 => ?_, hm.grow.trans (hb.mono hm.grow.size)⟩
          · rw [put_other _ _ _ _ (freeOf_spec ht hto)]; exact hm.old t ht
          · by_cases e : j = i
            · subst e
              obtain rfl : oj = o := Option.some.inj (hoj.symm.trans ho)
              obtain rfl : dj = d := Option.some.inj (hdj.symm.trans hd)
              have hev : (a.put oj.dst v).eval (.tmp dj) = v := by
                have := put_same a dj v (by rw [hm.size]; exact hlt)
                rw [← hd] at this
                simp [Act.eval, this]
              rw [hev]; exact hf
            · have htj : (ops.toList.take qs.length)[j]? = some oj := by rw [List.getElem?_take, if_pos hj, Array.getElem?_toList]; exact hoj
              have hne : o.dst ≠ some dj := fun h => by
                have : d = dj := Option.some.inj (hd.symm.trans h)
                exact hallD j oj htj e (by rw [this]; exact hdj)
              rw [eval_of_get (put_other a o.dst v dj hne)]
              refine Fk.mono _ _ w w' (hm.has j oj dj hj hoj hdj ?_) hb
              have hne2 : i ≠ j := fun h => e h.symm
              simpa [Array.getElem?_setIfInBounds, hne2] using hlj
          · have hne : i ≠ j := by omega
            have := hm.last j hj1 hj2
            simpa [Array.getElem?_setIfInBounds, hne] using this
        have hyield : ∀ (j : Nat) (b c : Bool), o.guard = some (j, b) → (∃ d, depOk ops.toList qs.length o j d = true) → (∀ v w, fkAt qs j v w → v = .bool c) → yielded ops a.tmps j = some c := by
          rintro j b c hg ⟨d, hd⟩ hbool
          have hv := hbool _ _ (hK.dep j d hd)
          have hd2 : (ops[j]?).bind (·.dst) = some d := by
            unfold depOk at hd
            simp only [Bool.and_eq_true, decide_eq_true_eq, beq_iff_eq, Array.getElem?_toList] at hd
            exact hd.2
          have hget : a.tmps[d]? = some (.bool c) := by
            simp only [Act.eval, Array.getD_eq_getD_getElem?] at hv
            cases hq : a.tmps[d]? with
            | none => rw [hq] at hv; simp [undef] at hv
            | some u => rw [hq] at hv; simp at hv; rw [hv]
          unfold yielded
          rw [hd2]
          simp only [Option.bind_some, hget]
        unfold wpOp
        rw [ho]
        show if Region.wanted o (yielded ops a.tmps) = true then _ else _
        have hyes : Region.wanted o (yielded ops a.tmps) = true → wantedBy qs o = true → (if Region.wanted o (yielded ops a.tmps) = true then o.wp P a w (wpAny P .any ops Q fuel (listed.setIfInBounds i true)) Q ∨ (o.asks P a w ∧ LetsOut Q) else wpAny P .any ops Q fuel (listed.setIfInBounds i true) (a.put o.dst undef) w) := by
          intro hwant hwb
          rw [if_pos hwant]
          refine .inl (Oper.wp_mono ?_ (hS.get i o hik (by rw [Array.getElem?_toList]; exact ho) hwb a w hK))
          rintro a' w' ⟨v, rfl, hb, hf⟩
          exact hnext v w' hb hf
        cases hg : o.guard with
        | none => exact hyes (by unfold Region.wanted; rw [hg]) (by unfold wantedBy; rw [hg])
        | some jb =>
          obtain ⟨j, b⟩ := jb
          obtain ⟨hdp, h2⟩ := guardsOk_spec hG i o j b hik (by rw [Array.getElem?_toList]; exact ho) hg
          rcases h2 with h2 | h2
          · refine hyes ?_ (by unfold wantedBy; rw [hg]; exact h2)
            unfold Region.wanted
            rw [hg]
            show (yielded ops a.tmps j == some b) = true
            rw [hyield j b b hg hdp (Fk.isBool_spec h2)]; simp
          · have hno : Region.wanted o (yielded ops a.tmps) = false := by
              unfold Region.wanted
              rw [hg]
              show (yielded ops a.tmps j == some b) = false
              rw [hyield j b (!b) hg hdp (Fk.isBool_spec h2.1)]; cases b <;> rfl
            rw [if_neg (by rw [hno]; simp)]
            exact hnext undef w (Below.refl _ _) (Fk.isAny_spec h2.2 _ _)
/-- A drawn region: its first operations by steps, whatever order is picked; the others, in the order js, behind them. -/
theorem wp_region_tail {id : Nat} {a0 : Act} {w : World} (qs : List Fk) (js : List Nat) (hm : P.follows .mixedOrders = true) (hk : decide (qs.length ≤ ops.size) = true) (hE : backOk ops.toList = true) (hC : coverOk ops.toList qs.length = true) (hJ : chainOk ops (firstK qs.length ops.size) js = true)
    (hD : dstsOk a0.tmps.size (ops.toList.take qs.length) = true) (hG : guardsOk ops.toList qs.length qs ops.toList qs = true)
    (hS : Steps P Q ops.toList qs.length qs a0 w ops.toList qs)
    (hF : ∀ af w', Final ops.toList qs a0 af w' → Below w.heap.size w w' → wpList P ops Q (js.filterMap (ops[·]?)) af w') :
    (Code.region id ops true).wp P Q a0 w := by
  refine wp_region_any hm ?_
  refine wp_mids_tail js (of_decide_eq_true hk) hE hC hJ hD hG hS hF ops.size _ a0 _ ?_ ?_ ?_
  · unfold unl
    exact Nat.le_trans (Array.countP_le_size) (by simp)
  · intro i o ho hl
    have : i < ops.size := (Array.getElem?_eq_some_iff.1 ho).1
    simp [this] at hl
  · refine ⟨rfl, rfl, by simp, fun _ _ => rfl, fun i o d _ ho _ hl => ?_, fun i _ hi => ?_, (Below.refl _ _).drew⟩
    · have : i < ops.size := (Array.getElem?_eq_some_iff.1 ho).1
      simp [this] at hl
    · simp [hi]
theorem wr_t {id : Nat} {a0 : Act} {w : World} (qs : List Fk) (js : List Nat) (hm : P.follows .mixedOrders = true) (hc : (decide (qs.length ≤ ops.size) && backOk ops.toList && coverOk ops.toList qs.length && chainOk ops (firstK qs.length ops.size) js && dstsOk a0.tmps.size (ops.toList.take qs.length) && guardsOk ops.toList qs.length qs ops.toList qs) = true)
    (hS : Steps P Q ops.toList qs.length qs a0 w ops.toList qs)
    (hF : ∀ af w', Final ops.toList qs a0 af w' → Below w.heap.size w w' → wpList P ops Q (js.filterMap (ops[·]?)) af w') :
    (Code.region id ops true).wp P Q a0 w := by
  simp only [Bool.and_eq_true] at hc
  exact wp_region_tail qs js hm hc.1.1.1.1.1 hc.1.1.1.1.2 hc.1.1.1.2 hc.1.1.2 hc.1.2 hc.2 hS hF
end
end Go.Proofs.YtakdpkoigijonaaGreat
namespace Go.Proofs.YtakdpkoigijonaaGreat
set_option maxRecDepth 100000
open Go.RowKit
section
variable {ops : Array Oper} {Q : Exit → Act → World → Prop}
end
end Go.Proofs.YtakdpkoigijonaaGreat
namespace Go.Proofs.YtakdpkoigijonaaGreat
set_option maxRecDepth 100000
open Go.RowKit
end Go.Proofs.YtakdpkoigijonaaGreat
namespace Go.Proofs.YtakdpkoigijonaaGreat
set_option maxRecDepth 100000
open Go.RowKit
end Go.Proofs.YtakdpkoigijonaaGreat
namespace Go.Proofs.YtakdpkoigijonaaGreat
set_option maxRecDepth 100000
open Go.RowKit Go.Shelf
attribute [local go_sem] Oper.semAt_some
/-- Bit k of a hash. -/
def bt (h : List (BitVec 8)) (k : Nat) : Nat := (h.getD (k / 8) 0).toNat / 2 ^ (7 - k % 8) % 2
/-- What a round is handed. -/
def enc (h : List (BitVec 8)) (p : Fin 256) : Array Value := #[.int .i64 (p.val : Int), .int .i64 (bt h p.val : Int)]
end Go.Proofs.YtakdpkoigijonaaGreat
namespace Go.Proofs.YtakdpkoigijonaaGreat
set_option maxRecDepth 100000
open Go.RowKit Go.Shelf
attribute [local go_sem] Oper.semAt_some
/-- A number in a cell. -/
def NV (n : Nat) : Value := .int .i64 (n : Int)
/-- Block b of the world is a row of numbers. -/
def HasN (w : World) (b : Nat) (ds : List Nat) : Prop := w.heap[b]? = some (.cells (ds.map NV).toArray 3 (0, 0))
theorem HasN.cell {w : World} {b : Nat} {ds : List Nat} (h : HasN w b ds) (i d : Nat) (hi : ds[i]? = some d) : w.cell? ⟨b, i, none⟩ = some (.int .i64 (d : Int)) := by
  unfold HasN at h
  simp [World.cell?, h, hi, NV]
theorem HasN.frozen {w : World} {b : Nat} {ds : List Nat} (h : HasN w b ds) (i : Nat) : w.frozen? ⟨b, i, none⟩ = false := by
  unfold HasN at h
  simp [World.frozen?, h]
theorem HasN.set {w : World} {b : Nat} {ds : List Nat} (h : HasN w b ds) (i x : Nat) : HasN (w.setCell ⟨b, i, none⟩ (.int .i64 (x : Int))) b (ds.set i x) := by
  unfold HasN at *
  simp [World.setCell, Array.getElem?_modify, h, NV, List.map_set]
theorem HasN.lt {w : World} {b : Nat} {ds : List Nat} (h : HasN w b ds) : b < w.heap.size := (Array.getElem?_eq_some_iff.1 h).1
theorem Tryz.info3n : (Tryz.prog.info? 3).map (fun i => (i.zero, i.size, i.bytes)) = some (some (.int .i64 0), 1, 8) := by kernel_rfl
theorem Tryz.underI : Tryz.prog.underlying 31 = some (.slice 3) := by kernel_rfl
/-- A variable that holds a slice. -/
def HasS (w : World) (b : Nat) (T : TypeId) (v : Value) : Prop := w.heap[b]? = some (.cells #[v] T (0, 0))
theorem HasS.cell {w : World} {b : Nat} {T : TypeId} {v : Value} (h : HasS w b T v) : w.cell? ⟨b, 0, none⟩ = some v := by
  unfold HasS at h
  simp [World.cell?, h]
end Go.Proofs.YtakdpkoigijonaaGreat
namespace Go.Proofs.YtakdpkoigijonaaGreat
set_option maxRecDepth 100000
open Go.RowKit
end Go.Proofs.YtakdpkoigijonaaGreat
namespace Go.Proofs.YtakdpkoigijonaaGreat
set_option maxRecDepth 100000
open Go.RowKit
section
variable {P : Program} {Q : Exit → Act → World → Prop} {l n : Nat}
variable {ops : Array Oper}
end
end Go.Proofs.YtakdpkoigijonaaGreat
namespace Go.Proofs.YtakdpkoigijonaaGreat
set_option maxRecDepth 100000
open Go.RowKit
/-- A pointer to a variable that holds v. -/
def Fk.pv (u : Value) : Fk := .inr (.inl ⟨fun v w => ∃ b o, v = .pointer (some ⟨b, o, none⟩) ∧ w.cell? ⟨b, o, none⟩ = some u, by
  rintro v w w' ⟨b, o, e, h⟩ hb
  exact ⟨b, o, e, by rw [hb.cell (block_lt_of_cell h)]; exact h⟩⟩)
/-- A pointer to a variable that holds a slice of hashes. -/
def Fk.pw (hs : List (List (BitVec 8))) : Fk := .inr (.inl ⟨fun v w => ∃ b o u, v = .pointer (some ⟨b, o, none⟩) ∧ w.cell? ⟨b, o, none⟩ = some u ∧ (Fk.hs hs).f u w, by
  rintro v w w' ⟨b, o, u, e, h, h2⟩ hb
  exact ⟨b, o, u, e, by rw [hb.cell (block_lt_of_cell h)]; exact h, Fk.mono _ _ _ _ h2 hb⟩⟩)
section
variable {Q : Exit → Act → World → Prop} {o : Oper} {a : Act} {w : World} {q : Fk} {ops : Array Oper} {rest : List Oper}
theorem st_add (x y : Operand) (ho : o.op = .binOp .add 3 x y 3) (m n e : Nat) (hx : a.eval x = .int .i64 (m : Int)) (hy : a.eval y = .int .i64 (n : Int)) (he : e = m + n) (hk : e ≤ 1000000) : o.wp Tryz.prog a w (Ends a o.dst w (Fk.eq (.int .i64 (e : Int))).f) Q := by
  refine st_pure (v := .int .i64 (e : Int)) ?_ rfl
  unfold execOp
  rw [ho]
  have hw : IntKind.i64.wrap ((m : Int) + (n : Int)) = (e : Int) := by rw [IntKind.wrap_i64]; omega
  simp [hx, hy, eqGuard, binOp, Op.intArith, hw]
theorem st_sub (x y : Operand) (ho : o.op = .binOp .sub 3 x y 3) (m n e : Nat) (hx : a.eval x = .int .i64 (m : Int)) (hy : a.eval y = .int .i64 (n : Int)) (he : e + n = m) (hk : m ≤ 1000000) : o.wp Tryz.prog a w (Ends a o.dst w (Fk.eq (.int .i64 (e : Int))).f) Q := by
  refine st_pure (v := .int .i64 (e : Int)) ?_ rfl
  unfold execOp
  rw [ho]
  have hw : IntKind.i64.wrap ((m : Int) - (n : Int)) = (e : Int) := by rw [IntKind.wrap_i64]; omega
  simp [hx, hy, eqGuard, binOp, Op.intArith, hw]
theorem st_mul (x y : Operand) (ho : o.op = .binOp .mul 3 x y 3) (m n e : Nat) (hx : a.eval x = .int .i64 (m : Int)) (hy : a.eval y = .int .i64 (n : Int)) (he : e = m * n) (hk : e ≤ 1000000) : o.wp Tryz.prog a w (Ends a o.dst w (Fk.eq (.int .i64 (e : Int))).f) Q := by
  refine st_pure (v := .int .i64 (e : Int)) ?_ rfl
  unfold execOp
  rw [ho]
  have hw : IntKind.i64.wrap ((m : Int) * (n : Int)) = (e : Int) := by rw [show (m : Int) * (n : Int) = (e : Int) by rw [he]; simp, IntKind.wrap_i64]; omega
  simp [hx, hy, eqGuard, binOp, Op.intArith, hw]
end
/-- The row G alone was turned since W0. -/
theorem only_below {g : Nat} {A B C : World} (h : Only g A B) (hb : Below A.heap.size B C) : Only g A C :=
  ⟨hb.os.trans h.os, hb.tape.trans h.tape, hb.output.trans h.output, Nat.le_trans h.size hb.size, fun k hk hg => (hb.block k hk).trans (h.block k hk hg)⟩
end Go.Proofs.YtakdpkoigijonaaGreat
namespace Go.Proofs.YtakdpkoigijonaaGreat
set_option maxRecDepth 100000
open Go.RowKit Go.Shelf
attribute [local go_sem] Oper.semAt_some
end Go.Proofs.YtakdpkoigijonaaGreat
namespace Go.Proofs.YtakdpkoigijonaaGreat
set_option maxRecDepth 100000
open Go.RowKit Go.Shelf
attribute [local go_sem] Oper.semAt_some
end Go.Proofs.YtakdpkoigijonaaGreat
namespace Go.Proofs.YtakdpkoigijonaaGreat
set_option maxRecDepth 100000
open Go.RowKit
end Go.Proofs.YtakdpkoigijonaaGreat
namespace Go.Proofs.YtakdpkoigijonaaGreat
set_option maxRecDepth 100000
open Go.RowKit
section
variable {Q : Exit → Act → World → Prop} {o : Oper} {a : Act} {w : World} {ops : Array Oper} {rest : List Oper}
end
end Go.Proofs.YtakdpkoigijonaaGreat
namespace Go.Proofs.YtakdpkoigijonaaGreat
set_option maxRecDepth 100000
open Go.RowKit
end Go.Proofs.YtakdpkoigijonaaGreat
namespace Go.Proofs.YtakdpkoigijonaaGreat
set_option maxRecDepth 100000
open Go.RowKit
section
variable {Q : Exit → Act → World → Prop} {o : Oper} {a : Act} {w : World}
end
end Go.Proofs.YtakdpkoigijonaaGreat
namespace Go.Proofs.YtakdpkoigijonaaGreat
set_option maxRecDepth 100000
open Go.RowKit
/-- Block b holds just these cells. -/
def Ob (w : World) (b : Nat) (T : TypeId) (cs : List Value) : Prop := w.heap[b]? = some (.cells cs.toArray T (0, 0))
theorem Ob.lt {w : World} {b : Nat} {T : TypeId} {cs : List Value} (h : Ob w b T cs) : b < w.heap.size := (Array.getElem?_eq_some_iff.1 h).1
theorem Ob.below {w w' : World} {b : Nat} {T : TypeId} {cs : List Value} (h : Ob w b T cs) (hb : Below w.heap.size w w') : Ob w' b T cs := by
  have := hb.block b h.lt
  unfold Ob at *
  rw [this]; exact h
theorem Ob.only {w w' : World} {b g : Nat} {T : TypeId} {cs : List Value} (h : Ob w b T cs) (hb : Only g w w') (hg : b ≠ g) : Ob w' b T cs := by
  have := hb.block b h.lt hg
  unfold Ob at *
  rw [this]; exact h
theorem Ob.cell {w : World} {b : Nat} {T : TypeId} {cs : List Value} (h : Ob w b T cs) (i : Nat) {v : Value} (hi : cs[i]? = some v) : w.cell? ⟨b, i, none⟩ = some v := by
  unfold Ob at h
  simp [World.cell?, h, hi]
theorem Ob.set {w : World} {b : Nat} {T : TypeId} {cs : List Value} (h : Ob w b T cs) (i : Nat) (v : Value) : Ob (w.setCell ⟨b, i, none⟩ v) b T (cs.set i v) := by
  unfold Ob at *
  simp [World.setCell, Array.getElem?_modify, h]
theorem Ob.alloc (w : World) (T : TypeId) (cs : List Value) : Ob (w.alloc (.cells cs.toArray T)) w.heap.size T cs := heap_alloc_new _ _
theorem Ob.range {w : World} {b : Nat} {T : TypeId} {cs : List Value} (h : Ob w b T cs) (o : Nat) (l : List Value) (hl : ∀ (j : Nat) (v : Value), l[j]? = some v → cs[o + j]? = some v) : w.rangeAt b o l := fun j v hj => h.cell (o + j) (hl j v hj)
theorem Ob.setRow {w : World} {b : Nat} {T : TypeId} {cs : List Value} (h : Ob w b T cs) (ds : List Value) : Ob (w.setRow b ds.toArray) b T ds := setRow_heap _ _ _ _ T (0, 0) h
theorem Ob.setRow_other {w : World} {b g : Nat} {T : TypeId} {cs : List Value} (h : Ob w b T cs) (ds : Array Value) (hne : b ≠ g) : Ob (w.setRow g ds) b T cs := by
  have := (Only.refl g w).setRow ds
  exact h.only this hne
/-- A pointer to a new block with these cells. -/
def Fk.nw (g0 : Nat) (T : TypeId) (cs : List Value) : Fk := .inr (.inl ⟨fun v w => ∃ g, g0 ≤ g ∧ v = .pointer (some ⟨g, 0, none⟩) ∧ Ob w g T cs, by
  rintro v w w' ⟨g, h, e, hv⟩ hb
  exact ⟨g, h, e, hv.below hb⟩⟩)
theorem fk_val {q : Fk} {a : Act} {x : Operand} {u : Value} {w : World} (h : a.eval x = u) (hq : q.f u w) : q.f (a.eval x) w := by rw [h]; exact hq
section
variable {P : Program} {Q : Exit → Act → World → Prop} {o : Oper} {a : Act} {w : World} {q : Fk} {ops : Array Oper} {rest : List Oper}
theorem st_pick_f' (c x y : Operand) (ho : o.op = .pick c x y) (hc : a.eval c = .bool false) (h : q.f (a.eval y) w) : o.wp P a w (Ends a o.dst w q.f) Q :=
  st_pure (v := a.eval y) (by unfold execOp; rw [ho]; simp [hc, asBool]) h
theorem st_field (T f : Nat) (x : Operand) (ho : o.op = .fieldAddr T x f) {p r : Addr} (hx : a.eval x = .pointer (some p)) (hr : (Instr.fieldAt T (.pointer (some p)) f).run P w = .ok (.pointer (some r)) w) : o.wp P a w (Ends a o.dst w (Fk.eq (.pointer (some r))).f) Q := by
  refine st_pure (v := .pointer (some r)) ?_ rfl
  unfold execOp
  rw [ho]
  simp [hx, hr]
theorem st_nil (x : Operand) (ho : o.op = .nilCheck x) {p : Addr} (hx : a.eval x = .pointer (some p)) : o.wp P a w (Ends a o.dst w (Fk.eq (.pointer (some p))).f) Q := by
  refine st_pure (v := .pointer (some p)) ?_ rfl
  unfold execOp
  rw [ho]
  simp [hx]
theorem st_loadc (T : TypeId) (x : Operand) (ho : o.op = .load T x) (h1 : (isAgg T).run P w = .ok false w) {p : Addr} {u : Value} (hx : a.eval x = .pointer (some p)) (hc : w.cell? p = some u) : o.wp P a w (Ends a o.dst w (Fk.eq u).f) Q := by
  refine st_pure (v := u) ?_ rfl
  unfold execOp
  rw [ho]
  simp [hx, Instr.loadAt, Instr.sureAddr, loadVar, h1, run_load, hc]
theorem st_loadm (T : TypeId) (x : Operand) (ho : o.op = .load T x) (b so : Nat) (cs : List Value) {d : TypeDesc} (hu : P.underlying T = some d) (hd : d.isRow = true) (hi : (P.info? T).map (·.size) = some cs.length) (hx : a.eval x = .pointer (some ⟨b, so, none⟩)) (hc : w.rangeAt b so cs) : o.wp P a w (Ends a o.dst w (Fk.eq (.agg cs.toArray)).f) Q :=
  wp_load_mid T x ho b so hx cs _ hc hu hd hi ⟨_, rfl, Below.refl _ _, rfl⟩
theorem st_build (T : TypeId) (ps : Array (Nat × Operand)) (ho : o.op = .build T ps) {u : Value} (hr : (Instr.build T (ps.map fun (i, x) => (i, a.eval x))).run P w = .ok u w) : o.wp P a w (Ends a o.dst w (Fk.eq u).f) Q := by
  refine st_pure (v := u) ?_ rfl
  unfold execOp
  rw [ho]
  simp only [hr, Sem.run_bind, Result.andThen_ok, Sem.run_pure]
theorem st_box (T : TypeId) (x : Operand) (ho : o.op = .box T x) (g0 : Nat) (cs : List Value) (hr : (Instr.box T (a.eval x)).run P w = .ok (.pointer (some ⟨w.heap.size, 0, none⟩)) (w.alloc (.cells cs.toArray T))) (hg : g0 ≤ w.heap.size) : o.wp P a w (Ends a o.dst w (Fk.nw g0 T cs).f) Q := by
  refine st_run (v := .pointer (some ⟨w.heap.size, 0, none⟩)) (w' := w.alloc (.cells cs.toArray T)) ?_ ((Below.refl _ _).alloc (Nat.le_refl _) _) ⟨_, hg, rfl, Ob.alloc _ _ _⟩
  unfold execOp
  rw [ho]
  simp [hr]
theorem st_alloc (T : TypeId) (ho : o.op = .alloc T) (g0 : Nat) (cs : List Value) (hr : (Instr.alloc T true (.tuple #[])).run P w = .ok (.pointer (some ⟨w.heap.size, 0, none⟩)) (w.alloc (.cells cs.toArray T))) (hg : g0 ≤ w.heap.size) : o.wp P a w (Ends a o.dst w (Fk.nw g0 T cs).f) Q := by
  refine st_run (v := .pointer (some ⟨w.heap.size, 0, none⟩)) (w' := w.alloc (.cells cs.toArray T)) ?_ ((Below.refl _ _).alloc (Nat.le_refl _) _) ⟨_, hg, rfl, Ob.alloc _ _ _⟩
  unfold execOp
  rw [ho]
  simp [hr]
theorem st_bin (op : BinOp) (t t2 : TypeId) (x y : Operand) (ho : o.op = .binOp op t x y t2) {u v r : Value} (hx : a.eval x = u) (hy : a.eval y = v) (hr : (do eqGuard op t x y u v; binOp op t u v : Sem Value).run P w = .ok r w) : o.wp P a w (Ends a o.dst w (Fk.eq r).f) Q := by
  refine st_pure (v := r) ?_ rfl
  subst hx hy
  unfold execOp
  rw [ho]
  simp only [Sem.run_bind, hr, Result.andThen_ok, Sem.run_pure]
theorem st_geq (t : TypeId) (x y : Operand) (ho : o.op = .binOp .geq t x y t) (k : IntKind) (s u : Int) (hx : a.eval x = .int k s) (hy : a.eval y = .int k u) (b : Bool) (hb : b = decide (u ≤ s)) : o.wp P a w (Ends a o.dst w (Fk.eq (.bool b)).f) Q := by
  subst hb
  exact st_bin .geq t t x y ho hx hy (by simp [eqGuard, binOp, Op.intCmp])
theorem st_leq (t : TypeId) (x y : Operand) (ho : o.op = .binOp .leq t x y t) (k : IntKind) (s u : Int) (hx : a.eval x = .int k s) (hy : a.eval y = .int k u) (b : Bool) (hb : b = decide (s ≤ u)) : o.wp P a w (Ends a o.dst w (Fk.eq (.bool b)).f) Q := by
  subst hb
  exact st_bin .leq t t x y ho hx hy (by simp [eqGuard, binOp, Op.intCmp])
/-- One step by itself. -/
theorem wl_one (q : Fk) (hgd : o.guard = none) (d : Nat) (hd : o.dst = some d) (hsz : d < a.tmps.size) (hs : o.wp P a w (Ends a o.dst w q.f) Q)
    (h : ∀ a2 w2, a2.defers = a.defers → a2.tmps.size = a.tmps.size → (∀ t, (t == d) = false → a2.eval (.tmp t) = a.eval (.tmp t)) → q.f (a2.eval (.tmp d)) w2 → Below w.heap.size w w2 → wpList P ops Q rest a2 w2) : wpList P ops Q (o :: rest) a w := by
  unfold wpList
  rw [if_pos (by unfold Region.wanted; rw [hgd])]
  refine .inl (Oper.wp_mono ?_ hs)
  rintro a' w' ⟨v, rfl, hb, hf⟩
  rw [hd]
  refine h _ _ (put_def _ _ _) (put_size _ _ _) (fun t ht => put_eval_other _ _ _ _ (fun e => by subst e; simp at ht)) ?_ hb
  rw [put_eval_same _ _ _ hsz]
  exact hf
/-- A call by itself, whatever it does. -/
theorem wl_call (f : FuncId) (x : Operand) (xs : Array Operand) (ts : Array TypeId) (vs : Array Value) (hgd : o.guard = none) (d : Nat) (hd : o.dst = some d) (hsz : d < a.tmps.size) (ho : o.op = .call { callee := .value x, args := xs, argTypes := ts }) (hx : a.eval x = .func (.func f) #[] #[]) (hv : (xs.toList.map a.eval).toArray = vs)
    (hf : ∀ args w, (callFunc f args).run P w = .ok (.enter f args) w) (R : Value → World → Prop) (hc : Calls P f vs w fun e w' => ∃ v, e = .returned v ∧ R v w')
    (h : ∀ a2 w2, a2.defers = a.defers → a2.tmps.size = a.tmps.size → (∀ t, (t == d) = false → a2.eval (.tmp t) = a.eval (.tmp t)) → R (a2.eval (.tmp d)) w2 → wpList P ops Q rest a2 w2) : wpList P ops Q (o :: rest) a w := by
  have hr : (execOp a.eval o).run P w = .ok (.enter f vs) w := by
    have hv' : xs.map a.eval = vs := by rw [← hv]; apply Array.toList_inj.1; simp
    unfold execOp; rw [ho]
    simp [resolve, hx, Deferred.ofValue, invoke, hv', hf]
  unfold wpList
  rw [if_pos (by unfold Region.wanted; rw [hgd])]
  refine .inl ?_
  unfold Oper.wp; rw [hr]
  refine Calls.mono hc ?_
  rintro e w' ⟨v, rfl, h1⟩
  rw [hd]
  refine h _ _ (put_def _ _ _) (put_size _ _ _) (fun t ht => put_eval_other _ _ _ _ (fun e => by subst e; simp at ht)) ?_
  rw [put_eval_same _ _ _ hsz]
  exact h1
/-- A store of one cell. -/
theorem wl_stc (T : TypeId) (hgd : o.guard = none) (x y : Operand) (ho : o.op = .store T x y) (hd : o.dst = none) (h1 : (sizeOf T).run P w = .ok 1 w) (b i : Nat) (v : Value) (hx : a.eval x = .pointer (some ⟨b, i, none⟩)) (hy : a.eval y = v) (hv : v.oneCell' = true) (hv2 : v.cells = #[v]) (ht : w.there b i 1)
    (h : wpList P ops Q rest a (w.setCell ⟨b, i, none⟩ v)) : wpList P ops Q (o :: rest) a w := by
  unfold wpList
  rw [if_pos (by unfold Region.wanted; rw [hgd])]
  refine .inl ?_
  have hs := run_storeCells_cells (P := P) b i [v] 0 w (fun j hj => by simpa using (ht j (by simpa using hj)).1) (fun j hj => by simpa using (ht j (by simpa using hj)).2) (fun u hu => by rw [List.mem_singleton.1 hu]; exact hv)
  have hr : (execOp a.eval o).run P w = .ok .skip (w.setCell ⟨b, i, none⟩ v) := by
    unfold execOp
    rw [ho]
    simp [hx, hy, Instr.storeAt, Instr.sureAddr, storeVar, h1, hv2]
    rw [hs]
    rfl
  unfold Oper.wp
  rw [hr]
  unfold Oper.upon
  rw [hd]
  exact h
end
end Go.Proofs.YtakdpkoigijonaaGreat
namespace Go.Proofs.YtakdpkoigijonaaGreat
set_option maxRecDepth 100000
open Go.RowKit
theorem Tryz.enter4 (args : Array Value) (w : World) : (callFunc 4 args).run Tryz.prog w = .ok (.enter 4 args) w := by kernel_rfl
theorem Tryz.enter5 (args : Array Value) (w : World) : (callFunc 5 args).run Tryz.prog w = .ok (.enter 5 args) w := by kernel_rfl
theorem Tryz.enter6 (args : Array Value) (w : World) : (callFunc 6 args).run Tryz.prog w = .ok (.enter 6 args) w := by kernel_rfl
theorem Tryz.enter7 (args : Array Value) (w : World) : (callFunc 7 args).run Tryz.prog w = .ok (.enter 7 args) w := by kernel_rfl
theorem Tryz.enter8 (args : Array Value) (w : World) : (callFunc 8 args).run Tryz.prog w = .ok (.enter 8 args) w := by kernel_rfl
theorem Tryz.enter9 (args : Array Value) (w : World) : (callFunc 9 args).run Tryz.prog w = .ok (.enter 9 args) w := by kernel_rfl
theorem Tryz.enter10 (args : Array Value) (w : World) : (callFunc 10 args).run Tryz.prog w = .ok (.enter 10 args) w := by kernel_rfl
theorem Tryz.enter11 (args : Array Value) (w : World) : (callFunc 11 args).run Tryz.prog w = .ok (.enter 11 args) w := by kernel_rfl
theorem Tryz.enter12 (args : Array Value) (w : World) : (callFunc 12 args).run Tryz.prog w = .ok (.enter 12 args) w := by kernel_rfl
theorem Tryz.enter13 (args : Array Value) (w : World) : (callFunc 13 args).run Tryz.prog w = .ok (.enter 13 args) w := by kernel_rfl
theorem Tryz.enter14 (args : Array Value) (w : World) : (callFunc 14 args).run Tryz.prog w = .ok (.enter 14 args) w := by kernel_rfl
theorem Tryz.enter15 (args : Array Value) (w : World) : (callFunc 15 args).run Tryz.prog w = .ok (.enter 15 args) w := by kernel_rfl
theorem Tryz.enter16 (args : Array Value) (w : World) : (callFunc 16 args).run Tryz.prog w = .ok (.enter 16 args) w := by kernel_rfl
theorem Tryz.enter17 (args : Array Value) (w : World) : (callFunc 17 args).run Tryz.prog w = .ok (.enter 17 args) w := by kernel_rfl
theorem Tryz.enter18 (args : Array Value) (w : World) : (callFunc 18 args).run Tryz.prog w = .ok (.enter 18 args) w := by kernel_rfl
theorem Tryz.enter19 (args : Array Value) (w : World) : (callFunc 19 args).run Tryz.prog w = .ok (.enter 19 args) w := by kernel_rfl
theorem Tryz.enter20 (args : Array Value) (w : World) : (callFunc 20 args).run Tryz.prog w = .ok (.enter 20 args) w := by kernel_rfl
theorem Tryz.enter21 (args : Array Value) (w : World) : (callFunc 21 args).run Tryz.prog w = .ok (.enter 21 args) w := by kernel_rfl
theorem Tryz.enter22 (args : Array Value) (w : World) : (callFunc 22 args).run Tryz.prog w = .ok (.enter 22 args) w := by kernel_rfl
theorem Tryz.enter23 (args : Array Value) (w : World) : (callFunc 23 args).run Tryz.prog w = .ok (.enter 23 args) w := by kernel_rfl
theorem Tryz.enter24 (args : Array Value) (w : World) : (callFunc 24 args).run Tryz.prog w = .ok (.enter 24 args) w := by kernel_rfl
theorem Tryz.enter25 (args : Array Value) (w : World) : (callFunc 25 args).run Tryz.prog w = .ok (.enter 25 args) w := by kernel_rfl
theorem Tryz.enter26 (args : Array Value) (w : World) : (callFunc 26 args).run Tryz.prog w = .ok (.enter 26 args) w := by kernel_rfl
theorem Tryz.enter27 (args : Array Value) (w : World) : (callFunc 27 args).run Tryz.prog w = .ok (.enter 27 args) w := by kernel_rfl
theorem Tryz.enter28 (args : Array Value) (w : World) : (callFunc 28 args).run Tryz.prog w = .ok (.enter 28 args) w := by kernel_rfl
theorem Tryz.enter29 (args : Array Value) (w : World) : (callFunc 29 args).run Tryz.prog w = .ok (.enter 29 args) w := by kernel_rfl
theorem Tryz.enter30 (args : Array Value) (w : World) : (callFunc 30 args).run Tryz.prog w = .ok (.enter 30 args) w := by kernel_rfl
theorem Tryz.enter31 (args : Array Value) (w : World) : (callFunc 31 args).run Tryz.prog w = .ok (.enter 31 args) w := by kernel_rfl
theorem Tryz.enter32 (args : Array Value) (w : World) : (callFunc 32 args).run Tryz.prog w = .ok (.enter 32 args) w := by kernel_rfl
theorem Tryz.enter33 (args : Array Value) (w : World) : (callFunc 33 args).run Tryz.prog w = .ok (.enter 33 args) w := by kernel_rfl
theorem Tryz.enter34 (args : Array Value) (w : World) : (callFunc 34 args).run Tryz.prog w = .ok (.enter 34 args) w := by kernel_rfl
theorem Tryz.enter35 (args : Array Value) (w : World) : (callFunc 35 args).run Tryz.prog w = .ok (.enter 35 args) w := by kernel_rfl
theorem Tryz.enter36 (args : Array Value) (w : World) : (callFunc 36 args).run Tryz.prog w = .ok (.enter 36 args) w := by kernel_rfl
theorem Tryz.enter37 (args : Array Value) (w : World) : (callFunc 37 args).run Tryz.prog w = .ok (.enter 37 args) w := by kernel_rfl
theorem Tryz.enter38 (args : Array Value) (w : World) : (callFunc 38 args).run Tryz.prog w = .ok (.enter 38 args) w := by kernel_rfl
theorem Tryz.enter39 (args : Array Value) (w : World) : (callFunc 39 args).run Tryz.prog w = .ok (.enter 39 args) w := by kernel_rfl
theorem Tryz.enter40 (args : Array Value) (w : World) : (callFunc 40 args).run Tryz.prog w = .ok (.enter 40 args) w := by kernel_rfl
theorem Tryz.enter41 (args : Array Value) (w : World) : (callFunc 41 args).run Tryz.prog w = .ok (.enter 41 args) w := by kernel_rfl
theorem Tryz.enter42 (args : Array Value) (w : World) : (callFunc 42 args).run Tryz.prog w = .ok (.enter 42 args) w := by kernel_rfl
theorem Tryz.enter43 (args : Array Value) (w : World) : (callFunc 43 args).run Tryz.prog w = .ok (.enter 43 args) w := by kernel_rfl
theorem Tryz.enter44 (args : Array Value) (w : World) : (callFunc 44 args).run Tryz.prog w = .ok (.enter 44 args) w := by kernel_rfl
theorem Tryz.enter45 (args : Array Value) (w : World) : (callFunc 45 args).run Tryz.prog w = .ok (.enter 45 args) w := by kernel_rfl
theorem Tryz.enter46 (args : Array Value) (w : World) : (callFunc 46 args).run Tryz.prog w = .ok (.enter 46 args) w := by kernel_rfl
theorem Tryz.enter47 (args : Array Value) (w : World) : (callFunc 47 args).run Tryz.prog w = .ok (.enter 47 args) w := by kernel_rfl
theorem Tryz.enter50 (args : Array Value) (w : World) : (callFunc 50 args).run Tryz.prog w = .ok (.enter 50 args) w := by kernel_rfl
theorem Tryz.enter54 (args : Array Value) (w : World) : (callFunc 54 args).run Tryz.prog w = .ok (.enter 54 args) w := by kernel_rfl
theorem Tryz.enter55 (args : Array Value) (w : World) : (callFunc 55 args).run Tryz.prog w = .ok (.enter 55 args) w := by kernel_rfl
theorem Tryz.enter56 (args : Array Value) (w : World) : (callFunc 56 args).run Tryz.prog w = .ok (.enter 56 args) w := by kernel_rfl
theorem Tryz.enter57 (args : Array Value) (w : World) : (callFunc 57 args).run Tryz.prog w = .ok (.enter 57 args) w := by kernel_rfl
theorem Tryz.enter58 (args : Array Value) (w : World) : (callFunc 58 args).run Tryz.prog w = .ok (.enter 58 args) w := by kernel_rfl
theorem Tryz.enter59 (args : Array Value) (w : World) : (callFunc 59 args).run Tryz.prog w = .ok (.enter 59 args) w := by kernel_rfl
theorem Tryz.enter60 (args : Array Value) (w : World) : (callFunc 60 args).run Tryz.prog w = .ok (.enter 60 args) w := by kernel_rfl
theorem Tryz.enter61 (args : Array Value) (w : World) : (callFunc 61 args).run Tryz.prog w = .ok (.enter 61 args) w := by kernel_rfl
theorem Tryz.enter62 (args : Array Value) (w : World) : (callFunc 62 args).run Tryz.prog w = .ok (.enter 62 args) w := by kernel_rfl
theorem Tryz.enter63 (args : Array Value) (w : World) : (callFunc 63 args).run Tryz.prog w = .ok (.enter 63 args) w := by kernel_rfl
theorem Tryz.enter67 (args : Array Value) (w : World) : (callFunc 67 args).run Tryz.prog w = .ok (.enter 67 args) w := by kernel_rfl
theorem Tryz.enter68 (args : Array Value) (w : World) : (callFunc 68 args).run Tryz.prog w = .ok (.enter 68 args) w := by kernel_rfl
theorem Tryz.enter69 (args : Array Value) (w : World) : (callFunc 69 args).run Tryz.prog w = .ok (.enter 69 args) w := by kernel_rfl
theorem Tryz.enter70 (args : Array Value) (w : World) : (callFunc 70 args).run Tryz.prog w = .ok (.enter 70 args) w := by kernel_rfl
theorem Tryz.enter71 (args : Array Value) (w : World) : (callFunc 71 args).run Tryz.prog w = .ok (.enter 71 args) w := by kernel_rfl
theorem Tryz.enter72 (args : Array Value) (w : World) : (callFunc 72 args).run Tryz.prog w = .ok (.enter 72 args) w := by kernel_rfl
theorem Tryz.enter73 (args : Array Value) (w : World) : (callFunc 73 args).run Tryz.prog w = .ok (.enter 73 args) w := by kernel_rfl
theorem Tryz.enter74 (args : Array Value) (w : World) : (callFunc 74 args).run Tryz.prog w = .ok (.enter 74 args) w := by kernel_rfl
theorem Tryz.enter75 (args : Array Value) (w : World) : (callFunc 75 args).run Tryz.prog w = .ok (.enter 75 args) w := by kernel_rfl
theorem Tryz.enter76 (args : Array Value) (w : World) : (callFunc 76 args).run Tryz.prog w = .ok (.enter 76 args) w := by kernel_rfl
theorem Tryz.enter77 (args : Array Value) (w : World) : (callFunc 77 args).run Tryz.prog w = .ok (.enter 77 args) w := by kernel_rfl
theorem Tryz.enter78 (args : Array Value) (w : World) : (callFunc 78 args).run Tryz.prog w = .ok (.enter 78 args) w := by kernel_rfl
theorem Tryz.enter79 (args : Array Value) (w : World) : (callFunc 79 args).run Tryz.prog w = .ok (.enter 79 args) w := by kernel_rfl
theorem Tryz.enter91 (args : Array Value) (w : World) : (callFunc 91 args).run Tryz.prog w = .ok (.enter 91 args) w := by kernel_rfl
theorem Tryz.enter92 (args : Array Value) (w : World) : (callFunc 92 args).run Tryz.prog w = .ok (.enter 92 args) w := by kernel_rfl
theorem Tryz.enter93 (args : Array Value) (w : World) : (callFunc 93 args).run Tryz.prog w = .ok (.enter 93 args) w := by kernel_rfl
theorem Ob.there {w : World} {b : Nat} {T : TypeId} {cs : List Value} (h : Ob w b T cs) (i : Nat) (hi : i < cs.length) : w.there b i 1 := by
  intro j hj
  obtain rfl : j = 0 := by omega
  refine ⟨?_, frozen_of_row w b (i + 0) _ T h⟩
  rw [h.cell (i + 0) (List.getElem?_eq_getElem (by simpa using hi))]
  rfl
theorem Ob.setCell_other {w : World} {b g : Nat} {T : TypeId} {cs : List Value} (h : Ob w b T cs) (i : Nat) (v : Value) (hne : b ≠ g) : Ob (w.setCell ⟨g, i, none⟩ v) b T cs := h.only ((Only.refl g w).setCell i v) hne
theorem below_setCell (B g i : Nat) (w : World) (v : Value) (hB : B ≤ g) : Below B w (w.setCell ⟨g, i, none⟩ v) := (Below.refl _ _).setCell (by exact hB) v
theorem Ob.bytes {w : World} {b : Nat} {T : TypeId} {xs : List (BitVec 8)} {cs : List Value} (h : Ob w b T (xs.map V ++ cs)) : HasB w b 0 xs := fun i hi => by
  rw [h.cell (0 + i) (v := V (xs.getD i 0)) ?_]
  · rfl
  · rw [Nat.zero_add, List.getElem?_append_left (by simpa using hi), List.getElem?_map, List.getElem?_eq_getElem hi]
    simp [List.getD_eq_getElem?_getD, hi]
/-- A tuple of something and a value. -/
def Fk.t2 (q : Fk) (n : Value) : Fk := .inr (.inl ⟨fun v w => ∃ u, v = .tuple #[u, n] ∧ q.f u w, by
  rintro v w w' ⟨u, e, h⟩ hb
  exact ⟨u, e, Fk.mono _ _ _ _ h hb⟩⟩)
section
variable {Q : Exit → Act → World → Prop} {o : Oper} {a : Act} {w : World} {q : Fk}
theorem st_t2a (x : Operand) (ho : o.op = .extract x 0) {n : Value} (h : (Fk.t2 q n).f (a.eval x) w) : o.wp Tryz.prog a w (Ends a o.dst w q.f) Q := by
  obtain ⟨u, e, hu⟩ := h
  exact st_ext0 x ho e hu
theorem st_t2b (x : Operand) (ho : o.op = .extract x 1) {n : Value} (h : (Fk.t2 q n).f (a.eval x) w) : o.wp Tryz.prog a w (Ends a o.dst w (Fk.eq n).f) Q := by
  obtain ⟨u, e, hu⟩ := h
  exact st_ext1 x ho e rfl
theorem Tryz.elem22b : Tryz.prog.elem 22 = 5 := by kernel_rfl
theorem st_lenb (x : Operand) (ho : o.op = .call { callee := .builtin .len, args := #[x], argTypes := #[22] }) {bs : List (BitVec 8)} (h : (Fk.sl bs).f (a.eval x) w) : o.wp Tryz.prog a w (Ends a o.dst w (Fk.eq (.int .i64 (bs.length : Int))).f) Q := by
  obtain ⟨sp, m, c, b, so, e, hs⟩ := h
  refine st_pure (v := .int .i64 (bs.length : Int)) ?_ rfl
  have h1 := run_len_slice (P := Tryz.prog) (w := w) 22 o.type sp m c (by rw [Tryz.elem22b]; exact Tryz.under22)
  rw [hs.len] at h1 e
  unfold execOp
  simp [ho, resolve, invoke, builtin, e, h1, goInt]
end
theorem wl_str {P : Program} {ops : Array Oper} {rest : List Oper} {o : Oper} {a : Act} {w : World} {Q : Exit → Act → World → Prop} (hgd : o.guard = none) (ty : TypeId) (x y : Operand) (ho : o.op = .store ty x y) (hd : o.dst = none) (g : Nat) (cells : Array Value) (hx : a.eval x = .pointer (some ⟨g, 0, none⟩)) (hy : a.eval y = .agg cells)
    (t : TypeId) (old : Array Value) (hg : w.heap[g]? = some (.cells old t (0, 0))) (hi : (P.info? ty).map (·.size) = some cells.size) (hold : old.size = cells.size) (h1 : cells.all (·.oneCell') = true)
    (h : wpList P ops Q rest a (w.setRow g cells)) : wpList P ops Q (o :: rest) a w :=
  wpList_store_row hgd ty x y ho g cells hx hy t old hg hi hold h1 (by rw [hd]; exact h)
theorem ret_two {fn : Func} {t u : Tmp} (h : fn.results = #[.tmp t, .tmp u]) (a : Act) (x y : Value) (ht : a.eval (.tmp t) = x) (hu : a.eval (.tmp u) = y) (P : Program) (w : World) : (results fn a.tmps).run P w = .ok (.tuple #[x, y]) w := by
  have h1 : a.tmps.getD t undef = x := ht
  have h2 : a.tmps.getD u undef = y := hu
  rw [← h1, ← h2]
  simp [results, h]
end Go.Proofs.YtakdpkoigijonaaGreat
namespace Go.Proofs.YtakdpkoigijonaaGreat
set_option maxRecDepth 100000
open Go.RowKit
section
variable {P : Program} {ops : Array Oper} {Q : Exit → Act → World → Prop}
end
end Go.Proofs.YtakdpkoigijonaaGreat
namespace Go.Proofs.YtakdpkoigijonaaGreat
set_option maxRecDepth 100000
open Go.RowKit
/-- A disk, as the document has it: what stands, and what is cached (no bytes: nothing is). -/
structure Dst where
  has : List (List (BitVec 8))
  cch : List (List (BitVec 8))
  size : Nat
  left : Int
  done : Nat
  armed : Bool
  down : Bool
/-- A command is done, or met the end of the power. -/
def cmd (s : Dst) : Int × Dst := if s.armed = true ∧ s.left = 0 then (30, { s with down := true }) else (0, { s with left := if s.armed = true then s.left - 1 else s.left, done := s.done + 1 })
def wrt (s : Dst) (i : Int) (b : List (BitVec 8)) : Int × Dst := if s.down = true then (30, s) else if i < 0 ∨ (s.has.length : Int) ≤ i then (11, s) else if b.length ≠ s.size then (10, s) else cmd { s with cch := s.cch.set i.toNat b }
def pickc (h c : List (BitVec 8)) : List (BitVec 8) := if c = [] then h else c
/-- What is cached stands. -/
def stl (s : Dst) : Dst := { s with has := List.zipWith pickc s.has s.cch, cch := s.cch.map fun _ => [] }
def flu (s : Dst) : Int × Dst := if s.down = true then (30, s) else if (cmd s).1 = 0 then ((cmd s).1, stl (cmd s).2) else cmd s
def lose (c : List (List (BitVec 8))) (lost : List Int) : List (List (BitVec 8)) := lost.foldl (fun c k => if 0 ≤ k ∧ k < (c.length : Int) then c.set k.toNat [] else c) c
def crs (s : Dst) (lost : List Int) : Dst := { stl { s with cch := lose s.cch lost } with armed := false, down := false }
def tmr (s : Dst) (i : Int) (b : List (BitVec 8)) : Int × Dst := if i < 0 ∨ (s.has.length : Int) ≤ i then (11, s) else if b.length ≠ s.size then (10, s) else (0, { s with has := s.has.set i.toNat b, cch := s.cch.set i.toNat [] })
def nowd (s : Dst) (i : Nat) : List (BitVec 8) := if s.cch.getD i [] = [] then s.has.getD i [] else s.cch.getD i []
/-- All blocks but those of S are as they were. -/
structure Fr (S : Nat → Prop) (w w' : World) : Prop where
  os : w'.os = w.os
  tape : w'.tape = w.tape
  output : w'.output = w.output
  size : w.heap.size ≤ w'.heap.size
  block : ∀ j, j < w.heap.size → ¬ S j → w'.heap[j]? = w.heap[j]?
theorem Fr.refl (S : Nat → Prop) (w : World) : Fr S w w := ⟨rfl, rfl, rfl, Nat.le_refl _, fun _ _ _ => rfl⟩
theorem Fr.grow {S : Nat → Prop} {w w1 w2 : World} (h : Fr S w w1) (hb : Below w1.heap.size w1 w2) : Fr S w w2 := ⟨hb.os.trans h.os, hb.tape.trans h.tape, hb.output.trans h.output, Nat.le_trans h.size hb.size, fun j hj h1 => (hb.block j (Nat.lt_of_lt_of_le hj h.size)).trans (h.block j hj h1)⟩
theorem Fr.setCell {S : Nat → Prop} {w w1 : World} (h : Fr S w w1) {b i : Nat} (hb : S b ∨ w.heap.size ≤ b) (v : Value) : Fr S w (w1.setCell ⟨b, i, none⟩ v) := by
  have h2 := (Only.refl b w1).setCell i v
  refine ⟨h2.os.trans h.os, h2.tape.trans h.tape, h2.output.trans h.output, Nat.le_trans h.size h2.size, fun j hj h1 => ?_⟩
  have hne : j ≠ b := by
    rintro rfl
    rcases hb with hb | hb
    · exact h1 hb
    · omega
  exact (h2.block j (Nat.lt_of_lt_of_le hj h.size) hne).trans (h.block j hj h1)
theorem Fr.of_only {S : Nat → Prop} {b : Nat} {w w1 : World} (h : Only b w w1) (hb : S b) : Fr S w w1 := ⟨h.os, h.tape, h.output, h.size, fun j hj h1 => h.block j hj (fun e => h1 (by rw [e]; exact hb))⟩
theorem Fr.trans {S : Nat → Prop} {w w1 w2 : World} (h : Fr S w w1) (h2 : Fr S w1 w2) : Fr S w w2 := ⟨h2.os.trans h.os, h2.tape.trans h.tape, h2.output.trans h.output, Nat.le_trans h.size h2.size, fun j hj h1 => (h2.block j (Nat.lt_of_lt_of_le hj h.size) h1).trans (h.block j hj h1)⟩
theorem Fr.below {S : Nat → Prop} {B : Nat} {w w1 : World} (h : Fr S w w1) (hB : B ≤ w.heap.size) (hS : ∀ j, S j → B ≤ j) : Below B w w1 := ⟨h.os, h.tape, h.output, h.size, fun j hj => h.block j (by omega) (fun h1 => by have := hS j h1; omega)⟩
/-- A row that begins with these texts. -/
def Rs (w : World) (h : Nat) (l : List (List (BitVec 8))) : Prop := ∃ cs, w.heap[h]? = some (.cells cs 9 (0, 0)) ∧ ∀ (i : Nat) (x : List (BitVec 8)), l[i]? = some x → cs[i]? = some (.string (str x))
theorem Rs.lt {w : World} {h : Nat} {l : List (List (BitVec 8))} (r : Rs w h l) : h < w.heap.size := by
  obtain ⟨cs, h1, _⟩ := r
  exact (Array.getElem?_eq_some_iff.1 h1).1
theorem Rs.keep {w w' : World} {h : Nat} {l : List (List (BitVec 8))} (r : Rs w h l) (hb : w'.heap[h]? = w.heap[h]?) : Rs w' h l := by
  obtain ⟨cs, h1, h2⟩ := r
  exact ⟨cs, by rw [hb]; exact h1, h2⟩
theorem Rs.below {w w' : World} {h : Nat} {l : List (List (BitVec 8))} (r : Rs w h l) (hb : Below w.heap.size w w') : Rs w' h l := r.keep (hb.block h r.lt)
theorem Rs.cell {w : World} {h : Nat} {l : List (List (BitVec 8))} (r : Rs w h l) {i : Nat} {x : List (BitVec 8)} (hi : l[i]? = some x) : w.cell? ⟨h, i, none⟩ = some (.string (str x)) := by
  obtain ⟨cs, h1, h2⟩ := r
  simp only [World.cell?, h1]
  exact h2 i x hi
theorem Rs.there {w : World} {h : Nat} {l : List (List (BitVec 8))} (r : Rs w h l) {i : Nat} (hi : i < l.length) : w.there h i 1 := by
  obtain ⟨cs, h1, h2⟩ := r
  intro j hj
  obtain rfl : j = 0 := by omega
  refine ⟨?_, frozen_of_row w h (i + 0) _ 9 h1⟩
  have h3 := h2 i _ (List.getElem?_eq_getElem hi)
  have : w.cell? ⟨h, i + 0, none⟩ = some (.string (str l[i])) := by
    simp only [World.cell?, h1]
    exact h3
  rw [this]
  rfl
theorem Rs.other {w : World} {h b i : Nat} {v : Value} {l : List (List (BitVec 8))} (r : Rs w h l) (hne : h ≠ b) : Rs (w.setCell ⟨b, i, none⟩ v) h l := r.keep (((Only.refl b w).setCell i v).block h r.lt hne)
theorem Rs.set {w : World} {h i : Nat} {l : List (List (BitVec 8))} (r : Rs w h l) (hi : i < l.length) (y : List (BitVec 8)) : Rs (w.setCell ⟨h, i, none⟩ (.string (str y))) h (l.set i y) := by
  obtain ⟨cs, h1, h2⟩ := r
  refine ⟨cs.setIfInBounds i (.string (str y)), ?_, fun j x hj => ?_⟩
  · simp [World.setCell, Array.getElem?_modify, h1]
  · rw [List.getElem?_set] at hj
    rw [Array.getElem?_setIfInBounds]
    by_cases e : i = j
    · subst e
      have hc := (Array.getElem?_eq_some_iff.1 (h2 i _ (List.getElem?_eq_getElem hi))).1
      rw [if_pos rfl, if_pos hi] at hj
      rw [if_pos rfl, if_pos hc]
      cases hj
      rfl
    · rw [if_neg e] at hj
      rw [if_neg e]
      exact h2 j x hj
section
variable {Q : Exit → Act → World → Prop} {o : Oper} {a : Act} {w : World}
theorem then_exit {K : Act → World → Prop} {id : Nat} (h : Q (.exit id) a w) : Exit.then K Q (.exit id) a w := h
theorem block_exit {id : Nat} (h : Q .normal a w) : Exit.inBlock id Q (.exit id) a w := by
  show (if id = id then Q .normal a w else Q (.exit id) a w)
  rw [if_pos rfl]
  exact h
theorem st_addz (x y : Operand) (ho : o.op = .binOp .add 3 x y 3) (m n e : Int) (hx : a.eval x = .int .i64 m) (hy : a.eval y = .int .i64 n) (he : e = m + n) (h1 : -9223372036854775808 ≤ e) (h2 : e ≤ 9223372036854775807) : o.wp Tryz.prog a w (Ends a o.dst w (Fk.eq (.int .i64 e)).f) Q := by
  refine st_bin .add 3 3 x y ho hx hy ?_
  have hw : IntKind.i64.wrap (m + n) = e := by rw [IntKind.wrap_i64]; omega
  simp [eqGuard, binOp, Op.intArith, hw]
theorem st_subz (x y : Operand) (ho : o.op = .binOp .sub 3 x y 3) (m n e : Int) (hx : a.eval x = .int .i64 m) (hy : a.eval y = .int .i64 n) (he : e = m - n) (h1 : -9223372036854775808 ≤ e) (h2 : e ≤ 9223372036854775807) : o.wp Tryz.prog a w (Ends a o.dst w (Fk.eq (.int .i64 e)).f) Q := by
  refine st_bin .sub 3 3 x y ho hx hy ?_
  have hw : IntKind.i64.wrap (m - n) = e := by rw [IntKind.wrap_i64]; omega
  simp [eqGuard, binOp, Op.intArith, hw]
theorem st_nes (x y : Operand) (ho : o.op = .binOp .neq 9 x y 9) (s t : ByteArray) (hx : a.eval x = .string s) (hy : a.eval y = .string t) (b : Bool) (hb : b = decide (s ≠ t)) : o.wp Tryz.prog a w (Ends a o.dst w (Fk.eq (.bool b)).f) Q := by
  subst hb
  refine st_bin .neq 9 9 x y ho hx hy ?_
  have := str_beq s t
  simp [eqGuard, binOp, Op.stringOp, this]
theorem st_stra (x : Operand) (ho : o.op = .convert 22 9 x) {bs : List (BitVec 8)} (h : (Fk.sl bs).f (a.eval x) w) : o.wp Tryz.prog a w (Ends a o.dst w (Fk.eq (.string (str bs))).f) Q := by
  by_cases hne : 0 < bs.length
  · exact st_str x ho hne h
  · have hb0 : bs = [] := List.eq_nil_of_length_eq_zero (by omega)
    subst hb0
    obtain ⟨sp, m, c, b, so, e, hs⟩ := h
    refine st_pure (v := .string (str [])) ?_ rfl
    have hm : m = 0 := hs.len
    subst hm
    have hr : (convert 22 9 (.slice sp 0 c)).run Tryz.prog w = .ok (.string (str [])) w := by
      cases sp with
      | none => exact run_convert_bytes_nil (P := Tryz.prog) w 22 5 Tryz.under22 Tryz.under5 0 c 9 Tryz.under9
      | some A =>
        rw [run_convert_bytes_string w 22 9 5 (some A) 0 c Tryz.under22 Tryz.under5 Tryz.under9, run_bytesToString w A 0 c [] (by rfl)]
        rfl
    unfold execOp
    rw [ho]
    simp [e, hr]
theorem st_idxs (x y : Operand) (ho : o.op = .indexAddr 29 x y) {h n C : Nat} (hx : a.eval x = .slice (some ⟨h, 0, none⟩) n C) (i : Nat) (hy : a.eval y = .int .i64 (i : Int)) (hi : i < n) : o.wp Tryz.prog a w (Ends a o.dst w (Fk.eq (.pointer (some ⟨h, i, none⟩))).f) Q := by
  refine st_pure (v := .pointer (some ⟨h, i, none⟩)) ?_ rfl
  have h1 := run_indexAt_slice (P := Tryz.prog) (w := w) 29 ⟨h, 0, none⟩ n C .i64 (i : Int) (by rw [show Tryz.prog.elem 29 = 9 by kernel_rfl]; kernel_rfl)
  rw [if_pos (by omega), show Tryz.prog.elem 29 = 9 by kernel_rfl, show (sizeOf 9).run Tryz.prog w = .ok 1 w by kernel_rfl] at h1
  simp only [Result.andThen_ok, Int.toNat_natCast, Addr.add_mid, Nat.mul_one, Nat.zero_add] at h1
  unfold execOp
  rw [ho]
  simp [hx, hy, h1]
theorem st_lens (x : Operand) (ho : o.op = .call { callee := .builtin .len, args := #[x], argTypes := #[29] }) {p : Option Addr} {n C : Nat} (hx : a.eval x = .slice p n C) : o.wp Tryz.prog a w (Ends a o.dst w (Fk.eq (.int .i64 (n : Int))).f) Q := by
  refine st_pure (v := .int .i64 (n : Int)) ?_ rfl
  have h1 := run_len_slice (P := Tryz.prog) (w := w) 29 o.type p n C (by rw [show Tryz.prog.elem 29 = 9 by kernel_rfl]; kernel_rfl)
  unfold execOp
  simp [ho, resolve, invoke, builtin, hx, h1, goInt]
end
end Go.Proofs.YtakdpkoigijonaaGreat
namespace Go.Proofs.YtakdpkoigijonaaGreat
set_option maxRecDepth 100000
open Go.RowKit
end Go.Proofs.YtakdpkoigijonaaGreat
namespace Go.Proofs.YtakdpkoigijonaaGreat
set_option maxRecDepth 100000
open Go.RowKit
end Go.Proofs.YtakdpkoigijonaaGreat
namespace Go.Proofs.YtakdpkoigijonaaGreat
set_option maxRecDepth 100000
open Go.RowKit
def ms (bs : List (BitVec 8)) : List (BitVec 8) := shaOf (kb 5 :: bs)
/-- Hashes in new memory. -/
def Fk.hn (g0 : Nat) (hs : List (List (BitVec 8))) : Fk := .inr (.inl ⟨fun v w => ∃ A C lb lo, v = .slice A hs.length C ∧ g0 ≤ lb ∧ Hl w A lb lo hs, by
  rintro v w w' ⟨A, C, lb, lo, e, hg, h⟩ hb
  exact ⟨A, C, lb, lo, e, hg, h.below hb⟩⟩)
/-- n hashes of noughts. -/
def zhs (n : Nat) : List (List (BitVec 8)) := List.replicate n hz
/-- A new row of n hashes of noughts. -/
def Fk.nz (g0 n : Nat) : Fk := .inr (.inl ⟨fun v w => ∃ g, g0 ≤ g ∧ v = .slice (some ⟨g, 0, none⟩) n n ∧ Rw w g (zhs n), by
  rintro v w w' ⟨g, h, e, hv⟩ hb
  exact ⟨g, h, e, hv.below hb⟩⟩)
section
variable {Q : Exit → Act → World → Prop} {o : Oper} {a : Act} {w : World} {ops : Array Oper} {rest : List Oper}
theorem st_loadz (T : TypeId) (x : Operand) (ho : o.op = .load T x) (b so : Nat) (cs : List Value) (hr : (Tryz.prog.underlying T).map (·.isRow) = some true) (hi : (Tryz.prog.info? T).map (·.size) = some cs.length) (hx : a.eval x = .pointer (some ⟨b, so, none⟩)) (hc : w.rangeAt b so cs) : o.wp Tryz.prog a w (Ends a o.dst w (Fk.eq (.agg cs.toArray)).f) Q := by
  cases hu : Tryz.prog.underlying T with
  | none => rw [hu] at hr; cases hr
  | some d =>
    rw [hu] at hr
    exact st_loadm T x ho b so cs hu (by simpa using hr) hi hx hc
end
end Go.Proofs.YtakdpkoigijonaaGreat
namespace Go.Proofs.YtakdpkoigijonaaGreat
set_option maxRecDepth 100000
open Go.RowKit
section
variable {Q : Exit → Act → World → Prop} {o : Oper} {a : Act} {w : World}
theorem st_conv (t1 t2 : TypeId) (x : Operand) (ho : o.op = .convert t1 t2 x) (k1 k2 : IntKind) (z z2 : Int) (hx : a.eval x = .int k1 z) (h1 : Tryz.prog.underlying t1 = some (.int k1)) (h2 : Tryz.prog.underlying t2 = some (.int k2)) (hw : k2.wrap z = z2) : o.wp Tryz.prog a w (Ends a o.dst w (Fk.eq (.int k2 z2)).f) Q := by
  refine st_pure (v := .int k2 z2) ?_ rfl
  unfold execOp
  rw [ho]
  simp [hx, convert, run_underlying h1, run_underlying h2, Conv.intToInt, hw]
end
end Go.Proofs.YtakdpkoigijonaaGreat
namespace Go.Proofs.YtakdpkoigijonaaGreat
set_option maxRecDepth 100000
open Go.RowKit
end Go.Proofs.YtakdpkoigijonaaGreat
namespace Go.Proofs.YtakdpkoigijonaaGreat
set_option maxRecDepth 100000
open Go.RowKit
def nowv (yh yc : List (BitVec 8)) : List (BitVec 8) := if yc = [] then yh else yc
end Go.Proofs.YtakdpkoigijonaaGreat
namespace Go.Proofs.YtakdpkoigijonaaGreat
set_option maxRecDepth 100000
open Go.RowKit
/-- The rows behind k rounds. -/
def hk (hs cs : List (List (BitVec 8))) (k : Nat) : List (List (BitVec 8)) := (List.zipWith pickc hs cs).take k ++ hs.drop k
end Go.Proofs.YtakdpkoigijonaaGreat
namespace Go.Proofs.YtakdpkoigijonaaGreat
set_option maxRecDepth 100000
open Go.RowKit
/-- A slice that has these hashes, and room for them. -/
def Fk.hc (hs : List (List (BitVec 8))) : Fk := .inr (.inl ⟨fun v w => ∃ A C lb lo, v = .slice A hs.length C ∧ hs.length ≤ C ∧ Hl w A lb lo hs, by
  rintro v w w' ⟨A, C, lb, lo, e, hg, h⟩ hb
  exact ⟨A, C, lb, lo, e, hg, h.below hb⟩⟩)
section
variable {Q : Exit → Act → World → Prop} {o : Oper} {a : Act} {w : World}
end
end Go.Proofs.YtakdpkoigijonaaGreat
