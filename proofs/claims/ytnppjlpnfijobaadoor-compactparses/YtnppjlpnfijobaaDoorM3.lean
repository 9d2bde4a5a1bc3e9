/- Walks over frames that are letters: the start, regions that are steps as a whole, stores and assignments behind steps. Slices of hashes of the call's own that grow by one: what is told of them, and append. Plain: a drawn region whose first operations come in any order, and whose last ones, in a chain, wait for them all. As in Pz; and variables that are made among the first operations are apart, whatever order is picked. A row of hashes that is written hash by hash. Secrets and ends; isKey. The bits of a hash: the function that is ranged over, at every body that keeps what lay below. What lamport.Bits hands back. What the reference's Bit and the law's awake hand back. Regions inside a round of a range over a function: what is shown of a region anywhere serves in a round. Steps over numbers, slice variables and rows of 512 hashes; the calls of lamport as steps meet them. Made by gen_rc.py. What lamport.Sign hands back. Made by gen_re.py. What lamport.Recover hands back. What lamport.Public hands back. What the law's ends hands back. The calls of lamport and of ends as the laws' steps meet them. The calls of Public and Sign as steps meet them; what a signature leads to. Steps over structs in memory: fields, boxes, whole structs; one step of a list by itself; numbers that are shifted and compared. More steps: heads of structs, tuples, lengths; each function is entered as itself. What tag's sum, Leaf, Message, File and Record hand back: the sums of just their bytes. What Node, Chain, Secret and Record hand back: the sums of just their bytes. What mss is made of, plainly; the sums as steps meet them; rows of n hashes. Slices of hashes that are cut: what is told of them. Plain words of layer 7: the split, roots of lists by halves, and how they are put together on a stack. Peaks of a list, plainly (layer 9): how they grow, how they are joined, how many they are, and that the reference's pairs are theirs. No program is spoken of. How many bits a number has (math/bits.Len, Len64). Split, and the reference's. Slices of numbers, and of pairs of numbers: of the call's own, and to be read. The reference's Count and Peaks. The reference's Root. Roots, plainly. An own slice of hashes that is cut is an own slice. The law's root. Plain: a drawn region whose last store may come ahead of one operation that only takes a value out: both orders come to one end. Drawn regions with a chain of calls that turn one object: what only looks is taken first. -/
import Derived.Test.YtnppjlpnfijobaaDoorM2
import Derived.Laws.ResultCell
import Derived.RangeFuncNested
import Derived.RangeFuncBound
import Derived.RangeFuncCalls
import Derived.RangeFuncLeaves
import Derived.Shelf.Abstract
import Derived.Shelf.RegionOpen
import Derived.WalkKit
import Derived.OwnWalkIn
import Derived.TacticsInMore
import Derived.LoopNIn
import Derived.LoopIn
import Derived.Test.YtnppjlpnfijobaaDoorProg
import Derived.Laws.MakeOwn
import Derived.Laws.Rows
import Derived.Laws.Tables
import Derived.OrdersIn
import Derived.Deep.MidRow
import Derived.Deep.RegionHeld
namespace Go.Proofs.YtnppjlpnfijobaaDoor
set_option maxRecDepth 100000
open Go.RowKit
theorem then_ret {K : Act → World → Prop} {Q : Exit → Act → World → Prop} {a : Act} {w : World} (h : Q .ret a w) : Exit.then K Q .ret a w := h
theorem block_ret {id : Nat} {Q : Exit → Act → World → Prop} {a : Act} {w : World} (h : Q .ret a w) : Exit.inBlock id Q .ret a w := h
theorem code_both {P : Program} {c : Code} {Q : Exit → Act → World → Prop} {a : Act} {w : World} (F : Act → World → Prop) (h0 : F a w) (h : ∀ f w, F f w → Code.wp P c Q f w) : Code.wp P c Q a w := h a w h0
theorem f_at {q : Fk} {a b : Act} {x y : Operand} {w : World} (h : a.eval x = b.eval y) (hq : q.f (b.eval y) w) : q.f (a.eval x) w := by rw [h]; exact hq
theorem wp_all {P : Program} {Q : Exit → Act → World → Prop} {ops : Array Oper} {id : Nat} {a0 : Act} {w : World} (qs : List Fk) (hm : P.follows .mixedOrders = true) (hn : decide (qs.length = ops.size) = true) (hE : edgesOk ops.toList qs.length = true)
    (hD : dstsOk a0.tmps.size (ops.toList.take qs.length) = true) (hG : guardsOk ops.toList qs.length qs ops.toList qs = true)
    (hS : Steps P Q ops.toList qs.length qs a0 w ops.toList qs)
    (hF : ∀ af w', Final ops.toList qs a0 af w' → Below w.heap.size w w' → Q .normal af w') :
    (Code.region id ops true).wp P Q a0 w := by
  have hn' : qs.length = ops.size := of_decide_eq_true hn
  refine wp_region_end qs hm (decide_eq_true (by omega)) hE hD hG hS ?_
  intro af w' fin hb
  rw [List.drop_of_length_le (by simp; omega)]
  exact hF af w' fin hb
theorem wp_all_seq {P : Program} {Q : Exit → Act → World → Prop} {ops : Array Oper} {id : Nat} {a0 : Act} {w : World} (qs : List Fk) (hn : decide (qs.length = ops.size) = true) (hE : backOk ops.toList = true)
    (hD : dstsOk a0.tmps.size (ops.toList.take qs.length) = true) (hG : guardsOk ops.toList qs.length qs ops.toList qs = true)
    (hS : Steps P Q ops.toList qs.length qs a0 w ops.toList qs)
    (hF : ∀ af w', Final ops.toList qs a0 af w' → Below w.heap.size w w' → Q .normal af w') :
    (Code.region id ops false).wp P Q a0 w := by
  have hn' : qs.length = ops.size := of_decide_eq_true hn
  refine wp_region_seq qs (decide_eq_true (by omega)) hE hD hG hS ?_
  intro af w' fin hb
  rw [List.drop_of_length_le (by simp; omega)]
  exact hF af w' fin hb
/-- A pointer to a hash variable that is new. -/
def Fk.pn (g0 : Nat) (xs : List (BitVec 8)) : Fk := .inr (.inl ⟨fun v w => ∃ g, g0 ≤ g ∧ v = .pointer (some ⟨g, 0, none⟩) ∧ HasV w g 33 xs, by
  rintro v w w' ⟨g, h, e, hv⟩ hb
  exact ⟨g, h, e, hv.below hb hv.lt⟩⟩)
section
variable {Q : Exit → Act → World → Prop} {o : Oper} {a : Act} {w : World} {q : Fk} {ops : Array Oper} {rest : List Oper}
theorem Tryd.alloc33 (ρ : Operand → Value) (d : Option Tmp) (ty : TypeId) (pos : String) (aft : Array Edge) (gd : Option (Nat × Bool)) (w : World) : (execOp ρ ⟨d, .alloc 33, ty, pos, aft, gd⟩).run Tryd.prog w = .ok (.value (.pointer (some ⟨w.heap.size, 0, none⟩))) (w.alloc (.cells (hz.map V).toArray 33)) := by kernel_rfl
theorem st_alloc33 (ho : o.op = .alloc 33) (g0 : Nat) (hg : g0 ≤ w.heap.size) : o.wp Tryd.prog a w (Ends a o.dst w (Fk.pn g0 hz).f) Q := by
  refine st_run (v := .pointer (some ⟨w.heap.size, 0, none⟩)) (w' := w.alloc (.cells (hz.map V).toArray 33)) ?_ ((Below.refl _ _).alloc (Nat.le_refl _) _) ⟨w.heap.size, hg, rfl, heap_alloc_new _ _⟩
  obtain ⟨d, op, ty, pos, aft, gd⟩ := o
  subst ho
  exact Tryd.alloc33 _ _ _ _ _ _ _
theorem wl_store (hgd : o.guard = none) (x y : Operand) (ho : o.op = .store 33 x y) (hd : o.dst = none) (g : Nat) (zs ys : List (BitVec 8)) (hx : a.eval x = .pointer (some ⟨g, 0, none⟩)) (hy : a.eval y = .agg (zs.map V).toArray) (hv : HasV w g 33 ys) (hl : ys.length = 32) (hz : zs.length = 32)
    (h : wpList Tryd.prog ops Q rest a (w.setRow g (zs.map V).toArray)) : wpList Tryd.prog ops Q (o :: rest) a w := by
  refine wpList_store_row hgd 33 x y ho g (zs.map V).toArray hx hy 33 _ hv (by rw [List.size_toArray, List.length_map, hz]; exact Tryd.size33) (by simp [hl, hz]) (V_all _) ?_
  rw [hd]
  exact h
end
end Go.Proofs.YtnppjlpnfijobaaDoor
namespace Go.Proofs.YtnppjlpnfijobaaDoor
set_option maxRecDepth 100000
open Go.RowKit
theorem Tryd.build22x (x0 x1 x2 x3 x4 x5 x6 x7 x8 x9 x10 x11 x12 x13 x14 x15 x16 x17 x18 x19 x20 x21 x22 x23 x24 x25 x26 x27 x28 x29 x30 x31 : BitVec 8) (w : World) : (Instr.buildSlice 22 1 #[(0, .agg ([x0, x1, x2, x3, x4, x5, x6, x7, x8, x9, x10, x11, x12, x13, x14, x15, x16, x17, x18, x19, x20, x21, x22, x23, x24, x25, x26, x27, x28, x29, x30, x31].map V).toArray)]).run Tryd.prog w = .ok (.slice (some ⟨w.heap.size, 0, none⟩) 1 1) (w.alloc (.cells ([x0, x1, x2, x3, x4, x5, x6, x7, x8, x9, x10, x11, x12, x13, x14, x15, x16, x17, x18, x19, x20, x21, x22, x23, x24, x25, x26, x27, x28, x29, x30, x31].map V).toArray 33)) := by kernel_rfl
theorem Tryd.build22 (hh : List (BitVec 8)) (h : hh.length = 32) (w : World) : (Instr.buildSlice 22 1 #[(0, .agg (hh.map V).toArray)]).run Tryd.prog w = .ok (.slice (some ⟨w.heap.size, 0, none⟩) 1 1) (w.alloc (.cells (hh.map V).toArray 33)) := by
  match hh, h with
  | [x0, x1, x2, x3, x4, x5, x6, x7, x8, x9, x10, x11, x12, x13, x14, x15, x16, x17, x18, x19, x20, x21, x22, x23, x24, x25, x26, x27, x28, x29, x30, x31], _ => exact Tryd.build22x x0 x1 x2 x3 x4 x5 x6 x7 x8 x9 x10 x11 x12 x13 x14 x15 x16 x17 x18 x19 x20 x21 x22 x23 x24 x25 x26 x27 x28 x29 x30 x31 w
theorem hl_one {w : World} {g : Nat} {hh : List (BitVec 8)} (hv : HasV w g 33 hh) (h : hh.length = 32) : Hl w (some ⟨g, 0, none⟩) g 0 [hh] :=
  ⟨fun _ => rfl, fun _ => hv.lt, fun i x hi => by
    cases i with
    | zero =>
      obtain rfl : hh = x := by simpa using hi
      exact ⟨h, hv.bytes⟩
    | succ i => simp at hi⟩
/-- A slice of the call's own that has the hashes hs; its row lies at base or behind it. -/
def Fk.ow (base : Nat) (hs : List (List (BitVec 8))) : Fk := .inr (.inl ⟨fun v w => w.ownsRow base 33 32 v hs.length (hs.flatten.map V) ∧ ∀ (i : Nat) (x : List (BitVec 8)), hs[i]? = some x → x.length = 32, by
  rintro v w w' ⟨⟨h1, h2⟩, h3⟩ hb
  refine ⟨⟨h1, ?_⟩, h3⟩
  rcases h2 with h2 | ⟨g, cap, cur, e, hbg, hg, r⟩
  · exact .inl h2
  · exact .inr ⟨g, cap, cur, e, hbg, by rw [hb.block g (Array.getElem?_eq_some_iff.1 hg).1]; exact hg, r⟩⟩)
theorem flat_at : ∀ (hs : List (List (BitVec 8))), (∀ (i : Nat) (x : List (BitVec 8)), hs[i]? = some x → x.length = 32) → ∀ (i : Nat) (x : List (BitVec 8)), hs[i]? = some x → ∀ j, j < 32 → hs.flatten[i * 32 + j]? = x[j]?
  | [], _, i, x, hi, _, _ => by simp at hi
  | y :: r, hl, i, x, hi, j, hj => by
    have hy := hl 0 y rfl
    rw [List.flatten_cons]
    cases i with
    | zero =>
      obtain rfl : y = x := by simpa using hi
      rw [List.getElem?_append_left (by omega), Nat.zero_mul, Nat.zero_add]
    | succ i =>
      rw [List.getElem?_append_right (by omega), hy, show (i + 1) * 32 + j - 32 = i * 32 + j by omega]
      exact flat_at r (fun i x h => hl (i + 1) x (by simpa using h)) i x (by simpa using hi) j hj
theorem ow_hs {base : Nat} {hs : List (List (BitVec 8))} {v : Value} {w : World} (h : (Fk.ow base hs).f v w) : (Fk.hs hs).f v w := by
  obtain ⟨⟨h1, h2⟩, h3⟩ := h
  rcases h2 with ⟨rfl, hn⟩ | ⟨g, cap, cur, rfl, hbg, hg, hnc, _, hcs, ht⟩
  · have : hs = [] := List.eq_nil_of_length_eq_zero hn
    subst this
    exact ⟨none, 0, 0, 0, rfl, fun h => by simp at h, fun h => by simp at h, fun i x hi => by simp at hi⟩
  · refine ⟨_, cap, g, 0, rfl, fun _ => rfl, fun _ => (Array.getElem?_eq_some_iff.1 hg).1, fun i x hi => ⟨h3 i x hi, fun j hj => ?_⟩⟩
    have hil : i < hs.length := (List.getElem?_eq_some_iff.1 hi).1
    rw [h3 i x hi] at hj
    rw [cell_of_row _ _ _ _ _ _ hg, Nat.zero_add]
    have e := congrArg (·[i * 32 + j]?) ht
    simp only [List.getElem?_take, List.getElem?_map, flat_at hs h3 i x hi j hj] at e
    rw [if_pos (by omega), Array.getElem?_toList] at e
    rw [e]
    have : j < x.length := by rw [h3 i x hi]; exact hj
    simp [this, V]
theorem ow_nil (base : Nat) (w : World) : (Fk.ow base []).f (.slice none 0 0) w := ⟨World.ownsRow_nil _ _ _ _, fun i x hi => by simp at hi⟩
section
variable {Q : Exit → Act → World → Prop} {o : Oper} {a : Act} {w : World} {q : Fk} {ops : Array Oper} {rest : List Oper}
theorem st_bh1 (x : Operand) (ho : o.op = .buildSlice 22 1 #[(0, x)]) {hh : List (BitVec 8)} (hl : hh.length = 32) (hx : a.eval x = .agg (hh.map V).toArray) : o.wp Tryd.prog a w (Ends a o.dst w (Fk.hs [hh]).f) Q := by
  refine st_run (v := .slice (some ⟨w.heap.size, 0, none⟩) 1 1) (w' := w.alloc (.cells (hh.map V).toArray 33)) ?_ ((Below.refl _ _).alloc (Nat.le_refl _) _) ⟨_, 1, w.heap.size, 0, rfl, hl_one (heap_alloc_new _ _) hl⟩
  have := Tryd.build22 hh hl w
  unfold execOp
  rw [ho]
  simp [hx, this]
end
section
variable {Q : Exit → Act → World → Prop} {o : Oper} {a : Act} {w : World} {ops : Array Oper} {rest : List Oper}
end
end Go.Proofs.YtnppjlpnfijobaaDoor
namespace Go.Proofs.YtnppjlpnfijobaaDoor
set_option maxRecDepth 100000
open Go.RowKit
section
variable {P : Program} {ops : Array Oper} {Q : Exit → Act → World → Prop}
/-- From here on just these come up, one behind the other. -/
def chainOk (ops : Array Oper) : Array Bool → List Nat → Bool
  | listed, [] => (Region.ready .any ops listed).isEmpty
  | listed, j :: r => (Region.ready .any ops listed == [j]) && chainOk ops (listed.setIfInBounds j true) r
theorem any_list : ∀ (js : List Nat) (fuel : Nat) (listed : Array Bool) (a : Act) (w : World), chainOk ops listed js = true → js.length ≤ fuel → wpList P ops Q (js.filterMap (ops[·]?)) a w → wpAny P .any ops Q fuel listed a w
  | [], fuel, listed, a, w, hc, _, h => by
    have hr : Region.ready .any ops listed = [] := by simpa [chainOk] using hc
    exact wpAny_nil hr h
  | j :: r, 0, _, _, _, _, hl, _ => by simp at hl
  | j :: r, fuel + 1, listed, a, w, hc, hl, h => by
    simp only [chainOk, Bool.and_eq_true, beq_iff_eq] at hc
    obtain ⟨hr, hc⟩ := hc
    have ih := any_list r fuel (listed.setIfInBounds j true)
    refine ⟨fun h0 => (by rw [hr] at h0; cases h0), fun i hi => ?_⟩
    rw [hr] at hi
    obtain rfl : i = j := by simpa using hi
    have hm : i ∈ Region.ready .any ops listed := by rw [hr]; exact List.mem_cons_self
    obtain ⟨_, o, ho, _⟩ := mem_ready.1 hm
    rw [List.filterMap_cons, ho] at h
    unfold wpOp
    rw [ho]
    show if Region.wanted o (yielded ops a.tmps) = true then _ else _
    simp only [wpList] at h
    by_cases hw : Region.wanted o (yielded ops a.tmps) = true
    · rw [if_pos hw] at h ⊢
      rcases h with h | h
      · exact .inl (Oper.wp_mono (fun a' w' h' => ih a' w' hc (by simpa using hl) h') h)
      · exact .inr h
    · rw [if_neg hw] at h ⊢
      exact ih _ _ hc (by simpa using hl) h
/-- What an operation waits for. -/
def tgt (o : Oper) : List Nat := (o.after.toList.filter fun e => Region.binds .any e).map (·.on)
def tgts (ops : List Oper) (i : Nat) : List Nat := ((ops[i]?).map tgt).getD []
/-- And what these wait for, n times over. -/
def clo (ops : List Oper) : Nat → List Nat → List Nat
  | 0, L => L
  | n + 1, L => clo ops n (L ++ L.flatMap (tgts ops)).eraseDups
/-- Each from number k on waits, in the end, for all ahead of number k. -/
def coverOk (ops : List Oper) (k : Nat) : Bool := (List.range ops.length).all fun j => decide (j < k) || (List.range k).all fun i => (clo ops 8 (tgts ops j)).contains i
theorem mem_tgt {o : Oper} {i : Nat} : i ∈ tgt o ↔ ∃ e ∈ o.after, Region.binds .any e = true ∧ e.on = i := by
  unfold tgt
  simp only [List.mem_map, List.mem_filter, Array.mem_toList_iff]
  constructor
  · rintro ⟨e, ⟨h1, h2⟩, h3⟩; exact ⟨e, h1, h2, h3⟩
  · rintro ⟨e, h1, h2, h3⟩; exact ⟨e, ⟨h1, h2⟩, h3⟩
/-- What is listed is closed. -/
def Closed (ops : Array Oper) (listed : Array Bool) : Prop := ∀ (i : Nat) (o : Oper), ops[i]? = some o → listed.getD i false = true → ∀ j ∈ tgt o, listed.getD j false = true
theorem clo_listed {listed : Array Bool} (hc : Closed ops listed) : ∀ (n : Nat) (L : List Nat), (∀ i ∈ L, listed.getD i false = true) → ∀ i ∈ clo ops.toList n L, listed.getD i false = true
  | 0, L, h, i, hi => h i hi
  | n + 1, L, h, i, hi => by
    refine clo_listed hc n _ (fun j hj => ?_) i hi
    rw [List.mem_eraseDups] at hj
    rcases List.mem_append.1 hj with hj | hj
    · exact h j hj
    · obtain ⟨m, hm, hj⟩ := List.mem_flatMap.1 hj
      unfold tgts at hj
      rw [Array.getElem?_toList] at hj
      cases ho : ops[m]? with
      | none => rw [ho] at hj; simp at hj
      | some o =>
        rw [ho] at hj
        exact hc m o ho (h m hm) j (by simpa using hj)
theorem ready_back (hE : backOk ops.toList = true) {listed : Array Bool} (hs : listed.size = ops.size) (h : Region.ready .any ops listed = []) : unl listed = 0 := by
  unfold backOk at hE
  have hback := List.all_eq_true.1 hE
  have key : ∀ n i, i < n → i < listed.size → listed.getD i true = true := by
    intro n
    induction n with
    | zero => intro i h; omega
    | succ n ih =>
      intro i hi hl
      cases hc : listed.getD i true with
      | true => rfl
      | false =>
        exfalso
        have hio : i < ops.size := by omega
        have hm : i ∈ Region.ready .any ops listed := by
          refine mem_ready.2 ⟨hc, ops[i], Array.getElem?_eq_getElem hio, fun e he hbd => ?_⟩
          have hb := hback i (by simp; exact hio)
          simp only [Array.getElem?_toList, Array.getElem?_eq_getElem hio, Option.map_some, Option.getD_some] at hb
          have hb2 : e.on < i := by
            have := List.all_eq_true.1 hb e (by simpa using he)
            simpa [hbd] using this
          have := ih e.on (by omega) (by omega)
          rw [← getD_tf (by omega)]; exact this
        rw [h] at hm
        cases hm
  unfold unl
  rw [Array.countP_eq_zero]
  intro b hb
  obtain ⟨i, hi, rfl⟩ := Array.mem_iff_getElem.1 hb
  have := key (i + 1) i (by omega) hi
  simpa [hi] using this
theorem chain_len : ∀ (js : List Nat) (listed : Array Bool), chainOk ops listed js = true → js.length ≤ unl listed
  | [], _, _ => Nat.zero_le _
  | j :: r, listed, hc => by
    simp only [chainOk, Bool.and_eq_true, beq_iff_eq] at hc
    obtain ⟨hr, hc⟩ := hc
    have hm : j ∈ Region.ready .any ops listed := by rw [hr]; exact List.mem_cons_self
    obtain ⟨hun, _, _, _⟩ := mem_ready.1 hm
    have h1 := chain_len r _ hc
    have h2 := unl_set hun
    rw [List.length_cons]
    omega
/-- The first k are listed. -/
def firstK (k n : Nat) : Array Bool := Array.ofFn (n := n) fun i => decide (i.val < k)
theorem wp_mids_tail {qs : List Fk} {a0 : Act} {w0 : World} (js : List Nat) (hk : qs.length ≤ ops.size) (hE : backOk ops.toList = true) (hC : coverOk ops.toList qs.length = true) (hJ : chainOk ops (firstK qs.length ops.size) js = true)
    (hD : dstsOk a0.tmps.size (ops.toList.take qs.length) = true) (hG : guardsOk ops.toList qs.length qs ops.toList qs = true)
    (hS : Steps P Q ops.toList qs.length qs a0 w0 ops.toList qs)
    (hF : ∀ af w', Final ops.toList qs a0 af w' → Below w0.heap.size w0 w' → wpList P ops Q (js.filterMap (ops[·]?)) af w') :
    ∀ (fuel : Nat) (listed : Array Bool) (a : Act) (w : World), unl listed ≤ fuel → Closed ops listed → Mids ops qs.length (fkAt qs) a0 w0 listed a w → wpAny P .any ops Q fuel listed a w := by
  have hend : ∀ (fuel : Nat) (listed : Array Bool) (a : Act) (w : World), unl listed ≤ fuel → Mids ops qs.length (fkAt qs) a0 w0 listed a w → (∀ i, i < qs.length → listed.getD i false = true) → wpAny P .any ops Q fuel listed a w := by
    intro fuel listed a w hu hm hall
    have he : listed = firstK qs.length ops.size := by
      apply Array.ext (by simp [firstK, hm.lsize])
      intro i h1 h2
      simp only [firstK, Array.getElem_ofFn]
      by_cases hi : i < qs.length
      · have := hall i hi
        simp [h1] at this
        simp [this, hi]
      · have h3 : i < ops.size := by rw [hm.lsize] at h1; exact h1
        have := hm.last i (by omega) h3
        simp [h1] at this
        simp [this, hi]
    have hJ' : chainOk ops listed js = true := by rw [he]; exact hJ
    have hlen := chain_len js listed hJ'
    refine any_list js fuel listed a w hJ' (by omega) ?_
    refine hF a w ⟨hm.defs, hm.size, fun t ht => eval_of_get (hm.old t ht), fun i d h => ?_⟩ hm.grow
    simp only [Bool.and_eq_true, decide_eq_true_eq, beq_iff_eq] at h
    obtain ⟨hi, hd⟩ := h
    cases ho : ops.toList[i]? with
    | none => rw [ho] at hd; simp at hd
    | some o =>
      rw [ho] at hd
      exact hm.has i o d hi (by rw [← Array.getElem?_toList]; exact ho) (by simpa using hd) (hall i hi)
  intro fuel
  induction fuel with
  | zero =>
    intro listed a w hu hcl hm
    have hall := unl_zero (listed := listed) (by omega)
    refine hend 0 listed a w hu hm (fun i hi => ?_)
    have hil : i < listed.size := by rw [hm.lsize]; omega
    rw [← getD_tf hil]; exact hall i hil
  | succ fuel ih =>
    intro listed a w hu hcl hm
    by_cases hall : ∀ i, i < qs.length → listed.getD i false = true
    · exact hend (fuel + 1) listed a w hu hm hall
    · have hex : ∃ i0, i0 < qs.length ∧ listed.getD i0 false = false := by
        apply Classical.byContradiction
        intro hno
        apply hall
        intro i hi
        cases hq : listed.getD i false with
        | true => rfl
        | false => exact absurd ⟨i, hi, hq⟩ hno
      obtain ⟨i0, hi0, hi0u⟩ := hex
      refine ⟨fun hr => ?_, fun i hi => ?_⟩
      · exfalso
        have hu0 := ready_back hE hm.lsize hr
        have hil : i0 < listed.size := by rw [hm.lsize]; omega
        have := unl_zero hu0 i0 hil
        rw [getD_tf hil, hi0u] at this
        cases this
      · obtain ⟨hun, o, ho, hdep⟩ := mem_ready.1 hi
        have hio : i < ops.size := (Array.getElem?_eq_some_iff.1 ho).1
        have hu' := unl_set hun
        have hil : i < listed.size := by rw [hm.lsize]; exact hio
        have htg : ∀ j ∈ tgt o, listed.getD j false = true := fun j hj => by
          obtain ⟨e, he, hb, rfl⟩ := mem_tgt.1 hj
          exact hdep e he hb
        have hik : i < qs.length := by
          rcases Nat.lt_or_ge i qs.length with h | h
          · exact h
          · exfalso
            unfold coverOk at hC
            have h1 := List.all_eq_true.1 hC i (by simpa using hio)
            simp only [Bool.or_eq_true, decide_eq_true_eq] at h1
            rcases h1 with h1 | h1
            · omega
            · have h2 := List.all_eq_true.1 h1 i0 (by simpa using hi0)
              have h3 : i0 ∈ clo ops.toList 8 (tgts ops.toList i) := by simpa using h2
              have h4 := clo_listed hcl 8 (tgts ops.toList i) (fun j hj => by
                unfold tgts at hj
                rw [Array.getElem?_toList, ho] at hj
                exact htg j (by simpa using hj)) i0 h3
              rw [hi0u] at h4
              cases h4
        have hK : Known ops.toList qs.length (fkAt qs) a0 w0 o a w := by
          refine ⟨fun t ht => eval_of_get (hm.old t ht), fun j d hj => ?_, hm.grow⟩
          unfold depOk at hj
          simp only [Bool.and_eq_true, decide_eq_true_eq, beq_iff_eq, Array.getElem?_toList] at hj
          obtain ⟨⟨hjk, hany⟩, hd⟩ := hj
          obtain ⟨e, he, hb⟩ := List.any_eq_true.1 hany
          simp only [Bool.and_eq_true, beq_iff_eq] at hb
          have hl := hdep e (by simpa using he) hb.2
          rw [hb.1] at hl
          cases hoj : ops[j]? with
          | none => rw [hoj] at hd; simp at hd
          | some oj =>
            rw [hoj] at hd
            exact hm.has j oj d hjk hoj (by simpa using hd) hl
        have hto : (ops.toList.take qs.length)[i]? = some o := by rw [List.getElem?_take, if_pos hik, Array.getElem?_toList]; exact ho
        obtain ⟨d, hd, hlt, hallD⟩ := dstsOk_spec hD i o hto
        have hcl' : Closed ops (listed.setIfInBounds i true) := by
          intro m om hom hml j hj
          by_cases e : m = i
          · subst e
            obtain rfl : om = o := Option.some.inj (hom.symm.trans ho)
            have h1 := htg j hj
            by_cases e2 : j = m
            · subst e2; exact getD_set_same hil
            · have hne : m ≠ j := fun h => e2 h.symm
              simpa [Array.getElem?_setIfInBounds, hne] using h1
          · have hne : i ≠ m := fun h => e h.symm
            have hml' : listed.getD m false = true := by simpa [Array.getElem?_setIfInBounds, hne] using hml
            have h1 := hcl m om hom hml' j hj
            by_cases e2 : j = i
            · subst e2; exact getD_set_same hil
            · have hne2 : i ≠ j := fun h => e2 h.symm
              simpa [Array.getElem?_setIfInBounds, hne2] using h1
        have hnext : ∀ v w', Below w.heap.size w w' → fkAt qs i v w' → wpAny P .any ops Q fuel (listed.setIfInBounds i true) (a.put o.dst v) w' := by
          intro v w' hb hf
          refine ih _ _ _ (by omega) hcl' ⟨by rw [put_size]; exact hm.size, by rw [put_def]; exact hm.defs, by simp; exact hm.lsize, fun t ht => ?_, fun j oj dj hj hoj hdj hlj => ?_, fun j hj1 hj2 => ?_, hm.grow.trans (hb.mono hm.grow.size)⟩
          · rw [put_other _ _ _ _ (freeOf_spec ht hto)]; exact hm.old t ht
          · by_cases e : j = i
            · subst e
              obtain rfl : oj = o := Option.some.inj (hoj.symm.trans ho)
              obtain rfl : dj = d := Option.some.inj (hdj.symm.trans hd)
              have hev : (a.put oj.dst v).eval (.tmp dj) = v := by
                have := put_same a dj v (by rw [hm.size]; exact hlt)
                rw [← hd] at this
                simp [Act.eval, this]
              rw [hev]; exact hf
            · have htj : (ops.toList.take qs.length)[j]? = some oj := by rw [List.getElem?_take, if_pos hj, Array.getElem?_toList]; exact hoj
              have hne : o.dst ≠ some dj := fun h => by
                have : d = dj := Option.some.inj (hd.symm.trans h)
                exact hallD j oj htj e (by rw [this]; exact hdj)
              rw [eval_of_get (put_other a o.dst v dj hne)]
              refine Fk.mono _ _ w w' (hm.has j oj dj hj hoj hdj ?_) hb
              have hne2 : i ≠ j := fun h => e h.symm
              simpa [Array.getElem?_setIfInBounds, hne2] using hlj
          · have hne : i ≠ j := by omega
            have := hm.last j hj1 hj2
            simpa [Array.getElem?_setIfInBounds, hne] using this
        have hyield : ∀ (j : Nat) (b c : Bool), o.guard = some (j, b) → (∃ d, depOk ops.toList qs.length o j d = true) → (∀ v w, fkAt qs j v w → v = .bool c) → yielded ops a.tmps j = some c := by
          rintro j b c hg ⟨d, hd⟩ hbool
          have hv := hbool _ _ (hK.dep j d hd)
          have hd2 : (ops[j]?).bind (·.dst) = some d := by
            unfold depOk at hd
            simp only [Bool.and_eq_true, decide_eq_true_eq, beq_iff_eq, Array.getElem?_toList] at hd
            exact hd.2
          have hget : a.tmps[d]? = some (.bool c) := by
            simp only [Act.eval, Array.getD_eq_getD_getElem?] at hv
            cases hq : a.tmps[d]? with
            | none => rw [hq] at hv; simp [undef] at hv
            | some u => rw [hq] at hv; simp at hv; rw [hv]
          unfold yielded
          rw [hd2]
          simp only [Option.bind_some, hget]
        unfold wpOp
        rw [ho]
        show if Region.wanted o (yielded ops a.tmps) = true then _ else _
        have hyes : Region.wanted o (yielded ops a.tmps) = true → wantedBy qs o = true → (if Region.wanted o (yielded ops a.tmps) = true then o.wp P a w (wpAny P .any ops Q fuel (listed.setIfInBounds i true)) Q ∨ (o.asks P a w ∧ LetsOut Q) else wpAny P .any ops Q fuel (listed.setIfInBounds i true) (a.put o.dst undef) w) := by
          intro hwant hwb
          rw [if_pos hwant]
          refine .inl (Oper.wp_mono ?_ (hS.get i o hik (by rw [Array.getElem?_toList]; exact ho) hwb a w hK))
          rintro a' w' ⟨v, rfl, hb, hf⟩
          exact hnext v w' hb hf
        cases hg : o.guard with
        | none => exact hyes (by unfold Region.wanted; rw [hg]) (by unfold wantedBy; rw [hg])
        | some jb =>
          obtain ⟨j, b⟩ := jb
          obtain ⟨hdp, h2⟩ := guardsOk_spec hG i o j b hik (by rw [Array.getElem?_toList]; exact ho) hg
          rcases h2 with h2 | h2
          · refine hyes ?_ (by unfold wantedBy; rw [hg]; exact h2)
            unfold Region.wanted
            rw [hg]
            show (yielded ops a.tmps j == some b) = true
            rw [hyield j b b hg hdp (Fk.isBool_spec h2)]; simp
          · have hno : Region.wanted o (yielded ops a.tmps) = false := by
              unfold Region.wanted
              rw [hg]
              show (yielded ops a.tmps j == some b) = false
              rw [hyield j b (!b) hg hdp (Fk.isBool_spec h2.1)]; cases b <;> rfl
            rw [if_neg (by rw [hno]; simp)]
            exact hnext undef w (Below.refl _ _) (Fk.isAny_spec h2.2 _ _)
/-- A drawn region: its first operations by steps, whatever order is picked; the others, in the order js, behind them. -/
theorem wp_region_tail {id : Nat} {a0 : Act} {w : World} (qs : List Fk) (js : List Nat) (hm : P.follows .mixedOrders = true) (hk : decide (qs.length ≤ ops.size) = true) (hE : backOk ops.toList = true) (hC : coverOk ops.toList qs.length = true) (hJ : chainOk ops (firstK qs.length ops.size) js = true)
    (hD : dstsOk a0.tmps.size (ops.toList.take qs.length) = true) (hG : guardsOk ops.toList qs.length qs ops.toList qs = true)
    (hS : Steps P Q ops.toList qs.length qs a0 w ops.toList qs)
    (hF : ∀ af w', Final ops.toList qs a0 af w' → Below w.heap.size w w' → wpList P ops Q (js.filterMap (ops[·]?)) af w') :
    (Code.region id ops true).wp P Q a0 w := by
  refine wp_region_any hm ?_
  refine wp_mids_tail js (of_decide_eq_true hk) hE hC hJ hD hG hS hF ops.size _ a0 _ ?_ ?_ ?_
  · unfold unl
    exact Nat.le_trans (Array.countP_le_size) (by simp)
  · intro i o ho hl
    have : i < ops.size := (Array.getElem?_eq_some_iff.1 ho).1
    simp [this] at hl
  · refine ⟨rfl, rfl, by simp, fun _ _ => rfl, fun i o d _ ho _ hl => ?_, fun i _ hi => ?_, (Below.refl _ _).drew⟩
    · have : i < ops.size := (Array.getElem?_eq_some_iff.1 ho).1
      simp [this] at hl
    · simp [hi]
end
end Go.Proofs.YtnppjlpnfijobaaDoor
namespace Go.Proofs.YtnppjlpnfijobaaDoor
set_option maxRecDepth 100000
open Go.RowKit
section
variable {ops : Array Oper} {Q : Exit → Act → World → Prop}
end
end Go.Proofs.YtnppjlpnfijobaaDoor
namespace Go.Proofs.YtnppjlpnfijobaaDoor
set_option maxRecDepth 100000
open Go.RowKit
end Go.Proofs.YtnppjlpnfijobaaDoor
namespace Go.Proofs.YtnppjlpnfijobaaDoor
set_option maxRecDepth 100000
open Go.RowKit
end Go.Proofs.YtnppjlpnfijobaaDoor
namespace Go.Proofs.YtnppjlpnfijobaaDoor
set_option maxRecDepth 100000
open Go.RowKit Go.Shelf
attribute [local go_sem] Oper.semAt_some
/-- Bit k of a hash. -/
def bt (h : List (BitVec 8)) (k : Nat) : Nat := (h.getD (k / 8) 0).toNat / 2 ^ (7 - k % 8) % 2
/-- What a round is handed. -/
def enc (h : List (BitVec 8)) (p : Fin 256) : Array Value := #[.int .i64 (p.val : Int), .int .i64 (bt h p.val : Int)]
end Go.Proofs.YtnppjlpnfijobaaDoor
namespace Go.Proofs.YtnppjlpnfijobaaDoor
set_option maxRecDepth 100000
open Go.RowKit Go.Shelf
attribute [local go_sem] Oper.semAt_some
/-- A number in a cell. -/
def NV (n : Nat) : Value := .int .i64 (n : Int)
/-- Block b of the world is a row of numbers. -/
def HasN (w : World) (b : Nat) (ds : List Nat) : Prop := w.heap[b]? = some (.cells (ds.map NV).toArray 3 (0, 0))
theorem HasN.cell {w : World} {b : Nat} {ds : List Nat} (h : HasN w b ds) (i d : Nat) (hi : ds[i]? = some d) : w.cell? ⟨b, i, none⟩ = some (.int .i64 (d : Int)) := by
  unfold HasN at h
  simp [World.cell?, h, hi, NV]
theorem HasN.frozen {w : World} {b : Nat} {ds : List Nat} (h : HasN w b ds) (i : Nat) : w.frozen? ⟨b, i, none⟩ = false := by
  unfold HasN at h
  simp [World.frozen?, h]
theorem HasN.set {w : World} {b : Nat} {ds : List Nat} (h : HasN w b ds) (i x : Nat) : HasN (w.setCell ⟨b, i, none⟩ (.int .i64 (x : Int))) b (ds.set i x) := by
  unfold HasN at *
  simp [World.setCell, Array.getElem?_modify, h, NV, List.map_set]
theorem HasN.lt {w : World} {b : Nat} {ds : List Nat} (h : HasN w b ds) : b < w.heap.size := (Array.getElem?_eq_some_iff.1 h).1
/-- A variable that holds a slice. -/
def HasS (w : World) (b : Nat) (T : TypeId) (v : Value) : Prop := w.heap[b]? = some (.cells #[v] T (0, 0))
theorem HasS.cell {w : World} {b : Nat} {T : TypeId} {v : Value} (h : HasS w b T v) : w.cell? ⟨b, 0, none⟩ = some v := by
  unfold HasS at h
  simp [World.cell?, h]
end Go.Proofs.YtnppjlpnfijobaaDoor
namespace Go.Proofs.YtnppjlpnfijobaaDoor
set_option maxRecDepth 100000
open Go.RowKit
end Go.Proofs.YtnppjlpnfijobaaDoor
namespace Go.Proofs.YtnppjlpnfijobaaDoor
set_option maxRecDepth 100000
open Go.RowKit
/-- No operation defers a call. -/
def plainB (o : Oper) : Bool := match o.op with
  | .defer _ => false
  | _ => true
theorem plain_ne {o : Oper} (h : plainB o = true) : ∀ c, o.op ≠ .defer c := by
  intro c e
  unfold plainB at h
  rw [e] at h
  cases h
section
variable {P : Program} {Q : Exit → Act → World → Prop} {l n : Nat}
theorem in_oper {o : Oper} {a : Act} {w : World} {K K' : Act → World → Prop} (hd : plainB o = true) (hQ : ¬ LetsOut Q) (hK : ∀ a w, K a w → K' a w)
    (h : o.wp P a w K Q ∨ (o.asks P a w ∧ LetsOut Q)) : o.wpIn (Fence.wide.inRound l) n P a w K' Q := by
  rcases h with h | h
  · refine ⟨fun _ _ => trivial, ?_⟩
    rw [Oper.semAt_eq _ _ _ (plain_ne hd)]
    unfold Oper.wp at h
    generalize (execOp a.eval o).run P w = r at *
    cases r with
    | ok x w' =>
      cases x <;> simp only [Oper.upon, Oper.uponIn] at h ⊢ <;>
        first
          | exact hK _ _ h
          | exact h.elim
          | exact ⟨fun h => (by cases h), CallsIn.inRound l (callsIn_wide.2 (Calls.mono h (fun e w'' he => by cases e <;> first | exact hK _ _ he | exact he)))⟩
          | exact ⟨fun h => (by cases h), fun c cs _ => by obtain ⟨v, w', hr, hs⟩ := h c cs; exact ⟨v, w', hK _ _ hr, stepsIn_wide.2 hs⟩⟩
    | halt x w' => cases x <;> simp only [Oper.upon, Oper.uponIn] at h ⊢ <;> exact h
  · exact absurd h.2 hQ
theorem in_list {ops : Array Oper} (hQ : ¬ LetsOut Q) : ∀ (L : List Oper) (a : Act) (w : World), L.all plainB = true → wpList P ops Q L a w → wpListIn (Fence.wide.inRound l) n P ops Q L a w
  | [], _, _, _, h => h
  | o :: rest, a, w, hd, h => by
    simp only [List.all_cons, Bool.and_eq_true] at hd
    unfold wpList at h
    unfold wpListIn
    by_cases hw : Region.wanted o (yielded ops a.tmps) = true
    · rw [if_pos hw] at h ⊢
      exact in_oper hd.1 hQ (fun a w h => in_list hQ rest a w hd.2 h) h
    · rw [if_neg hw] at h ⊢
      exact ⟨fun _ _ => trivial, in_list hQ rest _ _ hd.2 h⟩
variable {ops : Array Oper}
/-- A region in the text's order, in a round. -/
theorem in_region_seq {id : Nat} {a0 : Act} {w : World} (qs : List Fk) (hQ : ¬ LetsOut Q) (hp : ops.toList.all plainB = true) (hk : decide (qs.length ≤ ops.size) = true) (hE : backOk ops.toList = true)
    (hD : dstsOk a0.tmps.size (ops.toList.take qs.length) = true) (hG : guardsOk ops.toList qs.length qs ops.toList qs = true)
    (hS : Steps P Q ops.toList qs.length qs a0 w ops.toList qs)
    (hF : ∀ af w', Final ops.toList qs a0 af w' → Below w.heap.size w w' → wpList P ops Q (ops.toList.drop qs.length) af w') :
    (Code.region id ops false).wpIn (Fence.wide.inRound l) n P Q a0 w :=
  wpIn_region_list (in_list hQ _ _ _ hp (wp_list_seq qs (of_decide_eq_true hk) hE hD hG hS hF qs.length 0 a0 w (by omega) ⟨rfl, rfl, fun _ _ => rfl, fun j _ _ hj => absurd hj (by omega), Below.refl _ _⟩))
end
end Go.Proofs.YtnppjlpnfijobaaDoor
namespace Go.Proofs.YtnppjlpnfijobaaDoor
set_option maxRecDepth 100000
open Go.RowKit
section
variable {Q : Exit → Act → World → Prop} {o : Oper} {a : Act} {w : World} {q : Fk} {ops : Array Oper} {rest : List Oper}
theorem st_add (x y : Operand) (ho : o.op = .binOp .add 3 x y 3) (m n e : Nat) (hx : a.eval x = .int .i64 (m : Int)) (hy : a.eval y = .int .i64 (n : Int)) (he : e = m + n) (hk : e ≤ 1000000) : o.wp Tryd.prog a w (Ends a o.dst w (Fk.eq (.int .i64 (e : Int))).f) Q := by
  refine st_pure (v := .int .i64 (e : Int)) ?_ rfl
  unfold execOp
  rw [ho]
  have hw : IntKind.i64.wrap ((m : Int) + (n : Int)) = (e : Int) := by rw [IntKind.wrap_i64]; omega
  simp [hx, hy, eqGuard, binOp, Op.intArith, hw]
theorem st_sub (x y : Operand) (ho : o.op = .binOp .sub 3 x y 3) (m n e : Nat) (hx : a.eval x = .int .i64 (m : Int)) (hy : a.eval y = .int .i64 (n : Int)) (he : e + n = m) (hk : m ≤ 1000000) : o.wp Tryd.prog a w (Ends a o.dst w (Fk.eq (.int .i64 (e : Int))).f) Q := by
  refine st_pure (v := .int .i64 (e : Int)) ?_ rfl
  unfold execOp
  rw [ho]
  have hw : IntKind.i64.wrap ((m : Int) - (n : Int)) = (e : Int) := by rw [IntKind.wrap_i64]; omega
  simp [hx, hy, eqGuard, binOp, Op.intArith, hw]
end
/-- The row G alone was turned since W0. -/
theorem only_below {g : Nat} {A B C : World} (h : Only g A B) (hb : Below A.heap.size B C) : Only g A C :=
  ⟨hb.os.trans h.os, hb.tape.trans h.tape, hb.output.trans h.output, Nat.le_trans h.size hb.size, fun k hk hg => (hb.block k hk).trans (h.block k hk hg)⟩
end Go.Proofs.YtnppjlpnfijobaaDoor
namespace Go.Proofs.YtnppjlpnfijobaaDoor
set_option maxRecDepth 100000
open Go.RowKit Go.Shelf
attribute [local go_sem] Oper.semAt_some
end Go.Proofs.YtnppjlpnfijobaaDoor
namespace Go.Proofs.YtnppjlpnfijobaaDoor
set_option maxRecDepth 100000
open Go.RowKit Go.Shelf
attribute [local go_sem] Oper.semAt_some
end Go.Proofs.YtnppjlpnfijobaaDoor
namespace Go.Proofs.YtnppjlpnfijobaaDoor
set_option maxRecDepth 100000
open Go.RowKit
end Go.Proofs.YtnppjlpnfijobaaDoor
namespace Go.Proofs.YtnppjlpnfijobaaDoor
set_option maxRecDepth 100000
open Go.RowKit
section
variable {Q : Exit → Act → World → Prop} {o : Oper} {a : Act} {w : World} {ops : Array Oper} {rest : List Oper}
end
end Go.Proofs.YtnppjlpnfijobaaDoor
namespace Go.Proofs.YtnppjlpnfijobaaDoor
set_option maxRecDepth 100000
open Go.RowKit
end Go.Proofs.YtnppjlpnfijobaaDoor
namespace Go.Proofs.YtnppjlpnfijobaaDoor
set_option maxRecDepth 100000
open Go.RowKit
section
variable {Q : Exit → Act → World → Prop} {o : Oper} {a : Act} {w : World}
end
end Go.Proofs.YtnppjlpnfijobaaDoor
namespace Go.Proofs.YtnppjlpnfijobaaDoor
set_option maxRecDepth 100000
open Go.RowKit
/-- Block b holds just these cells. -/
def Ob (w : World) (b : Nat) (T : TypeId) (cs : List Value) : Prop := w.heap[b]? = some (.cells cs.toArray T (0, 0))
theorem Ob.lt {w : World} {b : Nat} {T : TypeId} {cs : List Value} (h : Ob w b T cs) : b < w.heap.size := (Array.getElem?_eq_some_iff.1 h).1
theorem Ob.below {w w' : World} {b : Nat} {T : TypeId} {cs : List Value} (h : Ob w b T cs) (hb : Below w.heap.size w w') : Ob w' b T cs := by
  have := hb.block b h.lt
  unfold Ob at *
  rw [this]; exact h
theorem Ob.only {w w' : World} {b g : Nat} {T : TypeId} {cs : List Value} (h : Ob w b T cs) (hb : Only g w w') (hg : b ≠ g) : Ob w' b T cs := by
  have := hb.block b h.lt hg
  unfold Ob at *
  rw [this]; exact h
theorem Ob.cell {w : World} {b : Nat} {T : TypeId} {cs : List Value} (h : Ob w b T cs) (i : Nat) {v : Value} (hi : cs[i]? = some v) : w.cell? ⟨b, i, none⟩ = some v := by
  unfold Ob at h
  simp [World.cell?, h, hi]
theorem Ob.set {w : World} {b : Nat} {T : TypeId} {cs : List Value} (h : Ob w b T cs) (i : Nat) (v : Value) : Ob (w.setCell ⟨b, i, none⟩ v) b T (cs.set i v) := by
  unfold Ob at *
  simp [World.setCell, Array.getElem?_modify, h]
theorem Ob.alloc (w : World) (T : TypeId) (cs : List Value) : Ob (w.alloc (.cells cs.toArray T)) w.heap.size T cs := heap_alloc_new _ _
theorem Ob.range {w : World} {b : Nat} {T : TypeId} {cs : List Value} (h : Ob w b T cs) (o : Nat) (l : List Value) (hl : ∀ (j : Nat) (v : Value), l[j]? = some v → cs[o + j]? = some v) : w.rangeAt b o l := fun j v hj => h.cell (o + j) (hl j v hj)
theorem Ob.setRow {w : World} {b : Nat} {T : TypeId} {cs : List Value} (h : Ob w b T cs) (ds : List Value) : Ob (w.setRow b ds.toArray) b T ds := setRow_heap _ _ _ _ T (0, 0) h
theorem Ob.setRow_other {w : World} {b g : Nat} {T : TypeId} {cs : List Value} (h : Ob w b T cs) (ds : Array Value) (hne : b ≠ g) : Ob (w.setRow g ds) b T cs := by
  have := (Only.refl g w).setRow ds
  exact h.only this hne
/-- A pointer to a new block with these cells. -/
def Fk.nw (g0 : Nat) (T : TypeId) (cs : List Value) : Fk := .inr (.inl ⟨fun v w => ∃ g, g0 ≤ g ∧ v = .pointer (some ⟨g, 0, none⟩) ∧ Ob w g T cs, by
  rintro v w w' ⟨g, h, e, hv⟩ hb
  exact ⟨g, h, e, hv.below hb⟩⟩)
theorem fk_val {q : Fk} {a : Act} {x : Operand} {u : Value} {w : World} (h : a.eval x = u) (hq : q.f u w) : q.f (a.eval x) w := by rw [h]; exact hq
section
variable {P : Program} {Q : Exit → Act → World → Prop} {o : Oper} {a : Act} {w : World} {q : Fk} {ops : Array Oper} {rest : List Oper}
theorem st_pick_f' (c x y : Operand) (ho : o.op = .pick c x y) (hc : a.eval c = .bool false) (h : q.f (a.eval y) w) : o.wp P a w (Ends a o.dst w q.f) Q :=
  st_pure (v := a.eval y) (by unfold execOp; rw [ho]; simp [hc, asBool]) h
theorem st_field (T f : Nat) (x : Operand) (ho : o.op = .fieldAddr T x f) {p r : Addr} (hx : a.eval x = .pointer (some p)) (hr : (Instr.fieldAt T (.pointer (some p)) f).run P w = .ok (.pointer (some r)) w) : o.wp P a w (Ends a o.dst w (Fk.eq (.pointer (some r))).f) Q := by
  refine st_pure (v := .pointer (some r)) ?_ rfl
  unfold execOp
  rw [ho]
  simp [hx, hr]
theorem st_nil (x : Operand) (ho : o.op = .nilCheck x) {p : Addr} (hx : a.eval x = .pointer (some p)) : o.wp P a w (Ends a o.dst w (Fk.eq (.pointer (some p))).f) Q := by
  refine st_pure (v := .pointer (some p)) ?_ rfl
  unfold execOp
  rw [ho]
  simp [hx]
theorem st_loadc (T : TypeId) (x : Operand) (ho : o.op = .load T x) (h1 : (isAgg T).run P w = .ok false w) {p : Addr} {u : Value} (hx : a.eval x = .pointer (some p)) (hc : w.cell? p = some u) : o.wp P a w (Ends a o.dst w (Fk.eq u).f) Q := by
  refine st_pure (v := u) ?_ rfl
  unfold execOp
  rw [ho]
  simp [hx, Instr.loadAt, Instr.sureAddr, loadVar, h1, run_load, hc]
theorem st_build (T : TypeId) (ps : Array (Nat × Operand)) (ho : o.op = .build T ps) {u : Value} (hr : (Instr.build T (ps.map fun (i, x) => (i, a.eval x))).run P w = .ok u w) : o.wp P a w (Ends a o.dst w (Fk.eq u).f) Q := by
  refine st_pure (v := u) ?_ rfl
  unfold execOp
  rw [ho]
  simp only [hr, Sem.run_bind, Result.andThen_ok, Sem.run_pure]
theorem st_box (T : TypeId) (x : Operand) (ho : o.op = .box T x) (g0 : Nat) (cs : List Value) (hr : (Instr.box T (a.eval x)).run P w = .ok (.pointer (some ⟨w.heap.size, 0, none⟩)) (w.alloc (.cells cs.toArray T))) (hg : g0 ≤ w.heap.size) : o.wp P a w (Ends a o.dst w (Fk.nw g0 T cs).f) Q := by
  refine st_run (v := .pointer (some ⟨w.heap.size, 0, none⟩)) (w' := w.alloc (.cells cs.toArray T)) ?_ ((Below.refl _ _).alloc (Nat.le_refl _) _) ⟨_, hg, rfl, Ob.alloc _ _ _⟩
  unfold execOp
  rw [ho]
  simp [hr]
theorem st_bin (op : BinOp) (t t2 : TypeId) (x y : Operand) (ho : o.op = .binOp op t x y t2) {u v r : Value} (hx : a.eval x = u) (hy : a.eval y = v) (hr : (do eqGuard op t x y u v; binOp op t u v : Sem Value).run P w = .ok r w) : o.wp P a w (Ends a o.dst w (Fk.eq r).f) Q := by
  refine st_pure (v := r) ?_ rfl
  subst hx hy
  unfold execOp
  rw [ho]
  simp only [Sem.run_bind, hr, Result.andThen_ok, Sem.run_pure]
theorem st_geq (t : TypeId) (x y : Operand) (ho : o.op = .binOp .geq t x y t) (k : IntKind) (s u : Int) (hx : a.eval x = .int k s) (hy : a.eval y = .int k u) (b : Bool) (hb : b = decide (u ≤ s)) : o.wp P a w (Ends a o.dst w (Fk.eq (.bool b)).f) Q := by
  subst hb
  exact st_bin .geq t t x y ho hx hy (by simp [eqGuard, binOp, Op.intCmp])
/-- One step by itself. -/
theorem wl_one (q : Fk) (hgd : o.guard = none) (d : Nat) (hd : o.dst = some d) (hsz : d < a.tmps.size) (hs : o.wp P a w (Ends a o.dst w q.f) Q)
    (h : ∀ a2 w2, a2.defers = a.defers → a2.tmps.size = a.tmps.size → (∀ t, (t == d) = false → a2.eval (.tmp t) = a.eval (.tmp t)) → q.f (a2.eval (.tmp d)) w2 → Below w.heap.size w w2 → wpList P ops Q rest a2 w2) : wpList P ops Q (o :: rest) a w := by
  unfold wpList
  rw [if_pos (by unfold Region.wanted; rw [hgd])]
  refine .inl (Oper.wp_mono ?_ hs)
  rintro a' w' ⟨v, rfl, hb, hf⟩
  rw [hd]
  refine h _ _ (put_def _ _ _) (put_size _ _ _) (fun t ht => put_eval_other _ _ _ _ (fun e => by subst e; simp at ht)) ?_ hb
  rw [put_eval_same _ _ _ hsz]
  exact hf
/-- A call by itself, whatever it does. -/
theorem wl_call (f : FuncId) (x : Operand) (xs : Array Operand) (ts : Array TypeId) (vs : Array Value) (hgd : o.guard = none) (d : Nat) (hd : o.dst = some d) (hsz : d < a.tmps.size) (ho : o.op = .call { callee := .value x, args := xs, argTypes := ts }) (hx : a.eval x = .func (.func f) #[] #[]) (hv : (xs.toList.map a.eval).toArray = vs)
    (hf : ∀ args w, (callFunc f args).run P w = .ok (.enter f args) w) (R : Value → World → Prop) (hc : Calls P f vs w fun e w' => ∃ v, e = .returned v ∧ R v w')
    (h : ∀ a2 w2, a2.defers = a.defers → a2.tmps.size = a.tmps.size → (∀ t, (t == d) = false → a2.eval (.tmp t) = a.eval (.tmp t)) → R (a2.eval (.tmp d)) w2 → wpList P ops Q rest a2 w2) : wpList P ops Q (o :: rest) a w := by
  have hr : (execOp a.eval o).run P w = .ok (.enter f vs) w := by
    have hv' : xs.map a.eval = vs := by rw [← hv]; apply Array.toList_inj.1; simp
    unfold execOp; rw [ho]
    simp [resolve, hx, Deferred.ofValue, invoke, hv', hf]
  unfold wpList
  rw [if_pos (by unfold Region.wanted; rw [hgd])]
  refine .inl ?_
  unfold Oper.wp; rw [hr]
  refine Calls.mono hc ?_
  rintro e w' ⟨v, rfl, h1⟩
  rw [hd]
  refine h _ _ (put_def _ _ _) (put_size _ _ _) (fun t ht => put_eval_other _ _ _ _ (fun e => by subst e; simp at ht)) ?_
  rw [put_eval_same _ _ _ hsz]
  exact h1
/-- A store of one cell. -/
theorem wl_stc (T : TypeId) (hgd : o.guard = none) (x y : Operand) (ho : o.op = .store T x y) (hd : o.dst = none) (h1 : (sizeOf T).run P w = .ok 1 w) (b i : Nat) (v : Value) (hx : a.eval x = .pointer (some ⟨b, i, none⟩)) (hy : a.eval y = v) (hv : v.oneCell' = true) (hv2 : v.cells = #[v]) (ht : w.there b i 1)
    (h : wpList P ops Q rest a (w.setCell ⟨b, i, none⟩ v)) : wpList P ops Q (o :: rest) a w := by
  unfold wpList
  rw [if_pos (by unfold Region.wanted; rw [hgd])]
  refine .inl ?_
  have hs := run_storeCells_cells (P := P) b i [v] 0 w (fun j hj => by simpa using (ht j (by simpa using hj)).1) (fun j hj => by simpa using (ht j (by simpa using hj)).2) (fun u hu => by rw [List.mem_singleton.1 hu]; exact hv)
  have hr : (execOp a.eval o).run P w = .ok .skip (w.setCell ⟨b, i, none⟩ v) := by
    unfold execOp
    rw [ho]
    simp [hx, hy, Instr.storeAt, Instr.sureAddr, storeVar, h1, hv2]
    rw [hs]
    rfl
  unfold Oper.wp
  rw [hr]
  unfold Oper.upon
  rw [hd]
  exact h
end
end Go.Proofs.YtnppjlpnfijobaaDoor
namespace Go.Proofs.YtnppjlpnfijobaaDoor
set_option maxRecDepth 100000
open Go.RowKit
theorem Tryd.enter7 (args : Array Value) (w : World) : (callFunc 7 args).run Tryd.prog w = .ok (.enter 7 args) w := by kernel_rfl
theorem Tryd.enter8 (args : Array Value) (w : World) : (callFunc 8 args).run Tryd.prog w = .ok (.enter 8 args) w := by kernel_rfl
theorem Tryd.enter9 (args : Array Value) (w : World) : (callFunc 9 args).run Tryd.prog w = .ok (.enter 9 args) w := by kernel_rfl
theorem Tryd.enter12 (args : Array Value) (w : World) : (callFunc 12 args).run Tryd.prog w = .ok (.enter 12 args) w := by kernel_rfl
theorem Tryd.enter14 (args : Array Value) (w : World) : (callFunc 14 args).run Tryd.prog w = .ok (.enter 14 args) w := by kernel_rfl
theorem Tryd.enter15 (args : Array Value) (w : World) : (callFunc 15 args).run Tryd.prog w = .ok (.enter 15 args) w := by kernel_rfl
theorem Tryd.enter17 (args : Array Value) (w : World) : (callFunc 17 args).run Tryd.prog w = .ok (.enter 17 args) w := by kernel_rfl
theorem Tryd.enter18 (args : Array Value) (w : World) : (callFunc 18 args).run Tryd.prog w = .ok (.enter 18 args) w := by kernel_rfl
theorem Tryd.enter19 (args : Array Value) (w : World) : (callFunc 19 args).run Tryd.prog w = .ok (.enter 19 args) w := by kernel_rfl
theorem Tryd.enter22 (args : Array Value) (w : World) : (callFunc 22 args).run Tryd.prog w = .ok (.enter 22 args) w := by kernel_rfl
theorem Tryd.enter23 (args : Array Value) (w : World) : (callFunc 23 args).run Tryd.prog w = .ok (.enter 23 args) w := by kernel_rfl
theorem Tryd.enter26 (args : Array Value) (w : World) : (callFunc 26 args).run Tryd.prog w = .ok (.enter 26 args) w := by kernel_rfl
theorem Tryd.enter27 (args : Array Value) (w : World) : (callFunc 27 args).run Tryd.prog w = .ok (.enter 27 args) w := by kernel_rfl
theorem Tryd.enter31 (args : Array Value) (w : World) : (callFunc 31 args).run Tryd.prog w = .ok (.enter 31 args) w := by kernel_rfl
theorem Tryd.enter32 (args : Array Value) (w : World) : (callFunc 32 args).run Tryd.prog w = .ok (.enter 32 args) w := by kernel_rfl
theorem Tryd.enter33 (args : Array Value) (w : World) : (callFunc 33 args).run Tryd.prog w = .ok (.enter 33 args) w := by kernel_rfl
theorem Tryd.enter34 (args : Array Value) (w : World) : (callFunc 34 args).run Tryd.prog w = .ok (.enter 34 args) w := by kernel_rfl
theorem Tryd.enter35 (args : Array Value) (w : World) : (callFunc 35 args).run Tryd.prog w = .ok (.enter 35 args) w := by kernel_rfl
theorem Tryd.enter36 (args : Array Value) (w : World) : (callFunc 36 args).run Tryd.prog w = .ok (.enter 36 args) w := by kernel_rfl
theorem Tryd.enter37 (args : Array Value) (w : World) : (callFunc 37 args).run Tryd.prog w = .ok (.enter 37 args) w := by kernel_rfl
theorem Tryd.enter38 (args : Array Value) (w : World) : (callFunc 38 args).run Tryd.prog w = .ok (.enter 38 args) w := by kernel_rfl
theorem Tryd.enter41 (args : Array Value) (w : World) : (callFunc 41 args).run Tryd.prog w = .ok (.enter 41 args) w := by kernel_rfl
theorem Tryd.enter46 (args : Array Value) (w : World) : (callFunc 46 args).run Tryd.prog w = .ok (.enter 46 args) w := by kernel_rfl
theorem Tryd.enter53 (args : Array Value) (w : World) : (callFunc 53 args).run Tryd.prog w = .ok (.enter 53 args) w := by kernel_rfl
theorem Tryd.enter58 (args : Array Value) (w : World) : (callFunc 58 args).run Tryd.prog w = .ok (.enter 58 args) w := by kernel_rfl
theorem Tryd.enter63 (args : Array Value) (w : World) : (callFunc 63 args).run Tryd.prog w = .ok (.enter 63 args) w := by kernel_rfl
theorem Tryd.enter66 (args : Array Value) (w : World) : (callFunc 66 args).run Tryd.prog w = .ok (.enter 66 args) w := by kernel_rfl
theorem Ob.there {w : World} {b : Nat} {T : TypeId} {cs : List Value} (h : Ob w b T cs) (i : Nat) (hi : i < cs.length) : w.there b i 1 := by
  intro j hj
  obtain rfl : j = 0 := by omega
  refine ⟨?_, frozen_of_row w b (i + 0) _ T h⟩
  rw [h.cell (i + 0) (List.getElem?_eq_getElem (by simpa using hi))]
  rfl
theorem Ob.setCell_other {w : World} {b g : Nat} {T : TypeId} {cs : List Value} (h : Ob w b T cs) (i : Nat) (v : Value) (hne : b ≠ g) : Ob (w.setCell ⟨g, i, none⟩ v) b T cs := h.only ((Only.refl g w).setCell i v) hne
theorem Ob.bytes {w : World} {b : Nat} {T : TypeId} {xs : List (BitVec 8)} {cs : List Value} (h : Ob w b T (xs.map V ++ cs)) : HasB w b 0 xs := fun i hi => by
  rw [h.cell (0 + i) (v := V (xs.getD i 0)) ?_]
  · rfl
  · rw [Nat.zero_add, List.getElem?_append_left (by simpa using hi), List.getElem?_map, List.getElem?_eq_getElem hi]
    simp [List.getD_eq_getElem?_getD, hi]
/-- A tuple of something and a value. -/
def Fk.t2 (q : Fk) (n : Value) : Fk := .inr (.inl ⟨fun v w => ∃ u, v = .tuple #[u, n] ∧ q.f u w, by
  rintro v w w' ⟨u, e, h⟩ hb
  exact ⟨u, e, Fk.mono _ _ _ _ h hb⟩⟩)
section
variable {Q : Exit → Act → World → Prop} {o : Oper} {a : Act} {w : World} {q : Fk}
theorem st_t2a (x : Operand) (ho : o.op = .extract x 0) {n : Value} (h : (Fk.t2 q n).f (a.eval x) w) : o.wp Tryd.prog a w (Ends a o.dst w q.f) Q := by
  obtain ⟨u, e, hu⟩ := h
  exact st_ext0 x ho e hu
theorem st_t2b (x : Operand) (ho : o.op = .extract x 1) {n : Value} (h : (Fk.t2 q n).f (a.eval x) w) : o.wp Tryd.prog a w (Ends a o.dst w (Fk.eq n).f) Q := by
  obtain ⟨u, e, hu⟩ := h
  exact st_ext1 x ho e rfl
theorem Tryd.elem39b : Tryd.prog.elem 39 = 5 := by kernel_rfl
theorem st_lenb (x : Operand) (ho : o.op = .call { callee := .builtin .len, args := #[x], argTypes := #[39] }) {bs : List (BitVec 8)} (h : (Fk.sl bs).f (a.eval x) w) : o.wp Tryd.prog a w (Ends a o.dst w (Fk.eq (.int .i64 (bs.length : Int))).f) Q := by
  obtain ⟨sp, m, c, b, so, e, hs⟩ := h
  refine st_pure (v := .int .i64 (bs.length : Int)) ?_ rfl
  have h1 := run_len_slice (P := Tryd.prog) (w := w) 39 o.type sp m c (by rw [Tryd.elem39b]; exact Tryd.under39)
  rw [hs.len] at h1 e
  unfold execOp
  simp [ho, resolve, invoke, builtin, e, h1, goInt]
end
theorem ret_two {fn : Func} {t u : Tmp} (h : fn.results = #[.tmp t, .tmp u]) (a : Act) (x y : Value) (ht : a.eval (.tmp t) = x) (hu : a.eval (.tmp u) = y) (P : Program) (w : World) : (results fn a.tmps).run P w = .ok (.tuple #[x, y]) w := by
  have h1 : a.tmps.getD t undef = x := ht
  have h2 : a.tmps.getD u undef = y := hu
  rw [← h1, ← h2]
  simp [results, h]
end Go.Proofs.YtnppjlpnfijobaaDoor
namespace Go.Proofs.YtnppjlpnfijobaaDoor
set_option maxRecDepth 100000
open Go.RowKit
end Go.Proofs.YtnppjlpnfijobaaDoor
namespace Go.Proofs.YtnppjlpnfijobaaDoor
set_option maxRecDepth 100000
open Go.RowKit
set_option maxHeartbeats 400000 in
theorem node_any (xs ys : List (BitVec 8)) (w : World) (hx : xs.length = 32) (hy : ys.length = 32) (hK : Tab w) :
    Calls Tryd.prog 22 #[.agg (xs.map V).toArray, .agg (ys.map V).toArray] w fun e w' => e = .returned (.agg ((shaOf (kb 1 :: (xs ++ ys))).map V).toArray) ∧ Below w.heap.size w w' := by
  have hl : Box (((shaOf (kb 1 :: (xs ++ ys))).map V).toArray.size = 32) := ⟨by simp [shaOf_len]⟩
  obtain ⟨hh, hS⟩ : ∃ hh, Box (shaOf (kb 1 :: (xs ++ ys)) = hh) := ⟨_, ⟨rfl⟩⟩
  rw [hS.out] at hl ⊢
  go_enter Tryd.func22, Tryd.ntmps22
  go_upto_region 1 with fail
  refine code_any (fun w1 => HasV w1 w.heap.size 33 xs ∧ HasV w1 (w.heap.size + 1) 33 ys ∧ HasV w1 (w.heap.size + 1 + 1) 33 (hsh St.first 0) ∧ Below w.heap.size w w1) ?_ ?_
  · refine ⟨?_, ?_, heap_alloc3_new _ _ _ _, (((Below.refl _ _).alloc (Nat.le_refl _) _).alloc (by simp) _).alloc (by simp; omega) _⟩
    · exact HasV.alloc (heap_alloc2_old _ _ _) _
    · exact HasV.alloc (heap_alloc2_new _ _ _) _
  rintro w1 ⟨hv1, hv2, hv3, hb1⟩
  have hT1 : Tab w1 := hK.below hb1
  refine wp_region_end [.sl xs, .sl ys, .ls 2 (xs ++ ys), .eq (.agg (hh.map V).toArray)] Tryd.mixed (by kernel_rfl) (by kernel_rfl) (by kernel_rfl) (by kernel_rfl) ⟨fun _ a w' K => ?_, fun _ a w' K => ?_, fun _ a w' K => ?_, fun _ a w' K => ?_, trivial⟩ ?_
  · exact st_slice33 (.tmp 2) rfl _ _ xs (K.old 2 rfl) hx (hv1.below K.grow hv1.lt).lt (hv1.below K.grow hv1.lt).bytes
  · exact st_slice33 (.tmp 3) rfl _ _ ys (K.old 3 rfl) hy (hv2.below K.grow hv2.lt).lt (hv2.below K.grow hv2.lt).bytes
  · exact st_build2 (.tmp 5) (.tmp 6) rfl (K.dep 0 5 rfl) (K.dep 1 6 rfl)
  · rw [← hS.out]
    exact st_call 40 (.func 40) _ _ #[.int .i64 1, a.eval (.tmp 7)] rfl rfl rfl Tryd.enter40 (fk_tsum 1 (by simp; omega) (by omega) (hT1.below K.grow) (K.dep 2 7 rfl))
  · intro af w4 fin hb4
    have e3 : af.eval (.tmp 8) = .agg (hh.map V).toArray := fin.has 3 8 rfl
    have hv5 : w4.heap[w.heap.size + 1 + 1]? = some (.cells ((hsh St.first 0).map V).toArray 33 (0, 0)) := hv3.below hb4 hv3.lt
    have hb6 : Below w.heap.size w w4 := hb1.trans (hb4.mono hb1.size)
    refine wpList_store_row rfl 33 (.tmp 4) (.tmp 8) rfl (w.heap.size + 1 + 1) (hh.map V).toArray (fin.old 4 rfl) e3 33 _ hv5 (by rw [hl.out]; exact Tryd.size33) (by rw [hl.out]; rfl) (V_all _) ?_
    go_wp2
    refine bodyPost_ret (v := .agg (hh.map V).toArray) ?_ fin.defs ⟨rfl, ?_⟩
    · exact results_cell_row (P := Tryd.prog) (fn := Tryd.f22) (p := 4) (ty := 33) rfl _ _ (w.heap.size + 1 + 1) 33 _ (0, 0) _ (fin.old 4 rfl) (setRow_heap _ _ _ _ 33 (0, 0) hv5) Tryd.under33 rfl (by rw [hl.out]; exact Tryd.size33)
    · exact hb6.trans (below_setRow _ _ _ _ (by omega))
end Go.Proofs.YtnppjlpnfijobaaDoor
namespace Go.Proofs.YtnppjlpnfijobaaDoor
set_option maxRecDepth 100000
open Go.RowKit
def nd (xs ys : List (BitVec 8)) : List (BitVec 8) := shaOf (kb 1 :: (xs ++ ys))
def ms (bs : List (BitVec 8)) : List (BitVec 8) := shaOf (kb 5 :: bs)
theorem nd_len (xs ys : List (BitVec 8)) : (nd xs ys).length = 32 := shaOf_len _
theorem fk_node {xs ys : List (BitVec 8)} {w : World} (hx : xs.length = 32) (hl : ys.length = 32) (hK : Tab w) {y : List (BitVec 8)} (hy : Box (nd xs ys = y)) :
    Calls Tryd.prog 22 #[.agg (xs.map V).toArray, .agg (ys.map V).toArray] w fun e w' => ∃ u, e = .returned u ∧ (Fk.eq (.agg (y.map V).toArray)).f u w' ∧ Below w.heap.size w w' := by
  rw [← hy.out]
  exact fk_of (node_any xs ys w hx hl hK)
/-- Hashes in new memory. -/
def Fk.hn (g0 : Nat) (hs : List (List (BitVec 8))) : Fk := .inr (.inl ⟨fun v w => ∃ A C lb lo, v = .slice A hs.length C ∧ g0 ≤ lb ∧ Hl w A lb lo hs, by
  rintro v w w' ⟨A, C, lb, lo, e, hg, h⟩ hb
  exact ⟨A, C, lb, lo, e, hg, h.below hb⟩⟩)
section
variable {Q : Exit → Act → World → Prop} {o : Oper} {a : Act} {w : World} {ops : Array Oper} {rest : List Oper}
end
theorem ret_hash {fn : Func} {p : Tmp} (h : fn.results = #[.cell p 33]) (a : Act) (w : World) (g : Nat) (xs : List (BitVec 8)) (hl : xs.length = 32) (hp : a.eval (.tmp p) = .pointer (some ⟨g, 0, none⟩)) (m : Ob w g 33 (xs.map V)) : (results fn a.tmps).run Tryd.prog w = .ok (.agg (xs.map V).toArray) w :=
  results_cell_row (P := Tryd.prog) (fn := fn) (p := p) (ty := 33) h _ _ g 33 _ (0, 0) _ hp m Tryd.under33 rfl (by rw [List.size_toArray, List.length_map, hl]; exact Tryd.size33)
end Go.Proofs.YtnppjlpnfijobaaDoor
namespace Go.Proofs.YtnppjlpnfijobaaDoor
set_option maxRecDepth 100000
open Go.RowKit
/-- A slice that has these hashes, and room for them. -/
def Fk.hc (hs : List (List (BitVec 8))) : Fk := .inr (.inl ⟨fun v w => ∃ A C lb lo, v = .slice A hs.length C ∧ hs.length ≤ C ∧ Hl w A lb lo hs, by
  rintro v w w' ⟨A, C, lb, lo, e, hg, h⟩ hb
  exact ⟨A, C, lb, lo, e, hg, h.below hb⟩⟩)
theorem hc_hs {hs : List (List (BitVec 8))} {v : Value} {w : World} (h : (Fk.hc hs).f v w) : (Fk.hs hs).f v w := by
  obtain ⟨A, C, lb, lo, e, _, hl⟩ := h
  exact ⟨A, C, lb, lo, e, hl⟩
theorem ow_hc {base : Nat} {hs : List (List (BitVec 8))} {v : Value} {w : World} (h : (Fk.ow base hs).f v w) : (Fk.hc hs).f v w := by
  obtain ⟨A, C, lb, lo, e, hl⟩ := ow_hs h
  refine ⟨A, C, lb, lo, e, ?_, hl⟩
  obtain ⟨⟨h1, h2⟩, h3⟩ := h
  rcases h2 with ⟨h4, hn⟩ | ⟨g, cap, cur, h4, hbg, hg, hnc, _⟩
  · rw [hn]; exact Nat.zero_le _
  · rw [e] at h4
    cases h4
    exact hnc
theorem ow_le {g0 g1 : Nat} (hg : g1 ≤ g0) {hs : List (List (BitVec 8))} {v : Value} {w : World} (h : (Fk.ow g0 hs).f v w) : (Fk.ow g1 hs).f v w := by
  obtain ⟨⟨h1, h2⟩, h3⟩ := h
  refine ⟨⟨h1, ?_⟩, h3⟩
  rcases h2 with h2 | ⟨g, cap, cur, e, hbg, r⟩
  · exact .inl h2
  · exact .inr ⟨g, cap, cur, e, Nat.le_trans hg hbg, r⟩
theorem fk_ow {f : FuncId} {args : Array Value} {w : World} {g0 : Nat} {S : List (List (BitVec 8))} (hg : g0 ≤ w.heap.size) (h : Calls Tryd.prog f args w fun e w' => ∃ u, e = .returned u ∧ (Fk.ow w.heap.size S).f u w' ∧ Below w.heap.size w w') :
    Calls Tryd.prog f args w fun e w' => ∃ u, e = .returned u ∧ (Fk.ow g0 S).f u w' ∧ Below w.heap.size w w' := by
  refine h.mono ?_
  rintro e w' ⟨u, rfl, h1, h3⟩
  exact ⟨u, rfl, ow_le hg h1, h3⟩
section
variable {Q : Exit → Act → World → Prop} {o : Oper} {a : Act} {w : World}
theorem st_cuth (x y : Operand) (ho : o.op = .slice 22 x none (some y) none) {hs : List (List (BitVec 8))} (h : (Fk.hc hs).f (a.eval x) w) (n : Nat) (hy : a.eval y = .int .i64 (n : Int)) (hn : n ≤ hs.length) : o.wp Tryd.prog a w (Ends a o.dst w (Fk.hc (hs.take n)).f) Q := by
  obtain ⟨A, C, lb, lo, e, hc, hl⟩ := h
  refine st_pure (v := sliced A 0 n C 32) ?_ ⟨if C = 0 then A else A.map (·.add (0 * 32)), C, lb, lo, ?_, ?_, fun hp => ?_, fun hp => ?_, fun i x hi => ?_⟩
  · have h1 := run_slice_h (P := Tryd.prog) (w := w) 22 A hs.length C (by rw [Tryd.elem22]; exact Tryd.under22') .i64 (n : Int) (by omega) (by omega)
    rw [Tryd.elem22, Tryd.sizeOf33] at h1
    simp only [Result.andThen_ok, Int.toNat_natCast] at h1
    have h2 := run_sliceAt_slice (P := Tryd.prog) (w := w) 22 (.slice A hs.length C) none (some (.int .i64 (n : Int))) none (by rw [Tryd.elem22]; exact Tryd.under22')
    unfold execOp
    rw [ho]
    simp [e, hy, h2, h1]
  · simp only [sliced, List.length_take, Nat.sub_zero, Nat.min_eq_left hn]
  · rw [List.length_take]; omega
  · rw [List.length_take] at hp
    rw [if_neg (by omega), hl.ptr (by omega)]
    simp [Addr.add_mid]
  · rw [List.length_take] at hp
    exact hl.lt (by omega)
  · rw [List.getElem?_take] at hi
    split at hi
    · exact hl.all i x hi
    · cases hi
theorem st_restc (x y : Operand) (ho : o.op = .slice 22 x (some y) none none) {hs : List (List (BitVec 8))} (h : (Fk.hc hs).f (a.eval x) w) (n : Nat) (hy : a.eval y = .int .i64 (n : Int)) (hn : n ≤ hs.length) : o.wp Tryd.prog a w (Ends a o.dst w (Fk.hc (hs.drop n)).f) Q := by
  obtain ⟨A, C, lb, lo, e, hc, hl⟩ := h
  refine st_pure (v := sliced A n hs.length C 32) ?_ ⟨if C = n then A else A.map (·.add (n * 32)), C - n, lb, lo + n * 32, ?_, ?_, fun hp => ?_, fun hp => ?_, fun i x hi => ?_⟩
  · have h1 := run_slice_l (P := Tryd.prog) (w := w) 22 A hs.length C (by rw [Tryd.elem22]; exact Tryd.under22') .i64 (n : Int) (by omega) (by omega)
    rw [Tryd.elem22, Tryd.sizeOf33] at h1
    simp only [Result.andThen_ok, Int.toNat_natCast] at h1
    have h2 := run_sliceAt_slice (P := Tryd.prog) (w := w) 22 (.slice A hs.length C) (some (.int .i64 (n : Int))) none none (by rw [Tryd.elem22]; exact Tryd.under22')
    unfold execOp
    rw [ho]
    simp [e, hy, h2, h1]
  · simp only [sliced, List.length_drop]
  · rw [List.length_drop]; omega
  · rw [List.length_drop] at hp
    rw [if_neg (by omega), hl.ptr (by omega)]
    simp [Addr.add_mid]
  · rw [List.length_drop] at hp
    exact hl.lt (by omega)
  · rw [List.getElem?_drop] at hi
    have := hl.all (n + i) x hi
    rw [Nat.add_mul, ← Nat.add_assoc] at this
    exact this
theorem st_lenc (x : Operand) (ho : o.op = .call { callee := .builtin .len, args := #[x], argTypes := #[22] }) {hs : List (List (BitVec 8))} (n : Nat) (hn : hs.length = n) (h : (Fk.hc hs).f (a.eval x) w) : o.wp Tryd.prog a w (Ends a o.dst w (Fk.eq (.int .i64 ((n : Nat) : Int))).f) Q := by
  subst hn
  exact st_lenh x ho (hc_hs h)
end
end Go.Proofs.YtnppjlpnfijobaaDoor
namespace Go.Proofs.YtnppjlpnfijobaaDoor
set_option maxRecDepth 100000
end Go.Proofs.YtnppjlpnfijobaaDoor
namespace Go.Proofs.YtnppjlpnfijobaaDoor
set_option maxRecDepth 100000
open Go.RowKit
/-- The hash that j joins have made. -/
def gw (hs : List (List (BitVec 8))) (h : List (BitVec 8)) : Nat → List (BitVec 8)
  | 0 => h
  | j + 1 => nd (hs.getD (hs.length - j - 1) []) (gw hs h j)
theorem gw_len (hs : List (List (BitVec 8))) {h : List (BitVec 8)} (hh : h.length = 32) (j : Nat) : (gw hs h j).length = 32 := by
  cases j with
  | zero => exact hh
  | succ j => exact nd_len _ _
theorem gw_succ {hs : List (List (BitVec 8))} (h : List (BitVec 8)) {j : Nat} {p : List (BitVec 8)} (hp : hs[hs.length - j - 1]? = some p) : nd p (gw hs h j) = gw hs h (j + 1) := by
  show _ = nd (hs.getD (hs.length - j - 1) []) (gw hs h j)
  rw [List.getD_eq_getElem?_getD, hp]
  rfl
/-- The hash that k joins from the last one back have made. -/
def jn (P : List (List (BitVec 8))) : Nat → List (BitVec 8)
  | 0 => P.getD (P.length - 1) []
  | k + 1 => nd (P.getD (P.length - 1 - 1 - k) []) (jn P k)
theorem jn_len {P : List (List (BitVec 8))} (h1 : 1 ≤ P.length) (h32 : ∀ x ∈ P, x.length = 32) (k : Nat) : (jn P k).length = 32 := by
  cases k with
  | zero =>
    show (P.getD (P.length - 1) []).length = 32
    rw [List.getD_eq_getElem?_getD, List.getElem?_eq_getElem (by omega)]
    exact h32 _ (List.getElem_mem _)
  | succ k => exact nd_len _ _
theorem getD_take {P : List (List (BitVec 8))} {n i : Nat} (h : i < n) : (P.take n).getD i [] = P.getD i [] := by
  rw [List.getD_eq_getElem?_getD, List.getD_eq_getElem?_getD, List.getElem?_take, if_pos h]
/-- How many peaks so many leaves have. -/
def pcn (n : Nat) : Nat := if _h : n = 0 then 0 else n % 2 + pcn (n / 2)
termination_by n
theorem pcn_zero : pcn 0 = 0 := by rw [pcn]; simp
theorem pcn_pos {n : Nat} (h : n ≠ 0) : pcn n = n % 2 + pcn (n / 2) := by rw [pcn, dif_neg h]
theorem pcn_all (n : Nat) : pcn n = n % 2 + pcn (n / 2) := by
  by_cases h : n = 0
  · subst h; rw [show 0 / 2 = 0 from rfl, pcn_zero]
  · exact pcn_pos h
/-- How many ones stand at a number's end. -/
def tro (n : Nat) : Nat := if _h : n % 2 = 1 then tro (n / 2) + 1 else 0
termination_by n
theorem tro_odd {n : Nat} (h : n % 2 = 1) : tro n = tro (n / 2) + 1 := by rw [tro, dif_pos h]
theorem tro_even {n : Nat} (h : ¬ n % 2 = 1) : tro n = 0 := by rw [tro, dif_neg h]
/-- One leaf more: the peaks of the ones at the end are joined to it. -/
theorem pcn_succ (n : Nat) : pcn (n + 1) + tro n = pcn n + 1 := by
  induction n using Nat.strongRecOn with
  | ind n ih =>
    by_cases h : n % 2 = 1
    · have e1 := pcn_all (n + 1)
      have e2 := pcn_all n
      have e3 := tro_odd h
      have := ih (n / 2) (by omega)
      rw [show (n + 1) / 2 = n / 2 + 1 by omega, show (n + 1) % 2 = 0 by omega] at e1
      omega
    · have e1 := pcn_all (n + 1)
      have e2 := pcn_all n
      rw [show (n + 1) / 2 = n / 2 by omega, show (n + 1) % 2 = 1 by omega] at e1
      rw [tro_even h]
      omega
theorem tro_le (n : Nat) : tro n ≤ pcn n := by
  induction n using Nat.strongRecOn with
  | ind n ih =>
    by_cases h : n % 2 = 1
    · have := ih (n / 2) (by omega)
      rw [tro_odd h, pcn_all n]
      omega
    · rw [tro_even h]; exact Nat.zero_le _
theorem pcn_log (j : Nat) : ∀ n, n < 2 ^ j → pcn n ≤ j := by
  induction j with
  | zero =>
    intro n h
    obtain rfl : n = 0 := by simpa using h
    rw [pcn_zero]; exact Nat.le_refl _
  | succ j ih =>
    intro n h
    have := ih (n / 2) (by rw [Nat.pow_succ] at h; omega)
    rw [pcn_all n]
    omega
/-- One leaf more. -/
def gr1 (s : Nat × List (List (BitVec 8))) (h : List (BitVec 8)) : Nat × List (List (BitVec 8)) := (s.1 + 1, s.2.take (s.2.length - tro s.1) ++ [gw s.2 h (tro s.1)])
def grl (s : Nat × List (List (BitVec 8))) (l : List (List (BitVec 8))) : Nat × List (List (BitVec 8)) := l.foldl gr1 s
theorem grl_cons (s : Nat × List (List (BitVec 8))) (x : List (BitVec 8)) (l : List (List (BitVec 8))) : grl s (x :: l) = grl (gr1 s x) l := rfl
theorem grl_append (s : Nat × List (List (BitVec 8))) (l m : List (List (BitVec 8))) : grl s (l ++ m) = grl (grl s l) m := List.foldl_append
theorem grl_take (s : Nat × List (List (BitVec 8))) {l : List (List (BitVec 8))} {k : Nat} {x : List (BitVec 8)} (h : l[k]? = some x) : grl s (l.take (k + 1)) = gr1 (grl s (l.take k)) x := by
  rw [List.take_add_one, h, grl_append]
  rfl
theorem grl_fst (s : Nat × List (List (BitVec 8))) (l : List (List (BitVec 8))) : (grl s l).1 = s.1 + l.length := by
  induction l generalizing s with
  | nil => rfl
  | cons x l ih =>
    rw [grl_cons, ih]
    show s.1 + 1 + l.length = s.1 + (l.length + 1)
    omega
/-- As many peaks as so many leaves have stay as many. -/
theorem gr1_pcn {s : Nat × List (List (BitVec 8))} (h : s.2.length = pcn s.1) (x : List (BitVec 8)) : (gr1 s x).2.length = pcn (gr1 s x).1 := by
  have h1 := pcn_succ s.1
  have h2 := tro_le s.1
  show (s.2.take (s.2.length - tro s.1) ++ [gw s.2 x (tro s.1)]).length = pcn (s.1 + 1)
  rw [List.length_append, List.length_take, List.length_singleton]
  omega
end Go.Proofs.YtnppjlpnfijobaaDoor
namespace Go.Proofs.YtnppjlpnfijobaaDoor
set_option maxRecDepth 100000
open Go.RowKit
theorem Tryd.under72 : Tryd.prog.underlying 72 = some (.int .u64) := by kernel_rfl
theorem Tryd.under80 : Tryd.prog.underlying 80 = some (.int .u64) := by kernel_rfl
section
variable {Q : Exit → Act → World → Prop} {o : Oper} {a : Act} {w : World}
theorem st_conv (t1 t2 : TypeId) (x : Operand) (ho : o.op = .convert t1 t2 x) (k1 k2 : IntKind) (z z2 : Int) (hx : a.eval x = .int k1 z) (h1 : Tryd.prog.underlying t1 = some (.int k1)) (h2 : Tryd.prog.underlying t2 = some (.int k2)) (hw : k2.wrap z = z2) : o.wp Tryd.prog a w (Ends a o.dst w (Fk.eq (.int k2 z2)).f) Q := by
  refine st_pure (v := .int k2 z2) ?_ rfl
  unfold execOp
  rw [ho]
  simp [hx, convert, run_underlying h1, run_underlying h2, Conv.intToInt, hw]
theorem st_shru (t t2 : TypeId) (x y : Operand) (ho : o.op = .binOp .shr t x y t2) (m k : Nat) (hx : a.eval x = .int .u64 (m : Int)) (hy : a.eval y = .int .u64 (k : Int)) (e : Nat) (he : e = m / 2 ^ k) (hk : k ≤ 63) : o.wp Tryd.prog a w (Ends a o.dst w (Fk.eq (.int .u64 (e : Int))).f) Q := by
  refine st_bin .shr t t2 x y ho hx hy ?_
  have hw : (m : Int) / 2 ^ k = (e : Int) := by rw [he]; simp
  simp [eqGuard, binOp, hw]
  try omega
end
end Go.Proofs.YtnppjlpnfijobaaDoor
namespace Go.Proofs.YtnppjlpnfijobaaDoor
set_option maxRecDepth 100000
open Go.RowKit
section
variable {Q : Exit → Act → World → Prop} {o : Oper} {a : Act} {w : World}
theorem st_addz (x y : Operand) (ho : o.op = .binOp .add 3 x y 3) (m n e : Int) (hx : a.eval x = .int .i64 m) (hy : a.eval y = .int .i64 n) (he : e = m + n) (h1 : -9223372036854775808 ≤ e) (h2 : e ≤ 9223372036854775807) : o.wp Tryd.prog a w (Ends a o.dst w (Fk.eq (.int .i64 e)).f) Q := by
  refine st_bin .add 3 3 x y ho hx hy ?_
  have hw : IntKind.i64.wrap (m + n) = e := by rw [IntKind.wrap_i64]; omega
  simp [eqGuard, binOp, Op.intArith, hw]
theorem st_subz (x y : Operand) (ho : o.op = .binOp .sub 3 x y 3) (m n e : Int) (hx : a.eval x = .int .i64 m) (hy : a.eval y = .int .i64 n) (he : e = m - n) (h1 : -9223372036854775808 ≤ e) (h2 : e ≤ 9223372036854775807) : o.wp Tryd.prog a w (Ends a o.dst w (Fk.eq (.int .i64 e)).f) Q := by
  refine st_bin .sub 3 3 x y ho hx hy ?_
  have hw : IntKind.i64.wrap (m - n) = e := by rw [IntKind.wrap_i64]; omega
  simp [eqGuard, binOp, Op.intArith, hw]
end
end Go.Proofs.YtnppjlpnfijobaaDoor
namespace Go.Proofs.YtnppjlpnfijobaaDoor
set_option maxRecDepth 100000
open Go.RowKit
/-- A slice of the call's own: n things of a type, of so many cells each. -/
def Fk.orw (base T sz n : Nat) (cs : List Value) : Fk := .inr (.inl ⟨fun v w => w.ownsRow base T sz v n cs, by
  rintro v w w' ⟨h1, h2⟩ hb
  refine ⟨h1, ?_⟩
  rcases h2 with h2 | ⟨g, cap, cur, e, hbg, hg, r⟩
  · exact .inl h2
  · exact .inr ⟨g, cap, cur, e, hbg, by rw [hb.block g (Array.getElem?_eq_some_iff.1 hg).1]; exact hg, r⟩⟩)
/-- A slice that may be read: n things, of so many cells each. -/
def Fk.rdw (sz n : Nat) (cs : List Value) : Fk := .inr (.inl ⟨fun v w => ∃ A C lb lo, v = .slice A n C ∧ (0 < n → A = some ⟨lb, lo, none⟩) ∧ cs.length = n * sz ∧ w.rangeAt lb lo cs, by
  rintro v w w' ⟨A, C, lb, lo, e, h1, h2, h3⟩ hb
  exact ⟨A, C, lb, lo, e, h1, h2, fun j u hj => by have := h3 j u hj; rw [hb.cell (block_lt_of_cell this)]; exact this⟩⟩)
section
variable {Q : Exit → Act → World → Prop} {o : Oper} {a : Act} {w : World} {ops : Array Oper} {rest : List Oper}
end
/-- Numbers in cells. -/
def zv (ds : List Int) : List Value := ds.map fun z => .int .i64 z
/-- Pairs of numbers in cells. -/
def pv2 (ps : List (Nat × Nat)) : List Value := ps.flatMap fun p => [.int .i64 (p.1 : Int), .int .i64 (p.2 : Int)]
def Fk.is (ds : List Int) : Fk := Fk.rdw 1 ds.length (zv ds)
/-- Pairs of the call's own; to be read. -/
def Fk.op (base : Nat) (ps : List (Nat × Nat)) : Fk := Fk.orw base 31 2 ps.length (pv2 ps)
def Fk.ps (ps : List (Nat × Nat)) : Fk := Fk.rdw 2 ps.length (pv2 ps)
section
variable {Q : Exit → Act → World → Prop} {o : Oper} {a : Act} {w : World} {ops : Array Oper} {rest : List Oper}
end
end Go.Proofs.YtnppjlpnfijobaaDoor
namespace Go.Proofs.YtnppjlpnfijobaaDoor
set_option maxRecDepth 100000
open Go.RowKit
section
variable {Q : Exit → Act → World → Prop} {o : Oper} {a : Act} {w : World}
theorem st_remg (x y : Operand) (ho : o.op = .binOp .rem 3 x y 3) (m : Nat) (hx : a.eval x = .int .i64 (m : Int)) (hy : a.eval y = .int .i64 2) : o.wp Tryd.prog a w (Ends a o.dst w (Fk.eq (.int .i64 ((m % 2 : Nat) : Int))).f) Q := by
  refine st_bin .rem 3 3 x y ho hx hy ?_
  have h1 : Int.tmod (m : Int) 2 = ((m % 2 : Nat) : Int) := by
    rw [Int.tmod_eq_emod_of_nonneg (by omega)]
    omega
  simp only [eqGuard, binOp, Op.intDiv]
  simp [h1]
theorem st_halfg (x y : Operand) (ho : o.op = .binOp .quo 3 x y 3) (m : Nat) (hm : m ≤ 4611686018427387904) (hx : a.eval x = .int .i64 (m : Int)) (hy : a.eval y = .int .i64 2) : o.wp Tryd.prog a w (Ends a o.dst w (Fk.eq (.int .i64 ((m / 2 : Nat) : Int))).f) Q := by
  refine st_bin .quo 3 3 x y ho hx hy ?_
  have h1 : Int.tdiv (m : Int) 2 = ((m / 2 : Nat) : Int) := by
    rw [Int.tdiv_eq_ediv_of_nonneg (by omega)]
    omega
  simp only [eqGuard, binOp, Op.intDiv]
  simp [h1]
  rw [IntKind.wrap_i64]
  omega
end
theorem refcount_any (n : Nat) (hn : n ≤ 1000000000) (w : World) :
    Calls Tryd.prog 19 #[.int .i64 ((n : Nat) : Int)] w fun e w' => e = .returned (.int .i64 ((pcn n : Nat) : Int)) ∧ Below w.heap.size w w' := by
  have hc60n : pcn n ≤ 60 := pcn_log 60 n (by omega)
  go_enter Tryd.func19, Tryd.ntmps19
  refine code_both (fun f w1 => f.tmps.size = 13 ∧ f.defers = [] ∧ f.eval (.tmp 0) = .int .i64 ((n : Nat) : Int) ∧ Below w.heap.size w (w1)) ⟨rfl, rfl, rfl, Below.refl _ _⟩ ?_
  rintro f0 w0 ⟨sz, df, x0, bl⟩
  have bl0 := bl
  refine wp_seq ?_
  refine wp_all_seq [.eq (.int .i64 0)] (by kernel_rfl) (by kernel_rfl) (by rw [sz]; kernel_rfl) (by kernel_rfl) ⟨fun hw ac u K => ?_, trivial⟩ ?_
  · exact st_assign (.const (.int .i64 0)) rfl rfl
  intro f1 w1 A hb
  replace bl0 := bl
  replace x0 := (A.old 0 rfl).trans x0
  have x2 : f1.eval (.tmp 2) = .int .i64 0 := A.has 0 2 rfl
  replace bl := (bl.trans (Below.mono hb bl.size))
  replace sz := A.size.trans sz
  replace df := A.defs.trans df
  clear A hb
  show Code.wp _ _ _ _ _
  refine wp_seq ?_
  refine wp_all_seq [.eq (.int .i64 0)] (by kernel_rfl) (by kernel_rfl) (by rw [sz]; kernel_rfl) (by kernel_rfl) ⟨fun hw ac u K => ?_, trivial⟩ ?_
  · exact st_assign (.const (.int .i64 0)) rfl rfl
  intro f2 w2 A hb
  replace bl0 := bl
  replace x0 := (A.old 0 rfl).trans x0
  replace x2 := (A.old 2 rfl).trans x2
  have x3 : f2.eval (.tmp 3) = .int .i64 0 := A.has 0 3 rfl
  replace bl := (bl.trans (Below.mono hb bl.size))
  replace sz := A.size.trans sz
  replace df := A.defs.trans df
  clear A hb
  show Code.wp _ _ _ _ _
  refine wp_seq ?_
  refine wp_block ?_
  refine wp_loop (fun f v1 => ∃ (m c : Nat), c + pcn m = pcn n ∧ m ≤ n ∧ f.tmps.size = 13 ∧ f.defers = [] ∧ f.eval (.tmp 2) = .int .i64 0 ∧ f.eval (.tmp 0) = .int .i64 ((m : Nat) : Int) ∧ f.eval (.tmp 3) = .int .i64 ((c : Nat) : Int) ∧ Below w.heap.size w (v1)) (fun f _ => (intOf (f.eval (.tmp 0))).toNat) ⟨n, 0, (by omega), Nat.le_refl _, sz, df, x2, x0, x3, bl⟩ ?_
  intro f3 w3 hI
  clear sz df bl bl0 x0 x2 x3
  obtain ⟨m, c, hc, hm, sz, df, x2, x0, x3, bl⟩ := hI
  have bl0 := bl
  refine wp_seq ?_
  refine wp_seq ?_
  have hcnt := x0
  have hc60 : c ≤ 60 := by omega
  by_cases hgo : 0 < m
  rotate_left
  · skip
    have hce : c = pcn n := by rw [← hc, show m = 0 by omega, pcn_zero]; rfl
    refine wp_all_seq [.eq (.int .i64 ((m : Nat) : Int)), .eq (.bool false)] (by kernel_rfl) (by kernel_rfl) (by rw [sz]; kernel_rfl) (by kernel_rfl) ⟨fun hw ac u K => ?_, fun hw ac u K => ?_, trivial⟩ ?_
    · exact st_move (.tmp 0) rfl ((K.old 0 rfl).trans x0)
    · exact st_gtr 3 (.tmp 4) (.const (.int .i64 0)) rfl .i64 (((m : Nat) : Int)) (0) (K.dep 0 4 rfl) rfl _ (by rw [eq_comm, decide_eq_false_iff_not]; omega)
    intro f4 w4 A hb
    replace bl0 := bl
    replace x0 := (A.old 0 rfl).trans x0
    replace x2 := (A.old 2 rfl).trans x2
    replace x3 := (A.old 3 rfl).trans x3
    have x5 : f4.eval (.tmp 5) = .bool false := A.has 1 5 rfl
    replace bl := (bl.trans (Below.mono hb bl.size))
    replace sz := A.size.trans sz
    replace df := A.defs.trans df
    clear A hb
    show Code.wp _ _ _ _ _
    refine wp_cond_false x5 ?_
    refine wp_exit ?_
    show Code.wp _ _ _ _ _
    refine wp_seq ?_
    refine wp_all_seq [.eq (.int .i64 ((c : Nat) : Int)), .eq (.int .i64 ((c : Nat) : Int))] (by kernel_rfl) (by kernel_rfl) (by rw [sz]; kernel_rfl) (by kernel_rfl) ⟨fun hw ac u K => ?_, fun hw ac u K => ?_, trivial⟩ ?_
    · exact st_move (.tmp 3) rfl ((K.old 3 rfl).trans x3)
    · exact st_assign (.tmp 12) rfl (K.dep 0 12 rfl)
    intro f5 w5 A hb
    replace bl0 := bl
    replace x0 := (A.old 0 rfl).trans x0
    clear x2
    replace x3 := (A.old 3 rfl).trans x3
    replace x5 := (A.old 5 rfl).trans x5
    have x2 : f5.eval (.tmp 2) = .int .i64 ((c : Nat) : Int) := A.has 1 2 rfl
    replace bl := (bl.trans (Below.mono hb bl.size))
    replace sz := A.size.trans sz
    replace df := A.defs.trans df
    clear A hb
    show Code.wp _ _ _ _ _
    refine wp_ret ?_
    repeat (first | with_reducible refine then_ret ?_ | with_reducible refine block_ret ?_)
    rw [hce] at x2
    exact bodyPost_ret (v := .int .i64 ((pcn n : Nat) : Int)) (ret_slot rfl f5 _ x2 _ _) df ⟨rfl, bl⟩
  refine wp_all_seq [.eq (.int .i64 ((m : Nat) : Int)), .eq (.bool true)] (by kernel_rfl) (by kernel_rfl) (by rw [sz]; kernel_rfl) (by kernel_rfl) ⟨fun hw ac u K => ?_, fun hw ac u K => ?_, trivial⟩ ?_
  · exact st_move (.tmp 0) rfl ((K.old 0 rfl).trans x0)
  · exact st_gtr 3 (.tmp 4) (.const (.int .i64 0)) rfl .i64 (((m : Nat) : Int)) (0) (K.dep 0 4 rfl) rfl _ (by rw [eq_comm, decide_eq_true_iff]; omega)
  intro f4 w4 A hb
  replace bl0 := bl
  replace x0 := (A.old 0 rfl).trans x0
  replace x2 := (A.old 2 rfl).trans x2
  replace x3 := (A.old 3 rfl).trans x3
  have x5 : f4.eval (.tmp 5) = .bool true := A.has 1 5 rfl
  replace bl := (bl.trans (Below.mono hb bl.size))
  replace sz := A.size.trans sz
  replace df := A.defs.trans df
  clear A hb
  show Code.wp _ _ _ _ _
  refine wp_cond_true x5 ?_
  refine wp_skip ?_
  show Code.wp _ _ _ _ _
  refine wp_block ?_
  refine wp_seq ?_
  refine wp_region_seq [.eq (.int .i64 ((c : Nat) : Int)), .eq (.int .i64 ((m : Nat) : Int)), .eq (.int .i64 ((m % 2 : Nat) : Int)), .eq (.int .i64 ((c + m % 2 : Nat) : Int))] (by kernel_rfl) (by kernel_rfl) (by rw [sz]; kernel_rfl) (by kernel_rfl) ⟨fun hw ac u K => ?_, fun hw ac u K => ?_, fun hw ac u K => ?_, fun hw ac u K => ?_, trivial⟩ ?_
  · exact st_move (.tmp 3) rfl ((K.old 3 rfl).trans x3)
  · exact st_move (.tmp 0) rfl ((K.old 0 rfl).trans x0)
  · exact st_remg (.tmp 7) (.const (.int .i64 2)) rfl (m) (K.dep 1 7 rfl) rfl
  · exact st_add (.tmp 6) (.tmp 8) rfl (c) (m % 2) (c + m % 2) (K.dep 0 6 rfl) (K.dep 2 8 rfl) (by omega) (by omega)
  intro f5 w5 A hb
  replace bl0 := bl
  replace x0 := (A.old 0 rfl).trans x0
  replace x2 := (A.old 2 rfl).trans x2
  replace x3 := (A.old 3 rfl).trans x3
  replace x5 := (A.old 5 rfl).trans x5
  have x9 : f5.eval (.tmp 9) = .int .i64 ((c + m % 2 : Nat) : Int) := A.has 3 9 rfl
  replace bl := (bl.trans (Below.mono hb bl.size))
  replace sz := A.size.trans sz
  replace df := A.defs.trans df
  clear A hb
  refine wl_one (.eq (.int .i64 ((c + m % 2 : Nat) : Int))) rfl 3 rfl (by rw [sz]; decide) (st_assign (.tmp 9) rfl x9) ?_
  intro f6 w6 df2 sz2 old2 new2 hb
  replace bl0 := bl
  replace x0 := (old2 0 rfl).trans x0
  replace x2 := (old2 2 rfl).trans x2
  clear x3
  replace x5 := (old2 5 rfl).trans x5
  replace x9 := (old2 9 rfl).trans x9
  have x3 : f6.eval (.tmp 3) = .int .i64 ((c + m % 2 : Nat) : Int) := new2
  replace bl := (bl.trans (Below.mono hb bl.size))
  replace sz := sz2.trans sz
  replace df := df2.trans df
  clear df2 sz2 old2 new2 hb
  refine wpList_nil ?_
  clear x9
  show Code.wp _ _ _ _ _
  refine wp_region_seq [.eq (.int .i64 ((m : Nat) : Int)), .eq (.int .i64 ((m / 2 : Nat) : Int))] (by kernel_rfl) (by kernel_rfl) (by rw [sz]; kernel_rfl) (by kernel_rfl) ⟨fun hw ac u K => ?_, fun hw ac u K => ?_, trivial⟩ ?_
  · exact st_move (.tmp 0) rfl ((K.old 0 rfl).trans x0)
  · exact st_halfg (.tmp 10) (.const (.int .i64 2)) rfl (m) (by omega) (K.dep 0 10 rfl) rfl
  intro f7 w7 A hb
  replace bl0 := bl
  replace x0 := (A.old 0 rfl).trans x0
  replace x2 := (A.old 2 rfl).trans x2
  replace x5 := (A.old 5 rfl).trans x5
  replace x3 := (A.old 3 rfl).trans x3
  have x11 : f7.eval (.tmp 11) = .int .i64 ((m / 2 : Nat) : Int) := A.has 1 11 rfl
  replace bl := (bl.trans (Below.mono hb bl.size))
  replace sz := A.size.trans sz
  replace df := A.defs.trans df
  clear A hb
  refine wl_one (.eq (.int .i64 ((m / 2 : Nat) : Int))) rfl 0 rfl (by rw [sz]; decide) (st_assign (.tmp 11) rfl x11) ?_
  intro f8 w8 df2 sz2 old2 new2 hb
  replace bl0 := bl
  clear x0
  replace x2 := (old2 2 rfl).trans x2
  replace x5 := (old2 5 rfl).trans x5
  replace x3 := (old2 3 rfl).trans x3
  replace x11 := (old2 11 rfl).trans x11
  have x0 : f8.eval (.tmp 0) = .int .i64 ((m / 2 : Nat) : Int) := new2
  replace bl := (bl.trans (Below.mono hb bl.size))
  replace sz := sz2.trans sz
  replace df := df2.trans df
  clear df2 sz2 old2 new2 hb
  refine wpList_nil ?_
  clear x11
  show (∃ _, _) ∧ _
  refine ⟨⟨m / 2, c + m % 2, (by rw [← hc, pcn_all m]; omega), (by omega), sz, df, x2, x0, x3, bl⟩, ?_⟩
  rw [show f8.eval (.tmp 0) = _ from x0, show _ = _ from hcnt]
  simp only [intOf, Int.toNat_natCast]
  omega
end Go.Proofs.YtnppjlpnfijobaaDoor
namespace Go.Proofs.YtnppjlpnfijobaaDoor
set_option maxRecDepth 100000
open Go.RowKit
end Go.Proofs.YtnppjlpnfijobaaDoor
namespace Go.Proofs.YtnppjlpnfijobaaDoor
set_option maxRecDepth 100000
open Go.RowKit
theorem sl_nil (w : World) : (Fk.sl []).f (.slice none 0 0) w := ⟨none, 0, 0, 0, 0, rfl, ⟨rfl, Nat.le_refl _, fun _ => ⟨rfl, rfl⟩, fun h => absurd h (by decide)⟩⟩
theorem hc_len {l : List (List (BitVec 8))} {v : Value} {w : World} (h : (Fk.hc l).f v w) : ∀ x ∈ l, x.length = 32 := by
  intro x hx
  obtain ⟨i, hi, rfl⟩ := List.getElem_of_mem hx
  obtain ⟨A, C, lb, lo, e, _, hl⟩ := h
  exact (hl.all i _ (List.getElem?_eq_getElem hi)).1
end Go.Proofs.YtnppjlpnfijobaaDoor
namespace Go.Proofs.YtnppjlpnfijobaaDoor
set_option maxRecDepth 100000
open Go.RowKit
theorem flat_take (hs : List (List (BitVec 8))) (h32 : ∀ (i : Nat) (x : List (BitVec 8)), hs[i]? = some x → x.length = 32) (n : Nat) : (hs.take n).flatten = hs.flatten.take (n * 32) := by
  induction hs generalizing n with
  | nil => simp
  | cons y r ih =>
    cases n with
    | zero => simp
    | succ n =>
      have hy : y.length = 32 := h32 0 y rfl
      rw [List.take_succ_cons, List.flatten_cons, List.flatten_cons, ih (fun i x hi => h32 (i + 1) x hi) n, List.take_append, hy]
      rw [List.take_of_length_le (l := y) (by omega), show (n + 1) * 32 - 32 = n * 32 by omega]
theorem ow_take {base : Nat} {hs : List (List (BitVec 8))} {A : Option Addr} {C : Nat} {w : World} (h : (Fk.ow base hs).f (.slice A hs.length C) w) (n : Nat) (hn : n ≤ hs.length) : (Fk.ow base (hs.take n)).f (.slice A n C) w := by
  obtain ⟨⟨h1, h2⟩, h3⟩ := h
  have hl : (hs.take n).length = n := by rw [List.length_take]; omega
  have h3' : ∀ (i : Nat) (x : List (BitVec 8)), (hs.take n)[i]? = some x → x.length = 32 := fun i x hi => by
    rw [List.getElem?_take] at hi
    split at hi
    · exact h3 i x hi
    · cases hi
  refine ⟨?_, h3'⟩
  rw [hl, flat_take hs h3, List.map_take]
  refine ⟨?_, ?_⟩
  · rw [List.length_take, h1]
    have : n * 32 ≤ hs.length * 32 := Nat.mul_le_mul_right _ hn
    omega
  · rcases h2 with ⟨e, h0⟩ | ⟨g, cap, cur, e, hbg, hg, hnc, hm, hcs, ht⟩
    · have : n = 0 := by omega
      subst this
      injection e with e1 e2 e3
      subst e1 e3
      exact .inl ⟨rfl, rfl⟩
    · cases e
      refine .inr ⟨g, C, cur, rfl, hbg, hg, by omega, hm, hcs, ?_⟩
      rw [← ht, List.take_take]
      congr 1
      have : n * 32 ≤ hs.length * 32 := Nat.mul_le_mul_right _ hn
      omega
end Go.Proofs.YtnppjlpnfijobaaDoor
namespace Go.Proofs.YtnppjlpnfijobaaDoor
set_option maxRecDepth 100000
open Go.RowKit
theorem hs_len {hs : List (List (BitVec 8))} {v : Value} {w : World} (h : (Fk.hs hs).f v w) {i : Nat} {x : List (BitVec 8)} (hi : hs[i]? = some x) : x.length = 32 := by
  obtain ⟨A, C, lb, lo, e, hl⟩ := h
  exact (hl.all i x hi).1
end Go.Proofs.YtnppjlpnfijobaaDoor
namespace Go.Proofs.YtnppjlpnfijobaaDoor
set_option maxRecDepth 100000
open Go.RowKit
section
variable {P : Program} {ops : Array Oper} {Q : Exit → Act → World → Prop}
end
end Go.Proofs.YtnppjlpnfijobaaDoor
namespace Go.Proofs.YtnppjlpnfijobaaDoor
set_option maxRecDepth 100000
open Go.RowKit
section
variable {P : Program} {ops : Array Oper} {Q : Exit → Act → World → Prop} {S : World → Prop} {o : Oper} {a : Act}
theorem wh_assign (i : Nat) (d : Nat) {fuel : Nat} {listed : Array Bool} {w : World} (hi : ops[i]? = some o) (hd : o.dst = some d) (hsz : d < a.tmps.size) (hg : o.guard = none) (hr : (Region.ready .any ops listed == [i]) = true) (x : Operand) (ho : o.op = .assign x) (hS : S w)
    (h : ∀ a2, a2.defers = a.defers → a2.tmps.size = a.tmps.size → (∀ t, (t == d) = false → a2.eval (.tmp t) = a.eval (.tmp t)) → a2.eval (.tmp d) = a.eval x → wpAnyH P .any ops Q S fuel (listed.setIfInBounds i true) a2 w) : wpAnyH P .any ops Q S (fuel + 1) listed a w := by
  refine wpAnyH_all (eq_of_beq hr) (by simp) (fun j hj => ?_)
  obtain rfl : j = i := by simpa using hj
  unfold wpOp
  rw [hi]
  show if Region.wanted o (yielded ops a.tmps) = true then _ else _
  rw [if_pos (by unfold Region.wanted; rw [hg])]
  refine .inl ?_
  unfold Oper.wp execOp
  rw [ho]
  show S w ∧ wpAnyH P .any ops Q S fuel _ (a.put o.dst (a.eval x)) w
  rw [hd]
  exact ⟨hS, h _ (put_def _ _ _) (put_size _ _ _) (fun t ht => put_eval_other _ _ _ _ (fun e => by subst e; simp at ht)) (put_eval_same _ _ _ hsz)⟩
theorem run_mv {x : Operand} (ho : o.op = .move x) {v : Value} (hx : a.eval x = v) : ∀ w, S w → (execOp a.eval o).run P w = .ok (.value v) w := by
  intro w _
  unfold execOp
  rw [ho, ← hx]
  rfl
end
end Go.Proofs.YtnppjlpnfijobaaDoor
