/- Plain arithmetic of 32-bit words and bytes as the model spells it, and the sum's own functions on words. No program is spoken of. Plain: a region that draws its order, whose operations yield what does not hang on the order and do no more to the memory than to make new blocks: whatever order is picked, behind it each slot has what its operation yields. No program is spoken of. What rotr and math/bits.RotateLeft32 hand back: the word turned to the right. What wordsOf hands back: the words of a block of 64 bytes, whatever the memory. What mixed hands back: the eight numbers behind a block of 64 bytes, whatever the memory, where the numbers of the rounds lie in block 0. A digest in memory, what writing bytes makes of it, and small laws on worlds in which one block has turned. No program is spoken of. What firstState, New and Len hand back; mixed once more, its arguments written out. What Write makes of a digest in memory: just what the plain function on digests says; no other block turns. What hashOf hands back: the bytes of the eight numbers, the highest of each first. What pad makes of a digest, what a digest's Sum and sha.Sum hand back. Plain: a digest that was written to part by part has the sum of all its bytes. No program is spoken of but through the functions on digests. What Show hands back: the text of a hash; and the text of the sum of 'abc'. Digests by the bytes that they have: what New, Write, Sum, Len and Copy do; and the bytes that append makes. Lists of slices of bytes in memory, and what Input hands back: the kind's byte, and the bytes of the parts one behind the other, in new memory. What tag's sum, Leaf, Message, File and Record hand back: the sums of just their bytes. What awake answers; Record; the bytes of numbers. Plain: two arrays of bytes are told equal just if they are. Steps of a drawn region: what an operation needs, and what is told of its slot behind it. What Node, Chain, Secret and Record hand back: the sums of just their bytes. Steps of a drawn region over texts, bytes and bools. Regions that end in an assignment; steps over numbers. Lists of hashes in memory, and what Public hands back. Numbers in memory, append of numbers, and the digits of a hash, plain. What wots.Digits hands back: the 67 digits, in new memory. Steps of chains: what the laws' walked and wots.Walk hand back. -/
import Derived.WalkKit
import Derived.Orders
import Derived.Test.YtakdpkoigijonaaGreatProg
import Derived.WalkSpells
import Derived.WalkLawsBesides
import Derived.BigRegion
import Derived.Deep.QuietTactic
import Derived.BigQuiet
import Derived.Maps.RangeWalk
import Derived.Laws.CopyOwn
import Derived.Deep.DeepCutAuto
import Derived.Deep.RegionWith
import Derived.Laws.AppendOwnNone
import Derived.Laws.MakeOwn
import Derived.Laws.Concat
import Derived.Laws.Small
import Derived.Laws.OwnMore
import Derived.Deep.MidRow
namespace Go.Proofs.YtakdpkoigijonaaGreat
set_option maxRecDepth 100000
open Go.RowKit

/-- A word's number. -/
def vl (x : BitVec 32) : Int := (x.toNat : Int)
/-- A byte's number. -/
def bv (x : BitVec 8) : Int := (x.toNat : Int)
/-- A fact kept from the walk, also from what looks through definitions. -/
structure Box (p : Prop) : Prop where
  out : p
theorem bv_range (x : BitVec 8) : 0 ≤ bv x ∧ bv x < (256 : Int) := by unfold bv; have := x.isLt; omega
theorem vl_xor (x y : BitVec 32) : bits .xor .u32 (vl x) (vl y) = vl (x ^^^ y) := by
  unfold vl; rw [u32_xor _ _ (by omega) (by have := x.isLt; omega) (by omega) (by have := y.isLt; omega)]; simp
theorem vl_and (x y : BitVec 32) : bits .and .u32 (vl x) (vl y) = vl (x &&& y) := by
  unfold vl; rw [u32_and _ _ (by omega) (by have := x.isLt; omega) (by omega) (by have := y.isLt; omega)]; simp
theorem vl_or (x y : BitVec 32) : bits .or .u32 (vl x) (vl y) = vl (x ||| y) := by
  unfold vl; rw [u32_or _ _ (by omega) (by have := x.isLt; omega) (by omega) (by have := y.isLt; omega)]; simp
theorem vl_not (x : BitVec 32) : bits .xor .u32 (4294967295 : Int) (vl x) = vl (~~~ x) := by
  have e : (4294967295 : Int) = vl (BitVec.allOnes 32) := by unfold vl; rfl
  rw [e, vl_xor, BitVec.allOnes_xor]
theorem vl_notw (x : BitVec 32) : bits .xor .u32 (if IntKind.u32.signed = true then -1 else IntKind.u32.max) (vl x) = vl (~~~ x) := by
  rw [show (if IntKind.u32.signed = true then (-1 : Int) else IntKind.u32.max) = 4294967295 from by decide, vl_not]
theorem vl_add (x y : BitVec 32) : (vl x + vl y) % (4294967296 : Int) = vl (x + y) := by
  unfold vl; rw [BitVec.toNat_add]; omega
theorem vl_addw (x y : BitVec 32) : IntKind.u32.wrap (vl x + vl y) = vl (x + y) := by
  rw [IntKind.wrap_u32', vl_add]
theorem vl_shl (x : BitVec 32) (n : Nat) : (vl x * 2 ^ n) % (4294967296 : Int) = vl (x <<< n) := by
  unfold vl; rw [BitVec.toNat_shiftLeft, Nat.shiftLeft_eq]; simp
theorem vl_shr (x : BitVec 32) (n : Nat) : vl x / 2 ^ n = vl (x >>> n) := by
  unfold vl; rw [BitVec.toNat_ushiftRight, Nat.shiftRight_eq_div_pow]; simp
/-- Turned to the right. -/
def rot (x : BitVec 32) (n : Nat) : BitVec 32 := x <<< (32 - n) ||| x >>> n
theorem shr3_raw (x : BitVec 32) : vl x / (8 : Int) = vl (x >>> 3) := vl_shr x 3
theorem shr10_raw (x : BitVec 32) : vl x / (1024 : Int) = vl (x >>> 10) := vl_shr x 10

/-- Four bytes, the highest first. -/
def be (b1 b2 b3 b4 : BitVec 8) : BitVec 32 := b1.setWidth 32 <<< 24 ||| b2.setWidth 32 <<< 16 ||| b3.setWidth 32 <<< 8 ||| b4.setWidth 32
theorem bv_w (b : BitVec 8) : bv b = vl (b.setWidth 32) := by
  unfold vl bv; have := b.isLt; rw [BitVec.toNat_setWidth]; omega
theorem bv_wrap (b : BitVec 8) : bv b % (4294967296 : Int) = vl (b.setWidth 32) := by
  have := bv_range b; rw [← bv_w]; omega
theorem bv_wrapw (b : BitVec 8) : IntKind.u32.wrap (bv b) = vl (b.setWidth 32) := by rw [IntKind.wrap_u32', bv_wrap]
theorem shl24_raw (x : BitVec 32) : (vl x * (16777216 : Int)) % (4294967296 : Int) = vl (x <<< 24) := vl_shl x 24
theorem shl16_raw (x : BitVec 32) : (vl x * (65536 : Int)) % (4294967296 : Int) = vl (x <<< 16) := vl_shl x 16
theorem shl8_raw (x : BitVec 32) : (vl x * (256 : Int)) % (4294967296 : Int) = vl (x <<< 8) := vl_shl x 8
/-- The words of a block: the first k of the sixteen. -/
def w1 (bs : List (BitVec 8)) : Nat → List (BitVec 32)
  | 0 => List.replicate 64 0
  | k + 1 => (w1 bs k).set k (be (bs.getD (4 * k) 0) (bs.getD (4 * k + 1) 0) (bs.getD (4 * k + 2) 0) (bs.getD (4 * k + 3) 0))
def sg0 (x : BitVec 32) : BitVec 32 := rot x 7 ^^^ rot x 18 ^^^ x >>> 3
def sg1 (x : BitVec 32) : BitVec 32 := rot x 17 ^^^ rot x 19 ^^^ x >>> 10
def wnext (l : List (BitVec 32)) (t : Nat) : BitVec 32 := sg1 (l.getD (t - 2) 0) + l.getD (t - 7) 0 + sg0 (l.getD (t - 15) 0) + l.getD (t - 16) 0
/-- The words of a block, k of the forty-eight that follow the sixteen. -/
def w2 (bs : List (BitVec 8)) : Nat → List (BitVec 32)
  | 0 => w1 bs 16
  | k + 1 => (w2 bs k).set (16 + k) (wnext (w2 bs k) (16 + k))
def words (bs : List (BitVec 8)) : List (BitVec 32) := w2 bs 48
/-- A word in a cell. -/
def U (x : BitVec 32) : Value := .int .u32 (vl x)
/-- Block b of the world is an array of words. -/
def HasW (w : World) (b : Nat) (T : TypeId) (xs : List (BitVec 32)) : Prop := w.heap[b]? = some (.cells (xs.map U).toArray T (0, 0))
theorem HasW.cell {w : World} {b : Nat} {T : TypeId} {xs : List (BitVec 32)} (h : HasW w b T xs) (i : Nat) (hi : i < xs.length) : w.cell? ⟨b, i, none⟩ = some (.int .u32 (vl (xs.getD i 0))) := by
  unfold HasW at h
  simp [World.cell?, h, hi, U]
theorem HasW.frozen {w : World} {b : Nat} {T : TypeId} {xs : List (BitVec 32)} (h : HasW w b T xs) (i : Nat) : w.frozen? ⟨b, i, none⟩ = false := by
  unfold HasW at h
  simp [World.frozen?, h]
theorem HasW.set {w : World} {b : Nat} {T : TypeId} {xs : List (BitVec 32)} (h : HasW w b T xs) (i : Nat) (x : BitVec 32) : HasW (w.setCell ⟨b, i, none⟩ (.int .u32 (vl x))) b T (xs.set i x) := by
  unfold HasW at *
  simp [World.setCell, Array.getElem?_modify, h, U, List.map_set]
theorem HasW.below {w w' : World} {B b : Nat} {T : TypeId} {xs : List (BitVec 32)} (h : HasW w b T xs) (hb : Below B w w') (hB : b < B) : HasW w' b T xs := by
  unfold HasW at *
  rw [hb.block b hB]; exact h
theorem HasW.drew {w : World} {b : Nat} {T : TypeId} {xs : List (BitVec 32)} (h : HasW w b T xs) : HasW w.drew b T xs := h
theorem HasW.other {w : World} {b : Nat} {T : TypeId} {xs : List (BitVec 32)} (h : HasW w b T xs) (a : Addr) (v : Value) (hne : b ≠ a.block) : HasW (w.setCell a v) b T xs := by
  unfold HasW at *
  rw [heap_setCell_other _ _ _ _ hne]; exact h
/-- The eight numbers. -/
structure St where
  a : BitVec 32
  b : BitVec 32
  c : BitVec 32
  d : BitVec 32
  e : BitVec 32
  f : BitVec 32
  g : BitVec 32
  h : BitVec 32
def St.t1 (s : St) (k w : BitVec 32) : BitVec 32 := s.h + (rot s.e 6 ^^^ rot s.e 11 ^^^ rot s.e 25) + ((s.e &&& s.f) ^^^ (~~~ s.e &&& s.g)) + k + w
def St.t2 (s : St) : BitVec 32 := (rot s.a 2 ^^^ rot s.a 13 ^^^ rot s.a 22) + ((s.a &&& s.b) ^^^ (s.a &&& s.c) ^^^ (s.b &&& s.c))
/-- One round. -/
def rnd (s : St) (k w : BitVec 32) : St := ⟨s.t1 k w + s.t2, s.a, s.b, s.c, s.d + s.t1 k w, s.e, s.f, s.g⟩
/-- The numbers of the rounds. -/
def KN : List (BitVec 32) := [1116352408, 1899447441, 3049323471, 3921009573, 961987163, 1508970993, 2453635748, 2870763221, 3624381080, 310598401, 607225278, 1426881987, 1925078388, 2162078206, 2614888103, 3248222580, 3835390401, 4022224774, 264347078, 604807628, 770255983, 1249150122, 1555081692, 1996064986, 2554220882, 2821834349, 2952996808, 3210313671, 3336571891, 3584528711, 113926993, 338241895, 666307205, 773529912, 1294757372, 1396182291, 1695183700, 1986661051, 2177026350, 2456956037, 2730485921, 2820302411, 3259730800, 3345764771, 3516065817, 3600352804, 4094571909, 275423344, 430227734, 506948616, 659060556, 883997877, 958139571, 1322822218, 1537002063, 1747873779, 1955562222, 2024104815, 2227730452, 2361852424, 2428436474, 2756734187, 3204031479, 3329325298]
def rnds (ws : List (BitVec 32)) (s : St) : Nat → St
  | 0 => s
  | k + 1 => rnd (rnds ws s k) (KN.getD k 0) (ws.getD k 0)
def St.plus (s t : St) : St := ⟨s.a + t.a, s.b + t.b, s.c + t.c, s.d + t.d, s.e + t.e, s.f + t.f, s.g + t.g, s.h + t.h⟩
/-- The eight numbers behind a block. -/
def mix (s : St) (bs : List (BitVec 8)) : St := s.plus (rnds (words bs) s 64)
def St.list (s : St) : List (BitVec 32) := [s.a, s.b, s.c, s.d, s.e, s.f, s.g, s.h]
def St.first : St := ⟨1779033703, 3144134277, 1013904242, 2773480762, 1359893119, 2600822924, 528734635, 1541459225⟩
/-- The numbers of the rounds lie in block g. -/
def HasK (w : World) (g : Nat) : Prop := ∀ i, i < 64 → w.cell? ⟨g, i, none⟩ = some (.int .u32 (vl (KN.getD i 0)))
theorem HasK.below {w w' : World} {B g : Nat} (h : HasK w g) (hb : Below B w w') (hB : g < B) : HasK w' g := fun i hi => by rw [hb.cell (by exact hB)]; exact h i hi
/-- The bytes bs lie from (b, o) on. -/
def HasB (w : World) (b o : Nat) (bs : List (BitVec 8)) : Prop := ∀ i, i < bs.length → w.cell? ⟨b, o + i, none⟩ = some (.int .u8 (bv (bs.getD i 0)))
theorem HasB.below {w w' : World} {B b o : Nat} {bs : List (BitVec 8)} (h : HasB w b o bs) (hb : Below B w w') (hB : b < B) : HasB w' b o bs := fun i hi => by rw [hb.cell (by exact hB)]; exact h i hi
end Go.Proofs.YtakdpkoigijonaaGreat
namespace Go.Proofs.YtakdpkoigijonaaGreat
set_option maxRecDepth 100000
open Go.RowKit
/-- The slots of the operations are set, one behind the other. -/
def putAll (vs : Nat → Value) : Nat → List Oper → Act → Act
  | _, [], a => a
  | i, o :: r, a => putAll vs (i + 1) r (a.put o.dst (vs i))
/-- The slot t is set by none of them. -/
def freeOf (l : List Oper) (t : Nat) : Bool := l.all fun o => o.dst != some t
/-- Each sets a slot of its own, below n. -/
def dstsOk (n : Nat) : List Oper → Bool
  | [] => true
  | o :: r => (match o.dst with | some d => decide (d < n) && freeOf r d | none => false) && dstsOk n r
/-- Each waits for ones ahead of it alone; from number k on there is at most one, that waits for all. -/
def edgesOk (ops : List Oper) (k : Nat) : Bool :=
  (List.range ops.length).all (fun i => ((ops[i]?).map fun o => o.after.toList.all fun e => !Region.binds .any e || decide (e.on < i)).getD true) &&
  decide (ops.length ≤ k + 1) && (((ops[k]?).map fun o => (List.range k).all fun j => o.after.toList.any fun e => e.on == j && Region.binds .any e).getD true)
/-- The operation o waits for number j, whose slot is d. -/
def depOk (ops : List Oper) (k : Nat) (o : Oper) (j d : Nat) : Bool :=
  decide (j < k) && (o.after.toList.any fun e => e.on == j && Region.binds .any e) && (((ops[j]?).bind (·.dst)) == some d)
/-- What is told of the frame and of the world when the operation o comes up. -/
structure Known (ops : List Oper) (k : Nat) (φ : Nat → Value → World → Prop) (a0 : Act) (w0 : World) (o : Oper) (a : Act) (w : World) : Prop where
  old : ∀ t, freeOf (ops.take k) t = true → a.eval (.tmp t) = a0.eval (.tmp t)
  dep : ∀ j d, depOk ops k o j d = true → φ j (a.eval (.tmp d)) w
  grow : Below w0.heap.size w0 w
/-- The operation ends: its slot has a value of which f speaks, and no block that was there is other. -/
def Ends (a : Act) (dst : Option Tmp) (w : World) (f : Value → World → Prop) : Act → World → Prop :=
  fun a' w' => ∃ v, a' = a.put dst v ∧ Below w.heap.size w w' ∧ f v w'
theorem freeOf_spec {l : List Oper} {t : Nat} (h : freeOf l t = true) {i : Nat} {o : Oper} (hi : l[i]? = some o) : o.dst ≠ some t := by
  have := List.all_eq_true.1 h o (List.mem_of_getElem? hi)
  simpa using this
theorem dstsOk_spec {n : Nat} : ∀ {l : List Oper}, dstsOk n l = true → ∀ (i : Nat) (o : Oper), l[i]? = some o → ∃ d, o.dst = some d ∧ d < n ∧ ∀ (j : Nat) (o' : Oper), l[j]? = some o' → j ≠ i → o'.dst ≠ some d
  | [], _, i, o, hi => by simp at hi
  | q :: r, h, i, o, hi => by
    unfold dstsOk at h
    rw [Bool.and_eq_true] at h
    obtain ⟨h1, h2⟩ := h
    cases hq : q.dst with
    | none => rw [hq] at h1; simp at h1
    | some dq =>
      rw [hq] at h1
      simp only [Bool.and_eq_true, decide_eq_true_eq] at h1
      cases i with
      | zero =>
        obtain rfl : q = o := by simpa using hi
        refine ⟨dq, hq, h1.1, fun j o' hj hne => ?_⟩
        cases j with
        | zero => exact absurd rfl hne
        | succ j => exact freeOf_spec h1.2 (by simpa using hj)
      | succ i =>
        have hi' : r[i]? = some o := by simpa using hi
        obtain ⟨d, e, hd, hall⟩ := dstsOk_spec h2 i o hi'
        refine ⟨d, e, hd, fun j o' hj hne => ?_⟩
        cases j with
        | zero =>
          obtain rfl : q = o' := by simpa using hj
          rw [hq]
          intro hh
          obtain rfl := Option.some.inj hh
          exact freeOf_spec h1.2 hi' e
        | succ j => exact hall j o' (by simpa using hj) (by omega)
theorem put_size (a : Act) (d : Option Tmp) (v : Value) : (a.put d v).tmps.size = a.tmps.size := by cases d <;> simp [Act.put]
theorem put_def (a : Act) (d : Option Tmp) (v : Value) : (a.put d v).defers = a.defers := by cases d <;> rfl
theorem put_same (a : Act) (d : Nat) (v : Value) (h : d < a.tmps.size) : (a.put (some d) v).tmps[d]? = some v := by simp [Act.put, h]
theorem put_other (a : Act) (d : Option Tmp) (v : Value) (t : Nat) (h : d ≠ some t) : (a.put d v).tmps[t]? = a.tmps[t]? := by
  cases d with
  | none => rfl
  | some d =>
    have : d ≠ t := fun e => h (by rw [e])
    simp only [Act.put]
    rw [Array.getElem?_setIfInBounds]
    simp [this]
theorem putAll_size (vs : Nat → Value) : ∀ (l : List Oper) (i : Nat) (a : Act), (putAll vs i l a).tmps.size = a.tmps.size
  | [], _, _ => rfl
  | o :: r, i, a => by rw [putAll, putAll_size vs r, put_size]
theorem putAll_def (vs : Nat → Value) : ∀ (l : List Oper) (i : Nat) (a : Act), (putAll vs i l a).defers = a.defers
  | [], _, _ => rfl
  | o :: r, i, a => by rw [putAll, putAll_def vs r, put_def]
theorem putAll_other (vs : Nat → Value) (t : Nat) : ∀ (l : List Oper) (i : Nat) (a : Act), (∀ (j : Nat) (o : Oper), l[j]? = some o → o.dst ≠ some t) → (putAll vs i l a).tmps[t]? = a.tmps[t]?
  | [], _, _, _ => rfl
  | o :: r, i, a, h => by
    rw [putAll, putAll_other vs t r _ _ (fun j o' hj => h (j + 1) o' (by simpa using hj)), put_other _ _ _ _ (h 0 o rfl)]
theorem putAll_at (vs : Nat → Value) (d : Nat) : ∀ (l : List Oper) (i : Nat) (a : Act) (k : Nat) (o : Oper), l[k]? = some o → o.dst = some d → d < a.tmps.size → (∀ (j : Nat) (o' : Oper), l[j]? = some o' → j ≠ k → o'.dst ≠ some d) → (putAll vs i l a).tmps[d]? = some (vs (i + k))
  | [], _, _, k, o, hk, _, _, _ => by simp at hk
  | q :: r, i, a, 0, o, hk, ho, hd, hall => by
    obtain rfl : q = o := by simpa using hk
    rw [putAll, putAll_other vs d r _ _ (fun j o' hj => hall (j + 1) o' (by simpa using hj) (by omega)), ho, put_same _ _ _ hd, Nat.add_zero]
  | q :: r, i, a, k + 1, o, hk, ho, hd, hall => by
    rw [putAll, putAll_at vs d r (i + 1) _ k o (by simpa using hk) ho (by rw [put_size]; exact hd) (fun j o' hj hne => hall (j + 1) o' (by simpa using hj) (by omega))]
    congr 2
    omega
/-- How many have not come up yet. -/
def unl (listed : Array Bool) : Nat := listed.countP (fun b => !b)
theorem unl_set {listed : Array Bool} {i : Nat} (h : listed.getD i true = false) : unl (listed.setIfInBounds i true) + 1 = unl listed := by
  have hi : i < listed.size := by
    rcases Nat.lt_or_ge i listed.size with h' | h'
    · exact h'
    · simp [Array.getElem?_eq_none h'] at h
  have hv : listed[i] = false := by simpa [hi] using h
  have hc : 0 < listed.countP (fun b => !b) := by
    rw [Array.countP_pos_iff]
    exact ⟨false, by rw [← hv]; exact Array.getElem_mem hi, rfl⟩
  unfold unl
  rw [Array.setIfInBounds_def, dif_pos hi, Array.countP_set hi, hv]
  simp
  omega
theorem unl_zero {listed : Array Bool} (h : unl listed = 0) (i : Nat) (hi : i < listed.size) : listed.getD i true = true := by
  unfold unl at h
  rw [Array.countP_eq_zero] at h
  have := h listed[i] (Array.getElem_mem hi)
  simpa [hi] using this
section
variable {P : Program} {ops : Array Oper} {Q : Exit → Act → World → Prop} {φ : Nat → Value → World → Prop} {k : Nat} {a0 : Act} {w0 : World}
/-- The state in the midst. -/
structure Mids (ops : Array Oper) (k : Nat) (φ : Nat → Value → World → Prop) (a0 : Act) (w0 : World) (listed : Array Bool) (a : Act) (w : World) : Prop where
  size : a.tmps.size = a0.tmps.size
  defs : a.defers = a0.defers
  lsize : listed.size = ops.size
  old : ∀ t, freeOf (ops.toList.take k) t = true → a.tmps[t]? = a0.tmps[t]?
  has : ∀ (i : Nat) (o : Oper) (d : Nat), i < k → ops[i]? = some o → o.dst = some d → listed.getD i false = true → φ i (a.eval (.tmp d)) w
  last : ∀ i, k ≤ i → i < ops.size → listed.getD i true = false
  grow : Below w0.heap.size w0 w
theorem getD_tf {listed : Array Bool} {i : Nat} (hi : i < listed.size) : listed.getD i true = listed.getD i false := by simp [hi]
theorem all_listed_ready {listed : Array Bool} (hs : listed.size = ops.size) (h : unl listed = 0) : Region.ready .any ops listed = [] := by
  cases hr : Region.ready .any ops listed with
  | nil => rfl
  | cons i r =>
    have hi : i ∈ Region.ready .any ops listed := by rw [hr]; exact List.mem_cons_self
    obtain ⟨h1, o, ho, _⟩ := mem_ready.1 hi
    have hl : i < listed.size := by rw [hs]; exact (Array.getElem?_eq_some_iff.1 ho).1
    rw [unl_zero h i hl] at h1
    cases h1
theorem ready_listed (hE : edgesOk ops.toList k = true) {listed : Array Bool} (hs : listed.size = ops.size) (h : Region.ready .any ops listed = []) : unl listed = 0 := by
  unfold edgesOk at hE
  simp only [Bool.and_eq_true] at hE
  have hback := List.all_eq_true.1 hE.1.1
  have key : ∀ n i, i < n → i < listed.size → listed.getD i true = true := by
    intro n
    induction n with
    | zero => intro i h; omega
    | succ n ih =>
      intro i hi hl
      cases hc : listed.getD i true with
      | true => rfl
      | false =>
        exfalso
        have hio : i < ops.size := by omega
        have hm : i ∈ Region.ready .any ops listed := by
          refine mem_ready.2 ⟨hc, ops[i], Array.getElem?_eq_getElem hio, fun e he hbd => ?_⟩
          have hb := hback i (by simp; exact hio)
          simp only [Array.getElem?_toList, Array.getElem?_eq_getElem hio, Option.map_some, Option.getD_some] at hb
          have hb2 : e.on < i := by
            have := List.all_eq_true.1 hb e (by simpa using he)
            simpa [hbd] using this
          have := ih e.on (by omega) (by omega)
          rw [← getD_tf (by omega)]; exact this
        rw [h] at hm
        cases hm
  unfold unl
  rw [Array.countP_eq_zero]
  intro b hb
  obtain ⟨i, hi, rfl⟩ := Array.mem_iff_getElem.1 hb
  have := key (i + 1) i (by omega) hi
  simpa [hi] using this
theorem eval_of_get {a b : Act} {t : Nat} (h : a.tmps[t]? = b.tmps[t]?) : a.eval (.tmp t) = b.eval (.tmp t) := by
  simp [Act.eval, h]
theorem getD_set_same {listed : Array Bool} {i : Nat} (h : i < listed.size) : (listed.setIfInBounds i true).getD i false = true := by simp [h]
theorem frame_eq (hD : dstsOk a0.tmps.size (ops.toList.take k) = true) {listed : Array Bool} {a : Act} {w : World} (h : Mids ops k φ a0 w0 listed a w) (hl : ∀ i, i < k → i < ops.size → listed.getD i false = true) (hk : k ≤ ops.size) :
    ∃ vs : Nat → Value, (∀ i, i < k → φ i (vs i) w) ∧ a = putAll vs 0 (ops.toList.take k) a0 := by
  have hat : ∀ i, i < k → ∃ o, ops[i]? = some o ∧ (ops.toList.take k)[i]? = some o := fun i hi =>
    ⟨ops[i], Array.getElem?_eq_getElem (by omega), by rw [List.getElem?_take, if_pos hi, Array.getElem?_toList, Array.getElem?_eq_getElem (by omega)]⟩
  let vs : Nat → Value := fun i => match (ops[i]?).bind (·.dst) with | some d => a.eval (.tmp d) | none => undef
  have hvs : ∀ (i : Nat) (o : Oper) (d : Nat), ops[i]? = some o → o.dst = some d → vs i = a.eval (.tmp d) := fun i o d ho hd => by simp only [vs, ho, Option.bind_some, hd]
  refine ⟨vs, fun i hi => ?_, ?_⟩
  · obtain ⟨o, ho, ht⟩ := hat i hi
    obtain ⟨d, hd, _, _⟩ := dstsOk_spec hD i o ht
    rw [hvs i o d ho hd]
    exact h.has i o d hi ho hd (hl i hi (by omega))
  · have hdef := putAll_def vs (ops.toList.take k) 0 a0
    have hsz := putAll_size vs (ops.toList.take k) 0 a0
    have htm : a.tmps = (putAll vs 0 (ops.toList.take k) a0).tmps := by
      apply Array.ext_getElem?
      intro t
      cases hf : freeOf (ops.toList.take k) t with
      | true =>
        rw [h.old t hf, putAll_other vs t _ _ _ (fun j o hj => freeOf_spec hf hj)]
      | false =>
        have : ∃ (i : Nat) (o : Oper), (ops.toList.take k)[i]? = some o ∧ o.dst = some t := by
          unfold freeOf at hf
          rw [List.all_eq_false] at hf
          obtain ⟨o, hm, hne⟩ := hf
          obtain ⟨i, hi⟩ := List.getElem?_of_mem hm
          exact ⟨i, o, hi, by simpa using hne⟩
        obtain ⟨i, o, hi, hd⟩ := this
        obtain ⟨d, hd2, hlt, hall⟩ := dstsOk_spec hD i o hi
        obtain rfl : t = d := Option.some.inj (hd.symm.trans hd2)
        rw [putAll_at vs t _ 0 a0 i o hi hd hlt hall, Nat.zero_add]
        have hik : i < k := by
          have := (List.getElem?_eq_some_iff.1 hi).1
          simp at this; omega
        have hio : ops[i]? = some o := by
          rw [List.getElem?_take, if_pos hik, Array.getElem?_toList] at hi; exact hi
        rw [hvs i o t hio hd]
        have : t < a.tmps.size := by rw [h.size]; exact hlt
        simp [Act.eval, this]
    cases a
    cases hp : putAll vs 0 (ops.toList.take k) a0
    rw [hp] at htm hdef
    have := h.defs
    simp_all
theorem wpAny_nil {fuel : Nat} {listed : Array Bool} {a : Act} {w : World} (hr : Region.ready .any ops listed = []) (h : Q .normal a w) : wpAny P .any ops Q fuel listed a w := by
  cases fuel with
  | zero => exact ⟨hr, h⟩
  | succ n => exact ⟨fun _ => h, fun i hi => by rw [hr] at hi; cases hi⟩
theorem wp_mids (hk : k ≤ ops.size) (hE : edgesOk ops.toList k = true) (hD : dstsOk a0.tmps.size (ops.toList.take k) = true)
    (hG : ∀ (i : Nat) (o : Oper) (j : Nat) (b : Bool), i < k → ops[i]? = some o → o.guard = some (j, b) → (∃ d, depOk ops.toList k o j d = true) ∧ ((∀ v w, φ j v w → v = .bool b) ∨ ((∀ v w, φ j v w → v = .bool (!b)) ∧ ∀ v w, φ i v w)))
    (hM : ∀ i v w w', φ i v w → Below w.heap.size w w' → φ i v w')
    (hS : ∀ (i : Nat) (o : Oper), i < k → ops[i]? = some o → (∀ (j : Nat) (b : Bool), o.guard = some (j, b) → ∀ v w, φ j v w → v = .bool b) → ∀ a w, Known ops.toList k φ a0 w0 o a w → o.wp P a w (Ends a o.dst w (φ i)) Q)
    (hF : ∀ vs w, (∀ i, i < k → φ i (vs i) w) → Below w0.heap.size w0 w → wpList P ops Q (ops.toList.drop k) (putAll vs 0 (ops.toList.take k) a0) w) :
    ∀ (fuel : Nat) (listed : Array Bool) (a : Act) (w : World), unl listed ≤ fuel → Mids ops k φ a0 w0 listed a w → wpAny P .any ops Q fuel listed a w := by
  have hlen : ops.size ≤ k + 1 := by
    have h := hE
    unfold edgesOk at h
    simp only [Bool.and_eq_true, decide_eq_true_eq, Array.length_toList] at h
    exact h.1.2
  have hfull : ∀ (listed : Array Bool) (a : Act) (w : World), Mids ops k φ a0 w0 listed a w → Region.ready .any ops listed = [] → Q .normal a w := by
    intro listed a w hm hr
    have hu := ready_listed hE hm.lsize hr
    have hks : ops.size = k := by
      rcases Nat.lt_or_ge k ops.size with h | h
      · have h1 := unl_zero hu k (by rw [hm.lsize]; exact h)
        rw [hm.last k (Nat.le_refl _) h] at h1
        cases h1
      · omega
    obtain ⟨vs, hv, e⟩ := frame_eq hD hm (fun i _ hi => by rw [← getD_tf (by rw [hm.lsize]; exact hi)]; exact unl_zero hu i (by rw [hm.lsize]; exact hi)) hk
    have := hF vs w hv hm.grow
    rw [← e, List.drop_of_length_le (by simp; omega)] at this
    exact this
  intro fuel
  induction fuel with
  | zero =>
    intro listed a w hu hm
    have hr := all_listed_ready (ops := ops) hm.lsize (by omega)
    exact ⟨hr, hfull listed a w hm hr⟩
  | succ fuel ih =>
    intro listed a w hu hm
    refine ⟨hfull listed a w hm, fun i hi => ?_⟩
    obtain ⟨hun, o, ho, hdep⟩ := mem_ready.1 hi
    have hio : i < ops.size := (Array.getElem?_eq_some_iff.1 ho).1
    have hu' := unl_set hun
    rcases Nat.lt_or_ge i k with hik | hik
    · have hK : Known ops.toList k φ a0 w0 o a w := by
        refine ⟨fun t ht => eval_of_get (hm.old t ht), fun j d hj => ?_, hm.grow⟩
        unfold depOk at hj
        simp only [Bool.and_eq_true, decide_eq_true_eq, beq_iff_eq, Array.getElem?_toList] at hj
        obtain ⟨⟨hjk, hany⟩, hd⟩ := hj
        obtain ⟨e, he, hb⟩ := List.any_eq_true.1 hany
        simp only [Bool.and_eq_true, beq_iff_eq] at hb
        have hl := hdep e (by simpa using he) hb.2
        rw [hb.1] at hl
        cases hoj : ops[j]? with
        | none => rw [hoj] at hd; simp at hd
        | some oj =>
          rw [hoj] at hd
          exact hm.has j oj d hjk hoj (by simpa using hd) hl
      have hto : (ops.toList.take k)[i]? = some o := by rw [List.getElem?_take, if_pos hik, Array.getElem?_toList]; exact ho
      obtain ⟨d, hd, hlt, hall⟩ := dstsOk_spec hD i o hto
      have hnext : ∀ v w', Below w.heap.size w w' → φ i v w' → wpAny P .any ops Q fuel (listed.setIfInBounds i true) (a.put o.dst v) w' := by
        intro v w' hb hf
        refine ih _ _ _ (by omega) ⟨by rw [put_size]; exact hm.size, by rw [put_def]; exact hm.defs, by simp; exact hm.lsize, fun t ht => ?_, fun j oj dj hj hoj hdj hlj => ?_, fun j hj1 hj2 => ?_, hm.grow.trans (hb.mono hm.grow.size)⟩
        · rw [put_other _ _ _ _ (freeOf_spec ht hto)]; exact hm.old t ht
        · by_cases e : j = i
          · subst e
            obtain rfl : oj = o := Option.some.inj (hoj.symm.trans ho)
            obtain rfl : dj = d := Option.some.inj (hdj.symm.trans hd)
            have hev : (a.put oj.dst v).eval (.tmp dj) = v := by
              have := put_same a dj v (by rw [hm.size]; exact hlt)
              rw [← hd] at this
              simp [Act.eval, this]
            rw [hev]; exact hf
          · have htj : (ops.toList.take k)[j]? = some oj := by rw [List.getElem?_take, if_pos hj, Array.getElem?_toList]; exact hoj
            have hne : o.dst ≠ some dj := fun h => by
              have : d = dj := Option.some.inj (hd.symm.trans h)
              exact hall j oj htj e (by rw [this]; exact hdj)
            rw [eval_of_get (put_other a o.dst v dj hne)]
            refine hM j _ w w' (hm.has j oj dj hj hoj hdj ?_) hb
            have hne2 : i ≠ j := fun h => e h.symm
            simpa [Array.getElem?_setIfInBounds, hne2] using hlj
        · have hne : i ≠ j := by omega
          have := hm.last j hj1 hj2
          simpa [Array.getElem?_setIfInBounds, hne] using this
      have hyield : ∀ (j : Nat) (b c : Bool), o.guard = some (j, b) → (∃ d, depOk ops.toList k o j d = true) → (∀ v w, φ j v w → v = .bool c) → yielded ops a.tmps j = some c := by
        rintro j b c hg ⟨d, hd⟩ hbool
        have hv := hbool _ _ (hK.dep j d hd)
        have hd2 : (ops[j]?).bind (·.dst) = some d := by
          unfold depOk at hd
          simp only [Bool.and_eq_true, decide_eq_true_eq, beq_iff_eq, Array.getElem?_toList] at hd
          exact hd.2
        have hget : a.tmps[d]? = some (.bool c) := by
          simp only [Act.eval, Array.getD_eq_getD_getElem?] at hv
          cases hq : a.tmps[d]? with
          | none => rw [hq] at hv; simp [undef] at hv
          | some u => rw [hq] at hv; simp at hv; rw [hv]
        unfold yielded
        rw [hd2]
        simp only [Option.bind_some, hget]
      unfold wpOp
      rw [ho]
      show if Region.wanted o (yielded ops a.tmps) = true then _ else _
      have hyes : Region.wanted o (yielded ops a.tmps) = true → (∀ (j : Nat) (b : Bool), o.guard = some (j, b) → ∀ v w, φ j v w → v = .bool b) → (if Region.wanted o (yielded ops a.tmps) = true then o.wp P a w (wpAny P .any ops Q fuel (listed.setIfInBounds i true)) Q ∨ (o.asks P a w ∧ LetsOut Q) else wpAny P .any ops Q fuel (listed.setIfInBounds i true) (a.put o.dst undef) w) := by
        intro hwant hb
        rw [if_pos hwant]
        refine .inl (Oper.wp_mono ?_ (hS i o hik ho hb a w hK))
        rintro a' w' ⟨v, rfl, hb, hf⟩
        exact hnext v w' hb hf
      cases hg : o.guard with
      | none => exact hyes (by unfold Region.wanted; rw [hg]) (fun j b h => by rw [hg] at h; cases h)
      | some jb =>
        obtain ⟨j, b⟩ := jb
        obtain ⟨hd, hbool | ⟨hbool, hany⟩⟩ := hG i o j b hik ho hg
        · refine hyes ?_ (fun j' b' h => by rw [hg] at h; obtain ⟨rfl, rfl⟩ := Prod.mk.inj (Option.some.inj h); exact hbool)
          unfold Region.wanted
          rw [hg]
          show (yielded ops a.tmps j == some b) = true
          rw [hyield j b b hg hd hbool]; simp
        · have hno : Region.wanted o (yielded ops a.tmps) = false := by
            unfold Region.wanted
            rw [hg]
            show (yielded ops a.tmps j == some b) = false
            rw [hyield j b (!b) hg hd hbool]; cases b <;> rfl
          rw [if_neg (by rw [hno]; simp)]
          exact hnext undef w (Below.refl _ _) (hany _ _)
    · have hik' : i = k := by omega
      subst hik'
      have hsz : ops.size = i + 1 := by omega
      have hedges : ∀ j, j < i → listed.getD j false = true := by
        have h := hE
        unfold edgesOk at h
        simp only [Bool.and_eq_true, Array.getElem?_toList, ho, Option.map_some, Option.getD_some] at h
        intro j hj
        have h2 := List.all_eq_true.1 h.2 j (by simpa using hj)
        obtain ⟨e, he, hb⟩ := List.any_eq_true.1 h2
        simp only [Bool.and_eq_true, beq_iff_eq] at hb
        have := hdep e (by simpa using he) hb.2
        rw [hb.1] at this
        exact this
      obtain ⟨vs, hv, e⟩ := frame_eq hD hm (fun j hj _ => hedges j hj) hk
      have hW := hF vs w hv hm.grow
      have hdrop : ops.toList.drop i = [o] := by
        rw [List.drop_eq_getElem_cons (by simp; omega), List.drop_of_length_le (by simp; omega)]
        congr 1
        have := (Array.getElem?_eq_some_iff.1 ho).2
        simpa using this
      rw [← e, hdrop] at hW
      have hend : ∀ a' w', Q .normal a' w' → wpAny P .any ops Q fuel (listed.setIfInBounds i true) a' w' := by
        intro a' w' hq
        refine wpAny_nil (all_listed_ready (by simp; exact hm.lsize) ?_) hq
        unfold unl
        rw [Array.countP_eq_zero]
        intro b hb
        obtain ⟨j, hj, rfl⟩ := Array.mem_iff_getElem.1 hb
        have hj' : j < ops.size := by simp [hm.lsize] at hj; exact hj
        rw [Array.getElem_setIfInBounds (by simpa using hj)]
        by_cases e : i = j
        · simp [e]
        · have h1 := hedges j (by omega)
          have hj2 : j < listed.size := by rw [hm.lsize]; exact hj'
          simp [e]
          simpa [hj2] using h1
      unfold wpOp
      rw [ho]
      unfold wpList at hW
      show if Region.wanted o (yielded ops a.tmps) = true then _ else _
      split
      · rename_i hq; rw [if_pos hq] at hW
        exact hW.imp (Oper.wp_mono (fun a' w' h => hend a' w' h)) id
      · rename_i hq; rw [if_neg hq] at hW
        exact hend _ _ hW
end
end Go.Proofs.YtakdpkoigijonaaGreat
namespace Go.Proofs.YtakdpkoigijonaaGreat
set_option maxRecDepth 100000
open Go.RowKit
end Go.Proofs.YtakdpkoigijonaaGreat
namespace Go.Proofs.YtakdpkoigijonaaGreat
set_option maxRecDepth 100000
open Go.RowKit
theorem below_setRow (B : Nat) (w : World) (g : Nat) (cs : Array Value) (h : B ≤ g) : Below B w (w.setRow g cs) :=
  ⟨rfl, rfl, rfl, by simp, fun k hk => setRow_other w g k cs (by omega)⟩
attribute [local go_sem] vl_xor vl_and vl_or vl_not vl_add vl_addw shr3_raw shr10_raw bv_wrap bv_wrapw shl24_raw shl16_raw shl8_raw
end Go.Proofs.YtakdpkoigijonaaGreat
namespace Go.Proofs.YtakdpkoigijonaaGreat
set_option maxRecDepth 100000
open Go.RowKit
theorem code_any {P : Program} {c : Code} {Q : Exit → Act → World → Prop} {a : Act} {w : World} (F : World → Prop) (hF : F w) (h : ∀ w2, F w2 → Code.wp P c Q a w2) : Code.wp P c Q a w := h w hF
attribute [local go_sem] vl_xor vl_and vl_or vl_not vl_notw vl_add vl_addw
end Go.Proofs.YtakdpkoigijonaaGreat
namespace Go.Proofs.YtakdpkoigijonaaGreat
set_option maxRecDepth 100000
open Go.RowKit

/-- w' is as w was, but for block g and for new blocks. -/
structure Only (g : Nat) (w w' : World) : Prop where
  os : w'.os = w.os
  tape : w'.tape = w.tape
  output : w'.output = w.output
  size : w.heap.size ≤ w'.heap.size
  block : ∀ k, k < w.heap.size → k ≠ g → w'.heap[k]? = w.heap[k]?
theorem Only.refl (g : Nat) (w : World) : Only g w w := ⟨rfl, rfl, rfl, Nat.le_refl _, fun _ _ _ => rfl⟩
theorem Only.trans {g : Nat} {a b c : World} (h : Only g a b) (k : Only g b c) : Only g a c :=
  ⟨k.os.trans h.os, k.tape.trans h.tape, k.output.trans h.output, Nat.le_trans h.size k.size, fun i hi hg => (k.block i (Nat.lt_of_lt_of_le hi h.size) hg).trans (h.block i hi hg)⟩
theorem Only.drew {g : Nat} {a w : World} (h : Only g a w) : Only g a w.drew := ⟨h.os, h.tape, h.output, h.size, h.block⟩
theorem Only.setCell {g : Nat} {a w : World} (h : Only g a w) (o : Nat) (v : Value) : Only g a (w.setCell ⟨g, o, none⟩ v) :=
  h.trans ⟨rfl, rfl, rfl, by simp [World.setCell], fun k _ hk => heap_setCell_other _ _ _ _ hk⟩
theorem Only.setRow {g : Nat} {a w : World} (h : Only g a w) (cs : Array Value) : Only g a (w.setRow g cs) :=
  h.trans ⟨rfl, rfl, rfl, by simp, fun k _ hk => setRow_other w g k cs hk⟩
theorem Only.of_below {g : Nat} {a w : World} (h : Below a.heap.size a w) : Only g a w := ⟨h.os, h.tape, h.output, h.size, fun k hk _ => h.block k hk⟩
theorem Only.below {g : Nat} {a w : World} (h : Only g a w) (B : Nat) (h1 : B ≤ g) (h2 : B ≤ a.heap.size) : Below B a w := ⟨h.os, h.tape, h.output, h.size, fun k hk => h.block k (by omega) (by omega)⟩
theorem Only.cell {g : Nat} {a w : World} (h : Only g a w) {p : Addr} (hp : p.block < a.heap.size) (hg : p.block ≠ g) : w.cell? p = a.cell? p := World.cell?_of_block (w := a) (h.block p.block hp hg)
theorem HasB.only {w w' : World} {g b o : Nat} {bs : List (BitVec 8)} (h : HasB w b o bs) (hb : Only g w w') (hB : b < w.heap.size) (hg : b ≠ g) : HasB w' b o bs := fun i hi => by rw [hb.cell (by exact hB) (by exact hg)]; exact h i hi
theorem HasK.only {w w' : World} {g k : Nat} (h : HasK w k) (hb : Only g w w') (hB : k < w.heap.size) (hg : k ≠ g) : HasK w' k := fun i hi => by rw [hb.cell (by exact hB) (by exact hg)]; exact h i hi

/-- A byte in a cell. -/
def V (x : BitVec 8) : Value := .int .u8 (bv x)
/-- A digest: the eight numbers, the block that isn't full yet, how many bytes. -/
structure Dg where
  st : St
  blk : List (BitVec 8)
  len : Nat
def Dg.cells (d : Dg) : List Value := d.st.list.map U ++ (d.blk.map V ++ [.int .i64 (d.len : Int)])
def HasD (w : World) (b : Nat) (T : TypeId) (d : Dg) : Prop := d.blk.length = 64 ∧ w.heap[b]? = some (.cells d.cells.toArray T (0, 0))
theorem HasD.at {w : World} {b : Nat} {T : TypeId} {d : Dg} (h : HasD w b T d) (i : Nat) : w.cell? ⟨b, i, none⟩ = d.cells[i]? := by
  rw [cell_of_row w b i _ T _ h.2]; simp
theorem HasD.frozen {w : World} {b : Nat} {T : TypeId} {d : Dg} (h : HasD w b T d) (i : Nat) : w.frozen? ⟨b, i, none⟩ = false := frozen_of_row w b i _ T h.2
theorem HasD.s0 {w : World} {b : Nat} {T : TypeId} {d : Dg} (h : HasD w b T d) : w.cell? ⟨b, 0, none⟩ = some (.int .u32 (vl d.st.a)) := by rw [h.at]; rfl
theorem HasD.s1 {w : World} {b : Nat} {T : TypeId} {d : Dg} (h : HasD w b T d) : w.cell? ⟨b, 1, none⟩ = some (.int .u32 (vl d.st.b)) := by rw [h.at]; rfl
theorem HasD.s2 {w : World} {b : Nat} {T : TypeId} {d : Dg} (h : HasD w b T d) : w.cell? ⟨b, 2, none⟩ = some (.int .u32 (vl d.st.c)) := by rw [h.at]; rfl
theorem HasD.s3 {w : World} {b : Nat} {T : TypeId} {d : Dg} (h : HasD w b T d) : w.cell? ⟨b, 3, none⟩ = some (.int .u32 (vl d.st.d)) := by rw [h.at]; rfl
theorem HasD.s4 {w : World} {b : Nat} {T : TypeId} {d : Dg} (h : HasD w b T d) : w.cell? ⟨b, 4, none⟩ = some (.int .u32 (vl d.st.e)) := by rw [h.at]; rfl
theorem HasD.s5 {w : World} {b : Nat} {T : TypeId} {d : Dg} (h : HasD w b T d) : w.cell? ⟨b, 5, none⟩ = some (.int .u32 (vl d.st.f)) := by rw [h.at]; rfl
theorem St.len (s : St) : (s.list.map U).length = 8 := rfl
theorem HasD.bytes {w : World} {b : Nat} {T : TypeId} {d : Dg} (h : HasD w b T d) : HasB w b 8 d.blk := fun i hi => by
  rw [h.at, Dg.cells, List.getElem?_append_right (by rw [St.len]; omega), St.len, show 8 + i - 8 = i by omega, List.getElem?_append_left (by simpa using hi)]
  simp [V, hi]
theorem HasD.num {w : World} {b : Nat} {T : TypeId} {d : Dg} (h : HasD w b T d) : w.cell? ⟨b, 72, none⟩ = some (.int .i64 (d.len : Int)) := by
  rw [h.at, Dg.cells, List.getElem?_append_right (by rw [St.len]; omega), St.len, List.getElem?_append_right (by simp [h.1])]
  simp [h.1]
theorem Dg.size (d : Dg) (h : d.blk.length = 64) : d.cells.length = 73 := by simp [Dg.cells, h, St.list]
theorem HasD.only {w w' : World} {g b : Nat} {T : TypeId} {d : Dg} (h : HasD w b T d) (hb : Only g w w') (hg : b ≠ g) : HasD w' b T d := by
  refine ⟨h.1, ?_⟩
  have hlt : b < w.heap.size := (Array.getElem?_eq_some_iff.1 h.2).1
  rw [hb.block b hlt hg]; exact h.2
theorem HasD.lt {w : World} {b : Nat} {T : TypeId} {d : Dg} (h : HasD w b T d) : b < w.heap.size := (Array.getElem?_eq_some_iff.1 h.2).1
theorem HasD.below {w w' : World} {b : Nat} {T : TypeId} {d : Dg} (h : HasD w b T d) (hb : Below w.heap.size w w') : HasD w' b T d := ⟨h.1, by rw [hb.block b h.lt]; exact h.2⟩
theorem HasD.drew {w : World} {b : Nat} {T : TypeId} {d : Dg} (h : HasD w b T d) : HasD w.drew b T d := h
/-- copy into a row that is known whole, exactly. -/
theorem wpList_copy_exact {P : Program} {w : World} {ops : Array Oper} {rest : List Oper} {o : Oper} {a : Act} {Q : Exit → Act → World → Prop} (hgd : o.guard = none) (d s : Operand) (dT sT : TypeId)
    (ho : o.op = .call { callee := .builtin .copy, args := #[d, s], argTypes := #[dT, sT] }) (elem : TypeId) (hu : P.underlying dT = some (.slice elem)) (hsz : (P.info? elem).map (·.size) = some 1)
    (dp sp : Option Addr) (dLen dCap sLen sCap : Nat) (hd : a.eval d = .slice dp dLen dCap) (hs : a.eval s = .slice sp sLen sCap)
    (g off : Nat) (cur : List Value) (t : TypeId) (hg : w.heap[g]? = some (.cells cur.toArray t (0, 0))) (cs : List Value) (hn : cs.length = Nat.min sLen dLen)
    (hpos : 0 < cs.length → dp = some ⟨g, off, none⟩ ∧ ∃ ad, sp = some ad ∧ ∀ j v, cs[j]? = some v → w.cell? (ad.add j) = some v)
    (hfit : off + cs.length ≤ cur.length) (h1 : ∀ v ∈ cs, v.oneCell' = true)
    (h : wpList P ops Q rest (a.put o.dst (goInt cs.length)) (w.setRow g (splice cur off cs).toArray)) :
    wpList P ops Q (o :: rest) a w := by
  by_cases h0 : cs.length = 0
  · obtain rfl : cs = [] := List.eq_nil_of_length_eq_zero h0
    refine wpList_copy_nothing hgd d s dT sT ho elem hu hsz dp sp dLen dCap sLen sCap hd hs (by simpa using hn.symm) ?_
    have e : w.setRow g (splice cur off []).toArray = w := by
      rw [show splice cur off [] = cur by simp [splice]]
      exact setRow_self w g _ t _ hg
    rw [e] at h; exact h
  · obtain ⟨rfl, ad, rfl, hsrc⟩ := hpos (by omega)
    refine wpList_copy_own hgd d s dT sT ho elem hu hsz g off dLen dCap ad sLen sCap hd hs cur.toArray t hg cs hn hsrc (by simpa using hfit) h1 ?_
    exact h
theorem V_one (bs : List (BitVec 8)) : ∀ v ∈ bs.map V, v.oneCell' = true := by
  intro v hv
  obtain ⟨x, _, rfl⟩ := List.mem_map.1 hv
  rfl
theorem HasB.src {w : World} {b o : Nat} {bs : List (BitVec 8)} (h : HasB w b o bs) (n : Nat) : ∀ j v, ((bs.take n).map V)[j]? = some v → w.cell? ((⟨b, o, none⟩ : Addr).add j) = some v := by
  intro j v hj
  have hadd : (⟨b, o, none⟩ : Addr).add j = ⟨b, o + j, none⟩ := by unfold Addr.add; split <;> simp_all
  rw [hadd]
  simp only [List.getElem?_map, Option.map_eq_some_iff] at hj
  obtain ⟨x, hx, rfl⟩ := hj
  have hx2 := (List.getElem?_eq_some_iff.1 hx)
  obtain ⟨hl, e⟩ := hx2
  have hjl : j < bs.length := by simp at hl; omega
  rw [h j hjl]
  simp at e
  simp [V, hjl, e]
theorem HasB.drop {w : World} {b o : Nat} {bs : List (BitVec 8)} (h : HasB w b o bs) (n : Nat) : HasB w b (o + n) (bs.drop n) := by
  intro i hi
  rw [List.length_drop] at hi
  have := h (n + i) (by omega)
  rw [Nat.add_assoc, this]
  simp
theorem HasB.take {w : World} {b o : Nat} {bs : List (BitVec 8)} (h : HasB w b o bs) (n : Nat) : HasB w b o (bs.take n) := by
  intro i hi
  rw [List.length_take] at hi
  rw [h i (by omega)]
  simp [show i < n by omega]

/-- k blocks of 64 bytes are mixed in. -/
def mixs (s : St) (b : List (BitVec 8)) : Nat → St
  | 0 => s
  | k + 1 => mix (mixs s b k) ((b.drop (64 * k)).take 64)
def Dg.rest (s : St) (blk : List (BitVec 8)) (len : Nat) (b : List (BitVec 8)) : Dg := ⟨mixs s b (b.length / 64), splice blk 0 (b.drop (64 * (b.length / 64))), len⟩
/-- What writing makes of a digest. -/
def Dg.write (d : Dg) (b : List (BitVec 8)) : Dg :=
  if d.len % 64 = 0 then Dg.rest d.st d.blk (d.len + b.length) b
  else if b.length < 64 - d.len % 64 then ⟨d.st, splice d.blk (d.len % 64) b, d.len + b.length⟩
  else Dg.rest (mix d.st (splice d.blk (d.len % 64) (b.take (64 - d.len % 64)))) (splice d.blk (d.len % 64) (b.take (64 - d.len % 64))) (d.len + b.length) (b.drop (64 - d.len % 64))
/-- Block b of the world is an array of bytes. -/
def HasV (w : World) (b : Nat) (T : TypeId) (xs : List (BitVec 8)) : Prop := w.heap[b]? = some (.cells (xs.map V).toArray T (0, 0))
theorem HasV.cell {w : World} {b : Nat} {T : TypeId} {xs : List (BitVec 8)} (h : HasV w b T xs) (i : Nat) (hi : i < xs.length) : w.cell? ⟨b, i, none⟩ = some (.int .u8 (bv (xs.getD i 0))) := by
  unfold HasV at h
  simp [World.cell?, h, hi, V]
theorem HasV.bytes {w : World} {b : Nat} {T : TypeId} {xs : List (BitVec 8)} (h : HasV w b T xs) : HasB w b 0 xs := fun i hi => by rw [Nat.zero_add]; exact h.cell i hi
theorem HasV.frozen {w : World} {b : Nat} {T : TypeId} {xs : List (BitVec 8)} (h : HasV w b T xs) (i : Nat) : w.frozen? ⟨b, i, none⟩ = false := by
  unfold HasV at h
  simp [World.frozen?, h]
theorem HasV.set {w : World} {b : Nat} {T : TypeId} {xs : List (BitVec 8)} (h : HasV w b T xs) (i : Nat) (x : BitVec 8) : HasV (w.setCell ⟨b, i, none⟩ (.int .u8 (bv x))) b T (xs.set i x) := by
  unfold HasV at *
  simp [World.setCell, Array.getElem?_modify, h, V, List.map_set]
theorem HasV.below {w w' : World} {B b : Nat} {T : TypeId} {xs : List (BitVec 8)} (h : HasV w b T xs) (hb : Below B w w') (hB : b < B) : HasV w' b T xs := by
  unfold HasV at *
  rw [hb.block b hB]; exact h
theorem HasV.drew {w : World} {b : Nat} {T : TypeId} {xs : List (BitVec 8)} (h : HasV w b T xs) : HasV w.drew b T xs := h
theorem HasV.other {w : World} {b : Nat} {T : TypeId} {xs : List (BitVec 8)} (h : HasV w b T xs) (a : Addr) (v : Value) (hne : b ≠ a.block) : HasV (w.setCell a v) b T xs := by
  unfold HasV at *
  rw [heap_setCell_other _ _ _ _ hne]; exact h
theorem HasV.lt {w : World} {b : Nat} {T : TypeId} {xs : List (BitVec 8)} (h : HasV w b T xs) : b < w.heap.size := (Array.getElem?_eq_some_iff.1 h).1
theorem bv_lit (n : Nat) : bv (BitVec.ofNat 8 n) = ((n % 256 : Nat) : Int) := by unfold bv; rw [BitVec.toNat_ofNat]
/-- Byte j (of four, the highest first) of a word. -/
def byt (x : BitVec 32) (j : Nat) : BitVec 8 := BitVec.ofNat 8 (x.toNat / 2 ^ (24 - 8 * j))
theorem byt0 (x : BitVec 32) : (vl x / (16777216 : Int)) % (256 : Int) = bv (byt x 0) := by unfold vl byt; rw [bv_lit]; omega
theorem byt1 (x : BitVec 32) : (vl x / (65536 : Int)) % (256 : Int) = bv (byt x 1) := by unfold vl byt; rw [bv_lit]; omega
theorem byt2 (x : BitVec 32) : (vl x / (256 : Int)) % (256 : Int) = bv (byt x 2) := by unfold vl byt; rw [bv_lit]; omega
theorem byt3 (x : BitVec 32) : vl x % (256 : Int) = bv (byt x 3) := by unfold vl byt; rw [bv_lit]; omega
/-- The sum's bytes: of the first k numbers. -/
def hsh (s : St) : Nat → List (BitVec 8)
  | 0 => List.replicate 32 0
  | k + 1 => ((((hsh s k).set (4 * k) (byt (s.list.getD k 0) 0)).set (4 * k + 1) (byt (s.list.getD k 0) 1)).set (4 * k + 2) (byt (s.list.getD k 0) 2)).set (4 * k + 3) (byt (s.list.getD k 0) 3)
/-- Byte i of the count of bits. -/
def cb (n i : Nat) : BitVec 8 := BitVec.ofNat 8 (n * 8 / 2 ^ (8 * (7 - i)))
def padEnd (n : Nat) : Nat := 1 + (119 - n % 64) % 64
def padArr (n : Nat) : Nat → List (BitVec 8)
  | 0 => (List.replicate 72 0).set 0 128
  | i + 1 => (padArr n i).set (padEnd n + i) (cb n i)
/-- What is put behind n bytes. -/
def padOf (n : Nat) : List (BitVec 8) := (padArr n 8).take (padEnd n + 8)
/-- The sum of a digest. -/
def Dg.sum (d : Dg) : List (BitVec 8) := hsh (d.write (padOf d.len)).st 8
theorem HasV.alloc {w : World} {b : Nat} {T : TypeId} {xs : List (BitVec 8)} (h : HasV w b T xs) (o : Obj) : HasV (w.alloc o) b T xs := by
  have hl := h.lt
  unfold HasV at *
  rw [Below.heap_alloc w o b hl]; exact h
end Go.Proofs.YtakdpkoigijonaaGreat
namespace Go.Proofs.YtakdpkoigijonaaGreat
set_option maxRecDepth 100000
open Go.RowKit
def St.agg (s : St) : Value := .agg #[.int .u32 (vl s.a), .int .u32 (vl s.b), .int .u32 (vl s.c), .int .u32 (vl s.d), .int .u32 (vl s.e), .int .u32 (vl s.f), .int .u32 (vl s.g), .int .u32 (vl s.h)]
/-- A digest of no bytes. -/
def Dg.new : Dg := ⟨St.first, List.replicate 64 0, 0⟩
def Dg.zero : Dg := ⟨⟨0, 0, 0, 0, 0, 0, 0, 0⟩, List.replicate 64 0, 0⟩
end Go.Proofs.YtakdpkoigijonaaGreat
namespace Go.Proofs.YtakdpkoigijonaaGreat
set_option maxRecDepth 100000
open Go.RowKit
theorem Tryz.under22 : Tryz.prog.underlying 22 = some (.slice 5) := by kernel_rfl
theorem Tryz.sizeOf5 (w : World) : (sizeOf 5).run Tryz.prog w = .ok 1 w := by kernel_rfl
end Go.Proofs.YtakdpkoigijonaaGreat
namespace Go.Proofs.YtakdpkoigijonaaGreat
set_option maxRecDepth 100000
open Go.RowKit
attribute [local go_sem] byt0 byt1 byt2 byt3
end Go.Proofs.YtakdpkoigijonaaGreat
namespace Go.Proofs.YtakdpkoigijonaaGreat
set_option maxRecDepth 100000
open Go.RowKit
/-- The sum of bytes. -/
def shaOf (bs : List (BitVec 8)) : List (BitVec 8) := (Dg.new.write bs).sum
end Go.Proofs.YtakdpkoigijonaaGreat
namespace Go.Proofs.YtakdpkoigijonaaGreat
set_option maxRecDepth 100000
open Go.RowKit
end Go.Proofs.YtakdpkoigijonaaGreat
namespace Go.Proofs.YtakdpkoigijonaaGreat
set_option maxRecDepth 100000
open Go.RowKit
theorem Tryz.under5 : Tryz.prog.underlying 5 = some (.int .u8) := by kernel_rfl
theorem Tryz.under9 : Tryz.prog.underlying 9 = some .string := by kernel_rfl
theorem Tryz.isAgg5 (w : World) : (isAgg 5).run Tryz.prog w = .ok false w := by kernel_rfl
theorem and15_all : ∀ x : Fin 256, bits .and .u8 ((x.val : Nat) : Int) 15 = ((x.val % 16 : Nat) : Int) := by decide +kernel
theorem and15 (x : BitVec 8) : bits .and .u8 (bv x) (15 : Int) = bv x % (16 : Int) := by
  have := and15_all ⟨x.toNat, x.isLt⟩
  unfold bv
  simpa using this
attribute [local go_sem] and15
end Go.Proofs.YtakdpkoigijonaaGreat
namespace Go.Proofs.YtakdpkoigijonaaGreat
set_option maxRecDepth 100000
open Go.RowKit
theorem Tryz.info5 : (Tryz.prog.info? 5).map (fun i => (i.zero, i.size, i.bytes)) = some (some (.int .u8 0), 1, 1) := by kernel_rfl
/-- A slice value of bytes that came in. -/
structure Sl (w : World) (sp : Option Addr) (m c : Nat) (bs : List (BitVec 8)) (b o : Nat) : Prop where
  len : m = bs.length
  cap : m ≤ c
  nil : sp = none → m = 0 ∧ c = 0
  src : 0 < m → sp = some ⟨b, o, none⟩ ∧ b < w.heap.size ∧ HasB w b o bs
theorem Sl.only {w w' : World} {g : Nat} {sp : Option Addr} {m c : Nat} {bs : List (BitVec 8)} {b o : Nat} (h : Sl w sp m c bs b o) (ho : Only g w w') (hg : 0 < m → b ≠ g) : Sl w' sp m c bs b o :=
  ⟨h.len, h.cap, h.nil, fun hm => by
    obtain ⟨e, hl, hB⟩ := h.src hm
    exact ⟨e, Nat.lt_of_lt_of_le hl ho.size, hB.only ho hl (hg hm)⟩⟩
theorem Sl.below {w w' : World} {B : Nat} {sp : Option Addr} {m c : Nat} {bs : List (BitVec 8)} {b o : Nat} (h : Sl w sp m c bs b o) (ho : Below B w w') (hg : 0 < m → b < B) : Sl w' sp m c bs b o :=
  ⟨h.len, h.cap, h.nil, fun hm => by
    obtain ⟨e, hl, hB⟩ := h.src hm
    exact ⟨e, Nat.lt_of_lt_of_le hl ho.size, hB.below ho (hg hm)⟩⟩
/-- append of bytes onto a slice of the call's own. -/
theorem append22 {ops : Array Oper} {rest : List Oper} {o : Oper} {a : Act} {w : World} {Q : Exit → Act → World → Prop} (hgd : o.guard = none) (s x : Operand)
    (ho : o.op = .call { callee := .builtin .append, args := #[s, x], argTypes := #[22, 22] })
    (base : Nat) (v : Value) (n : Nat) (xs : List (BitVec 8)) (hs : a.eval s = v) (hown : w.ownsRow base 5 1 v n (xs.map V))
    (sp : Option Addr) (m c : Nat) (bs : List (BitVec 8)) (sb so : Nat) (hx : a.eval x = .slice sp m c) (hsl : Sl w sp m c bs sb so) (hb : n + m ≤ 140737488355328) (hbase : base ≤ w.heap.size)
    (h : ∀ v' w', w'.ownsRow base 5 1 v' (n + m) ((xs ++ bs).map V) → w.grownBy w' v.ownBlock → wpList Tryz.prog ops Q rest (a.put o.dst v') w') : wpList Tryz.prog ops Q (o :: rest) a w := by
  obtain ⟨i0, hi, hz0, hz1, hz2⟩ := info_parts Tryz.info5
  cases sp with
  | none =>
    obtain ⟨rfl, rfl⟩ := hsl.nil rfl
    have hbs : bs = [] := List.eq_nil_of_length_eq_zero hsl.len.symm
    subst hbs
    refine wpList_append_own_none hgd s x 22 ho base 5 i0 1 Tryz.under22 hi v n _ hs hown hx (h v w ?_ ⟨rfl, rfl, rfl, Nat.le_refl _, fun _ _ _ => rfl⟩)
    rw [List.append_nil]; exact hown
  | some ad =>
    refine wpList_append_own w hgd s x 22 ho base 5 i0 (.int .u8 0) 1 1 Tryz.under22 hi hz0 hz1 hz2 rfl (by decide) v n (xs.map V) hs hown ad m c (bs.map V) hx (by rw [List.length_map, Nat.mul_one]; exact hsl.len.symm) ?_ (V_one bs) (by unfold maxLen; omega) (by omega) hbase ?_
    · intro j u hj
      have hjl : j < bs.length := by have := (List.getElem?_eq_some_iff.1 hj).1; simpa using this
      have hl := hsl.len
      obtain ⟨e, _, hB⟩ := hsl.src (by omega)
      obtain rfl := Option.some.inj e
      have := hB.src bs.length j u
      rw [List.take_of_length_le (Nat.le_refl _)] at this
      exact this hj
    · intro v' w' h1 h2 _
      rw [← List.map_append] at h1
      exact h v' w' h1 h2
end Go.Proofs.YtakdpkoigijonaaGreat
namespace Go.Proofs.YtakdpkoigijonaaGreat
set_option maxRecDepth 100000
open Go.RowKit
/-- A slice value, and the bytes that it has. -/
structure Pt where
  sp : Option Addr
  m : Nat
  c : Nat
  bs : List (BitVec 8)
  b : Nat
  o : Nat
def Pt.ok (w : World) (p : Pt) : Prop := Sl w p.sp p.m p.c p.bs p.b p.o
/-- In block lb, from place lo on, lie the slices ps. -/
structure Ls (w : World) (lb lo : Nat) (ps : List Pt) : Prop where
  cell : ∀ (i : Nat) (p : Pt), ps[i]? = some p → w.cell? ⟨lb, lo + i, none⟩ = some (.slice p.sp p.m p.c)
  ok : ∀ (i : Nat) (p : Pt), ps[i]? = some p → p.ok w
/-- The bytes of all. -/
def cat : List Pt → List (BitVec 8)
  | [] => []
  | p :: r => p.bs ++ cat r
theorem cat_append (a b : List Pt) : cat (a ++ b) = cat a ++ cat b := by
  induction a with
  | nil => rfl
  | cons p r ih => simp [cat, ih]
theorem cat_take (ps : List Pt) (k : Nat) (p : Pt) (h : ps[k]? = some p) : cat (ps.take (k + 1)) = cat (ps.take k) ++ p.bs := by
  rw [List.take_add_one, h, cat_append]; simp [cat]
theorem cat_le (ps : List Pt) (k : Nat) : (cat (ps.take k)).length ≤ (cat ps).length := by
  have := congrArg (fun l => (cat l).length) (List.take_append_drop k ps)
  simp only [cat_append, List.length_append] at this
  omega
theorem Pt.ok_below {w w' : World} {p : Pt} (h : p.ok w) (hb : Below w.heap.size w w') : p.ok w' := Sl.below (B := w.heap.size) h hb (fun hm => (Sl.src h hm).2.1)
theorem Ls.lt {w : World} {lb lo : Nat} {ps : List Pt} (h : Ls w lb lo ps) {i : Nat} {p : Pt} (hi : ps[i]? = some p) : lb < w.heap.size := block_lt_of_cell (h.cell i p hi)
theorem Ls.below {w w' : World} {lb lo : Nat} {ps : List Pt} (h : Ls w lb lo ps) (hb : Below w.heap.size w w') : Ls w' lb lo ps :=
  ⟨fun i p hi => by rw [hb.cell (h.lt hi)]; exact h.cell i p hi, fun i p hi => Pt.ok_below (h.ok i p hi) hb⟩
/-- The kind's byte. -/
def kb (k : Int) : BitVec 8 := BitVec.ofInt 8 k
theorem kb_v (k : Int) : k % (256 : Int) = bv (kb k) := by unfold kb bv; rw [BitVec.toNat_ofInt]; omega
/-- So many bytes 0. -/
def zs (c : Nat) : List (BitVec 8) := List.replicate c 0
theorem zs_len (c : Nat) : (zs c).length = c := List.length_replicate
/-- v is a slice of the call's own that has the bytes xs. -/
def Own8 (w : World) (base : Nat) (v : Value) (n : Nat) (xs : List (BitVec 8)) : Prop := w.ownsRow base 5 1 v n (xs.map V)
theorem made_eq (c : Nat) : madeCells (Value.int .u8 0).cells c = ((zs c).map V).toArray := by
  unfold zs
  apply Array.ext
  · simp [size_madeCells]
  · intro i h1 h2
    simp [madeCells, V, bv, Value.cells, Nat.mod_one]
theorem Tryz.under23 : Tryz.prog.underlying 23 = some (.slice 22) := by kernel_rfl
end Go.Proofs.YtakdpkoigijonaaGreat
namespace Go.Proofs.YtakdpkoigijonaaGreat
set_option maxRecDepth 100000
open Go.RowKit
def Pt.val (p : Pt) : Value := .slice p.sp p.m p.c
/-- All of them lie in memory. -/
def Oks (w : World) (ps : List Pt) : Prop := ∀ (i : Nat) (p : Pt), ps[i]? = some p → p.ok w
theorem Oks.nil {w : World} : Oks w [] := fun i p h => by simp at h
theorem Oks.cons {w : World} {q : Pt} {ps : List Pt} (h : q.ok w) (hs : Oks w ps) : Oks w (q :: ps) := fun i p hi => by
  cases i with
  | zero => obtain rfl : q = p := by simpa using hi
            exact h
  | succ i => exact hs i p (by simpa using hi)
theorem Oks.below {w w' : World} {ps : List Pt} (h : Oks w ps) (hb : Below w.heap.size w w') : Oks w' ps := fun i p hi => Pt.ok_below (h i p hi) hb
theorem ls_new (w : World) (T : TypeId) (ps : List Pt) (h : Oks w ps) : Ls (w.alloc (.cells (ps.map Pt.val).toArray T)) w.heap.size 0 ps :=
  ⟨fun i p hi => by
    rw [World.cell?_alloc_mark, Nat.zero_add]
    simp [hi, Pt.val], h.below ((Below.refl _ _).alloc (Nat.le_refl _) _)⟩
end Go.Proofs.YtakdpkoigijonaaGreat
namespace Go.Proofs.YtakdpkoigijonaaGreat
set_option maxRecDepth 100000
open Go.RowKit
/-- A number's last two bytes, the higher first. -/
def two (n : Int) : List (BitVec 8) := [kb (n / 256), kb n]
/-- A number's last four bytes, the highest first. -/
def four (n : Int) : List (BitVec 8) := [kb (n / 16777216), kb (n / 65536), kb (n / 256), kb n]
attribute [local go_sem] kb_v
end Go.Proofs.YtakdpkoigijonaaGreat
namespace Go.Proofs.YtakdpkoigijonaaGreat
set_option maxRecDepth 100000
open Go.RowKit
end Go.Proofs.YtakdpkoigijonaaGreat
namespace Go.Proofs.YtakdpkoigijonaaGreat
set_option maxRecDepth 100000
open Go.RowKit
/-- What is told of a slot: its value; something that stays true while the memory grows; or nothing. -/
abbrev Fk : Type := Value ⊕ ({ p : Value → World → Prop // ∀ v w w', p v w → Below w.heap.size w w' → p v w' } ⊕ Unit)
def Fk.eq (x : Value) : Fk := .inl x
def Fk.sl (bs : List (BitVec 8)) : Fk := .inr (.inl ⟨fun v w => ∃ sp m c b o, v = .slice sp m c ∧ Sl w sp m c bs b o, fun _ _ _ ⟨sp, m, c, b, o, e, h⟩ hb => ⟨sp, m, c, b, o, e, h.below hb (fun hm => (h.src hm).2.1)⟩⟩)
def Fk.ls (n : Nat) (bs : List (BitVec 8)) : Fk := .inr (.inl ⟨fun v w => ∃ A C lb lo ps, v = .slice A n C ∧ (0 < n → A = some ⟨lb, lo, none⟩) ∧ n = ps.length ∧ Ls w lb lo ps ∧ cat ps = bs, by
  rintro v w w' ⟨A, C, lb, lo, ps, e, h1, h2, h3, h4⟩ hb
  exact ⟨A, C, lb, lo, ps, e, h1, h2, h3.below hb, h4⟩⟩)
def Fk.any : Fk := .inr (.inr ())
def Fk.f : Fk → Value → World → Prop
  | .inl x, v, _ => v = x
  | .inr (.inl p), v, w => p.1 v w
  | .inr (.inr _), _, _ => True
theorem Fk.mono : ∀ (q : Fk) (v : Value) (w w' : World), Fk.f q v w → Below w.heap.size w w' → Fk.f q v w'
  | .inl _, _, _, _, h, _ => h
  | .inr (.inl p), v, w, w', h, hb => p.2 v w w' h hb
  | .inr (.inr _), _, _, _, _, _ => trivial
def Fk.isBool (b : Bool) : Fk → Bool
  | .inl (.bool c) => b == c
  | _ => false
theorem Fk.isBool_eq {b : Bool} {q : Fk} (h : Fk.isBool b q = true) : q = Fk.eq (.bool b) := by
  unfold Fk.isBool at h
  split at h
  · have := eq_of_beq h
    rw [this]; rfl
  · cases h
theorem Fk.isBool_spec {b : Bool} {q : Fk} (h : Fk.isBool b q = true) : ∀ v w, Fk.f q v w → v = .bool b := by
  have e := Fk.isBool_eq h
  subst e
  exact fun v w hf => hf
theorem Fk.isBool_self {b : Bool} {q : Fk} (h : Fk.isBool b q = true) (w : World) : Fk.f q (.bool b) w := by
  have e := Fk.isBool_eq h
  subst e
  exact rfl
def Fk.isAny : Fk → Bool
  | .inr (.inr _) => true
  | _ => false
theorem Fk.isAny_spec : ∀ {q : Fk}, Fk.isAny q = true → ∀ v w, Fk.f q v w
  | .inl _, h, _, _ => by simp [Fk.isAny] at h
  | .inr (.inl _), h, _, _ => by simp [Fk.isAny] at h
  | .inr (.inr _), _, _, _ => trivial
/-- Is the operation wanted, by what is told of its guard? -/
def wantedBy (qs : List Fk) (o : Oper) : Bool := match o.guard with
  | none => true
  | some (j, b) => (qs.getD j .any).isBool b
/-- Number j's. -/
def fkAt (qs : List Fk) (j : Nat) : Value → World → Prop := (qs.getD j .any).f
/-- Each operation that is guarded is wanted, by what is told of its guard. -/
def guardsOk (ops : List Oper) (k : Nat) (qs : List Fk) : List Oper → List Fk → Bool
  | o :: os, q :: r => (match o.guard with
    | none => true
    | some (j, b) => depOk ops k o j ((((ops[j]?).bind (·.dst))).getD 0) && ((qs.getD j .any).isBool b || ((qs.getD j .any).isBool (!b) && q.isAny))) && guardsOk ops k qs os r
  | _, _ => true
/-- Each operation by itself. -/
def Steps (P : Program) (Q : Exit → Act → World → Prop) (ops : List Oper) (k : Nat) (all : List Fk) (a0 : Act) (w0 : World) : List Oper → List Fk → Prop
  | o :: os, q :: qs => (wantedBy all o = true → ∀ a w, Known ops k (fkAt all) a0 w0 o a w → o.wp P a w (Ends a o.dst w q.f) Q) ∧ Steps P Q ops k all a0 w0 os qs
  | _, _ => True
theorem Steps.get {P : Program} {Q : Exit → Act → World → Prop} {ops : List Oper} {k : Nat} {all : List Fk} {a0 : Act} {w0 : World} : ∀ {l : List Oper} {qs : List Fk}, Steps P Q ops k all a0 w0 l qs → ∀ (i : Nat) (o : Oper), i < qs.length → l[i]? = some o → wantedBy all o = true →
    ∀ a w, Known ops k (fkAt all) a0 w0 o a w → o.wp P a w (Ends a o.dst w (fkAt qs i)) Q
  | [], _, _, i, o, _, h => by simp at h
  | _ :: _, [], _, i, o, h, _ => by simp at h
  | q :: l, f :: qs, h, 0, o, _, hi => by
    obtain rfl : q = o := by simpa using hi
    exact h.1
  | q :: l, f :: qs, h, i + 1, o, hl, hi => by
    have := Steps.get h.2 i o (by simpa using hl) (by simpa using hi)
    simpa [fkAt] using this
theorem guardsOk_spec {ops : List Oper} {k : Nat} {qs : List Fk} : ∀ {l : List Oper} {r : List Fk}, guardsOk ops k qs l r = true → ∀ (i : Nat) (o : Oper) (j : Nat) (b : Bool), i < r.length → l[i]? = some o → o.guard = some (j, b) → (∃ d, depOk ops k o j d = true) ∧ ((qs.getD j .any).isBool b = true ∨ ((qs.getD j .any).isBool (!b) = true ∧ (r.getD i .any).isAny = true))
  | [], _, _, i, o, _, _, _, h, _ => by simp at h
  | _ :: _, [], _, i, o, _, _, h, _, _ => by simp at h
  | q :: l, f :: r, h, 0, o, j, b, _, hi, hg => by
    obtain rfl : q = o := by simpa using hi
    unfold guardsOk at h
    rw [Bool.and_eq_true, hg] at h
    have h1 := h.1
    simp only [Bool.and_eq_true, Bool.or_eq_true] at h1
    exact ⟨⟨_, h1.1⟩, h1.2⟩
  | q :: l, f :: r, h, i + 1, o, j, b, hl, hi, hg => by
    unfold guardsOk at h
    rw [Bool.and_eq_true] at h
    have := guardsOk_spec h.2 i o j b (by simpa using hl) (by simpa using hi) hg
    simpa using this
/-- The moves of a region, whatever order is picked. -/
theorem wp_any_steps {P : Program} {Q : Exit → Act → World → Prop} {ops : Array Oper} {a0 : Act} {w w1 : World} (qs : List Fk) (hw : Below w.heap.size w w1) (hk : decide (qs.length ≤ ops.size) = true) (hE : edgesOk ops.toList qs.length = true)
    (hD : dstsOk a0.tmps.size (ops.toList.take qs.length) = true) (hG : guardsOk ops.toList qs.length qs ops.toList qs = true)
    (hS : Steps P Q ops.toList qs.length qs a0 w ops.toList qs)
    (hF : ∀ vs w', (∀ i, i < qs.length → fkAt qs i (vs i) w') → Below w.heap.size w w' → wpList P ops Q (ops.toList.drop qs.length) (putAll vs 0 (ops.toList.take qs.length) a0) w') :
    wpAny P .any ops Q ops.size (Array.replicate ops.size false) a0 w1 := by
  have hk' : qs.length ≤ ops.size := of_decide_eq_true hk
  refine wp_mids (φ := fkAt qs) (k := qs.length) (a0 := a0) (w0 := w) hk' hE hD ?_ (fun i => Fk.mono _) ?_ hF ops.size _ a0 _ ?_ ?_
  · intro i o j b hi ho hg
    obtain ⟨h1, h2⟩ := guardsOk_spec hG i o j b hi (by rw [Array.getElem?_toList]; exact ho) hg
    refine ⟨h1, h2.imp (fun h => Fk.isBool_spec h) (fun h => ⟨Fk.isBool_spec h.1, fun v w => Fk.isAny_spec h.2 v w⟩)⟩
  · intro i o hi ho hb
    refine hS.get i o hi (by rw [Array.getElem?_toList]; exact ho) ?_
    unfold wantedBy
    cases hg : o.guard with
    | none => rfl
    | some jb =>
      obtain ⟨j, b⟩ := jb
      obtain ⟨_, h2⟩ := guardsOk_spec hG i o j b hi (by rw [Array.getElem?_toList]; exact ho) hg
      rcases h2 with h2 | h2
      · exact h2
      · exfalso
        have h3 := hb j b hg
        have hv := h3 _ _ (Fk.isBool_self h2.1 w)
        cases b <;> simp at hv
  · unfold unl
    exact Nat.le_trans (Array.countP_le_size) (by simp)
  · refine ⟨rfl, rfl, by simp, fun _ _ => rfl, fun i o d _ ho _ hl => ?_, fun i _ hi => ?_, hw⟩
    · have : i < ops.size := (Array.getElem?_eq_some_iff.1 ho).1
      simp [this] at hl
    · simp [hi]
/-- What is told of the frame behind a drawn region. -/
structure Final (ops : List Oper) (qs : List Fk) (a0 af : Act) (w : World) : Prop where
  defs : af.defers = a0.defers
  size : af.tmps.size = a0.tmps.size
  old : ∀ t, freeOf (ops.take qs.length) t = true → af.eval (.tmp t) = a0.eval (.tmp t)
  has : ∀ i d, (decide (i < qs.length) && (((ops[i]?).bind (·.dst)) == some d)) = true → fkAt qs i (af.eval (.tmp d)) w
theorem Final.t {ops : List Oper} {qs : List Fk} {a0 af : Act} {w : World} (A : Final ops qs a0 af w) {t : Nat} {v : Value} (x : a0.eval (.tmp t) = v) (h : freeOf (ops.take qs.length) t = true) : af.eval (.tmp t) = v := (A.old t h).trans x
theorem Known.t {ops : List Oper} {k : Nat} {φ : Nat → Value → World → Prop} {a0 : Act} {w0 : World} {o : Oper} {a : Act} {w : World} (K : Known ops k φ a0 w0 o a w) {t : Nat} {v : Value} (x : a0.eval (.tmp t) = v) (h : freeOf (ops.take k) t = true) : a.eval (.tmp t) = v := (K.old t h).trans x
theorem Final.e {ops : List Oper} {qs : List Fk} {a0 af : Act} {w : World} (A : Final ops qs a0 af w) (i d : Nat) {v : Value} (h : (decide (i < qs.length) && (((ops[i]?).bind (·.dst)) == some d)) = true) (hq : qs.getD i .any = Fk.eq v) : af.eval (.tmp d) = v := by
  have := A.has i d h
  unfold fkAt at this
  rw [hq] at this
  exact this
theorem Fk.e {v u : Value} {w : World} (h : (Fk.eq v).f u w) : u = v := h
theorem Final.sd {ops : List Oper} {qs : List Fk} {a0 af : Act} {w : World} (A : Final ops qs a0 af w) {n : Nat} {l : List (Deferred)} (h : a0.tmps.size = n ∧ a0.defers = l) : af.tmps.size = n ∧ af.defers = l := ⟨A.size.trans h.1, A.defs.trans h.2⟩
theorem sd2 {a a2 : Act} (h1 : a2.tmps.size = a.tmps.size) (h2 : a2.defers = a.defers) {n : Nat} {l : List (Deferred)} (h : a.tmps.size = n ∧ a.defers = l) : a2.tmps.size = n ∧ a2.defers = l := ⟨h1.trans h.1, h2.trans h.2⟩
theorem tr {a a2 : Act} {d : Nat} (o : ∀ t, (t == d) = false → a2.eval (.tmp t) = a.eval (.tmp t)) {t : Nat} {v : Value} (x : a.eval (.tmp t) = v) (h : (t == d) = false) : a2.eval (.tmp t) = v := (o t h).trans x
theorem bgo {w w1 w2 : World} (bl : Below w.heap.size w w1) (hb : Below w1.heap.size w1 w2) : Below w.heap.size w w2 := bl.trans (Below.mono hb bl.size)
theorem wp_any_end {P : Program} {Q : Exit → Act → World → Prop} {ops : Array Oper} {a0 : Act} {w w1 : World} (qs : List Fk) (hw : Below w.heap.size w w1) (hk : decide (qs.length ≤ ops.size) = true) (hE : edgesOk ops.toList qs.length = true)
    (hD : dstsOk a0.tmps.size (ops.toList.take qs.length) = true) (hG : guardsOk ops.toList qs.length qs ops.toList qs = true)
    (hS : Steps P Q ops.toList qs.length qs a0 w ops.toList qs)
    (hF : ∀ af w', Final ops.toList qs a0 af w' → Below w.heap.size w w' → wpList P ops Q (ops.toList.drop qs.length) af w') :
    wpAny P .any ops Q ops.size (Array.replicate ops.size false) a0 w1 := by
  refine wp_any_steps qs hw hk hE hD hG hS ?_
  intro vs w' hφ hb
  refine hF _ _ ⟨putAll_def _ _ _ _, putAll_size _ _ _ _, fun t ht => eval_of_get (putAll_other vs t _ _ _ (fun j o hj => freeOf_spec ht hj)), fun i d h => ?_⟩ hb
  simp only [Bool.and_eq_true, decide_eq_true_eq, beq_iff_eq] at h
  obtain ⟨hi, hd⟩ := h
  cases ho : ops.toList[i]? with
  | none => rw [ho] at hd; simp at hd
  | some o =>
    rw [ho] at hd
    have hd' : o.dst = some d := by simpa using hd
    have ht : (ops.toList.take qs.length)[i]? = some o := by rw [List.getElem?_take, if_pos hi]; exact ho
    obtain ⟨d2, hd2, hlt, hall⟩ := dstsOk_spec hD i o ht
    obtain rfl : d = d2 := Option.some.inj (hd'.symm.trans hd2)
    have := putAll_at vs d _ 0 a0 i o ht hd' hlt hall
    rw [Nat.zero_add] at this
    have e : (putAll vs 0 (ops.toList.take qs.length) a0).eval (.tmp d) = vs i := by simp [Act.eval, this]
    rw [e]
    exact hφ i hi
/-- A drawn region, whatever order is picked; of the frame behind it what is known alone. -/
theorem wp_region_end {P : Program} {Q : Exit → Act → World → Prop} {ops : Array Oper} {id : Nat} {a0 : Act} {w : World} (qs : List Fk) (hm : P.follows .mixedOrders = true) (hk : decide (qs.length ≤ ops.size) = true) (hE : edgesOk ops.toList qs.length = true)
    (hD : dstsOk a0.tmps.size (ops.toList.take qs.length) = true) (hG : guardsOk ops.toList qs.length qs ops.toList qs = true)
    (hS : Steps P Q ops.toList qs.length qs a0 w ops.toList qs)
    (hF : ∀ af w', Final ops.toList qs a0 af w' → Below w.heap.size w w' → wpList P ops Q (ops.toList.drop qs.length) af w') :
    (Code.region id ops true).wp P Q a0 w :=
  wp_region_any hm (wp_any_end qs (Below.refl _ _).drew hk hE hD hG hS hF)
/-- Each waits for ones ahead of it alone. -/
def backOk (ops : List Oper) : Bool := (List.range ops.length).all (fun i => ((ops[i]?).map fun o => o.after.toList.all fun e => !Region.binds .any e || decide (e.on < i)).getD true)
/-- The state in a region in the text's order, i operations done. -/
structure Sq (ops : Array Oper) (qs : List Fk) (a0 : Act) (w0 : World) (i : Nat) (a : Act) (w : World) : Prop where
  size : a.tmps.size = a0.tmps.size
  defs : a.defers = a0.defers
  old : ∀ t, freeOf (ops.toList.take qs.length) t = true → a.tmps[t]? = a0.tmps[t]?
  has : ∀ (j : Nat) (o : Oper) (d : Nat), j < i → ops[j]? = some o → o.dst = some d → fkAt qs j (a.eval (.tmp d)) w
  grow : Below w0.heap.size w0 w
theorem wp_list_seq {P : Program} {Q : Exit → Act → World → Prop} {ops : Array Oper} {a0 : Act} {w0 : World} (qs : List Fk) (hk : qs.length ≤ ops.size) (hE : backOk ops.toList = true)
    (hD : dstsOk a0.tmps.size (ops.toList.take qs.length) = true) (hG : guardsOk ops.toList qs.length qs ops.toList qs = true)
    (hS : Steps P Q ops.toList qs.length qs a0 w0 ops.toList qs)
    (hF : ∀ af w', Final ops.toList qs a0 af w' → Below w0.heap.size w0 w' → wpList P ops Q (ops.toList.drop qs.length) af w') :
    ∀ (m i : Nat) (a : Act) (w : World), i + m = qs.length → Sq ops qs a0 w0 i a w → wpList P ops Q (ops.toList.drop i) a w := by
  intro m
  induction m with
  | zero =>
    intro i a w hi hm
    obtain rfl : i = qs.length := by omega
    refine hF a w ⟨hm.defs, hm.size, fun t ht => eval_of_get (hm.old t ht), fun j d h => ?_⟩ hm.grow
    simp only [Bool.and_eq_true, decide_eq_true_eq, beq_iff_eq] at h
    obtain ⟨hj, hd⟩ := h
    cases ho : ops.toList[j]? with
    | none => rw [ho] at hd; simp at hd
    | some o =>
      rw [ho] at hd
      exact hm.has j o d hj (by rw [← Array.getElem?_toList]; exact ho) (by simpa using hd)
  | succ m ih =>
    intro i a w hi hm
    have hik : i < qs.length := by omega
    have hio : i < ops.size := by omega
    have hdrop : ops.toList.drop i = ops[i] :: ops.toList.drop (i + 1) := by
      rw [List.drop_eq_getElem_cons (by simpa using hio)]
      simp
    have ho : ops[i]? = some ops[i] := Array.getElem?_eq_getElem hio
    generalize ops[i] = o at hdrop ho
    have hto : (ops.toList.take qs.length)[i]? = some o := by rw [List.getElem?_take, if_pos hik, Array.getElem?_toList]; exact ho
    obtain ⟨d, hd, hlt, hall⟩ := dstsOk_spec hD i o hto
    have hK : Known ops.toList qs.length (fkAt qs) a0 w0 o a w := by
      refine ⟨fun t ht => eval_of_get (hm.old t ht), fun j d hj => ?_, hm.grow⟩
      unfold depOk at hj
      simp only [Bool.and_eq_true, decide_eq_true_eq, beq_iff_eq, Array.getElem?_toList] at hj
      obtain ⟨⟨hjk, hany⟩, hd⟩ := hj
      obtain ⟨e, he, hb⟩ := List.any_eq_true.1 hany
      simp only [Bool.and_eq_true, beq_iff_eq] at hb
      have hji : j < i := by
        unfold backOk at hE
        have h1 := List.all_eq_true.1 hE i (by simpa using hio)
        simp only [Array.getElem?_toList, ho, Option.map_some, Option.getD_some] at h1
        have h2 := List.all_eq_true.1 h1 e he
        rw [hb.1, hb.2] at h2
        simpa using h2
      cases hoj : ops[j]? with
      | none => rw [hoj] at hd; simp at hd
      | some oj =>
        rw [hoj] at hd
        exact hm.has j oj d hji hoj (by simpa using hd)
    have hnext : ∀ v w', Below w.heap.size w w' → fkAt qs i v w' → wpList P ops Q (ops.toList.drop (i + 1)) (a.put o.dst v) w' := by
      intro v w' hb hf
      refine ih (i + 1) _ _ (by omega) ⟨by rw [put_size]; exact hm.size, by rw [put_def]; exact hm.defs, fun t ht => ?_, fun j oj dj hj hoj hdj => ?_, hm.grow.trans (hb.mono hm.grow.size)⟩
      · rw [put_other _ _ _ _ (freeOf_spec ht hto)]; exact hm.old t ht
      · by_cases e : j = i
        · subst e
          obtain rfl : oj = o := Option.some.inj (hoj.symm.trans ho)
          obtain rfl : dj = d := Option.some.inj (hdj.symm.trans hd)
          have hev : (a.put oj.dst v).eval (.tmp dj) = v := by
            have := put_same a dj v (by rw [hm.size]; exact hlt)
            rw [← hd] at this
            simp [Act.eval, this]
          rw [hev]; exact hf
        · have htj : (ops.toList.take qs.length)[j]? = some oj := by rw [List.getElem?_take, if_pos (by omega), Array.getElem?_toList]; exact hoj
          have hne : o.dst ≠ some dj := fun h => by
            have : d = dj := Option.some.inj (hd.symm.trans h)
            exact hall j oj htj e (by rw [this]; exact hdj)
          rw [eval_of_get (put_other a o.dst v dj hne)]
          exact Fk.mono _ _ w w' (hm.has j oj dj (by omega) hoj hdj) hb
    have hyield : ∀ (j : Nat) (b c : Bool), o.guard = some (j, b) → (∃ d, depOk ops.toList qs.length o j d = true) → (∀ v w, fkAt qs j v w → v = .bool c) → yielded ops a.tmps j = some c := by
      rintro j b c hg ⟨d, hd⟩ hbool
      have hv := hbool _ _ (hK.dep j d hd)
      have hd2 : (ops[j]?).bind (·.dst) = some d := by
        unfold depOk at hd
        simp only [Bool.and_eq_true, decide_eq_true_eq, beq_iff_eq, Array.getElem?_toList] at hd
        exact hd.2
      have hget : a.tmps[d]? = some (.bool c) := by
        simp only [Act.eval, Array.getD_eq_getD_getElem?] at hv
        cases hq : a.tmps[d]? with
        | none => rw [hq] at hv; simp [undef] at hv
        | some u => rw [hq] at hv; simp at hv; rw [hv]
      unfold yielded
      rw [hd2]
      simp only [Option.bind_some, hget]
    rw [hdrop]
    have hgo : wantedBy qs o = true → Region.wanted o (yielded ops a.tmps) = true → wpList P ops Q (o :: ops.toList.drop (i + 1)) a w := by
      intro hwb hwant
      unfold wpList
      rw [if_pos hwant]
      refine .inl (Oper.wp_mono ?_ (hS.get i o hik (by rw [Array.getElem?_toList]; exact ho) hwb a w hK))
      rintro a' w' ⟨v, rfl, hb, hf⟩
      exact hnext v w' hb hf
    cases hg : o.guard with
    | none => exact hgo (by unfold wantedBy; rw [hg]) (by unfold Region.wanted; rw [hg])
    | some jb =>
      obtain ⟨j, b⟩ := jb
      obtain ⟨hdp, h2⟩ := guardsOk_spec hG i o j b hik (by rw [Array.getElem?_toList]; exact ho) hg
      rcases h2 with h2 | h2
      · refine hgo (by unfold wantedBy; rw [hg]; exact h2) ?_
        unfold Region.wanted
        rw [hg]
        show (yielded ops a.tmps j == some b) = true
        rw [hyield j b b hg hdp (Fk.isBool_spec h2)]; simp
      · have hno : Region.wanted o (yielded ops a.tmps) = false := by
          unfold Region.wanted
          rw [hg]
          show (yielded ops a.tmps j == some b) = false
          rw [hyield j b (!b) hg hdp (Fk.isBool_spec h2.1)]; cases b <;> rfl
        unfold wpList
        rw [if_neg (by rw [hno]; simp)]
        exact hnext undef w (Below.refl _ _) (Fk.isAny_spec h2.2 _ _)
/-- A region in the text's order: its first operations by steps; the rest, whatever it is, behind them. -/
theorem wp_region_seq {P : Program} {Q : Exit → Act → World → Prop} {ops : Array Oper} {id : Nat} {a0 : Act} {w : World} (qs : List Fk) (hk : decide (qs.length ≤ ops.size) = true) (hE : backOk ops.toList = true)
    (hD : dstsOk a0.tmps.size (ops.toList.take qs.length) = true) (hG : guardsOk ops.toList qs.length qs ops.toList qs = true)
    (hS : Steps P Q ops.toList qs.length qs a0 w ops.toList qs)
    (hF : ∀ af w', Final ops.toList qs a0 af w' → Below w.heap.size w w' → wpList P ops Q (ops.toList.drop qs.length) af w') :
    (Code.region id ops false).wp P Q a0 w :=
  wp_region_list (wp_list_seq qs (of_decide_eq_true hk) hE hD hG hS hF qs.length 0 a0 w (by omega) ⟨rfl, rfl, fun _ _ => rfl, fun j _ _ hj => absurd hj (by omega), Below.refl _ _⟩)
section
variable {P : Program} {Q : Exit → Act → World → Prop} {o : Oper} {a : Act} {w : World} {q : Fk}
theorem st_run {v : Value} {w' : World} (hr : (execOp a.eval o).run P w = .ok (.value v) w') (hb : Below w.heap.size w w') (h : q.f v w') : o.wp P a w (Ends a o.dst w q.f) Q := by
  unfold Oper.wp; rw [hr]; exact ⟨v, rfl, hb, h⟩
theorem st_pure {v : Value} (hr : (execOp a.eval o).run P w = .ok (.value v) w) (h : q.f v w) : o.wp P a w (Ends a o.dst w q.f) Q := st_run hr (Below.refl _ _) h
theorem st_move (x : Operand) (ho : o.op = .move x) (h : q.f (a.eval x) w) : o.wp P a w (Ends a o.dst w q.f) Q :=
  st_pure (v := a.eval x) (by unfold execOp; rw [ho]; rfl) h
theorem st_assign (x : Operand) (ho : o.op = .assign x) (h : q.f (a.eval x) w) : o.wp P a w (Ends a o.dst w q.f) Q :=
  st_pure (v := a.eval x) (by unfold execOp; rw [ho]; rfl) h
theorem st_pick_t (c x y : Operand) (ho : o.op = .pick c x y) (hc : a.eval c = .bool true) (h : q.f (a.eval x) w) : o.wp P a w (Ends a o.dst w q.f) Q :=
  st_pure (v := a.eval x) (by unfold execOp; rw [ho]; simp [hc, asBool]) h
theorem st_call (f : FuncId) (x : Operand) (xs : Array Operand) (ts : Array TypeId) (vs : Array Value) (ho : o.op = .call { callee := .value x, args := xs, argTypes := ts }) (hx : a.eval x = .func (.func f) #[] #[]) (hv : (xs.toList.map a.eval).toArray = vs)
    (hf : ∀ args w, (callFunc f args).run P w = .ok (.enter f args) w) (hc : Calls P f vs w fun e w' => ∃ v, e = .returned v ∧ q.f v w' ∧ Below w.heap.size w w') : o.wp P a w (Ends a o.dst w q.f) Q := by
  have hr : (execOp a.eval o).run P w = .ok (.enter f vs) w := by
    have hv' : xs.map a.eval = vs := by rw [← hv]; apply Array.toList_inj.1; simp
    unfold execOp; rw [ho]
    simp [resolve, hx, Deferred.ofValue, invoke, hv', hf]
  unfold Oper.wp; rw [hr]
  refine Calls.mono hc ?_
  rintro e w' ⟨v, rfl, h1, h2⟩
  exact ⟨v, rfl, h2, h1⟩
end
section
variable {Q : Exit → Act → World → Prop} {o : Oper} {a : Act} {w : World} {q : Fk}
theorem Tryz.build2 (sp sp2 : Option Addr) (m c m2 c2 : Nat) (w : World) : (Instr.buildSlice 23 2 #[(0, .slice sp m c), (1, .slice sp2 m2 c2)]).run Tryz.prog w = .ok (.slice (some ⟨w.heap.size, 0, none⟩) 2 2) (w.alloc (.cells #[.slice sp m c, .slice sp2 m2 c2] 22)) := by kernel_rfl
theorem st_build2 (x y : Operand) (ho : o.op = .buildSlice 23 2 #[(0, x), (1, y)]) {bs bs2 : List (BitVec 8)} (h : (Fk.sl bs).f (a.eval x) w) (h2 : (Fk.sl bs2).f (a.eval y) w) : o.wp Tryz.prog a w (Ends a o.dst w (Fk.ls 2 (bs ++ bs2)).f) Q := by
  obtain ⟨sp, m, c, b, so, e, hs⟩ := h
  obtain ⟨sp2, m2, c2, b2, so2, e2, hs2⟩ := h2
  refine st_run (v := .slice (some ⟨w.heap.size, 0, none⟩) 2 2) (w' := w.alloc (.cells #[.slice sp m c, .slice sp2 m2 c2] 22)) ?_ ((Below.refl _ _).alloc (Nat.le_refl _) _) ⟨_, _, w.heap.size, 0, [⟨sp, m, c, bs, b, so⟩, ⟨sp2, m2, c2, bs2, b2, so2⟩], rfl, fun _ => rfl, rfl, ls_new w 22 [⟨sp, m, c, bs, b, so⟩, ⟨sp2, m2, c2, bs2, b2, so2⟩] (.cons hs (.cons hs2 .nil)), by simp [cat]⟩
  unfold execOp
  rw [ho]
  simp [e, e2, Tryz.build2]
end
/-- The bounds and the table that the sums want. -/
structure Tab (w : World) : Prop where
  K : HasK w 0
  pos : 0 < w.heap.size
theorem Tab.below {w w' : World} (h : Tab w) (hb : Below w.heap.size w w') : Tab w' := ⟨h.K.below hb h.pos, Nat.lt_of_lt_of_le h.pos hb.size⟩
end Go.Proofs.YtakdpkoigijonaaGreat
namespace Go.Proofs.YtakdpkoigijonaaGreat
set_option maxRecDepth 100000
open Go.RowKit
theorem Tryz.mixed : Tryz.prog.follows .mixedOrders = true := by kernel_rfl
theorem one_arg {a : Act} {x : Operand} {v : Value} (h : a.eval x = v) : ((#[x].toList.map a.eval).toArray : Array Value) = #[v] := by rw [← h]; rfl
end Go.Proofs.YtakdpkoigijonaaGreat
namespace Go.Proofs.YtakdpkoigijonaaGreat
set_option maxRecDepth 100000
open Go.RowKit
/-- The text of bytes. -/
def str (xs : List (BitVec 8)) : ByteArray := strOfNums (xs.map bv)
theorem byte_inj {x y : BitVec 8} (h : UInt8.ofNat (bv x).toNat = UInt8.ofNat (bv y).toNat) : x = y := by
  have := congrArg UInt8.toNat h
  simp only [bv, Int.toNat_natCast, UInt8.toNat_ofNat'] at this
  have h1 := x.isLt
  have h2 := y.isLt
  apply BitVec.eq_of_toNat_eq
  omega
theorem str_inj {xs ys : List (BitVec 8)} (h : str xs = str ys) : xs = ys := by
  have h2 : (str xs).data.toList = (str ys).data.toList := by rw [h]
  unfold str at h2
  rw [strOfNums_data, strOfNums_data, List.map_map, List.map_map] at h2
  induction xs generalizing ys with
  | nil => cases ys with
    | nil => rfl
    | cons y ys => simp at h2
  | cons x xs ih => cases ys with
    | nil => simp at h2
    | cons y ys =>
      simp only [List.map_cons, List.cons.injEq, Function.comp] at h2
      have e := byte_inj h2.1
      have hr : xs = ys := by
        refine ih (ys := ys) ?_ h2.2
        unfold str
        have : (strOfNums (xs.map bv)).data = (strOfNums (ys.map bv)).data := Array.toList_inj.1 (by rw [strOfNums_data, strOfNums_data, List.map_map, List.map_map]; exact h2.2)
        exact ByteArray.ext this
      rw [e, hr]
theorem str_beq (s t : ByteArray) : (s.toList == t.toList) = decide (s = t) := by
  rw [ByteArray.toList_eq, ByteArray.toList_eq]
  by_cases h : s = t
  · subst h; simp
  · have : s.data ≠ t.data := fun e => h (ByteArray.ext e)
    simp [h, this]
section
variable {Q : Exit → Act → World → Prop} {o : Oper} {a : Act} {w : World} {q : Fk}
theorem st_str (x : Operand) (ho : o.op = .convert 22 9 x) {bs : List (BitVec 8)} (hne : 0 < bs.length) (h : (Fk.sl bs).f (a.eval x) w) : o.wp Tryz.prog a w (Ends a o.dst w (Fk.eq (.string (str bs))).f) Q := by
  obtain ⟨sp, m, c, b, so, e, hs⟩ := h
  refine st_pure (v := .string (str bs)) ?_ rfl
  have hl := hs.len
  obtain ⟨rfl, _, hB⟩ := hs.src (by omega)
  have := run_convert_bytes_arg (P := Tryz.prog) w 22 5 Tryz.under22 Tryz.under5 b so m c (bs.map bv) (by simp [hl]) (fun i hi => by
    rw [hB i (by omega)]
    have : i < bs.length := by omega
    simp [this]) 9 Tryz.under9
  unfold execOp
  rw [ho]
  simp [e, this, str]
theorem st_eqs (x y : Operand) (ho : o.op = .binOp .eql 9 x y 9) (s t : ByteArray) (hx : a.eval x = .string s) (hy : a.eval y = .string t) (b : Bool) (hb : b = decide (s = t)) : o.wp Tryz.prog a w (Ends a o.dst w (Fk.eq (.bool b)).f) Q := by
  refine st_pure (v := .bool b) ?_ rfl
  unfold execOp
  rw [ho]
  subst hb
  simp [hx, hy, eqGuard, binOp, Op.stringOp, str_beq]
theorem st_conv8 (x : Operand) (ho : o.op = .convert 3 5 x) (z : Int) (hx : a.eval x = .int .i64 z) : o.wp Tryz.prog a w (Ends a o.dst w (Fk.eq (.int .u8 (bv (kb z)))).f) Q := by
  refine st_pure (v := .int .u8 (bv (kb z))) ?_ rfl
  unfold execOp
  rw [ho]
  simp [hx, convert, Conv.intToInt, IntKind.wrap_u8, ← kb_v]
end
end Go.Proofs.YtakdpkoigijonaaGreat
namespace Go.Proofs.YtakdpkoigijonaaGreat
set_option maxRecDepth 100000
open Go.RowKit
theorem put_eval_other (a : Act) (d : Nat) (v : Value) (t : Nat) (h : d ≠ t) : (a.put (some d) v).eval (.tmp t) = a.eval (.tmp t) := eval_of_get (put_other a (some d) v t (by simp [h]))
theorem put_eval_same (a : Act) (d : Nat) (v : Value) (h : d < a.tmps.size) : (a.put (some d) v).eval (.tmp d) = v := by
  have := put_same a d v h
  simp [Act.eval, this]
theorem ret_slot {fn : Func} {t : Tmp} (h : fn.results = #[.tmp t]) (a : Act) (v : Value) (ht : a.eval (.tmp t) = v) (P : Program) (w : World) : (results fn a.tmps).run P w = .ok v w := by
  rw [results_tmp h]
  have : a.tmps.getD t undef = v := ht
  rw [this]
theorem Tryz.under3 : Tryz.prog.underlying 3 = some (.int .i64) := by kernel_rfl
theorem Tryz.isAgg3 (w : World) : (isAgg 3).run Tryz.prog w = .ok false w := by kernel_rfl
section
variable {Q : Exit → Act → World → Prop} {o : Oper} {a : Act} {w : World} {q : Fk}
theorem st_eqi (t : TypeId) (x y : Operand) (ho : o.op = .binOp .eql t x y t) (k : IntKind) (s u : Int) (hx : a.eval x = .int k s) (hy : a.eval y = .int k u) (b : Bool) (hb : b = decide (s = u)) : o.wp Tryz.prog a w (Ends a o.dst w (Fk.eq (.bool b)).f) Q := by
  refine st_pure (v := .bool b) ?_ rfl
  subst hb
  unfold execOp
  rw [ho]
  simp [hx, hy, eqGuard, binOp, Op.intCmp]
  by_cases h : s = u
  · simp [h]
  · simp [h]
end
end Go.Proofs.YtakdpkoigijonaaGreat
namespace Go.Proofs.YtakdpkoigijonaaGreat
set_option maxRecDepth 100000
open Go.RowKit
/-- A slice value that has the hashes hs, one behind the other. -/
structure Hl (w : World) (A : Option Addr) (lb lo : Nat) (hs : List (List (BitVec 8))) : Prop where
  ptr : 0 < hs.length → A = some ⟨lb, lo, none⟩
  lt : 0 < hs.length → lb < w.heap.size
  all : ∀ (i : Nat) (h : List (BitVec 8)), hs[i]? = some h → h.length = 32 ∧ HasB w lb (lo + i * 32) h
theorem Hl.below {w w' : World} {A : Option Addr} {lb lo : Nat} {hs : List (List (BitVec 8))} (h : Hl w A lb lo hs) (hb : Below w.heap.size w w') : Hl w' A lb lo hs :=
  ⟨h.ptr, fun hp => Nat.lt_of_lt_of_le (h.lt hp) hb.size, fun i x hi => ⟨(h.all i x hi).1, (h.all i x hi).2.below hb (h.lt (by have := (List.getElem?_eq_some_iff.1 hi).1; omega))⟩⟩
/-- The slice of hash number i. -/
def hp (lb lo : Nat) (hs : List (List (BitVec 8))) (i : Nat) : Pt := ⟨some ⟨lb, lo + i * 32, none⟩, 32, 32, hs.getD i [], lb, lo + i * 32⟩
def hps (lb lo : Nat) (hs : List (List (BitVec 8))) (k : Nat) : List Pt := (List.range k).map (hp lb lo hs)
/-- Block g is a row of slices. -/
def HasP (w : World) (g : Nat) (xs : List Value) : Prop := w.heap[g]? = some (.cells xs.toArray 22 (0, 0))
theorem HasP.cell {w : World} {g : Nat} {xs : List Value} (h : HasP w g xs) (i : Nat) : w.cell? ⟨g, i, none⟩ = xs[i]? := by
  unfold HasP at h
  rw [cell_of_row w g i _ 22 _ h]; simp
theorem HasP.frozen {w : World} {g : Nat} {xs : List Value} (h : HasP w g xs) (i : Nat) : w.frozen? ⟨g, i, none⟩ = false := frozen_of_row w g i _ 22 h
theorem HasP.set {w : World} {g : Nat} {xs : List Value} (h : HasP w g xs) (i : Nat) (v : Value) : HasP (w.setCell ⟨g, i, none⟩ v) g (xs.set i v) := by
  unfold HasP at *
  simp [World.setCell, Array.getElem?_modify, h]
theorem HasP.lt {w : World} {g : Nat} {xs : List Value} (h : HasP w g xs) : g < w.heap.size := (Array.getElem?_eq_some_iff.1 h).1
theorem HasP.below {w w' : World} {B g : Nat} {xs : List Value} (h : HasP w g xs) (hb : Below B w w') (hB : g < B) : HasP w' g xs := by
  unfold HasP at *
  rw [hb.block g hB]; exact h
end Go.Proofs.YtakdpkoigijonaaGreat
namespace Go.Proofs.YtakdpkoigijonaaGreat
set_option maxRecDepth 100000
open Go.RowKit
/-- A number in a cell. -/
def Nv (n : Nat) : Value := .int .i64 (n : Int)
/-- A slice value that has the numbers ds. -/
structure Is (w : World) (sp : Option Addr) (b o : Nat) (ds : List Nat) : Prop where
  ptr : 0 < ds.length → sp = some ⟨b, o, none⟩
  cell : ∀ (i : Nat) (d : Nat), ds[i]? = some d → w.cell? ⟨b, o + i, none⟩ = some (.int .i64 (d : Int))
theorem Is.lt {w : World} {sp : Option Addr} {b o : Nat} {ds : List Nat} (h : Is w sp b o ds) {i d : Nat} (hi : ds[i]? = some d) : b < w.heap.size := block_lt_of_cell (h.cell i d hi)
theorem Is.below {w w' : World} {sp : Option Addr} {b o : Nat} {ds : List Nat} (h : Is w sp b o ds) (hb : Below w.heap.size w w') : Is w' sp b o ds :=
  ⟨h.ptr, fun i d hi => by rw [hb.cell (h.lt hi)]; exact h.cell i d hi⟩
end Go.Proofs.YtakdpkoigijonaaGreat
namespace Go.Proofs.YtakdpkoigijonaaGreat
set_option maxRecDepth 100000
open Go.RowKit
/-- v is a slice of the call's own that has the numbers xs. -/
def OwnI (w : World) (base : Nat) (v : Value) (n : Nat) (xs : List Nat) : Prop := w.ownsRow base 3 1 v n (xs.map Nv)
theorem OwnI.alloc {w : World} {base n : Nat} {v : Value} {xs : List Nat} (h : OwnI w base v n xs) (o : Obj) : OwnI (w.alloc o) base v n xs := World.ownsRow.alloc h o
attribute [local go_sem] and15
end Go.Proofs.YtakdpkoigijonaaGreat
namespace Go.Proofs.YtakdpkoigijonaaGreat
set_option maxRecDepth 100000
open Go.RowKit
/-- The secret of chain c. -/
def sec (seed : List (BitVec 8)) (key c : Int) : List (BitVec 8) := shaOf (kb 3 :: (seed ++ (four key ++ four c)))
theorem HasV.setRow {w : World} {g : Nat} {T : TypeId} {xs ys : List (BitVec 8)} (h : HasV w g T xs) : HasV (w.setRow g (ys.map V).toArray) g T ys := setRow_heap _ _ _ _ T (0, 0) h
theorem HasV.setRow_other {w : World} {g b : Nat} {T : TypeId} {xs : List (BitVec 8)} {cs : Array Value} (h : HasV w b T xs) (hne : b ≠ g) : HasV (w.setRow g cs) b T xs := by
  have := Go.setRow_other w g b cs hne
  unfold HasV at *
  rw [this]; exact h
end Go.Proofs.YtakdpkoigijonaaGreat
