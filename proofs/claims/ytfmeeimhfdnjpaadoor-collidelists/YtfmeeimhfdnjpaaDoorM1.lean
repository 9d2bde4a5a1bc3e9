/- Plain arithmetic of 32-bit words and bytes as the model spells it, and the sum's own functions on words. No program is spoken of. Plain: a region that draws its order, whose operations yield what does not hang on the order and do no more to the memory than to make new blocks: whatever order is picked, behind it each slot has what its operation yields. No program is spoken of. What rotr and math/bits.RotateLeft32 hand back: the word turned to the right. What wordsOf hands back: the words of a block of 64 bytes, whatever the memory. What mixed hands back: the eight numbers behind a block of 64 bytes, whatever the memory, where the numbers of the rounds lie in block 0. A digest in memory, what writing bytes makes of it, and small laws on worlds in which one block has turned. No program is spoken of. What firstState, New and Len hand back; mixed once more, its arguments written out. What Write makes of a digest in memory: just what the plain function on digests says; no other block turns. -/
import Derived.WalkKit
import Derived.Orders
import Derived.Test.YtfmeeimhfdnjpaaDoorProg
import Derived.WalkSpells
import Derived.WalkLawsBesides
import Derived.BigRegion
import Derived.Deep.QuietTactic
import Derived.BigQuiet
import Derived.Maps.RangeWalk
import Derived.Laws.CopyOwn
import Derived.Deep.DeepCutAuto
import Derived.Deep.RegionWith
namespace Go.Proofs.YtfmeeimhfdnjpaaDoor
set_option maxRecDepth 100000
open Go.RowKit

/-- A word's number. -/
def vl (x : BitVec 32) : Int := (x.toNat : Int)
/-- A byte's number. -/
def bv (x : BitVec 8) : Int := (x.toNat : Int)
theorem hide {p : Prop} (h : p) : Hid p := h
/-- A fact kept from the walk, also from what looks through definitions. -/
structure Box (p : Prop) : Prop where
  out : p
theorem ret_int {k : IntKind} {a b : Int} (h : a = b) : Ending.returned (.int k a) = .returned (.int k b) := by rw [h]
theorem bv_range (x : BitVec 8) : 0 ≤ bv x ∧ bv x < (256 : Int) := by unfold bv; have := x.isLt; omega
theorem vl_xor (x y : BitVec 32) : bits .xor .u32 (vl x) (vl y) = vl (x ^^^ y) := by
  unfold vl; rw [u32_xor _ _ (by omega) (by have := x.isLt; omega) (by omega) (by have := y.isLt; omega)]; simp
theorem vl_and (x y : BitVec 32) : bits .and .u32 (vl x) (vl y) = vl (x &&& y) := by
  unfold vl; rw [u32_and _ _ (by omega) (by have := x.isLt; omega) (by omega) (by have := y.isLt; omega)]; simp
theorem vl_or (x y : BitVec 32) : bits .or .u32 (vl x) (vl y) = vl (x ||| y) := by
  unfold vl; rw [u32_or _ _ (by omega) (by have := x.isLt; omega) (by omega) (by have := y.isLt; omega)]; simp
theorem vl_not (x : BitVec 32) : bits .xor .u32 (4294967295 : Int) (vl x) = vl (~~~ x) := by
  have e : (4294967295 : Int) = vl (BitVec.allOnes 32) := by unfold vl; rfl
  rw [e, vl_xor, BitVec.allOnes_xor]
theorem vl_notw (x : BitVec 32) : bits .xor .u32 (if IntKind.u32.signed = true then -1 else IntKind.u32.max) (vl x) = vl (~~~ x) := by
  rw [show (if IntKind.u32.signed = true then (-1 : Int) else IntKind.u32.max) = 4294967295 from by decide, vl_not]
theorem vl_add (x y : BitVec 32) : (vl x + vl y) % (4294967296 : Int) = vl (x + y) := by
  unfold vl; rw [BitVec.toNat_add]; omega
theorem vl_addw (x y : BitVec 32) : IntKind.u32.wrap (vl x + vl y) = vl (x + y) := by
  rw [IntKind.wrap_u32', vl_add]
theorem vl_shl (x : BitVec 32) (n : Nat) : (vl x * 2 ^ n) % (4294967296 : Int) = vl (x <<< n) := by
  unfold vl; rw [BitVec.toNat_shiftLeft, Nat.shiftLeft_eq]; simp
theorem vl_shr (x : BitVec 32) (n : Nat) : vl x / 2 ^ n = vl (x >>> n) := by
  unfold vl; rw [BitVec.toNat_ushiftRight, Nat.shiftRight_eq_div_pow]; simp
theorem cnt_all : ∀ m : Fin 31, bits .and .u64 (IntKind.u64.wrap (-((m.val + 1 : Nat) : Int))) 31 = ((32 - (m.val + 1) : Nat) : Int) := by decide +kernel
theorem cnt (n : Nat) (h1 : 0 < n) (h2 : n < 32) : bits .and .u64 (IntKind.u64.wrap (-(n : Int))) 31 = ((32 - n : Nat) : Int) := by
  have := cnt_all ⟨n - 1, by omega⟩
  simpa [show n - 1 + 1 = n by omega] using this
theorem cnt2 (n : Nat) (h1 : 0 < n) (h2 : n < 32) : IntKind.u64.wrap (32 - ((32 - n : Nat) : Int)) = (n : Int) := by
  rw [IntKind.wrap_u64]; omega
/-- Turned to the right. -/
def rot (x : BitVec 32) (n : Nat) : BitVec 32 := x <<< (32 - n) ||| x >>> n
theorem rot_raw (x : BitVec 32) (n : Nat) : bits .or .u32 (vl x * 2 ^ (32 - n) % (4294967296 : Int)) (vl x / 2 ^ n) = vl (rot x n) := by
  rw [vl_shl x (32 - n), vl_shr x n, vl_or]; rfl
theorem shr3_raw (x : BitVec 32) : vl x / (8 : Int) = vl (x >>> 3) := vl_shr x 3
theorem shr10_raw (x : BitVec 32) : vl x / (1024 : Int) = vl (x >>> 10) := vl_shr x 10

/-- Four bytes, the highest first. -/
def be (b1 b2 b3 b4 : BitVec 8) : BitVec 32 := b1.setWidth 32 <<< 24 ||| b2.setWidth 32 <<< 16 ||| b3.setWidth 32 <<< 8 ||| b4.setWidth 32
theorem bv_w (b : BitVec 8) : bv b = vl (b.setWidth 32) := by
  unfold vl bv; have := b.isLt; rw [BitVec.toNat_setWidth]; omega
theorem bv_wrap (b : BitVec 8) : bv b % (4294967296 : Int) = vl (b.setWidth 32) := by
  have := bv_range b; rw [← bv_w]; omega
theorem bv_wrapw (b : BitVec 8) : IntKind.u32.wrap (bv b) = vl (b.setWidth 32) := by rw [IntKind.wrap_u32', bv_wrap]
theorem shl24_raw (x : BitVec 32) : (vl x * (16777216 : Int)) % (4294967296 : Int) = vl (x <<< 24) := vl_shl x 24
theorem shl16_raw (x : BitVec 32) : (vl x * (65536 : Int)) % (4294967296 : Int) = vl (x <<< 16) := vl_shl x 16
theorem shl8_raw (x : BitVec 32) : (vl x * (256 : Int)) % (4294967296 : Int) = vl (x <<< 8) := vl_shl x 8
/-- The words of a block: the first k of the sixteen. -/
def w1 (bs : List (BitVec 8)) : Nat → List (BitVec 32)
  | 0 => List.replicate 64 0
  | k + 1 => (w1 bs k).set k (be (bs.getD (4 * k) 0) (bs.getD (4 * k + 1) 0) (bs.getD (4 * k + 2) 0) (bs.getD (4 * k + 3) 0))
def sg0 (x : BitVec 32) : BitVec 32 := rot x 7 ^^^ rot x 18 ^^^ x >>> 3
def sg1 (x : BitVec 32) : BitVec 32 := rot x 17 ^^^ rot x 19 ^^^ x >>> 10
def wnext (l : List (BitVec 32)) (t : Nat) : BitVec 32 := sg1 (l.getD (t - 2) 0) + l.getD (t - 7) 0 + sg0 (l.getD (t - 15) 0) + l.getD (t - 16) 0
/-- The words of a block, k of the forty-eight that follow the sixteen. -/
def w2 (bs : List (BitVec 8)) : Nat → List (BitVec 32)
  | 0 => w1 bs 16
  | k + 1 => (w2 bs k).set (16 + k) (wnext (w2 bs k) (16 + k))
def words (bs : List (BitVec 8)) : List (BitVec 32) := w2 bs 48
theorem w1_len (bs : List (BitVec 8)) (k : Nat) : (w1 bs k).length = 64 := by
  induction k with
  | zero => simp [w1]
  | succ k ih => simp [w1, ih]
theorem w2_len (bs : List (BitVec 8)) (k : Nat) : (w2 bs k).length = 64 := by
  induction k with
  | zero => simp [w2, w1_len]
  | succ k ih => simp [w2, ih]
theorem words_len (bs : List (BitVec 8)) : (words bs).length = 64 := w2_len bs 48

/-- A word in a cell. -/
def U (x : BitVec 32) : Value := .int .u32 (vl x)
/-- Block b of the world is an array of words. -/
def HasW (w : World) (b : Nat) (T : TypeId) (xs : List (BitVec 32)) : Prop := w.heap[b]? = some (.cells (xs.map U).toArray T (0, 0))
theorem HasW.cell {w : World} {b : Nat} {T : TypeId} {xs : List (BitVec 32)} (h : HasW w b T xs) (i : Nat) (hi : i < xs.length) : w.cell? ⟨b, i, none⟩ = some (.int .u32 (vl (xs.getD i 0))) := by
  unfold HasW at h
  simp [World.cell?, h, hi, U]
theorem HasW.frozen {w : World} {b : Nat} {T : TypeId} {xs : List (BitVec 32)} (h : HasW w b T xs) (i : Nat) : w.frozen? ⟨b, i, none⟩ = false := by
  unfold HasW at h
  simp [World.frozen?, h]
theorem HasW.set {w : World} {b : Nat} {T : TypeId} {xs : List (BitVec 32)} (h : HasW w b T xs) (i : Nat) (x : BitVec 32) : HasW (w.setCell ⟨b, i, none⟩ (.int .u32 (vl x))) b T (xs.set i x) := by
  unfold HasW at *
  simp [World.setCell, Array.getElem?_modify, h, U, List.map_set]
theorem HasW.below {w w' : World} {B b : Nat} {T : TypeId} {xs : List (BitVec 32)} (h : HasW w b T xs) (hb : Below B w w') (hB : b < B) : HasW w' b T xs := by
  unfold HasW at *
  rw [hb.block b hB]; exact h
theorem HasW.drew {w : World} {b : Nat} {T : TypeId} {xs : List (BitVec 32)} (h : HasW w b T xs) : HasW w.drew b T xs := h
theorem HasW.other {w : World} {b : Nat} {T : TypeId} {xs : List (BitVec 32)} (h : HasW w b T xs) (a : Addr) (v : Value) (hne : b ≠ a.block) : HasW (w.setCell a v) b T xs := by
  unfold HasW at *
  rw [heap_setCell_other _ _ _ _ hne]; exact h
theorem w2_step {w : World} {b : Nat} {T : TypeId} (bs : List (BitVec 8)) (t : Nat) (h1 : 16 ≤ t) (h : HasW w b T (w2 bs (t - 16))) : HasW (w.setCell ⟨b, t, none⟩ (.int .u32 (vl (wnext (w2 bs (t - 16)) t)))) b T (w2 bs (t + 1 - 16)) := by
  have e : t + 1 - 16 = (t - 16) + 1 := by omega
  have := h.set t (wnext (w2 bs (t - 16)) t)
  rw [e, w2, show 16 + (t - 16) = t by omega]
  exact this
theorem U_one (xs : List (BitVec 32)) : ((xs.map U).toArray).all (·.oneCell') = true := by
  simp [U, Value.oneCell']
/-- The eight numbers. -/
structure St where
  a : BitVec 32
  b : BitVec 32
  c : BitVec 32
  d : BitVec 32
  e : BitVec 32
  f : BitVec 32
  g : BitVec 32
  h : BitVec 32
def St.t1 (s : St) (k w : BitVec 32) : BitVec 32 := s.h + (rot s.e 6 ^^^ rot s.e 11 ^^^ rot s.e 25) + ((s.e &&& s.f) ^^^ (~~~ s.e &&& s.g)) + k + w
def St.t2 (s : St) : BitVec 32 := (rot s.a 2 ^^^ rot s.a 13 ^^^ rot s.a 22) + ((s.a &&& s.b) ^^^ (s.a &&& s.c) ^^^ (s.b &&& s.c))
/-- One round. -/
def rnd (s : St) (k w : BitVec 32) : St := ⟨s.t1 k w + s.t2, s.a, s.b, s.c, s.d + s.t1 k w, s.e, s.f, s.g⟩
/-- The numbers of the rounds. -/
def KN : List (BitVec 32) := [1116352408, 1899447441, 3049323471, 3921009573, 961987163, 1508970993, 2453635748, 2870763221, 3624381080, 310598401, 607225278, 1426881987, 1925078388, 2162078206, 2614888103, 3248222580, 3835390401, 4022224774, 264347078, 604807628, 770255983, 1249150122, 1555081692, 1996064986, 2554220882, 2821834349, 2952996808, 3210313671, 3336571891, 3584528711, 113926993, 338241895, 666307205, 773529912, 1294757372, 1396182291, 1695183700, 1986661051, 2177026350, 2456956037, 2730485921, 2820302411, 3259730800, 3345764771, 3516065817, 3600352804, 4094571909, 275423344, 430227734, 506948616, 659060556, 883997877, 958139571, 1322822218, 1537002063, 1747873779, 1955562222, 2024104815, 2227730452, 2361852424, 2428436474, 2756734187, 3204031479, 3329325298]
def rnds (ws : List (BitVec 32)) (s : St) : Nat → St
  | 0 => s
  | k + 1 => rnd (rnds ws s k) (KN.getD k 0) (ws.getD k 0)
def St.plus (s t : St) : St := ⟨s.a + t.a, s.b + t.b, s.c + t.c, s.d + t.d, s.e + t.e, s.f + t.f, s.g + t.g, s.h + t.h⟩
/-- The eight numbers behind a block. -/
def mix (s : St) (bs : List (BitVec 8)) : St := s.plus (rnds (words bs) s 64)
def St.list (s : St) : List (BitVec 32) := [s.a, s.b, s.c, s.d, s.e, s.f, s.g, s.h]
def St.first : St := ⟨1779033703, 3144134277, 1013904242, 2773480762, 1359893119, 2600822924, 528734635, 1541459225⟩
/-- The numbers of the rounds lie in block g. -/
def HasK (w : World) (g : Nat) : Prop := ∀ i, i < 64 → w.cell? ⟨g, i, none⟩ = some (.int .u32 (vl (KN.getD i 0)))
theorem HasK.below {w w' : World} {B g : Nat} (h : HasK w g) (hb : Below B w w') (hB : g < B) : HasK w' g := fun i hi => by rw [hb.cell (by exact hB)]; exact h i hi
/-- The bytes bs lie from (b, o) on. -/
def HasB (w : World) (b o : Nat) (bs : List (BitVec 8)) : Prop := ∀ i, i < bs.length → w.cell? ⟨b, o + i, none⟩ = some (.int .u8 (bv (bs.getD i 0)))
theorem HasB.below {w w' : World} {B b o : Nat} {bs : List (BitVec 8)} (h : HasB w b o bs) (hb : Below B w w') (hB : b < B) : HasB w' b o bs := fun i hi => by rw [hb.cell (by exact hB)]; exact h i hi
end Go.Proofs.YtfmeeimhfdnjpaaDoor
namespace Go.Proofs.YtfmeeimhfdnjpaaDoor
set_option maxRecDepth 100000
open Go.RowKit
/-- The slots of the operations are set, one behind the other. -/
def putAll (vs : Nat → Value) : Nat → List Oper → Act → Act
  | _, [], a => a
  | i, o :: r, a => putAll vs (i + 1) r (a.put o.dst (vs i))
/-- The slot t is set by none of them. -/
def freeOf (l : List Oper) (t : Nat) : Bool := l.all fun o => o.dst != some t
/-- Each sets a slot of its own, below n. -/
def dstsOk (n : Nat) : List Oper → Bool
  | [] => true
  | o :: r => (match o.dst with | some d => decide (d < n) && freeOf r d | none => false) && dstsOk n r
/-- Each waits for ones ahead of it alone; from number k on there is at most one, that waits for all. -/
def edgesOk (ops : List Oper) (k : Nat) : Bool :=
  (List.range ops.length).all (fun i => ((ops[i]?).map fun o => o.after.toList.all fun e => !Region.binds .any e || decide (e.on < i)).getD true) &&
  decide (ops.length ≤ k + 1) && (((ops[k]?).map fun o => (List.range k).all fun j => o.after.toList.any fun e => e.on == j && Region.binds .any e).getD true)
/-- The operation o waits for number j, whose slot is d. -/
def depOk (ops : List Oper) (k : Nat) (o : Oper) (j d : Nat) : Bool :=
  decide (j < k) && (o.after.toList.any fun e => e.on == j && Region.binds .any e) && (((ops[j]?).bind (·.dst)) == some d)
/-- What is told of the frame and of the world when the operation o comes up. -/
structure Known (ops : List Oper) (k : Nat) (φ : Nat → Value → World → Prop) (a0 : Act) (w0 : World) (o : Oper) (a : Act) (w : World) : Prop where
  old : ∀ t, freeOf (ops.take k) t = true → a.eval (.tmp t) = a0.eval (.tmp t)
  dep : ∀ j d, depOk ops k o j d = true → φ j (a.eval (.tmp d)) w
  grow : Below w0.heap.size w0 w
/-- The operation ends: its slot has a value of which f speaks, and no block that was there is other. -/
def Ends (a : Act) (dst : Option Tmp) (w : World) (f : Value → World → Prop) : Act → World → Prop :=
  fun a' w' => ∃ v, a' = a.put dst v ∧ Below w.heap.size w w' ∧ f v w'
theorem freeOf_spec {l : List Oper} {t : Nat} (h : freeOf l t = true) {i : Nat} {o : Oper} (hi : l[i]? = some o) : o.dst ≠ some t := by
  have := List.all_eq_true.1 h o (List.mem_of_getElem? hi)
  simpa using this
theorem dstsOk_spec {n : Nat} : ∀ {l : List Oper}, dstsOk n l = true → ∀ (i : Nat) (o : Oper), l[i]? = some o → ∃ d, o.dst = some d ∧ d < n ∧ ∀ (j : Nat) (o' : Oper), l[j]? = some o' → j ≠ i → o'.dst ≠ some d
  | [], _, i, o, hi => by simp at hi
  | q :: r, h, i, o, hi => by
    unfold dstsOk at h
    rw [Bool.and_eq_true] at h
    obtain ⟨h1, h2⟩ := h
    cases hq : q.dst with
    | none => rw [hq] at h1; simp at h1
    | some dq =>
      rw [hq] at h1
      simp only [Bool.and_eq_true, decide_eq_true_eq] at h1
      cases i with
      | zero =>
        obtain rfl : q = o := by simpa using hi
        refine ⟨dq, hq, h1.1, fun j o' hj hne => ?_⟩
        cases j with
        | zero => exact absurd rfl hne
        | succ j => exact freeOf_spec h1.2 (by simpa using hj)
      | succ i =>
        have hi' : r[i]? = some o := by simpa using hi
        obtain ⟨d, e, hd, hall⟩ := dstsOk_spec h2 i o hi'
        refine ⟨d, e, hd, fun j o' hj hne => ?_⟩
        cases j with
        | zero =>
          obtain rfl : q = o' := by simpa using hj
          rw [hq]
          intro hh
          obtain rfl := Option.some.inj hh
          exact freeOf_spec h1.2 hi' e
        | succ j => exact hall j o' (by simpa using hj) (by omega)
theorem put_size (a : Act) (d : Option Tmp) (v : Value) : (a.put d v).tmps.size = a.tmps.size := by cases d <;> simp [Act.put]
theorem put_def (a : Act) (d : Option Tmp) (v : Value) : (a.put d v).defers = a.defers := by cases d <;> rfl
theorem put_same (a : Act) (d : Nat) (v : Value) (h : d < a.tmps.size) : (a.put (some d) v).tmps[d]? = some v := by simp [Act.put, h]
theorem put_other (a : Act) (d : Option Tmp) (v : Value) (t : Nat) (h : d ≠ some t) : (a.put d v).tmps[t]? = a.tmps[t]? := by
  cases d with
  | none => rfl
  | some d =>
    have : d ≠ t := fun e => h (by rw [e])
    simp only [Act.put]
    rw [Array.getElem?_setIfInBounds]
    simp [this]
theorem putAll_size (vs : Nat → Value) : ∀ (l : List Oper) (i : Nat) (a : Act), (putAll vs i l a).tmps.size = a.tmps.size
  | [], _, _ => rfl
  | o :: r, i, a => by rw [putAll, putAll_size vs r, put_size]
theorem putAll_def (vs : Nat → Value) : ∀ (l : List Oper) (i : Nat) (a : Act), (putAll vs i l a).defers = a.defers
  | [], _, _ => rfl
  | o :: r, i, a => by rw [putAll, putAll_def vs r, put_def]
theorem putAll_other (vs : Nat → Value) (t : Nat) : ∀ (l : List Oper) (i : Nat) (a : Act), (∀ (j : Nat) (o : Oper), l[j]? = some o → o.dst ≠ some t) → (putAll vs i l a).tmps[t]? = a.tmps[t]?
  | [], _, _, _ => rfl
  | o :: r, i, a, h => by
    rw [putAll, putAll_other vs t r _ _ (fun j o' hj => h (j + 1) o' (by simpa using hj)), put_other _ _ _ _ (h 0 o rfl)]
theorem putAll_at (vs : Nat → Value) (d : Nat) : ∀ (l : List Oper) (i : Nat) (a : Act) (k : Nat) (o : Oper), l[k]? = some o → o.dst = some d → d < a.tmps.size → (∀ (j : Nat) (o' : Oper), l[j]? = some o' → j ≠ k → o'.dst ≠ some d) → (putAll vs i l a).tmps[d]? = some (vs (i + k))
  | [], _, _, k, o, hk, _, _, _ => by simp at hk
  | q :: r, i, a, 0, o, hk, ho, hd, hall => by
    obtain rfl : q = o := by simpa using hk
    rw [putAll, putAll_other vs d r _ _ (fun j o' hj => hall (j + 1) o' (by simpa using hj) (by omega)), ho, put_same _ _ _ hd, Nat.add_zero]
  | q :: r, i, a, k + 1, o, hk, ho, hd, hall => by
    rw [putAll, putAll_at vs d r (i + 1) _ k o (by simpa using hk) ho (by rw [put_size]; exact hd) (fun j o' hj hne => hall (j + 1) o' (by simpa using hj) (by omega))]
    congr 2
    omega
/-- How many have not come up yet. -/
def unl (listed : Array Bool) : Nat := listed.countP (fun b => !b)
theorem unl_set {listed : Array Bool} {i : Nat} (h : listed.getD i true = false) : unl (listed.setIfInBounds i true) + 1 = unl listed := by
  have hi : i < listed.size := by
    rcases Nat.lt_or_ge i listed.size with h' | h'
    · exact h'
    · simp [Array.getElem?_eq_none h'] at h
  have hv : listed[i] = false := by simpa [hi] using h
  have hc : 0 < listed.countP (fun b => !b) := by
    rw [Array.countP_pos_iff]
    exact ⟨false, by rw [← hv]; exact Array.getElem_mem hi, rfl⟩
  unfold unl
  rw [Array.setIfInBounds_def, dif_pos hi, Array.countP_set hi, hv]
  simp
  omega
theorem unl_zero {listed : Array Bool} (h : unl listed = 0) (i : Nat) (hi : i < listed.size) : listed.getD i true = true := by
  unfold unl at h
  rw [Array.countP_eq_zero] at h
  have := h listed[i] (Array.getElem_mem hi)
  simpa [hi] using this
section
variable {P : Program} {ops : Array Oper} {Q : Exit → Act → World → Prop} {φ : Nat → Value → World → Prop} {k : Nat} {a0 : Act} {w0 : World}
/-- The state in the midst. -/
structure Mids (ops : Array Oper) (k : Nat) (φ : Nat → Value → World → Prop) (a0 : Act) (w0 : World) (listed : Array Bool) (a : Act) (w : World) : Prop where
  size : a.tmps.size = a0.tmps.size
  defs : a.defers = a0.defers
  lsize : listed.size = ops.size
  old : ∀ t, freeOf (ops.toList.take k) t = true → a.tmps[t]? = a0.tmps[t]?
  has : ∀ (i : Nat) (o : Oper) (d : Nat), i < k → ops[i]? = some o → o.dst = some d → listed.getD i false = true → φ i (a.eval (.tmp d)) w
  last : ∀ i, k ≤ i → i < ops.size → listed.getD i true = false
  grow : Below w0.heap.size w0 w
theorem getD_tf {listed : Array Bool} {i : Nat} (hi : i < listed.size) : listed.getD i true = listed.getD i false := by simp [hi]
theorem all_listed_ready {listed : Array Bool} (hs : listed.size = ops.size) (h : unl listed = 0) : Region.ready .any ops listed = [] := by
  cases hr : Region.ready .any ops listed with
  | nil => rfl
  | cons i r =>
    have hi : i ∈ Region.ready .any ops listed := by rw [hr]; exact List.mem_cons_self
    obtain ⟨h1, o, ho, _⟩ := mem_ready.1 hi
    have hl : i < listed.size := by rw [hs]; exact (Array.getElem?_eq_some_iff.1 ho).1
    rw [unl_zero h i hl] at h1
    cases h1
theorem ready_listed (hE : edgesOk ops.toList k = true) {listed : Array Bool} (hs : listed.size = ops.size) (h : Region.ready .any ops listed = []) : unl listed = 0 := by
  unfold edgesOk at hE
  simp only [Bool.and_eq_true] at hE
  have hback := List.all_eq_true.1 hE.1.1
  have key : ∀ n i, i < n → i < listed.size → listed.getD i true = true := by
    intro n
    induction n with
    | zero => intro i h; omega
    | succ n ih =>
      intro i hi hl
      cases hc : listed.getD i true with
      | true => rfl
      | false =>
        exfalso
        have hio : i < ops.size := by omega
        have hm : i ∈ Region.ready .any ops listed := by
          refine mem_ready.2 ⟨hc, ops[i], Array.getElem?_eq_getElem hio, fun e he hbd => ?_⟩
          have hb := hback i (by simp; exact hio)
          simp only [Array.getElem?_toList, Array.getElem?_eq_getElem hio, Option.map_some, Option.getD_some] at hb
          have hb2 : e.on < i := by
            have := List.all_eq_true.1 hb e (by simpa using he)
            simpa [hbd] using this
          have := ih e.on (by omega) (by omega)
          rw [← getD_tf (by omega)]; exact this
        rw [h] at hm
        cases hm
  unfold unl
  rw [Array.countP_eq_zero]
  intro b hb
  obtain ⟨i, hi, rfl⟩ := Array.mem_iff_getElem.1 hb
  have := key (i + 1) i (by omega) hi
  simpa [hi] using this
theorem eval_of_get {a b : Act} {t : Nat} (h : a.tmps[t]? = b.tmps[t]?) : a.eval (.tmp t) = b.eval (.tmp t) := by
  simp [Act.eval, h]
theorem getD_set_same {listed : Array Bool} {i : Nat} (h : i < listed.size) : (listed.setIfInBounds i true).getD i false = true := by simp [h]
theorem frame_eq (hD : dstsOk a0.tmps.size (ops.toList.take k) = true) {listed : Array Bool} {a : Act} {w : World} (h : Mids ops k φ a0 w0 listed a w) (hl : ∀ i, i < k → i < ops.size → listed.getD i false = true) (hk : k ≤ ops.size) :
    ∃ vs : Nat → Value, (∀ i, i < k → φ i (vs i) w) ∧ a = putAll vs 0 (ops.toList.take k) a0 := by
  have hat : ∀ i, i < k → ∃ o, ops[i]? = some o ∧ (ops.toList.take k)[i]? = some o := fun i hi =>
    ⟨ops[i], Array.getElem?_eq_getElem (by omega), by rw [List.getElem?_take, if_pos hi, Array.getElem?_toList, Array.getElem?_eq_getElem (by omega)]⟩
  let vs : Nat → Value := fun i => match (ops[i]?).bind (·.dst) with | some d => a.eval (.tmp d) | none => undef
  have hvs : ∀ (i : Nat) (o : Oper) (d : Nat), ops[i]? = some o → o.dst = some d → vs i = a.eval (.tmp d) := fun i o d ho hd => by simp only [vs, ho, Option.bind_some, hd]
  refine ⟨vs, fun i hi => ?_, ?_⟩
  · obtain ⟨o, ho, ht⟩ := hat i hi
    obtain ⟨d, hd, _, _⟩ := dstsOk_spec hD i o ht
    rw [hvs i o d ho hd]
    exact h.has i o d hi ho hd (hl i hi (by omega))
  · have hdef := putAll_def vs (ops.toList.take k) 0 a0
    have hsz := putAll_size vs (ops.toList.take k) 0 a0
    have htm : a.tmps = (putAll vs 0 (ops.toList.take k) a0).tmps := by
      apply Array.ext_getElem?
      intro t
      cases hf : freeOf (ops.toList.take k) t with
      | true =>
        rw [h.old t hf, putAll_other vs t _ _ _ (fun j o hj => freeOf_spec hf hj)]
      | false =>
        have : ∃ (i : Nat) (o : Oper), (ops.toList.take k)[i]? = some o ∧ o.dst = some t := by
          unfold freeOf at hf
          rw [List.all_eq_false] at hf
          obtain ⟨o, hm, hne⟩ := hf
          obtain ⟨i, hi⟩ := List.getElem?_of_mem hm
          exact ⟨i, o, hi, by simpa using hne⟩
        obtain ⟨i, o, hi, hd⟩ := this
        obtain ⟨d, hd2, hlt, hall⟩ := dstsOk_spec hD i o hi
        obtain rfl : t = d := Option.some.inj (hd.symm.trans hd2)
        rw [putAll_at vs t _ 0 a0 i o hi hd hlt hall, Nat.zero_add]
        have hik : i < k := by
          have := (List.getElem?_eq_some_iff.1 hi).1
          simp at this; omega
        have hio : ops[i]? = some o := by
          rw [List.getElem?_take, if_pos hik, Array.getElem?_toList] at hi; exact hi
        rw [hvs i o t hio hd]
        have : t < a.tmps.size := by rw [h.size]; exact hlt
        simp [Act.eval, this]
    cases a
    cases hp : putAll vs 0 (ops.toList.take k) a0
    rw [hp] at htm hdef
    have := h.defs
    simp_all
theorem wpAny_nil {fuel : Nat} {listed : Array Bool} {a : Act} {w : World} (hr : Region.ready .any ops listed = []) (h : Q .normal a w) : wpAny P .any ops Q fuel listed a w := by
  cases fuel with
  | zero => exact ⟨hr, h⟩
  | succ n => exact ⟨fun _ => h, fun i hi => by rw [hr] at hi; cases hi⟩
theorem wp_mids (hk : k ≤ ops.size) (hE : edgesOk ops.toList k = true) (hD : dstsOk a0.tmps.size (ops.toList.take k) = true)
    (hG : ∀ (i : Nat) (o : Oper) (j : Nat) (b : Bool), i < k → ops[i]? = some o → o.guard = some (j, b) → (∃ d, depOk ops.toList k o j d = true) ∧ ((∀ v w, φ j v w → v = .bool b) ∨ ((∀ v w, φ j v w → v = .bool (!b)) ∧ ∀ v w, φ i v w)))
    (hM : ∀ i v w w', φ i v w → Below w.heap.size w w' → φ i v w')
    (hS : ∀ (i : Nat) (o : Oper), i < k → ops[i]? = some o → (∀ (j : Nat) (b : Bool), o.guard = some (j, b) → ∀ v w, φ j v w → v = .bool b) → ∀ a w, Known ops.toList k φ a0 w0 o a w → o.wp P a w (Ends a o.dst w (φ i)) Q)
    (hF : ∀ vs w, (∀ i, i < k → φ i (vs i) w) → Below w0.heap.size w0 w → wpList P ops Q (ops.toList.drop k) (putAll vs 0 (ops.toList.take k) a0) w) :
    ∀ (fuel : Nat) (listed : Array Bool) (a : Act) (w : World), unl listed ≤ fuel → Mids ops k φ a0 w0 listed a w → wpAny P .any ops Q fuel listed a w := by
  have hlen : ops.size ≤ k + 1 := by
    have h := hE
    unfold edgesOk at h
    simp only [Bool.and_eq_true, decide_eq_true_eq, Array.length_toList] at h
    exact h.1.2
  have hfull : ∀ (listed : Array Bool) (a : Act) (w : World), Mids ops k φ a0 w0 listed a w → Region.ready .any ops listed = [] → Q .normal a w := by
    intro listed a w hm hr
    have hu := ready_listed hE hm.lsize hr
    have hks : ops.size = k := by
      rcases Nat.lt_or_ge k ops.size with h | h
      · have h1 := unl_zero hu k (by rw [hm.lsize]; exact h)
        rw [hm.last k (Nat.le_refl _) h] at h1
        cases h1
      · omega
    obtain ⟨vs, hv, e⟩ := frame_eq hD hm (fun i _ hi => by rw [← getD_tf (by rw [hm.lsize]; exact hi)]; exact unl_zero hu i (by rw [hm.lsize]; exact hi)) hk
    have := hF vs w hv hm.grow
    rw [← e, List.drop_of_length_le (by simp; omega)] at this
    exact this
  intro fuel
  induction fuel with
  | zero =>
    intro listed a w hu hm
    have hr := all_listed_ready (ops := ops) hm.lsize (by omega)
    exact ⟨hr, hfull listed a w hm hr⟩
  | succ fuel ih =>
    intro listed a w hu hm
    refine ⟨hfull listed a w hm, fun i hi => ?_⟩
    obtain ⟨hun, o, ho, hdep⟩ := mem_ready.1 hi
    have hio : i < ops.size := (Array.getElem?_eq_some_iff.1 ho).1
    have hu' := unl_set hun
    rcases Nat.lt_or_ge i k with hik | hik
    · have hK : Known ops.toList k φ a0 w0 o a w := by
        refine ⟨fun t ht => eval_of_get (hm.old t ht), fun j d hj => ?_, hm.grow⟩
        unfold depOk at hj
        simp only [Bool.and_eq_true, decide_eq_true_eq, beq_iff_eq, Array.getElem?_toList] at hj
        obtain ⟨⟨hjk, hany⟩, hd⟩ := hj
        obtain ⟨e, he, hb⟩ := List.any_eq_true.1 hany
        simp only [Bool.and_eq_true, beq_iff_eq] at hb
        have hl := hdep e (by simpa using he) hb.2
        rw [hb.1] at hl
        cases hoj : ops[j]? with
        | none => rw [hoj] at hd; simp at hd
        | some oj =>
          rw [hoj] at hd
          exact hm.has j oj d hjk hoj (by simpa using hd) hl
      have hto : (ops.toList.take k)[i]? = some o := by rw [List.getElem?_take, if_pos hik, Array.getElem?_toList]; exact ho
      obtain ⟨d, hd, hlt, hall⟩ := dstsOk_spec hD i o hto
      have hnext : ∀ v w', Below w.heap.size w w' → φ i v w' → wpAny P .any ops Q fuel (listed.setIfInBounds i true) (a.put o.dst v) w' := by
        intro v w' hb hf
        refine ih _ _ _ (by omega) ⟨by rw [put_size]; exact hm.size, by rw [put_def]; exact hm.defs, by simp; exact hm.lsize, fun t ht => ?_, fun j oj dj hj hoj hdj hlj => ?_, fun j hj1 hj2 => ?_, hm.grow.trans (hb.mono hm.grow.size)⟩
        · rw [put_other _ _ _ _ (freeOf_spec ht hto)]; exact hm.old t ht
        · by_cases e : j = i
          · subst e
            obtain rfl : oj = o := Option.some.inj (hoj.symm.trans ho)
            obtain rfl : dj = d := Option.some.inj (hdj.symm.trans hd)
            have hev : (a.put oj.dst v).eval (.tmp dj) = v := by
              have := put_same a dj v (by rw [hm.size]; exact hlt)
              rw [← hd] at this
              simp [Act.eval, this]
            rw [hev]; exact hf
          · have htj : (ops.toList.take k)[j]? = some oj := by rw [List.getElem?_take, if_pos hj, Array.getElem?_toList]; exact hoj
            have hne : o.dst ≠ some dj := fun h => by
              have : d = dj := Option.some.inj (hd.symm.trans h)
              exact hall j oj htj e (by rw [this]; exact hdj)
            rw [eval_of_get (put_other a o.dst v dj hne)]
            refine hM j _ w w' (hm.has j oj dj hj hoj hdj ?_) hb
            have hne2 : i ≠ j := fun h => e h.symm
            simpa [Array.getElem?_setIfInBounds, hne2] using hlj
        · have hne : i ≠ j := by omega
          have := hm.last j hj1 hj2
          simpa [Array.getElem?_setIfInBounds, hne] using this
      have hyield : ∀ (j : Nat) (b c : Bool), o.guard = some (j, b) → (∃ d, depOk ops.toList k o j d = true) → (∀ v w, φ j v w → v = .bool c) → yielded ops a.tmps j = some c := by
        rintro j b c hg ⟨d, hd⟩ hbool
        have hv := hbool _ _ (hK.dep j d hd)
        have hd2 : (ops[j]?).bind (·.dst) = some d := by
          unfold depOk at hd
          simp only [Bool.and_eq_true, decide_eq_true_eq, beq_iff_eq, Array.getElem?_toList] at hd
          exact hd.2
        have hget : a.tmps[d]? = some (.bool c) := by
          simp only [Act.eval, Array.getD_eq_getD_getElem?] at hv
          cases hq : a.tmps[d]? with
          | none => rw [hq] at hv; simp [undef] at hv
          | some u => rw [hq] at hv; simp at hv; rw [hv]
        unfold yielded
        rw [hd2]
        simp only [Option.bind_some, hget]
      unfold wpOp
      rw [ho]
      show if Region.wanted o (yielded ops a.tmps) = true then _ else _
      have hyes : Region.wanted o (yielded ops a.tmps) = true → (∀ (j : Nat) (b : Bool), o.guard = some (j, b) → ∀ v w, φ j v w → v = .bool b) → (if Region.wanted o (yielded ops a.tmps) = true then o.wp P a w (wpAny P .any ops Q fuel (listed.setIfInBounds i true)) Q ∨ (o.asks P a w ∧ LetsOut Q) else wpAny P .any ops Q fuel (listed.setIfInBounds i true) (a.put o.dst undef) w) := by
        intro hwant hb
        rw [if_pos hwant]
        refine .inl (Oper.wp_mono ?_ (hS i o hik ho hb a w hK))
        rintro a' w' ⟨v, rfl, hb, hf⟩
        exact hnext v w' hb hf
      cases hg : o.guard with
      | none => exact hyes (by unfold Region.wanted; rw [hg]) (fun j b h => by rw [hg] at h; cases h)
      | some jb =>
        obtain ⟨j, b⟩ := jb
        obtain ⟨hd, hbool | ⟨hbool, hany⟩⟩ := hG i o j b hik ho hg
        · refine hyes ?_ (fun j' b' h => by rw [hg] at h; obtain ⟨rfl, rfl⟩ := Prod.mk.inj (Option.some.inj h); exact hbool)
          unfold Region.wanted
          rw [hg]
          show (yielded ops a.tmps j == some b) = true
          rw [hyield j b b hg hd hbool]; simp
        · have hno : Region.wanted o (yielded ops a.tmps) = false := by
            unfold Region.wanted
            rw [hg]
            show (yielded ops a.tmps j == some b) = false
            rw [hyield j b (!b) hg hd hbool]; cases b <;> rfl
          rw [if_neg (by rw [hno]; simp)]
          exact hnext undef w (Below.refl _ _) (hany _ _)
    · have hik' : i = k := by omega
      subst hik'
      have hsz : ops.size = i + 1 := by omega
      have hedges : ∀ j, j < i → listed.getD j false = true := by
        have h := hE
        unfold edgesOk at h
        simp only [Bool.and_eq_true, Array.getElem?_toList, ho, Option.map_some, Option.getD_some] at h
        intro j hj
        have h2 := List.all_eq_true.1 h.2 j (by simpa using hj)
        obtain ⟨e, he, hb⟩ := List.any_eq_true.1 h2
        simp only [Bool.and_eq_true, beq_iff_eq] at hb
        have := hdep e (by simpa using he) hb.2
        rw [hb.1] at this
        exact this
      obtain ⟨vs, hv, e⟩ := frame_eq hD hm (fun j hj _ => hedges j hj) hk
      have hW := hF vs w hv hm.grow
      have hdrop : ops.toList.drop i = [o] := by
        rw [List.drop_eq_getElem_cons (by simp; omega), List.drop_of_length_le (by simp; omega)]
        congr 1
        have := (Array.getElem?_eq_some_iff.1 ho).2
        simpa using this
      rw [← e, hdrop] at hW
      have hend : ∀ a' w', Q .normal a' w' → wpAny P .any ops Q fuel (listed.setIfInBounds i true) a' w' := by
        intro a' w' hq
        refine wpAny_nil (all_listed_ready (by simp; exact hm.lsize) ?_) hq
        unfold unl
        rw [Array.countP_eq_zero]
        intro b hb
        obtain ⟨j, hj, rfl⟩ := Array.mem_iff_getElem.1 hb
        have hj' : j < ops.size := by simp [hm.lsize] at hj; exact hj
        rw [Array.getElem_setIfInBounds (by simpa using hj)]
        by_cases e : i = j
        · simp [e]
        · have h1 := hedges j (by omega)
          have hj2 : j < listed.size := by rw [hm.lsize]; exact hj'
          simp [e]
          simpa [hj2] using h1
      unfold wpOp
      rw [ho]
      unfold wpList at hW
      show if Region.wanted o (yielded ops a.tmps) = true then _ else _
      split
      · rename_i hq; rw [if_pos hq] at hW
        exact hW.imp (Oper.wp_mono (fun a' w' h => hend a' w' h)) id
      · rename_i hq; rw [if_neg hq] at hW
        exact hend _ _ hW
end
end Go.Proofs.YtfmeeimhfdnjpaaDoor
namespace Go.Proofs.YtfmeeimhfdnjpaaDoor
set_option maxRecDepth 100000
open Go.RowKit
set_option maxHeartbeats 400000 in
theorem rotl_any (x : BitVec 32) (n : Nat) (h1 : 0 < n) (h2 : n < 32) (w : World) :
    Calls Tryd.prog 70 #[.int .u32 (vl x), .int .i64 (-(n : Int))] w fun e w' => e = .returned (.int .u32 (vl (rot x n))) ∧ w' = w := by
  have c1 := cnt n h1 h2
  have c2 := cnt2 n h1 h2
  have c3 : (0 : Int) ≤ ((32 - n : Nat) : Int) := by omega
  go_enter Tryd.func70, Tryd.ntmps70
  go_wp2
  go_ret
  exact ⟨ret_int (rot_raw x n), rfl⟩
set_option maxHeartbeats 400000 in
theorem rotr_any (x : BitVec 32) (m : Int) (h1 : 0 < m) (h2 : m < 32) (w : World) :
    Calls Tryd.prog 68 #[.int .u32 (vl x), .int .i64 m] w fun e w' => e = .returned (.int .u32 (vl (rot x m.toNat))) ∧ w' = w := by
  obtain ⟨n, rfl⟩ := Int.eq_ofNat_of_zero_le (show 0 ≤ m by omega)
  go_enter Tryd.func68, Tryd.ntmps68
  go_wp2_with fail
  refine (rotl_any x n (by omega) (by omega) _).mono ?_
  rintro e w' ⟨rfl, rfl⟩
  go_wp2
  go_ret
  exact ⟨rfl, rfl⟩
end Go.Proofs.YtfmeeimhfdnjpaaDoor
namespace Go.Proofs.YtfmeeimhfdnjpaaDoor
set_option maxRecDepth 100000
open Go.RowKit
theorem Tryd.under107 : Tryd.prog.underlying 107 = some (.array 64 90) := by kernel_rfl
theorem Tryd.size107 : (Tryd.prog.info? 107).map (·.size) = some 64 := by kernel_rfl
theorem below_setRow (B : Nat) (w : World) (g : Nat) (cs : Array Value) (h : B ≤ g) : Below B w (w.setRow g cs) :=
  ⟨rfl, rfl, rfl, by simp, fun k hk => setRow_other w g k cs (by omega)⟩
attribute [local go_sem] vl_xor vl_and vl_or vl_not vl_add vl_addw shr3_raw shr10_raw bv_wrap bv_wrapw shl24_raw shl16_raw shl8_raw
set_option maxHeartbeats 400000 in
theorem words_any (ab ao c : Nat) (bs : List (BitVec 8)) (w : World) (hab : ab < w.heap.size) (hl64 : bs.length = 64) (hc0 : HasB w ab ao bs) :
    Calls Tryd.prog 67 #[.slice (some ⟨ab, ao, none⟩) 64 c] w fun e w' => e = .returned (.agg ((words bs).map U).toArray) ∧ Below w.heap.size w w' := by
  have hc : ∀ i, i < 64 → w.cell? ⟨ab, ao + i, none⟩ = some (.int .u8 (bv (bs.getD i 0))) := fun i hi => hc0 i (by omega)
  clear hc0
  go_enter Tryd.func67, Tryd.ntmps67
  go_wp2
  go_loopw [10] (fun i wr => ∃ k : Nat, k ≤ 16 ∧ i = .int .i64 k ∧ Below w.heap.size w wr ∧ wr.heap.size = w.heap.size + 2 ∧ HasW wr (w.heap.size + 1) 107 (w1 bs k) ∧ HasW wr w.heap.size 107 (w1 bs 0)) (fun i _ => 16 - (intOf i).toNat)
  case atStart =>
    refine ⟨0, by omega, rfl, ?_, by simp, ?_, ?_⟩
    · exact ((Below.refl _ _).alloc (Nat.le_refl _) _).alloc (by simp) _
    · exact heap_alloc2_new _ _ _
    · exact heap_alloc2_old _ _ _
  case round =>
    obtain ⟨k, hk, rfl, hb, hsz, hw, hr⟩ := hrel
    by_cases hlt : k < 16
    · have h1 : wr.cell? ⟨ab, ao + (4 * k), none⟩ = some (.int .u8 (bv (bs.getD (4 * k) 0))) := by rw [hb.cell (by exact hab)]; exact hc _ (by omega)
      have h2 : wr.cell? ⟨ab, ao + (4 * k + 1), none⟩ = some (.int .u8 (bv (bs.getD (4 * k + 1) 0))) := by rw [hb.cell (by exact hab)]; exact hc _ (by omega)
      have h3 : wr.cell? ⟨ab, ao + (4 * k + 2), none⟩ = some (.int .u8 (bv (bs.getD (4 * k + 2) 0))) := by rw [hb.cell (by exact hab)]; exact hc _ (by omega)
      have h4 : wr.cell? ⟨ab, ao + (4 * k + 3), none⟩ = some (.int .u8 (bv (bs.getD (4 * k + 3) 0))) := by rw [hb.cell (by exact hab)]; exact hc _ (by omega)
      have R1 := hw.set k (be (bs.getD (4 * k) 0) (bs.getD (4 * k + 1) 0) (bs.getD (4 * k + 2) 0) (bs.getD (4 * k + 3) 0))
      have HR1 : Hid (HasW _ _ _ (w1 bs (k + 1))) := R1
      clear R1
      generalize bs.getD (4 * k) 0 = b1 at h1 HR1
      generalize bs.getD (4 * k + 1) 0 = b2 at h2 HR1
      generalize bs.getD (4 * k + 2) 0 = b3 at h3 HR1
      generalize bs.getD (4 * k + 3) 0 = b4 at h4 HR1
      have h5 := hw.cell k (by rw [w1_len]; omega)
      have h6 := hw.frozen k
      have hw' := hide hw
      clear hw
      go_wp2
      go_region
      go_wp2
      go_roundw
      case rel =>
        refine ⟨k + 1, by omega, by go_num, ?_, ?_, ?_, ?_⟩
        · exact (hb.setCell (by simp) _).drew
        · simp [World.setCell, World.drew, hsz]
        · have := HR1.out.drew
          exact this
        · exact (hr.other _ _ (by simp)).drew
      case measure => simp [intOf]; omega
    · have hk16 : Hid (k = 16) := hide (by omega)
      go_wp2
      go_loopw [5] (fun i wr => ∃ t : Nat, 16 ≤ t ∧ t ≤ 64 ∧ i = .int .i64 t ∧ Below w.heap.size w wr ∧ wr.heap.size = w.heap.size + 2 ∧ HasW wr (w.heap.size + 1) 107 (w2 bs (t - 16)) ∧ HasW wr w.heap.size 107 (w1 bs 0)) (fun i _ => 64 - (intOf i).toNat)
      case atStart => exact ⟨16, by omega, by omega, rfl, hb, hsz, by have e := hk16.out; subst e; exact hw, hr⟩
      case round =>
        clear hb hsz hw hr
        obtain ⟨t, ht1, ht2, rfl, hb, hsz, hw, hr⟩ := hrel
        by_cases hlt : t < 64
        · have h1 := hw.cell (t - 2) (by rw [w2_len]; omega)
          have h2 := hw.cell (t - 7) (by rw [w2_len]; omega)
          have h3 := hw.cell (t - 15) (by rw [w2_len]; omega)
          have h4 := hw.cell (t - 16) (by rw [w2_len]; omega)
          have h5 := hw.cell t (by rw [w2_len]; omega)
          have h6 := hw.frozen t
          have HR : Hid (HasW _ _ 107 (w2 bs (t + 1 - 16))) := w2_step bs t ht1 hw
          unfold wnext at HR
          generalize (w2 bs (t - 16)).getD (t - 2) 0 = x2 at h1 HR
          generalize (w2 bs (t - 16)).getD (t - 7) 0 = x7 at h2 HR
          generalize (w2 bs (t - 16)).getD (t - 15) 0 = x15 at h3 HR
          generalize (w2 bs (t - 16)).getD (t - 16) 0 = x16 at h4 HR
          clear hw
          go_wp2
          go_region
          go_wp2_with (go_at_call 68; refine (rotr_any _ _ (by decide) (by decide) _).mono ?_; rintro e w' ⟨rfl, rfl⟩)
          go_region
          go_wp2
          go_roundw
          case rel =>
            refine ⟨t + 1, by omega, by omega, by go_num, ?_, ?_, ?_, ?_⟩
            · exact (hb.setCell (by simp) _).drew.drew
            · simp [World.setCell, World.drew, hsz]
            · exact HR.out.drew.drew
            · exact ((hr.other _ _ (by simp)).drew).drew
          case measure => simp [intOf]; omega
        · obtain rfl : t = 64 := by omega
          have hl : ((words bs).map U).toArray.size = 64 := by simp [words_len]
          have hw' : wr.heap[w.heap.size + 1]? = some (.cells ((words bs).map U).toArray 107 (0, 0)) := hw
          have hr' : wr.heap[w.heap.size]? = some (.cells ((w1 bs 0).map U).toArray 107 (0, 0)) := hr
          go_wp2_with (first | (refine wpList_load_row rfl 107 (.tmp 3) rfl (w.heap.size + 1) rfl 107 _ (0, 0) _ hw' Tryd.under107 rfl (by rw [hl]; exact Tryd.size107) ?_) | (refine wpList_store_row rfl 107 (.tmp 2) (.tmp 92) rfl w.heap.size _ rfl rfl 107 _ hr' (by rw [hl]; exact Tryd.size107) (by simp [words_len, w1_len]) (U_one _) ?_))
          have hres := results_cell_row (P := Tryd.prog) (fn := Tryd.f67) (p := 2) (ty := 107) rfl
          refine bodyPost_ret (v := .agg ((words bs).map U).toArray) ?_ rfl ⟨rfl, ?_⟩
          · refine hres _ _ w.heap.size 107 _ (0, 0) _ rfl (setRow_heap _ _ _ _ 107 (0, 0) hr') Tryd.under107 rfl (by rw [hl]; exact Tryd.size107)
          · exact hb.trans (below_setRow _ _ _ _ (by omega))
end Go.Proofs.YtfmeeimhfdnjpaaDoor
namespace Go.Proofs.YtfmeeimhfdnjpaaDoor
set_option maxRecDepth 100000
open Go.RowKit
theorem Tryd.under91 : Tryd.prog.underlying 91 = some (.array 8 90) := by kernel_rfl
theorem Tryd.size91 : (Tryd.prog.info? 91).map (·.size) = some 8 := by kernel_rfl
theorem code_any {P : Program} {c : Code} {Q : Exit → Act → World → Prop} {a : Act} {w : World} (F : World → Prop) (hF : F w) (h : ∀ w2, F w2 → Code.wp P c Q a w2) : Code.wp P c Q a w := h w hF
/-- What stays through the rounds. -/
structure Mx (w wr : World) (s : St) (ws : List (BitVec 32)) (v : Nat) : Prop where
  below : Below w.heap.size w wr
  st : HasW wr w.heap.size 91 s.list
  re : HasW wr (w.heap.size + 1) 91 (List.replicate 8 0)
  ws : HasW wr v 107 ws
  k : HasK wr 0
theorem Mx.drew {w wr : World} {s : St} {ws : List (BitVec 32)} {v : Nat} (h : Mx w wr s ws v) : Mx w wr.drew s ws v := ⟨h.below.drew, h.st, h.re, h.ws, h.k⟩
theorem Mx.drewN {w wr : World} {s : St} {ws : List (BitVec 32)} {v : Nat} (h : Mx w wr s ws v) (n : Nat) : Mx w (wr.drewN n) s ws v := ⟨⟨h.below.os, h.below.tape, h.below.output, h.below.size, h.below.block⟩, h.st, h.re, h.ws, h.k⟩
theorem St.eta (s : St) : s = ⟨s.a, s.b, s.c, s.d, s.e, s.f, s.g, s.h⟩ := rfl
attribute [local go_sem] vl_xor vl_and vl_or vl_not vl_notw vl_add vl_addw
set_option maxHeartbeats 1600000 in
set_option maxRecDepth 100000 in
theorem mixed_any (s : St) (ab ao c : Nat) (bs : List (BitVec 8)) (w : World) (hab : ab < w.heap.size) (hl64 : bs.length = 64) (hc : HasB w ab ao bs) (hK : HasK w 0) (h0 : 0 < w.heap.size) :
    Calls Tryd.prog 57 #[.agg (s.list.map U).toArray, .slice (some ⟨ab, ao, none⟩) 64 c] w fun e w' => e = .returned (.agg ((mix s bs).list.map U).toArray) ∧ Below w.heap.size w w' := by
  show Calls Tryd.prog 57 #[.agg #[.int .u32 (vl s.a), .int .u32 (vl s.b), .int .u32 (vl s.c), .int .u32 (vl s.d), .int .u32 (vl s.e), .int .u32 (vl s.f), .int .u32 (vl s.g), .int .u32 (vl s.h)], .slice (some ⟨ab, ao, none⟩) 64 c] w _
  go_enter Tryd.func57, Tryd.ntmps57
  go_wp2_with fail
  refine (words_any ab ao c bs _ (by simp; omega) hl64 ?_).mono ?_
  · intro i hi
    rw [World.cell?_alloc_past _ _ _ (by simp; omega), World.cell?_alloc_past _ _ _ hab]
    exact hc i hi
  rintro e w1 ⟨rfl, hb1⟩
  have hb : Below w.heap.size w w1 := (((Below.refl _ _).alloc (Nat.le_refl _) _).alloc (by simp) _).trans (hb1.mono (by simp; omega))
  have hst : HasW w1 w.heap.size 91 s.list := by
    refine HasW.below (w := _) ?_ hb1 (by simp; omega)
    exact heap_alloc2_old _ _ _
  have hre : HasW w1 (w.heap.size + 1) 91 (List.replicate 8 0) := by
    refine HasW.below (w := _) ?_ hb1 (by simp)
    exact heap_alloc2_new _ _ _
  have hs1 : w.heap.size + 2 ≤ w1.heap.size := by have := hb1.size; simp at this; omega
  have hKr : HasK w1 0 := hK.below hb h0
  clear hK hc hb1
  have hl : ((words bs).map U).toArray.size = 64 := by simp [words_len]
  go_wp2_with (refine wpList_store_row rfl 107 (.tmp 5) (.tmp 18) rfl w1.heap.size _ rfl rfl 107 _ (heap_alloc_new _ _) (by rw [hl]; exact Tryd.size107) (by rw [hl]; rfl) (U_one _) ?_)
  go_frame
  refine code_any (fun w2 => Mx w w2 s (words bs) w1.heap.size) ?_ ?_
  · have hb2 : Below w1.heap.size w1 ((w1.alloc (.cells (Array.replicate 64 (.int .u32 0)) 107)).setRow w1.heap.size ((words bs).map U).toArray) := ((Below.refl _ _).alloc (Nat.le_refl _) _).trans (below_setRow _ _ _ _ (Nat.le_refl _))
    refine ⟨hb.trans (hb2.mono (by omega)), hst.below hb2 (by omega), hre.below hb2 (by omega), ?_, hKr.below hb2 (by omega)⟩
    exact setRow_heap _ _ _ _ 107 (0, 0) (heap_alloc_new _ _)
  intro w2 hM
  clear hb hst hre hKr hl
  generalize w1.heap.size = v at *
  have g0 := hM.st.cell 0 (by simp [St.list])
  have g1 := hM.st.cell 1 (by simp [St.list])
  have g2 := hM.st.cell 2 (by simp [St.list])
  have g3 := hM.st.cell 3 (by simp [St.list])
  have g4 := hM.st.cell 4 (by simp [St.list])
  have g5 := hM.st.cell 5 (by simp [St.list])
  have g6 := hM.st.cell 6 (by simp [St.list])
  have g7 := hM.st.cell 7 (by simp [St.list])
  simp only [St.list, List.getD_cons_zero, List.getD_cons_succ] at g0 g1 g2 g3 g4 g5 g6 g7
  go_region
  go_wp2
  go_region
  go_wp2
  have hM2 := hM.drew.drew
  clear hM g0 g1 g2 g3 g4 g5 g6 g7
  go_loopw [6, 7, 8, 9, 10, 11, 12, 13, 35] (fun a b c d e f g h i wr => ∃ k : Nat, k ≤ 64 ∧ i = .int .i64 k ∧ Mx w wr s (words bs) v ∧ a = .int .u32 (vl (rnds (words bs) s k).a) ∧ b = .int .u32 (vl (rnds (words bs) s k).b) ∧ c = .int .u32 (vl (rnds (words bs) s k).c) ∧ d = .int .u32 (vl (rnds (words bs) s k).d) ∧ e = .int .u32 (vl (rnds (words bs) s k).e) ∧ f = .int .u32 (vl (rnds (words bs) s k).f) ∧ g = .int .u32 (vl (rnds (words bs) s k).g) ∧ h = .int .u32 (vl (rnds (words bs) s k).h)) (fun _ _ _ _ _ _ _ _ i _ => 64 - (intOf i).toNat)
  case atStart => exact ⟨0, by omega, rfl, hM2, rfl, rfl, rfl, rfl, rfl, rfl, rfl, rfl⟩
  case round =>
    clear hM2
    obtain ⟨k, hk, rfl, hM, rfl, rfl, rfl, rfl, rfl, rfl, rfl, rfl⟩ := hrel
    by_cases hlt : k < 64
    · as_aux_lemma =>
      have hk1 := hM.k k hlt
      have hk2 := hM.ws.cell k (by rw [words_len]; exact hlt)
      have HN : Box (rnds (words bs) s (k + 1) = rnd (rnds (words bs) s k) (KN.getD k 0) ((words bs).getD k 0)) := ⟨rfl⟩
      generalize KN.getD k 0 = kk at hk1 HN
      generalize (words bs).getD k 0 = ww at hk2 HN
      rw [St.eta (rnds (words bs) s k)] at HN
      generalize (rnds (words bs) s k).a = ra at HN ⊢
      generalize (rnds (words bs) s k).b = rb at HN ⊢
      generalize (rnds (words bs) s k).c = rc at HN ⊢
      generalize (rnds (words bs) s k).d = rd at HN ⊢
      generalize (rnds (words bs) s k).e = re at HN ⊢
      generalize (rnds (words bs) s k).f = rf at HN ⊢
      generalize (rnds (words bs) s k).g = rg at HN ⊢
      generalize (rnds (words bs) s k).h = rh at HN ⊢
      go_wp2
      go_quiet ((go_at_call 68; exact Calls.quiet_of_same (rotr_any _ _ (by decide) (by decide) _)))
      go_wp2_with (go_at_call 68; refine (rotr_any _ _ (by decide) (by decide) _).mono ?_; rintro e w' ⟨rfl, rfl⟩)
      go_roundw
      case rel =>
        refine ⟨k + 1, by omega, by go_num, hM.drewN _, ?_, ?_, ?_, ?_, ?_, ?_, ?_, ?_⟩
        all_goals (rw [HN.out]; rfl)
      case measure => simp [intOf]; omega
    · have hk64 : Box (k = 64) := ⟨by omega⟩
      have g0 := hM.st.cell 0 (by simp [St.list])
      have g1 := hM.st.cell 1 (by simp [St.list])
      have g2 := hM.st.cell 2 (by simp [St.list])
      have g3 := hM.st.cell 3 (by simp [St.list])
      have g4 := hM.st.cell 4 (by simp [St.list])
      have g5 := hM.st.cell 5 (by simp [St.list])
      have g6 := hM.st.cell 6 (by simp [St.list])
      have g7 := hM.st.cell 7 (by simp [St.list])
      simp only [St.list, List.getD_cons_zero, List.getD_cons_succ] at g0 g1 g2 g3 g4 g5 g6 g7
      have hM' : Box (Mx w wr s (words bs) v) := ⟨hM⟩
      have hre : wr.heap[w.heap.size + 1]? = some (.cells ((List.replicate 8 (0 : BitVec 32)).map U).toArray 91 (0, 0)) := hM.re
      clear hM
      have hR : Box (mix s bs = s.plus (rnds (words bs) s k)) := ⟨by rw [hk64.out]; rfl⟩
      clear hk64
      generalize rnds (words bs) s k = r at hR ⊢
      have hone := U_one (s.plus r).list
      have hone2 : (#[.int .u32 (vl (s.a + r.a)), .int .u32 (vl (s.b + r.b)), .int .u32 (vl (s.c + r.c)), .int .u32 (vl (s.d + r.d)), .int .u32 (vl (s.e + r.e)), .int .u32 (vl (s.f + r.f)), .int .u32 (vl (s.g + r.g)), .int .u32 (vl (s.h + r.h))] : Array Value).all (·.oneCell') = true := hone
      go_wp2_with (refine wpList_store_row rfl 91 (.tmp 4) (.tmp 130) rfl (w.heap.size + 1) #[.int .u32 (vl (s.a + r.a)), .int .u32 (vl (s.b + r.b)), .int .u32 (vl (s.c + r.c)), .int .u32 (vl (s.d + r.d)), .int .u32 (vl (s.e + r.e)), .int .u32 (vl (s.f + r.f)), .int .u32 (vl (s.g + r.g)), .int .u32 (vl (s.h + r.h))] rfl rfl 91 _ hre Tryd.size91 rfl hone2 ?_)
      have hM := hM'.out
      rw [hR.out]
      refine bodyPost_ret (v := .agg ((s.plus r).list.map U).toArray) ?_ rfl ⟨rfl, ?_⟩
      · exact results_cell_row (P := Tryd.prog) (fn := Tryd.f57) (p := 4) (ty := 91) rfl _ _ (w.heap.size + 1) 91 _ (0, 0) _ rfl (setRow_heap _ _ _ _ 91 (0, 0) hre) Tryd.under91 rfl Tryd.size91
      · exact hM.below.trans (below_setRow _ _ _ _ (by omega))
end Go.Proofs.YtfmeeimhfdnjpaaDoor
namespace Go.Proofs.YtfmeeimhfdnjpaaDoor
set_option maxRecDepth 100000
open Go.RowKit

/-- w' is as w was, but for block g and for new blocks. -/
structure Only (g : Nat) (w w' : World) : Prop where
  os : w'.os = w.os
  tape : w'.tape = w.tape
  output : w'.output = w.output
  size : w.heap.size ≤ w'.heap.size
  block : ∀ k, k < w.heap.size → k ≠ g → w'.heap[k]? = w.heap[k]?
theorem Only.refl (g : Nat) (w : World) : Only g w w := ⟨rfl, rfl, rfl, Nat.le_refl _, fun _ _ _ => rfl⟩
theorem Only.trans {g : Nat} {a b c : World} (h : Only g a b) (k : Only g b c) : Only g a c :=
  ⟨k.os.trans h.os, k.tape.trans h.tape, k.output.trans h.output, Nat.le_trans h.size k.size, fun i hi hg => (k.block i (Nat.lt_of_lt_of_le hi h.size) hg).trans (h.block i hi hg)⟩
theorem Only.drew {g : Nat} {a w : World} (h : Only g a w) : Only g a w.drew := ⟨h.os, h.tape, h.output, h.size, h.block⟩
theorem Only.setCell {g : Nat} {a w : World} (h : Only g a w) (o : Nat) (v : Value) : Only g a (w.setCell ⟨g, o, none⟩ v) :=
  h.trans ⟨rfl, rfl, rfl, by simp [World.setCell], fun k _ hk => heap_setCell_other _ _ _ _ hk⟩
theorem Only.setRow {g : Nat} {a w : World} (h : Only g a w) (cs : Array Value) : Only g a (w.setRow g cs) :=
  h.trans ⟨rfl, rfl, rfl, by simp, fun k _ hk => setRow_other w g k cs hk⟩
theorem Only.of_below {g : Nat} {a w : World} (h : Below a.heap.size a w) : Only g a w := ⟨h.os, h.tape, h.output, h.size, fun k hk _ => h.block k hk⟩
theorem Only.below {g : Nat} {a w : World} (h : Only g a w) (B : Nat) (h1 : B ≤ g) (h2 : B ≤ a.heap.size) : Below B a w := ⟨h.os, h.tape, h.output, h.size, fun k hk => h.block k (by omega) (by omega)⟩
theorem Only.cell {g : Nat} {a w : World} (h : Only g a w) {p : Addr} (hp : p.block < a.heap.size) (hg : p.block ≠ g) : w.cell? p = a.cell? p := World.cell?_of_block (w := a) (h.block p.block hp hg)
theorem HasB.only {w w' : World} {g b o : Nat} {bs : List (BitVec 8)} (h : HasB w b o bs) (hb : Only g w w') (hB : b < w.heap.size) (hg : b ≠ g) : HasB w' b o bs := fun i hi => by rw [hb.cell (by exact hB) (by exact hg)]; exact h i hi
theorem HasK.only {w w' : World} {g k : Nat} (h : HasK w k) (hb : Only g w w') (hB : k < w.heap.size) (hg : k ≠ g) : HasK w' k := fun i hi => by rw [hb.cell (by exact hB) (by exact hg)]; exact h i hi

/-- A byte in a cell. -/
def V (x : BitVec 8) : Value := .int .u8 (bv x)
/-- A digest: the eight numbers, the block that isn't full yet, how many bytes. -/
structure Dg where
  st : St
  blk : List (BitVec 8)
  len : Nat
def Dg.cells (d : Dg) : List Value := d.st.list.map U ++ (d.blk.map V ++ [.int .i64 (d.len : Int)])
def HasD (w : World) (b : Nat) (T : TypeId) (d : Dg) : Prop := d.blk.length = 64 ∧ w.heap[b]? = some (.cells d.cells.toArray T (0, 0))
theorem HasD.at {w : World} {b : Nat} {T : TypeId} {d : Dg} (h : HasD w b T d) (i : Nat) : w.cell? ⟨b, i, none⟩ = d.cells[i]? := by
  rw [cell_of_row w b i _ T _ h.2]; simp
theorem HasD.frozen {w : World} {b : Nat} {T : TypeId} {d : Dg} (h : HasD w b T d) (i : Nat) : w.frozen? ⟨b, i, none⟩ = false := frozen_of_row w b i _ T h.2
theorem HasD.s0 {w : World} {b : Nat} {T : TypeId} {d : Dg} (h : HasD w b T d) : w.cell? ⟨b, 0, none⟩ = some (.int .u32 (vl d.st.a)) := by rw [h.at]; rfl
theorem HasD.s1 {w : World} {b : Nat} {T : TypeId} {d : Dg} (h : HasD w b T d) : w.cell? ⟨b, 1, none⟩ = some (.int .u32 (vl d.st.b)) := by rw [h.at]; rfl
theorem HasD.s2 {w : World} {b : Nat} {T : TypeId} {d : Dg} (h : HasD w b T d) : w.cell? ⟨b, 2, none⟩ = some (.int .u32 (vl d.st.c)) := by rw [h.at]; rfl
theorem HasD.s3 {w : World} {b : Nat} {T : TypeId} {d : Dg} (h : HasD w b T d) : w.cell? ⟨b, 3, none⟩ = some (.int .u32 (vl d.st.d)) := by rw [h.at]; rfl
theorem HasD.s4 {w : World} {b : Nat} {T : TypeId} {d : Dg} (h : HasD w b T d) : w.cell? ⟨b, 4, none⟩ = some (.int .u32 (vl d.st.e)) := by rw [h.at]; rfl
theorem HasD.s5 {w : World} {b : Nat} {T : TypeId} {d : Dg} (h : HasD w b T d) : w.cell? ⟨b, 5, none⟩ = some (.int .u32 (vl d.st.f)) := by rw [h.at]; rfl
theorem HasD.s6 {w : World} {b : Nat} {T : TypeId} {d : Dg} (h : HasD w b T d) : w.cell? ⟨b, 6, none⟩ = some (.int .u32 (vl d.st.g)) := by rw [h.at]; rfl
theorem HasD.s7 {w : World} {b : Nat} {T : TypeId} {d : Dg} (h : HasD w b T d) : w.cell? ⟨b, 7, none⟩ = some (.int .u32 (vl d.st.h)) := by rw [h.at]; rfl
theorem St.len (s : St) : (s.list.map U).length = 8 := rfl
theorem HasD.bytes {w : World} {b : Nat} {T : TypeId} {d : Dg} (h : HasD w b T d) : HasB w b 8 d.blk := fun i hi => by
  rw [h.at, Dg.cells, List.getElem?_append_right (by rw [St.len]; omega), St.len, show 8 + i - 8 = i by omega, List.getElem?_append_left (by simpa using hi)]
  simp [V, hi]
theorem HasD.num {w : World} {b : Nat} {T : TypeId} {d : Dg} (h : HasD w b T d) : w.cell? ⟨b, 72, none⟩ = some (.int .i64 (d.len : Int)) := by
  rw [h.at, Dg.cells, List.getElem?_append_right (by rw [St.len]; omega), St.len, List.getElem?_append_right (by simp [h.1])]
  simp [h.1]
theorem Dg.size (d : Dg) (h : d.blk.length = 64) : d.cells.length = 73 := by simp [Dg.cells, h, St.list]
theorem HasD.only {w w' : World} {g b : Nat} {T : TypeId} {d : Dg} (h : HasD w b T d) (hb : Only g w w') (hg : b ≠ g) : HasD w' b T d := by
  refine ⟨h.1, ?_⟩
  have hlt : b < w.heap.size := (Array.getElem?_eq_some_iff.1 h.2).1
  rw [hb.block b hlt hg]; exact h.2
theorem HasD.lt {w : World} {b : Nat} {T : TypeId} {d : Dg} (h : HasD w b T d) : b < w.heap.size := (Array.getElem?_eq_some_iff.1 h.2).1
theorem HasD.below {w w' : World} {b : Nat} {T : TypeId} {d : Dg} (h : HasD w b T d) (hb : Below w.heap.size w w') : HasD w' b T d := ⟨h.1, by rw [hb.block b h.lt]; exact h.2⟩
theorem HasD.drew {w : World} {b : Nat} {T : TypeId} {d : Dg} (h : HasD w b T d) : HasD w.drew b T d := h
/-- The count is set. -/
theorem HasD.setLen {w : World} {b : Nat} {T : TypeId} {d : Dg} (h : HasD w b T d) (n : Nat) : HasD (w.setCell ⟨b, 72, none⟩ (.int .i64 (n : Int))) b T { d with len := n } := by
  refine ⟨h.1, ?_⟩
  rw [heap_setCell_same w b 72 _ T _ h.2]
  refine congrArg (fun c : Array Value => some (Obj.cells c T (0, 0))) ?_
  apply Array.toList_inj.1
  simp only [Array.toList_setIfInBounds, Dg.cells]
  rw [List.set_append_right _ _ (by rw [St.len]; omega), St.len, List.set_append_right _ _ (by simp [h.1])]
  simp [h.1]
/-- The eight numbers are set. -/
theorem HasD.setSt {w : World} {b : Nat} {T : TypeId} {d : Dg} (h : HasD w b T d) (s : St) :
    HasD ((((((((w.setCell ⟨b, 0, none⟩ (.int .u32 (vl s.a))).setCell ⟨b, 1, none⟩ (.int .u32 (vl s.b))).setCell ⟨b, 2, none⟩ (.int .u32 (vl s.c))).setCell ⟨b, 3, none⟩ (.int .u32 (vl s.d))).setCell ⟨b, 4, none⟩ (.int .u32 (vl s.e))).setCell ⟨b, 5, none⟩ (.int .u32 (vl s.f))).setCell ⟨b, 6, none⟩ (.int .u32 (vl s.g))).setCell ⟨b, 7, none⟩ (.int .u32 (vl s.h))) b T { d with st := s } := by
  refine ⟨h.1, ?_⟩
  have e0 := heap_setCell_same w b 0 _ T (.int .u32 (vl s.a)) h.2
  have e1 := heap_setCell_same _ b 1 _ T (.int .u32 (vl s.b)) e0
  have e2 := heap_setCell_same _ b 2 _ T (.int .u32 (vl s.c)) e1
  have e3 := heap_setCell_same _ b 3 _ T (.int .u32 (vl s.d)) e2
  have e4 := heap_setCell_same _ b 4 _ T (.int .u32 (vl s.e)) e3
  have e5 := heap_setCell_same _ b 5 _ T (.int .u32 (vl s.f)) e4
  have e6 := heap_setCell_same _ b 6 _ T (.int .u32 (vl s.g)) e5
  have e7 := heap_setCell_same _ b 7 _ T (.int .u32 (vl s.h)) e6
  rw [e7]
  refine congrArg (fun c : Array Value => some (Obj.cells c T (0, 0))) ?_
  apply Array.toList_inj.1
  simp [Dg.cells, St.list, U]
theorem splice_cells (d : Dg) (u : Nat) (bs : List (BitVec 8)) (h : d.blk.length = 64) (hu : u + bs.length ≤ 64) : splice d.cells (8 + u) (bs.map V) = ({ d with blk := splice d.blk u bs } : Dg).cells := by
  simp only [splice, Dg.cells, List.length_map]
  rw [List.take_append, St.len, List.drop_append, St.len, List.take_of_length_le (by rw [St.len]; omega), List.drop_eq_nil_of_le (by rw [St.len]; omega)]
  rw [show 8 + u - 8 = u by omega, show 8 + u + bs.length - 8 = u + bs.length by omega]
  rw [List.take_append, List.drop_append]
  simp [h]
  rw [show u - 64 = 0 by omega, show u + bs.length - 64 = 0 by omega]
  simp
/-- Bytes are laid into the block. -/
theorem HasD.setBlk {w : World} {b : Nat} {T : TypeId} {d : Dg} (h : HasD w b T d) (u : Nat) (bs : List (BitVec 8)) (hu : u + bs.length ≤ 64) :
    HasD (w.setRow b (splice d.cells (8 + u) (bs.map V)).toArray) b T { d with blk := splice d.blk u bs } := by
  refine ⟨?_, ?_⟩
  · show (splice d.blk u bs).length = 64
    rw [length_splice _ _ _ (by rw [h.1]; exact hu)]; exact h.1
  · rw [setRow_heap w b _ _ T _ h.2, splice_cells d u bs h.1 hu]
theorem run_copy_exact {P : Program} (w : World) (dT sT ty elem : TypeId) (hu : P.underlying dT = some (.slice elem)) (hsz : (P.info? elem).map (·.size) = some 1)
    (dp sp : Option Addr) (dLen dCap sLen sCap : Nat) (g off : Nat) (cur : List Value) (t : TypeId) (hg : w.heap[g]? = some (.cells cur.toArray t (0, 0))) (cs : List Value) (hn : cs.length = Nat.min sLen dLen)
    (hpos : 0 < cs.length → dp = some ⟨g, off, none⟩ ∧ ∃ ad, sp = some ad ∧ ∀ j v, cs[j]? = some v → w.cell? (ad.add j) = some v)
    (hfit : off + cs.length ≤ cur.length) (h1 : ∀ v ∈ cs, v.oneCell' = true) :
    (Builtin.copy_ #[dT, sT] ty #[.slice dp dLen dCap, .slice sp sLen sCap]).run P w = .ok (.int .i64 (cs.length : Int)) (w.setRow g (splice cur off cs).toArray) := by
  by_cases h0 : cs.length = 0
  · obtain rfl : cs = [] := List.eq_nil_of_length_eq_zero h0
    have e : w.setRow g (splice cur off []).toArray = w := by
      rw [show splice cur off [] = cur by simp [splice]]
      exact setRow_self w g _ t _ hg
    rw [e]
    exact run_copy_none (P := P) w dT sT ty elem dp sp dLen dCap sLen sCap hu hsz (by simpa using hn.symm)
  · obtain ⟨rfl, ad, rfl, hsrc⟩ := hpos (by omega)
    have := run_copy_row (P := P) w dT sT ty elem g off dLen dCap ad sLen sCap cur.toArray t cs hu hsz hg hn hsrc (by simpa using hfit) h1
    rw [this]
    simp [splice, goInt]
theorem V_one (bs : List (BitVec 8)) : ∀ v ∈ bs.map V, v.oneCell' = true := by
  intro v hv
  obtain ⟨x, _, rfl⟩ := List.mem_map.1 hv
  rfl
theorem HasB.src {w : World} {b o : Nat} {bs : List (BitVec 8)} (h : HasB w b o bs) (n : Nat) : ∀ j v, ((bs.take n).map V)[j]? = some v → w.cell? ((⟨b, o, none⟩ : Addr).add j) = some v := by
  intro j v hj
  have hadd : (⟨b, o, none⟩ : Addr).add j = ⟨b, o + j, none⟩ := by unfold Addr.add; split <;> simp_all
  rw [hadd]
  simp only [List.getElem?_map, Option.map_eq_some_iff] at hj
  obtain ⟨x, hx, rfl⟩ := hj
  have hx2 := (List.getElem?_eq_some_iff.1 hx)
  obtain ⟨hl, e⟩ := hx2
  have hjl : j < bs.length := by simp at hl; omega
  rw [h j hjl]
  simp at e
  simp [V, hjl, e]
theorem HasB.drop {w : World} {b o : Nat} {bs : List (BitVec 8)} (h : HasB w b o bs) (n : Nat) : HasB w b (o + n) (bs.drop n) := by
  intro i hi
  rw [List.length_drop] at hi
  have := h (n + i) (by omega)
  rw [Nat.add_assoc, this]
  simp
theorem HasB.take {w : World} {b o : Nat} {bs : List (BitVec 8)} (h : HasB w b o bs) (n : Nat) : HasB w b o (bs.take n) := by
  intro i hi
  rw [List.length_take] at hi
  rw [h i (by omega)]
  simp [show i < n by omega]

/-- k blocks of 64 bytes are mixed in. -/
def mixs (s : St) (b : List (BitVec 8)) : Nat → St
  | 0 => s
  | k + 1 => mix (mixs s b k) ((b.drop (64 * k)).take 64)
def Dg.rest (s : St) (blk : List (BitVec 8)) (len : Nat) (b : List (BitVec 8)) : Dg := ⟨mixs s b (b.length / 64), splice blk 0 (b.drop (64 * (b.length / 64))), len⟩
/-- What writing makes of a digest. -/
def Dg.write (d : Dg) (b : List (BitVec 8)) : Dg :=
  if d.len % 64 = 0 then Dg.rest d.st d.blk (d.len + b.length) b
  else if b.length < 64 - d.len % 64 then ⟨d.st, splice d.blk (d.len % 64) b, d.len + b.length⟩
  else Dg.rest (mix d.st (splice d.blk (d.len % 64) (b.take (64 - d.len % 64)))) (splice d.blk (d.len % 64) (b.take (64 - d.len % 64))) (d.len + b.length) (b.drop (64 - d.len % 64))
/-- Block b of the world is an array of bytes. -/
def HasV (w : World) (b : Nat) (T : TypeId) (xs : List (BitVec 8)) : Prop := w.heap[b]? = some (.cells (xs.map V).toArray T (0, 0))
theorem HasV.cell {w : World} {b : Nat} {T : TypeId} {xs : List (BitVec 8)} (h : HasV w b T xs) (i : Nat) (hi : i < xs.length) : w.cell? ⟨b, i, none⟩ = some (.int .u8 (bv (xs.getD i 0))) := by
  unfold HasV at h
  simp [World.cell?, h, hi, V]
theorem HasV.bytes {w : World} {b : Nat} {T : TypeId} {xs : List (BitVec 8)} (h : HasV w b T xs) : HasB w b 0 xs := fun i hi => by rw [Nat.zero_add]; exact h.cell i hi
theorem HasV.frozen {w : World} {b : Nat} {T : TypeId} {xs : List (BitVec 8)} (h : HasV w b T xs) (i : Nat) : w.frozen? ⟨b, i, none⟩ = false := by
  unfold HasV at h
  simp [World.frozen?, h]
theorem HasV.set {w : World} {b : Nat} {T : TypeId} {xs : List (BitVec 8)} (h : HasV w b T xs) (i : Nat) (x : BitVec 8) : HasV (w.setCell ⟨b, i, none⟩ (.int .u8 (bv x))) b T (xs.set i x) := by
  unfold HasV at *
  simp [World.setCell, Array.getElem?_modify, h, V, List.map_set]
theorem HasV.below {w w' : World} {B b : Nat} {T : TypeId} {xs : List (BitVec 8)} (h : HasV w b T xs) (hb : Below B w w') (hB : b < B) : HasV w' b T xs := by
  unfold HasV at *
  rw [hb.block b hB]; exact h
theorem HasV.drew {w : World} {b : Nat} {T : TypeId} {xs : List (BitVec 8)} (h : HasV w b T xs) : HasV w.drew b T xs := h
theorem HasV.other {w : World} {b : Nat} {T : TypeId} {xs : List (BitVec 8)} (h : HasV w b T xs) (a : Addr) (v : Value) (hne : b ≠ a.block) : HasV (w.setCell a v) b T xs := by
  unfold HasV at *
  rw [heap_setCell_other _ _ _ _ hne]; exact h
theorem HasV.lt {w : World} {b : Nat} {T : TypeId} {xs : List (BitVec 8)} (h : HasV w b T xs) : b < w.heap.size := (Array.getElem?_eq_some_iff.1 h).1
theorem V_all (xs : List (BitVec 8)) : ((xs.map V).toArray).all (·.oneCell') = true := by
  simp [V, Value.oneCell']
theorem bv_lit (n : Nat) : bv (BitVec.ofNat 8 n) = ((n % 256 : Nat) : Int) := by unfold bv; rw [BitVec.toNat_ofNat]
/-- Byte j (of four, the highest first) of a word. -/
def byt (x : BitVec 32) (j : Nat) : BitVec 8 := BitVec.ofNat 8 (x.toNat / 2 ^ (24 - 8 * j))
theorem byt0 (x : BitVec 32) : (vl x / (16777216 : Int)) % (256 : Int) = bv (byt x 0) := by unfold vl byt; rw [bv_lit]; omega
theorem byt1 (x : BitVec 32) : (vl x / (65536 : Int)) % (256 : Int) = bv (byt x 1) := by unfold vl byt; rw [bv_lit]; omega
theorem byt2 (x : BitVec 32) : (vl x / (256 : Int)) % (256 : Int) = bv (byt x 2) := by unfold vl byt; rw [bv_lit]; omega
theorem byt3 (x : BitVec 32) : vl x % (256 : Int) = bv (byt x 3) := by unfold vl byt; rw [bv_lit]; omega
/-- The sum's bytes: of the first k numbers. -/
def hsh (s : St) : Nat → List (BitVec 8)
  | 0 => List.replicate 32 0
  | k + 1 => ((((hsh s k).set (4 * k) (byt (s.list.getD k 0) 0)).set (4 * k + 1) (byt (s.list.getD k 0) 1)).set (4 * k + 2) (byt (s.list.getD k 0) 2)).set (4 * k + 3) (byt (s.list.getD k 0) 3)
theorem hsh_len (s : St) (k : Nat) : (hsh s k).length = 32 := by
  induction k with
  | zero => simp [hsh]
  | succ k ih => simp [hsh, ih]
/-- Byte i of the count of bits. -/
def cb (n i : Nat) : BitVec 8 := BitVec.ofNat 8 (n * 8 / 2 ^ (8 * (7 - i)))
def padEnd (n : Nat) : Nat := 1 + (119 - n % 64) % 64
def padArr (n : Nat) : Nat → List (BitVec 8)
  | 0 => (List.replicate 72 0).set 0 128
  | i + 1 => (padArr n i).set (padEnd n + i) (cb n i)
theorem padArr_len (n k : Nat) : (padArr n k).length = 72 := by
  induction k with
  | zero => simp [padArr]
  | succ k ih => simp [padArr, ih]
/-- What is put behind n bytes. -/
def padOf (n : Nat) : List (BitVec 8) := (padArr n 8).take (padEnd n + 8)
/-- The sum of a digest. -/
def Dg.sum (d : Dg) : List (BitVec 8) := hsh (d.write (padOf d.len)).st 8
/-- A type whose values lie in several cells. -/
def aggB : TypeDesc → Bool
  | .struct _ => true
  | .array _ _ => true
  | _ => false
theorem wpList_load_agg {P : Program} {ops : Array Oper} {rest : List Oper} {o : Oper} {a : Act} {w : World} {Q : Exit → Act → World → Prop} (hgd : o.guard = none) (ty : TypeId) (x : Operand) (ho : o.op = .load ty x)
    (g : Nat) (hx : a.eval x = .pointer (some ⟨g, 0, none⟩)) (t : TypeId) (cs : Array Value) (fr : Nat × Nat) (hg : w.heap[g]? = some (.cells cs t fr))
    (hu : (P.underlying ty).map aggB = some true) (hi : (P.info? ty).map (·.size) = some cs.size)
    (h : wpList P ops Q rest (a.put o.dst (.agg cs)) w) : wpList P ops Q (o :: rest) a w := by
  cases hq : P.underlying ty with
  | none => rw [hq] at hu; simp at hu
  | some d =>
    rw [hq] at hu
    refine wpList_load_row hgd ty x ho g hx t cs fr d hg hq ?_ hi h
    cases d <;> simp_all [aggB]
theorem HasV.alloc {w : World} {b : Nat} {T : TypeId} {xs : List (BitVec 8)} (h : HasV w b T xs) (o : Obj) : HasV (w.alloc o) b T xs := by
  have hl := h.lt
  unfold HasV at *
  rw [Below.heap_alloc w o b hl]; exact h
end Go.Proofs.YtfmeeimhfdnjpaaDoor
namespace Go.Proofs.YtfmeeimhfdnjpaaDoor
set_option maxRecDepth 100000
open Go.RowKit
def St.agg (s : St) : Value := .agg #[.int .u32 (vl s.a), .int .u32 (vl s.b), .int .u32 (vl s.c), .int .u32 (vl s.d), .int .u32 (vl s.e), .int .u32 (vl s.f), .int .u32 (vl s.g), .int .u32 (vl s.h)]
theorem mixed_lit (a b c d e f g h : BitVec 32) (ab ao cp : Nat) (bs : List (BitVec 8)) (w : World) (hab : ab < w.heap.size) (hl64 : bs.length = 64) (hc : HasB w ab ao bs) (hK : HasK w 0) (h0 : 0 < w.heap.size) :
    Calls Tryd.prog 57 #[.agg #[.int .u32 (vl a), .int .u32 (vl b), .int .u32 (vl c), .int .u32 (vl d), .int .u32 (vl e), .int .u32 (vl f), .int .u32 (vl g), .int .u32 (vl h)], .slice (some ⟨ab, ao, none⟩) 64 cp] w fun o w' => (∃ s, Box (s = mix ⟨a, b, c, d, e, f, g, h⟩ bs) ∧ o = .returned (.agg #[.int .u32 (vl s.a), .int .u32 (vl s.b), .int .u32 (vl s.c), .int .u32 (vl s.d), .int .u32 (vl s.e), .int .u32 (vl s.f), .int .u32 (vl s.g), .int .u32 (vl s.h)])) ∧ Below w.heap.size w w' := by
  refine (mixed_any ⟨a, b, c, d, e, f, g, h⟩ ab ao cp bs w hab hl64 hc hK h0).mono ?_
  rintro o w' ⟨rfl, hb⟩
  exact ⟨⟨_, ⟨rfl⟩, rfl⟩, hb⟩
set_option maxHeartbeats 400000 in
theorem first_any (w : World) :
    Calls Tryd.prog 56 #[] w fun e w' => e = .returned (.agg #[.int .u32 1779033703, .int .u32 3144134277, .int .u32 1013904242, .int .u32 2773480762, .int .u32 1359893119, .int .u32 2600822924, .int .u32 528734635, .int .u32 1541459225]) ∧ Below w.heap.size w w' := by
  go_enter Tryd.func56, Tryd.ntmps56
  go_wp2
  refine bodyPost_ret (results_cell_row (P := Tryd.prog) (fn := Tryd.f56) (p := 0) (ty := 91) rfl _ _ w.heap.size 91 _ (0, 0) _ rfl (heap_alloc_new _ _) Tryd.under91 rfl Tryd.size91) rfl ⟨rfl, ?_⟩
  exact (Below.refl _ _).alloc (Nat.le_refl _) _
/-- A digest of no bytes. -/
def Dg.new : Dg := ⟨St.first, List.replicate 64 0, 0⟩
def Dg.zero : Dg := ⟨⟨0, 0, 0, 0, 0, 0, 0, 0⟩, List.replicate 64 0, 0⟩
theorem Tryd.zero95 (w : World) : (zeroValue 95).run Tryd.prog w = .ok (.agg Dg.zero.cells.toArray) w := by kernel_rfl
theorem Dg.new_cells : Dg.new.cells = (((((((Dg.zero.cells.set 0 (Value.int IntKind.u32 1779033703)).set 1 (Value.int IntKind.u32 3144134277)).set 2 (Value.int IntKind.u32 1013904242)).set 3 (Value.int IntKind.u32 2773480762)).set 4 (Value.int IntKind.u32 1359893119)).set 5 (Value.int IntKind.u32 2600822924)).set 6 (Value.int IntKind.u32 528734635)).set 7 (Value.int IntKind.u32 1541459225) := by kernel_rfl
set_option maxHeartbeats 400000 in
theorem new_any (w : World) :
    Calls Tryd.prog 41 #[] w fun e w' => ∃ b, e = .returned (.pointer (some ⟨b, 0, none⟩)) ∧ w.heap.size ≤ b ∧ HasD w' b 95 Dg.new ∧ Below w.heap.size w w' := by
  go_enter Tryd.func41, Tryd.ntmps41
  go_wp2_with fail
  refine (first_any _).mono ?_
  rintro e w1 ⟨rfl, hb1⟩
  have hz := Tryd.zero95
  have hlen : Dg.zero.cells.length = 73 := rfl
  go_wp2
  go_ret
  refine ⟨w1.heap.size, rfl, hb1.size, ⟨rfl, ?_⟩, hb1.alloc hb1.size _⟩
  rw [heap_alloc_new, Dg.new_cells]
end Go.Proofs.YtfmeeimhfdnjpaaDoor
namespace Go.Proofs.YtfmeeimhfdnjpaaDoor
set_option maxRecDepth 100000
open Go.RowKit
theorem Tryd.under22 : Tryd.prog.underlying 22 = some (.slice 5) := by kernel_rfl
theorem Tryd.size5 : (Tryd.prog.info? 5).map (·.size) = some 1 := by kernel_rfl
/-- A slice value that holds the bytes bs (where there are any). -/
def Src (w : World) (db : Nat) (ab ao : Nat) (a : Option Addr) (n c : Nat) (bs : List (BitVec 8)) : Prop :=
  n = bs.length ∧ n ≤ c ∧ (0 < n → a = some ⟨ab, ao, none⟩ ∧ ab < w.heap.size ∧ ab ≠ db ∧ HasB w ab ao bs)
theorem Tryd.under93 : Tryd.prog.underlying 93 = some (.array 64 5) := by kernel_rfl
theorem Tryd.len93 : Tryd.prog.arrayLen 93 = 64 := by kernel_rfl
theorem Tryd.elem93 : Tryd.prog.elem 93 = 5 := by kernel_rfl
theorem Tryd.sizeOf5 (w : World) : (sizeOf 5).run Tryd.prog w = .ok 1 w := by kernel_rfl
theorem Tryd.slice93 (db len : Nat) (w : World) : (Instr.sliceAt 93 (.pointer (some ⟨db, 8, none⟩)) (some (.int .i64 ((len : Int) % 64))) none none).run Tryd.prog w = .ok (.slice (some ⟨db, 8 + len % 64, none⟩) (64 - len % 64) (64 - len % 64)) w := by
  rw [run_sliceAt_array_l w 93 ⟨db, 8, none⟩ (by rw [Tryd.len93, Tryd.elem93]; exact Tryd.under93) .i64 _ (by omega) (by rw [Tryd.len93]; omega), Tryd.elem93, Tryd.sizeOf5, Tryd.len93]
  have e : ((len : Int) % 64).toNat = len % 64 := by omega
  simp only [Result.andThen, slicedAt, e]
  rw [if_neg (by omega)]
  have hadd : (⟨db, 8, none⟩ : Addr).add (len % 64 * 1) = ⟨db, 8 + len % 64, none⟩ := by rw [Nat.mul_one]; unfold Addr.add; split <;> simp_all
  rw [hadd]
/-- The length of a slice value. -/
def lenOf' : Value → Nat | .slice _ n _ => n | _ => 0
/-- What holds behind the first part of a write. -/
def Mid (w : World) (db ab : Nat) (st : St) (blk : List (BitVec 8)) (len : Nat) (b : List (BitVec 8)) (v : Value) (wc : World) : Prop :=
  ∃ ao a c, v = .slice a b.length c ∧ b.length ≤ c ∧ (0 < b.length → a = some ⟨ab, ao, none⟩ ∧ ab < w.heap.size ∧ ab ≠ db ∧ HasB w ab ao b) ∧ HasD wc db 95 ⟨st, blk, len⟩ ∧ Only db w wc
set_option maxHeartbeats 400000 in
theorem write_any (db ab ao : Nat) (a : Option Addr) (n c : Nat) (bs : List (BitVec 8)) (d : Dg) (w : World) (hd : HasD w db 95 d) (hs : Src w db ab ao a n c bs) (hlen : d.len + n ≤ 1152921504606846976) (hK : HasK w 0) (h0 : 0 < w.heap.size) (hdb : db ≠ 0) :
    Calls Tryd.prog 42 #[.pointer (some ⟨db, 0, none⟩), .slice a n c] w fun e w' => e = .returned (.tuple #[]) ∧ HasD w' db 95 (d.write bs) ∧ Only db w w' := by
  obtain ⟨hn0, hnc, hsrc⟩ := hs
  have hn' : Box (n = bs.length) := ⟨hn0⟩
  clear hn0
  have hnum := hd.num
  have hfr := hd.frozen 72
  have HD := hd.setLen (d.len + n)
  have HO : Only db w (w.setCell ⟨db, 72, none⟩ (.int .i64 ((d.len + n : Nat) : Int))) := (Only.refl _ _).setCell _ _
  obtain ⟨st, blk, len⟩ := d
  simp only at hnum hlen HD HO
  go_enter Tryd.func42, Tryd.ntmps42
  go_upto_if 21 with fail
  go_cut [1] (fun v wc => ∃ st1 blk1 b1, Box (Dg.rest st1 blk1 (len + n) b1 = Dg.write ⟨st, blk, len⟩ bs) ∧ Mid w db ab st1 blk1 (len + n) b1 v wc)
  case first =>
    refine code_any (fun w1 => HasD w1 db 95 ⟨st, blk, len + n⟩ ∧ Only db w w1) ⟨by rw [Int.natCast_add] at HD; exact HD, by rw [Int.natCast_add] at HO; exact HO⟩ ?_
    rintro w1 ⟨hD1, hO1⟩
    clear HD HO hd hnum hfr
    by_cases hu : len % 64 = 0
    · have hD1' : Box (HasD w1 db 95 ⟨st, blk, len + n⟩) := ⟨hD1⟩
      clear hD1
      go_wp2
      go_meet
      case rel =>
        refine ⟨st, blk, bs, ⟨?_⟩, ao, a, c, ?_, ?_, ?_, hD1'.out, hO1⟩
        · rw [Dg.write, if_pos hu, hn'.out]
        · rw [hn'.out]
        · rw [← hn'.out]; exact hnc
        · rw [← hn'.out]; exact hsrc
    · have hsl := Tryd.slice93 db len
      have g0 := hD1.s0
      have hne : Box (Dg.write ⟨st, blk, len⟩ bs = if bs.length < 64 - len % 64 then ⟨st, splice blk (len % 64) bs, len + bs.length⟩ else Dg.rest (mix st (splice blk (len % 64) (bs.take (64 - len % 64)))) (splice blk (len % 64) (bs.take (64 - len % 64))) (len + bs.length) (bs.drop (64 - len % 64))) := ⟨by rw [Dg.write, if_neg hu]⟩
      clear g0
      by_cases hlt : n < 64 - len % 64
      · have hl := hn'.out
        have hrun := run_copy_exact (P := Tryd.prog) w1 22 22 3 5 Tryd.under22 Tryd.size5 (some ⟨db, 8 + len % 64, none⟩) a (64 - len % 64) (64 - len % 64) n c db (8 + len % 64) _ 95 hD1.2 (bs.map V) (by rw [List.length_map, ← hl, show Nat.min n (64 - len % 64) = n from Nat.min_eq_left (by omega)]) (by
          intro h
          have h' : 0 < n := by rw [hl]; simpa using h
          obtain ⟨e, hab, hne, hB⟩ := hsrc h'
          refine ⟨rfl, _, e, ?_⟩
          have := (hB.only hO1 hab hne).src bs.length
          rw [List.take_of_length_le (Nat.le_refl _)] at this
          exact this) (by rw [Dg.size _ hD1.1, List.length_map, ← hl]; omega) (V_one _)
        rw [List.length_map, ← hl] at hrun
        have hD3 : Box (HasD _ db 95 _) := ⟨hD1.setBlk (len % 64) bs (by rw [← hl]; omega)⟩
        have hO3 : Box (Only db w _) := ⟨hO1.setRow (splice (Dg.mk st blk (len + n)).cells (8 + len % 64) (bs.map V)).toArray⟩
        generalize w1.setRow db (splice (Dg.mk st blk (len + n)).cells (8 + len % 64) (bs.map V)).toArray = w5 at hrun hD3 hO3
        clear hD1 hO1 hl hsrc
        go_wp2
        first | go_end0 | refine bodyPost_ret (results_none rfl _ _ _) rfl ?_
        refine ⟨rfl, ?_, hO3.out⟩
        have e := hn'.out
        rw [hne.out, if_pos (by omega), ← e]
        exact hD3.out
      · have hl := hn'.out
        have hcl : ((bs.take (64 - len % 64)).map V).length = 64 - len % 64 := by simp; omega
        have hrun := run_copy_exact (P := Tryd.prog) w1 22 22 3 5 Tryd.under22 Tryd.size5 (some ⟨db, 8 + len % 64, none⟩) a (64 - len % 64) (64 - len % 64) n c db (8 + len % 64) _ 95 hD1.2 ((bs.take (64 - len % 64)).map V) (by rw [hcl, show Nat.min n (64 - len % 64) = 64 - len % 64 from Nat.min_eq_right (by omega)]) (by
          intro h
          obtain ⟨e, hab, hne, hB⟩ := hsrc (by omega)
          exact ⟨rfl, _, e, (hB.only hO1 hab hne).src _⟩) (by rw [Dg.size _ hD1.1, hcl]; omega) (V_one _)
        rw [hcl] at hrun
        have hD3 : HasD _ db 95 _ := hD1.setBlk (len % 64) (bs.take (64 - len % 64)) (by simp; omega)
        have hO3 : Only db w _ := hO1.setRow (splice (Dg.mk st blk (len + n)).cells (8 + len % 64) ((bs.take (64 - len % 64)).map V)).toArray
        generalize w1.setRow db (splice (Dg.mk st blk (len + n)).cells (8 + len % 64) ((bs.take (64 - len % 64)).map V)).toArray = w5 at hrun hD3 hO3
        clear hD1 hO1 hl hcl
        obtain ⟨rfl, hab, hne', hB⟩ := hsrc (by omega)
        clear hsrc
        simp only at hD3
        generalize splice blk (len % 64) (bs.take (64 - len % 64)) = bk at hD3 hne
        have hB2 := hD3.bytes
        have hl2 : Box (bk.length = 64) := ⟨hD3.1⟩
        have hK2 : HasK w5 0 := hK.only hO3 h0 (by omega)
        have hdb2 := hD3.lt
        have h02 : 0 < w5.heap.size := by have := hO3.size; omega
        have g0 := hD3.s0
        have g1 := hD3.s1
        have g2 := hD3.s2
        have g3 := hD3.s3
        have g4 := hD3.s4
        have g5 := hD3.s5
        have g6 := hD3.s6
        have g7 := hD3.s7
        simp only at g0 g1 g2 g3 g4 g5 g6 g7 hB2
        have hD3' : Box (HasD w5 db 95 ⟨st, bk, len + n⟩) := ⟨hD3⟩
        clear hD3
        go_wp2
        go_region_with (go_at_call 57; refine (mixed_lit _ _ _ _ _ _ _ _ db 8 _ bk _ (by exact hdb2) hl2.out (by exact hB2) (by exact hK2) (by exact h02)).mono ?_; rintro o w6 ⟨⟨s', hs', rfl⟩, hb1⟩; have hD4 : HasD w6 db 95 ⟨st, bk, len + n⟩ := HasD.below (w := w5.drew) hD3'.out hb1; have k0 := hD4.s0; have k1 := hD4.s1; have k2 := hD4.s2; have k3 := hD4.s3; have k4 := hD4.s4; have k5 := hD4.s5; have k6 := hD4.s6; have k7 := hD4.s7; have f0 := hD4.frozen 0; have f1 := hD4.frozen 1; have f2 := hD4.frozen 2; have f3 := hD4.frozen 3; have f4 := hD4.frozen 4; have f5 := hD4.frozen 5; have f6 := hD4.frozen 6; have f7 := hD4.frozen 7; clear hD4)
        all_goals
          have hD4 : Box (HasD w6 db 95 ⟨st, bk, len + n⟩) := ⟨HasD.below (w := w5.drew) hD3'.out hb1⟩
          have HD4 : Box (HasD _ db 95 ⟨s', bk, len + n⟩) := ⟨hD4.out.setSt s'⟩
          have HO4 : Box (Only db w _) := ⟨((((((((hO3.drew.trans (Only.of_below (a := w5.drew) hb1)).setCell 0 (.int .u32 (vl s'.a))).setCell 1 (.int .u32 (vl s'.b))).setCell 2 (.int .u32 (vl s'.c))).setCell 3 (.int .u32 (vl s'.d))).setCell 4 (.int .u32 (vl s'.e))).setCell 5 (.int .u32 (vl s'.f))).setCell 6 (.int .u32 (vl s'.g))).setCell 7 (.int .u32 (vl s'.h))⟩
          clear g0 g1 g2 g3 g4 g5 g6 g7 k0 k1 k2 k3 k4 k5 k6 k7 f0 f1 f2 f3 f4 f5 f6 f7
          go_wp2
          all_goals
            go_meet
            case rel =>
              have e := hn'.out
              have el : (bs.drop (64 - len % 64)).length = n - (64 - len % 64) := by rw [List.length_drop, ← e]
              refine ⟨s', bk, bs.drop (64 - len % 64), ⟨?_⟩, ao + (64 - len % 64), _, _, (by rw [el]), (by rw [el]; omega), ?_, HD4.out, HO4.out⟩
              · rw [hne.out, if_neg (by omega), ← e, hs'.out]
              · intro hp
                rw [el] at hp
                first
                  | (exfalso; omega)
                  | exact ⟨rfl, hab, hne', hB.drop _⟩
  case rest =>
    obtain ⟨st1, blk1, b1, hres, ao1, a1, c1, rfl, hc1, hs1, hD1, hO1⟩ := hcut
    clear hd hsrc hnum hfr HD HO hn' hnc hlen
    go_wp2
    go_loopw [1] (fun v wr => ∃ k : Nat, k * 64 ≤ b1.length ∧ ∃ a2 c2, v = .slice a2 (b1.length - k * 64) c2 ∧ b1.length - k * 64 ≤ c2 ∧ (0 < b1.length - k * 64 → a2 = some ⟨ab, ao1 + k * 64, none⟩) ∧ HasD wr db 95 ⟨mixs st1 b1 k, blk1, len + n⟩ ∧ Only db w wr) (fun v _ => lenOf' v)
    case atStart => exact ⟨0, by omega, a1, c1, by simp, by omega, fun h => (hs1 (by omega)).1, hD1, hO1⟩
    case round =>
      obtain ⟨k, hk, a2, c2, rfl, hc2, ha2, hD2, hO2⟩ := hrel
      by_cases hlt : 64 ≤ b1.length - k * 64
      · obtain rfl := ha2 (by omega)
        obtain ⟨-, hab, hne, hB⟩ := hs1 (by omega)
        have hB2 : HasB wr ab (ao1 + k * 64) ((b1.drop (64 * k)).take 64) := by
          have := ((hB.only hO2 hab hne).drop (k * 64)).take 64
          rw [Nat.mul_comm k 64] at this ⊢
          exact this
        have hl2 : ((b1.drop (64 * k)).take 64).length = 64 := by simp; omega
        have hK2 : HasK wr 0 := hK.only hO2 h0 (by omega)
        have hab2 : ab < wr.heap.size := by have := hO2.size; omega
        have h02 : 0 < wr.heap.size := by have := hO2.size; omega
        have g0 := hD2.s0
        have g1 := hD2.s1
        have g2 := hD2.s2
        have g3 := hD2.s3
        have g4 := hD2.s4
        have g5 := hD2.s5
        have g6 := hD2.s6
        have g7 := hD2.s7
        simp only at g0 g1 g2 g3 g4 g5 g6 g7
        have HN : Box (mixs st1 b1 (k + 1) = mix (mixs st1 b1 k) ((b1.drop (64 * k)).take 64)) := ⟨rfl⟩
        generalize (b1.drop (64 * k)).take 64 = bk at hB2 hl2 HN
        generalize mixs st1 b1 k = sk at g0 g1 g2 g3 g4 g5 g6 g7 HN hD2
        have hD2' : Box (HasD wr db 95 ⟨sk, blk1, len + n⟩) := ⟨hD2⟩
        clear hD2
        go_wp2
        go_region_with (go_at_call 57; refine (mixed_lit _ _ _ _ _ _ _ _ ab (ao1 + k * 64) _ bk _ (by exact hab2) hl2 (by exact hB2) (by exact hK2) (by exact h02)).mono ?_; rintro o w1 ⟨⟨s', hs', rfl⟩, hb1⟩; have hD3 : HasD w1 db 95 ⟨sk, blk1, len + n⟩ := HasD.below (w := wr.drew) hD2'.out hb1; have k0 := hD3.s0; have k1 := hD3.s1; have k2 := hD3.s2; have k3 := hD3.s3; have k4 := hD3.s4; have k5 := hD3.s5; have k6 := hD3.s6; have k7 := hD3.s7; have f0 := hD3.frozen 0; have f1 := hD3.frozen 1; have f2 := hD3.frozen 2; have f3 := hD3.frozen 3; have f4 := hD3.frozen 4; have f5 := hD3.frozen 5; have f6 := hD3.frozen 6; have f7 := hD3.frozen 7; clear hD3)
        all_goals
          have hD3 : Box (HasD w1 db 95 ⟨sk, blk1, len + n⟩) := ⟨HasD.below (w := wr.drew) hD2'.out hb1⟩
          have HD4 : Box (HasD _ db 95 ⟨s', blk1, len + n⟩) := ⟨hD3.out.setSt s'⟩
          have HO4 : Box (Only db w _) := ⟨((((((((hO2.drew.trans (Only.of_below (a := wr.drew) hb1)).setCell 0 (.int .u32 (vl s'.a))).setCell 1 (.int .u32 (vl s'.b))).setCell 2 (.int .u32 (vl s'.c))).setCell 3 (.int .u32 (vl s'.d))).setCell 4 (.int .u32 (vl s'.e))).setCell 5 (.int .u32 (vl s'.f))).setCell 6 (.int .u32 (vl s'.g))).setCell 7 (.int .u32 (vl s'.h))⟩
          clear g0 g1 g2 g3 g4 g5 g6 g7 k0 k1 k2 k3 k4 k5 k6 k7 f0 f1 f2 f3 f4 f5 f6 f7
          go_wp2
          go_roundw
          case rel =>
            have e : mixs st1 b1 (k + 1) = s' := HN.out.trans hs'.out.symm
            refine ⟨k + 1, by omega, _, _, (by rw [show b1.length - (k + 1) * 64 = b1.length - k * 64 - 64 by omega]), by omega, ?_, ?_, HO4.out⟩
            · intro h
              rw [if_neg (by omega), show ao1 + (k + 1) * 64 = ao1 + k * 64 + 64 by omega]
            · rw [e]; exact HD4.out
          case measure => simp only [lenOf']; omega
      · have hk64 : Box (b1.length / 64 = k) := ⟨by omega⟩
        have hcs : ((b1.drop (64 * k)).map V).length = Nat.min (b1.length - k * 64) 64 := by
          have : Nat.min (b1.length - k * 64) 64 = b1.length - k * 64 := Nat.min_eq_left (by omega)
          rw [this]; simp; omega
        have hpos : 0 < ((b1.drop (64 * k)).map V).length → some (⟨db, 8, none⟩ : Addr) = some ⟨db, 8 + 0, none⟩ ∧ ∃ ad, a2 = some ad ∧ ∀ j v, ((b1.drop (64 * k)).map V)[j]? = some v → wr.cell? (ad.add j) = some v := by
          intro h
          have h' : 0 < b1.length - k * 64 := by simpa [Nat.mul_comm] using h
          obtain ⟨-, hab, hne, hB⟩ := hs1 (by omega)
          refine ⟨rfl, _, ha2 h', ?_⟩
          have := ((hB.only hO2 hab hne).drop (k * 64)).src b1.length
          rw [List.take_of_length_le (by simp)] at this
          rw [Nat.mul_comm k 64] at this ⊢
          exact this
        have hfit : 8 + 0 + ((b1.drop (64 * k)).map V).length ≤ (Dg.mk (mixs st1 b1 k) blk1 (len + n)).cells.length := by
          rw [Dg.size _ hD2.1]; simp; omega
        have hD3 : Box (HasD _ db 95 _) := ⟨hD2.setBlk 0 (b1.drop (64 * k)) (by simp; omega)⟩
        have hrun := run_copy_exact (P := Tryd.prog) wr 22 22 3 5 Tryd.under22 Tryd.size5 (some ⟨db, 8, none⟩) a2 64 64 (b1.length - k * 64) c2 db (8 + 0) _ 95 hD2.2 _ hcs hpos hfit (V_one _)
        have hO3 : Box (Only db w _) := ⟨hO2.setRow (splice (Dg.mk (mixs st1 b1 k) blk1 (len + n)).cells (8 + 0) ((b1.drop (64 * k)).map V)).toArray⟩
        generalize wr.setRow db (splice (Dg.mk (mixs st1 b1 k) blk1 (len + n)).cells (8 + 0) ((b1.drop (64 * k)).map V)).toArray = w5 at hrun hD3 hO3
        generalize ((b1.drop (64 * k)).map V).length = cl at hrun
        clear hD2 hcs hpos hfit hO2
        go_wp2
        go_end0
        refine ⟨rfl, ?_, hO3.out⟩
        rw [← hres.out, Dg.rest, hk64.out]
        exact hD3.out
end Go.Proofs.YtfmeeimhfdnjpaaDoor
