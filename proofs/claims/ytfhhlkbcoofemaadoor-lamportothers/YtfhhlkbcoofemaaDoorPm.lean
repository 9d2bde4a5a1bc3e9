/- Plain arithmetic of 32-bit words and bytes as the model spells it, and the sum's own functions on words. No program is spoken of. -/
import Derived.WalkKit
namespace Go.Proofs.YtfhhlkbcoofemaaDoor
open Go.RowKit

/-- A word's number. -/
def vl (x : BitVec 32) : Int := (x.toNat : Int)
/-- A byte's number. -/
def bv (x : BitVec 8) : Int := (x.toNat : Int)
theorem hide {p : Prop} (h : p) : Hid p := h
/-- A fact kept from the walk, also from what looks through definitions. -/
structure Box (p : Prop) : Prop where
  out : p
theorem ret_int {k : IntKind} {a b : Int} (h : a = b) : Ending.returned (.int k a) = .returned (.int k b) := by rw [h]
theorem vl_range (x : BitVec 32) : 0 ≤ vl x ∧ vl x < (4294967296 : Int) := by unfold vl; have := x.isLt; omega
theorem bv_range (x : BitVec 8) : 0 ≤ bv x ∧ bv x < (256 : Int) := by unfold bv; have := x.isLt; omega
theorem vl_lit (n : Nat) (h : n < 4294967296) : vl (BitVec.ofNat 32 n) = (n : Int) := by unfold vl; rw [BitVec.toNat_ofNat]; omega

theorem vl_xor (x y : BitVec 32) : bits .xor .u32 (vl x) (vl y) = vl (x ^^^ y) := by
  unfold vl; rw [u32_xor _ _ (by omega) (by have := x.isLt; omega) (by omega) (by have := y.isLt; omega)]; simp
theorem vl_and (x y : BitVec 32) : bits .and .u32 (vl x) (vl y) = vl (x &&& y) := by
  unfold vl; rw [u32_and _ _ (by omega) (by have := x.isLt; omega) (by omega) (by have := y.isLt; omega)]; simp
theorem vl_or (x y : BitVec 32) : bits .or .u32 (vl x) (vl y) = vl (x ||| y) := by
  unfold vl; rw [u32_or _ _ (by omega) (by have := x.isLt; omega) (by omega) (by have := y.isLt; omega)]; simp
theorem vl_not (x : BitVec 32) : bits .xor .u32 (4294967295 : Int) (vl x) = vl (~~~ x) := by
  have e : (4294967295 : Int) = vl (BitVec.allOnes 32) := by unfold vl; rfl
  rw [e, vl_xor, BitVec.allOnes_xor]
theorem vl_notw (x : BitVec 32) : bits .xor .u32 (if IntKind.u32.signed = true then -1 else IntKind.u32.max) (vl x) = vl (~~~ x) := by
  rw [show (if IntKind.u32.signed = true then (-1 : Int) else IntKind.u32.max) = 4294967295 from by decide, vl_not]
theorem vl_add (x y : BitVec 32) : (vl x + vl y) % (4294967296 : Int) = vl (x + y) := by
  unfold vl; rw [BitVec.toNat_add]; omega
theorem vl_addw (x y : BitVec 32) : IntKind.u32.wrap (vl x + vl y) = vl (x + y) := by
  rw [IntKind.wrap_u32', vl_add]
theorem vl_shl (x : BitVec 32) (n : Nat) : (vl x * 2 ^ n) % (4294967296 : Int) = vl (x <<< n) := by
  unfold vl; rw [BitVec.toNat_shiftLeft, Nat.shiftLeft_eq]; simp
theorem vl_shr (x : BitVec 32) (n : Nat) : vl x / 2 ^ n = vl (x >>> n) := by
  unfold vl; rw [BitVec.toNat_ushiftRight, Nat.shiftRight_eq_div_pow]; simp
theorem cnt_all : ∀ m : Fin 31, bits .and .u64 (IntKind.u64.wrap (-((m.val + 1 : Nat) : Int))) 31 = ((32 - (m.val + 1) : Nat) : Int) := by decide +kernel
theorem cnt (n : Nat) (h1 : 0 < n) (h2 : n < 32) : bits .and .u64 (IntKind.u64.wrap (-(n : Int))) 31 = ((32 - n : Nat) : Int) := by
  have := cnt_all ⟨n - 1, by omega⟩
  simpa [show n - 1 + 1 = n by omega] using this
theorem cnt2 (n : Nat) (h1 : 0 < n) (h2 : n < 32) : IntKind.u64.wrap (32 - ((32 - n : Nat) : Int)) = (n : Int) := by
  rw [IntKind.wrap_u64]; omega
/-- Turned to the right. -/
def rot (x : BitVec 32) (n : Nat) : BitVec 32 := x <<< (32 - n) ||| x >>> n
theorem rot_raw (x : BitVec 32) (n : Nat) : bits .or .u32 (vl x * 2 ^ (32 - n) % (4294967296 : Int)) (vl x / 2 ^ n) = vl (rot x n) := by
  rw [vl_shl x (32 - n), vl_shr x n, vl_or]; rfl
theorem shr3_raw (x : BitVec 32) : vl x / (8 : Int) = vl (x >>> 3) := vl_shr x 3
theorem shr10_raw (x : BitVec 32) : vl x / (1024 : Int) = vl (x >>> 10) := vl_shr x 10

/-- Four bytes, the highest first. -/
def be (b1 b2 b3 b4 : BitVec 8) : BitVec 32 := b1.setWidth 32 <<< 24 ||| b2.setWidth 32 <<< 16 ||| b3.setWidth 32 <<< 8 ||| b4.setWidth 32
theorem bv_w (b : BitVec 8) : bv b = vl (b.setWidth 32) := by
  unfold vl bv; have := b.isLt; rw [BitVec.toNat_setWidth]; omega
theorem bv_wrap (b : BitVec 8) : bv b % (4294967296 : Int) = vl (b.setWidth 32) := by
  have := bv_range b; rw [← bv_w]; omega
theorem bv_wrapw (b : BitVec 8) : IntKind.u32.wrap (bv b) = vl (b.setWidth 32) := by rw [IntKind.wrap_u32', bv_wrap]
theorem shl24_raw (x : BitVec 32) : (vl x * (16777216 : Int)) % (4294967296 : Int) = vl (x <<< 24) := vl_shl x 24
theorem shl16_raw (x : BitVec 32) : (vl x * (65536 : Int)) % (4294967296 : Int) = vl (x <<< 16) := vl_shl x 16
theorem shl8_raw (x : BitVec 32) : (vl x * (256 : Int)) % (4294967296 : Int) = vl (x <<< 8) := vl_shl x 8
/-- The words of a block: the first k of the sixteen. -/
def w1 (bs : List (BitVec 8)) : Nat → List (BitVec 32)
  | 0 => List.replicate 64 0
  | k + 1 => (w1 bs k).set k (be (bs.getD (4 * k) 0) (bs.getD (4 * k + 1) 0) (bs.getD (4 * k + 2) 0) (bs.getD (4 * k + 3) 0))
def sg0 (x : BitVec 32) : BitVec 32 := rot x 7 ^^^ rot x 18 ^^^ x >>> 3
def sg1 (x : BitVec 32) : BitVec 32 := rot x 17 ^^^ rot x 19 ^^^ x >>> 10
def wnext (l : List (BitVec 32)) (t : Nat) : BitVec 32 := sg1 (l.getD (t - 2) 0) + l.getD (t - 7) 0 + sg0 (l.getD (t - 15) 0) + l.getD (t - 16) 0
/-- The words of a block, k of the forty-eight that follow the sixteen. -/
def w2 (bs : List (BitVec 8)) : Nat → List (BitVec 32)
  | 0 => w1 bs 16
  | k + 1 => (w2 bs k).set (16 + k) (wnext (w2 bs k) (16 + k))
def words (bs : List (BitVec 8)) : List (BitVec 32) := w2 bs 48
theorem w1_len (bs : List (BitVec 8)) (k : Nat) : (w1 bs k).length = 64 := by
  induction k with
  | zero => simp [w1]
  | succ k ih => simp [w1, ih]
theorem w2_len (bs : List (BitVec 8)) (k : Nat) : (w2 bs k).length = 64 := by
  induction k with
  | zero => simp [w2, w1_len]
  | succ k ih => simp [w2, ih]
theorem words_len (bs : List (BitVec 8)) : (words bs).length = 64 := w2_len bs 48

/-- A word in a cell. -/
def U (x : BitVec 32) : Value := .int .u32 (vl x)
/-- Block b of the world is an array of words. -/
def HasW (w : World) (b : Nat) (T : TypeId) (xs : List (BitVec 32)) : Prop := w.heap[b]? = some (.cells (xs.map U).toArray T (0, 0))
theorem HasW.cell {w : World} {b : Nat} {T : TypeId} {xs : List (BitVec 32)} (h : HasW w b T xs) (i : Nat) (hi : i < xs.length) : w.cell? ⟨b, i, none⟩ = some (.int .u32 (vl (xs.getD i 0))) := by
  unfold HasW at h
  simp [World.cell?, h, hi, U]
theorem HasW.frozen {w : World} {b : Nat} {T : TypeId} {xs : List (BitVec 32)} (h : HasW w b T xs) (i : Nat) : w.frozen? ⟨b, i, none⟩ = false := by
  unfold HasW at h
  simp [World.frozen?, h]
theorem HasW.set {w : World} {b : Nat} {T : TypeId} {xs : List (BitVec 32)} (h : HasW w b T xs) (i : Nat) (x : BitVec 32) : HasW (w.setCell ⟨b, i, none⟩ (.int .u32 (vl x))) b T (xs.set i x) := by
  unfold HasW at *
  simp [World.setCell, Array.getElem?_modify, h, U, List.map_set]
theorem HasW.below {w w' : World} {B b : Nat} {T : TypeId} {xs : List (BitVec 32)} (h : HasW w b T xs) (hb : Below B w w') (hB : b < B) : HasW w' b T xs := by
  unfold HasW at *
  rw [hb.block b hB]; exact h
theorem HasW.drew {w : World} {b : Nat} {T : TypeId} {xs : List (BitVec 32)} (h : HasW w b T xs) : HasW w.drew b T xs := h
theorem HasW.other {w : World} {b : Nat} {T : TypeId} {xs : List (BitVec 32)} (h : HasW w b T xs) (a : Addr) (v : Value) (hne : b ≠ a.block) : HasW (w.setCell a v) b T xs := by
  unfold HasW at *
  rw [heap_setCell_other _ _ _ _ hne]; exact h
theorem w2_step {w : World} {b : Nat} {T : TypeId} (bs : List (BitVec 8)) (t : Nat) (h1 : 16 ≤ t) (h : HasW w b T (w2 bs (t - 16))) : HasW (w.setCell ⟨b, t, none⟩ (.int .u32 (vl (wnext (w2 bs (t - 16)) t)))) b T (w2 bs (t + 1 - 16)) := by
  have e : t + 1 - 16 = (t - 16) + 1 := by omega
  have := h.set t (wnext (w2 bs (t - 16)) t)
  rw [e, w2, show 16 + (t - 16) = t by omega]
  exact this
theorem U_one (xs : List (BitVec 32)) : ((xs.map U).toArray).all (·.oneCell') = true := by
  simp [U, Value.oneCell']
/-- The eight numbers. -/
structure St where
  a : BitVec 32
  b : BitVec 32
  c : BitVec 32
  d : BitVec 32
  e : BitVec 32
  f : BitVec 32
  g : BitVec 32
  h : BitVec 32
def St.t1 (s : St) (k w : BitVec 32) : BitVec 32 := s.h + (rot s.e 6 ^^^ rot s.e 11 ^^^ rot s.e 25) + ((s.e &&& s.f) ^^^ (~~~ s.e &&& s.g)) + k + w
def St.t2 (s : St) : BitVec 32 := (rot s.a 2 ^^^ rot s.a 13 ^^^ rot s.a 22) + ((s.a &&& s.b) ^^^ (s.a &&& s.c) ^^^ (s.b &&& s.c))
/-- One round. -/
def rnd (s : St) (k w : BitVec 32) : St := ⟨s.t1 k w + s.t2, s.a, s.b, s.c, s.d + s.t1 k w, s.e, s.f, s.g⟩
/-- The numbers of the rounds. -/
def KN : List (BitVec 32) := [1116352408, 1899447441, 3049323471, 3921009573, 961987163, 1508970993, 2453635748, 2870763221, 3624381080, 310598401, 607225278, 1426881987, 1925078388, 2162078206, 2614888103, 3248222580, 3835390401, 4022224774, 264347078, 604807628, 770255983, 1249150122, 1555081692, 1996064986, 2554220882, 2821834349, 2952996808, 3210313671, 3336571891, 3584528711, 113926993, 338241895, 666307205, 773529912, 1294757372, 1396182291, 1695183700, 1986661051, 2177026350, 2456956037, 2730485921, 2820302411, 3259730800, 3345764771, 3516065817, 3600352804, 4094571909, 275423344, 430227734, 506948616, 659060556, 883997877, 958139571, 1322822218, 1537002063, 1747873779, 1955562222, 2024104815, 2227730452, 2361852424, 2428436474, 2756734187, 3204031479, 3329325298]
def rnds (ws : List (BitVec 32)) (s : St) : Nat → St
  | 0 => s
  | k + 1 => rnd (rnds ws s k) (KN.getD k 0) (ws.getD k 0)
def St.plus (s t : St) : St := ⟨s.a + t.a, s.b + t.b, s.c + t.c, s.d + t.d, s.e + t.e, s.f + t.f, s.g + t.g, s.h + t.h⟩
/-- The eight numbers behind a block. -/
def mix (s : St) (bs : List (BitVec 8)) : St := s.plus (rnds (words bs) s 64)
def St.list (s : St) : List (BitVec 32) := [s.a, s.b, s.c, s.d, s.e, s.f, s.g, s.h]
def St.first : St := ⟨1779033703, 3144134277, 1013904242, 2773480762, 1359893119, 2600822924, 528734635, 1541459225⟩
/-- The numbers of the rounds lie in block g. -/
def HasK (w : World) (g : Nat) : Prop := ∀ i, i < 64 → w.cell? ⟨g, i, none⟩ = some (.int .u32 (vl (KN.getD i 0)))
theorem HasK.below {w w' : World} {B g : Nat} (h : HasK w g) (hb : Below B w w') (hB : g < B) : HasK w' g := fun i hi => by rw [hb.cell (by exact hB)]; exact h i hi
/-- The bytes bs lie from (b, o) on. -/
def HasB (w : World) (b o : Nat) (bs : List (BitVec 8)) : Prop := ∀ i, i < bs.length → w.cell? ⟨b, o + i, none⟩ = some (.int .u8 (bv (bs.getD i 0)))
theorem HasB.below {w w' : World} {B b o : Nat} {bs : List (BitVec 8)} (h : HasB w b o bs) (hb : Below B w w') (hB : b < B) : HasB w' b o bs := fun i hi => by rw [hb.cell (by exact hB)]; exact h i hi
end Go.Proofs.YtfhhlkbcoofemaaDoor
