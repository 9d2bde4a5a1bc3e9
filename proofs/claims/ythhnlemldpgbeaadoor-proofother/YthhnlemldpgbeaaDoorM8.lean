/- What is asked of package proof: it holds. The reference's Root. An own slice of hashes that is cut is an own slice. The law's root. Sums reckoned over plain numbers, quick for the kernel: the same as the sums over bytes. No program is spoken of but through the functions on digests. Whole sums reckoned over plain numbers: the same as the sums over bytes. Steps of chains, secrets and public keys reckoned over plain numbers. awake. Path. Proof. ProofRight. A drawn region in which several variables are made among the steps: they are apart. Plain: regions that draw their order, whose guards may lean on operations that are themselves not wanted. -/
import Derived.Test.YthhnlemldpgbeaaDoorM7
import Derived.Test.YthhnlemldpgbeaaDoorM4
import Derived.Test.YthhnlemldpgbeaaDoorM5
import Derived.Test.YthhnlemldpgbeaaDoorM2
import Derived.Test.YthhnlemldpgbeaaDoorM3
namespace Go.Proofs.YthhnlemldpgbeaaDoor
set_option maxRecDepth 100000
open Go.RowKit
theorem fk_len_ok {i n : Nat} (hi : i < n) (hn : n ≤ 1152921504606846976) {w : World} :
    Calls Tryd.prog 10 #[.int .i64 ((i : Nat) : Int), .int .i64 ((n : Nat) : Int)] w fun e w' => ∃ u, e = .returned u ∧ (Fk.eq (.int .i64 (((sds i n).length : Nat) : Int))).f u w' ∧ Below w.heap.size w w' := by
  exact len_ok hi hn
theorem fk_lead_ok {leaf : List (BitVec 8)} (hlf : leaf.length = 32) {i n : Nat} (hi : i < n) (hn : n ≤ 1152921504606846976) {P : List (List (BitVec 8))} {v : Value} {w : World} (hv : (Fk.hc P).f v w) (hP : P.length ≤ 100000) (hK : Tab w) (hl : P.length = (sds i n).length) {y : List (BitVec 8)} (ey : Box (ldt leaf P (sds i n) = y)) :
    Calls Tryd.prog 9 #[.agg ((leaf).map V).toArray, .int .i64 ((i : Nat) : Int), .int .i64 ((n : Nat) : Int), v] w fun e w' => ∃ u, e = .returned u ∧ (Fk.eq (.tuple #[.agg ((y).map V).toArray, .int .i64 0])).f u w' ∧ Below w.heap.size w w' := by
  exact lead_ok hlf hi hn hv hP hK hl ey
theorem fk_in_any {leaf : List (BitVec 8)} (hlf : leaf.length = 32) {rt : List (BitVec 8)} (hrt : rt.length = 32) {i n : Nat} (hi : i < n) (hn : n ≤ 1152921504606846976) {P : List (List (BitVec 8))} {v : Value} {w : World} (hv : (Fk.hc P).f v w) (hP : P.length ≤ 100000) (hK : Tab w) (r : Int) (hr : r = if P.length = (sds i n).length ∧ ldt leaf P (sds i n) = rt then 0 else 22) :
    Calls Tryd.prog 11 #[.agg ((leaf).map V).toArray, .int .i64 ((i : Nat) : Int), .int .i64 ((n : Nat) : Int), v, .agg ((rt).map V).toArray] w fun e w' => ∃ u, e = .returned u ∧ (Fk.eq (.int .i64 r)).f u w' ∧ Below w.heap.size w w' := by
  subst hr
  by_cases hl : P.length = (sds i n).length
  · obtain ⟨y, ey⟩ : ∃ y, Box (ldt leaf P (sds i n) = y) := ⟨_, ⟨rfl⟩⟩
    by_cases hyr : y = rt
    · rw [if_pos ⟨hl, ey.out.trans hyr⟩]
      exact in_ok hlf hrt hi hn hv hP hK hl ey hyr
    · rw [if_neg (fun h => hyr (ey.out.symm.trans h.2))]
      exact in_other hlf hrt hi hn hv hP hK hl ey hyr
  · rw [if_neg (fun h => hl h.1)]
    exact in_bad hlf hrt hi hn hv hP hK hl
end Go.Proofs.YthhnlemldpgbeaaDoor
namespace Go.Proofs.YthhnlemldpgbeaaDoor
set_option maxRecDepth 100000
open Go.RowKit
end Go.Proofs.YthhnlemldpgbeaaDoor
namespace Go.Proofs.YthhnlemldpgbeaaDoor
set_option maxRecDepth 100000
open Go.RowKit
end Go.Proofs.YthhnlemldpgbeaaDoor
namespace Go.Proofs.YthhnlemldpgbeaaDoor
set_option maxRecDepth 100000
open Go.RowKit
theorem hs_len {hs : List (List (BitVec 8))} {v : Value} {w : World} (h : (Fk.hs hs).f v w) {i : Nat} {x : List (BitVec 8)} (hi : hs[i]? = some x) : x.length = 32 := by
  obtain ⟨A, C, lb, lo, e, hl⟩ := h
  exact (hl.all i x hi).1
end Go.Proofs.YthhnlemldpgbeaaDoor
namespace Go.Proofs.YthhnlemldpgbeaaDoor
set_option maxRecDepth 100000
open Go.RowKit
/-- f at x, x reckoned first. -/
def force {α : Type} (x : Nat) (f : Nat → α) : α := Nat.rec (motive := fun _ => α) (f 0) (fun n _ => f (Nat.succ n)) x
theorem force_eq {α : Type} (x : Nat) (f : Nat → α) : force x f = f x := by cases x <;> rfl
/-- Bytes as a number, the highest first. -/
def nb (bs : List (BitVec 8)) : Nat := bs.foldl (fun a b => a * 256 + b.toNat) 0
theorem nb_from (bs : List (BitVec 8)) : ∀ a : Nat, bs.foldl (fun a b => a * 256 + b.toNat) a = a * 256 ^ bs.length + nb bs := by
  induction bs with
  | nil => intro a; simp [nb]
  | cons b r ih =>
    intro a
    have h1 := ih (0 * 256 + b.toNat)
    have h2 := ih (a * 256 + b.toNat)
    show r.foldl _ (a * 256 + b.toNat) = a * 256 ^ (r.length + 1) + r.foldl _ (0 * 256 + b.toNat)
    rw [h1, h2, Nat.pow_succ, Nat.add_mul, Nat.add_mul, Nat.mul_assoc a, Nat.mul_comm 256]
    omega
theorem nb_append (xs ys : List (BitVec 8)) : nb (xs ++ ys) = nb xs * 256 ^ ys.length + nb ys := by
  have := nb_from ys (nb xs)
  unfold nb at *
  rw [List.foldl_append]
  exact this
theorem nb_cons (b : BitVec 8) (xs : List (BitVec 8)) : nb (b :: xs) = b.toNat * 256 ^ xs.length + nb xs := by
  have := nb_append [b] xs
  rw [List.singleton_append] at this
  rw [this]
  simp [nb]
theorem nb_lt (xs : List (BitVec 8)) : nb xs < 256 ^ xs.length := by
  induction xs with
  | nil => simp [nb]
  | cons b r ih =>
    rw [nb_cons, List.length_cons, Nat.pow_succ]
    have := b.isLt
    have h2 : b.toNat * 256 ^ r.length ≤ 255 * 256 ^ r.length := Nat.mul_le_mul_right _ (by omega)
    omega
theorem nb_div (xs ys : List (BitVec 8)) : nb (xs ++ ys) / 256 ^ ys.length = nb xs := by
  rw [nb_append, Nat.mul_comm, Nat.mul_add_div (Nat.pos_of_ne_zero (by simp)), Nat.div_eq_of_lt (nb_lt ys), Nat.add_zero]
theorem nb_mod (xs ys : List (BitVec 8)) : nb (xs ++ ys) % 256 ^ ys.length = nb ys := by
  rw [nb_append, Nat.mul_comm, Nat.mul_add_mod, Nat.mod_eq_of_lt (nb_lt ys)]
/-- n bytes from number i on, out of the number of m bytes. -/
theorem nb_part (xs : List (BitVec 8)) (i n : Nat) (h : i + n ≤ xs.length) : nb xs / 256 ^ (xs.length - i - n) % 256 ^ n = nb ((xs.drop i).take n) := by
  have e : xs = (xs.take i ++ (xs.drop i).take n) ++ (xs.drop i).drop n := by rw [List.append_assoc, List.take_append_drop, List.take_append_drop]
  have h1 : ((xs.drop i).drop n).length = xs.length - i - n := by rw [List.length_drop, List.length_drop]
  have h2 : ((xs.drop i).take n).length = n := by rw [List.length_take, List.length_drop]; omega
  have := nb_div (xs.take i ++ (xs.drop i).take n) ((xs.drop i).drop n)
  rw [← e, h1] at this
  rw [this]
  have := nb_mod (xs.take i) ((xs.drop i).take n)
  rw [h2] at this
  exact this
def frr (x n : Nat) : Nat := Nat.lor (Nat.mod (Nat.shiftLeft x (Nat.sub 32 n)) 4294967296) (Nat.shiftRight x n)
theorem frr_eq (x : BitVec 32) (n : Nat) : frr x.toNat n = (rot x n).toNat := by
  unfold rot
  rw [BitVec.toNat_or, BitVec.toNat_shiftLeft, BitVec.toNat_ushiftRight]
  rfl
def fg0 (x : Nat) : Nat := Nat.xor (Nat.xor (frr x 7) (frr x 18)) (Nat.shiftRight x 3)
def fg1 (x : Nat) : Nat := Nat.xor (Nat.xor (frr x 17) (frr x 19)) (Nat.shiftRight x 10)
def fS0 (x : Nat) : Nat := Nat.xor (Nat.xor (frr x 2) (frr x 13)) (frr x 22)
def fS1 (x : Nat) : Nat := Nat.xor (Nat.xor (frr x 6) (frr x 11)) (frr x 25)
def fch (e f g : Nat) : Nat := Nat.xor (Nat.land e f) (Nat.land (Nat.sub 4294967295 e) g)
def fmj (a b c : Nat) : Nat := Nat.xor (Nat.xor (Nat.land a b) (Nat.land a c)) (Nat.land b c)
theorem fg0_eq (x : BitVec 32) : fg0 x.toNat = (sg0 x).toNat := by
  unfold fg0 sg0
  rw [frr_eq, frr_eq, BitVec.toNat_xor, BitVec.toNat_xor, BitVec.toNat_ushiftRight]
  rfl
theorem fg1_eq (x : BitVec 32) : fg1 x.toNat = (sg1 x).toNat := by
  unfold fg1 sg1
  rw [frr_eq, frr_eq, BitVec.toNat_xor, BitVec.toNat_xor, BitVec.toNat_ushiftRight]
  rfl
theorem fS0_eq (x : BitVec 32) : fS0 x.toNat = (rot x 2 ^^^ rot x 13 ^^^ rot x 22).toNat := by
  unfold fS0
  rw [frr_eq, frr_eq, frr_eq, BitVec.toNat_xor, BitVec.toNat_xor]
  rfl
theorem fS1_eq (x : BitVec 32) : fS1 x.toNat = (rot x 6 ^^^ rot x 11 ^^^ rot x 25).toNat := by
  unfold fS1
  rw [frr_eq, frr_eq, frr_eq, BitVec.toNat_xor, BitVec.toNat_xor]
  rfl
theorem fch_eq (x y z : BitVec 32) : fch x.toNat y.toNat z.toNat = ((x &&& y) ^^^ (~~~ x &&& z)).toNat := by
  unfold fch
  rw [BitVec.toNat_xor, BitVec.toNat_and, BitVec.toNat_and, BitVec.toNat_not]
  rfl
theorem fmj_eq (x y z : BitVec 32) : fmj x.toNat y.toNat z.toNat = ((x &&& y) ^^^ (x &&& z) ^^^ (y &&& z)).toNat := by
  unfold fmj
  rw [BitVec.toNat_xor, BitVec.toNat_xor, BitVec.toNat_and, BitVec.toNat_and, BitVec.toNat_and]
  rfl
/-- One round of the numbers, with the sixteen words that go along. -/
def fst {α : Type} (k : Nat) (ih : Nat → Nat → Nat → Nat → Nat → Nat → Nat → Nat → Nat → Nat → Nat → Nat → Nat → Nat → Nat → Nat → Nat → Nat → Nat → Nat → Nat → Nat → Nat → Nat → α) : Nat → Nat → Nat → Nat → Nat → Nat → Nat → Nat → Nat → Nat → Nat → Nat → Nat → Nat → Nat → Nat → Nat → Nat → Nat → Nat → Nat → Nat → Nat → Nat → α := fun a b c d e f g h w0 w1 w2 w3 w4 w5 w6 w7 w8 w9 w10 w11 w12 w13 w14 w15 =>
  force (Nat.add (Nat.add (Nat.add (Nat.add h (fS1 e)) (fch e f g)) k) w0) fun t1 =>
  force (Nat.mod (Nat.add t1 (Nat.add (fS0 a) (fmj a b c))) 4294967296) fun na =>
  force (Nat.mod (Nat.add d t1) 4294967296) fun ne =>
  force (Nat.mod (Nat.add (Nat.add (Nat.add (fg1 w14) w9) (fg0 w1)) w0) 4294967296) fun nw =>
  ih na a b c ne e f g w1 w2 w3 w4 w5 w6 w7 w8 w9 w10 w11 w12 w13 w14 w15 nw
def frn {α : Type} (q : Nat → Nat → Nat → Nat → Nat → Nat → Nat → Nat → α) (l : List Nat) : Nat → Nat → Nat → Nat → Nat → Nat → Nat → Nat → Nat → Nat → Nat → Nat → Nat → Nat → Nat → Nat → Nat → Nat → Nat → Nat → Nat → Nat → Nat → Nat → α := List.foldr fst (fun a b c d e f g h _ _ _ _ _ _ _ _ _ _ _ _ _ _ _ _ => q a b c d e f g h) l
theorem fst_eq {α : Type} (k : BitVec 32) (ih : Nat → Nat → Nat → Nat → Nat → Nat → Nat → Nat → Nat → Nat → Nat → Nat → Nat → Nat → Nat → Nat → Nat → Nat → Nat → Nat → Nat → Nat → Nat → Nat → α) (s : St) (w0 w1 w2 w3 w4 w5 w6 w7 w8 w9 w10 w11 w12 w13 w14 w15 : Nat) (w : BitVec 32) (hw : w0 = w.toNat) :
    fst k.toNat ih s.a.toNat s.b.toNat s.c.toNat s.d.toNat s.e.toNat s.f.toNat s.g.toNat s.h.toNat w0 w1 w2 w3 w4 w5 w6 w7 w8 w9 w10 w11 w12 w13 w14 w15 =
    ih (rnd s k w).a.toNat (rnd s k w).b.toNat (rnd s k w).c.toNat (rnd s k w).d.toNat (rnd s k w).e.toNat (rnd s k w).f.toNat (rnd s k w).g.toNat (rnd s k w).h.toNat w1 w2 w3 w4 w5 w6 w7 w8 w9 w10 w11 w12 w13 w14 w15 (Nat.mod (Nat.add (Nat.add (Nat.add (fg1 w14) w9) (fg0 w1)) w0) 4294967296) := by
  unfold fst
  rw [force_eq, force_eq, force_eq, force_eq, fS1_eq, fch_eq, fS0_eq, fmj_eq, hw]
  have e1 : Nat.mod (Nat.add (Nat.add (Nat.add (Nat.add (Nat.add s.h.toNat (rot s.e 6 ^^^ rot s.e 11 ^^^ rot s.e 25).toNat) ((s.e &&& s.f) ^^^ (~~~ s.e &&& s.g)).toNat) k.toNat) w.toNat) (Nat.add (rot s.a 2 ^^^ rot s.a 13 ^^^ rot s.a 22).toNat ((s.a &&& s.b) ^^^ (s.a &&& s.c) ^^^ (s.b &&& s.c)).toNat)) 4294967296 = (rnd s k w).a.toNat := by
    show _ = (s.t1 k w + s.t2).toNat
    unfold St.t1 St.t2
    simp only [BitVec.toNat_add]
    show _ % 4294967296 = _
    simp only [Nat.add_eq]
    omega
  have e2 : Nat.mod (Nat.add s.d.toNat (Nat.add (Nat.add (Nat.add (Nat.add s.h.toNat (rot s.e 6 ^^^ rot s.e 11 ^^^ rot s.e 25).toNat) ((s.e &&& s.f) ^^^ (~~~ s.e &&& s.g)).toNat) k.toNat) w.toNat)) 4294967296 = (rnd s k w).e.toNat := by
    show _ = (s.d + s.t1 k w).toNat
    unfold St.t1
    simp only [BitVec.toNat_add]
    show _ % 4294967296 = _
    simp only [Nat.add_eq]
    omega
  rw [e1, e2]
  rfl
def KM : List Nat := [1116352408, 1899447441, 3049323471, 3921009573, 961987163, 1508970993, 2453635748, 2870763221, 3624381080, 310598401, 607225278, 1426881987, 1925078388, 2162078206, 2614888103, 3248222580, 3835390401, 4022224774, 264347078, 604807628, 770255983, 1249150122, 1555081692, 1996064986, 2554220882, 2821834349, 2952996808, 3210313671, 3336571891, 3584528711, 113926993, 338241895, 666307205, 773529912, 1294757372, 1396182291, 1695183700, 1986661051, 2177026350, 2456956037, 2730485921, 2820302411, 3259730800, 3345764771, 3516065817, 3600352804, 4094571909, 275423344, 430227734, 506948616, 659060556, 883997877, 958139571, 1322822218, 1537002063, 1747873779, 1955562222, 2024104815, 2227730452, 2361852424, 2428436474, 2756734187, 3204031479, 3329325298]
theorem KM_at (t : Nat) (h : t < 64) : KM.drop t = (KN.getD t 0).toNat :: KM.drop (t + 1) := by
  have : ∀ t : Fin 64, KM.drop t.val = (KN.getD t.val 0).toNat :: KM.drop (t.val + 1) := by decide +kernel
  exact this ⟨t, h⟩
end Go.Proofs.YthhnlemldpgbeaaDoor
namespace Go.Proofs.YthhnlemldpgbeaaDoor
set_option maxRecDepth 100000
open Go.RowKit
theorem frn_eq {α : Type} (q : Nat → Nat → Nat → Nat → Nat → Nat → Nat → Nat → α) (ws : List (BitVec 32)) (s0 : St) (hW : ∀ t, t + 16 < 64 → ws.getD (t + 16) 0 = sg1 (ws.getD (t + 14) 0) + ws.getD (t + 9) 0 + sg0 (ws.getD (t + 1) 0) + ws.getD t 0) :
    ∀ (j t : Nat), t + j = 64 → ∀ w0 w1 w2 w3 w4 w5 w6 w7 w8 w9 w10 w11 w12 w13 w14 w15 : Nat, (t + 0 < 64 → w0 = (ws.getD (t + 0) 0).toNat) → (t + 1 < 64 → w1 = (ws.getD (t + 1) 0).toNat) → (t + 2 < 64 → w2 = (ws.getD (t + 2) 0).toNat) → (t + 3 < 64 → w3 = (ws.getD (t + 3) 0).toNat) → (t + 4 < 64 → w4 = (ws.getD (t + 4) 0).toNat) → (t + 5 < 64 → w5 = (ws.getD (t + 5) 0).toNat) → (t + 6 < 64 → w6 = (ws.getD (t + 6) 0).toNat) → (t + 7 < 64 → w7 = (ws.getD (t + 7) 0).toNat) → (t + 8 < 64 → w8 = (ws.getD (t + 8) 0).toNat) → (t + 9 < 64 → w9 = (ws.getD (t + 9) 0).toNat) → (t + 10 < 64 → w10 = (ws.getD (t + 10) 0).toNat) → (t + 11 < 64 → w11 = (ws.getD (t + 11) 0).toNat) → (t + 12 < 64 → w12 = (ws.getD (t + 12) 0).toNat) → (t + 13 < 64 → w13 = (ws.getD (t + 13) 0).toNat) → (t + 14 < 64 → w14 = (ws.getD (t + 14) 0).toNat) → (t + 15 < 64 → w15 = (ws.getD (t + 15) 0).toNat) → frn q (KM.drop t) (rnds ws s0 t).a.toNat (rnds ws s0 t).b.toNat (rnds ws s0 t).c.toNat (rnds ws s0 t).d.toNat (rnds ws s0 t).e.toNat (rnds ws s0 t).f.toNat (rnds ws s0 t).g.toNat (rnds ws s0 t).h.toNat w0 w1 w2 w3 w4 w5 w6 w7 w8 w9 w10 w11 w12 w13 w14 w15 = q (rnds ws s0 64).a.toNat (rnds ws s0 64).b.toNat (rnds ws s0 64).c.toNat (rnds ws s0 64).d.toNat (rnds ws s0 64).e.toNat (rnds ws s0 64).f.toNat (rnds ws s0 64).g.toNat (rnds ws s0 64).h.toNat := by
  intro j
  induction j with
  | zero =>
    intro t ht w0 w1 w2 w3 w4 w5 w6 w7 w8 w9 w10 w11 w12 w13 w14 w15 h0 h1 h2 h3 h4 h5 h6 h7 h8 h9 h10 h11 h12 h13 h14 h15
    obtain rfl : t = 64 := by omega
    rfl
  | succ j ih =>
    intro t ht w0 w1 w2 w3 w4 w5 w6 w7 w8 w9 w10 w11 w12 w13 w14 w15 h0 h1 h2 h3 h4 h5 h6 h7 h8 h9 h10 h11 h12 h13 h14 h15
    rw [KM_at t (by omega)]
    show fst (KN.getD t 0).toNat (frn q (KM.drop (t + 1))) (rnds ws s0 t).a.toNat (rnds ws s0 t).b.toNat (rnds ws s0 t).c.toNat (rnds ws s0 t).d.toNat (rnds ws s0 t).e.toNat (rnds ws s0 t).f.toNat (rnds ws s0 t).g.toNat (rnds ws s0 t).h.toNat w0 w1 w2 w3 w4 w5 w6 w7 w8 w9 w10 w11 w12 w13 w14 w15 = _
    rw [fst_eq (KN.getD t 0) (frn q (KM.drop (t + 1))) (rnds ws s0 t) w0 w1 w2 w3 w4 w5 w6 w7 w8 w9 w10 w11 w12 w13 w14 w15 (ws.getD t 0) (by rw [h0 (by omega), Nat.add_zero])]
    refine ih (t + 1) (by omega) w1 w2 w3 w4 w5 w6 w7 w8 w9 w10 w11 w12 w13 w14 w15 _ (fun hh => by rw [h1 (by omega), show t + 1 = t + 1 + 0 by omega]) (fun hh => by rw [h2 (by omega), show t + 2 = t + 1 + 1 by omega]) (fun hh => by rw [h3 (by omega), show t + 3 = t + 1 + 2 by omega]) (fun hh => by rw [h4 (by omega), show t + 4 = t + 1 + 3 by omega]) (fun hh => by rw [h5 (by omega), show t + 5 = t + 1 + 4 by omega]) (fun hh => by rw [h6 (by omega), show t + 6 = t + 1 + 5 by omega]) (fun hh => by rw [h7 (by omega), show t + 7 = t + 1 + 6 by omega]) (fun hh => by rw [h8 (by omega), show t + 8 = t + 1 + 7 by omega]) (fun hh => by rw [h9 (by omega), show t + 9 = t + 1 + 8 by omega]) (fun hh => by rw [h10 (by omega), show t + 10 = t + 1 + 9 by omega]) (fun hh => by rw [h11 (by omega), show t + 11 = t + 1 + 10 by omega]) (fun hh => by rw [h12 (by omega), show t + 12 = t + 1 + 11 by omega]) (fun hh => by rw [h13 (by omega), show t + 13 = t + 1 + 12 by omega]) (fun hh => by rw [h14 (by omega), show t + 14 = t + 1 + 13 by omega]) (fun hh => by rw [h15 (by omega), show t + 15 = t + 1 + 14 by omega]) (fun hh => ?_)
    rw [h0 (by omega), h1 (by omega), h9 (by omega), h14 (by omega), fg0_eq, fg1_eq, show t + 1 + 15 = t + 16 by omega, hW t (by omega)]
    simp only [BitVec.toNat_add, Nat.add_zero]
    show _ % 4294967296 = _
    simp only [Nat.add_eq]
    omega
theorem frn_all {α : Type} (q : Nat → Nat → Nat → Nat → Nat → Nat → Nat → Nat → α) (ws : List (BitVec 32)) (s : St) (hW : ∀ t, t + 16 < 64 → ws.getD (t + 16) 0 = sg1 (ws.getD (t + 14) 0) + ws.getD (t + 9) 0 + sg0 (ws.getD (t + 1) 0) + ws.getD t 0) :
    frn q KM s.a.toNat s.b.toNat s.c.toNat s.d.toNat s.e.toNat s.f.toNat s.g.toNat s.h.toNat (ws.getD 0 0).toNat (ws.getD 1 0).toNat (ws.getD 2 0).toNat (ws.getD 3 0).toNat (ws.getD 4 0).toNat (ws.getD 5 0).toNat (ws.getD 6 0).toNat (ws.getD 7 0).toNat (ws.getD 8 0).toNat (ws.getD 9 0).toNat (ws.getD 10 0).toNat (ws.getD 11 0).toNat (ws.getD 12 0).toNat (ws.getD 13 0).toNat (ws.getD 14 0).toNat (ws.getD 15 0).toNat = q (rnds ws s 64).a.toNat (rnds ws s 64).b.toNat (rnds ws s 64).c.toNat (rnds ws s 64).d.toNat (rnds ws s 64).e.toNat (rnds ws s 64).f.toNat (rnds ws s 64).g.toNat (rnds ws s 64).h.toNat :=
  frn_eq q ws s hW 64 0 (Nat.zero_add 64) (ws.getD 0 0).toNat (ws.getD 1 0).toNat (ws.getD 2 0).toNat (ws.getD 3 0).toNat (ws.getD 4 0).toNat (ws.getD 5 0).toNat (ws.getD 6 0).toNat (ws.getD 7 0).toNat (ws.getD 8 0).toNat (ws.getD 9 0).toNat (ws.getD 10 0).toNat (ws.getD 11 0).toNat (ws.getD 12 0).toNat (ws.getD 13 0).toNat (ws.getD 14 0).toNat (ws.getD 15 0).toNat (fun _ => by rw [Nat.zero_add]) (fun _ => by rw [Nat.zero_add]) (fun _ => by rw [Nat.zero_add]) (fun _ => by rw [Nat.zero_add]) (fun _ => by rw [Nat.zero_add]) (fun _ => by rw [Nat.zero_add]) (fun _ => by rw [Nat.zero_add]) (fun _ => by rw [Nat.zero_add]) (fun _ => by rw [Nat.zero_add]) (fun _ => by rw [Nat.zero_add]) (fun _ => by rw [Nat.zero_add]) (fun _ => by rw [Nat.zero_add]) (fun _ => by rw [Nat.zero_add]) (fun _ => by rw [Nat.zero_add]) (fun _ => by rw [Nat.zero_add]) (fun _ => by rw [Nat.zero_add])
/- The words of a block. -/
theorem w1_at (bs : List (BitVec 8)) (i : Nat) : ∀ k, i < k → k ≤ 16 → (w1 bs k).getD i 0 = be (bs.getD (4 * i) 0) (bs.getD (4 * i + 1) 0) (bs.getD (4 * i + 2) 0) (bs.getD (4 * i + 3) 0)
  | 0, h, _ => by omega
  | k + 1, h, hk => by
    have hl := w1_len bs k
    simp only [w1, List.getD_eq_getElem?_getD]
    by_cases e : i = k
    · subst e
      rw [List.getElem?_set_self (by omega)]
      simp
    · rw [List.getElem?_set_ne (fun h => e h.symm)]
      have := w1_at bs i k (by omega) (by omega)
      simp only [List.getD_eq_getElem?_getD] at this
      exact this
theorem w2_keep (bs : List (BitVec 8)) (i k : Nat) (hi : i < 16 + k) : ∀ j, (w2 bs (k + j)).getD i 0 = (w2 bs k).getD i 0
  | 0 => rfl
  | j + 1 => by
    have := w2_keep bs i k hi j
    rw [← this, ← Nat.add_assoc]
    simp only [w2, List.getD_eq_getElem?_getD]
    rw [List.getElem?_set_ne (by omega)]
theorem words_low (bs : List (BitVec 8)) (i : Nat) (h : i < 16) : (words bs).getD i 0 = be (bs.getD (4 * i) 0) (bs.getD (4 * i + 1) 0) (bs.getD (4 * i + 2) 0) (bs.getD (4 * i + 3) 0) := by
  have := w2_keep bs i 0 (by omega) 48
  rw [Nat.zero_add] at this
  unfold words
  rw [this]
  exact w1_at bs i 16 h (Nat.le_refl _)
theorem words_keep (bs : List (BitVec 8)) (t i : Nat) (ht : t ≤ 48) (hi : i < 16 + t) : (w2 bs t).getD i 0 = (words bs).getD i 0 := by
  have := w2_keep bs i t hi (48 - t)
  rw [show t + (48 - t) = 48 by omega] at this
  exact this.symm
theorem words_next (bs : List (BitVec 8)) (t : Nat) (h : t + 16 < 64) : (words bs).getD (t + 16) 0 = sg1 ((words bs).getD (t + 14) 0) + (words bs).getD (t + 9) 0 + sg0 ((words bs).getD (t + 1) 0) + (words bs).getD t 0 := by
  rw [← words_keep bs (t + 1) (t + 16) (by omega) (by omega), ← words_keep bs t (t + 14) (by omega) (by omega), ← words_keep bs t (t + 9) (by omega) (by omega), ← words_keep bs t (t + 1) (by omega) (by omega), ← words_keep bs t t (by omega) (by omega)]
  have hl := w2_len bs t
  simp only [w2, List.getD_eq_getElem?_getD]
  rw [show t + 16 = 16 + t by omega, List.getElem?_set_self (by omega), Option.getD_some]
  unfold wnext
  simp only [List.getD_eq_getElem?_getD]
  rw [show 16 + t - 2 = t + 14 by omega, show 16 + t - 7 = t + 9 by omega, show 16 + t - 15 = t + 1 by omega, show 16 + t - 16 = t by omega]
theorem or_add (a b i : Nat) (h : b < 2 ^ i) : a * 2 ^ i ||| b = a * 2 ^ i + b := by
  have := Nat.shiftLeft_add_eq_or_of_lt h a
  rw [Nat.shiftLeft_eq] at this
  exact this.symm
theorem be_nb (b1 b2 b3 b4 : BitVec 8) : (be b1 b2 b3 b4).toNat = nb [b1, b2, b3, b4] := by
  have h1 := b1.isLt
  have h2 := b2.isLt
  have h3 := b3.isLt
  have h4 := b4.isLt
  unfold be
  simp only [BitVec.toNat_or, BitVec.toNat_shiftLeft, BitVec.toNat_setWidth, Nat.shiftLeft_eq]
  rw [Nat.mod_eq_of_lt (show b1.toNat < 2 ^ 32 by omega), Nat.mod_eq_of_lt (show b2.toNat < 2 ^ 32 by omega), Nat.mod_eq_of_lt (show b3.toNat < 2 ^ 32 by omega), Nat.mod_eq_of_lt (show b4.toNat < 2 ^ 32 by omega), Nat.mod_eq_of_lt (show b1.toNat * 2 ^ 24 < 2 ^ 32 by omega), Nat.mod_eq_of_lt (show b2.toNat * 2 ^ 16 < 2 ^ 32 by omega), Nat.mod_eq_of_lt (show b3.toNat * 2 ^ 8 < 2 ^ 32 by omega)]
  rw [or_add _ _ 24 (by omega), show b1.toNat * 2 ^ 24 + b2.toNat * 2 ^ 16 = (b1.toNat * 256 + b2.toNat) * 2 ^ 16 by omega, or_add _ _ 16 (by omega), show (b1.toNat * 256 + b2.toNat) * 2 ^ 16 + b3.toNat * 2 ^ 8 = ((b1.toNat * 256 + b2.toNat) * 256 + b3.toNat) * 2 ^ 8 by omega, or_add _ _ 8 (by omega)]
  simp [nb]
def fwd (B i : Nat) : Nat := Nat.mod (Nat.shiftRight B (Nat.sub 480 (Nat.mul 32 i))) 4294967296
theorem four_at (bs : List (BitVec 8)) (i : Nat) (h : 4 * i + 4 ≤ bs.length) : (bs.drop (4 * i)).take 4 = [bs.getD (4 * i) 0, bs.getD (4 * i + 1) 0, bs.getD (4 * i + 2) 0, bs.getD (4 * i + 3) 0] := by
  apply List.ext_getElem?
  intro j
  rw [List.getElem?_take]
  simp only [List.getElem?_drop, List.getD_eq_getElem?_getD]
  match j with
  | 0 => simp [List.getElem?_eq_getElem (show 4 * i < bs.length by omega)]
  | 1 => simp [List.getElem?_eq_getElem (show 4 * i + 1 < bs.length by omega)]
  | 2 => simp [List.getElem?_eq_getElem (show 4 * i + 2 < bs.length by omega)]
  | 3 => simp [List.getElem?_eq_getElem (show 4 * i + 3 < bs.length by omega)]
  | j + 4 =>
    rw [if_neg (by omega)]
    rfl
theorem fwd_eq (bs : List (BitVec 8)) (hb : bs.length = 64) (i : Nat) (h : i < 16) : fwd (nb bs) i = ((words bs).getD i 0).toNat := by
  rw [words_low bs i h, be_nb, ← four_at bs i (by omega), ← nb_part bs (4 * i) 4 (by omega)]
  unfold fwd
  show (nb bs >>> (480 - 32 * i)) % 4294967296 = _
  rw [Nat.shiftRight_eq_div_pow, hb, show (256 : Nat) = 2 ^ 8 from rfl, ← Nat.pow_mul, ← Nat.pow_mul, show 8 * (64 - 4 * i - 4) = 480 - 32 * i by omega]
def fmix {α : Type} (q : Nat → Nat → Nat → Nat → Nat → Nat → Nat → Nat → α) : Nat → Nat → Nat → Nat → Nat → Nat → Nat → Nat → Nat → α := fun a b c d e f g h B =>
  force (fwd B 0) fun w0 => force (fwd B 1) fun w1 => force (fwd B 2) fun w2 => force (fwd B 3) fun w3 => force (fwd B 4) fun w4 => force (fwd B 5) fun w5 => force (fwd B 6) fun w6 => force (fwd B 7) fun w7 => force (fwd B 8) fun w8 => force (fwd B 9) fun w9 => force (fwd B 10) fun w10 => force (fwd B 11) fun w11 => force (fwd B 12) fun w12 => force (fwd B 13) fun w13 => force (fwd B 14) fun w14 => force (fwd B 15) fun w15 => frn (fun a1 b1 c1 d1 e1 f1 g1 h1 => force (Nat.mod (Nat.add a a1) 4294967296) fun a2 => force (Nat.mod (Nat.add b b1) 4294967296) fun b2 => force (Nat.mod (Nat.add c c1) 4294967296) fun c2 => force (Nat.mod (Nat.add d d1) 4294967296) fun d2 => force (Nat.mod (Nat.add e e1) 4294967296) fun e2 => force (Nat.mod (Nat.add f f1) 4294967296) fun f2 => force (Nat.mod (Nat.add g g1) 4294967296) fun g2 => force (Nat.mod (Nat.add h h1) 4294967296) fun h2 => q a2 b2 c2 d2 e2 f2 g2 h2) KM a b c d e f g h w0 w1 w2 w3 w4 w5 w6 w7 w8 w9 w10 w11 w12 w13 w14 w15
theorem fmix_open {α : Type} (q : Nat → Nat → Nat → Nat → Nat → Nat → Nat → Nat → α) (a b c d e f g h B : Nat) : fmix q a b c d e f g h B = frn (fun a1 b1 c1 d1 e1 f1 g1 h1 => q (Nat.mod (Nat.add a a1) 4294967296) (Nat.mod (Nat.add b b1) 4294967296) (Nat.mod (Nat.add c c1) 4294967296) (Nat.mod (Nat.add d d1) 4294967296) (Nat.mod (Nat.add e e1) 4294967296) (Nat.mod (Nat.add f f1) 4294967296) (Nat.mod (Nat.add g g1) 4294967296) (Nat.mod (Nat.add h h1) 4294967296)) KM a b c d e f g h (fwd B 0) (fwd B 1) (fwd B 2) (fwd B 3) (fwd B 4) (fwd B 5) (fwd B 6) (fwd B 7) (fwd B 8) (fwd B 9) (fwd B 10) (fwd B 11) (fwd B 12) (fwd B 13) (fwd B 14) (fwd B 15) := by
  have hq : (fun a1 b1 c1 d1 e1 f1 g1 h1 => force (Nat.mod (Nat.add a a1) 4294967296) fun a2 => force (Nat.mod (Nat.add b b1) 4294967296) fun b2 => force (Nat.mod (Nat.add c c1) 4294967296) fun c2 => force (Nat.mod (Nat.add d d1) 4294967296) fun d2 => force (Nat.mod (Nat.add e e1) 4294967296) fun e2 => force (Nat.mod (Nat.add f f1) 4294967296) fun f2 => force (Nat.mod (Nat.add g g1) 4294967296) fun g2 => force (Nat.mod (Nat.add h h1) 4294967296) fun h2 => q a2 b2 c2 d2 e2 f2 g2 h2) = (fun a1 b1 c1 d1 e1 f1 g1 h1 => q (Nat.mod (Nat.add a a1) 4294967296) (Nat.mod (Nat.add b b1) 4294967296) (Nat.mod (Nat.add c c1) 4294967296) (Nat.mod (Nat.add d d1) 4294967296) (Nat.mod (Nat.add e e1) 4294967296) (Nat.mod (Nat.add f f1) 4294967296) (Nat.mod (Nat.add g g1) 4294967296) (Nat.mod (Nat.add h h1) 4294967296)) := by
    funext a1 b1 c1 d1 e1 f1 g1 h1
    rw [force_eq, force_eq, force_eq, force_eq, force_eq, force_eq, force_eq, force_eq]
  unfold fmix
  rw [force_eq, force_eq, force_eq, force_eq, force_eq, force_eq, force_eq, force_eq, force_eq, force_eq, force_eq, force_eq, force_eq, force_eq, force_eq, force_eq, hq]
theorem fmix_eq {α : Type} (q : Nat → Nat → Nat → Nat → Nat → Nat → Nat → Nat → α) (s : St) (bs : List (BitVec 8)) (hb : bs.length = 64) : fmix q s.a.toNat s.b.toNat s.c.toNat s.d.toNat s.e.toNat s.f.toNat s.g.toNat s.h.toNat (nb bs) = q (mix s bs).a.toNat (mix s bs).b.toNat (mix s bs).c.toNat (mix s bs).d.toNat (mix s bs).e.toNat (mix s bs).f.toNat (mix s bs).g.toNat (mix s bs).h.toNat := by
  rw [show mix s bs = s.plus (rnds (words bs) s 64) from rfl]
  have hW := words_next bs
  have hF := fwd_eq bs hb
  generalize words bs = ws at hW hF ⊢
  generalize nb bs = B at hF ⊢
  refine (fmix_open q _ _ _ _ _ _ _ _ B).trans ?_
  have h2 := frn_all (fun a1 b1 c1 d1 e1 f1 g1 h1 => q (Nat.mod (Nat.add s.a.toNat a1) 4294967296) (Nat.mod (Nat.add s.b.toNat b1) 4294967296) (Nat.mod (Nat.add s.c.toNat c1) 4294967296) (Nat.mod (Nat.add s.d.toNat d1) 4294967296) (Nat.mod (Nat.add s.e.toNat e1) 4294967296) (Nat.mod (Nat.add s.f.toNat f1) 4294967296) (Nat.mod (Nat.add s.g.toNat g1) 4294967296) (Nat.mod (Nat.add s.h.toNat h1) 4294967296)) ws s hW
  rw [← hF 0 (by omega), ← hF 1 (by omega), ← hF 2 (by omega), ← hF 3 (by omega), ← hF 4 (by omega), ← hF 5 (by omega), ← hF 6 (by omega), ← hF 7 (by omega), ← hF 8 (by omega), ← hF 9 (by omega), ← hF 10 (by omega), ← hF 11 (by omega), ← hF 12 (by omega), ← hF 13 (by omega), ← hF 14 (by omega), ← hF 15 (by omega)] at h2
  refine h2.trans ?_
  generalize rnds ws s 64 = r
  have e : ∀ x y : BitVec 32, Nat.mod (Nat.add x.toNat y.toNat) 4294967296 = (x + y).toNat := fun x y => (BitVec.toNat_add x y).symm
  show q (Nat.mod (Nat.add s.a.toNat r.a.toNat) 4294967296) (Nat.mod (Nat.add s.b.toNat r.b.toNat) 4294967296) (Nat.mod (Nat.add s.c.toNat r.c.toNat) 4294967296) (Nat.mod (Nat.add s.d.toNat r.d.toNat) 4294967296) (Nat.mod (Nat.add s.e.toNat r.e.toNat) 4294967296) (Nat.mod (Nat.add s.f.toNat r.f.toNat) 4294967296) (Nat.mod (Nat.add s.g.toNat r.g.toNat) 4294967296) (Nat.mod (Nat.add s.h.toNat r.h.toNat) 4294967296) = _
  rw [e s.a r.a, e s.b r.b, e s.c r.c, e s.d r.d, e s.e r.e, e s.f r.f, e s.g r.g, e s.h r.h]
  rfl
/-- Eight numbers as one. -/
def pck (a b c d e f g h : Nat) : Nat := Nat.add (Nat.mul (Nat.add (Nat.mul (Nat.add (Nat.mul (Nat.add (Nat.mul (Nat.add (Nat.mul (Nat.add (Nat.mul (Nat.add (Nat.mul a 4294967296) b) 4294967296) c) 4294967296) d) 4294967296) e) 4294967296) f) 4294967296) g) 4294967296) h
def C512 : Nat := 13407807929942597099574024998205846127479365820592393377723561443721764030073546976801874298166903427690031858186486050853753882811946569946433649006084096
theorem C512_eq : C512 = 256 ^ 64 := by decide +kernel
def fmixs (P : Nat) : Nat → Nat → Nat → Nat → Nat → Nat → Nat → Nat → Nat → Nat := fun n => Nat.rec (motive := fun _ => Nat → Nat → Nat → Nat → Nat → Nat → Nat → Nat → Nat) pck (fun n ih a b c d e f g h => force (Nat.mod (Nat.shiftRight P (Nat.mul 512 n)) C512) fun B => fmix ih a b c d e f g h B) n
theorem fmixs_eq (x : List (BitVec 8)) (M : Nat) (hx : x.length = 64 * M) : ∀ (n i : Nat), i + n = M → fmixs (nb x) n (mixs St.first x i).a.toNat (mixs St.first x i).b.toNat (mixs St.first x i).c.toNat (mixs St.first x i).d.toNat (mixs St.first x i).e.toNat (mixs St.first x i).f.toNat (mixs St.first x i).g.toNat (mixs St.first x i).h.toNat = pck (mixs St.first x M).a.toNat (mixs St.first x M).b.toNat (mixs St.first x M).c.toNat (mixs St.first x M).d.toNat (mixs St.first x M).e.toNat (mixs St.first x M).f.toNat (mixs St.first x M).g.toNat (mixs St.first x M).h.toNat := by
  intro n
  induction n with
  | zero =>
    intro i hi
    obtain rfl : i = M := by omega
    rfl
  | succ n ih =>
    intro i hi
    show force (Nat.mod (Nat.shiftRight (nb x) (Nat.mul 512 n)) C512) (fun B => fmix (fmixs (nb x) n) (mixs St.first x i).a.toNat (mixs St.first x i).b.toNat (mixs St.first x i).c.toNat (mixs St.first x i).d.toNat (mixs St.first x i).e.toNat (mixs St.first x i).f.toNat (mixs St.first x i).g.toNat (mixs St.first x i).h.toNat B) = _
    rw [force_eq]
    have hp := nb_part x (64 * i) 64 (by omega)
    have hB : Nat.mod (Nat.shiftRight (nb x) (Nat.mul 512 n)) C512 = nb ((x.drop (64 * i)).take 64) := by
      rw [← hp]
      show (nb x >>> (512 * n)) % C512 = _
      have h3 : (256 : Nat) ^ (x.length - 64 * i - 64) = 2 ^ (512 * n) := by
        rw [show (256 : Nat) = 2 ^ 8 from rfl, ← Nat.pow_mul]
        congr 1
        omega
      rw [C512_eq, Nat.shiftRight_eq_div_pow, h3]
    rw [hB, fmix_eq _ _ _ (by rw [List.length_take, List.length_drop]; omega)]
    exact ih (i + 1) (by omega)
theorem byt_nb (x : BitVec 32) : nb [byt x 0, byt x 1, byt x 2, byt x 3] = x.toNat := by
  have := x.isLt
  simp only [nb, List.foldl_cons, List.foldl_nil, byt, BitVec.toNat_ofNat]
  omega
theorem hsh_list (s : St) : hsh s 8 = [byt s.a 0, byt s.a 1, byt s.a 2, byt s.a 3] ++ ([byt s.b 0, byt s.b 1, byt s.b 2, byt s.b 3] ++ ([byt s.c 0, byt s.c 1, byt s.c 2, byt s.c 3] ++ ([byt s.d 0, byt s.d 1, byt s.d 2, byt s.d 3] ++ ([byt s.e 0, byt s.e 1, byt s.e 2, byt s.e 3] ++ ([byt s.f 0, byt s.f 1, byt s.f 2, byt s.f 3] ++ ([byt s.g 0, byt s.g 1, byt s.g 2, byt s.g 3] ++ [byt s.h 0, byt s.h 1, byt s.h 2, byt s.h 3])))))) := by kernel_rfl
theorem hsh_nb (s : St) : nb (hsh s 8) = pck s.a.toNat s.b.toNat s.c.toNat s.d.toNat s.e.toNat s.f.toNat s.g.toNat s.h.toNat := by
  rw [hsh_list]
  simp only [nb_append, byt_nb]
  unfold pck
  simp only [List.length_append, List.length_cons, List.length_nil, Nat.add_eq, Nat.mul_eq]
  omega
/- What is put behind. -/
theorem padArr_at (n : Nat) (j : Nat) : ∀ k, k ≤ 8 → (padArr n k)[j]? = if j < 72 then some (if padEnd n ≤ j ∧ j < padEnd n + k then cb n (j - padEnd n) else if j = 0 then 128 else 0) else none
  | 0, _ => by
    have he : 1 ≤ padEnd n := by unfold padEnd; omega
    simp only [padArr, List.getElem?_set, List.length_replicate, List.getElem?_replicate]
    by_cases h0 : 0 = j
    · subst h0; simp; omega
    · simp only [h0, if_false]
      by_cases hj : j < 72
      · simp only [hj, if_true]
        rw [if_neg (by omega), if_neg (fun h => h0 h.symm)]
      · simp [hj]
  | k + 1, hk => by
    have ih := padArr_at n j k (by omega)
    have hl := padArr_len n k
    have he : padEnd n ≤ 64 := by unfold padEnd; omega
    simp only [padArr, List.getElem?_set, hl]
    by_cases e : padEnd n + k = j
    · subst e
      rw [if_pos rfl, if_pos (by omega), if_pos (by omega), if_pos (by omega), show padEnd n + k - padEnd n = k by omega]
    · rw [if_neg e, ih]
      by_cases hj : j < 72
      · rw [if_pos hj, if_pos hj]
        by_cases h1 : padEnd n ≤ j ∧ j < padEnd n + k
        · rw [if_pos h1, if_pos (by omega)]
        · rw [if_neg h1, if_neg (show ¬(padEnd n ≤ j ∧ j < padEnd n + (k + 1)) by omega)]
      · rw [if_neg hj, if_neg hj]
theorem pad_list (n : Nat) : padOf n = [(128 : BitVec 8)] ++ (List.replicate (padEnd n - 1) 0 ++ [cb n 0, cb n 1, cb n 2, cb n 3, cb n 4, cb n 5, cb n 6, cb n 7]) := by
  have he : 1 ≤ padEnd n ∧ padEnd n ≤ 64 := by unfold padEnd; omega
  apply List.ext_getElem?
  intro j
  unfold padOf
  rw [List.getElem?_take, padArr_at n j 8 (Nat.le_refl _)]
  cases j with
  | zero =>
    rw [if_pos (by omega), if_pos (by omega), if_neg (by omega), if_pos rfl]
    rfl
  | succ j =>
    rw [List.getElem?_append_right (by simp), List.length_singleton, Nat.add_sub_cancel]
    by_cases h1 : j < padEnd n - 1
    · rw [if_pos (by omega), if_pos (by omega), if_neg (by omega), if_neg (by omega), List.getElem?_append_left (by simp; omega), List.getElem?_replicate, if_pos h1]
    · rw [List.getElem?_append_right (by simp; omega), List.length_replicate]
      by_cases h2 : j + 1 < padEnd n + 8
      · rw [if_pos h2, if_pos (by omega), if_pos (by omega)]
        obtain ⟨i, hi⟩ : ∃ i, i = j + 1 - padEnd n := ⟨_, rfl⟩
        rw [← hi, show j - (padEnd n - 1) = i by omega]
        have h3 : i < 8 := by omega
        match i, h3 with
        | 0, _ | 1, _ | 2, _ | 3, _ | 4, _ | 5, _ | 6, _ | 7, _ => rfl
      · rw [if_neg h2, List.getElem?_eq_none (by simp; omega)]
theorem nb_zeros (k : Nat) : nb (List.replicate k (0 : BitVec 8)) = 0 := by
  induction k with
  | zero => rfl
  | succ k ih => rw [List.replicate_succ, nb_cons, ih]; simp
theorem cb_nb (n : Nat) (h : n < 2 ^ 40) : nb [cb n 0, cb n 1, cb n 2, cb n 3, cb n 4, cb n 5, cb n 6, cb n 7] = 8 * n := by
  simp only [nb, List.foldl_cons, List.foldl_nil, cb, BitVec.toNat_ofNat]
  omega
theorem pad_nb (n : Nat) (h : n < 2 ^ 40) : nb (padOf n) = 128 * 256 ^ (padEnd n + 7) + 8 * n := by
  have he : 1 ≤ padEnd n := by unfold padEnd; omega
  rw [pad_list, nb_append, nb_append, nb_zeros, cb_nb n h]
  simp only [List.length_append, List.length_replicate, List.length_cons, List.length_nil, Nat.zero_mul, Nat.zero_add, Nat.reduceAdd]
  rw [show padEnd n - 1 + 8 = padEnd n + 7 by omega]
  rfl
theorem pad_len (n : Nat) : (padOf n).length = padEnd n + 8 := by
  have he : padEnd n ≤ 64 := by unfold padEnd; omega
  unfold padOf
  rw [List.length_take, padArr_len]; omega
/-- The sum of n bytes, out of their number. -/
def fsha (n M : Nat) : Nat := force (Nat.add (Nat.mul M (Nat.pow 256 (padEnd n + 8))) (Nat.add (Nat.mul 128 (Nat.pow 256 (padEnd n + 7))) (Nat.mul 8 n))) fun P => fmixs P (Nat.div (n + padEnd n + 8) 64) 1779033703 3144134277 1013904242 2773480762 1359893119 2600822924 528734635 1541459225
theorem fsha_eq (m : List (BitVec 8)) (h : m.length < 2 ^ 40) : nb (shaOf m) = fsha m.length (nb m) := by
  have h0 := rep_write rep_new m
  rw [List.nil_append] at h0
  have h2 := rep_write h0 (padOf (Dg.new.write m).len)
  rw [h0.len] at h2
  have hl : (m ++ padOf m.length).length = m.length + padEnd m.length + 8 := by rw [List.length_append, pad_len]; omega
  have hd : (m ++ padOf m.length).length = 64 * ((m.length + padEnd m.length + 8) / 64) := by rw [hl]; unfold padEnd; omega
  unfold shaOf Dg.sum
  rw [h0.len, h2.st, hsh_nb, hl]
  unfold fsha
  rw [force_eq]
  have hP : Nat.add (Nat.mul (nb m) (Nat.pow 256 (padEnd m.length + 8))) (Nat.add (Nat.mul 128 (Nat.pow 256 (padEnd m.length + 7))) (Nat.mul 8 m.length)) = nb (m ++ padOf m.length) := by
    rw [nb_append, pad_len, pad_nb m.length h]
    rfl
  rw [hP]
  exact (fmixs_eq (m ++ padOf m.length) _ hd _ 0 (Nat.zero_add _)).symm
end Go.Proofs.YthhnlemldpgbeaaDoor
namespace Go.Proofs.YthhnlemldpgbeaaDoor
set_option maxRecDepth 100000
open Go.RowKit
theorem kb_nat (n : Nat) : (kb (n : Int)).toNat = n % 256 := by unfold kb; rw [BitVec.toNat_ofInt]; omega
/-- The sum of a kind's byte and n bytes behind it. -/
def fkind (k n M : Nat) : Nat := fsha (Nat.add n 1) (Nat.add (Nat.mul k (Nat.pow 256 n)) M)
theorem fkind_eq (k : Nat) (hk : k < 256) (m : List (BitVec 8)) (h : m.length < 2 ^ 39) : nb (shaOf (kb (k : Int) :: m)) = fkind k m.length (nb m) := by
  rw [fsha_eq _ (by rw [List.length_cons]; omega), nb_cons, kb_nat, Nat.mod_eq_of_lt hk]
  rfl
end Go.Proofs.YthhnlemldpgbeaaDoor
namespace Go.Proofs.YthhnlemldpgbeaaDoor
set_option maxRecDepth 100000
open Go.RowKit
/-- A hash that begins with a byte, all others noughts. -/
def h1 (n : Nat) : List (BitVec 8) := BitVec.ofNat 8 n :: List.replicate 31 0
theorem h1_len (n : Nat) : (h1 n).length = 32 := rfl
theorem nd_nb (x y : List (BitVec 8)) (hx : x.length = 32) (hy : y.length = 32) : nb (nd x y) = fkind 1 64 (Nat.add (Nat.mul (nb x) 115792089237316195423570985008687907853269984665640564039457584007913129639936) (nb y)) := by
  have h := fkind_eq 1 (by omega) (x ++ y) (by simp [hx, hy])
  rw [nb_append, List.length_append, hx, hy] at h
  exact h
theorem h1_1 : nb (h1 1) = 452312848583266388373324160190187140051835877600158453279131187530910662656 := by decide +kernel
theorem h1_2 : nb (h1 2) = 904625697166532776746648320380374280103671755200316906558262375061821325312 := by decide +kernel
theorem h1_3 : nb (h1 3) = 1356938545749799165119972480570561420155507632800475359837393562592731987968 := by decide +kernel
theorem f_ac : fkind 1 64 (Nat.add (Nat.mul 452312848583266388373324160190187140051835877600158453279131187530910662656 115792089237316195423570985008687907853269984665640564039457584007913129639936) 1356938545749799165119972480570561420155507632800475359837393562592731987968) = 72437435713272741939851011676253789829600464415071389645116026516681933641349 := by decide +kernel
theorem f_ab : fkind 1 64 (Nat.add (Nat.mul 452312848583266388373324160190187140051835877600158453279131187530910662656 115792089237316195423570985008687907853269984665640564039457584007913129639936) 904625697166532776746648320380374280103671755200316906558262375061821325312) = 57585889166420491030984544798906426230122699249426569420874311608394639049462 := by decide +kernel
theorem f_abc : fkind 1 64 (Nat.add (Nat.mul 57585889166420491030984544798906426230122699249426569420874311608394639049462 115792089237316195423570985008687907853269984665640564039457584007913129639936) 1356938545749799165119972480570561420155507632800475359837393562592731987968) = 108422918308953104776602522296118849183271606830644489219383982241507428986961 := by decide +kernel
theorem nodes_differ : nd (h1 1) (h1 3) ≠ nd (nd (h1 1) (h1 2)) (h1 3) := by
  intro h
  have e := congrArg nb h
  rw [nd_nb _ _ (h1_len 1) (h1_len 3), nd_nb _ _ (nd_len _ _) (h1_len 3), nd_nb _ _ (h1_len 1) (h1_len 2), h1_1, h1_2, h1_3, f_ac, f_ab, f_abc] at e
  exact absurd e (by decide)
theorem spl_3 : spl 3 = 2 := spl_one (j := 1) (by decide) (by decide)
theorem spl_2 : spl 2 = 1 := spl_one (j := 0) (by decide) (by decide)
theorem spl_4 : spl 4 = 2 := spl_one (j := 1) (by decide) (by decide)
theorem spl_5 : spl 5 = 4 := spl_one (j := 2) (by decide) (by decide)
theorem sds_23 : sds 2 3 = [true] := by
  rw [sds_right (by decide) (by rw [spl_3]; decide), spl_3, sds_one (by decide)]
  rfl
theorem sds_05 : (sds 0 5).length = 3 := by
  rw [sds_left (by decide) (by rw [spl_5]; decide), spl_5, sds_left (by decide) (by rw [spl_4]; decide), spl_4, sds_left (by decide) (by rw [spl_2]; decide), spl_2, sds_one (by decide)]
  rfl
theorem ldt_23 (c x : List (BitVec 8)) : ldt c [x] (sds 2 3) = nd x c := by
  rw [sds_23]
  exact ldt_snoc c (P := []) (S := []) rfl x true
theorem fk_len_05 (w : World) : Calls Tryd.prog 10 #[.int .i64 0, .int .i64 5] w fun e w' => ∃ u, e = .returned u ∧ (Fk.eq (.int .i64 3)).f u w' ∧ Below w.heap.size w w' := by
  have h := fk_len_ok (i := 0) (n := 5) (by decide) (by decide) (w := w)
  rw [sds_05] at h
  exact h
theorem fk_lead_23 {c x y : List (BitVec 8)} (hc : c.length = 32) {v : Value} {w : World} (hv : (Fk.hc [x]).f v w) (hK : Tab w) (ey : Box (nd x c = y)) :
    Calls Tryd.prog 9 #[.agg (c.map V).toArray, .int .i64 2, .int .i64 3, v] w fun e w' => ∃ u, e = .returned u ∧ (Fk.eq (.tuple #[.agg (y.map V).toArray, .int .i64 0])).f u w' ∧ Below w.heap.size w w' :=
  fk_lead_ok (i := 2) (n := 3) hc (by decide) (by decide) hv (by simp) hK (by rw [sds_23]; rfl) ⟨by rw [ldt_23]; exact ey.out⟩
theorem fk_in_23 {c x rt : List (BitVec 8)} (hc : c.length = 32) (hrt : rt.length = 32) {v : Value} {w : World} (hv : (Fk.hc [x]).f v w) (hK : Tab w) (hne : nd x c ≠ rt) :
    Calls Tryd.prog 11 #[.agg (c.map V).toArray, .int .i64 2, .int .i64 3, v, .agg (rt.map V).toArray] w fun e w' => ∃ u, e = .returned u ∧ (Fk.eq (.int .i64 22)).f u w' ∧ Below w.heap.size w w' :=
  have hi : 2 < 3 := by decide
  have hn : 3 ≤ 1152921504606846976 := by decide
  have hP : [x].length ≤ 100000 := by simp
  have hr : (22 : Int) = if [x].length = (sds 2 3).length ∧ ldt c [x] (sds 2 3) = rt then 0 else 22 := by rw [ldt_23, if_neg (fun h => hne h.2)]
  fk_in_any hc hrt hi hn hv hP hK 22 hr
theorem st_bc1 {Q : Exit → Act → World → Prop} {o : Oper} {a : Act} {w : World} (x : Operand) (ho : o.op = .buildSlice 24 1 #[(0, x)]) {hh : List (BitVec 8)} (hl : hh.length = 32) (hx : a.eval x = .agg (hh.map V).toArray) : o.wp Tryd.prog a w (Ends a o.dst w (Fk.hc [hh]).f) Q := by
  refine st_run (v := .slice (some ⟨w.heap.size, 0, none⟩) 1 1) (w' := w.alloc (.cells (hh.map V).toArray 23)) ?_ ((Below.refl _ _).alloc (Nat.le_refl _) _) ⟨_, 1, w.heap.size, 0, rfl, Nat.le_refl _, hl_one (heap_alloc_new _ _) hl⟩
  have := Tryd.build24 hh hl w
  unfold execOp
  rw [ho]
  simp [hx, this]
theorem awake_any (w : World) (hK : Tab w) :
    Calls Tryd.prog 8 #[] w fun e w' => e = .returned (.bool true) ∧ Below w.heap.size w w' := by
  obtain ⟨p, ep⟩ : ∃ p, Box (nd (h1 1) (h1 2) = p) := ⟨_, ⟨rfl⟩⟩
  have hp : p.length = 32 := by rw [← ep.out]; exact nd_len _ _
  obtain ⟨q, eq⟩ : ∃ q, Box (nd p (h1 3) = q) := ⟨_, ⟨rfl⟩⟩
  have hq : q.length = 32 := by rw [← eq.out]; exact nd_len _ _
  have hne : nd (h1 1) (h1 3) ≠ q := by rw [← eq.out, ← ep.out]; exact nodes_differ
  go_enter Tryd.func8, Tryd.ntmps8
  refine code_both (fun f w1 => f.tmps.size = 41 ∧ f.defers = [] ∧ Below w.heap.size w (w1)) ⟨rfl, rfl, Below.refl _ _⟩ ?_
  rintro f0 w0 ⟨sz, df, bl⟩
  have bl0 := bl
  refine wp_seq ?_
  refine wp_all_seq [.eq (.bool false)] (by kernel_rfl) (by kernel_rfl) (by rw [sz]; kernel_rfl) (by kernel_rfl) ⟨fun hw ac u K => ?_, trivial⟩ ?_
  · exact st_assign (.const (.bool false)) rfl rfl
  intro f1 w1 A hb
  replace bl0 := bl
  have x0 : f1.eval (.tmp 0) = .bool false := A.has 0 0 rfl
  replace bl := (bl.trans (Below.mono hb bl.size))
  replace sz := A.size.trans sz
  replace df := A.defs.trans df
  clear A hb
  show Code.wp _ _ _ _ _
  refine wp_seq ?_
  refine wp_region_seq [.eq (.agg ((h1 1).map V).toArray), .eq (.agg ((h1 2).map V).toArray), .eq (.agg ((h1 3).map V).toArray)] (by kernel_rfl) (by kernel_rfl) (by rw [sz]; kernel_rfl) (by kernel_rfl) ⟨fun hw ac u K => ?_, fun hw ac u K => ?_, fun hw ac u K => ?_, trivial⟩ ?_
  · exact st_build 23 _ rfl (by kernel_rfl)
  · exact st_build 23 _ rfl (by kernel_rfl)
  · exact st_build 23 _ rfl (by kernel_rfl)
  intro f2 w2 A hb
  replace bl0 := bl
  replace x0 := (A.old 0 rfl).trans x0
  have x6 : f2.eval (.tmp 6) = .agg ((h1 1).map V).toArray := A.has 0 6 rfl
  have x7 : f2.eval (.tmp 7) = .agg ((h1 2).map V).toArray := A.has 1 7 rfl
  have x8 : f2.eval (.tmp 8) = .agg ((h1 3).map V).toArray := A.has 2 8 rfl
  replace bl := (bl.trans (Below.mono hb bl.size))
  replace sz := A.size.trans sz
  replace df := A.defs.trans df
  clear A hb
  refine wl_one (.nw w2.heap.size 23 ((hz).map V)) rfl 1 rfl (by rw [sz]; decide) (st_alloc23 rfl _ (Nat.le_refl _)) ?_
  intro f3 w3 df2 sz2 old2 new2 hb
  replace bl0 := bl
  replace x0 := (old2 0 rfl).trans x0
  replace x6 := (old2 6 rfl).trans x6
  replace x7 := (old2 7 rfl).trans x7
  replace x8 := (old2 8 rfl).trans x8
  have x1 : Fk.f (.nw w2.heap.size 23 ((hz).map V)) (f3.eval (.tmp 1)) w3 := new2
  replace bl := (bl.trans (Below.mono hb bl.size))
  replace sz := sz2.trans sz
  replace df := df2.trans df
  clear df2 sz2 old2 new2 hb
  obtain ⟨g1, hg1, e1, m1⟩ := x1
  have x1 := e1
  clear e1
  have hw1 : w.heap.size ≤ g1 := Nat.le_trans bl0.size hg1
  refine wl_one (.nw w3.heap.size 23 ((hz).map V)) rfl 2 rfl (by rw [sz]; decide) (st_alloc23 rfl _ (Nat.le_refl _)) ?_
  intro f4 w4 df2 sz2 old2 new2 hb
  replace bl0 := bl
  replace x0 := (old2 0 rfl).trans x0
  replace x6 := (old2 6 rfl).trans x6
  replace x7 := (old2 7 rfl).trans x7
  replace x8 := (old2 8 rfl).trans x8
  replace x1 := (old2 1 rfl).trans x1
  have x2 : Fk.f (.nw w3.heap.size 23 ((hz).map V)) (f4.eval (.tmp 2)) w4 := new2
  have lt_m1 := Ob.lt m1
  replace m1 := Ob.below m1 hb
  replace bl := (bl.trans (Below.mono hb bl.size))
  replace sz := sz2.trans sz
  replace df := df2.trans df
  clear df2 sz2 old2 new2 hb
  obtain ⟨g2, hg2, e2, m2⟩ := x2
  have x2 := e2
  clear e2
  have nm1_2 : g1 ≠ g2 := Nat.ne_of_lt (Nat.lt_of_lt_of_le lt_m1 hg2)
  have hw2 : w.heap.size ≤ g2 := Nat.le_trans bl0.size hg2
  refine wl_one (.nw w4.heap.size 23 ((hz).map V)) rfl 3 rfl (by rw [sz]; decide) (st_alloc23 rfl _ (Nat.le_refl _)) ?_
  intro f5 w5 df2 sz2 old2 new2 hb
  replace bl0 := bl
  replace x0 := (old2 0 rfl).trans x0
  replace x6 := (old2 6 rfl).trans x6
  replace x7 := (old2 7 rfl).trans x7
  replace x8 := (old2 8 rfl).trans x8
  replace x1 := (old2 1 rfl).trans x1
  replace x2 := (old2 2 rfl).trans x2
  have x3 : Fk.f (.nw w4.heap.size 23 ((hz).map V)) (f5.eval (.tmp 3)) w5 := new2
  have lt_m1 := Ob.lt m1
  replace m1 := Ob.below m1 hb
  have lt_m2 := Ob.lt m2
  replace m2 := Ob.below m2 hb
  replace bl := (bl.trans (Below.mono hb bl.size))
  replace sz := sz2.trans sz
  replace df := df2.trans df
  clear df2 sz2 old2 new2 hb
  obtain ⟨g3, hg3, e3, m3⟩ := x3
  have x3 := e3
  clear e3
  have nm1_3 : g1 ≠ g3 := Nat.ne_of_lt (Nat.lt_of_lt_of_le lt_m1 hg3)
  have nm2_3 : g2 ≠ g3 := Nat.ne_of_lt (Nat.lt_of_lt_of_le lt_m2 hg3)
  have hw3 : w.heap.size ≤ g3 := Nat.le_trans bl0.size hg3
  refine wl_store rfl (.tmp 1) (.tmp 6) rfl rfl (g1) (h1 1) (hz) x1 x6 m1 hz_len (h1_len 1) ?_
  replace m1 : Ob (w5.setRow g1 ((h1 1).map V : List Value).toArray) (g1) 23 ((h1 1).map V) := Ob.setRow m1 ((h1 1).map V)
  replace m2 : Ob (w5.setRow g1 ((h1 1).map V : List Value).toArray) (g2) 23 ((hz).map V) := Ob.setRow_other m2 _ nm1_2.symm
  replace m3 : Ob (w5.setRow g1 ((h1 1).map V : List Value).toArray) (g3) 23 ((hz).map V) := Ob.setRow_other m3 _ nm1_3.symm
  replace bl : Below w.heap.size w (w5.setRow g1 ((h1 1).map V : List Value).toArray) := bl.trans (below_setRow _ _ _ _ hw1)
  generalize w5.setRow g1 ((h1 1).map V : List Value).toArray = w6b at bl m1 m2 m3 ⊢
  clear x6
  refine wl_store rfl (.tmp 2) (.tmp 7) rfl rfl (g2) (h1 2) (hz) x2 x7 m2 hz_len (h1_len 2) ?_
  replace m1 : Ob (w6b.setRow g2 ((h1 2).map V : List Value).toArray) (g1) 23 ((h1 1).map V) := Ob.setRow_other m1 _ nm1_2
  replace m2 : Ob (w6b.setRow g2 ((h1 2).map V : List Value).toArray) (g2) 23 ((h1 2).map V) := Ob.setRow m2 ((h1 2).map V)
  replace m3 : Ob (w6b.setRow g2 ((h1 2).map V : List Value).toArray) (g3) 23 ((hz).map V) := Ob.setRow_other m3 _ nm2_3.symm
  replace bl : Below w.heap.size w (w6b.setRow g2 ((h1 2).map V : List Value).toArray) := bl.trans (below_setRow _ _ _ _ hw2)
  generalize w6b.setRow g2 ((h1 2).map V : List Value).toArray = w7b at bl m1 m2 m3 ⊢
  clear x7
  refine wl_store rfl (.tmp 3) (.tmp 8) rfl rfl (g3) (h1 3) (hz) x3 x8 m3 hz_len (h1_len 3) ?_
  replace m1 : Ob (w7b.setRow g3 ((h1 3).map V : List Value).toArray) (g1) 23 ((h1 1).map V) := Ob.setRow_other m1 _ nm1_3
  replace m2 : Ob (w7b.setRow g3 ((h1 3).map V : List Value).toArray) (g2) 23 ((h1 2).map V) := Ob.setRow_other m2 _ nm2_3
  replace m3 : Ob (w7b.setRow g3 ((h1 3).map V : List Value).toArray) (g3) 23 ((h1 3).map V) := Ob.setRow m3 ((h1 3).map V)
  replace bl : Below w.heap.size w (w7b.setRow g3 ((h1 3).map V : List Value).toArray) := bl.trans (below_setRow _ _ _ _ hw3)
  generalize w7b.setRow g3 ((h1 3).map V : List Value).toArray = w8b at bl m1 m2 m3 ⊢
  refine wpList_nil ?_
  clear x8
  show Code.wp _ _ _ _ _
  refine wp_seq ?_
  refine wp_region_late [.eq (.agg ((h1 3).map V).toArray), .eq (.agg ((h1 1).map V).toArray), .eq (.agg ((h1 2).map V).toArray), .eq (.agg ((p).map V).toArray), .hc ([p]), .eq (.tuple #[.agg ((q).map V).toArray, .int .i64 0]), .eq (.tuple #[.agg ((q).map V).toArray, .int .i64 0]), .eq (.agg ((q).map V).toArray), .eq (.int .i64 0), .nw w8b.heap.size 23 ((hz).map V)] 8 17 _ _ [11] Tryd.mixed (by kernel_rfl) (by kernel_rfl) (by kernel_rfl) (by kernel_rfl) (by kernel_rfl) rfl rfl (by kernel_rfl) rfl (by kernel_rfl) rfl (by rw [sz]; kernel_rfl) (by kernel_rfl) (fun ac u K => ⟨_, late_ext rfl (K.dep 6 9 rfl) rfl, rfl⟩) ⟨fun hw ac u K => ?_, fun hw ac u K => ?_, fun hw ac u K => ?_, fun hw ac u K => ?_, fun hw ac u K => ?_, fun hw ac u K => ?_, fun hw ac u K => ?_, fun hw ac u K => ?_, fun hw ac u K => ?_, fun hw ac u K => ?_, trivial⟩ ?_
  · exact st_load23 (.tmp 3) rfl (g3) (h1 3) ((K.old 3 rfl).trans x3) (h1_len 3) (Ob.below m3 K.grow)
  · exact st_load23 (.tmp 1) rfl (g1) (h1 1) ((K.old 1 rfl).trans x1) (h1_len 1) (Ob.below m1 K.grow)
  · exact st_load23 (.tmp 2) rfl (g2) (h1 2) ((K.old 2 rfl).trans x2) (h1_len 2) (Ob.below m2 K.grow)
  · exact st_call 21 (.func 21) _ _ #[.agg ((h1 1).map V).toArray, .agg ((h1 2).map V).toArray] rfl rfl (arg2 (K.dep 1 11 rfl) (K.dep 2 12 rfl)) Tryd.enter21 (fk_node (h1_len 1) (h1_len 2) (hK.below (bl.trans (Below.mono K.grow bl.size))) ep)
  · exact st_bc1 (.tmp 13) rfl hp (K.dep 3 13 rfl)
  · exact st_call 9 (.func 9) _ _ #[.agg ((h1 3).map V).toArray, .int .i64 2, .int .i64 3, ac.eval (.tmp 14)] rfl rfl (arg4 (K.dep 0 10 rfl) rfl rfl rfl) Tryd.enter9 (fk_lead_23 (h1_len 3) (K.dep 4 14 rfl) (hK.below (bl.trans (Below.mono K.grow bl.size))) eq)
  · exact st_move (.tmp 15) rfl (K.dep 5 15 rfl)
  · exact st_ext0 (.tmp 9) rfl (K.dep 6 9 rfl) rfl
  · exact st_ext1 (.tmp 9) rfl (K.dep 6 9 rfl) rfl
  · exact st_alloc23 rfl _ K.grow.size
  intro f9 w9 A hb
  replace bl0 := bl
  replace x0 := (A.old 0 rfl).trans x0
  replace x1 := (A.old 1 rfl).trans x1
  replace x2 := (A.old 2 rfl).trans x2
  replace x3 := (A.old 3 rfl).trans x3
  have x4 : Fk.f (.nw w8b.heap.size 23 ((hz).map V)) (f9.eval (.tmp 4)) w9 := A.has 9 4 rfl
  have x16 : f9.eval (.tmp 16) = .agg ((q).map V).toArray := A.has 7 16 rfl
  have x17 : f9.eval (.tmp 17) = .int .i64 0 := A.has 8 17 rfl
  have lt_m1 := Ob.lt m1
  replace m1 := Ob.below m1 hb
  have lt_m2 := Ob.lt m2
  replace m2 := Ob.below m2 hb
  have lt_m3 := Ob.lt m3
  replace m3 := Ob.below m3 hb
  replace bl := (bl.trans (Below.mono hb bl.size))
  replace sz := A.size.trans sz
  replace df := A.defs.trans df
  clear A hb
  obtain ⟨g4, hg4, e4, m4⟩ := x4
  have x4 := e4
  clear e4
  have nm1_4 : g1 ≠ g4 := Nat.ne_of_lt (Nat.lt_of_lt_of_le lt_m1 hg4)
  have nm2_4 : g2 ≠ g4 := Nat.ne_of_lt (Nat.lt_of_lt_of_le lt_m2 hg4)
  have nm3_4 : g3 ≠ g4 := Nat.ne_of_lt (Nat.lt_of_lt_of_le lt_m3 hg4)
  have hw4 : w.heap.size ≤ g4 := Nat.le_trans bl0.size hg4
  refine ⟨_, run_store23 (.tmp 4) (.tmp 16) rfl (g4) (q) (hz) x4 x16 m4 hz_len hq, ?_⟩
  replace m1 : Ob (w9.setRow g4 ((q).map V : List Value).toArray) (g1) 23 ((h1 1).map V) := Ob.setRow_other m1 _ nm1_4
  replace m2 : Ob (w9.setRow g4 ((q).map V : List Value).toArray) (g2) 23 ((h1 2).map V) := Ob.setRow_other m2 _ nm2_4
  replace m3 : Ob (w9.setRow g4 ((q).map V : List Value).toArray) (g3) 23 ((h1 3).map V) := Ob.setRow_other m3 _ nm3_4
  replace m4 : Ob (w9.setRow g4 ((q).map V : List Value).toArray) (g4) 23 ((q).map V) := Ob.setRow m4 ((q).map V)
  replace bl : Below w.heap.size w (w9.setRow g4 ((q).map V : List Value).toArray) := bl.trans (below_setRow _ _ _ _ hw4)
  generalize w9.setRow g4 ((q).map V : List Value).toArray = w10b at bl m1 m2 m3 m4 ⊢
  clear x16
  refine wl_one (.eq (.int .i64 0)) rfl 5 rfl (by rw [sz]; decide) (st_assign (.tmp 17) rfl x17) ?_
  intro f11 w11 df2 sz2 old2 new2 hb
  replace bl0 := bl
  replace x0 := (old2 0 rfl).trans x0
  replace x1 := (old2 1 rfl).trans x1
  replace x2 := (old2 2 rfl).trans x2
  replace x3 := (old2 3 rfl).trans x3
  replace x4 := (old2 4 rfl).trans x4
  replace x17 := (old2 17 rfl).trans x17
  have x5 : f11.eval (.tmp 5) = .int .i64 0 := new2
  have lt_m1 := Ob.lt m1
  replace m1 := Ob.below m1 hb
  have lt_m2 := Ob.lt m2
  replace m2 := Ob.below m2 hb
  have lt_m3 := Ob.lt m3
  replace m3 := Ob.below m3 hb
  have lt_m4 := Ob.lt m4
  replace m4 := Ob.below m4 hb
  replace bl := (bl.trans (Below.mono hb bl.size))
  replace sz := sz2.trans sz
  replace df := df2.trans df
  clear df2 sz2 old2 new2 hb
  refine wpList_nil ?_
  clear x17
  show Code.wp _ _ _ _ _
  refine wp_seq ?_
  refine wp_all [.eq (.int .i64 0), .eq (.bool true), .eq (.bool true), .eq (.agg ((q).map V).toArray), .eq (.agg ((h1 1).map V).toArray), .eq (.agg ((h1 2).map V).toArray), .eq (.agg ((p).map V).toArray), .eq (.agg ((h1 3).map V).toArray), .eq (.agg ((q).map V).toArray), .eq (.bool true), .eq (.bool true), .eq (.bool true), .eq (.agg ((h1 3).map V).toArray), .eq (.agg ((h1 1).map V).toArray), .hc ([h1 1]), .eq (.agg ((q).map V).toArray), .eq (.int .i64 22), .eq (.bool true), .eq (.bool true), .eq (.bool true), .eq (.int .i64 3), .eq (.bool true), .eq (.bool true), .eq (.bool true)] Tryd.mixed (by kernel_rfl) (by kernel_rfl) (by rw [sz]; kernel_rfl) (by kernel_rfl) ⟨fun hw ac u K => ?_, fun hw ac u K => ?_, fun hw ac u K => ?_, fun hw ac u K => ?_, fun hw ac u K => ?_, fun hw ac u K => ?_, fun hw ac u K => ?_, fun hw ac u K => ?_, fun hw ac u K => ?_, fun hw ac u K => ?_, fun hw ac u K => ?_, fun hw ac u K => ?_, fun hw ac u K => ?_, fun hw ac u K => ?_, fun hw ac u K => ?_, fun hw ac u K => ?_, fun hw ac u K => ?_, fun hw ac u K => ?_, fun hw ac u K => ?_, fun hw ac u K => ?_, fun hw ac u K => ?_, fun hw ac u K => ?_, fun hw ac u K => ?_, fun hw ac u K => ?_, trivial⟩ ?_
  · exact st_move (.tmp 5) rfl ((K.old 5 rfl).trans x5)
  · exact st_eqi 28 (.tmp 18) (.const (.int .i64 0)) rfl .i64 (0) (0) (K.dep 0 18 rfl) rfl _ (by rfl)
  · exact st_move (.tmp 19) rfl (K.dep 1 19 rfl)
  · exact st_load23 (.tmp 4) rfl (g4) (q) ((K.old 4 rfl).trans x4) hq (Ob.below m4 K.grow)
  · exact st_load23 (.tmp 1) rfl (g1) (h1 1) ((K.old 1 rfl).trans x1) (h1_len 1) (Ob.below m1 K.grow)
  · exact st_load23 (.tmp 2) rfl (g2) (h1 2) ((K.old 2 rfl).trans x2) (h1_len 2) (Ob.below m2 K.grow)
  · exact st_call 21 (.func 21) _ _ #[.agg ((h1 1).map V).toArray, .agg ((h1 2).map V).toArray] rfl rfl (arg2 (K.dep 4 22 rfl) (K.dep 5 23 rfl)) Tryd.enter21 (fk_node (h1_len 1) (h1_len 2) (hK.below (bl.trans (Below.mono K.grow bl.size))) ep)
  · exact st_load23 (.tmp 3) rfl (g3) (h1 3) ((K.old 3 rfl).trans x3) (h1_len 3) (Ob.below m3 K.grow)
  · exact st_call 21 (.func 21) _ _ #[.agg ((p).map V).toArray, .agg ((h1 3).map V).toArray] rfl rfl (arg2 (K.dep 6 24 rfl) (K.dep 7 25 rfl)) Tryd.enter21 (fk_node hp (h1_len 3) (hK.below (bl.trans (Below.mono K.grow bl.size))) eq)
  · exact st_eqh (.tmp 21) (.tmp 26) rfl (q) (q) hq hq (K.dep 3 21 rfl) (K.dep 8 26 rfl) _ (by simp)
  · exact st_pick_t (.tmp 20) (.tmp 27) (.const (.bool false)) rfl (K.dep 2 20 rfl) (K.dep 9 27 rfl)
  · exact st_move (.tmp 28) rfl (K.dep 10 28 rfl)
  · exact st_load23 (.tmp 3) rfl (g3) (h1 3) ((K.old 3 rfl).trans x3) (h1_len 3) (Ob.below m3 K.grow)
  · exact st_load23 (.tmp 1) rfl (g1) (h1 1) ((K.old 1 rfl).trans x1) (h1_len 1) (Ob.below m1 K.grow)
  · exact st_bc1 (.tmp 31) rfl (h1_len 1) (K.dep 13 31 rfl)
  · exact st_load23 (.tmp 4) rfl (g4) (q) ((K.old 4 rfl).trans x4) hq (Ob.below m4 K.grow)
  · exact st_call 11 (.func 11) _ _ #[.agg ((h1 3).map V).toArray, .int .i64 2, .int .i64 3, ac.eval (.tmp 32), .agg ((q).map V).toArray] rfl rfl (arg5 (K.dep 12 30 rfl) rfl rfl rfl (K.dep 15 33 rfl)) Tryd.enter11 (fk_in_23 (h1_len 3) hq (K.dep 14 32 rfl) (hK.below (bl.trans (Below.mono K.grow bl.size))) hne)
  · exact st_eqi 28 (.tmp 34) (.const (.int .i64 22)) rfl .i64 (22) (22) (K.dep 16 34 rfl) rfl _ (by rfl)
  · exact st_pick_t (.tmp 29) (.tmp 35) (.const (.bool false)) rfl (K.dep 11 29 rfl) (K.dep 17 35 rfl)
  · exact st_move (.tmp 36) rfl (K.dep 18 36 rfl)
  · exact st_call 10 (.func 10) _ _ #[.int .i64 0, .int .i64 5] rfl rfl (arg2 rfl rfl) Tryd.enter10 (fk_len_05 _)
  · exact st_eqi 3 (.tmp 38) (.const (.int .i64 3)) rfl .i64 (3) (3) (K.dep 20 38 rfl) rfl _ (by rfl)
  · exact st_pick_t (.tmp 37) (.tmp 39) (.const (.bool false)) rfl (K.dep 19 37 rfl) (K.dep 21 39 rfl)
  · exact st_assign (.tmp 40) rfl (K.dep 22 40 rfl)
  intro f12 w12 A hb
  replace bl0 := bl
  clear x0
  replace x1 := (A.old 1 rfl).trans x1
  replace x2 := (A.old 2 rfl).trans x2
  replace x3 := (A.old 3 rfl).trans x3
  replace x4 := (A.old 4 rfl).trans x4
  replace x5 := (A.old 5 rfl).trans x5
  have x0 : f12.eval (.tmp 0) = .bool true := A.has 23 0 rfl
  have lt_m1 := Ob.lt m1
  replace m1 := Ob.below m1 hb
  have lt_m2 := Ob.lt m2
  replace m2 := Ob.below m2 hb
  have lt_m3 := Ob.lt m3
  replace m3 := Ob.below m3 hb
  have lt_m4 := Ob.lt m4
  replace m4 := Ob.below m4 hb
  replace bl := (bl.trans (Below.mono hb bl.size))
  replace sz := A.size.trans sz
  replace df := A.defs.trans df
  clear A hb
  clear x5
  show Code.wp _ _ _ _ _
  refine wp_ret ?_
  repeat (first | with_reducible refine then_ret ?_ | with_reducible refine block_ret ?_)
  exact bodyPost_ret (v := .bool true) (ret_slot rfl f12 _ x0 _ _) df ⟨rfl, bl⟩
end Go.Proofs.YthhnlemldpgbeaaDoor
namespace Go.Proofs.YthhnlemldpgbeaaDoor
set_option maxRecDepth 100000
open Go.RowKit
theorem mpath_len (n : Nat) : ∀ (l : List (List (BitVec 8))) (i : Nat), l.length = n → (mpath l i).length ≤ n := by
  induction n using Nat.strongRecOn with
  | ind n ih =>
    intro l i hn
    by_cases h1 : l.length ≤ 1
    · rw [mpath_one h1]; exact Nat.zero_le _
    · have h2 : 2 ≤ l.length := by omega
      have hs := spl_lt h2
      have hp := spl_pos l.length
      by_cases hi : i < spl l.length
      · have := ih (spl l.length) (by omega) (l.take (spl l.length)) i (by rw [List.length_take]; omega)
        rw [mpath_left h2 hi, List.length_append, List.length_singleton]; omega
      · have := ih (l.length - spl l.length) (by omega) (l.drop (spl l.length)) (i - spl l.length) (by rw [List.length_drop])
        rw [mpath_right h2 hi, List.length_append, List.length_singleton]; omega
theorem path_in (l : List (List (BitVec 8))) (i : Nat) (hi : i < l.length) : ∀ (w : World) (v : Value), l.length ≤ 1000 → (Fk.hc l).f v w → Tab w →
    Calls Tryd.prog 33 #[v, .int .i64 ((i : Nat) : Int)] w fun e w' => ∃ u, e = .returned u ∧ (Fk.ow w.heap.size (mpath l i)).f u w' ∧ Below w.heap.size w w' := by
  suffices H : ∀ (n : Nat) (l : List (List (BitVec 8))), l.length = n → ∀ (i : Nat), i < l.length → ∀ (w : World) (v : Value), l.length ≤ 1000 → (Fk.hc l).f v w → Tab w →
    Calls Tryd.prog 33 #[v, .int .i64 ((i : Nat) : Int)] w fun e w' => ∃ u, e = .returned u ∧ (Fk.ow w.heap.size (mpath l i)).f u w' ∧ Below w.heap.size w w' from H _ l rfl i hi
  clear hi i l
  intro n
  induction n using Nat.strongRecOn with
  | ind n ih0 =>
  intro l hn i hi w v h1000 hv hK
  have ih : ∀ (l' : List (List (BitVec 8))), l'.length < n → ∀ (i : Nat), i < l'.length → ∀ (w : World) (v : Value), l'.length ≤ 1000 → (Fk.hc l').f v w → Tab w →
    Calls Tryd.prog 33 #[v, .int .i64 ((i : Nat) : Int)] w fun e w' => ∃ u, e = .returned u ∧ (Fk.ow w.heap.size (mpath l' i)).f u w' ∧ Below w.heap.size w w' := fun l' hl' => ih0 _ hl' l' rfl
  clear ih0
  by_cases h1 : l.length = 1
  · skip
    go_enter Tryd.func33, Tryd.ntmps33
    refine code_both (fun f w1 => f.tmps.size = 39 ∧ f.defers = [] ∧ f.eval (.tmp 0) = v ∧ f.eval (.tmp 1) = .int .i64 ((i : Nat) : Int) ∧ Below w.heap.size w (w1)) ⟨rfl, rfl, rfl, rfl, Below.refl _ _⟩ ?_
    rintro f0 w0 ⟨sz, df, x0, x1, bl⟩
    have bl0 := bl
    refine wp_seq ?_
    refine wp_all_seq [.eq (.slice none 0 0)] (by kernel_rfl) (by kernel_rfl) (by rw [sz]; kernel_rfl) (by kernel_rfl) ⟨fun hw ac u K => ?_, trivial⟩ ?_
    · exact st_assign (.const (.slice none 0 0)) rfl rfl
    intro f1 w1 A hb
    replace bl0 := bl
    replace x0 := (A.old 0 rfl).trans x0
    replace x1 := (A.old 1 rfl).trans x1
    have x4 : f1.eval (.tmp 4) = .slice none 0 0 := A.has 0 4 rfl
    replace bl := (bl.trans (Below.mono hb bl.size))
    replace sz := A.size.trans sz
    replace df := A.defs.trans df
    clear A hb
    show Code.wp _ _ _ _ _
    refine wp_seq ?_
    refine wp_seq ?_
    refine wp_all_seq [.eq (v), .eq (.int .i64 (((l).length : Nat) : Int)), .eq (.bool true)] (by kernel_rfl) (by kernel_rfl) (by rw [sz]; kernel_rfl) (by kernel_rfl) ⟨fun hw ac u K => ?_, fun hw ac u K => ?_, fun hw ac u K => ?_, trivial⟩ ?_
    · exact st_move (.tmp 0) rfl ((K.old 0 rfl).trans x0)
    · exact st_lenc (.tmp 6) rfl ((l).length) rfl (fk_val (K.dep 0 6 rfl) (Fk.mono _ _ _ _ hv (bl.trans (Below.mono K.grow bl.size))))
    · exact st_eqi 3 (.tmp 7) (.const (.int .i64 1)) rfl .i64 ((((l).length : Nat) : Int)) (1) (K.dep 1 7 rfl) rfl _ (by rw [eq_comm, decide_eq_true_iff]; omega)
    intro f2 w2 A hb
    replace bl0 := bl
    replace x0 := (A.old 0 rfl).trans x0
    replace x1 := (A.old 1 rfl).trans x1
    replace x4 := (A.old 4 rfl).trans x4
    have x8 : f2.eval (.tmp 8) = .bool true := A.has 2 8 rfl
    replace bl := (bl.trans (Below.mono hb bl.size))
    replace sz := A.size.trans sz
    replace df := A.defs.trans df
    clear A hb
    show Code.wp _ _ _ _ _
    refine wp_cond_true x8 ?_
    refine wp_seq ?_
    refine wp_all_seq [.eq (.slice none 0 0)] (by kernel_rfl) (by kernel_rfl) (by rw [sz]; kernel_rfl) (by kernel_rfl) ⟨fun hw ac u K => ?_, trivial⟩ ?_
    · exact st_assign (.const (.slice none 0 0)) rfl rfl
    intro f3 w3 A hb
    replace bl0 := bl
    replace x0 := (A.old 0 rfl).trans x0
    replace x1 := (A.old 1 rfl).trans x1
    clear x4
    replace x8 := (A.old 8 rfl).trans x8
    have x4 : f3.eval (.tmp 4) = .slice none 0 0 := A.has 0 4 rfl
    replace bl := (bl.trans (Below.mono hb bl.size))
    replace sz := A.size.trans sz
    replace df := A.defs.trans df
    clear A hb
    show Code.wp _ _ _ _ _
    refine wp_ret ?_
    repeat (first | with_reducible refine then_ret ?_ | with_reducible refine block_ret ?_)
    rw [mpath_one (by omega)]
    exact bodyPost_ret (v := .slice none 0 0) (ret_slot rfl f3 _ x4 _ _) df ⟨_, rfl, ow_nil _ _, bl⟩
  · skip
    have h2 : 2 ≤ l.length := by omega
    obtain ⟨k, hk⟩ : ∃ k, spl l.length = k := ⟨_, rfl⟩
    have hk1 : k < l.length := by rw [← hk]; exact spl_lt h2
    have hk2 : 1 ≤ k := by rw [← hk]; exact spl_pos _
    obtain ⟨y1, ey1⟩ : ∃ p, Box (mroot (l.take k) = p) := ⟨_, ⟨rfl⟩⟩
    obtain ⟨y2, ey2⟩ : ∃ p, Box (mroot (l.drop k) = p) := ⟨_, ⟨rfl⟩⟩
    have hy1 : y1.length = 32 := by rw [← ey1.out]; exact mroot_len (fun x hx => hc_len hv x (List.mem_of_mem_take hx))
    have hy2 : y2.length = 32 := by rw [← ey2.out]; exact mroot_len (fun x hx => hc_len hv x (List.mem_of_mem_drop hx))
    go_enter Tryd.func33, Tryd.ntmps33
    refine code_both (fun f w1 => f.tmps.size = 39 ∧ f.defers = [] ∧ f.eval (.tmp 0) = v ∧ f.eval (.tmp 1) = .int .i64 ((i : Nat) : Int) ∧ Below w.heap.size w (w1)) ⟨rfl, rfl, rfl, rfl, Below.refl _ _⟩ ?_
    rintro f0 w0 ⟨sz, df, x0, x1, bl⟩
    have bl0 := bl
    refine wp_seq ?_
    refine wp_all_seq [.eq (.slice none 0 0)] (by kernel_rfl) (by kernel_rfl) (by rw [sz]; kernel_rfl) (by kernel_rfl) ⟨fun hw ac u K => ?_, trivial⟩ ?_
    · exact st_assign (.const (.slice none 0 0)) rfl rfl
    intro f1 w1 A hb
    replace bl0 := bl
    replace x0 := (A.old 0 rfl).trans x0
    replace x1 := (A.old 1 rfl).trans x1
    have x4 : f1.eval (.tmp 4) = .slice none 0 0 := A.has 0 4 rfl
    replace bl := (bl.trans (Below.mono hb bl.size))
    replace sz := A.size.trans sz
    replace df := A.defs.trans df
    clear A hb
    show Code.wp _ _ _ _ _
    refine wp_seq ?_
    refine wp_seq ?_
    refine wp_all_seq [.eq (v), .eq (.int .i64 (((l).length : Nat) : Int)), .eq (.bool false)] (by kernel_rfl) (by kernel_rfl) (by rw [sz]; kernel_rfl) (by kernel_rfl) ⟨fun hw ac u K => ?_, fun hw ac u K => ?_, fun hw ac u K => ?_, trivial⟩ ?_
    · exact st_move (.tmp 0) rfl ((K.old 0 rfl).trans x0)
    · exact st_lenc (.tmp 6) rfl ((l).length) rfl (fk_val (K.dep 0 6 rfl) (Fk.mono _ _ _ _ hv (bl.trans (Below.mono K.grow bl.size))))
    · exact st_eqi 3 (.tmp 7) (.const (.int .i64 1)) rfl .i64 ((((l).length : Nat) : Int)) (1) (K.dep 1 7 rfl) rfl _ (by rw [eq_comm, decide_eq_false_iff_not]; omega)
    intro f2 w2 A hb
    replace bl0 := bl
    replace x0 := (A.old 0 rfl).trans x0
    replace x1 := (A.old 1 rfl).trans x1
    replace x4 := (A.old 4 rfl).trans x4
    have x8 : f2.eval (.tmp 8) = .bool false := A.has 2 8 rfl
    replace bl := (bl.trans (Below.mono hb bl.size))
    replace sz := A.size.trans sz
    replace df := A.defs.trans df
    clear A hb
    show Code.wp _ _ _ _ _
    refine wp_cond_false x8 ?_
    refine wp_skip ?_
    show Code.wp _ _ _ _ _
    refine wp_seq ?_
    refine wp_all_seq [.eq (v), .eq (.int .i64 (((l).length : Nat) : Int)), .eq (.int .i64 ((k : Nat) : Int)), .eq (.int .i64 ((k : Nat) : Int))] (by kernel_rfl) (by kernel_rfl) (by rw [sz]; kernel_rfl) (by kernel_rfl) ⟨fun hw ac u K => ?_, fun hw ac u K => ?_, fun hw ac u K => ?_, fun hw ac u K => ?_, trivial⟩ ?_
    · exact st_move (.tmp 0) rfl ((K.old 0 rfl).trans x0)
    · exact st_lenc (.tmp 9) rfl ((l).length) rfl (fk_val (K.dep 0 9 rfl) (Fk.mono _ _ _ _ hv (bl.trans (Below.mono K.grow bl.size))))
    · exact st_call 32 (.func 32) _ _ #[.int .i64 (((l).length : Nat) : Int)] rfl rfl (one_arg (K.dep 1 10 rfl)) Tryd.enter32 (by rw [← hk]; exact fk_of (split_hi l.length (by omega) (by omega) _))
    · exact st_assign (.tmp 11) rfl (K.dep 2 11 rfl)
    intro f3 w3 A hb
    replace bl0 := bl
    replace x0 := (A.old 0 rfl).trans x0
    replace x1 := (A.old 1 rfl).trans x1
    replace x4 := (A.old 4 rfl).trans x4
    replace x8 := (A.old 8 rfl).trans x8
    have x5 : f3.eval (.tmp 5) = .int .i64 ((k : Nat) : Int) := A.has 3 5 rfl
    replace bl := (bl.trans (Below.mono hb bl.size))
    replace sz := A.size.trans sz
    replace df := A.defs.trans df
    clear A hb
    show Code.wp _ _ _ _ _
    refine wp_seq ?_
    refine wp_seq ?_
    by_cases hik : i < k
    rotate_left
    · skip
      have hl1 := mpath_len _ (l.drop k) (i - k) rfl
      rw [List.length_drop] at hl1
      refine wp_all_seq [.eq (.int .i64 ((i : Nat) : Int)), .eq (.int .i64 ((k : Nat) : Int)), .eq (.bool false)] (by kernel_rfl) (by kernel_rfl) (by rw [sz]; kernel_rfl) (by kernel_rfl) ⟨fun hw ac u K => ?_, fun hw ac u K => ?_, fun hw ac u K => ?_, trivial⟩ ?_
      · exact st_move (.tmp 1) rfl ((K.old 1 rfl).trans x1)
      · exact st_move (.tmp 5) rfl ((K.old 5 rfl).trans x5)
      · exact st_lss 3 (.tmp 12) (.tmp 13) rfl .i64 (((i : Nat) : Int)) (((k : Nat) : Int)) (K.dep 0 12 rfl) (K.dep 1 13 rfl) _ (by first | (simp; done) | (simp; omega))
      intro f4 w4 A hb
      replace bl0 := bl
      replace x0 := (A.old 0 rfl).trans x0
      replace x1 := (A.old 1 rfl).trans x1
      replace x4 := (A.old 4 rfl).trans x4
      replace x8 := (A.old 8 rfl).trans x8
      replace x5 := (A.old 5 rfl).trans x5
      have x14 : f4.eval (.tmp 14) = .bool false := A.has 2 14 rfl
      replace bl := (bl.trans (Below.mono hb bl.size))
      replace sz := A.size.trans sz
      replace df := A.defs.trans df
      clear A hb
      show Code.wp _ _ _ _ _
      refine wp_cond_false x14 ?_
      refine wp_skip ?_
      show Code.wp _ _ _ _ _
      refine wp_seq ?_
      refine wp_region_tail [.eq (v), .eq (.int .i64 ((k : Nat) : Int)), .hc ((l).drop (k)), .eq (.int .i64 ((i : Nat) : Int)), .eq (.int .i64 ((k : Nat) : Int)), .eq (.int .i64 ((i - k : Nat) : Int)), .ow w.heap.size (mpath (l.drop k) (i - k)), .eq (v), .eq (.int .i64 ((k : Nat) : Int)), .hc ((l).take (k)), .eq (.agg ((y1).map V).toArray), .hs ([y1])] [12, 13] Tryd.mixed (by kernel_rfl) (by kernel_rfl) (by kernel_rfl) (by kernel_rfl) (by rw [sz]; kernel_rfl) (by kernel_rfl) ⟨fun hw ac u K => ?_, fun hw ac u K => ?_, fun hw ac u K => ?_, fun hw ac u K => ?_, fun hw ac u K => ?_, fun hw ac u K => ?_, fun hw ac u K => ?_, fun hw ac u K => ?_, fun hw ac u K => ?_, fun hw ac u K => ?_, fun hw ac u K => ?_, fun hw ac u K => ?_, trivial⟩ ?_
      · exact st_move (.tmp 0) rfl ((K.old 0 rfl).trans x0)
      · exact st_move (.tmp 5) rfl ((K.old 5 rfl).trans x5)
      · exact st_restc (.tmp 26) (.tmp 27) rfl (fk_val (K.dep 0 26 rfl) (Fk.mono _ _ _ _ hv (bl.trans (Below.mono K.grow bl.size)))) (k) (K.dep 1 27 rfl) (by omega)
      · exact st_move (.tmp 1) rfl ((K.old 1 rfl).trans x1)
      · exact st_move (.tmp 5) rfl ((K.old 5 rfl).trans x5)
      · exact st_sub (.tmp 29) (.tmp 30) rfl (i) (k) (i - k) (K.dep 3 29 rfl) (K.dep 4 30 rfl) (by omega) (by omega)
      · exact st_call 33 (.func 33) _ _ #[ac.eval (.tmp 28), .int .i64 ((i - k : Nat) : Int)] rfl rfl (arg2 rfl (K.dep 5 31 rfl)) Tryd.enter33 (fk_ow (bl.trans (Below.mono K.grow bl.size)).size (ih (l.drop k) (by rw [List.length_drop]; omega) (i - k) (by rw [List.length_drop]; omega) _ _ (by rw [List.length_drop]; omega) (K.dep 2 28 rfl) (hK.below (bl.trans (Below.mono K.grow bl.size)))))
      · exact st_move (.tmp 0) rfl ((K.old 0 rfl).trans x0)
      · exact st_move (.tmp 5) rfl ((K.old 5 rfl).trans x5)
      · exact st_cuth (.tmp 33) (.tmp 34) rfl (fk_val (K.dep 7 33 rfl) (Fk.mono _ _ _ _ hv (bl.trans (Below.mono K.grow bl.size)))) (k) (K.dep 8 34 rfl) (by omega)
      · exact st_call 18 (.func 18) _ _ #[ac.eval (.tmp 35)] rfl rfl (one_arg rfl) Tryd.enter18 (fk_of (root_any (l.take k) _ _ (by rw [List.length_take]; omega) (K.dep 9 35 rfl) (hK.below (bl.trans (Below.mono K.grow bl.size))) ey1))
      · exact st_bh1 (.tmp 36) rfl hy1 (K.dep 10 36 rfl)
      intro f5 w5 A hb
      replace bl0 := bl
      replace x0 := (A.old 0 rfl).trans x0
      replace x1 := (A.old 1 rfl).trans x1
      replace x4 := (A.old 4 rfl).trans x4
      replace x8 := (A.old 8 rfl).trans x8
      replace x5 := (A.old 5 rfl).trans x5
      replace x14 := (A.old 14 rfl).trans x14
      have x32 : Fk.f (.ow w.heap.size (mpath (l.drop k) (i - k))) (f5.eval (.tmp 32)) w5 := A.has 6 32 rfl
      have x37 : Fk.f (.hs ([y1])) (f5.eval (.tmp 37)) w5 := A.has 11 37 rfl
      replace bl := (bl.trans (Below.mono hb bl.size))
      replace sz := A.size.trans sz
      replace df := A.defs.trans df
      clear A hb
      refine wl_append rfl (.tmp 32) (.tmp 37) rfl 38 rfl (by rw [sz]; decide) x32 x37 bl (by omega) ?_
      intro f6 w6 df2 sz2 old2 new2 bl2
      clear x32
      clear x37
      replace x0 := (old2 0 rfl).trans x0
      replace x1 := (old2 1 rfl).trans x1
      replace x4 := (old2 4 rfl).trans x4
      replace x8 := (old2 8 rfl).trans x8
      replace x5 := (old2 5 rfl).trans x5
      replace x14 := (old2 14 rfl).trans x14
      have x38 : Fk.f (.ow w.heap.size (mpath (l.drop k) (i - k) ++ [y1])) (f6.eval (.tmp 38)) w6 := new2
      replace bl := bl2
      replace bl0 := bl
      replace sz := sz2.trans sz
      replace df := df2.trans df
      clear df2 sz2 old2 new2 bl2
      refine wl_one (.ow w.heap.size (mpath (l.drop k) (i - k) ++ [y1])) rfl 4 rfl (by rw [sz]; decide) (st_assign (.tmp 38) rfl x38) ?_
      intro f7 w7 df2 sz2 old2 new2 hb
      replace bl0 := bl
      replace x0 := (old2 0 rfl).trans x0
      replace x1 := (old2 1 rfl).trans x1
      clear x4
      replace x8 := (old2 8 rfl).trans x8
      replace x5 := (old2 5 rfl).trans x5
      replace x14 := (old2 14 rfl).trans x14
      replace x38 := f_at (old2 38 rfl) (Fk.mono _ _ _ _ x38 hb)
      have x4 : Fk.f (.ow w.heap.size (mpath (l.drop k) (i - k) ++ [y1])) (f7.eval (.tmp 4)) w7 := new2
      replace bl := (bl.trans (Below.mono hb bl.size))
      replace sz := sz2.trans sz
      replace df := df2.trans df
      clear df2 sz2 old2 new2 hb
      refine wpList_nil ?_
      clear x38
      show Code.wp _ _ _ _ _
      refine wp_ret ?_
      repeat (first | with_reducible refine then_ret ?_ | with_reducible refine block_ret ?_)
      rw [mpath_right h2 (by rw [hk]; exact hik), hk, ey1.out]
      exact bodyPost_ret (v := f7.eval (.tmp 4)) (ret_slot rfl f7 _ rfl _ _) df ⟨_, rfl, x4, bl⟩
    have hl1 := mpath_len _ (l.take k) i rfl
    rw [List.length_take] at hl1
    refine wp_all_seq [.eq (.int .i64 ((i : Nat) : Int)), .eq (.int .i64 ((k : Nat) : Int)), .eq (.bool true)] (by kernel_rfl) (by kernel_rfl) (by rw [sz]; kernel_rfl) (by kernel_rfl) ⟨fun hw ac u K => ?_, fun hw ac u K => ?_, fun hw ac u K => ?_, trivial⟩ ?_
    · exact st_move (.tmp 1) rfl ((K.old 1 rfl).trans x1)
    · exact st_move (.tmp 5) rfl ((K.old 5 rfl).trans x5)
    · exact st_lss 3 (.tmp 12) (.tmp 13) rfl .i64 (((i : Nat) : Int)) (((k : Nat) : Int)) (K.dep 0 12 rfl) (K.dep 1 13 rfl) _ (by first | (simp; done) | (simp; omega))
    intro f4 w4 A hb
    replace bl0 := bl
    replace x0 := (A.old 0 rfl).trans x0
    replace x1 := (A.old 1 rfl).trans x1
    replace x4 := (A.old 4 rfl).trans x4
    replace x8 := (A.old 8 rfl).trans x8
    replace x5 := (A.old 5 rfl).trans x5
    have x14 : f4.eval (.tmp 14) = .bool true := A.has 2 14 rfl
    replace bl := (bl.trans (Below.mono hb bl.size))
    replace sz := A.size.trans sz
    replace df := A.defs.trans df
    clear A hb
    show Code.wp _ _ _ _ _
    refine wp_cond_true x14 ?_
    refine wp_seq ?_
    refine wp_region_tail [.eq (v), .eq (.int .i64 ((k : Nat) : Int)), .hc ((l).take (k)), .eq (.int .i64 ((i : Nat) : Int)), .ow w.heap.size (mpath (l.take k) i), .eq (v), .eq (.int .i64 ((k : Nat) : Int)), .hc ((l).drop (k)), .eq (.agg ((y2).map V).toArray), .hs ([y2])] [10, 11] Tryd.mixed (by kernel_rfl) (by kernel_rfl) (by kernel_rfl) (by kernel_rfl) (by rw [sz]; kernel_rfl) (by kernel_rfl) ⟨fun hw ac u K => ?_, fun hw ac u K => ?_, fun hw ac u K => ?_, fun hw ac u K => ?_, fun hw ac u K => ?_, fun hw ac u K => ?_, fun hw ac u K => ?_, fun hw ac u K => ?_, fun hw ac u K => ?_, fun hw ac u K => ?_, trivial⟩ ?_
    · exact st_move (.tmp 0) rfl ((K.old 0 rfl).trans x0)
    · exact st_move (.tmp 5) rfl ((K.old 5 rfl).trans x5)
    · exact st_cuth (.tmp 15) (.tmp 16) rfl (fk_val (K.dep 0 15 rfl) (Fk.mono _ _ _ _ hv (bl.trans (Below.mono K.grow bl.size)))) (k) (K.dep 1 16 rfl) (by omega)
    · exact st_move (.tmp 1) rfl ((K.old 1 rfl).trans x1)
    · exact st_call 33 (.func 33) _ _ #[ac.eval (.tmp 17), .int .i64 ((i : Nat) : Int)] rfl rfl (arg2 rfl (K.dep 3 18 rfl)) Tryd.enter33 (fk_ow (bl.trans (Below.mono K.grow bl.size)).size (ih (l.take k) (by rw [List.length_take]; omega) i (by rw [List.length_take]; omega) _ _ (by rw [List.length_take]; omega) (K.dep 2 17 rfl) (hK.below (bl.trans (Below.mono K.grow bl.size)))))
    · exact st_move (.tmp 0) rfl ((K.old 0 rfl).trans x0)
    · exact st_move (.tmp 5) rfl ((K.old 5 rfl).trans x5)
    · exact st_restc (.tmp 20) (.tmp 21) rfl (fk_val (K.dep 5 20 rfl) (Fk.mono _ _ _ _ hv (bl.trans (Below.mono K.grow bl.size)))) (k) (K.dep 6 21 rfl) (by omega)
    · exact st_call 18 (.func 18) _ _ #[ac.eval (.tmp 22)] rfl rfl (one_arg rfl) Tryd.enter18 (fk_of (root_any (l.drop k) _ _ (by rw [List.length_drop]; omega) (K.dep 7 22 rfl) (hK.below (bl.trans (Below.mono K.grow bl.size))) ey2))
    · exact st_bh1 (.tmp 23) rfl hy2 (K.dep 8 23 rfl)
    intro f5 w5 A hb
    replace bl0 := bl
    replace x0 := (A.old 0 rfl).trans x0
    replace x1 := (A.old 1 rfl).trans x1
    replace x4 := (A.old 4 rfl).trans x4
    replace x8 := (A.old 8 rfl).trans x8
    replace x5 := (A.old 5 rfl).trans x5
    replace x14 := (A.old 14 rfl).trans x14
    have x19 : Fk.f (.ow w.heap.size (mpath (l.take k) i)) (f5.eval (.tmp 19)) w5 := A.has 4 19 rfl
    have x24 : Fk.f (.hs ([y2])) (f5.eval (.tmp 24)) w5 := A.has 9 24 rfl
    replace bl := (bl.trans (Below.mono hb bl.size))
    replace sz := A.size.trans sz
    replace df := A.defs.trans df
    clear A hb
    refine wl_append rfl (.tmp 19) (.tmp 24) rfl 25 rfl (by rw [sz]; decide) x19 x24 bl (by omega) ?_
    intro f6 w6 df2 sz2 old2 new2 bl2
    clear x19
    clear x24
    replace x0 := (old2 0 rfl).trans x0
    replace x1 := (old2 1 rfl).trans x1
    replace x4 := (old2 4 rfl).trans x4
    replace x8 := (old2 8 rfl).trans x8
    replace x5 := (old2 5 rfl).trans x5
    replace x14 := (old2 14 rfl).trans x14
    have x25 : Fk.f (.ow w.heap.size (mpath (l.take k) i ++ [y2])) (f6.eval (.tmp 25)) w6 := new2
    replace bl := bl2
    replace bl0 := bl
    replace sz := sz2.trans sz
    replace df := df2.trans df
    clear df2 sz2 old2 new2 bl2
    refine wl_one (.ow w.heap.size (mpath (l.take k) i ++ [y2])) rfl 4 rfl (by rw [sz]; decide) (st_assign (.tmp 25) rfl x25) ?_
    intro f7 w7 df2 sz2 old2 new2 hb
    replace bl0 := bl
    replace x0 := (old2 0 rfl).trans x0
    replace x1 := (old2 1 rfl).trans x1
    clear x4
    replace x8 := (old2 8 rfl).trans x8
    replace x5 := (old2 5 rfl).trans x5
    replace x14 := (old2 14 rfl).trans x14
    replace x25 := f_at (old2 25 rfl) (Fk.mono _ _ _ _ x25 hb)
    have x4 : Fk.f (.ow w.heap.size (mpath (l.take k) i ++ [y2])) (f7.eval (.tmp 4)) w7 := new2
    replace bl := (bl.trans (Below.mono hb bl.size))
    replace sz := sz2.trans sz
    replace df := df2.trans df
    clear df2 sz2 old2 new2 hb
    refine wpList_nil ?_
    clear x25
    show Code.wp _ _ _ _ _
    refine wp_ret ?_
    repeat (first | with_reducible refine then_ret ?_ | with_reducible refine block_ret ?_)
    rw [mpath_left h2 (by rw [hk]; exact hik), hk, ey2.out]
    exact bodyPost_ret (v := f7.eval (.tmp 4)) (ret_slot rfl f7 _ rfl _ _) df ⟨_, rfl, x4, bl⟩
theorem path_ok {l : List (List (BitVec 8))} {i : Nat} (hi : i < l.length) (h1000 : l.length ≤ 1000) (w : World) {v : Value} (hv : (Fk.hc l).f v w) (hK : Tab w) :
    Calls Tryd.prog 19 #[v, .int .i64 ((i : Nat) : Int)] w fun e w' => ∃ u, e = .returned u ∧ (Fk.t2 (.ow w.heap.size (mpath l i)) (.int .i64 0)).f u w' ∧ Below w.heap.size w w' := by
  go_enter Tryd.func19, Tryd.ntmps19
  refine code_both (fun f w1 => f.tmps.size = 17 ∧ f.defers = [] ∧ f.eval (.tmp 0) = v ∧ f.eval (.tmp 1) = .int .i64 ((i : Nat) : Int) ∧ Below w.heap.size w (w1)) ⟨rfl, rfl, rfl, rfl, Below.refl _ _⟩ ?_
  rintro f0 w0 ⟨sz, df, x0, x1, bl⟩
  have bl0 := bl
  refine wp_seq ?_
  refine wp_region_seq [] (by kernel_rfl) (by kernel_rfl) (by rw [sz]; kernel_rfl) (by kernel_rfl) trivial ?_
  intro f1 w1 A hb
  replace bl0 := bl
  replace x0 := (A.old 0 rfl).trans x0
  replace x1 := (A.old 1 rfl).trans x1
  replace bl := (bl.trans (Below.mono hb bl.size))
  replace sz := A.size.trans sz
  replace df := A.defs.trans df
  clear A hb
  refine wl_one (.eq (.slice none 0 0)) rfl 4 rfl (by rw [sz]; decide) (st_assign (.const (.slice none 0 0)) rfl rfl) ?_
  intro f2 w2 df2 sz2 old2 new2 hb
  replace bl0 := bl
  replace x0 := (old2 0 rfl).trans x0
  replace x1 := (old2 1 rfl).trans x1
  have x4 : f2.eval (.tmp 4) = .slice none 0 0 := new2
  replace bl := (bl.trans (Below.mono hb bl.size))
  replace sz := sz2.trans sz
  replace df := df2.trans df
  clear df2 sz2 old2 new2 hb
  refine wl_one (.eq (.int .i64 0)) rfl 5 rfl (by rw [sz]; decide) (st_assign (.const (.int .i64 0)) rfl rfl) ?_
  intro f3 w3 df2 sz2 old2 new2 hb
  replace bl0 := bl
  replace x0 := (old2 0 rfl).trans x0
  replace x1 := (old2 1 rfl).trans x1
  replace x4 := (old2 4 rfl).trans x4
  have x5 : f3.eval (.tmp 5) = .int .i64 0 := new2
  replace bl := (bl.trans (Below.mono hb bl.size))
  replace sz := sz2.trans sz
  replace df := df2.trans df
  clear df2 sz2 old2 new2 hb
  refine wpList_nil ?_
  show Code.wp _ _ _ _ _
  refine wp_seq ?_
  refine wp_seq ?_
  refine wp_all_seq [.eq (.int .i64 ((i : Nat) : Int)), .eq (.bool false), .eq (.bool false), .eq (.int .i64 ((i : Nat) : Int)), .eq (v), .eq (.int .i64 (((l).length : Nat) : Int)), .eq (.bool false), .eq (.bool false)] (by kernel_rfl) (by kernel_rfl) (by rw [sz]; kernel_rfl) (by kernel_rfl) ⟨fun hw ac u K => ?_, fun hw ac u K => ?_, fun hw ac u K => ?_, fun hw ac u K => ?_, fun hw ac u K => ?_, fun hw ac u K => ?_, fun hw ac u K => ?_, fun hw ac u K => ?_, trivial⟩ ?_
  · exact st_move (.tmp 1) rfl ((K.old 1 rfl).trans x1)
  · exact st_lss 3 (.tmp 6) (.const (.int .i64 0)) rfl .i64 (((i : Nat) : Int)) (0) (K.dep 0 6 rfl) rfl _ (by rw [eq_comm, decide_eq_false_iff_not]; omega)
  · exact st_move (.tmp 7) rfl (K.dep 1 7 rfl)
  · exact st_move (.tmp 1) rfl ((K.old 1 rfl).trans x1)
  · exact st_move (.tmp 0) rfl ((K.old 0 rfl).trans x0)
  · exact st_lenc (.tmp 10) rfl ((l).length) rfl (fk_val (K.dep 4 10 rfl) (Fk.mono _ _ _ _ hv (bl.trans (Below.mono K.grow bl.size))))
  · exact st_geq 3 (.tmp 9) (.tmp 11) rfl .i64 (((i : Nat) : Int)) ((((l).length : Nat) : Int)) (K.dep 3 9 rfl) (K.dep 5 11 rfl) _ (by rw [eq_comm, decide_eq_false_iff_not]; omega)
  · exact st_pick_f' (.tmp 8) (.const (.bool true)) (.tmp 12) rfl (K.dep 2 8 rfl) (K.dep 6 12 rfl)
  intro f4 w4 A hb
  replace bl0 := bl
  replace x0 := (A.old 0 rfl).trans x0
  replace x1 := (A.old 1 rfl).trans x1
  replace x4 := (A.old 4 rfl).trans x4
  replace x5 := (A.old 5 rfl).trans x5
  have x13 : f4.eval (.tmp 13) = .bool false := A.has 7 13 rfl
  replace bl := (bl.trans (Below.mono hb bl.size))
  replace sz := A.size.trans sz
  replace df := A.defs.trans df
  clear A hb
  show Code.wp _ _ _ _ _
  refine wp_cond_false x13 ?_
  refine wp_skip ?_
  show Code.wp _ _ _ _ _
  refine wp_seq ?_
  refine wp_all_seq [.eq (v), .eq (.int .i64 ((i : Nat) : Int)), .ow w.heap.size (mpath l i), .ow w.heap.size (mpath l i), .eq (.int .i64 0)] (by kernel_rfl) (by kernel_rfl) (by rw [sz]; kernel_rfl) (by kernel_rfl) ⟨fun hw ac u K => ?_, fun hw ac u K => ?_, fun hw ac u K => ?_, fun hw ac u K => ?_, fun hw ac u K => ?_, trivial⟩ ?_
  · exact st_move (.tmp 0) rfl ((K.old 0 rfl).trans x0)
  · exact st_move (.tmp 1) rfl ((K.old 1 rfl).trans x1)
  · exact st_call 33 (.func 33) _ _ #[v, .int .i64 ((i : Nat) : Int)] rfl rfl (arg2 (K.dep 0 14 rfl) (K.dep 1 15 rfl)) Tryd.enter33 (fk_ow (bl.trans (Below.mono K.grow bl.size)).size (path_in l i hi _ _ h1000 (Fk.mono _ _ _ _ hv (bl.trans (Below.mono K.grow bl.size))) (hK.below (bl.trans (Below.mono K.grow bl.size)))))
  · exact st_assign (.tmp 16) rfl (K.dep 2 16 rfl)
  · exact st_assign (.const (.int .i64 0)) rfl rfl
  intro f5 w5 A hb
  replace bl0 := bl
  replace x0 := (A.old 0 rfl).trans x0
  replace x1 := (A.old 1 rfl).trans x1
  clear x4
  clear x5
  replace x13 := (A.old 13 rfl).trans x13
  have x4 : Fk.f (.ow w.heap.size (mpath l i)) (f5.eval (.tmp 4)) w5 := A.has 3 4 rfl
  have x5 : f5.eval (.tmp 5) = .int .i64 0 := A.has 4 5 rfl
  replace bl := (bl.trans (Below.mono hb bl.size))
  replace sz := A.size.trans sz
  replace df := A.defs.trans df
  clear A hb
  show Code.wp _ _ _ _ _
  refine wp_ret ?_
  repeat (first | with_reducible refine then_ret ?_ | with_reducible refine block_ret ?_)
  exact bodyPost_ret (v := .tuple #[f5.eval (.tmp 4), .int .i64 0]) (ret_two rfl f5 _ _ rfl x5 _ _) df ⟨_, rfl, ⟨_, rfl, x4⟩, bl⟩
end Go.Proofs.YthhnlemldpgbeaaDoor
namespace Go.Proofs.YthhnlemldpgbeaaDoor
set_option maxRecDepth 100000
open Go.RowKit
end Go.Proofs.YthhnlemldpgbeaaDoor
namespace Go.Proofs.YthhnlemldpgbeaaDoor
set_option maxRecDepth 100000
open Go.RowKit
theorem fk_pathc {l : List (List (BitVec 8))} {i : Nat} (hi : i < l.length) (h1000 : l.length ≤ 1000) {w : World} {v : Value} (hv : (Fk.hc l).f v w) (hK : Tab w) {S : List (List (BitVec 8))} (hS : Box (mpath l i = S)) :
    Calls Tryd.prog 19 #[v, .int .i64 ((i : Nat) : Int)] w fun e w' => ∃ u, e = .returned u ∧ (Fk.t2 (.hc S) (.int .i64 0)).f u w' ∧ Below w.heap.size w w' := by
  refine (path_ok hi h1000 w hv hK).mono ?_
  rintro e w' ⟨u, rfl, ⟨p, e1, h1⟩, hb⟩
  rw [hS.out] at h1
  exact ⟨u, rfl, ⟨p, e1, ow_hc h1⟩, hb⟩
end Go.Proofs.YthhnlemldpgbeaaDoor
namespace Go.Proofs.YthhnlemldpgbeaaDoor
set_option maxRecDepth 100000
open Go.RowKit
section
variable {Q : Exit → Act → World → Prop} {ops : Array Oper}
theorem wp_region_new {id : Nat} {a0 : Act} {w : World} (qs : List Fk) (js : List Nat) (news : List (Nat × Nat)) (hnew : news.all (fun x => isNew ops x.1 x.2 && decide (x.1 < qs.length)) = true) (hfk : ∀ x ∈ news, qs.getD x.1 .any = Fk.pn w.heap.size hz)
    (hk : decide (qs.length ≤ ops.size) = true) (hE : backOk ops.toList = true) (hC : coverOk ops.toList qs.length = true) (hJ : chainOk ops (firstK qs.length ops.size) js = true)
    (hD : dstsOk a0.tmps.size (ops.toList.take qs.length) = true) (hG : guardsOk ops.toList qs.length qs ops.toList qs = true)
    (hS : Steps Tryd.prog Q ops.toList qs.length qs a0 w ops.toList qs)
    (hF : ∀ af w', Final ops.toList qs a0 af w' → (∀ x ∈ news, ∀ y ∈ news, x.1 ≠ y.1 → af.eval (.tmp x.2) ≠ af.eval (.tmp y.2)) → Below w.heap.size w w' → wpList Tryd.prog ops Q (js.filterMap (ops[·]?)) af w') :
    (Code.region id ops true).wp Tryd.prog Q a0 w := by
  have hn : ∀ x ∈ news, isNew ops x.1 x.2 = true ∧ x.1 < qs.length := fun x hx => by
    have := List.all_eq_true.1 hnew x hx
    simpa using this
  refine wp_region_any Tryd.mixed ?_
  refine wp_mids_new (news.map (·.1)) js (of_decide_eq_true hk) hE hC hJ ?_ hD hG hS (fun af w' fin hap hb => hF af w' fin (fun x hx y hy hne => hap x.1 (List.mem_map_of_mem hx) y.1 (List.mem_map_of_mem hy) hne x.2 y.2 (isNew_slot (hn x hx).1) (isNew_slot (hn y hy).1)) hb) ops.size _ a0 _ ?_ ?_ ?_ ?_
  · intro i hi
    obtain ⟨x, hx, rfl⟩ := List.mem_map.1 hi
    obtain ⟨o, h1, h2, h3, h4⟩ := isNew_spec (hn x hx).1
    exact ⟨(hn x hx).2, o, _, h1, h2, h3, h4, by unfold fkAt; rw [hfk x hx]⟩
  · unfold unl
    exact Nat.le_trans (Array.countP_le_size) (by simp)
  · intro i o ho hl
    have : i < ops.size := (Array.getElem?_eq_some_iff.1 ho).1
    simp [this] at hl
  · intro i _ j _ _ hl
    exfalso
    rcases Nat.lt_or_ge i ops.size with h | h
    · simp [h] at hl
    · rw [Array.getD_eq_getD_getElem?, Array.getElem?_eq_none (by simpa using h)] at hl
      simp at hl
  · refine ⟨rfl, rfl, by simp, fun _ _ => rfl, fun i o d _ ho _ hl => ?_, fun i _ hi => ?_, (Below.refl _ _).drew⟩
    · have : i < ops.size := (Array.getElem?_eq_some_iff.1 ho).1
      simp [this] at hl
    · simp [hi]
end
end Go.Proofs.YthhnlemldpgbeaaDoor
namespace Go.Proofs.YthhnlemldpgbeaaDoor
set_option maxRecDepth 100000
open Go.RowKit
end Go.Proofs.YthhnlemldpgbeaaDoor
