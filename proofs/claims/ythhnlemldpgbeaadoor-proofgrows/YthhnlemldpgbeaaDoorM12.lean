/- Whole sums reckoned over plain numbers: the same as the sums over bytes. Steps of chains, secrets and public keys reckoned over plain numbers. awake. Path. Proof. -/
import Derived.Test.YthhnlemldpgbeaaDoorM11
import Derived.Test.YthhnlemldpgbeaaDoorM2
import Derived.Test.YthhnlemldpgbeaaDoorM6
namespace Go.Proofs.YthhnlemldpgbeaaDoor
set_option maxRecDepth 100000
open Go.RowKit
theorem frn_eq {α : Type} (q : Nat → Nat → Nat → Nat → Nat → Nat → Nat → Nat → α) (ws : List (BitVec 32)) (s0 : St) (hW : ∀ t, t + 16 < 64 → ws.getD (t + 16) 0 = sg1 (ws.getD (t + 14) 0) + ws.getD (t + 9) 0 + sg0 (ws.getD (t + 1) 0) + ws.getD t 0) :
    ∀ (j t : Nat), t + j = 64 → ∀ w0 w1 w2 w3 w4 w5 w6 w7 w8 w9 w10 w11 w12 w13 w14 w15 : Nat, (t + 0 < 64 → w0 = (ws.getD (t + 0) 0).toNat) → (t + 1 < 64 → w1 = (ws.getD (t + 1) 0).toNat) → (t + 2 < 64 → w2 = (ws.getD (t + 2) 0).toNat) → (t + 3 < 64 → w3 = (ws.getD (t + 3) 0).toNat) → (t + 4 < 64 → w4 = (ws.getD (t + 4) 0).toNat) → (t + 5 < 64 → w5 = (ws.getD (t + 5) 0).toNat) → (t + 6 < 64 → w6 = (ws.getD (t + 6) 0).toNat) → (t + 7 < 64 → w7 = (ws.getD (t + 7) 0).toNat) → (t + 8 < 64 → w8 = (ws.getD (t + 8) 0).toNat) → (t + 9 < 64 → w9 = (ws.getD (t + 9) 0).toNat) → (t + 10 < 64 → w10 = (ws.getD (t + 10) 0).toNat) → (t + 11 < 64 → w11 = (ws.getD (t + 11) 0).toNat) → (t + 12 < 64 → w12 = (ws.getD (t + 12) 0).toNat) → (t + 13 < 64 → w13 = (ws.getD (t + 13) 0).toNat) → (t + 14 < 64 → w14 = (ws.getD (t + 14) 0).toNat) → (t + 15 < 64 → w15 = (ws.getD (t + 15) 0).toNat) → frn q (KM.drop t) (rnds ws s0 t).a.toNat (rnds ws s0 t).b.toNat (rnds ws s0 t).c.toNat (rnds ws s0 t).d.toNat (rnds ws s0 t).e.toNat (rnds ws s0 t).f.toNat (rnds ws s0 t).g.toNat (rnds ws s0 t).h.toNat w0 w1 w2 w3 w4 w5 w6 w7 w8 w9 w10 w11 w12 w13 w14 w15 = q (rnds ws s0 64).a.toNat (rnds ws s0 64).b.toNat (rnds ws s0 64).c.toNat (rnds ws s0 64).d.toNat (rnds ws s0 64).e.toNat (rnds ws s0 64).f.toNat (rnds ws s0 64).g.toNat (rnds ws s0 64).h.toNat := by
  intro j
  induction j with
  | zero =>
    intro t ht w0 w1 w2 w3 w4 w5 w6 w7 w8 w9 w10 w11 w12 w13 w14 w15 h0 h1 h2 h3 h4 h5 h6 h7 h8 h9 h10 h11 h12 h13 h14 h15
    obtain rfl : t = 64 := by omega
    rfl
  | succ j ih =>
    intro t ht w0 w1 w2 w3 w4 w5 w6 w7 w8 w9 w10 w11 w12 w13 w14 w15 h0 h1 h2 h3 h4 h5 h6 h7 h8 h9 h10 h11 h12 h13 h14 h15
    rw [KM_at t (by omega)]
    show fst (KN.getD t 0).toNat (frn q (KM.drop (t + 1))) (rnds ws s0 t).a.toNat (rnds ws s0 t).b.toNat (rnds ws s0 t).c.toNat (rnds ws s0 t).d.toNat (rnds ws s0 t).e.toNat (rnds ws s0 t).f.toNat (rnds ws s0 t).g.toNat (rnds ws s0 t).h.toNat w0 w1 w2 w3 w4 w5 w6 w7 w8 w9 w10 w11 w12 w13 w14 w15 = _
    rw [fst_eq (KN.getD t 0) (frn q (KM.drop (t + 1))) (rnds ws s0 t) w0 w1 w2 w3 w4 w5 w6 w7 w8 w9 w10 w11 w12 w13 w14 w15 (ws.getD t 0) (by rw [h0 (by omega), Nat.add_zero])]
    refine ih (t + 1) (by omega) w1 w2 w3 w4 w5 w6 w7 w8 w9 w10 w11 w12 w13 w14 w15 _ (fun hh => by rw [h1 (by omega), show t + 1 = t + 1 + 0 by omega]) (fun hh => by rw [h2 (by omega), show t + 2 = t + 1 + 1 by omega]) (fun hh => by rw [h3 (by omega), show t + 3 = t + 1 + 2 by omega]) (fun hh => by rw [h4 (by omega), show t + 4 = t + 1 + 3 by omega]) (fun hh => by rw [h5 (by omega), show t + 5 = t + 1 + 4 by omega]) (fun hh => by rw [h6 (by omega), show t + 6 = t + 1 + 5 by omega]) (fun hh => by rw [h7 (by omega), show t + 7 = t + 1 + 6 by omega]) (fun hh => by rw [h8 (by omega), show t + 8 = t + 1 + 7 by omega]) (fun hh => by rw [h9 (by omega), show t + 9 = t + 1 + 8 by omega]) (fun hh => by rw [h10 (by omega), show t + 10 = t + 1 + 9 by omega]) (fun hh => by rw [h11 (by omega), show t + 11 = t + 1 + 10 by omega]) (fun hh => by rw [h12 (by omega), show t + 12 = t + 1 + 11 by omega]) (fun hh => by rw [h13 (by omega), show t + 13 = t + 1 + 12 by omega]) (fun hh => by rw [h14 (by omega), show t + 14 = t + 1 + 13 by omega]) (fun hh => by rw [h15 (by omega), show t + 15 = t + 1 + 14 by omega]) (fun hh => ?_)
    rw [h0 (by omega), h1 (by omega), h9 (by omega), h14 (by omega), fg0_eq, fg1_eq, show t + 1 + 15 = t + 16 by omega, hW t (by omega)]
    simp only [BitVec.toNat_add, Nat.add_zero]
    show _ % 4294967296 = _
    simp only [Nat.add_eq]
    omega
theorem frn_all {α : Type} (q : Nat → Nat → Nat → Nat → Nat → Nat → Nat → Nat → α) (ws : List (BitVec 32)) (s : St) (hW : ∀ t, t + 16 < 64 → ws.getD (t + 16) 0 = sg1 (ws.getD (t + 14) 0) + ws.getD (t + 9) 0 + sg0 (ws.getD (t + 1) 0) + ws.getD t 0) :
    frn q KM s.a.toNat s.b.toNat s.c.toNat s.d.toNat s.e.toNat s.f.toNat s.g.toNat s.h.toNat (ws.getD 0 0).toNat (ws.getD 1 0).toNat (ws.getD 2 0).toNat (ws.getD 3 0).toNat (ws.getD 4 0).toNat (ws.getD 5 0).toNat (ws.getD 6 0).toNat (ws.getD 7 0).toNat (ws.getD 8 0).toNat (ws.getD 9 0).toNat (ws.getD 10 0).toNat (ws.getD 11 0).toNat (ws.getD 12 0).toNat (ws.getD 13 0).toNat (ws.getD 14 0).toNat (ws.getD 15 0).toNat = q (rnds ws s 64).a.toNat (rnds ws s 64).b.toNat (rnds ws s 64).c.toNat (rnds ws s 64).d.toNat (rnds ws s 64).e.toNat (rnds ws s 64).f.toNat (rnds ws s 64).g.toNat (rnds ws s 64).h.toNat :=
  frn_eq q ws s hW 64 0 (Nat.zero_add 64) (ws.getD 0 0).toNat (ws.getD 1 0).toNat (ws.getD 2 0).toNat (ws.getD 3 0).toNat (ws.getD 4 0).toNat (ws.getD 5 0).toNat (ws.getD 6 0).toNat (ws.getD 7 0).toNat (ws.getD 8 0).toNat (ws.getD 9 0).toNat (ws.getD 10 0).toNat (ws.getD 11 0).toNat (ws.getD 12 0).toNat (ws.getD 13 0).toNat (ws.getD 14 0).toNat (ws.getD 15 0).toNat (fun _ => by rw [Nat.zero_add]) (fun _ => by rw [Nat.zero_add]) (fun _ => by rw [Nat.zero_add]) (fun _ => by rw [Nat.zero_add]) (fun _ => by rw [Nat.zero_add]) (fun _ => by rw [Nat.zero_add]) (fun _ => by rw [Nat.zero_add]) (fun _ => by rw [Nat.zero_add]) (fun _ => by rw [Nat.zero_add]) (fun _ => by rw [Nat.zero_add]) (fun _ => by rw [Nat.zero_add]) (fun _ => by rw [Nat.zero_add]) (fun _ => by rw [Nat.zero_add]) (fun _ => by rw [Nat.zero_add]) (fun _ => by rw [Nat.zero_add]) (fun _ => by rw [Nat.zero_add])
/- The words of a block. -/
theorem w1_at (bs : List (BitVec 8)) (i : Nat) : ∀ k, i < k → k ≤ 16 → (w1 bs k).getD i 0 = be (bs.getD (4 * i) 0) (bs.getD (4 * i + 1) 0) (bs.getD (4 * i + 2) 0) (bs.getD (4 * i + 3) 0)
  | 0, h, _ => by omega
  | k + 1, h, hk => by
    have hl := w1_len bs k
    simp only [w1, List.getD_eq_getElem?_getD]
    by_cases e : i = k
    · subst e
      rw [List.getElem?_set_self (by omega)]
      simp
    · rw [List.getElem?_set_ne (fun h => e h.symm)]
      have := w1_at bs i k (by omega) (by omega)
      simp only [List.getD_eq_getElem?_getD] at this
      exact this
theorem w2_keep (bs : List (BitVec 8)) (i k : Nat) (hi : i < 16 + k) : ∀ j, (w2 bs (k + j)).getD i 0 = (w2 bs k).getD i 0
  | 0 => rfl
  | j + 1 => by
    have := w2_keep bs i k hi j
    rw [← this, ← Nat.add_assoc]
    simp only [w2, List.getD_eq_getElem?_getD]
    rw [List.getElem?_set_ne (by omega)]
theorem words_low (bs : List (BitVec 8)) (i : Nat) (h : i < 16) : (words bs).getD i 0 = be (bs.getD (4 * i) 0) (bs.getD (4 * i + 1) 0) (bs.getD (4 * i + 2) 0) (bs.getD (4 * i + 3) 0) := by
  have := w2_keep bs i 0 (by omega) 48
  rw [Nat.zero_add] at this
  unfold words
  rw [this]
  exact w1_at bs i 16 h (Nat.le_refl _)
theorem words_keep (bs : List (BitVec 8)) (t i : Nat) (ht : t ≤ 48) (hi : i < 16 + t) : (w2 bs t).getD i 0 = (words bs).getD i 0 := by
  have := w2_keep bs i t hi (48 - t)
  rw [show t + (48 - t) = 48 by omega] at this
  exact this.symm
theorem words_next (bs : List (BitVec 8)) (t : Nat) (h : t + 16 < 64) : (words bs).getD (t + 16) 0 = sg1 ((words bs).getD (t + 14) 0) + (words bs).getD (t + 9) 0 + sg0 ((words bs).getD (t + 1) 0) + (words bs).getD t 0 := by
  rw [← words_keep bs (t + 1) (t + 16) (by omega) (by omega), ← words_keep bs t (t + 14) (by omega) (by omega), ← words_keep bs t (t + 9) (by omega) (by omega), ← words_keep bs t (t + 1) (by omega) (by omega), ← words_keep bs t t (by omega) (by omega)]
  have hl := w2_len bs t
  simp only [w2, List.getD_eq_getElem?_getD]
  rw [show t + 16 = 16 + t by omega, List.getElem?_set_self (by omega), Option.getD_some]
  unfold wnext
  simp only [List.getD_eq_getElem?_getD]
  rw [show 16 + t - 2 = t + 14 by omega, show 16 + t - 7 = t + 9 by omega, show 16 + t - 15 = t + 1 by omega, show 16 + t - 16 = t by omega]
theorem or_add (a b i : Nat) (h : b < 2 ^ i) : a * 2 ^ i ||| b = a * 2 ^ i + b := by
  have := Nat.shiftLeft_add_eq_or_of_lt h a
  rw [Nat.shiftLeft_eq] at this
  exact this.symm
theorem be_nb (b1 b2 b3 b4 : BitVec 8) : (be b1 b2 b3 b4).toNat = nb [b1, b2, b3, b4] := by
  have h1 := b1.isLt
  have h2 := b2.isLt
  have h3 := b3.isLt
  have h4 := b4.isLt
  unfold be
  simp only [BitVec.toNat_or, BitVec.toNat_shiftLeft, BitVec.toNat_setWidth, Nat.shiftLeft_eq]
  rw [Nat.mod_eq_of_lt (show b1.toNat < 2 ^ 32 by omega), Nat.mod_eq_of_lt (show b2.toNat < 2 ^ 32 by omega), Nat.mod_eq_of_lt (show b3.toNat < 2 ^ 32 by omega), Nat.mod_eq_of_lt (show b4.toNat < 2 ^ 32 by omega), Nat.mod_eq_of_lt (show b1.toNat * 2 ^ 24 < 2 ^ 32 by omega), Nat.mod_eq_of_lt (show b2.toNat * 2 ^ 16 < 2 ^ 32 by omega), Nat.mod_eq_of_lt (show b3.toNat * 2 ^ 8 < 2 ^ 32 by omega)]
  rw [or_add _ _ 24 (by omega), show b1.toNat * 2 ^ 24 + b2.toNat * 2 ^ 16 = (b1.toNat * 256 + b2.toNat) * 2 ^ 16 by omega, or_add _ _ 16 (by omega), show (b1.toNat * 256 + b2.toNat) * 2 ^ 16 + b3.toNat * 2 ^ 8 = ((b1.toNat * 256 + b2.toNat) * 256 + b3.toNat) * 2 ^ 8 by omega, or_add _ _ 8 (by omega)]
  simp [nb]
def fwd (B i : Nat) : Nat := Nat.mod (Nat.shiftRight B (Nat.sub 480 (Nat.mul 32 i))) 4294967296
theorem four_at (bs : List (BitVec 8)) (i : Nat) (h : 4 * i + 4 ≤ bs.length) : (bs.drop (4 * i)).take 4 = [bs.getD (4 * i) 0, bs.getD (4 * i + 1) 0, bs.getD (4 * i + 2) 0, bs.getD (4 * i + 3) 0] := by
  apply List.ext_getElem?
  intro j
  rw [List.getElem?_take]
  simp only [List.getElem?_drop, List.getD_eq_getElem?_getD]
  match j with
  | 0 => simp [List.getElem?_eq_getElem (show 4 * i < bs.length by omega)]
  | 1 => simp [List.getElem?_eq_getElem (show 4 * i + 1 < bs.length by omega)]
  | 2 => simp [List.getElem?_eq_getElem (show 4 * i + 2 < bs.length by omega)]
  | 3 => simp [List.getElem?_eq_getElem (show 4 * i + 3 < bs.length by omega)]
  | j + 4 =>
    rw [if_neg (by omega)]
    rfl
theorem fwd_eq (bs : List (BitVec 8)) (hb : bs.length = 64) (i : Nat) (h : i < 16) : fwd (nb bs) i = ((words bs).getD i 0).toNat := by
  rw [words_low bs i h, be_nb, ← four_at bs i (by omega), ← nb_part bs (4 * i) 4 (by omega)]
  unfold fwd
  show (nb bs >>> (480 - 32 * i)) % 4294967296 = _
  rw [Nat.shiftRight_eq_div_pow, hb, show (256 : Nat) = 2 ^ 8 from rfl, ← Nat.pow_mul, ← Nat.pow_mul, show 8 * (64 - 4 * i - 4) = 480 - 32 * i by omega]
def fmix {α : Type} (q : Nat → Nat → Nat → Nat → Nat → Nat → Nat → Nat → α) : Nat → Nat → Nat → Nat → Nat → Nat → Nat → Nat → Nat → α := fun a b c d e f g h B =>
  force (fwd B 0) fun w0 => force (fwd B 1) fun w1 => force (fwd B 2) fun w2 => force (fwd B 3) fun w3 => force (fwd B 4) fun w4 => force (fwd B 5) fun w5 => force (fwd B 6) fun w6 => force (fwd B 7) fun w7 => force (fwd B 8) fun w8 => force (fwd B 9) fun w9 => force (fwd B 10) fun w10 => force (fwd B 11) fun w11 => force (fwd B 12) fun w12 => force (fwd B 13) fun w13 => force (fwd B 14) fun w14 => force (fwd B 15) fun w15 => frn (fun a1 b1 c1 d1 e1 f1 g1 h1 => force (Nat.mod (Nat.add a a1) 4294967296) fun a2 => force (Nat.mod (Nat.add b b1) 4294967296) fun b2 => force (Nat.mod (Nat.add c c1) 4294967296) fun c2 => force (Nat.mod (Nat.add d d1) 4294967296) fun d2 => force (Nat.mod (Nat.add e e1) 4294967296) fun e2 => force (Nat.mod (Nat.add f f1) 4294967296) fun f2 => force (Nat.mod (Nat.add g g1) 4294967296) fun g2 => force (Nat.mod (Nat.add h h1) 4294967296) fun h2 => q a2 b2 c2 d2 e2 f2 g2 h2) KM a b c d e f g h w0 w1 w2 w3 w4 w5 w6 w7 w8 w9 w10 w11 w12 w13 w14 w15
theorem fmix_open {α : Type} (q : Nat → Nat → Nat → Nat → Nat → Nat → Nat → Nat → α) (a b c d e f g h B : Nat) : fmix q a b c d e f g h B = frn (fun a1 b1 c1 d1 e1 f1 g1 h1 => q (Nat.mod (Nat.add a a1) 4294967296) (Nat.mod (Nat.add b b1) 4294967296) (Nat.mod (Nat.add c c1) 4294967296) (Nat.mod (Nat.add d d1) 4294967296) (Nat.mod (Nat.add e e1) 4294967296) (Nat.mod (Nat.add f f1) 4294967296) (Nat.mod (Nat.add g g1) 4294967296) (Nat.mod (Nat.add h h1) 4294967296)) KM a b c d e f g h (fwd B 0) (fwd B 1) (fwd B 2) (fwd B 3) (fwd B 4) (fwd B 5) (fwd B 6) (fwd B 7) (fwd B 8) (fwd B 9) (fwd B 10) (fwd B 11) (fwd B 12) (fwd B 13) (fwd B 14) (fwd B 15) := by
  have hq : (fun a1 b1 c1 d1 e1 f1 g1 h1 => force (Nat.mod (Nat.add a a1) 4294967296) fun a2 => force (Nat.mod (Nat.add b b1) 4294967296) fun b2 => force (Nat.mod (Nat.add c c1) 4294967296) fun c2 => force (Nat.mod (Nat.add d d1) 4294967296) fun d2 => force (Nat.mod (Nat.add e e1) 4294967296) fun e2 => force (Nat.mod (Nat.add f f1) 4294967296) fun f2 => force (Nat.mod (Nat.add g g1) 4294967296) fun g2 => force (Nat.mod (Nat.add h h1) 4294967296) fun h2 => q a2 b2 c2 d2 e2 f2 g2 h2) = (fun a1 b1 c1 d1 e1 f1 g1 h1 => q (Nat.mod (Nat.add a a1) 4294967296) (Nat.mod (Nat.add b b1) 4294967296) (Nat.mod (Nat.add c c1) 4294967296) (Nat.mod (Nat.add d d1) 4294967296) (Nat.mod (Nat.add e e1) 4294967296) (Nat.mod (Nat.add f f1) 4294967296) (Nat.mod (Nat.add g g1) 4294967296) (Nat.mod (Nat.add h h1) 4294967296)) := by
    funext a1 b1 c1 d1 e1 f1 g1 h1
    rw [force_eq, force_eq, force_eq, force_eq, force_eq, force_eq, force_eq, force_eq]
  unfold fmix
  rw [force_eq, force_eq, force_eq, force_eq, force_eq, force_eq, force_eq, force_eq, force_eq, force_eq, force_eq, force_eq, force_eq, force_eq, force_eq, force_eq, hq]
theorem fmix_eq {α : Type} (q : Nat → Nat → Nat → Nat → Nat → Nat → Nat → Nat → α) (s : St) (bs : List (BitVec 8)) (hb : bs.length = 64) : fmix q s.a.toNat s.b.toNat s.c.toNat s.d.toNat s.e.toNat s.f.toNat s.g.toNat s.h.toNat (nb bs) = q (mix s bs).a.toNat (mix s bs).b.toNat (mix s bs).c.toNat (mix s bs).d.toNat (mix s bs).e.toNat (mix s bs).f.toNat (mix s bs).g.toNat (mix s bs).h.toNat := by
  rw [show mix s bs = s.plus (rnds (words bs) s 64) from rfl]
  have hW := words_next bs
  have hF := fwd_eq bs hb
  generalize words bs = ws at hW hF ⊢
  generalize nb bs = B at hF ⊢
  refine (fmix_open q _ _ _ _ _ _ _ _ B).trans ?_
  have h2 := frn_all (fun a1 b1 c1 d1 e1 f1 g1 h1 => q (Nat.mod (Nat.add s.a.toNat a1) 4294967296) (Nat.mod (Nat.add s.b.toNat b1) 4294967296) (Nat.mod (Nat.add s.c.toNat c1) 4294967296) (Nat.mod (Nat.add s.d.toNat d1) 4294967296) (Nat.mod (Nat.add s.e.toNat e1) 4294967296) (Nat.mod (Nat.add s.f.toNat f1) 4294967296) (Nat.mod (Nat.add s.g.toNat g1) 4294967296) (Nat.mod (Nat.add s.h.toNat h1) 4294967296)) ws s hW
  rw [← hF 0 (by omega), ← hF 1 (by omega), ← hF 2 (by omega), ← hF 3 (by omega), ← hF 4 (by omega), ← hF 5 (by omega), ← hF 6 (by omega), ← hF 7 (by omega), ← hF 8 (by omega), ← hF 9 (by omega), ← hF 10 (by omega), ← hF 11 (by omega), ← hF 12 (by omega), ← hF 13 (by omega), ← hF 14 (by omega), ← hF 15 (by omega)] at h2
  refine h2.trans ?_
  generalize rnds ws s 64 = r
  have e : ∀ x y : BitVec 32, Nat.mod (Nat.add x.toNat y.toNat) 4294967296 = (x + y).toNat := fun x y => (BitVec.toNat_add x y).symm
  show q (Nat.mod (Nat.add s.a.toNat r.a.toNat) 4294967296) (Nat.mod (Nat.add s.b.toNat r.b.toNat) 4294967296) (Nat.mod (Nat.add s.c.toNat r.c.toNat) 4294967296) (Nat.mod (Nat.add s.d.toNat r.d.toNat) 4294967296) (Nat.mod (Nat.add s.e.toNat r.e.toNat) 4294967296) (Nat.mod (Nat.add s.f.toNat r.f.toNat) 4294967296) (Nat.mod (Nat.add s.g.toNat r.g.toNat) 4294967296) (Nat.mod (Nat.add s.h.toNat r.h.toNat) 4294967296) = _
  rw [e s.a r.a, e s.b r.b, e s.c r.c, e s.d r.d, e s.e r.e, e s.f r.f, e s.g r.g, e s.h r.h]
  rfl
/-- Eight numbers as one. -/
def pck (a b c d e f g h : Nat) : Nat := Nat.add (Nat.mul (Nat.add (Nat.mul (Nat.add (Nat.mul (Nat.add (Nat.mul (Nat.add (Nat.mul (Nat.add (Nat.mul (Nat.add (Nat.mul a 4294967296) b) 4294967296) c) 4294967296) d) 4294967296) e) 4294967296) f) 4294967296) g) 4294967296) h
def C512 : Nat := 13407807929942597099574024998205846127479365820592393377723561443721764030073546976801874298166903427690031858186486050853753882811946569946433649006084096
theorem C512_eq : C512 = 256 ^ 64 := by decide +kernel
def fmixs (P : Nat) : Nat → Nat → Nat → Nat → Nat → Nat → Nat → Nat → Nat → Nat := fun n => Nat.rec (motive := fun _ => Nat → Nat → Nat → Nat → Nat → Nat → Nat → Nat → Nat) pck (fun n ih a b c d e f g h => force (Nat.mod (Nat.shiftRight P (Nat.mul 512 n)) C512) fun B => fmix ih a b c d e f g h B) n
theorem fmixs_eq (x : List (BitVec 8)) (M : Nat) (hx : x.length = 64 * M) : ∀ (n i : Nat), i + n = M → fmixs (nb x) n (mixs St.first x i).a.toNat (mixs St.first x i).b.toNat (mixs St.first x i).c.toNat (mixs St.first x i).d.toNat (mixs St.first x i).e.toNat (mixs St.first x i).f.toNat (mixs St.first x i).g.toNat (mixs St.first x i).h.toNat = pck (mixs St.first x M).a.toNat (mixs St.first x M).b.toNat (mixs St.first x M).c.toNat (mixs St.first x M).d.toNat (mixs St.first x M).e.toNat (mixs St.first x M).f.toNat (mixs St.first x M).g.toNat (mixs St.first x M).h.toNat := by
  intro n
  induction n with
  | zero =>
    intro i hi
    obtain rfl : i = M := by omega
    rfl
  | succ n ih =>
    intro i hi
    show force (Nat.mod (Nat.shiftRight (nb x) (Nat.mul 512 n)) C512) (fun B => fmix (fmixs (nb x) n) (mixs St.first x i).a.toNat (mixs St.first x i).b.toNat (mixs St.first x i).c.toNat (mixs St.first x i).d.toNat (mixs St.first x i).e.toNat (mixs St.first x i).f.toNat (mixs St.first x i).g.toNat (mixs St.first x i).h.toNat B) = _
    rw [force_eq]
    have hp := nb_part x (64 * i) 64 (by omega)
    have hB : Nat.mod (Nat.shiftRight (nb x) (Nat.mul 512 n)) C512 = nb ((x.drop (64 * i)).take 64) := by
      rw [← hp]
      show (nb x >>> (512 * n)) % C512 = _
      have h3 : (256 : Nat) ^ (x.length - 64 * i - 64) = 2 ^ (512 * n) := by
        rw [show (256 : Nat) = 2 ^ 8 from rfl, ← Nat.pow_mul]
        congr 1
        omega
      rw [C512_eq, Nat.shiftRight_eq_div_pow, h3]
    rw [hB, fmix_eq _ _ _ (by rw [List.length_take, List.length_drop]; omega)]
    exact ih (i + 1) (by omega)
theorem byt_nb (x : BitVec 32) : nb [byt x 0, byt x 1, byt x 2, byt x 3] = x.toNat := by
  have := x.isLt
  simp only [nb, List.foldl_cons, List.foldl_nil, byt, BitVec.toNat_ofNat]
  omega
theorem hsh_list (s : St) : hsh s 8 = [byt s.a 0, byt s.a 1, byt s.a 2, byt s.a 3] ++ ([byt s.b 0, byt s.b 1, byt s.b 2, byt s.b 3] ++ ([byt s.c 0, byt s.c 1, byt s.c 2, byt s.c 3] ++ ([byt s.d 0, byt s.d 1, byt s.d 2, byt s.d 3] ++ ([byt s.e 0, byt s.e 1, byt s.e 2, byt s.e 3] ++ ([byt s.f 0, byt s.f 1, byt s.f 2, byt s.f 3] ++ ([byt s.g 0, byt s.g 1, byt s.g 2, byt s.g 3] ++ [byt s.h 0, byt s.h 1, byt s.h 2, byt s.h 3])))))) := by kernel_rfl
theorem hsh_nb (s : St) : nb (hsh s 8) = pck s.a.toNat s.b.toNat s.c.toNat s.d.toNat s.e.toNat s.f.toNat s.g.toNat s.h.toNat := by
  rw [hsh_list]
  simp only [nb_append, byt_nb]
  unfold pck
  simp only [List.length_append, List.length_cons, List.length_nil, Nat.add_eq, Nat.mul_eq]
  omega
/- What is put behind. -/
theorem padArr_at (n : Nat) (j : Nat) : ∀ k, k ≤ 8 → (padArr n k)[j]? = if j < 72 then some (if padEnd n ≤ j ∧ j < padEnd n + k then cb n (j - padEnd n) else if j = 0 then 128 else 0) else none
  | 0, _ => by
    have he : 1 ≤ padEnd n := by unfold padEnd; omega
    simp only [padArr, List.getElem?_set, List.length_replicate, List.getElem?_replicate]
    by_cases h0 : 0 = j
    · subst h0; simp; omega
    · simp only [h0, if_false]
      by_cases hj : j < 72
      · simp only [hj, if_true]
        rw [if_neg (by omega), if_neg (fun h => h0 h.symm)]
      · simp [hj]
  | k + 1, hk => by
    have ih := padArr_at n j k (by omega)
    have hl := padArr_len n k
    have he : padEnd n ≤ 64 := by unfold padEnd; omega
    simp only [padArr, List.getElem?_set, hl]
    by_cases e : padEnd n + k = j
    · subst e
      rw [if_pos rfl, if_pos (by omega), if_pos (by omega), if_pos (by omega), show padEnd n + k - padEnd n = k by omega]
    · rw [if_neg e, ih]
      by_cases hj : j < 72
      · rw [if_pos hj, if_pos hj]
        by_cases h1 : padEnd n ≤ j ∧ j < padEnd n + k
        · rw [if_pos h1, if_pos (by omega)]
        · rw [if_neg h1, if_neg (show ¬(padEnd n ≤ j ∧ j < padEnd n + (k + 1)) by omega)]
      · rw [if_neg hj, if_neg hj]
theorem pad_list (n : Nat) : padOf n = [(128 : BitVec 8)] ++ (List.replicate (padEnd n - 1) 0 ++ [cb n 0, cb n 1, cb n 2, cb n 3, cb n 4, cb n 5, cb n 6, cb n 7]) := by
  have he : 1 ≤ padEnd n ∧ padEnd n ≤ 64 := by unfold padEnd; omega
  apply List.ext_getElem?
  intro j
  unfold padOf
  rw [List.getElem?_take, padArr_at n j 8 (Nat.le_refl _)]
  cases j with
  | zero =>
    rw [if_pos (by omega), if_pos (by omega), if_neg (by omega), if_pos rfl]
    rfl
  | succ j =>
    rw [List.getElem?_append_right (by simp), List.length_singleton, Nat.add_sub_cancel]
    by_cases h1 : j < padEnd n - 1
    · rw [if_pos (by omega), if_pos (by omega), if_neg (by omega), if_neg (by omega), List.getElem?_append_left (by simp; omega), List.getElem?_replicate, if_pos h1]
    · rw [List.getElem?_append_right (by simp; omega), List.length_replicate]
      by_cases h2 : j + 1 < padEnd n + 8
      · rw [if_pos h2, if_pos (by omega), if_pos (by omega)]
        obtain ⟨i, hi⟩ : ∃ i, i = j + 1 - padEnd n := ⟨_, rfl⟩
        rw [← hi, show j - (padEnd n - 1) = i by omega]
        have h3 : i < 8 := by omega
        match i, h3 with
        | 0, _ | 1, _ | 2, _ | 3, _ | 4, _ | 5, _ | 6, _ | 7, _ => rfl
      · rw [if_neg h2, List.getElem?_eq_none (by simp; omega)]
theorem nb_zeros (k : Nat) : nb (List.replicate k (0 : BitVec 8)) = 0 := by
  induction k with
  | zero => rfl
  | succ k ih => rw [List.replicate_succ, nb_cons, ih]; simp
theorem cb_nb (n : Nat) (h : n < 2 ^ 40) : nb [cb n 0, cb n 1, cb n 2, cb n 3, cb n 4, cb n 5, cb n 6, cb n 7] = 8 * n := by
  simp only [nb, List.foldl_cons, List.foldl_nil, cb, BitVec.toNat_ofNat]
  omega
theorem pad_nb (n : Nat) (h : n < 2 ^ 40) : nb (padOf n) = 128 * 256 ^ (padEnd n + 7) + 8 * n := by
  have he : 1 ≤ padEnd n := by unfold padEnd; omega
  rw [pad_list, nb_append, nb_append, nb_zeros, cb_nb n h]
  simp only [List.length_append, List.length_replicate, List.length_cons, List.length_nil, Nat.zero_mul, Nat.zero_add, Nat.reduceAdd]
  rw [show padEnd n - 1 + 8 = padEnd n + 7 by omega]
  rfl
theorem pad_len (n : Nat) : (padOf n).length = padEnd n + 8 := by
  have he : padEnd n ≤ 64 := by unfold padEnd; omega
  unfold padOf
  rw [List.length_take, padArr_len]; omega
/-- The sum of n bytes, out of their number. -/
def fsha (n M : Nat) : Nat := force (Nat.add (Nat.mul M (Nat.pow 256 (padEnd n + 8))) (Nat.add (Nat.mul 128 (Nat.pow 256 (padEnd n + 7))) (Nat.mul 8 n))) fun P => fmixs P (Nat.div (n + padEnd n + 8) 64) 1779033703 3144134277 1013904242 2773480762 1359893119 2600822924 528734635 1541459225
theorem fsha_eq (m : List (BitVec 8)) (h : m.length < 2 ^ 40) : nb (shaOf m) = fsha m.length (nb m) := by
  have h0 := rep_write rep_new m
  rw [List.nil_append] at h0
  have h2 := rep_write h0 (padOf (Dg.new.write m).len)
  rw [h0.len] at h2
  have hl : (m ++ padOf m.length).length = m.length + padEnd m.length + 8 := by rw [List.length_append, pad_len]; omega
  have hd : (m ++ padOf m.length).length = 64 * ((m.length + padEnd m.length + 8) / 64) := by rw [hl]; unfold padEnd; omega
  unfold shaOf Dg.sum
  rw [h0.len, h2.st, hsh_nb, hl]
  unfold fsha
  rw [force_eq]
  have hP : Nat.add (Nat.mul (nb m) (Nat.pow 256 (padEnd m.length + 8))) (Nat.add (Nat.mul 128 (Nat.pow 256 (padEnd m.length + 7))) (Nat.mul 8 m.length)) = nb (m ++ padOf m.length) := by
    rw [nb_append, pad_len, pad_nb m.length h]
    rfl
  rw [hP]
  exact (fmixs_eq (m ++ padOf m.length) _ hd _ 0 (Nat.zero_add _)).symm
end Go.Proofs.YthhnlemldpgbeaaDoor
namespace Go.Proofs.YthhnlemldpgbeaaDoor
set_option maxRecDepth 100000
open Go.RowKit
theorem kb_nat (n : Nat) : (kb (n : Int)).toNat = n % 256 := by unfold kb; rw [BitVec.toNat_ofInt]; omega
/-- The sum of a kind's byte and n bytes behind it. -/
def fkind (k n M : Nat) : Nat := fsha (Nat.add n 1) (Nat.add (Nat.mul k (Nat.pow 256 n)) M)
theorem fkind_eq (k : Nat) (hk : k < 256) (m : List (BitVec 8)) (h : m.length < 2 ^ 39) : nb (shaOf (kb (k : Int) :: m)) = fkind k m.length (nb m) := by
  rw [fsha_eq _ (by rw [List.length_cons]; omega), nb_cons, kb_nat, Nat.mod_eq_of_lt hk]
  rfl
end Go.Proofs.YthhnlemldpgbeaaDoor
namespace Go.Proofs.YthhnlemldpgbeaaDoor
set_option maxRecDepth 100000
open Go.RowKit
/-- A hash that begins with a byte, all others noughts. -/
def h1 (n : Nat) : List (BitVec 8) := BitVec.ofNat 8 n :: List.replicate 31 0
theorem h1_len (n : Nat) : (h1 n).length = 32 := rfl
theorem nd_nb (x y : List (BitVec 8)) (hx : x.length = 32) (hy : y.length = 32) : nb (nd x y) = fkind 1 64 (Nat.add (Nat.mul (nb x) 115792089237316195423570985008687907853269984665640564039457584007913129639936) (nb y)) := by
  have h := fkind_eq 1 (by omega) (x ++ y) (by simp [hx, hy])
  rw [nb_append, List.length_append, hx, hy] at h
  exact h
theorem h1_1 : nb (h1 1) = 452312848583266388373324160190187140051835877600158453279131187530910662656 := by decide +kernel
theorem h1_2 : nb (h1 2) = 904625697166532776746648320380374280103671755200316906558262375061821325312 := by decide +kernel
theorem h1_3 : nb (h1 3) = 1356938545749799165119972480570561420155507632800475359837393562592731987968 := by decide +kernel
theorem f_ac : fkind 1 64 (Nat.add (Nat.mul 452312848583266388373324160190187140051835877600158453279131187530910662656 115792089237316195423570985008687907853269984665640564039457584007913129639936) 1356938545749799165119972480570561420155507632800475359837393562592731987968) = 72437435713272741939851011676253789829600464415071389645116026516681933641349 := by decide +kernel
theorem f_ab : fkind 1 64 (Nat.add (Nat.mul 452312848583266388373324160190187140051835877600158453279131187530910662656 115792089237316195423570985008687907853269984665640564039457584007913129639936) 904625697166532776746648320380374280103671755200316906558262375061821325312) = 57585889166420491030984544798906426230122699249426569420874311608394639049462 := by decide +kernel
theorem f_abc : fkind 1 64 (Nat.add (Nat.mul 57585889166420491030984544798906426230122699249426569420874311608394639049462 115792089237316195423570985008687907853269984665640564039457584007913129639936) 1356938545749799165119972480570561420155507632800475359837393562592731987968) = 108422918308953104776602522296118849183271606830644489219383982241507428986961 := by decide +kernel
theorem nodes_differ : nd (h1 1) (h1 3) ≠ nd (nd (h1 1) (h1 2)) (h1 3) := by
  intro h
  have e := congrArg nb h
  rw [nd_nb _ _ (h1_len 1) (h1_len 3), nd_nb _ _ (nd_len _ _) (h1_len 3), nd_nb _ _ (h1_len 1) (h1_len 2), h1_1, h1_2, h1_3, f_ac, f_ab, f_abc] at e
  exact absurd e (by decide)
theorem spl_3 : spl 3 = 2 := spl_one (j := 1) (by decide) (by decide)
theorem spl_2 : spl 2 = 1 := spl_one (j := 0) (by decide) (by decide)
theorem spl_4 : spl 4 = 2 := spl_one (j := 1) (by decide) (by decide)
theorem spl_5 : spl 5 = 4 := spl_one (j := 2) (by decide) (by decide)
theorem sds_23 : sds 2 3 = [true] := by
  rw [sds_right (by decide) (by rw [spl_3]; decide), spl_3, sds_one (by decide)]
  rfl
theorem sds_05 : (sds 0 5).length = 3 := by
  rw [sds_left (by decide) (by rw [spl_5]; decide), spl_5, sds_left (by decide) (by rw [spl_4]; decide), spl_4, sds_left (by decide) (by rw [spl_2]; decide), spl_2, sds_one (by decide)]
  rfl
theorem ldt_23 (c x : List (BitVec 8)) : ldt c [x] (sds 2 3) = nd x c := by
  rw [sds_23]
  exact ldt_snoc c (P := []) (S := []) rfl x true
theorem fk_len_05 (w : World) : Calls Tryd.prog 10 #[.int .i64 0, .int .i64 5] w fun e w' => ∃ u, e = .returned u ∧ (Fk.eq (.int .i64 3)).f u w' ∧ Below w.heap.size w w' := by
  have h := fk_len_ok (i := 0) (n := 5) (by decide) (by decide) (w := w)
  rw [sds_05] at h
  exact h
theorem fk_lead_23 {c x y : List (BitVec 8)} (hc : c.length = 32) {v : Value} {w : World} (hv : (Fk.hc [x]).f v w) (hK : Tab w) (ey : Box (nd x c = y)) :
    Calls Tryd.prog 9 #[.agg (c.map V).toArray, .int .i64 2, .int .i64 3, v] w fun e w' => ∃ u, e = .returned u ∧ (Fk.eq (.tuple #[.agg (y.map V).toArray, .int .i64 0])).f u w' ∧ Below w.heap.size w w' :=
  fk_lead_ok (i := 2) (n := 3) hc (by decide) (by decide) hv (by simp) hK (by rw [sds_23]; rfl) ⟨by rw [ldt_23]; exact ey.out⟩
theorem fk_in_23 {c x rt : List (BitVec 8)} (hc : c.length = 32) (hrt : rt.length = 32) {v : Value} {w : World} (hv : (Fk.hc [x]).f v w) (hK : Tab w) (hne : nd x c ≠ rt) :
    Calls Tryd.prog 11 #[.agg (c.map V).toArray, .int .i64 2, .int .i64 3, v, .agg (rt.map V).toArray] w fun e w' => ∃ u, e = .returned u ∧ (Fk.eq (.int .i64 22)).f u w' ∧ Below w.heap.size w w' :=
  have hi : 2 < 3 := by decide
  have hn : 3 ≤ 1152921504606846976 := by decide
  have hP : [x].length ≤ 100000 := by simp
  have hr : (22 : Int) = if [x].length = (sds 2 3).length ∧ ldt c [x] (sds 2 3) = rt then 0 else 22 := by rw [ldt_23, if_neg (fun h => hne h.2)]
  fk_in_any hc hrt hi hn hv hP hK 22 hr
theorem st_bc1 {Q : Exit → Act → World → Prop} {o : Oper} {a : Act} {w : World} (x : Operand) (ho : o.op = .buildSlice 24 1 #[(0, x)]) {hh : List (BitVec 8)} (hl : hh.length = 32) (hx : a.eval x = .agg (hh.map V).toArray) : o.wp Tryd.prog a w (Ends a o.dst w (Fk.hc [hh]).f) Q := by
  refine st_run (v := .slice (some ⟨w.heap.size, 0, none⟩) 1 1) (w' := w.alloc (.cells (hh.map V).toArray 23)) ?_ ((Below.refl _ _).alloc (Nat.le_refl _) _) ⟨_, 1, w.heap.size, 0, rfl, Nat.le_refl _, hl_one (heap_alloc_new _ _) hl⟩
  have := Tryd.build24 hh hl w
  unfold execOp
  rw [ho]
  simp [hx, this]
theorem awake_any (w : World) (hK : Tab w) :
    Calls Tryd.prog 8 #[] w fun e w' => e = .returned (.bool true) ∧ Below w.heap.size w w' := by
  obtain ⟨p, ep⟩ : ∃ p, Box (nd (h1 1) (h1 2) = p) := ⟨_, ⟨rfl⟩⟩
  have hp : p.length = 32 := by rw [← ep.out]; exact nd_len _ _
  obtain ⟨q, eq⟩ : ∃ q, Box (nd p (h1 3) = q) := ⟨_, ⟨rfl⟩⟩
  have hq : q.length = 32 := by rw [← eq.out]; exact nd_len _ _
  have hne : nd (h1 1) (h1 3) ≠ q := by rw [← eq.out, ← ep.out]; exact nodes_differ
  go_enter Tryd.func8, Tryd.ntmps8
  refine code_both (fun f w1 => f.tmps.size = 41 ∧ f.defers = [] ∧ Below w.heap.size w (w1)) ⟨rfl, rfl, Below.refl _ _⟩ ?_
  rintro f0 w0 ⟨sz, df, bl⟩
  have bl0 := bl
  refine wp_seq ?_
  refine wp_all_seq [.eq (.bool false)] (by kernel_rfl) (by kernel_rfl) (by rw [sz]; kernel_rfl) (by kernel_rfl) ⟨fun hw ac u K => ?_, trivial⟩ ?_
  · exact st_assign (.const (.bool false)) rfl rfl
  intro f1 w1 A hb
  replace bl0 := bl
  have x0 : f1.eval (.tmp 0) = .bool false := A.has 0 0 rfl
  replace bl := (bl.trans (Below.mono hb bl.size))
  replace sz := A.size.trans sz
  replace df := A.defs.trans df
  clear A hb
  show Code.wp _ _ _ _ _
  refine wp_seq ?_
  refine wp_region_seq [.eq (.agg ((h1 1).map V).toArray), .eq (.agg ((h1 2).map V).toArray), .eq (.agg ((h1 3).map V).toArray)] (by kernel_rfl) (by kernel_rfl) (by rw [sz]; kernel_rfl) (by kernel_rfl) ⟨fun hw ac u K => ?_, fun hw ac u K => ?_, fun hw ac u K => ?_, trivial⟩ ?_
  · exact st_build 23 _ rfl (by kernel_rfl)
  · exact st_build 23 _ rfl (by kernel_rfl)
  · exact st_build 23 _ rfl (by kernel_rfl)
  intro f2 w2 A hb
  replace bl0 := bl
  replace x0 := (A.old 0 rfl).trans x0
  have x6 : f2.eval (.tmp 6) = .agg ((h1 1).map V).toArray := A.has 0 6 rfl
  have x7 : f2.eval (.tmp 7) = .agg ((h1 2).map V).toArray := A.has 1 7 rfl
  have x8 : f2.eval (.tmp 8) = .agg ((h1 3).map V).toArray := A.has 2 8 rfl
  replace bl := (bl.trans (Below.mono hb bl.size))
  replace sz := A.size.trans sz
  replace df := A.defs.trans df
  clear A hb
  refine wl_one (.nw w2.heap.size 23 ((hz).map V)) rfl 1 rfl (by rw [sz]; decide) (st_alloc23 rfl _ (Nat.le_refl _)) ?_
  intro f3 w3 df2 sz2 old2 new2 hb
  replace bl0 := bl
  replace x0 := (old2 0 rfl).trans x0
  replace x6 := (old2 6 rfl).trans x6
  replace x7 := (old2 7 rfl).trans x7
  replace x8 := (old2 8 rfl).trans x8
  have x1 : Fk.f (.nw w2.heap.size 23 ((hz).map V)) (f3.eval (.tmp 1)) w3 := new2
  replace bl := (bl.trans (Below.mono hb bl.size))
  replace sz := sz2.trans sz
  replace df := df2.trans df
  clear df2 sz2 old2 new2 hb
  obtain ⟨g1, hg1, e1, m1⟩ := x1
  have x1 := e1
  clear e1
  have hw1 : w.heap.size ≤ g1 := Nat.le_trans bl0.size hg1
  refine wl_one (.nw w3.heap.size 23 ((hz).map V)) rfl 2 rfl (by rw [sz]; decide) (st_alloc23 rfl _ (Nat.le_refl _)) ?_
  intro f4 w4 df2 sz2 old2 new2 hb
  replace bl0 := bl
  replace x0 := (old2 0 rfl).trans x0
  replace x6 := (old2 6 rfl).trans x6
  replace x7 := (old2 7 rfl).trans x7
  replace x8 := (old2 8 rfl).trans x8
  replace x1 := (old2 1 rfl).trans x1
  have x2 : Fk.f (.nw w3.heap.size 23 ((hz).map V)) (f4.eval (.tmp 2)) w4 := new2
  have lt_m1 := Ob.lt m1
  replace m1 := Ob.below m1 hb
  replace bl := (bl.trans (Below.mono hb bl.size))
  replace sz := sz2.trans sz
  replace df := df2.trans df
  clear df2 sz2 old2 new2 hb
  obtain ⟨g2, hg2, e2, m2⟩ := x2
  have x2 := e2
  clear e2
  have nm1_2 : g1 ≠ g2 := Nat.ne_of_lt (Nat.lt_of_lt_of_le lt_m1 hg2)
  have hw2 : w.heap.size ≤ g2 := Nat.le_trans bl0.size hg2
  refine wl_one (.nw w4.heap.size 23 ((hz).map V)) rfl 3 rfl (by rw [sz]; decide) (st_alloc23 rfl _ (Nat.le_refl _)) ?_
  intro f5 w5 df2 sz2 old2 new2 hb
  replace bl0 := bl
  replace x0 := (old2 0 rfl).trans x0
  replace x6 := (old2 6 rfl).trans x6
  replace x7 := (old2 7 rfl).trans x7
  replace x8 := (old2 8 rfl).trans x8
  replace x1 := (old2 1 rfl).trans x1
  replace x2 := (old2 2 rfl).trans x2
  have x3 : Fk.f (.nw w4.heap.size 23 ((hz).map V)) (f5.eval (.tmp 3)) w5 := new2
  have lt_m1 := Ob.lt m1
  replace m1 := Ob.below m1 hb
  have lt_m2 := Ob.lt m2
  replace m2 := Ob.below m2 hb
  replace bl := (bl.trans (Below.mono hb bl.size))
  replace sz := sz2.trans sz
  replace df := df2.trans df
  clear df2 sz2 old2 new2 hb
  obtain ⟨g3, hg3, e3, m3⟩ := x3
  have x3 := e3
  clear e3
  have nm1_3 : g1 ≠ g3 := Nat.ne_of_lt (Nat.lt_of_lt_of_le lt_m1 hg3)
  have nm2_3 : g2 ≠ g3 := Nat.ne_of_lt (Nat.lt_of_lt_of_le lt_m2 hg3)
  have hw3 : w.heap.size ≤ g3 := Nat.le_trans bl0.size hg3
  refine wl_store rfl (.tmp 1) (.tmp 6) rfl rfl (g1) (h1 1) (hz) x1 x6 m1 hz_len (h1_len 1) ?_
  replace m1 : Ob (w5.setRow g1 ((h1 1).map V : List Value).toArray) (g1) 23 ((h1 1).map V) := Ob.setRow m1 ((h1 1).map V)
  replace m2 : Ob (w5.setRow g1 ((h1 1).map V : List Value).toArray) (g2) 23 ((hz).map V) := Ob.setRow_other m2 _ nm1_2.symm
  replace m3 : Ob (w5.setRow g1 ((h1 1).map V : List Value).toArray) (g3) 23 ((hz).map V) := Ob.setRow_other m3 _ nm1_3.symm
  replace bl : Below w.heap.size w (w5.setRow g1 ((h1 1).map V : List Value).toArray) := bl.trans (below_setRow _ _ _ _ hw1)
  generalize w5.setRow g1 ((h1 1).map V : List Value).toArray = w6b at bl m1 m2 m3 ⊢
  clear x6
  refine wl_store rfl (.tmp 2) (.tmp 7) rfl rfl (g2) (h1 2) (hz) x2 x7 m2 hz_len (h1_len 2) ?_
  replace m1 : Ob (w6b.setRow g2 ((h1 2).map V : List Value).toArray) (g1) 23 ((h1 1).map V) := Ob.setRow_other m1 _ nm1_2
  replace m2 : Ob (w6b.setRow g2 ((h1 2).map V : List Value).toArray) (g2) 23 ((h1 2).map V) := Ob.setRow m2 ((h1 2).map V)
  replace m3 : Ob (w6b.setRow g2 ((h1 2).map V : List Value).toArray) (g3) 23 ((hz).map V) := Ob.setRow_other m3 _ nm2_3.symm
  replace bl : Below w.heap.size w (w6b.setRow g2 ((h1 2).map V : List Value).toArray) := bl.trans (below_setRow _ _ _ _ hw2)
  generalize w6b.setRow g2 ((h1 2).map V : List Value).toArray = w7b at bl m1 m2 m3 ⊢
  clear x7
  refine wl_store rfl (.tmp 3) (.tmp 8) rfl rfl (g3) (h1 3) (hz) x3 x8 m3 hz_len (h1_len 3) ?_
  replace m1 : Ob (w7b.setRow g3 ((h1 3).map V : List Value).toArray) (g1) 23 ((h1 1).map V) := Ob.setRow_other m1 _ nm1_3
  replace m2 : Ob (w7b.setRow g3 ((h1 3).map V : List Value).toArray) (g2) 23 ((h1 2).map V) := Ob.setRow_other m2 _ nm2_3
  replace m3 : Ob (w7b.setRow g3 ((h1 3).map V : List Value).toArray) (g3) 23 ((h1 3).map V) := Ob.setRow m3 ((h1 3).map V)
  replace bl : Below w.heap.size w (w7b.setRow g3 ((h1 3).map V : List Value).toArray) := bl.trans (below_setRow _ _ _ _ hw3)
  generalize w7b.setRow g3 ((h1 3).map V : List Value).toArray = w8b at bl m1 m2 m3 ⊢
  refine wpList_nil ?_
  clear x8
  show Code.wp _ _ _ _ _
  refine wp_seq ?_
  refine wp_region_late [.eq (.agg ((h1 3).map V).toArray), .eq (.agg ((h1 1).map V).toArray), .eq (.agg ((h1 2).map V).toArray), .eq (.agg ((p).map V).toArray), .hc ([p]), .eq (.tuple #[.agg ((q).map V).toArray, .int .i64 0]), .eq (.tuple #[.agg ((q).map V).toArray, .int .i64 0]), .eq (.agg ((q).map V).toArray), .eq (.int .i64 0), .nw w8b.heap.size 23 ((hz).map V)] 8 17 _ _ [11] Tryd.mixed (by kernel_rfl) (by kernel_rfl) (by kernel_rfl) (by kernel_rfl) (by kernel_rfl) rfl rfl (by kernel_rfl) rfl (by kernel_rfl) rfl (by rw [sz]; kernel_rfl) (by kernel_rfl) (fun ac u K => ⟨_, late_ext rfl (K.dep 6 9 rfl) rfl, rfl⟩) ⟨fun hw ac u K => ?_, fun hw ac u K => ?_, fun hw ac u K => ?_, fun hw ac u K => ?_, fun hw ac u K => ?_, fun hw ac u K => ?_, fun hw ac u K => ?_, fun hw ac u K => ?_, fun hw ac u K => ?_, fun hw ac u K => ?_, trivial⟩ ?_
  · exact st_load23 (.tmp 3) rfl (g3) (h1 3) ((K.old 3 rfl).trans x3) (h1_len 3) (Ob.below m3 K.grow)
  · exact st_load23 (.tmp 1) rfl (g1) (h1 1) ((K.old 1 rfl).trans x1) (h1_len 1) (Ob.below m1 K.grow)
  · exact st_load23 (.tmp 2) rfl (g2) (h1 2) ((K.old 2 rfl).trans x2) (h1_len 2) (Ob.below m2 K.grow)
  · exact st_call 21 (.func 21) _ _ #[.agg ((h1 1).map V).toArray, .agg ((h1 2).map V).toArray] rfl rfl (arg2 (K.dep 1 11 rfl) (K.dep 2 12 rfl)) Tryd.enter21 (fk_node (h1_len 1) (h1_len 2) (hK.below (bl.trans (Below.mono K.grow bl.size))) ep)
  · exact st_bc1 (.tmp 13) rfl hp (K.dep 3 13 rfl)
  · exact st_call 9 (.func 9) _ _ #[.agg ((h1 3).map V).toArray, .int .i64 2, .int .i64 3, ac.eval (.tmp 14)] rfl rfl (arg4 (K.dep 0 10 rfl) rfl rfl rfl) Tryd.enter9 (fk_lead_23 (h1_len 3) (K.dep 4 14 rfl) (hK.below (bl.trans (Below.mono K.grow bl.size))) eq)
  · exact st_move (.tmp 15) rfl (K.dep 5 15 rfl)
  · exact st_ext0 (.tmp 9) rfl (K.dep 6 9 rfl) rfl
  · exact st_ext1 (.tmp 9) rfl (K.dep 6 9 rfl) rfl
  · exact st_alloc23 rfl _ K.grow.size
  intro f9 w9 A hb
  replace bl0 := bl
  replace x0 := (A.old 0 rfl).trans x0
  replace x1 := (A.old 1 rfl).trans x1
  replace x2 := (A.old 2 rfl).trans x2
  replace x3 := (A.old 3 rfl).trans x3
  have x4 : Fk.f (.nw w8b.heap.size 23 ((hz).map V)) (f9.eval (.tmp 4)) w9 := A.has 9 4 rfl
  have x16 : f9.eval (.tmp 16) = .agg ((q).map V).toArray := A.has 7 16 rfl
  have x17 : f9.eval (.tmp 17) = .int .i64 0 := A.has 8 17 rfl
  have lt_m1 := Ob.lt m1
  replace m1 := Ob.below m1 hb
  have lt_m2 := Ob.lt m2
  replace m2 := Ob.below m2 hb
  have lt_m3 := Ob.lt m3
  replace m3 := Ob.below m3 hb
  replace bl := (bl.trans (Below.mono hb bl.size))
  replace sz := A.size.trans sz
  replace df := A.defs.trans df
  clear A hb
  obtain ⟨g4, hg4, e4, m4⟩ := x4
  have x4 := e4
  clear e4
  have nm1_4 : g1 ≠ g4 := Nat.ne_of_lt (Nat.lt_of_lt_of_le lt_m1 hg4)
  have nm2_4 : g2 ≠ g4 := Nat.ne_of_lt (Nat.lt_of_lt_of_le lt_m2 hg4)
  have nm3_4 : g3 ≠ g4 := Nat.ne_of_lt (Nat.lt_of_lt_of_le lt_m3 hg4)
  have hw4 : w.heap.size ≤ g4 := Nat.le_trans bl0.size hg4
  refine ⟨_, run_store23 (.tmp 4) (.tmp 16) rfl (g4) (q) (hz) x4 x16 m4 hz_len hq, ?_⟩
  replace m1 : Ob (w9.setRow g4 ((q).map V : List Value).toArray) (g1) 23 ((h1 1).map V) := Ob.setRow_other m1 _ nm1_4
  replace m2 : Ob (w9.setRow g4 ((q).map V : List Value).toArray) (g2) 23 ((h1 2).map V) := Ob.setRow_other m2 _ nm2_4
  replace m3 : Ob (w9.setRow g4 ((q).map V : List Value).toArray) (g3) 23 ((h1 3).map V) := Ob.setRow_other m3 _ nm3_4
  replace m4 : Ob (w9.setRow g4 ((q).map V : List Value).toArray) (g4) 23 ((q).map V) := Ob.setRow m4 ((q).map V)
  replace bl : Below w.heap.size w (w9.setRow g4 ((q).map V : List Value).toArray) := bl.trans (below_setRow _ _ _ _ hw4)
  generalize w9.setRow g4 ((q).map V : List Value).toArray = w10b at bl m1 m2 m3 m4 ⊢
  clear x16
  refine wl_one (.eq (.int .i64 0)) rfl 5 rfl (by rw [sz]; decide) (st_assign (.tmp 17) rfl x17) ?_
  intro f11 w11 df2 sz2 old2 new2 hb
  replace bl0 := bl
  replace x0 := (old2 0 rfl).trans x0
  replace x1 := (old2 1 rfl).trans x1
  replace x2 := (old2 2 rfl).trans x2
  replace x3 := (old2 3 rfl).trans x3
  replace x4 := (old2 4 rfl).trans x4
  replace x17 := (old2 17 rfl).trans x17
  have x5 : f11.eval (.tmp 5) = .int .i64 0 := new2
  have lt_m1 := Ob.lt m1
  replace m1 := Ob.below m1 hb
  have lt_m2 := Ob.lt m2
  replace m2 := Ob.below m2 hb
  have lt_m3 := Ob.lt m3
  replace m3 := Ob.below m3 hb
  have lt_m4 := Ob.lt m4
  replace m4 := Ob.below m4 hb
  replace bl := (bl.trans (Below.mono hb bl.size))
  replace sz := sz2.trans sz
  replace df := df2.trans df
  clear df2 sz2 old2 new2 hb
  refine wpList_nil ?_
  clear x17
  show Code.wp _ _ _ _ _
  refine wp_seq ?_
  refine wp_all [.eq (.int .i64 0), .eq (.bool true), .eq (.bool true), .eq (.agg ((q).map V).toArray), .eq (.agg ((h1 1).map V).toArray), .eq (.agg ((h1 2).map V).toArray), .eq (.agg ((p).map V).toArray), .eq (.agg ((h1 3).map V).toArray), .eq (.agg ((q).map V).toArray), .eq (.bool true), .eq (.bool true), .eq (.bool true), .eq (.agg ((h1 3).map V).toArray), .eq (.agg ((h1 1).map V).toArray), .hc ([h1 1]), .eq (.agg ((q).map V).toArray), .eq (.int .i64 22), .eq (.bool true), .eq (.bool true), .eq (.bool true), .eq (.int .i64 3), .eq (.bool true), .eq (.bool true), .eq (.bool true)] Tryd.mixed (by kernel_rfl) (by kernel_rfl) (by rw [sz]; kernel_rfl) (by kernel_rfl) ⟨fun hw ac u K => ?_, fun hw ac u K => ?_, fun hw ac u K => ?_, fun hw ac u K => ?_, fun hw ac u K => ?_, fun hw ac u K => ?_, fun hw ac u K => ?_, fun hw ac u K => ?_, fun hw ac u K => ?_, fun hw ac u K => ?_, fun hw ac u K => ?_, fun hw ac u K => ?_, fun hw ac u K => ?_, fun hw ac u K => ?_, fun hw ac u K => ?_, fun hw ac u K => ?_, fun hw ac u K => ?_, fun hw ac u K => ?_, fun hw ac u K => ?_, fun hw ac u K => ?_, fun hw ac u K => ?_, fun hw ac u K => ?_, fun hw ac u K => ?_, fun hw ac u K => ?_, trivial⟩ ?_
  · exact st_move (.tmp 5) rfl ((K.old 5 rfl).trans x5)
  · exact st_eqi 28 (.tmp 18) (.const (.int .i64 0)) rfl .i64 (0) (0) (K.dep 0 18 rfl) rfl _ (by rfl)
  · exact st_move (.tmp 19) rfl (K.dep 1 19 rfl)
  · exact st_load23 (.tmp 4) rfl (g4) (q) ((K.old 4 rfl).trans x4) hq (Ob.below m4 K.grow)
  · exact st_load23 (.tmp 1) rfl (g1) (h1 1) ((K.old 1 rfl).trans x1) (h1_len 1) (Ob.below m1 K.grow)
  · exact st_load23 (.tmp 2) rfl (g2) (h1 2) ((K.old 2 rfl).trans x2) (h1_len 2) (Ob.below m2 K.grow)
  · exact st_call 21 (.func 21) _ _ #[.agg ((h1 1).map V).toArray, .agg ((h1 2).map V).toArray] rfl rfl (arg2 (K.dep 4 22 rfl) (K.dep 5 23 rfl)) Tryd.enter21 (fk_node (h1_len 1) (h1_len 2) (hK.below (bl.trans (Below.mono K.grow bl.size))) ep)
  · exact st_load23 (.tmp 3) rfl (g3) (h1 3) ((K.old 3 rfl).trans x3) (h1_len 3) (Ob.below m3 K.grow)
  · exact st_call 21 (.func 21) _ _ #[.agg ((p).map V).toArray, .agg ((h1 3).map V).toArray] rfl rfl (arg2 (K.dep 6 24 rfl) (K.dep 7 25 rfl)) Tryd.enter21 (fk_node hp (h1_len 3) (hK.below (bl.trans (Below.mono K.grow bl.size))) eq)
  · exact st_eqh (.tmp 21) (.tmp 26) rfl (q) (q) hq hq (K.dep 3 21 rfl) (K.dep 8 26 rfl) _ (by simp)
  · exact st_pick_t (.tmp 20) (.tmp 27) (.const (.bool false)) rfl (K.dep 2 20 rfl) (K.dep 9 27 rfl)
  · exact st_move (.tmp 28) rfl (K.dep 10 28 rfl)
  · exact st_load23 (.tmp 3) rfl (g3) (h1 3) ((K.old 3 rfl).trans x3) (h1_len 3) (Ob.below m3 K.grow)
  · exact st_load23 (.tmp 1) rfl (g1) (h1 1) ((K.old 1 rfl).trans x1) (h1_len 1) (Ob.below m1 K.grow)
  · exact st_bc1 (.tmp 31) rfl (h1_len 1) (K.dep 13 31 rfl)
  · exact st_load23 (.tmp 4) rfl (g4) (q) ((K.old 4 rfl).trans x4) hq (Ob.below m4 K.grow)
  · exact st_call 11 (.func 11) _ _ #[.agg ((h1 3).map V).toArray, .int .i64 2, .int .i64 3, ac.eval (.tmp 32), .agg ((q).map V).toArray] rfl rfl (arg5 (K.dep 12 30 rfl) rfl rfl rfl (K.dep 15 33 rfl)) Tryd.enter11 (fk_in_23 (h1_len 3) hq (K.dep 14 32 rfl) (hK.below (bl.trans (Below.mono K.grow bl.size))) hne)
  · exact st_eqi 28 (.tmp 34) (.const (.int .i64 22)) rfl .i64 (22) (22) (K.dep 16 34 rfl) rfl _ (by rfl)
  · exact st_pick_t (.tmp 29) (.tmp 35) (.const (.bool false)) rfl (K.dep 11 29 rfl) (K.dep 17 35 rfl)
  · exact st_move (.tmp 36) rfl (K.dep 18 36 rfl)
  · exact st_call 10 (.func 10) _ _ #[.int .i64 0, .int .i64 5] rfl rfl (arg2 rfl rfl) Tryd.enter10 (fk_len_05 _)
  · exact st_eqi 3 (.tmp 38) (.const (.int .i64 3)) rfl .i64 (3) (3) (K.dep 20 38 rfl) rfl _ (by rfl)
  · exact st_pick_t (.tmp 37) (.tmp 39) (.const (.bool false)) rfl (K.dep 19 37 rfl) (K.dep 21 39 rfl)
  · exact st_assign (.tmp 40) rfl (K.dep 22 40 rfl)
  intro f12 w12 A hb
  replace bl0 := bl
  clear x0
  replace x1 := (A.old 1 rfl).trans x1
  replace x2 := (A.old 2 rfl).trans x2
  replace x3 := (A.old 3 rfl).trans x3
  replace x4 := (A.old 4 rfl).trans x4
  replace x5 := (A.old 5 rfl).trans x5
  have x0 : f12.eval (.tmp 0) = .bool true := A.has 23 0 rfl
  have lt_m1 := Ob.lt m1
  replace m1 := Ob.below m1 hb
  have lt_m2 := Ob.lt m2
  replace m2 := Ob.below m2 hb
  have lt_m3 := Ob.lt m3
  replace m3 := Ob.below m3 hb
  have lt_m4 := Ob.lt m4
  replace m4 := Ob.below m4 hb
  replace bl := (bl.trans (Below.mono hb bl.size))
  replace sz := A.size.trans sz
  replace df := A.defs.trans df
  clear A hb
  clear x5
  show Code.wp _ _ _ _ _
  refine wp_ret ?_
  repeat (first | with_reducible refine then_ret ?_ | with_reducible refine block_ret ?_)
  exact bodyPost_ret (v := .bool true) (ret_slot rfl f12 _ x0 _ _) df ⟨rfl, bl⟩
end Go.Proofs.YthhnlemldpgbeaaDoor
namespace Go.Proofs.YthhnlemldpgbeaaDoor
set_option maxRecDepth 100000
open Go.RowKit
theorem msub_len (n : Nat) : ∀ (l : List (List (BitVec 8))) (m : Nat) (b : Bool), l.length = n → (msub l m b).length ≤ n + 1 := by
  induction n using Nat.strongRecOn with
  | ind n ih =>
    intro l m b hn
    by_cases hm : m = l.length
    · rw [msub, if_pos hm]; split <;> simp
    · by_cases h1 : l.length ≤ 1
      · rw [msub, if_neg hm, dif_pos h1]; exact Nat.zero_le _
      · have h2 : 2 ≤ l.length := by omega
        have hs := spl_lt h2
        have hp := spl_pos l.length
        by_cases hi : m ≤ spl l.length
        · have := ih (spl l.length) (by omega) (l.take (spl l.length)) m b (by rw [List.length_take]; omega)
          rw [msub_left h2 hm hi, List.length_append, List.length_singleton]; omega
        · have := ih (l.length - spl l.length) (by omega) (l.drop (spl l.length)) (m - spl l.length) false (by rw [List.length_drop])
          rw [msub_right h2 hm hi, List.length_append, List.length_singleton]; omega
end Go.Proofs.YthhnlemldpgbeaaDoor
namespace Go.Proofs.YthhnlemldpgbeaaDoor
set_option maxRecDepth 100000
open Go.RowKit
theorem own_h1 {w : World} {g base : Nat} {x : List (BitVec 8)} (h : HasV w g 23 x) (hx : x.length = 32) (hb : base ≤ g) : (Fk.ow base [x]).f (.slice (some ⟨g, 0, none⟩) 1 1) w := by
  refine ⟨⟨by simp [hx], .inr ⟨g, 1, (x.map V).toArray, rfl, hb, h, Nat.le_refl _, by unfold maxLen; omega, by simp [hx], ?_⟩⟩, fun i y hi => ?_⟩
  · simp only [List.length_cons, List.length_nil, List.flatten_cons, List.flatten_nil, List.append_nil]
    rw [List.take_of_length_le (by simp [hx])]
  · cases i with
    | zero => obtain rfl : x = y := by simpa using hi
              exact hx
    | succ i => simp at hi
theorem st_bo1 {Q : Exit → Act → World → Prop} {o : Oper} {a : Act} {w : World} (x : Operand) (ho : o.op = .buildSlice 24 1 #[(0, x)]) {hh : List (BitVec 8)} (hl : hh.length = 32) (hx : a.eval x = .agg (hh.map V).toArray) (g0 : Nat) (hg : g0 ≤ w.heap.size) : o.wp Tryd.prog a w (Ends a o.dst w (Fk.ow g0 [hh]).f) Q := by
  refine st_run (v := .slice (some ⟨w.heap.size, 0, none⟩) 1 1) (w' := w.alloc (.cells (hh.map V).toArray 23)) ?_ ((Below.refl _ _).alloc (Nat.le_refl _) _) (own_h1 (heap_alloc_new _ _) hl hg)
  have := Tryd.build24 hh hl w
  unfold execOp
  rw [ho]
  simp [hx, this]
theorem going_any (l : List (List (BitVec 8))) (m : Nat) (b : Bool) (hm1 : 1 ≤ m) (hm : m ≤ l.length) : ∀ (w : World) (v : Value), l.length ≤ 1000 → (Fk.hc l).f v w → Tab w →
    Calls Tryd.prog 34 #[v, .int .i64 ((m : Nat) : Int), .bool b] w fun e w' => ∃ u, e = .returned u ∧ (Fk.ow w.heap.size (msub l m b)).f u w' ∧ Below w.heap.size w w' := by
  suffices H : ∀ (n : Nat) (l : List (List (BitVec 8))), l.length = n → ∀ (m : Nat) (b : Bool), 1 ≤ m → m ≤ l.length → ∀ (w : World) (v : Value), l.length ≤ 1000 → (Fk.hc l).f v w → Tab w →
    Calls Tryd.prog 34 #[v, .int .i64 ((m : Nat) : Int), .bool b] w fun e w' => ∃ u, e = .returned u ∧ (Fk.ow w.heap.size (msub l m b)).f u w' ∧ Below w.heap.size w w' from H _ l rfl m b hm1 hm
  clear hm hm1 m l b
  intro n
  induction n using Nat.strongRecOn with
  | ind n ih0 =>
  intro l hn m b hm1 hm w v h1000 hv hK
  have ih : ∀ (l' : List (List (BitVec 8))), l'.length < n → ∀ (m : Nat) (b : Bool), 1 ≤ m → m ≤ l'.length → ∀ (w : World) (v : Value), l'.length ≤ 1000 → (Fk.hc l').f v w → Tab w →
    Calls Tryd.prog 34 #[v, .int .i64 ((m : Nat) : Int), .bool b] w fun e w' => ∃ u, e = .returned u ∧ (Fk.ow w.heap.size (msub l' m b)).f u w' ∧ Below w.heap.size w w' := fun l' hl' => ih0 _ hl' l' rfl
  clear ih0
  by_cases hml : m = l.length
  · cases b
    · obtain ⟨y, ey⟩ : ∃ p, Box (mroot l = p) := ⟨_, ⟨rfl⟩⟩
      have hy : y.length = 32 := by rw [← ey.out]; exact mroot_len (hc_len hv)
      go_enter Tryd.func34, Tryd.ntmps34
      refine code_both (fun f w1 => f.tmps.size = 53 ∧ f.defers = [] ∧ f.eval (.tmp 0) = v ∧ f.eval (.tmp 1) = .int .i64 ((m : Nat) : Int) ∧ f.eval (.tmp 2) = .bool false ∧ Below w.heap.size w (w1)) ⟨rfl, rfl, rfl, rfl, rfl, Below.refl _ _⟩ ?_
      rintro f0 w0 ⟨sz, df, x0, x1, x2, bl⟩
      have bl0 := bl
      refine wp_seq ?_
      refine wp_all_seq [.eq (.slice none 0 0)] (by kernel_rfl) (by kernel_rfl) (by rw [sz]; kernel_rfl) (by kernel_rfl) ⟨fun hw ac u K => ?_, trivial⟩ ?_
      · exact st_assign (.const (.slice none 0 0)) rfl rfl
      intro f1 w1 A hb
      replace bl0 := bl
      replace x0 := (A.old 0 rfl).trans x0
      replace x1 := (A.old 1 rfl).trans x1
      replace x2 := (A.old 2 rfl).trans x2
      have x6 : f1.eval (.tmp 6) = .slice none 0 0 := A.has 0 6 rfl
      replace bl := (bl.trans (Below.mono hb bl.size))
      replace sz := A.size.trans sz
      replace df := A.defs.trans df
      clear A hb
      show Code.wp _ _ _ _ _
      refine wp_seq ?_
      refine wp_seq ?_
      refine wp_all_seq [.eq (.int .i64 ((m : Nat) : Int)), .eq (v), .eq (.int .i64 (((l).length : Nat) : Int)), .eq (.bool true), .eq (.bool true), .eq (.bool false), .eq (.bool false)] (by kernel_rfl) (by kernel_rfl) (by rw [sz]; kernel_rfl) (by kernel_rfl) ⟨fun hw ac u K => ?_, fun hw ac u K => ?_, fun hw ac u K => ?_, fun hw ac u K => ?_, fun hw ac u K => ?_, fun hw ac u K => ?_, fun hw ac u K => ?_, trivial⟩ ?_
      · exact st_move (.tmp 1) rfl ((K.old 1 rfl).trans x1)
      · exact st_move (.tmp 0) rfl ((K.old 0 rfl).trans x0)
      · exact st_lenc (.tmp 9) rfl ((l).length) rfl (fk_val (K.dep 1 9 rfl) (Fk.mono _ _ _ _ hv (bl.trans (Below.mono K.grow bl.size))))
      · exact st_eqi 3 (.tmp 8) (.tmp 10) rfl .i64 (((m : Nat) : Int)) ((((l).length : Nat) : Int)) (K.dep 0 8 rfl) (K.dep 2 10 rfl) _ (by rw [eq_comm, decide_eq_true_iff]; omega)
      · exact st_move (.tmp 11) rfl (K.dep 3 11 rfl)
      · exact st_move (.tmp 2) rfl ((K.old 2 rfl).trans x2)
      · exact st_pick_t (.tmp 12) (.tmp 13) (.const (.bool false)) rfl (K.dep 4 12 rfl) (K.dep 5 13 rfl)
      intro f2 w2 A hb
      replace bl0 := bl
      replace x0 := (A.old 0 rfl).trans x0
      replace x1 := (A.old 1 rfl).trans x1
      replace x2 := (A.old 2 rfl).trans x2
      replace x6 := (A.old 6 rfl).trans x6
      have x14 : f2.eval (.tmp 14) = .bool false := A.has 6 14 rfl
      replace bl := (bl.trans (Below.mono hb bl.size))
      replace sz := A.size.trans sz
      replace df := A.defs.trans df
      clear A hb
      show Code.wp _ _ _ _ _
      refine wp_cond_false x14 ?_
      refine wp_skip ?_
      show Code.wp _ _ _ _ _
      refine wp_seq ?_
      refine wp_seq ?_
      refine wp_all_seq [.eq (.int .i64 ((m : Nat) : Int)), .eq (v), .eq (.int .i64 (((l).length : Nat) : Int)), .eq (.bool true)] (by kernel_rfl) (by kernel_rfl) (by rw [sz]; kernel_rfl) (by kernel_rfl) ⟨fun hw ac u K => ?_, fun hw ac u K => ?_, fun hw ac u K => ?_, fun hw ac u K => ?_, trivial⟩ ?_
      · exact st_move (.tmp 1) rfl ((K.old 1 rfl).trans x1)
      · exact st_move (.tmp 0) rfl ((K.old 0 rfl).trans x0)
      · exact st_lenc (.tmp 16) rfl ((l).length) rfl (fk_val (K.dep 1 16 rfl) (Fk.mono _ _ _ _ hv (bl.trans (Below.mono K.grow bl.size))))
      · exact st_eqi 3 (.tmp 15) (.tmp 17) rfl .i64 (((m : Nat) : Int)) ((((l).length : Nat) : Int)) (K.dep 0 15 rfl) (K.dep 2 17 rfl) _ (by rw [eq_comm, decide_eq_true_iff]; omega)
      intro f3 w3 A hb
      replace bl0 := bl
      replace x0 := (A.old 0 rfl).trans x0
      replace x1 := (A.old 1 rfl).trans x1
      replace x2 := (A.old 2 rfl).trans x2
      replace x6 := (A.old 6 rfl).trans x6
      replace x14 := (A.old 14 rfl).trans x14
      have x18 : f3.eval (.tmp 18) = .bool true := A.has 3 18 rfl
      replace bl := (bl.trans (Below.mono hb bl.size))
      replace sz := A.size.trans sz
      replace df := A.defs.trans df
      clear A hb
      show Code.wp _ _ _ _ _
      refine wp_cond_true x18 ?_
      refine wp_seq ?_
      refine wp_all_seq [.eq (v), .eq (.agg ((y).map V).toArray), .ow w.heap.size ([y]), .ow w.heap.size ([y])] (by kernel_rfl) (by kernel_rfl) (by rw [sz]; kernel_rfl) (by kernel_rfl) ⟨fun hw ac u K => ?_, fun hw ac u K => ?_, fun hw ac u K => ?_, fun hw ac u K => ?_, trivial⟩ ?_
      · exact st_move (.tmp 0) rfl ((K.old 0 rfl).trans x0)
      · exact st_call 18 (.func 18) _ _ #[v] rfl rfl (one_arg (K.dep 0 19 rfl)) Tryd.enter18 (fk_of (root_any l _ _ h1000 (Fk.mono _ _ _ _ hv (bl.trans (Below.mono K.grow bl.size))) (hK.below (bl.trans (Below.mono K.grow bl.size))) ey))
      · exact st_bo1 (.tmp 20) rfl hy (K.dep 1 20 rfl) _ (bl.trans (Below.mono K.grow bl.size)).size
      · exact st_assign (.tmp 21) rfl (K.dep 2 21 rfl)
      intro f4 w4 A hb
      replace bl0 := bl
      replace x0 := (A.old 0 rfl).trans x0
      replace x1 := (A.old 1 rfl).trans x1
      replace x2 := (A.old 2 rfl).trans x2
      clear x6
      replace x14 := (A.old 14 rfl).trans x14
      replace x18 := (A.old 18 rfl).trans x18
      have x6 : Fk.f (.ow w.heap.size ([y])) (f4.eval (.tmp 6)) w4 := A.has 3 6 rfl
      replace bl := (bl.trans (Below.mono hb bl.size))
      replace sz := A.size.trans sz
      replace df := A.defs.trans df
      clear A hb
      show Code.wp _ _ _ _ _
      refine wp_ret ?_
      repeat (first | with_reducible refine then_ret ?_ | with_reducible refine block_ret ?_)
      rw [hml, msub_part, ey.out]
      exact bodyPost_ret (v := f4.eval (.tmp 6)) (ret_slot rfl f4 _ rfl _ _) df ⟨_, rfl, x6, bl⟩
    · skip
      go_enter Tryd.func34, Tryd.ntmps34
      refine code_both (fun f w1 => f.tmps.size = 53 ∧ f.defers = [] ∧ f.eval (.tmp 0) = v ∧ f.eval (.tmp 1) = .int .i64 ((m : Nat) : Int) ∧ f.eval (.tmp 2) = .bool true ∧ Below w.heap.size w (w1)) ⟨rfl, rfl, rfl, rfl, rfl, Below.refl _ _⟩ ?_
      rintro f0 w0 ⟨sz, df, x0, x1, x2, bl⟩
      have bl0 := bl
      refine wp_seq ?_
      refine wp_all_seq [.eq (.slice none 0 0)] (by kernel_rfl) (by kernel_rfl) (by rw [sz]; kernel_rfl) (by kernel_rfl) ⟨fun hw ac u K => ?_, trivial⟩ ?_
      · exact st_assign (.const (.slice none 0 0)) rfl rfl
      intro f1 w1 A hb
      replace bl0 := bl
      replace x0 := (A.old 0 rfl).trans x0
      replace x1 := (A.old 1 rfl).trans x1
      replace x2 := (A.old 2 rfl).trans x2
      have x6 : f1.eval (.tmp 6) = .slice none 0 0 := A.has 0 6 rfl
      replace bl := (bl.trans (Below.mono hb bl.size))
      replace sz := A.size.trans sz
      replace df := A.defs.trans df
      clear A hb
      show Code.wp _ _ _ _ _
      refine wp_seq ?_
      refine wp_seq ?_
      refine wp_all_seq [.eq (.int .i64 ((m : Nat) : Int)), .eq (v), .eq (.int .i64 (((l).length : Nat) : Int)), .eq (.bool true), .eq (.bool true), .eq (.bool true), .eq (.bool true)] (by kernel_rfl) (by kernel_rfl) (by rw [sz]; kernel_rfl) (by kernel_rfl) ⟨fun hw ac u K => ?_, fun hw ac u K => ?_, fun hw ac u K => ?_, fun hw ac u K => ?_, fun hw ac u K => ?_, fun hw ac u K => ?_, fun hw ac u K => ?_, trivial⟩ ?_
      · exact st_move (.tmp 1) rfl ((K.old 1 rfl).trans x1)
      · exact st_move (.tmp 0) rfl ((K.old 0 rfl).trans x0)
      · exact st_lenc (.tmp 9) rfl ((l).length) rfl (fk_val (K.dep 1 9 rfl) (Fk.mono _ _ _ _ hv (bl.trans (Below.mono K.grow bl.size))))
      · exact st_eqi 3 (.tmp 8) (.tmp 10) rfl .i64 (((m : Nat) : Int)) ((((l).length : Nat) : Int)) (K.dep 0 8 rfl) (K.dep 2 10 rfl) _ (by rw [eq_comm, decide_eq_true_iff]; omega)
      · exact st_move (.tmp 11) rfl (K.dep 3 11 rfl)
      · exact st_move (.tmp 2) rfl ((K.old 2 rfl).trans x2)
      · exact st_pick_t (.tmp 12) (.tmp 13) (.const (.bool false)) rfl (K.dep 4 12 rfl) (K.dep 5 13 rfl)
      intro f2 w2 A hb
      replace bl0 := bl
      replace x0 := (A.old 0 rfl).trans x0
      replace x1 := (A.old 1 rfl).trans x1
      replace x2 := (A.old 2 rfl).trans x2
      replace x6 := (A.old 6 rfl).trans x6
      have x14 : f2.eval (.tmp 14) = .bool true := A.has 6 14 rfl
      replace bl := (bl.trans (Below.mono hb bl.size))
      replace sz := A.size.trans sz
      replace df := A.defs.trans df
      clear A hb
      show Code.wp _ _ _ _ _
      refine wp_cond_true x14 ?_
      refine wp_seq ?_
      refine wp_all_seq [.eq (.slice none 0 0)] (by kernel_rfl) (by kernel_rfl) (by rw [sz]; kernel_rfl) (by kernel_rfl) ⟨fun hw ac u K => ?_, trivial⟩ ?_
      · exact st_assign (.const (.slice none 0 0)) rfl rfl
      intro f3 w3 A hb
      replace bl0 := bl
      replace x0 := (A.old 0 rfl).trans x0
      replace x1 := (A.old 1 rfl).trans x1
      replace x2 := (A.old 2 rfl).trans x2
      clear x6
      replace x14 := (A.old 14 rfl).trans x14
      have x6 : f3.eval (.tmp 6) = .slice none 0 0 := A.has 0 6 rfl
      replace bl := (bl.trans (Below.mono hb bl.size))
      replace sz := A.size.trans sz
      replace df := A.defs.trans df
      clear A hb
      show Code.wp _ _ _ _ _
      refine wp_ret ?_
      repeat (first | with_reducible refine then_ret ?_ | with_reducible refine block_ret ?_)
      rw [hml, msub_all]
      exact bodyPost_ret (v := .slice none 0 0) (ret_slot rfl f3 _ x6 _ _) df ⟨_, rfl, ow_nil _ _, bl⟩
  · skip
    have h2 : 2 ≤ l.length := by omega
    obtain ⟨k, hk⟩ : ∃ k, spl l.length = k := ⟨_, rfl⟩
    have hk1 : k < l.length := by rw [← hk]; exact spl_lt h2
    have hk2 : 1 ≤ k := by rw [← hk]; exact spl_pos _
    obtain ⟨y1, ey1⟩ : ∃ p, Box (mroot (l.take k) = p) := ⟨_, ⟨rfl⟩⟩
    obtain ⟨y2, ey2⟩ : ∃ p, Box (mroot (l.drop k) = p) := ⟨_, ⟨rfl⟩⟩
    have hy1 : y1.length = 32 := by rw [← ey1.out]; exact mroot_len (fun x hx => hc_len hv x (List.mem_of_mem_take hx))
    have hy2 : y2.length = 32 := by rw [← ey2.out]; exact mroot_len (fun x hx => hc_len hv x (List.mem_of_mem_drop hx))
    go_enter Tryd.func34, Tryd.ntmps34
    refine code_both (fun f w1 => f.tmps.size = 53 ∧ f.defers = [] ∧ f.eval (.tmp 0) = v ∧ f.eval (.tmp 1) = .int .i64 ((m : Nat) : Int) ∧ f.eval (.tmp 2) = .bool b ∧ Below w.heap.size w (w1)) ⟨rfl, rfl, rfl, rfl, rfl, Below.refl _ _⟩ ?_
    rintro f0 w0 ⟨sz, df, x0, x1, x2, bl⟩
    have bl0 := bl
    refine wp_seq ?_
    refine wp_all_seq [.eq (.slice none 0 0)] (by kernel_rfl) (by kernel_rfl) (by rw [sz]; kernel_rfl) (by kernel_rfl) ⟨fun hw ac u K => ?_, trivial⟩ ?_
    · exact st_assign (.const (.slice none 0 0)) rfl rfl
    intro f1 w1 A hb
    replace bl0 := bl
    replace x0 := (A.old 0 rfl).trans x0
    replace x1 := (A.old 1 rfl).trans x1
    replace x2 := (A.old 2 rfl).trans x2
    have x6 : f1.eval (.tmp 6) = .slice none 0 0 := A.has 0 6 rfl
    replace bl := (bl.trans (Below.mono hb bl.size))
    replace sz := A.size.trans sz
    replace df := A.defs.trans df
    clear A hb
    show Code.wp _ _ _ _ _
    refine wp_seq ?_
    refine wp_seq ?_
    refine wp_all_seq [.eq (.int .i64 ((m : Nat) : Int)), .eq (v), .eq (.int .i64 (((l).length : Nat) : Int)), .eq (.bool false), .eq (.bool false), .any, .eq (.bool false)] (by kernel_rfl) (by kernel_rfl) (by rw [sz]; kernel_rfl) (by kernel_rfl) ⟨fun hw ac u K => ?_, fun hw ac u K => ?_, fun hw ac u K => ?_, fun hw ac u K => ?_, fun hw ac u K => ?_, fun hw ac u K => ?_, fun hw ac u K => ?_, trivial⟩ ?_
    · exact st_move (.tmp 1) rfl ((K.old 1 rfl).trans x1)
    · exact st_move (.tmp 0) rfl ((K.old 0 rfl).trans x0)
    · exact st_lenc (.tmp 9) rfl ((l).length) rfl (fk_val (K.dep 1 9 rfl) (Fk.mono _ _ _ _ hv (bl.trans (Below.mono K.grow bl.size))))
    · exact st_eqi 3 (.tmp 8) (.tmp 10) rfl .i64 (((m : Nat) : Int)) ((((l).length : Nat) : Int)) (K.dep 0 8 rfl) (K.dep 2 10 rfl) _ (by rw [eq_comm, decide_eq_false_iff_not]; omega)
    · exact st_move (.tmp 11) rfl (K.dep 3 11 rfl)
    · exact (Bool.false_ne_true hw).elim
    · exact st_pick_f' (.tmp 12) (.tmp 13) (.const (.bool false)) rfl (K.dep 4 12 rfl) rfl
    intro f2 w2 A hb
    replace bl0 := bl
    replace x0 := (A.old 0 rfl).trans x0
    replace x1 := (A.old 1 rfl).trans x1
    replace x2 := (A.old 2 rfl).trans x2
    replace x6 := (A.old 6 rfl).trans x6
    have x14 : f2.eval (.tmp 14) = .bool false := A.has 6 14 rfl
    replace bl := (bl.trans (Below.mono hb bl.size))
    replace sz := A.size.trans sz
    replace df := A.defs.trans df
    clear A hb
    show Code.wp _ _ _ _ _
    refine wp_cond_false x14 ?_
    refine wp_skip ?_
    show Code.wp _ _ _ _ _
    refine wp_seq ?_
    refine wp_seq ?_
    refine wp_all_seq [.eq (.int .i64 ((m : Nat) : Int)), .eq (v), .eq (.int .i64 (((l).length : Nat) : Int)), .eq (.bool false)] (by kernel_rfl) (by kernel_rfl) (by rw [sz]; kernel_rfl) (by kernel_rfl) ⟨fun hw ac u K => ?_, fun hw ac u K => ?_, fun hw ac u K => ?_, fun hw ac u K => ?_, trivial⟩ ?_
    · exact st_move (.tmp 1) rfl ((K.old 1 rfl).trans x1)
    · exact st_move (.tmp 0) rfl ((K.old 0 rfl).trans x0)
    · exact st_lenc (.tmp 16) rfl ((l).length) rfl (fk_val (K.dep 1 16 rfl) (Fk.mono _ _ _ _ hv (bl.trans (Below.mono K.grow bl.size))))
    · exact st_eqi 3 (.tmp 15) (.tmp 17) rfl .i64 (((m : Nat) : Int)) ((((l).length : Nat) : Int)) (K.dep 0 15 rfl) (K.dep 2 17 rfl) _ (by rw [eq_comm, decide_eq_false_iff_not]; omega)
    intro f3 w3 A hb
    replace bl0 := bl
    replace x0 := (A.old 0 rfl).trans x0
    replace x1 := (A.old 1 rfl).trans x1
    replace x2 := (A.old 2 rfl).trans x2
    replace x6 := (A.old 6 rfl).trans x6
    replace x14 := (A.old 14 rfl).trans x14
    have x18 : f3.eval (.tmp 18) = .bool false := A.has 3 18 rfl
    replace bl := (bl.trans (Below.mono hb bl.size))
    replace sz := A.size.trans sz
    replace df := A.defs.trans df
    clear A hb
    show Code.wp _ _ _ _ _
    refine wp_cond_false x18 ?_
    refine wp_skip ?_
    show Code.wp _ _ _ _ _
    refine wp_seq ?_
    refine wp_all_seq [.eq (v), .eq (.int .i64 (((l).length : Nat) : Int)), .eq (.int .i64 ((k : Nat) : Int)), .eq (.int .i64 ((k : Nat) : Int))] (by kernel_rfl) (by kernel_rfl) (by rw [sz]; kernel_rfl) (by kernel_rfl) ⟨fun hw ac u K => ?_, fun hw ac u K => ?_, fun hw ac u K => ?_, fun hw ac u K => ?_, trivial⟩ ?_
    · exact st_move (.tmp 0) rfl ((K.old 0 rfl).trans x0)
    · exact st_lenc (.tmp 22) rfl ((l).length) rfl (fk_val (K.dep 0 22 rfl) (Fk.mono _ _ _ _ hv (bl.trans (Below.mono K.grow bl.size))))
    · exact st_call 32 (.func 32) _ _ #[.int .i64 (((l).length : Nat) : Int)] rfl rfl (one_arg (K.dep 1 23 rfl)) Tryd.enter32 (by rw [← hk]; exact fk_of (split_hi l.length (by omega) (by omega) _))
    · exact st_assign (.tmp 24) rfl (K.dep 2 24 rfl)
    intro f4 w4 A hb
    replace bl0 := bl
    replace x0 := (A.old 0 rfl).trans x0
    replace x1 := (A.old 1 rfl).trans x1
    replace x2 := (A.old 2 rfl).trans x2
    replace x6 := (A.old 6 rfl).trans x6
    replace x14 := (A.old 14 rfl).trans x14
    replace x18 := (A.old 18 rfl).trans x18
    have x7 : f4.eval (.tmp 7) = .int .i64 ((k : Nat) : Int) := A.has 3 7 rfl
    replace bl := (bl.trans (Below.mono hb bl.size))
    replace sz := A.size.trans sz
    replace df := A.defs.trans df
    clear A hb
    show Code.wp _ _ _ _ _
    refine wp_seq ?_
    refine wp_seq ?_
    by_cases hik : m ≤ k
    rotate_left
    · skip
      have hl1 := msub_len _ (l.drop k) (m - k) false rfl
      rw [List.length_drop] at hl1
      refine wp_all_seq [.eq (.int .i64 ((m : Nat) : Int)), .eq (.int .i64 ((k : Nat) : Int)), .eq (.bool false)] (by kernel_rfl) (by kernel_rfl) (by rw [sz]; kernel_rfl) (by kernel_rfl) ⟨fun hw ac u K => ?_, fun hw ac u K => ?_, fun hw ac u K => ?_, trivial⟩ ?_
      · exact st_move (.tmp 1) rfl ((K.old 1 rfl).trans x1)
      · exact st_move (.tmp 7) rfl ((K.old 7 rfl).trans x7)
      · exact st_leq 3 (.tmp 25) (.tmp 26) rfl .i64 (((m : Nat) : Int)) (((k : Nat) : Int)) (K.dep 0 25 rfl) (K.dep 1 26 rfl) _ (by first | (simp; done) | (simp; omega))
      intro f5 w5 A hb
      replace bl0 := bl
      replace x0 := (A.old 0 rfl).trans x0
      replace x1 := (A.old 1 rfl).trans x1
      replace x2 := (A.old 2 rfl).trans x2
      replace x6 := (A.old 6 rfl).trans x6
      replace x14 := (A.old 14 rfl).trans x14
      replace x18 := (A.old 18 rfl).trans x18
      replace x7 := (A.old 7 rfl).trans x7
      have x27 : f5.eval (.tmp 27) = .bool false := A.has 2 27 rfl
      replace bl := (bl.trans (Below.mono hb bl.size))
      replace sz := A.size.trans sz
      replace df := A.defs.trans df
      clear A hb
      show Code.wp _ _ _ _ _
      refine wp_cond_false x27 ?_
      refine wp_skip ?_
      show Code.wp _ _ _ _ _
      refine wp_seq ?_
      refine wp_region_tail [.eq (v), .eq (.int .i64 ((k : Nat) : Int)), .hc ((l).drop (k)), .eq (.int .i64 ((m : Nat) : Int)), .eq (.int .i64 ((k : Nat) : Int)), .eq (.int .i64 ((m - k : Nat) : Int)), .ow w.heap.size (msub (l.drop k) (m - k) false), .eq (v), .eq (.int .i64 ((k : Nat) : Int)), .hc ((l).take (k)), .eq (.agg ((y1).map V).toArray), .hs ([y1])] [12, 13] Tryd.mixed (by kernel_rfl) (by kernel_rfl) (by kernel_rfl) (by kernel_rfl) (by rw [sz]; kernel_rfl) (by kernel_rfl) ⟨fun hw ac u K => ?_, fun hw ac u K => ?_, fun hw ac u K => ?_, fun hw ac u K => ?_, fun hw ac u K => ?_, fun hw ac u K => ?_, fun hw ac u K => ?_, fun hw ac u K => ?_, fun hw ac u K => ?_, fun hw ac u K => ?_, fun hw ac u K => ?_, fun hw ac u K => ?_, trivial⟩ ?_
      · exact st_move (.tmp 0) rfl ((K.old 0 rfl).trans x0)
      · exact st_move (.tmp 7) rfl ((K.old 7 rfl).trans x7)
      · exact st_restc (.tmp 40) (.tmp 41) rfl (fk_val (K.dep 0 40 rfl) (Fk.mono _ _ _ _ hv (bl.trans (Below.mono K.grow bl.size)))) (k) (K.dep 1 41 rfl) (by omega)
      · exact st_move (.tmp 1) rfl ((K.old 1 rfl).trans x1)
      · exact st_move (.tmp 7) rfl ((K.old 7 rfl).trans x7)
      · exact st_sub (.tmp 43) (.tmp 44) rfl (m) (k) (m - k) (K.dep 3 43 rfl) (K.dep 4 44 rfl) (by omega) (by omega)
      · exact st_call 34 (.func 34) _ _ #[ac.eval (.tmp 42), .int .i64 ((m - k : Nat) : Int), .bool false] rfl rfl (arg3 rfl (K.dep 5 45 rfl) rfl) Tryd.enter34 (fk_ow (bl.trans (Below.mono K.grow bl.size)).size (ih (l.drop k) (by rw [List.length_drop]; omega) (m - k) false (by omega) (by rw [List.length_drop]; omega) _ _ (by rw [List.length_drop]; omega) (K.dep 2 42 rfl) (hK.below (bl.trans (Below.mono K.grow bl.size)))))
      · exact st_move (.tmp 0) rfl ((K.old 0 rfl).trans x0)
      · exact st_move (.tmp 7) rfl ((K.old 7 rfl).trans x7)
      · exact st_cuth (.tmp 47) (.tmp 48) rfl (fk_val (K.dep 7 47 rfl) (Fk.mono _ _ _ _ hv (bl.trans (Below.mono K.grow bl.size)))) (k) (K.dep 8 48 rfl) (by omega)
      · exact st_call 18 (.func 18) _ _ #[ac.eval (.tmp 49)] rfl rfl (one_arg rfl) Tryd.enter18 (fk_of (root_any (l.take k) _ _ (by rw [List.length_take]; omega) (K.dep 9 49 rfl) (hK.below (bl.trans (Below.mono K.grow bl.size))) ey1))
      · exact st_bh1 (.tmp 50) rfl hy1 (K.dep 10 50 rfl)
      intro f6 w6 A hb
      replace bl0 := bl
      replace x0 := (A.old 0 rfl).trans x0
      replace x1 := (A.old 1 rfl).trans x1
      replace x2 := (A.old 2 rfl).trans x2
      replace x6 := (A.old 6 rfl).trans x6
      replace x14 := (A.old 14 rfl).trans x14
      replace x18 := (A.old 18 rfl).trans x18
      replace x7 := (A.old 7 rfl).trans x7
      replace x27 := (A.old 27 rfl).trans x27
      have x46 : Fk.f (.ow w.heap.size (msub (l.drop k) (m - k) false)) (f6.eval (.tmp 46)) w6 := A.has 6 46 rfl
      have x51 : Fk.f (.hs ([y1])) (f6.eval (.tmp 51)) w6 := A.has 11 51 rfl
      replace bl := (bl.trans (Below.mono hb bl.size))
      replace sz := A.size.trans sz
      replace df := A.defs.trans df
      clear A hb
      refine wl_append rfl (.tmp 46) (.tmp 51) rfl 52 rfl (by rw [sz]; decide) x46 x51 bl (by omega) ?_
      intro f7 w7 df2 sz2 old2 new2 bl2
      clear x46
      clear x51
      replace x0 := (old2 0 rfl).trans x0
      replace x1 := (old2 1 rfl).trans x1
      replace x2 := (old2 2 rfl).trans x2
      replace x6 := (old2 6 rfl).trans x6
      replace x14 := (old2 14 rfl).trans x14
      replace x18 := (old2 18 rfl).trans x18
      replace x7 := (old2 7 rfl).trans x7
      replace x27 := (old2 27 rfl).trans x27
      have x52 : Fk.f (.ow w.heap.size (msub (l.drop k) (m - k) false ++ [y1])) (f7.eval (.tmp 52)) w7 := new2
      replace bl := bl2
      replace bl0 := bl
      replace sz := sz2.trans sz
      replace df := df2.trans df
      clear df2 sz2 old2 new2 bl2
      refine wl_one (.ow w.heap.size (msub (l.drop k) (m - k) false ++ [y1])) rfl 6 rfl (by rw [sz]; decide) (st_assign (.tmp 52) rfl x52) ?_
      intro f8 w8 df2 sz2 old2 new2 hb
      replace bl0 := bl
      replace x0 := (old2 0 rfl).trans x0
      replace x1 := (old2 1 rfl).trans x1
      replace x2 := (old2 2 rfl).trans x2
      clear x6
      replace x14 := (old2 14 rfl).trans x14
      replace x18 := (old2 18 rfl).trans x18
      replace x7 := (old2 7 rfl).trans x7
      replace x27 := (old2 27 rfl).trans x27
      replace x52 := f_at (old2 52 rfl) (Fk.mono _ _ _ _ x52 hb)
      have x6 : Fk.f (.ow w.heap.size (msub (l.drop k) (m - k) false ++ [y1])) (f8.eval (.tmp 6)) w8 := new2
      replace bl := (bl.trans (Below.mono hb bl.size))
      replace sz := sz2.trans sz
      replace df := df2.trans df
      clear df2 sz2 old2 new2 hb
      refine wpList_nil ?_
      clear x52
      show Code.wp _ _ _ _ _
      refine wp_ret ?_
      repeat (first | with_reducible refine then_ret ?_ | with_reducible refine block_ret ?_)
      rw [msub_right h2 hml (by rw [hk]; exact hik), hk, ey1.out]
      exact bodyPost_ret (v := f8.eval (.tmp 6)) (ret_slot rfl f8 _ rfl _ _) df ⟨_, rfl, x6, bl⟩
    have hl1 := msub_len _ (l.take k) m b rfl
    rw [List.length_take] at hl1
    refine wp_all_seq [.eq (.int .i64 ((m : Nat) : Int)), .eq (.int .i64 ((k : Nat) : Int)), .eq (.bool true)] (by kernel_rfl) (by kernel_rfl) (by rw [sz]; kernel_rfl) (by kernel_rfl) ⟨fun hw ac u K => ?_, fun hw ac u K => ?_, fun hw ac u K => ?_, trivial⟩ ?_
    · exact st_move (.tmp 1) rfl ((K.old 1 rfl).trans x1)
    · exact st_move (.tmp 7) rfl ((K.old 7 rfl).trans x7)
    · exact st_leq 3 (.tmp 25) (.tmp 26) rfl .i64 (((m : Nat) : Int)) (((k : Nat) : Int)) (K.dep 0 25 rfl) (K.dep 1 26 rfl) _ (by first | (simp; done) | (simp; omega))
    intro f5 w5 A hb
    replace bl0 := bl
    replace x0 := (A.old 0 rfl).trans x0
    replace x1 := (A.old 1 rfl).trans x1
    replace x2 := (A.old 2 rfl).trans x2
    replace x6 := (A.old 6 rfl).trans x6
    replace x14 := (A.old 14 rfl).trans x14
    replace x18 := (A.old 18 rfl).trans x18
    replace x7 := (A.old 7 rfl).trans x7
    have x27 : f5.eval (.tmp 27) = .bool true := A.has 2 27 rfl
    replace bl := (bl.trans (Below.mono hb bl.size))
    replace sz := A.size.trans sz
    replace df := A.defs.trans df
    clear A hb
    show Code.wp _ _ _ _ _
    refine wp_cond_true x27 ?_
    refine wp_seq ?_
    refine wp_region_tail [.eq (v), .eq (.int .i64 ((k : Nat) : Int)), .hc ((l).take (k)), .eq (.int .i64 ((m : Nat) : Int)), .eq (.bool b), .ow w.heap.size (msub (l.take k) m b), .eq (v), .eq (.int .i64 ((k : Nat) : Int)), .hc ((l).drop (k)), .eq (.agg ((y2).map V).toArray), .hs ([y2])] [11, 12] Tryd.mixed (by kernel_rfl) (by kernel_rfl) (by kernel_rfl) (by kernel_rfl) (by rw [sz]; kernel_rfl) (by kernel_rfl) ⟨fun hw ac u K => ?_, fun hw ac u K => ?_, fun hw ac u K => ?_, fun hw ac u K => ?_, fun hw ac u K => ?_, fun hw ac u K => ?_, fun hw ac u K => ?_, fun hw ac u K => ?_, fun hw ac u K => ?_, fun hw ac u K => ?_, fun hw ac u K => ?_, trivial⟩ ?_
    · exact st_move (.tmp 0) rfl ((K.old 0 rfl).trans x0)
    · exact st_move (.tmp 7) rfl ((K.old 7 rfl).trans x7)
    · exact st_cuth (.tmp 28) (.tmp 29) rfl (fk_val (K.dep 0 28 rfl) (Fk.mono _ _ _ _ hv (bl.trans (Below.mono K.grow bl.size)))) (k) (K.dep 1 29 rfl) (by omega)
    · exact st_move (.tmp 1) rfl ((K.old 1 rfl).trans x1)
    · exact st_move (.tmp 2) rfl ((K.old 2 rfl).trans x2)
    · exact st_call 34 (.func 34) _ _ #[ac.eval (.tmp 30), .int .i64 ((m : Nat) : Int), .bool b] rfl rfl (arg3 rfl (K.dep 3 31 rfl) (K.dep 4 32 rfl)) Tryd.enter34 (fk_ow (bl.trans (Below.mono K.grow bl.size)).size (ih (l.take k) (by rw [List.length_take]; omega) m b hm1 (by rw [List.length_take]; omega) _ _ (by rw [List.length_take]; omega) (K.dep 2 30 rfl) (hK.below (bl.trans (Below.mono K.grow bl.size)))))
    · exact st_move (.tmp 0) rfl ((K.old 0 rfl).trans x0)
    · exact st_move (.tmp 7) rfl ((K.old 7 rfl).trans x7)
    · exact st_restc (.tmp 34) (.tmp 35) rfl (fk_val (K.dep 6 34 rfl) (Fk.mono _ _ _ _ hv (bl.trans (Below.mono K.grow bl.size)))) (k) (K.dep 7 35 rfl) (by omega)
    · exact st_call 18 (.func 18) _ _ #[ac.eval (.tmp 36)] rfl rfl (one_arg rfl) Tryd.enter18 (fk_of (root_any (l.drop k) _ _ (by rw [List.length_drop]; omega) (K.dep 8 36 rfl) (hK.below (bl.trans (Below.mono K.grow bl.size))) ey2))
    · exact st_bh1 (.tmp 37) rfl hy2 (K.dep 9 37 rfl)
    intro f6 w6 A hb
    replace bl0 := bl
    replace x0 := (A.old 0 rfl).trans x0
    replace x1 := (A.old 1 rfl).trans x1
    replace x2 := (A.old 2 rfl).trans x2
    replace x6 := (A.old 6 rfl).trans x6
    replace x14 := (A.old 14 rfl).trans x14
    replace x18 := (A.old 18 rfl).trans x18
    replace x7 := (A.old 7 rfl).trans x7
    replace x27 := (A.old 27 rfl).trans x27
    have x33 : Fk.f (.ow w.heap.size (msub (l.take k) m b)) (f6.eval (.tmp 33)) w6 := A.has 5 33 rfl
    have x38 : Fk.f (.hs ([y2])) (f6.eval (.tmp 38)) w6 := A.has 10 38 rfl
    replace bl := (bl.trans (Below.mono hb bl.size))
    replace sz := A.size.trans sz
    replace df := A.defs.trans df
    clear A hb
    refine wl_append rfl (.tmp 33) (.tmp 38) rfl 39 rfl (by rw [sz]; decide) x33 x38 bl (by omega) ?_
    intro f7 w7 df2 sz2 old2 new2 bl2
    clear x33
    clear x38
    replace x0 := (old2 0 rfl).trans x0
    replace x1 := (old2 1 rfl).trans x1
    replace x2 := (old2 2 rfl).trans x2
    replace x6 := (old2 6 rfl).trans x6
    replace x14 := (old2 14 rfl).trans x14
    replace x18 := (old2 18 rfl).trans x18
    replace x7 := (old2 7 rfl).trans x7
    replace x27 := (old2 27 rfl).trans x27
    have x39 : Fk.f (.ow w.heap.size (msub (l.take k) m b ++ [y2])) (f7.eval (.tmp 39)) w7 := new2
    replace bl := bl2
    replace bl0 := bl
    replace sz := sz2.trans sz
    replace df := df2.trans df
    clear df2 sz2 old2 new2 bl2
    refine wl_one (.ow w.heap.size (msub (l.take k) m b ++ [y2])) rfl 6 rfl (by rw [sz]; decide) (st_assign (.tmp 39) rfl x39) ?_
    intro f8 w8 df2 sz2 old2 new2 hb
    replace bl0 := bl
    replace x0 := (old2 0 rfl).trans x0
    replace x1 := (old2 1 rfl).trans x1
    replace x2 := (old2 2 rfl).trans x2
    clear x6
    replace x14 := (old2 14 rfl).trans x14
    replace x18 := (old2 18 rfl).trans x18
    replace x7 := (old2 7 rfl).trans x7
    replace x27 := (old2 27 rfl).trans x27
    replace x39 := f_at (old2 39 rfl) (Fk.mono _ _ _ _ x39 hb)
    have x6 : Fk.f (.ow w.heap.size (msub (l.take k) m b ++ [y2])) (f8.eval (.tmp 6)) w8 := new2
    replace bl := (bl.trans (Below.mono hb bl.size))
    replace sz := sz2.trans sz
    replace df := df2.trans df
    clear df2 sz2 old2 new2 hb
    refine wpList_nil ?_
    clear x39
    show Code.wp _ _ _ _ _
    refine wp_ret ?_
    repeat (first | with_reducible refine then_ret ?_ | with_reducible refine block_ret ?_)
    rw [msub_left h2 hml (by rw [hk]; exact hik), hk, ey2.out]
    exact bodyPost_ret (v := f8.eval (.tmp 6)) (ret_slot rfl f8 _ rfl _ _) df ⟨_, rfl, x6, bl⟩
theorem proof_zero {l : List (List (BitVec 8))} (w : World) {v : Value} (hv : (Fk.hc l).f v w) :
    Calls Tryd.prog 20 #[v, .int .i64 0] w fun e w' => e = .returned (.tuple #[.slice none 0 0, .int .i64 0]) ∧ Below w.heap.size w w' := by
  go_enter Tryd.func20, Tryd.ntmps20
  refine code_both (fun f w1 => f.tmps.size = 19 ∧ f.defers = [] ∧ f.eval (.tmp 0) = v ∧ f.eval (.tmp 1) = .int .i64 0 ∧ Below w.heap.size w (w1)) ⟨rfl, rfl, rfl, rfl, Below.refl _ _⟩ ?_
  rintro f0 w0 ⟨sz, df, x0, x1, bl⟩
  have bl0 := bl
  refine wp_seq ?_
  refine wp_region_seq [] (by kernel_rfl) (by kernel_rfl) (by rw [sz]; kernel_rfl) (by kernel_rfl) trivial ?_
  intro f1 w1 A hb
  replace bl0 := bl
  replace x0 := (A.old 0 rfl).trans x0
  replace x1 := (A.old 1 rfl).trans x1
  replace bl := (bl.trans (Below.mono hb bl.size))
  replace sz := A.size.trans sz
  replace df := A.defs.trans df
  clear A hb
  refine wl_one (.eq (.slice none 0 0)) rfl 4 rfl (by rw [sz]; decide) (st_assign (.const (.slice none 0 0)) rfl rfl) ?_
  intro f2 w2 df2 sz2 old2 new2 hb
  replace bl0 := bl
  replace x0 := (old2 0 rfl).trans x0
  replace x1 := (old2 1 rfl).trans x1
  have x4 : f2.eval (.tmp 4) = .slice none 0 0 := new2
  replace bl := (bl.trans (Below.mono hb bl.size))
  replace sz := sz2.trans sz
  replace df := df2.trans df
  clear df2 sz2 old2 new2 hb
  refine wl_one (.eq (.int .i64 0)) rfl 5 rfl (by rw [sz]; decide) (st_assign (.const (.int .i64 0)) rfl rfl) ?_
  intro f3 w3 df2 sz2 old2 new2 hb
  replace bl0 := bl
  replace x0 := (old2 0 rfl).trans x0
  replace x1 := (old2 1 rfl).trans x1
  replace x4 := (old2 4 rfl).trans x4
  have x5 : f3.eval (.tmp 5) = .int .i64 0 := new2
  replace bl := (bl.trans (Below.mono hb bl.size))
  replace sz := sz2.trans sz
  replace df := df2.trans df
  clear df2 sz2 old2 new2 hb
  refine wpList_nil ?_
  show Code.wp _ _ _ _ _
  refine wp_seq ?_
  refine wp_seq ?_
  refine wp_all_seq [.eq (.int .i64 0), .eq (.bool false), .eq (.bool false), .eq (.int .i64 0), .eq (v), .eq (.int .i64 (((l).length : Nat) : Int)), .eq (.bool false), .eq (.bool false)] (by kernel_rfl) (by kernel_rfl) (by rw [sz]; kernel_rfl) (by kernel_rfl) ⟨fun hw ac u K => ?_, fun hw ac u K => ?_, fun hw ac u K => ?_, fun hw ac u K => ?_, fun hw ac u K => ?_, fun hw ac u K => ?_, fun hw ac u K => ?_, fun hw ac u K => ?_, trivial⟩ ?_
  · exact st_move (.tmp 1) rfl ((K.old 1 rfl).trans x1)
  · exact st_lss 3 (.tmp 6) (.const (.int .i64 0)) rfl .i64 (0) (0) (K.dep 0 6 rfl) rfl _ (by rw [eq_comm, decide_eq_false_iff_not]; omega)
  · exact st_move (.tmp 7) rfl (K.dep 1 7 rfl)
  · exact st_move (.tmp 1) rfl ((K.old 1 rfl).trans x1)
  · exact st_move (.tmp 0) rfl ((K.old 0 rfl).trans x0)
  · exact st_lenc (.tmp 10) rfl ((l).length) rfl (fk_val (K.dep 4 10 rfl) (Fk.mono _ _ _ _ hv (bl.trans (Below.mono K.grow bl.size))))
  · exact st_gtr 3 (.tmp 9) (.tmp 11) rfl .i64 (0) ((((l).length : Nat) : Int)) (K.dep 3 9 rfl) (K.dep 5 11 rfl) _ (by rw [eq_comm, decide_eq_false_iff_not]; omega)
  · exact st_pick_f' (.tmp 8) (.const (.bool true)) (.tmp 12) rfl (K.dep 2 8 rfl) (K.dep 6 12 rfl)
  intro f4 w4 A hb
  replace bl0 := bl
  replace x0 := (A.old 0 rfl).trans x0
  replace x1 := (A.old 1 rfl).trans x1
  replace x4 := (A.old 4 rfl).trans x4
  replace x5 := (A.old 5 rfl).trans x5
  have x13 : f4.eval (.tmp 13) = .bool false := A.has 7 13 rfl
  replace bl := (bl.trans (Below.mono hb bl.size))
  replace sz := A.size.trans sz
  replace df := A.defs.trans df
  clear A hb
  show Code.wp _ _ _ _ _
  refine wp_cond_false x13 ?_
  refine wp_skip ?_
  show Code.wp _ _ _ _ _
  refine wp_seq ?_
  refine wp_seq ?_
  refine wp_all_seq [.eq (.int .i64 0), .eq (.bool true)] (by kernel_rfl) (by kernel_rfl) (by rw [sz]; kernel_rfl) (by kernel_rfl) ⟨fun hw ac u K => ?_, fun hw ac u K => ?_, trivial⟩ ?_
  · exact st_move (.tmp 1) rfl ((K.old 1 rfl).trans x1)
  · exact st_eqi 3 (.tmp 14) (.const (.int .i64 0)) rfl .i64 (0) (0) (K.dep 0 14 rfl) rfl _ (by simp)
  intro f5 w5 A hb
  replace bl0 := bl
  replace x0 := (A.old 0 rfl).trans x0
  replace x1 := (A.old 1 rfl).trans x1
  replace x4 := (A.old 4 rfl).trans x4
  replace x5 := (A.old 5 rfl).trans x5
  replace x13 := (A.old 13 rfl).trans x13
  have x15 : f5.eval (.tmp 15) = .bool true := A.has 1 15 rfl
  replace bl := (bl.trans (Below.mono hb bl.size))
  replace sz := A.size.trans sz
  replace df := A.defs.trans df
  clear A hb
  show Code.wp _ _ _ _ _
  refine wp_cond_true x15 ?_
  refine wp_seq ?_
  refine wp_all_seq [.eq (.slice none 0 0), .eq (.int .i64 0)] (by kernel_rfl) (by kernel_rfl) (by rw [sz]; kernel_rfl) (by kernel_rfl) ⟨fun hw ac u K => ?_, fun hw ac u K => ?_, trivial⟩ ?_
  · exact st_assign (.const (.slice none 0 0)) rfl rfl
  · exact st_assign (.const (.int .i64 0)) rfl rfl
  intro f6 w6 A hb
  replace bl0 := bl
  replace x0 := (A.old 0 rfl).trans x0
  replace x1 := (A.old 1 rfl).trans x1
  clear x4
  clear x5
  replace x13 := (A.old 13 rfl).trans x13
  replace x15 := (A.old 15 rfl).trans x15
  have x4 : f6.eval (.tmp 4) = .slice none 0 0 := A.has 0 4 rfl
  have x5 : f6.eval (.tmp 5) = .int .i64 0 := A.has 1 5 rfl
  replace bl := (bl.trans (Below.mono hb bl.size))
  replace sz := A.size.trans sz
  replace df := A.defs.trans df
  clear A hb
  show Code.wp _ _ _ _ _
  refine wp_ret ?_
  repeat (first | with_reducible refine then_ret ?_ | with_reducible refine block_ret ?_)
  exact bodyPost_ret (v := .tuple #[.slice none 0 0, .int .i64 0]) (ret_two rfl f6 _ _ x4 x5 _ _) df ⟨rfl, bl⟩
theorem proof_ok {l : List (List (BitVec 8))} {m : Nat} (hm1 : 1 ≤ m) (hm : m ≤ l.length) (h1000 : l.length ≤ 1000) (w : World) {v : Value} (hv : (Fk.hc l).f v w) (hK : Tab w) :
    Calls Tryd.prog 20 #[v, .int .i64 ((m : Nat) : Int)] w fun e w' => ∃ u, e = .returned u ∧ (Fk.t2 (.ow w.heap.size (msub l m true)) (.int .i64 0)).f u w' ∧ Below w.heap.size w w' := by
  go_enter Tryd.func20, Tryd.ntmps20
  refine code_both (fun f w1 => f.tmps.size = 19 ∧ f.defers = [] ∧ f.eval (.tmp 0) = v ∧ f.eval (.tmp 1) = .int .i64 ((m : Nat) : Int) ∧ Below w.heap.size w (w1)) ⟨rfl, rfl, rfl, rfl, Below.refl _ _⟩ ?_
  rintro f0 w0 ⟨sz, df, x0, x1, bl⟩
  have bl0 := bl
  refine wp_seq ?_
  refine wp_region_seq [] (by kernel_rfl) (by kernel_rfl) (by rw [sz]; kernel_rfl) (by kernel_rfl) trivial ?_
  intro f1 w1 A hb
  replace bl0 := bl
  replace x0 := (A.old 0 rfl).trans x0
  replace x1 := (A.old 1 rfl).trans x1
  replace bl := (bl.trans (Below.mono hb bl.size))
  replace sz := A.size.trans sz
  replace df := A.defs.trans df
  clear A hb
  refine wl_one (.eq (.slice none 0 0)) rfl 4 rfl (by rw [sz]; decide) (st_assign (.const (.slice none 0 0)) rfl rfl) ?_
  intro f2 w2 df2 sz2 old2 new2 hb
  replace bl0 := bl
  replace x0 := (old2 0 rfl).trans x0
  replace x1 := (old2 1 rfl).trans x1
  have x4 : f2.eval (.tmp 4) = .slice none 0 0 := new2
  replace bl := (bl.trans (Below.mono hb bl.size))
  replace sz := sz2.trans sz
  replace df := df2.trans df
  clear df2 sz2 old2 new2 hb
  refine wl_one (.eq (.int .i64 0)) rfl 5 rfl (by rw [sz]; decide) (st_assign (.const (.int .i64 0)) rfl rfl) ?_
  intro f3 w3 df2 sz2 old2 new2 hb
  replace bl0 := bl
  replace x0 := (old2 0 rfl).trans x0
  replace x1 := (old2 1 rfl).trans x1
  replace x4 := (old2 4 rfl).trans x4
  have x5 : f3.eval (.tmp 5) = .int .i64 0 := new2
  replace bl := (bl.trans (Below.mono hb bl.size))
  replace sz := sz2.trans sz
  replace df := df2.trans df
  clear df2 sz2 old2 new2 hb
  refine wpList_nil ?_
  show Code.wp _ _ _ _ _
  refine wp_seq ?_
  refine wp_seq ?_
  refine wp_all_seq [.eq (.int .i64 ((m : Nat) : Int)), .eq (.bool false), .eq (.bool false), .eq (.int .i64 ((m : Nat) : Int)), .eq (v), .eq (.int .i64 (((l).length : Nat) : Int)), .eq (.bool false), .eq (.bool false)] (by kernel_rfl) (by kernel_rfl) (by rw [sz]; kernel_rfl) (by kernel_rfl) ⟨fun hw ac u K => ?_, fun hw ac u K => ?_, fun hw ac u K => ?_, fun hw ac u K => ?_, fun hw ac u K => ?_, fun hw ac u K => ?_, fun hw ac u K => ?_, fun hw ac u K => ?_, trivial⟩ ?_
  · exact st_move (.tmp 1) rfl ((K.old 1 rfl).trans x1)
  · exact st_lss 3 (.tmp 6) (.const (.int .i64 0)) rfl .i64 (((m : Nat) : Int)) (0) (K.dep 0 6 rfl) rfl _ (by rw [eq_comm, decide_eq_false_iff_not]; omega)
  · exact st_move (.tmp 7) rfl (K.dep 1 7 rfl)
  · exact st_move (.tmp 1) rfl ((K.old 1 rfl).trans x1)
  · exact st_move (.tmp 0) rfl ((K.old 0 rfl).trans x0)
  · exact st_lenc (.tmp 10) rfl ((l).length) rfl (fk_val (K.dep 4 10 rfl) (Fk.mono _ _ _ _ hv (bl.trans (Below.mono K.grow bl.size))))
  · exact st_gtr 3 (.tmp 9) (.tmp 11) rfl .i64 (((m : Nat) : Int)) ((((l).length : Nat) : Int)) (K.dep 3 9 rfl) (K.dep 5 11 rfl) _ (by rw [eq_comm, decide_eq_false_iff_not]; omega)
  · exact st_pick_f' (.tmp 8) (.const (.bool true)) (.tmp 12) rfl (K.dep 2 8 rfl) (K.dep 6 12 rfl)
  intro f4 w4 A hb
  replace bl0 := bl
  replace x0 := (A.old 0 rfl).trans x0
  replace x1 := (A.old 1 rfl).trans x1
  replace x4 := (A.old 4 rfl).trans x4
  replace x5 := (A.old 5 rfl).trans x5
  have x13 : f4.eval (.tmp 13) = .bool false := A.has 7 13 rfl
  replace bl := (bl.trans (Below.mono hb bl.size))
  replace sz := A.size.trans sz
  replace df := A.defs.trans df
  clear A hb
  show Code.wp _ _ _ _ _
  refine wp_cond_false x13 ?_
  refine wp_skip ?_
  show Code.wp _ _ _ _ _
  refine wp_seq ?_
  refine wp_seq ?_
  refine wp_all_seq [.eq (.int .i64 ((m : Nat) : Int)), .eq (.bool false)] (by kernel_rfl) (by kernel_rfl) (by rw [sz]; kernel_rfl) (by kernel_rfl) ⟨fun hw ac u K => ?_, fun hw ac u K => ?_, trivial⟩ ?_
  · exact st_move (.tmp 1) rfl ((K.old 1 rfl).trans x1)
  · exact st_eqi 3 (.tmp 14) (.const (.int .i64 0)) rfl .i64 (((m : Nat) : Int)) (0) (K.dep 0 14 rfl) rfl _ (by rw [eq_comm, decide_eq_false_iff_not]; omega)
  intro f5 w5 A hb
  replace bl0 := bl
  replace x0 := (A.old 0 rfl).trans x0
  replace x1 := (A.old 1 rfl).trans x1
  replace x4 := (A.old 4 rfl).trans x4
  replace x5 := (A.old 5 rfl).trans x5
  replace x13 := (A.old 13 rfl).trans x13
  have x15 : f5.eval (.tmp 15) = .bool false := A.has 1 15 rfl
  replace bl := (bl.trans (Below.mono hb bl.size))
  replace sz := A.size.trans sz
  replace df := A.defs.trans df
  clear A hb
  show Code.wp _ _ _ _ _
  refine wp_cond_false x15 ?_
  refine wp_skip ?_
  show Code.wp _ _ _ _ _
  refine wp_seq ?_
  refine wp_all_seq [.eq (v), .eq (.int .i64 ((m : Nat) : Int)), .ow w.heap.size (msub l m true), .ow w.heap.size (msub l m true), .eq (.int .i64 0)] (by kernel_rfl) (by kernel_rfl) (by rw [sz]; kernel_rfl) (by kernel_rfl) ⟨fun hw ac u K => ?_, fun hw ac u K => ?_, fun hw ac u K => ?_, fun hw ac u K => ?_, fun hw ac u K => ?_, trivial⟩ ?_
  · exact st_move (.tmp 0) rfl ((K.old 0 rfl).trans x0)
  · exact st_move (.tmp 1) rfl ((K.old 1 rfl).trans x1)
  · exact st_call 34 (.func 34) _ _ #[v, .int .i64 ((m : Nat) : Int), .bool true] rfl rfl (arg3 (K.dep 0 16 rfl) (K.dep 1 17 rfl) rfl) Tryd.enter34 (fk_ow (bl.trans (Below.mono K.grow bl.size)).size (going_any l m true hm1 hm _ _ h1000 (Fk.mono _ _ _ _ hv (bl.trans (Below.mono K.grow bl.size))) (hK.below (bl.trans (Below.mono K.grow bl.size)))))
  · exact st_assign (.tmp 18) rfl (K.dep 2 18 rfl)
  · exact st_assign (.const (.int .i64 0)) rfl rfl
  intro f6 w6 A hb
  replace bl0 := bl
  replace x0 := (A.old 0 rfl).trans x0
  replace x1 := (A.old 1 rfl).trans x1
  clear x4
  clear x5
  replace x13 := (A.old 13 rfl).trans x13
  replace x15 := (A.old 15 rfl).trans x15
  have x4 : Fk.f (.ow w.heap.size (msub l m true)) (f6.eval (.tmp 4)) w6 := A.has 3 4 rfl
  have x5 : f6.eval (.tmp 5) = .int .i64 0 := A.has 4 5 rfl
  replace bl := (bl.trans (Below.mono hb bl.size))
  replace sz := A.size.trans sz
  replace df := A.defs.trans df
  clear A hb
  show Code.wp _ _ _ _ _
  refine wp_ret ?_
  repeat (first | with_reducible refine then_ret ?_ | with_reducible refine block_ret ?_)
  exact bodyPost_ret (v := .tuple #[f6.eval (.tmp 4), .int .i64 0]) (ret_two rfl f6 _ _ rfl x5 _ _) df ⟨_, rfl, ⟨_, rfl, x4⟩, bl⟩
end Go.Proofs.YthhnlemldpgbeaaDoor
