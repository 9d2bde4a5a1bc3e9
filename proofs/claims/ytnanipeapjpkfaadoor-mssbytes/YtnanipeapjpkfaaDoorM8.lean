/- What is written is read back, and what is read was so written: numbers, hashes, signatures. The calls of an In as walks of other packages meet them. indexes, isKey, Restore. -/
import Derived.Test.YtnanipeapjpkfaaDoorM7
import Derived.Test.YtnanipeapjpkfaaDoorM6
namespace Go.Proofs.YtnanipeapjpkfaaDoor
set_option maxRecDepth 100000
open Go.RowKit
theorem beN_succ (N s : Nat) : beN N (s + 1) = BitVec.ofNat 8 (N / 2 ^ (8 * s)) :: beN N s := by
  unfold beN
  rw [List.range_succ_eq_map, List.map_cons, List.map_map]
  congr 1
  apply List.map_congr_left
  intro k hk
  have hk2 : k < s := by simpa using hk
  simp only [Function.comp]
  rw [show s + 1 - 1 - (k + 1) = s - 1 - k by omega]
theorem num_cons (x : BitVec 8) (r : List (BitVec 8)) : num (x :: r) = x.toNat * 256 ^ r.length + num r := by
  have := num_append [x] r
  rw [List.singleton_append] at this
  rw [this]; simp [num]
theorem num_beN (N s : Nat) : num (beN N s) = N % 256 ^ s := by
  induction s with
  | zero => rw [show (beN N 0) = [] from rfl, num_nil, Nat.pow_zero, Nat.mod_one]
  | succ s ih =>
    rw [beN_succ, num_cons, ih, beN_len, BitVec.toNat_ofNat, show (2 : Nat) ^ (8 * s) = 256 ^ s by rw [Nat.pow_mul], show N % 256 ^ (s + 1) = _ from Nat.mod_pow_succ]
    rw [Nat.mul_comm (256 ^ s) (N / 256 ^ s % 256), Nat.add_comm]
theorem takeB_app (xs ys : List (BitVec 8)) (n : Nat) (h : xs.length = n) : takeB (xs ++ ys) n = xs := by
  unfold takeB; rw [if_pos (by simp; omega), List.take_left' h]
theorem dropB_app (xs ys : List (BitVec 8)) (n : Nat) (h : xs.length = n) : dropB (xs ++ ys) n = ys := by
  unfold dropB; rw [if_pos (by simp; omega), List.drop_left' h]
theorem badB_app (xs ys : List (BitVec 8)) (n : Nat) (h : xs.length = n) (bad : Bool) : badB (xs ++ ys) bad n = bad := by
  unfold badB; rw [if_pos (by simp; omega)]
theorem rdI_be8 (n : Int) (r : List (BitVec 8)) (h1 : -9223372036854775808 ≤ n) (h2 : n ≤ 9223372036854775807) : rdI (be8 n ++ r) = n := by
  unfold rdI
  rw [takeB_app _ _ 8 (be8_len n)]
  unfold be8
  rw [num_beN, IntKind.wrap_i64]
  omega
theorem rdI_nil : rdI [] = 0 := by decide +kernel
/-- Are the bytes no such list of hashes? -/
def noHs (bs : List (BitVec 8)) (most : Int) : Prop := ¬ 4 ≤ bs.length ∨ most < (num (takeB bs 4) : Int) ∨ bs.length < 4 + 32 * num (takeB bs 4)
theorem hs_bad (bs : List (BitVec 8)) (most : Int) (h : noHs bs most) : hsN bs most = 0 ∧ (hsD bs most).drop (32 * hsN bs most) = [] ∧ hsX bs false most = true := by
  unfold hsN hsD hsX
  by_cases h4 : 4 ≤ bs.length
  · have : ¬ lenB bs most 32 = true := by
      rw [lenB_iff]
      unfold lenOk
      have hd : (dropB bs 4).length = bs.length - 4 := by unfold dropB; rw [if_pos h4]; simp
      rw [hd]
      unfold noHs at h
      omega
    rw [if_neg this, if_neg this, if_neg this]
    exact ⟨rfl, rfl, rfl⟩
  · have e1 : takeB bs 4 = [] := by unfold takeB; rw [if_neg h4]
    have e2 : dropB bs 4 = [] := by unfold dropB; rw [if_neg h4]
    have e3 : badB bs false 4 = true := by unfold badB; rw [if_neg h4]
    rw [e1, e2, e3, num_nil]
    split <;> exact ⟨rfl, rfl, rfl⟩
theorem hs_good (bs : List (BitVec 8)) (most : Int) (h : ¬ noHs bs most) : hsN bs most = num (takeB bs 4) ∧ hsD bs most = bs.drop 4 ∧ hsX bs false most = false ∧ 4 ≤ bs.length ∧ (num (takeB bs 4) : Int) ≤ most ∧ 4 + 32 * num (takeB bs 4) ≤ bs.length := by
  unfold noHs at h
  have h4 : 4 ≤ bs.length := by omega
  have e2 : dropB bs 4 = bs.drop 4 := by unfold dropB; rw [if_pos h4]
  have e3 : badB bs false 4 = false := by unfold badB; rw [if_pos h4]
  have : lenB bs most 32 = true := by
    rw [lenB_iff]
    unfold lenOk
    rw [e2, List.length_drop]
    omega
  unfold hsN hsD hsX
  rw [if_pos this, if_pos this, if_pos this, e2, e3]
  exact ⟨rfl, rfl, rfl, h4, by omega, by omega⟩
theorem lt256 (n : Nat) (h : n ≤ 100000) : num (beN n 4) = n := by rw [num_beN]; omega
theorem hs_whole (n : Nat) (D r : List (BitVec 8)) (most : Nat) (hm : most ≤ 1000) (hD : D.length = 32 * n) (h : n ≤ most) : hsN (beN n 4 ++ D ++ r) most = n ∧ hsD (beN n 4 ++ D ++ r) most = D ++ r ∧ hsX (beN n 4 ++ D ++ r) false most = false := by
  rw [List.append_assoc]
  have e1 := takeB_app (beN n 4) (D ++ r) 4 (beN_len _ _)
  have e2 := dropB_app (beN n 4) (D ++ r) 4 (beN_len _ _)
  have e3 := badB_app (beN n 4) (D ++ r) 4 (beN_len _ _) false
  have e4 := lt256 n (by omega)
  have hk : lenB (beN n 4 ++ (D ++ r)) most 32 = true := by
    rw [lenB_iff]; unfold lenOk; rw [e1, e2, e4, List.length_append]; omega
  unfold hsN hsD hsX
  rw [if_pos hk, if_pos hk, if_pos hk, e1, e2, e3, e4]
  exact ⟨rfl, rfl, rfl⟩
theorem beN_num : ∀ (xs : List (BitVec 8)), beN (num xs) xs.length = xs
  | [] => rfl
  | x :: r => by
    rw [List.length_cons, beN_succ]
    have h1 := num_cons x r
    have h2 := num_lt r
    have h3 : (2 : Nat) ^ (8 * r.length) = 256 ^ r.length := by rw [Nat.pow_mul]
    have hp : 0 < 256 ^ r.length := Nat.pow_pos (by omega)
    congr 1
    · rw [h3, h1, Nat.mul_comm, Nat.mul_add_div hp, Nat.div_eq_of_lt h2, Nat.add_zero]
      simp
    · have e : beN (num (x :: r)) r.length = beN (num r) r.length := by
        unfold beN
        apply List.map_congr_left
        intro k hk
        have hk2 : k < r.length := by simpa using hk
        rw [h1]
        apply BitVec.eq_of_toNat_eq
        rw [BitVec.toNat_ofNat, BitVec.toNat_ofNat]
        have e1 : (2 : Nat) ^ (8 * (r.length - 1 - k)) = 256 ^ (r.length - 1 - k) := by rw [Nat.pow_mul]
        have e2 : (256 : Nat) ^ r.length = 256 ^ (r.length - 1 - k) * (256 * 256 ^ k) := by
          rw [← Nat.pow_succ', ← Nat.pow_add]
          congr 1
          omega
        have hq : 0 < 256 ^ (r.length - 1 - k) := Nat.pow_pos (by omega)
        rw [e1, e2, show x.toNat * (256 ^ (r.length - 1 - k) * (256 * 256 ^ k)) = 256 ^ (r.length - 1 - k) * (256 * (256 ^ k * x.toNat)) by ac_rfl, Nat.mul_add_div hq, Nat.mul_add_mod]
      rw [e]
      exact beN_num r
theorem be8_rdI (bs : List (BitVec 8)) (h : 8 ≤ bs.length) : be8 (rdI bs) = bs.take 8 := by
  have e : takeB bs 8 = bs.take 8 := by unfold takeB; rw [if_pos h]
  have hl : (bs.take 8).length = 8 := by simp; omega
  have h1 := num_lt (bs.take 8)
  have h2 := beN_num (bs.take 8)
  rw [hl] at h1 h2
  unfold be8 rdI
  rw [e, IntKind.wrap_i64]
  rw [show (((num (bs.take 8) : Int) + 9223372036854775808) % 18446744073709551616 - 9223372036854775808) % 18446744073709551616 = (num (bs.take 8) : Int) by omega, Int.toNat_natCast]
  exact h2
/-- Count: what it tells, what is left, whether it is bad. -/
def cV (l m : Int) (bs : List (BitVec 8)) : Int := if l ≤ rdI bs ∧ rdI bs ≤ m then rdI bs else 0
def cR (l m : Int) (bs : List (BitVec 8)) : List (BitVec 8) := if l ≤ rdI bs ∧ rdI bs ≤ m then dropB bs 8 else []
def cX (l m : Int) (bs : List (BitVec 8)) (bad : Bool) : Bool := if l ≤ rdI bs ∧ rdI bs ≤ m then badB bs bad 8 else true
theorem cR_len (l m : Int) (bs : List (BitVec 8)) : (cR l m bs).length ≤ bs.length := by
  unfold cR dropB
  split
  · split <;> simp
  · simp
theorem cX_false {l m : Int} {bs : List (BitVec 8)} {bad : Bool} (h : cX l m bs bad = false) : bad = false ∧ 8 ≤ bs.length ∧ l ≤ cV l m bs ∧ cV l m bs ≤ m ∧ bs = be8 (cV l m bs) ++ cR l m bs := by
  unfold cX at h
  by_cases h1 : l ≤ rdI bs ∧ rdI bs ≤ m
  · rw [if_pos h1] at h
    unfold badB at h
    by_cases h2 : 8 ≤ bs.length
    · rw [if_pos h2] at h
      unfold cV cR
      rw [if_pos h1, if_pos h1]
      refine ⟨h, h2, h1.1, h1.2, ?_⟩
      rw [be8_rdI bs h2]
      unfold dropB
      rw [if_pos h2, List.take_append_drop]
    · rw [if_neg h2] at h; cases h
  · rw [if_neg h1] at h; cases h
theorem c_be8 (l m n : Int) (r : List (BitVec 8)) (h1 : l ≤ n) (h2 : n ≤ m) (hl : -9223372036854775808 ≤ l) (hm : m ≤ 9223372036854775807) : cV l m (be8 n ++ r) = n ∧ cR l m (be8 n ++ r) = r ∧ cX l m (be8 n ++ r) false = false := by
  have e := rdI_be8 n r (by omega) (by omega)
  unfold cV cR cX
  rw [e, if_pos ⟨h1, h2⟩, if_pos ⟨h1, h2⟩, if_pos ⟨h1, h2⟩, dropB_app _ _ 8 (be8_len n), badB_app _ _ 8 (be8_len n)]
  exact ⟨rfl, rfl, rfl⟩
/-- The first n hashes of bytes. -/
def chk (n : Nat) (D : List (BitVec 8)) : List (List (BitVec 8)) := (List.range n).map fun j => (D.drop (32 * j)).take 32
theorem chk_len (n : Nat) (D : List (BitVec 8)) : (chk n D).length = n := by simp [chk]
theorem chk_at (n : Nat) (D : List (BitVec 8)) (hD : 32 * n ≤ D.length) (j : Nat) (x : List (BitVec 8)) (h : (chk n D)[j]? = some x) : j < n ∧ x = (D.drop (32 * j)).take 32 ∧ x.length = 32 := by
  have hj : j < n := by
    rcases Nat.lt_or_ge j n with h1 | h1
    · exact h1
    · rw [List.getElem?_eq_none (by rw [chk_len]; exact h1)] at h; cases h
  have e : x = (D.drop (32 * j)).take 32 := by
    unfold chk at h
    rw [List.getElem?_map, List.getElem?_range hj] at h
    exact (Option.some.inj h).symm
  refine ⟨hj, e, ?_⟩
  rw [e, List.length_take, List.length_drop]
  omega
theorem chk_flat : ∀ (n : Nat) (D : List (BitVec 8)), 32 * n ≤ D.length → (chk n D).flatten = D.take (32 * n)
  | 0, D, _ => by simp [chk]
  | n + 1, D, h => by
    have ih := chk_flat n D (by omega)
    unfold chk at *
    rw [List.range_succ, List.map_append, List.flatten_append, ih]
    simp only [List.map_cons, List.map_nil, List.flatten_cons, List.flatten_nil, List.append_nil]
    rw [show 32 * (n + 1) = 32 * n + 32 by omega, List.take_add]
theorem chk_of (S : List (List (BitVec 8))) (hS : ∀ (i : Nat) (x : List (BitVec 8)), S[i]? = some x → x.length = 32) (r : List (BitVec 8)) : chk S.length (S.flatten ++ r) = S := by
  apply List.ext_getElem?
  intro j
  rcases Nat.lt_or_ge j S.length with h | h
  · obtain ⟨x, hx⟩ : ∃ x, S[j]? = some x := ⟨_, List.getElem?_eq_getElem h⟩
    have hl := hS j x hx
    have hf := flat_len2 S hS
    rw [hx]
    unfold chk
    rw [List.getElem?_map, List.getElem?_range h, Option.map_some]
    congr 1
    apply List.ext_getElem?
    intro t
    rcases Nat.lt_or_ge t 32 with ht | ht
    · rw [List.getElem?_take, if_pos ht, List.getElem?_drop, List.getElem?_append_left (by rw [hf]; omega), Nat.mul_comm]
      exact flat_at S hS j x hx t ht
    · rw [List.getElem?_eq_none (by rw [List.length_take]; omega), List.getElem?_eq_none (by omega)]
  · rw [List.getElem?_eq_none h, List.getElem?_eq_none (by rw [chk_len]; exact h)]
theorem hsX_false {bs : List (BitVec 8)} {bad : Bool} {most : Nat} (h : hsX bs bad most = false) : bad = false ∧ hsN bs most ≤ most ∧ 32 * hsN bs most ≤ (hsD bs most).length ∧ bs = beN (hsN bs most) 4 ++ hsD bs most := by
  have hb : bad = false := by
    unfold hsX at h
    split at h
    · unfold badB at h
      split at h
      · exact h
      · cases h
    · cases h
  subst hb
  by_cases hn : noHs bs most
  · rw [(hs_bad bs most hn).2.2] at h; cases h
  · obtain ⟨h1, h2, _, h4, h5, h6⟩ := hs_good bs most hn
    refine ⟨rfl, by rw [h1]; omega, hs_le bs most, ?_⟩
    rw [h1, h2]
    have e : takeB bs 4 = bs.take 4 := by unfold takeB; rw [if_pos h4]
    have hl : (bs.take 4).length = 4 := by simp; omega
    have h7 := beN_num (bs.take 4)
    rw [hl] at h7
    rw [e, h7, List.take_append_drop]
/-- These bytes are this signature's. -/
structure Enc (bs : List (BitVec 8)) (k i : Int) (S P : List (List (BitVec 8))) : Prop where
  is : bs = sgb k i S P
  k1 : 1 ≤ k
  k2 : k ≤ 2
  i0 : 0 ≤ i
  i1 : i ≤ 255
  s1 : S.length ≤ 512
  p1 : P.length ≤ 8
  s32 : ∀ (i : Nat) (x : List (BitVec 8)), S[i]? = some x → x.length = 32
  p32 : ∀ (i : Nat) (x : List (BitVec 8)), P[i]? = some x → x.length = 32
/-- What is left, step by step. -/
def b1 (bs : List (BitVec 8)) := cR 1 2 bs
def b2 (bs : List (BitVec 8)) := cR 0 255 (b1 bs)
def b3 (bs : List (BitVec 8)) := (hsD (b2 bs) (512 : Nat)).drop (32 * hsN (b2 bs) (512 : Nat))
def b4 (bs : List (BitVec 8)) := (hsD (b3 bs) (8 : Nat)).drop (32 * hsN (b3 bs) (8 : Nat))
def t1 (bs : List (BitVec 8)) := cX 1 2 bs false
def t2 (bs : List (BitVec 8)) := cX 0 255 (b1 bs) (t1 bs)
def t3 (bs : List (BitVec 8)) := hsX (b2 bs) (t2 bs) (512 : Nat)
def t4 (bs : List (BitVec 8)) := hsX (b3 bs) (t3 bs) (8 : Nat)
def pS (bs : List (BitVec 8)) := chk (hsN (b2 bs) (512 : Nat)) (hsD (b2 bs) (512 : Nat))
def pP (bs : List (BitVec 8)) := chk (hsN (b3 bs) (8 : Nat)) (hsD (b3 bs) (8 : Nat))
theorem b1_len (bs : List (BitVec 8)) : (b1 bs).length ≤ bs.length := cR_len _ _ _
theorem b2_len (bs : List (BitVec 8)) : (b2 bs).length ≤ bs.length := Nat.le_trans (cR_len _ _ _) (b1_len bs)
theorem b3_len (bs : List (BitVec 8)) : (b3 bs).length ≤ bs.length := by
  unfold b3
  rw [List.length_drop]
  exact Nat.le_trans (Nat.sub_le _ _) (Nat.le_trans (hsD_len _ _) (b2_len bs))
theorem enc_done {bs : List (BitVec 8)} (h4 : t4 bs = false) (hb : b4 bs = []) : Enc bs (cV 1 2 bs) (cV 0 255 (b1 bs)) (pS bs) (pP bs) := by
  obtain ⟨h3, n4, l4, e4⟩ := hsX_false h4
  obtain ⟨h2, n3, l3, e3⟩ := hsX_false h3
  obtain ⟨h1, _, c3, c4, e2⟩ := cX_false h2
  obtain ⟨_, _, c1, c2, e1⟩ := cX_false h1
  refine ⟨?_, c1, c2, c3, c4, by unfold pS; rw [chk_len]; exact n3, by unfold pP; rw [chk_len]; exact n4, fun i x hx => (chk_at _ _ l3 i x hx).2.2, fun i x hx => (chk_at _ _ l4 i x hx).2.2⟩
  have f3 : (pS bs).flatten ++ b3 bs = hsD (b2 bs) (512 : Nat) := by
    unfold pS b3
    rw [chk_flat _ _ l3, List.take_append_drop]
  have f4 : (pP bs).flatten = hsD (b3 bs) (8 : Nat) := by
    have : (pP bs).flatten ++ b4 bs = hsD (b3 bs) (8 : Nat) := by
      unfold pP b4
      rw [chk_flat _ _ l4, List.take_append_drop]
    rw [hb, List.append_nil] at this
    exact this
  have g3 : b3 bs = hsb (pP bs) := by
    unfold hsb
    rw [f4, show (pP bs).length = hsN (b3 bs) (8 : Nat) from chk_len _ _]
    exact e4
  have g2 : b2 bs = hsb (pS bs) ++ b3 bs := by
    unfold hsb
    rw [List.append_assoc, f3, show (pS bs).length = hsN (b2 bs) (512 : Nat) from chk_len _ _]
    exact e3
  unfold sgb
  rw [List.append_assoc, List.append_assoc, ← g3, ← g2]
  have e2' : b1 bs = be8 (cV 0 255 (b1 bs)) ++ b2 bs := e2
  rw [← e2']
  exact e1
theorem done_enc {bs : List (BitVec 8)} {k i : Int} {S P : List (List (BitVec 8))} (h : Enc bs k i S P) : t4 bs = false ∧ b4 bs = [] ∧ cV 1 2 bs = k ∧ cV 0 255 (b1 bs) = i ∧ pS bs = S ∧ pP bs = P := by
  have e0 : bs = be8 k ++ (be8 i ++ (hsb S ++ hsb P)) := by rw [h.is]; unfold sgb; simp only [List.append_assoc]
  obtain ⟨x1, x2, x3⟩ := c_be8 1 2 k (be8 i ++ (hsb S ++ hsb P)) h.k1 h.k2 (by omega) (by omega)
  rw [← e0] at x1 x2 x3
  obtain ⟨y1, y2, y3⟩ := c_be8 0 255 i (hsb S ++ hsb P) h.i0 h.i1 (by omega) (by omega)
  have q1 : b1 bs = be8 i ++ (hsb S ++ hsb P) := x2
  rw [← q1] at y1 y2 y3
  have q2 : b2 bs = beN S.length 4 ++ S.flatten ++ hsb P := y2
  obtain ⟨z1, z2, z3⟩ := hs_whole S.length S.flatten (hsb P) 512 (by omega) (flat_len2 S h.s32) h.s1
  rw [← q2] at z1 z2 z3
  have q3 : b3 bs = beN P.length 4 ++ P.flatten ++ [] := by
    unfold b3
    rw [z1, z2, List.drop_left' (flat_len2 S h.s32), List.append_nil]
    rfl
  obtain ⟨u1, u2, u3⟩ := hs_whole P.length P.flatten [] 8 (by omega) (flat_len2 P h.p32) h.p1
  rw [← q3] at u1 u2 u3
  have r1 : t1 bs = false := x3
  have r2 : t2 bs = false := by unfold t2; rw [r1]; exact y3
  have r3 : t3 bs = false := by unfold t3; rw [r2]; exact z3
  refine ⟨by unfold t4; rw [r3]; exact u3, ?_, x1, y1, ?_, ?_⟩
  · unfold b4
    rw [u1, u2, List.drop_left' (flat_len2 P h.p32)]
  · unfold pS
    rw [z1, z2]
    exact chk_of S h.s32 _
  · unfold pP
    rw [u1, u2]
    exact chk_of P h.p32 _
end Go.Proofs.YtnanipeapjpkfaaDoor
namespace Go.Proofs.YtnanipeapjpkfaaDoor
set_option maxRecDepth 100000
open Go.RowKit
theorem run_app_empty (w : World) (sp : Option Addr) (c : Nat) (ty : TypeId) : (Builtin.append_ #[36, 36] ty #[.slice none 0 0, .slice sp 0 c]).run Tryd.prog w = .ok (.slice none 0 0) w := by
  obtain ⟨i0, hi, hz0, hz1, hz2⟩ := info_parts Tryd.info5
  cases sp <;> simp [Builtin.append_, run_underlying Tryd.under36, sizeOf, typeInfo, hi, Builtin.lenOf, Builtin.firstCells, loadCells, loadCellsFrom]
set_option maxHeartbeats 400000 in
theorem newIn_e (sp : Option Addr) (c : Nat) (w : World) :
    Calls Tryd.prog 59 #[.slice sp 0 c] w fun e w' => ∃ ib g, e = .returned (.pointer (some ⟨ib, 0, none⟩)) ∧ w.heap.size ≤ ib ∧ w.heap.size ≤ g ∧ HasIn w' ib [] false g ∧ Below w.heap.size w w' := by
  have hr := Box.mk (run_app_empty w sp c 36)
  go_enter Tryd.func59, Tryd.ntmps59
  go_wp2_with (at_builtin; refine wpList_app rfl _ _ 36 36 rfl (.slice none 0 0) (.slice sp 0 c) (.slice none 0 0) rfl rfl hr.out ?_)
  go_ret
  exact ⟨w.heap.size, w.heap.size + 1, rfl, Nat.le_refl _, by omega, ⟨_, heap_alloc_new _ _, .inl ⟨rfl, rfl⟩, by omega⟩, (Below.refl _ _).alloc (Nat.le_refl _) _⟩
theorem in_new {bs : List (BitVec 8)} {v : Value} {w : World} (h : (Fk.sl bs).f v w) (hl : bs.length ≤ 900000) :
    Calls Tryd.prog 59 #[v] w fun e w' => ∃ u, e = .returned u ∧ ∃ ib, u = .pointer (some ⟨ib, 0, none⟩) ∧ w.heap.size ≤ ib ∧ HasI w' ib bs false ∧ Below w.heap.size w w' := by
  rcases sl_rv h with ⟨gb, hr⟩ | ⟨sp, c, rfl, rfl⟩
  · refine (newIn_any v gb bs w hr hl).mono ?_
    rintro e w' ⟨ib, g, rfl, h1, _, h3, h4⟩
    exact ⟨_, rfl, ib, rfl, h1, ⟨g, h3⟩, h4⟩
  · refine (newIn_e sp c w).mono ?_
    rintro e w' ⟨ib, g, rfl, h1, _, h3, h4⟩
    exact ⟨_, rfl, ib, rfl, h1, ⟨g, h3⟩, h4⟩
theorem in_count {ib : Nat} {bs : List (BitVec 8)} {bad : Bool} (l m : Int) (w : World) (h : HasI w ib bs bad) (hbs : bs.length ≤ 1000000) :
    Calls Tryd.prog 60 #[.pointer (some ⟨ib, 0, none⟩), .int .i64 l, .int .i64 m] w fun e w' => ∃ u, e = .returned u ∧ u = .int .i64 (cV l m bs) ∧ HasI w' ib (cR l m bs) (cX l m bs bad) ∧ Only ib w w' := by
  obtain ⟨gb, h⟩ := h
  refine (count_any ib gb bs bad l m w h hbs).mono ?_
  rintro e w' ⟨⟨h1, rfl, h2⟩ | ⟨h1, rfl, h2⟩, ho⟩
  · unfold cV cR cX
    rw [if_pos h1, if_pos h1, if_pos h1]
    exact ⟨_, rfl, rfl, ⟨gb, h2⟩, ho⟩
  · unfold cV cR cX
    rw [if_neg h1, if_neg h1, if_neg h1]
    exact ⟨_, rfl, rfl, ⟨gb, h2⟩, ho⟩
theorem hl_chk {w : World} {L n : Nat} {D : List (BitVec 8)} (h : HasB w L 0 (D.take (32 * n))) (hL : L < w.heap.size) (hD : 32 * n ≤ D.length) : Hl w (some ⟨L, 0, none⟩) L 0 (chk n D) := by
  refine ⟨fun _ => rfl, fun _ => hL, fun i x hi => ?_⟩
  obtain ⟨h1, h2, h3⟩ := chk_at n D hD i x hi
  refine ⟨h3, fun j hj => ?_⟩
  rw [h3] at hj
  have h4 := h (i * 32 + j) (by rw [List.length_take]; omega)
  rw [Nat.zero_add] at h4
  rw [show 0 + i * 32 + j = i * 32 + j by omega, h4, h2, List.getD_eq_getElem?_getD, List.getD_eq_getElem?_getD, List.getElem?_take, if_pos (by omega), List.getElem?_take, if_pos hj, List.getElem?_drop, Nat.mul_comm]
theorem in_hashes {ib : Nat} {bs : List (BitVec 8)} {bad : Bool} (most : Nat) (w : World) (h : HasI w ib bs bad) (hbs : bs.length ≤ 900000) {S : List (List (BitVec 8))} (eS : Box (chk (hsN bs most) (hsD bs most) = S)) :
    Calls Tryd.prog 61 #[.pointer (some ⟨ib, 0, none⟩), .int .i64 ((most : Nat) : Int)] w fun e w' => ∃ u, e = .returned u ∧ ∃ L, u = .slice (some ⟨L, 0, none⟩) S.length S.length ∧ w.heap.size ≤ L ∧ Hl w' (some ⟨L, 0, none⟩) L 0 S ∧ HasI w' ib ((hsD bs most).drop (32 * hsN bs most)) (hsX bs bad most) ∧ Only ib w w' := by
  refine (inHashes_any ib bs bad most w h hbs).mono ?_
  rintro e w' ⟨L, rfl, h1, h2, h3, h4, h5⟩
  have hl : hsN bs most = S.length := by rw [← eS.out, chk_len]
  refine ⟨_, rfl, L, by rw [hl], h1, ?_, h4, h5⟩
  rw [← eS.out]
  exact hl_chk h3 h2 (hs_le bs most)
theorem in_done {ib : Nat} {bs : List (BitVec 8)} {bad : Bool} (w : World) (h : HasI w ib bs bad) :
    Calls Tryd.prog 62 #[.pointer (some ⟨ib, 0, none⟩)] w fun e w' => e = .returned (.bool (!bad && decide (bs = []))) ∧ Below w.heap.size w w' := by
  obtain ⟨gb, h⟩ := h
  refine (done_any ib gb bs bad w h).mono ?_
  rintro e w' ⟨rfl, rfl⟩
  exact ⟨rfl, Below.refl _ _⟩
/-- The In stays as it is when a struct without bytes is written. -/
theorem HasI.setc {w : World} {ib g : Nat} {bs : List (BitVec 8)} {bad : Bool} {T : TypeId} {cs : List Value} (h : HasI w ib bs bad) (m : Ob w g T cs) (hc : ∀ (j : Nat) (x : Int), cs[j]? ≠ some (.int .u8 x)) (hne : ib ≠ g) (i : Nat) (v : Value) : HasI (w.setCell ⟨g, i, none⟩ v) ib bs bad := by
  obtain ⟨gb, h⟩ := h
  have ho : Only g w (w.setCell ⟨g, i, none⟩ v) := (Only.refl g w).setCell i v
  by_cases e : gb = g
  · subst e
    have hl := h.lt
    obtain ⟨u, hv, hr, hn⟩ := h
    refine ⟨gb, u, by rw [ho.block ib hl hne]; exact hv, ?_, hn⟩
    rcases hr with hr | ⟨go, c, e, hc', hl2, hB⟩
    · exact .inl hr
    · rcases Nat.eq_zero_or_pos bs.length with h0 | h0
      · exact .inr ⟨go, c, e, hc', Nat.lt_of_lt_of_le hl2 ho.size, fun j hj => absurd hj (by omega)⟩
      · exfalso
        have h1 := hB 0 h0
        rcases Nat.lt_or_ge (go + 0) cs.length with h2 | h2
        · have h3 := m.cell (go + 0) (List.getElem?_eq_getElem h2)
          rw [h1] at h3
          exact hc (go + 0) _ (by rw [List.getElem?_eq_getElem h2]; exact h3.symm)
        · have h3 : w.cell? ⟨gb, go + 0, none⟩ = none := by
            unfold Ob at m
            simp only [World.cell?, m]
            simp; omega
          rw [h3] at h1
          cases h1
  · exact ⟨gb, h.only ho hne e⟩
theorem nou8_4 {a b : Int} {A B : Option Addr} {m c m2 c2 : Nat} : ∀ (j : Nat) (x : Int), ([.int .i64 a, .int .i64 b, .slice A m c, .slice B m2 c2] : List Value)[j]? ≠ some (.int .u8 x)
  | 0, _, h => by simp at h
  | 1, _, h => by simp at h
  | 2, _, h => by simp at h
  | 3, _, h => by simp at h
  | n + 4, _, h => by simp at h
end Go.Proofs.YtnanipeapjpkfaaDoor
namespace Go.Proofs.YtnanipeapjpkfaaDoor
set_option maxRecDepth 100000
open Go.RowKit
theorem pow_le {k : Nat} (hk : k ≤ 8) : 2 ^ k ≤ 1000000 := Nat.le_trans (Nat.pow_le_pow_right (by omega) hk) (by decide)
theorem fk_nw {f : FuncId} {args : Array Value} {w : World} {g0 : Nat} {T : TypeId} {cs : List Value} {n : Value} (hg : g0 ≤ w.heap.size) (h : Calls Tryd.prog f args w fun e w' => ∃ g, e = .returned (.tuple #[.pointer (some ⟨g, 0, none⟩), n]) ∧ Ob w' g T cs ∧ w.heap.size ≤ g ∧ Below w.heap.size w w') :
    Calls Tryd.prog f args w fun e w' => ∃ u, e = .returned u ∧ (Fk.t2 (.nw g0 T cs) n).f u w' ∧ Below w.heap.size w w' := by
  refine h.mono ?_
  rintro e w' ⟨g, rfl, ho, hl, hb⟩
  exact ⟨_, rfl, ⟨_, rfl, g, Nat.le_trans hg hl, rfl, ho⟩, hb⟩
theorem indexes_any (k : Nat) (hk : k ≤ 8) (w : World) :
    Calls Tryd.prog 35 #[.int .i64 ((k : Nat) : Int)] w fun e w' => e = .returned (.int .i64 ((2 ^ k : Nat) : Int)) ∧ Below w.heap.size w w' := by
  go_enter Tryd.func35, Tryd.ntmps35
  refine code_both (fun f w1 => f.tmps.size = 5 ∧ f.defers = [] ∧ f.eval (.tmp 0) = .int .i64 ((k : Nat) : Int) ∧ Below w.heap.size w (w1)) ⟨rfl, rfl, rfl, Below.refl _ _⟩ ?_
  rintro f0 w0 ⟨sz, df, x0, bl⟩
  have bl0 := bl
  refine wp_seq ?_
  -- R0
  refine wp_all_seq [.eq (.int .i64 0)] (by kernel_rfl) (by kernel_rfl) (by rw [sz]; kernel_rfl) (by kernel_rfl) ⟨fun hw ac u K => ?_, trivial⟩ ?_
  · exact st_assign (.const (.int .i64 0)) rfl rfl
  intro f1 w1 A hb
  replace bl0 := bl
  replace x0 := (A.old 0 rfl).trans x0
  have x2 : f1.eval (.tmp 2) = .int .i64 0 := A.has 0 2 rfl
  replace bl := (bl.trans (Below.mono hb bl.size))
  replace sz := A.size.trans sz
  replace df := A.defs.trans df
  clear A hb
  show Code.wp _ _ _ _ _
  refine wp_seq ?_
  -- R1
  refine wp_all_seq [.eq (.int .i64 ((k : Nat) : Int)), .eq (.int .i64 ((2 ^ k : Nat) : Int)), .eq (.int .i64 ((2 ^ k : Nat) : Int))] (by kernel_rfl) (by kernel_rfl) (by rw [sz]; kernel_rfl) (by kernel_rfl) ⟨fun hw ac u K => ?_, fun hw ac u K => ?_, fun hw ac u K => ?_, trivial⟩ ?_
  · exact st_move (.tmp 0) rfl ((K.old 0 rfl).trans x0)
  · exact st_shl 3 3 (.const (.int .i64 1)) (.tmp 3) rfl (1) (k) rfl (K.dep 0 3 rfl) (2 ^ k) (by simp) (pow_le hk) (by omega)
  · exact st_assign (.tmp 4) rfl (K.dep 1 4 rfl)
  intro f2 w2 A hb
  replace bl0 := bl
  replace x0 := (A.old 0 rfl).trans x0
  clear x2
  have x2 : f2.eval (.tmp 2) = .int .i64 ((2 ^ k : Nat) : Int) := A.has 2 2 rfl
  replace bl := (bl.trans (Below.mono hb bl.size))
  replace sz := A.size.trans sz
  replace df := A.defs.trans df
  clear A hb
  clear x0
  show Code.wp _ _ _ _ _
  refine wp_ret ?_
  repeat (first | with_reducible refine then_ret ?_ | with_reducible refine block_ret ?_)
  exact bodyPost_ret (v := .int .i64 ((2 ^ k : Nat) : Int)) (ret_slot rfl f2 _ x2 _ _) df ⟨rfl, bl⟩
theorem isKey_yes (kind height : Nat) (h1 : 1 ≤ kind) (h2 : kind ≤ 2) (h3 : height ≤ 8) (w : World) :
    Calls Tryd.prog 34 #[.int .i64 ((kind : Nat) : Int), .int .i64 ((height : Nat) : Int)] w fun e w' => e = .returned (.bool true) ∧ Below w.heap.size w w' := by
  go_enter Tryd.func34, Tryd.ntmps34
  refine code_both (fun f w1 => f.tmps.size = 19 ∧ f.defers = [] ∧ f.eval (.tmp 0) = .int .i64 ((kind : Nat) : Int) ∧ f.eval (.tmp 1) = .int .i64 ((height : Nat) : Int) ∧ Below w.heap.size w (w1)) ⟨rfl, rfl, rfl, rfl, Below.refl _ _⟩ ?_
  rintro f0 w0 ⟨sz, df, x0, x1, bl⟩
  have bl0 := bl
  refine wp_seq ?_
  -- R0
  refine wp_all_seq [.eq (.bool false)] (by kernel_rfl) (by kernel_rfl) (by rw [sz]; kernel_rfl) (by kernel_rfl) ⟨fun hw ac u K => ?_, trivial⟩ ?_
  · exact st_assign (.const (.bool false)) rfl rfl
  intro f1 w1 A hb
  replace bl0 := bl
  replace x0 := (A.old 0 rfl).trans x0
  replace x1 := (A.old 1 rfl).trans x1
  have x4 : f1.eval (.tmp 4) = .bool false := A.has 0 4 rfl
  replace bl := (bl.trans (Below.mono hb bl.size))
  replace sz := A.size.trans sz
  replace df := A.defs.trans df
  clear A hb
  show Code.wp _ _ _ _ _
  refine wp_seq ?_
  -- R1
  refine wp_all_seq [.eq (.int .i64 ((kind : Nat) : Int)), .eq (.bool true), .eq (.bool true), .eq (.int .i64 ((kind : Nat) : Int)), .eq (.bool true), .eq (.bool true), .eq (.bool true), .eq (.int .i64 ((height : Nat) : Int)), .eq (.bool true), .eq (.bool true), .eq (.bool true), .eq (.int .i64 ((height : Nat) : Int)), .eq (.bool true), .eq (.bool true), .eq (.bool true)] (by kernel_rfl) (by kernel_rfl) (by rw [sz]; kernel_rfl) (by kernel_rfl) ⟨fun hw ac u K => ?_, fun hw ac u K => ?_, fun hw ac u K => ?_, fun hw ac u K => ?_, fun hw ac u K => ?_, fun hw ac u K => ?_, fun hw ac u K => ?_, fun hw ac u K => ?_, fun hw ac u K => ?_, fun hw ac u K => ?_, fun hw ac u K => ?_, fun hw ac u K => ?_, fun hw ac u K => ?_, fun hw ac u K => ?_, fun hw ac u K => ?_, trivial⟩ ?_
  · exact st_move (.tmp 0) rfl ((K.old 0 rfl).trans x0)
  · exact st_geq 3 (.tmp 5) (.const (.int .i64 1)) rfl .i64 (((kind : Nat) : Int)) (1) (K.dep 0 5 rfl) rfl _ (by first | (simp; done) | (simp; omega))
  · exact st_move (.tmp 6) rfl (K.dep 1 6 rfl)
  · exact st_move (.tmp 0) rfl ((K.old 0 rfl).trans x0)
  · exact st_leq 3 (.tmp 8) (.const (.int .i64 2)) rfl .i64 (((kind : Nat) : Int)) (2) (K.dep 3 8 rfl) rfl _ (by first | (simp; done) | (simp; omega))
  · exact st_pick_t (.tmp 7) (.tmp 9) (.const (.bool false)) rfl (K.dep 2 7 rfl) (K.dep 4 9 rfl)
  · exact st_move (.tmp 10) rfl (K.dep 5 10 rfl)
  · exact st_move (.tmp 1) rfl ((K.old 1 rfl).trans x1)
  · exact st_geq 3 (.tmp 12) (.const (.int .i64 0)) rfl .i64 (((height : Nat) : Int)) (0) (K.dep 7 12 rfl) rfl _ (by first | (simp; done) | (simp; omega))
  · exact st_pick_t (.tmp 11) (.tmp 13) (.const (.bool false)) rfl (K.dep 6 11 rfl) (K.dep 8 13 rfl)
  · exact st_move (.tmp 14) rfl (K.dep 9 14 rfl)
  · exact st_move (.tmp 1) rfl ((K.old 1 rfl).trans x1)
  · exact st_leq 3 (.tmp 16) (.const (.int .i64 8)) rfl .i64 (((height : Nat) : Int)) (8) (K.dep 11 16 rfl) rfl _ (by first | (simp; done) | (simp; omega))
  · exact st_pick_t (.tmp 15) (.tmp 17) (.const (.bool false)) rfl (K.dep 10 15 rfl) (K.dep 12 17 rfl)
  · exact st_assign (.tmp 18) rfl (K.dep 13 18 rfl)
  intro f2 w2 A hb
  replace bl0 := bl
  replace x0 := (A.old 0 rfl).trans x0
  replace x1 := (A.old 1 rfl).trans x1
  clear x4
  have x4 : f2.eval (.tmp 4) = .bool true := A.has 14 4 rfl
  replace bl := (bl.trans (Below.mono hb bl.size))
  replace sz := A.size.trans sz
  replace df := A.defs.trans df
  clear A hb
  clear x0
  clear x1
  show Code.wp _ _ _ _ _
  refine wp_ret ?_
  repeat (first | with_reducible refine then_ret ?_ | with_reducible refine block_ret ?_)
  exact bodyPost_ret (v := .bool true) (ret_slot rfl f2 _ x4 _ _) df ⟨rfl, bl⟩
theorem isKey_no (kind height : Int) (h : kind < 1 ∨ 2 < kind ∨ height < 0 ∨ 8 < height) (w : World) :
    Calls Tryd.prog 34 #[.int .i64 kind, .int .i64 height] w fun e w' => e = .returned (.bool false) ∧ Below w.heap.size w w' := by
  go_enter Tryd.func34, Tryd.ntmps34
  refine code_both (fun f w1 => f.tmps.size = 19 ∧ f.defers = [] ∧ f.eval (.tmp 0) = .int .i64 (kind) ∧ f.eval (.tmp 1) = .int .i64 (height) ∧ Below w.heap.size w (w1)) ⟨rfl, rfl, rfl, rfl, Below.refl _ _⟩ ?_
  rintro f0 w0 ⟨sz, df, x0, x1, bl⟩
  have bl0 := bl
  refine wp_seq ?_
  -- R0
  refine wp_all_seq [.eq (.bool false)] (by kernel_rfl) (by kernel_rfl) (by rw [sz]; kernel_rfl) (by kernel_rfl) ⟨fun hw ac u K => ?_, trivial⟩ ?_
  · exact st_assign (.const (.bool false)) rfl rfl
  intro f1 w1 A hb
  replace bl0 := bl
  replace x0 := (A.old 0 rfl).trans x0
  replace x1 := (A.old 1 rfl).trans x1
  have x4 : f1.eval (.tmp 4) = .bool false := A.has 0 4 rfl
  replace bl := (bl.trans (Below.mono hb bl.size))
  replace sz := A.size.trans sz
  replace df := A.defs.trans df
  clear A hb
  show Code.wp _ _ _ _ _
  refine wp_seq ?_
  have hc : kind < 1 ∨ (1 ≤ kind ∧ 2 < kind) ∨ (1 ≤ kind ∧ kind ≤ 2 ∧ height < 0) ∨ (1 ≤ kind ∧ kind ≤ 2 ∧ 0 ≤ height ∧ 8 < height) := by omega
  rcases hc with hc | hc | hc | hc
  · skip
    -- R1
    refine wp_all_seq [.eq (.int .i64 (kind)), .eq (.bool false), .eq (.bool false), .any, .any, .eq (.bool false), .eq (.bool false), .any, .any, .eq (.bool false), .eq (.bool false), .any, .any, .eq (.bool false), .eq (.bool false)] (by kernel_rfl) (by kernel_rfl) (by rw [sz]; kernel_rfl) (by kernel_rfl) ⟨fun hw ac u K => ?_, fun hw ac u K => ?_, fun hw ac u K => ?_, fun hw ac u K => ?_, fun hw ac u K => ?_, fun hw ac u K => ?_, fun hw ac u K => ?_, fun hw ac u K => ?_, fun hw ac u K => ?_, fun hw ac u K => ?_, fun hw ac u K => ?_, fun hw ac u K => ?_, fun hw ac u K => ?_, fun hw ac u K => ?_, fun hw ac u K => ?_, trivial⟩ ?_
    · exact st_move (.tmp 0) rfl ((K.old 0 rfl).trans x0)
    · exact st_geq 3 (.tmp 5) (.const (.int .i64 1)) rfl .i64 ((kind)) (1) (K.dep 0 5 rfl) rfl _ (by first | (simp; done) | (simp; omega))
    · exact st_move (.tmp 6) rfl (K.dep 1 6 rfl)
    · exact (Bool.false_ne_true hw).elim
    · exact (Bool.false_ne_true hw).elim
    · exact st_pick_f' (.tmp 7) (.tmp 9) (.const (.bool false)) rfl (K.dep 2 7 rfl) rfl
    · exact st_move (.tmp 10) rfl (K.dep 5 10 rfl)
    · exact (Bool.false_ne_true hw).elim
    · exact (Bool.false_ne_true hw).elim
    · exact st_pick_f' (.tmp 11) (.tmp 13) (.const (.bool false)) rfl (K.dep 6 11 rfl) rfl
    · exact st_move (.tmp 14) rfl (K.dep 9 14 rfl)
    · exact (Bool.false_ne_true hw).elim
    · exact (Bool.false_ne_true hw).elim
    · exact st_pick_f' (.tmp 15) (.tmp 17) (.const (.bool false)) rfl (K.dep 10 15 rfl) rfl
    · exact st_assign (.tmp 18) rfl (K.dep 13 18 rfl)
    intro f2 w2 A hb
    replace bl0 := bl
    replace x0 := (A.old 0 rfl).trans x0
    replace x1 := (A.old 1 rfl).trans x1
    clear x4
    have x4 : f2.eval (.tmp 4) = .bool false := A.has 14 4 rfl
    replace bl := (bl.trans (Below.mono hb bl.size))
    replace sz := A.size.trans sz
    replace df := A.defs.trans df
    clear A hb
    clear x0
    clear x1
    show Code.wp _ _ _ _ _
    refine wp_ret ?_
    repeat (first | with_reducible refine then_ret ?_ | with_reducible refine block_ret ?_)
    exact bodyPost_ret (v := .bool false) (ret_slot rfl f2 _ x4 _ _) df ⟨rfl, bl⟩
  · skip
    -- R1
    refine wp_all_seq [.eq (.int .i64 (kind)), .eq (.bool true), .eq (.bool true), .eq (.int .i64 (kind)), .eq (.bool false), .eq (.bool false), .eq (.bool false), .any, .any, .eq (.bool false), .eq (.bool false), .any, .any, .eq (.bool false), .eq (.bool false)] (by kernel_rfl) (by kernel_rfl) (by rw [sz]; kernel_rfl) (by kernel_rfl) ⟨fun hw ac u K => ?_, fun hw ac u K => ?_, fun hw ac u K => ?_, fun hw ac u K => ?_, fun hw ac u K => ?_, fun hw ac u K => ?_, fun hw ac u K => ?_, fun hw ac u K => ?_, fun hw ac u K => ?_, fun hw ac u K => ?_, fun hw ac u K => ?_, fun hw ac u K => ?_, fun hw ac u K => ?_, fun hw ac u K => ?_, fun hw ac u K => ?_, trivial⟩ ?_
    · exact st_move (.tmp 0) rfl ((K.old 0 rfl).trans x0)
    · exact st_geq 3 (.tmp 5) (.const (.int .i64 1)) rfl .i64 ((kind)) (1) (K.dep 0 5 rfl) rfl _ (by first | (simp; done) | (simp; omega))
    · exact st_move (.tmp 6) rfl (K.dep 1 6 rfl)
    · exact st_move (.tmp 0) rfl ((K.old 0 rfl).trans x0)
    · exact st_leq 3 (.tmp 8) (.const (.int .i64 2)) rfl .i64 ((kind)) (2) (K.dep 3 8 rfl) rfl _ (by first | (simp; done) | (simp; omega))
    · exact st_pick_t (.tmp 7) (.tmp 9) (.const (.bool false)) rfl (K.dep 2 7 rfl) (K.dep 4 9 rfl)
    · exact st_move (.tmp 10) rfl (K.dep 5 10 rfl)
    · exact (Bool.false_ne_true hw).elim
    · exact (Bool.false_ne_true hw).elim
    · exact st_pick_f' (.tmp 11) (.tmp 13) (.const (.bool false)) rfl (K.dep 6 11 rfl) rfl
    · exact st_move (.tmp 14) rfl (K.dep 9 14 rfl)
    · exact (Bool.false_ne_true hw).elim
    · exact (Bool.false_ne_true hw).elim
    · exact st_pick_f' (.tmp 15) (.tmp 17) (.const (.bool false)) rfl (K.dep 10 15 rfl) rfl
    · exact st_assign (.tmp 18) rfl (K.dep 13 18 rfl)
    intro f2 w2 A hb
    replace bl0 := bl
    replace x0 := (A.old 0 rfl).trans x0
    replace x1 := (A.old 1 rfl).trans x1
    clear x4
    have x4 : f2.eval (.tmp 4) = .bool false := A.has 14 4 rfl
    replace bl := (bl.trans (Below.mono hb bl.size))
    replace sz := A.size.trans sz
    replace df := A.defs.trans df
    clear A hb
    clear x0
    clear x1
    show Code.wp _ _ _ _ _
    refine wp_ret ?_
    repeat (first | with_reducible refine then_ret ?_ | with_reducible refine block_ret ?_)
    exact bodyPost_ret (v := .bool false) (ret_slot rfl f2 _ x4 _ _) df ⟨rfl, bl⟩
  · skip
    -- R1
    refine wp_all_seq [.eq (.int .i64 (kind)), .eq (.bool true), .eq (.bool true), .eq (.int .i64 (kind)), .eq (.bool true), .eq (.bool true), .eq (.bool true), .eq (.int .i64 (height)), .eq (.bool false), .eq (.bool false), .eq (.bool false), .any, .any, .eq (.bool false), .eq (.bool false)] (by kernel_rfl) (by kernel_rfl) (by rw [sz]; kernel_rfl) (by kernel_rfl) ⟨fun hw ac u K => ?_, fun hw ac u K => ?_, fun hw ac u K => ?_, fun hw ac u K => ?_, fun hw ac u K => ?_, fun hw ac u K => ?_, fun hw ac u K => ?_, fun hw ac u K => ?_, fun hw ac u K => ?_, fun hw ac u K => ?_, fun hw ac u K => ?_, fun hw ac u K => ?_, fun hw ac u K => ?_, fun hw ac u K => ?_, fun hw ac u K => ?_, trivial⟩ ?_
    · exact st_move (.tmp 0) rfl ((K.old 0 rfl).trans x0)
    · exact st_geq 3 (.tmp 5) (.const (.int .i64 1)) rfl .i64 ((kind)) (1) (K.dep 0 5 rfl) rfl _ (by first | (simp; done) | (simp; omega))
    · exact st_move (.tmp 6) rfl (K.dep 1 6 rfl)
    · exact st_move (.tmp 0) rfl ((K.old 0 rfl).trans x0)
    · exact st_leq 3 (.tmp 8) (.const (.int .i64 2)) rfl .i64 ((kind)) (2) (K.dep 3 8 rfl) rfl _ (by first | (simp; done) | (simp; omega))
    · exact st_pick_t (.tmp 7) (.tmp 9) (.const (.bool false)) rfl (K.dep 2 7 rfl) (K.dep 4 9 rfl)
    · exact st_move (.tmp 10) rfl (K.dep 5 10 rfl)
    · exact st_move (.tmp 1) rfl ((K.old 1 rfl).trans x1)
    · exact st_geq 3 (.tmp 12) (.const (.int .i64 0)) rfl .i64 ((height)) (0) (K.dep 7 12 rfl) rfl _ (by first | (simp; done) | (simp; omega))
    · exact st_pick_t (.tmp 11) (.tmp 13) (.const (.bool false)) rfl (K.dep 6 11 rfl) (K.dep 8 13 rfl)
    · exact st_move (.tmp 14) rfl (K.dep 9 14 rfl)
    · exact (Bool.false_ne_true hw).elim
    · exact (Bool.false_ne_true hw).elim
    · exact st_pick_f' (.tmp 15) (.tmp 17) (.const (.bool false)) rfl (K.dep 10 15 rfl) rfl
    · exact st_assign (.tmp 18) rfl (K.dep 13 18 rfl)
    intro f2 w2 A hb
    replace bl0 := bl
    replace x0 := (A.old 0 rfl).trans x0
    replace x1 := (A.old 1 rfl).trans x1
    clear x4
    have x4 : f2.eval (.tmp 4) = .bool false := A.has 14 4 rfl
    replace bl := (bl.trans (Below.mono hb bl.size))
    replace sz := A.size.trans sz
    replace df := A.defs.trans df
    clear A hb
    clear x0
    clear x1
    show Code.wp _ _ _ _ _
    refine wp_ret ?_
    repeat (first | with_reducible refine then_ret ?_ | with_reducible refine block_ret ?_)
    exact bodyPost_ret (v := .bool false) (ret_slot rfl f2 _ x4 _ _) df ⟨rfl, bl⟩
  -- R1
  refine wp_all_seq [.eq (.int .i64 (kind)), .eq (.bool true), .eq (.bool true), .eq (.int .i64 (kind)), .eq (.bool true), .eq (.bool true), .eq (.bool true), .eq (.int .i64 (height)), .eq (.bool true), .eq (.bool true), .eq (.bool true), .eq (.int .i64 (height)), .eq (.bool false), .eq (.bool false), .eq (.bool false)] (by kernel_rfl) (by kernel_rfl) (by rw [sz]; kernel_rfl) (by kernel_rfl) ⟨fun hw ac u K => ?_, fun hw ac u K => ?_, fun hw ac u K => ?_, fun hw ac u K => ?_, fun hw ac u K => ?_, fun hw ac u K => ?_, fun hw ac u K => ?_, fun hw ac u K => ?_, fun hw ac u K => ?_, fun hw ac u K => ?_, fun hw ac u K => ?_, fun hw ac u K => ?_, fun hw ac u K => ?_, fun hw ac u K => ?_, fun hw ac u K => ?_, trivial⟩ ?_
  · exact st_move (.tmp 0) rfl ((K.old 0 rfl).trans x0)
  · exact st_geq 3 (.tmp 5) (.const (.int .i64 1)) rfl .i64 ((kind)) (1) (K.dep 0 5 rfl) rfl _ (by first | (simp; done) | (simp; omega))
  · exact st_move (.tmp 6) rfl (K.dep 1 6 rfl)
  · exact st_move (.tmp 0) rfl ((K.old 0 rfl).trans x0)
  · exact st_leq 3 (.tmp 8) (.const (.int .i64 2)) rfl .i64 ((kind)) (2) (K.dep 3 8 rfl) rfl _ (by first | (simp; done) | (simp; omega))
  · exact st_pick_t (.tmp 7) (.tmp 9) (.const (.bool false)) rfl (K.dep 2 7 rfl) (K.dep 4 9 rfl)
  · exact st_move (.tmp 10) rfl (K.dep 5 10 rfl)
  · exact st_move (.tmp 1) rfl ((K.old 1 rfl).trans x1)
  · exact st_geq 3 (.tmp 12) (.const (.int .i64 0)) rfl .i64 ((height)) (0) (K.dep 7 12 rfl) rfl _ (by first | (simp; done) | (simp; omega))
  · exact st_pick_t (.tmp 11) (.tmp 13) (.const (.bool false)) rfl (K.dep 6 11 rfl) (K.dep 8 13 rfl)
  · exact st_move (.tmp 14) rfl (K.dep 9 14 rfl)
  · exact st_move (.tmp 1) rfl ((K.old 1 rfl).trans x1)
  · exact st_leq 3 (.tmp 16) (.const (.int .i64 8)) rfl .i64 ((height)) (8) (K.dep 11 16 rfl) rfl _ (by first | (simp; done) | (simp; omega))
  · exact st_pick_t (.tmp 15) (.tmp 17) (.const (.bool false)) rfl (K.dep 10 15 rfl) (K.dep 12 17 rfl)
  · exact st_assign (.tmp 18) rfl (K.dep 13 18 rfl)
  intro f2 w2 A hb
  replace bl0 := bl
  replace x0 := (A.old 0 rfl).trans x0
  replace x1 := (A.old 1 rfl).trans x1
  clear x4
  have x4 : f2.eval (.tmp 4) = .bool false := A.has 14 4 rfl
  replace bl := (bl.trans (Below.mono hb bl.size))
  replace sz := A.size.trans sz
  replace df := A.defs.trans df
  clear A hb
  clear x0
  clear x1
  show Code.wp _ _ _ _ _
  refine wp_ret ?_
  repeat (first | with_reducible refine then_ret ?_ | with_reducible refine block_ret ?_)
  exact bodyPost_ret (v := .bool false) (ret_slot rfl f2 _ x4 _ _) df ⟨rfl, bl⟩
theorem Tryd.buildKeyx (x0 x1 x2 x3 x4 x5 x6 x7 x8 x9 x10 x11 x12 x13 x14 x15 x16 x17 x18 x19 x20 x21 x22 x23 x24 x25 x26 x27 x28 x29 x30 x31 : BitVec 8) (p q r : Int) (w : World) : (Instr.build 69 #[(0, .agg ([x0, x1, x2, x3, x4, x5, x6, x7, x8, x9, x10, x11, x12, x13, x14, x15, x16, x17, x18, x19, x20, x21, x22, x23, x24, x25, x26, x27, x28, x29, x30, x31].map V).toArray), (1, .int .i64 p), (2, .int .i64 q), (3, .int .i64 r)]).run Tryd.prog w = .ok (.agg ([x0, x1, x2, x3, x4, x5, x6, x7, x8, x9, x10, x11, x12, x13, x14, x15, x16, x17, x18, x19, x20, x21, x22, x23, x24, x25, x26, x27, x28, x29, x30, x31].map V ++ ([.int .i64 p, .int .i64 q, .int .i64 r] : List Value)).toArray) w := by kernel_rfl
theorem Tryd.buildKey {seed : List (BitVec 8)} (hx : seed.length = 32) (p q r : Int) (w : World) : (Instr.build 69 #[(0, .agg (seed.map V).toArray), (1, .int .i64 p), (2, .int .i64 q), (3, .int .i64 r)]).run Tryd.prog w = .ok (.agg (seed.map V ++ ([.int .i64 p, .int .i64 q, .int .i64 r] : List Value)).toArray) w := by
  match seed, hx with
  | [x0, x1, x2, x3, x4, x5, x6, x7, x8, x9, x10, x11, x12, x13, x14, x15, x16, x17, x18, x19, x20, x21, x22, x23, x24, x25, x26, x27, x28, x29, x30, x31], _ => exact Tryd.buildKeyx x0 x1 x2 x3 x4 x5 x6 x7 x8 x9 x10 x11 x12 x13 x14 x15 x16 x17 x18 x19 x20 x21 x22 x23 x24 x25 x26 x27 x28 x29 x30 x31 p q r w
theorem build_key {seed : List (BitVec 8)} (hx : seed.length = 32) {a : Act} {s k h n : Operand} {p q r : Int} (w : World) (e0 : a.eval s = .agg (seed.map V).toArray) (e1 : a.eval k = .int .i64 p) (e2 : a.eval h = .int .i64 q) (e3 : a.eval n = .int .i64 r) :
    (Instr.build 69 (#[(0, s), (1, k), (2, h), (3, n)].map fun (i, x) => (i, a.eval x))).run Tryd.prog w = .ok (.agg (seed.map V ++ ([.int .i64 p, .int .i64 q, .int .i64 r] : List Value)).toArray) w := by
  have := Tryd.buildKey hx p q r w
  simpa [e0, e1, e2, e3] using this
theorem restore_ok (seed : List (BitVec 8)) (kind height next : Nat) (hx : seed.length = 32) (h1 : 1 ≤ kind) (h2 : kind ≤ 2) (h3 : height ≤ 8) (h4 : next ≤ 2 ^ height) (w : World) :
    Calls Tryd.prog 9 #[.agg (seed.map V).toArray, .int .i64 ((kind : Nat) : Int), .int .i64 ((height : Nat) : Int), .int .i64 ((next : Nat) : Int)] w fun e w' => ∃ g, e = .returned (.tuple #[.pointer (some ⟨g, 0, none⟩), .int .i64 0]) ∧ Ob w' g 69 ((seed).map V ++ ([.int .i64 ((kind : Nat) : Int), .int .i64 ((height : Nat) : Int), .int .i64 ((next : Nat) : Int)] : List Value)) ∧ w.heap.size ≤ g ∧ Below w.heap.size w w' := by
  go_enter Tryd.func9, Tryd.ntmps9
  refine code_both (fun f w1 => f.tmps.size = 30 ∧ f.defers = [] ∧ f.eval (.tmp 0) = .agg ((seed).map V).toArray ∧ f.eval (.tmp 1) = .int .i64 ((kind : Nat) : Int) ∧ f.eval (.tmp 2) = .int .i64 ((height : Nat) : Int) ∧ f.eval (.tmp 3) = .int .i64 ((next : Nat) : Int) ∧ Below w.heap.size w (w1)) ⟨rfl, rfl, rfl, rfl, rfl, rfl, Below.refl _ _⟩ ?_
  rintro f0 w0 ⟨sz, df, x0, x1, x2, x3, bl⟩
  have bl0 := bl
  refine wp_seq ?_
  -- R0
  refine wp_region_seq [] (by kernel_rfl) (by kernel_rfl) (by rw [sz]; kernel_rfl) (by kernel_rfl) trivial ?_
  intro f1 w1 A hb
  replace bl0 := bl
  replace x0 := (A.old 0 rfl).trans x0
  replace x1 := (A.old 1 rfl).trans x1
  replace x2 := (A.old 2 rfl).trans x2
  replace x3 := (A.old 3 rfl).trans x3
  replace bl := (bl.trans (Below.mono hb bl.size))
  replace sz := A.size.trans sz
  replace df := A.defs.trans df
  clear A hb
  refine wl_one (.nw w1.heap.size 23 ((seed).map V)) rfl 4 rfl (by rw [sz]; decide) (st_box 23 (.tmp 0) rfl _ _ (by rw [show _ = _ from x0]; kernel_rfl) (Nat.le_refl _)) ?_
  intro f2 w2 df2 sz2 old2 new2 hb
  replace bl0 := bl
  replace x0 := (old2 0 rfl).trans x0
  replace x1 := (old2 1 rfl).trans x1
  replace x2 := (old2 2 rfl).trans x2
  replace x3 := (old2 3 rfl).trans x3
  have x4 : Fk.f (.nw w1.heap.size 23 ((seed).map V)) (f2.eval (.tmp 4)) w2 := new2
  replace bl := (bl.trans (Below.mono hb bl.size))
  replace sz := sz2.trans sz
  replace df := df2.trans df
  clear df2 sz2 old2 new2 hb
  obtain ⟨g4, hg4, e4, m4⟩ := x4
  have x4 := e4
  clear e4
  have hw4 : w.heap.size ≤ g4 := Nat.le_trans bl0.size hg4
  clear x0
  refine wl_one (.eq (.pointer none)) rfl 8 rfl (by rw [sz]; decide) (st_assign (.const (.pointer none)) rfl rfl) ?_
  intro f3 w3 df2 sz2 old2 new2 hb
  replace bl0 := bl
  replace x1 := (old2 1 rfl).trans x1
  replace x2 := (old2 2 rfl).trans x2
  replace x3 := (old2 3 rfl).trans x3
  replace x4 := (old2 4 rfl).trans x4
  have x8 : f3.eval (.tmp 8) = .pointer none := new2
  have lt_m4 := Ob.lt m4
  replace m4 := Ob.below m4 hb
  replace bl := (bl.trans (Below.mono hb bl.size))
  replace sz := sz2.trans sz
  replace df := df2.trans df
  clear df2 sz2 old2 new2 hb
  refine wl_one (.eq (.int .i64 0)) rfl 9 rfl (by rw [sz]; decide) (st_assign (.const (.int .i64 0)) rfl rfl) ?_
  intro f4 w4 df2 sz2 old2 new2 hb
  replace bl0 := bl
  replace x1 := (old2 1 rfl).trans x1
  replace x2 := (old2 2 rfl).trans x2
  replace x3 := (old2 3 rfl).trans x3
  replace x4 := (old2 4 rfl).trans x4
  replace x8 := (old2 8 rfl).trans x8
  have x9 : f4.eval (.tmp 9) = .int .i64 0 := new2
  have lt_m4 := Ob.lt m4
  replace m4 := Ob.below m4 hb
  replace bl := (bl.trans (Below.mono hb bl.size))
  replace sz := sz2.trans sz
  replace df := df2.trans df
  clear df2 sz2 old2 new2 hb
  refine wpList_nil ?_
  show Code.wp _ _ _ _ _
  refine wp_seq ?_
  refine wp_seq ?_
  -- R1
  refine wp_all_seq [.eq (.int .i64 ((kind : Nat) : Int)), .eq (.int .i64 ((height : Nat) : Int)), .eq (.bool true), .eq (.bool false), .eq (.bool false), .eq (.int .i64 ((next : Nat) : Int)), .eq (.bool false), .eq (.bool false), .eq (.bool false), .eq (.int .i64 ((next : Nat) : Int)), .eq (.int .i64 ((height : Nat) : Int)), .eq (.int .i64 ((2 ^ height : Nat) : Int)), .eq (.bool false), .eq (.bool false)] (by kernel_rfl) (by kernel_rfl) (by rw [sz]; kernel_rfl) (by kernel_rfl) ⟨fun hw ac u K => ?_, fun hw ac u K => ?_, fun hw ac u K => ?_, fun hw ac u K => ?_, fun hw ac u K => ?_, fun hw ac u K => ?_, fun hw ac u K => ?_, fun hw ac u K => ?_, fun hw ac u K => ?_, fun hw ac u K => ?_, fun hw ac u K => ?_, fun hw ac u K => ?_, fun hw ac u K => ?_, fun hw ac u K => ?_, trivial⟩ ?_
  · exact st_move (.tmp 1) rfl ((K.old 1 rfl).trans x1)
  · exact st_move (.tmp 2) rfl ((K.old 2 rfl).trans x2)
  · exact st_call 34 (.func 34) _ _ #[.int .i64 ((kind : Nat) : Int), .int .i64 ((height : Nat) : Int)] rfl rfl (arg2 (K.dep 0 10 rfl) (K.dep 1 11 rfl)) Tryd.enter34 (fk_of (isKey_yes kind height h1 h2 h3 _))
  · exact st_not (.tmp 12) rfl true (K.dep 2 12 rfl)
  · exact st_move (.tmp 13) rfl (K.dep 3 13 rfl)
  · exact st_move (.tmp 3) rfl ((K.old 3 rfl).trans x3)
  · exact st_lss 3 (.tmp 15) (.const (.int .i64 0)) rfl .i64 (((next : Nat) : Int)) (0) (K.dep 5 15 rfl) rfl _ (by first | (simp; done) | (simp; omega))
  · exact st_pick_f' (.tmp 14) (.const (.bool true)) (.tmp 16) rfl (K.dep 4 14 rfl) (K.dep 6 16 rfl)
  · exact st_move (.tmp 17) rfl (K.dep 7 17 rfl)
  · exact st_move (.tmp 3) rfl ((K.old 3 rfl).trans x3)
  · exact st_move (.tmp 2) rfl ((K.old 2 rfl).trans x2)
  · exact st_call 35 (.func 35) _ _ #[.int .i64 ((height : Nat) : Int)] rfl rfl (one_arg (K.dep 10 20 rfl)) Tryd.enter35 (fk_of (indexes_any height h3 _))
  · exact st_gtr 3 (.tmp 19) (.tmp 21) rfl .i64 (((next : Nat) : Int)) (((2 ^ height : Nat) : Int)) (K.dep 9 19 rfl) (K.dep 11 21 rfl) _ (by rw [eq_comm, decide_eq_false_iff_not]; omega)
  · exact st_pick_f' (.tmp 18) (.const (.bool true)) (.tmp 22) rfl (K.dep 8 18 rfl) (K.dep 12 22 rfl)
  intro f5 w5 A hb
  replace bl0 := bl
  replace x1 := (A.old 1 rfl).trans x1
  replace x2 := (A.old 2 rfl).trans x2
  replace x3 := (A.old 3 rfl).trans x3
  replace x4 := (A.old 4 rfl).trans x4
  replace x8 := (A.old 8 rfl).trans x8
  replace x9 := (A.old 9 rfl).trans x9
  have x23 : f5.eval (.tmp 23) = .bool false := A.has 13 23 rfl
  have lt_m4 := Ob.lt m4
  replace m4 := Ob.below m4 hb
  replace bl := (bl.trans (Below.mono hb bl.size))
  replace sz := A.size.trans sz
  replace df := A.defs.trans df
  clear A hb
  show Code.wp _ _ _ _ _
  refine wp_cond_false x23 ?_
  refine wp_skip ?_
  show Code.wp _ _ _ _ _
  refine wp_seq ?_
  -- R3
  refine wp_region_seq [.eq (.agg ((seed).map V).toArray), .eq (.int .i64 ((kind : Nat) : Int)), .eq (.int .i64 ((height : Nat) : Int)), .eq (.int .i64 ((next : Nat) : Int))] (by kernel_rfl) (by kernel_rfl) (by rw [sz]; kernel_rfl) (by kernel_rfl) ⟨fun hw ac u K => ?_, fun hw ac u K => ?_, fun hw ac u K => ?_, fun hw ac u K => ?_, trivial⟩ ?_
  · exact st_load23 (.tmp 4) rfl (g4) (seed) ((K.old 4 rfl).trans x4) hx (Ob.below m4 K.grow)
  · exact st_move (.tmp 1) rfl ((K.old 1 rfl).trans x1)
  · exact st_move (.tmp 2) rfl ((K.old 2 rfl).trans x2)
  · exact st_move (.tmp 3) rfl ((K.old 3 rfl).trans x3)
  intro f6 w6 A hb
  replace bl0 := bl
  replace x1 := (A.old 1 rfl).trans x1
  replace x2 := (A.old 2 rfl).trans x2
  replace x3 := (A.old 3 rfl).trans x3
  replace x4 := (A.old 4 rfl).trans x4
  replace x8 := (A.old 8 rfl).trans x8
  replace x9 := (A.old 9 rfl).trans x9
  replace x23 := (A.old 23 rfl).trans x23
  have x24 : f6.eval (.tmp 24) = .agg ((seed).map V).toArray := A.has 0 24 rfl
  have x25 : f6.eval (.tmp 25) = .int .i64 ((kind : Nat) : Int) := A.has 1 25 rfl
  have x26 : f6.eval (.tmp 26) = .int .i64 ((height : Nat) : Int) := A.has 2 26 rfl
  have x27 : f6.eval (.tmp 27) = .int .i64 ((next : Nat) : Int) := A.has 3 27 rfl
  have lt_m4 := Ob.lt m4
  replace m4 := Ob.below m4 hb
  replace bl := (bl.trans (Below.mono hb bl.size))
  replace sz := A.size.trans sz
  replace df := A.defs.trans df
  clear A hb
  clear x4
  refine wl_one (.eq (.agg ((seed).map V ++ ([.int .i64 ((kind : Nat) : Int), .int .i64 ((height : Nat) : Int), .int .i64 ((next : Nat) : Int)] : List Value)).toArray)) rfl 28 rfl (by rw [sz]; decide) (st_build 69 _ rfl (build_key hx _ x24 x25 x26 x27)) ?_
  intro f7 w7 df2 sz2 old2 new2 hb
  replace bl0 := bl
  replace x1 := (old2 1 rfl).trans x1
  replace x2 := (old2 2 rfl).trans x2
  replace x3 := (old2 3 rfl).trans x3
  replace x8 := (old2 8 rfl).trans x8
  replace x9 := (old2 9 rfl).trans x9
  replace x23 := (old2 23 rfl).trans x23
  replace x24 := (old2 24 rfl).trans x24
  replace x25 := (old2 25 rfl).trans x25
  replace x26 := (old2 26 rfl).trans x26
  replace x27 := (old2 27 rfl).trans x27
  have x28 : f7.eval (.tmp 28) = .agg ((seed).map V ++ ([.int .i64 ((kind : Nat) : Int), .int .i64 ((height : Nat) : Int), .int .i64 ((next : Nat) : Int)] : List Value)).toArray := new2
  have lt_m4 := Ob.lt m4
  replace m4 := Ob.below m4 hb
  replace bl := (bl.trans (Below.mono hb bl.size))
  replace sz := sz2.trans sz
  replace df := df2.trans df
  clear df2 sz2 old2 new2 hb
  clear x24
  clear x25
  clear x26
  clear x27
  refine wl_one (.nw w7.heap.size 69 ((seed).map V ++ ([.int .i64 ((kind : Nat) : Int), .int .i64 ((height : Nat) : Int), .int .i64 ((next : Nat) : Int)] : List Value))) rfl 29 rfl (by rw [sz]; decide) (st_box 69 (.tmp 28) rfl _ _ (by rw [show _ = _ from x28]; kernel_rfl) (Nat.le_refl _)) ?_
  intro f8 w8 df2 sz2 old2 new2 hb
  replace bl0 := bl
  replace x1 := (old2 1 rfl).trans x1
  replace x2 := (old2 2 rfl).trans x2
  replace x3 := (old2 3 rfl).trans x3
  replace x8 := (old2 8 rfl).trans x8
  replace x9 := (old2 9 rfl).trans x9
  replace x23 := (old2 23 rfl).trans x23
  replace x28 := (old2 28 rfl).trans x28
  have x29 : Fk.f (.nw w7.heap.size 69 ((seed).map V ++ ([.int .i64 ((kind : Nat) : Int), .int .i64 ((height : Nat) : Int), .int .i64 ((next : Nat) : Int)] : List Value))) (f8.eval (.tmp 29)) w8 := new2
  have lt_m4 := Ob.lt m4
  replace m4 := Ob.below m4 hb
  replace bl := (bl.trans (Below.mono hb bl.size))
  replace sz := sz2.trans sz
  replace df := df2.trans df
  clear df2 sz2 old2 new2 hb
  obtain ⟨g29, hg29, e29, m29⟩ := x29
  have x29 := e29
  clear e29
  have nm4_29 : g4 ≠ g29 := Nat.ne_of_lt (Nat.lt_of_lt_of_le lt_m4 hg29)
  have hw29 : w.heap.size ≤ g29 := Nat.le_trans bl0.size hg29
  clear x28
  refine wl_one (.eq (.pointer (some ⟨g29, 0, none⟩))) rfl 8 rfl (by rw [sz]; decide) (st_assign (.tmp 29) rfl x29) ?_
  intro f9 w9 df2 sz2 old2 new2 hb
  replace bl0 := bl
  replace x1 := (old2 1 rfl).trans x1
  replace x2 := (old2 2 rfl).trans x2
  replace x3 := (old2 3 rfl).trans x3
  clear x8
  replace x9 := (old2 9 rfl).trans x9
  replace x23 := (old2 23 rfl).trans x23
  replace x29 := (old2 29 rfl).trans x29
  have x8 : f9.eval (.tmp 8) = .pointer (some ⟨g29, 0, none⟩) := new2
  have lt_m4 := Ob.lt m4
  replace m4 := Ob.below m4 hb
  have lt_m29 := Ob.lt m29
  replace m29 := Ob.below m29 hb
  replace bl := (bl.trans (Below.mono hb bl.size))
  replace sz := sz2.trans sz
  replace df := df2.trans df
  clear df2 sz2 old2 new2 hb
  clear x29
  refine wl_one (.eq (.int .i64 0)) rfl 9 rfl (by rw [sz]; decide) (st_assign (.const (.int .i64 0)) rfl rfl) ?_
  intro f10 w10 df2 sz2 old2 new2 hb
  replace bl0 := bl
  replace x1 := (old2 1 rfl).trans x1
  replace x2 := (old2 2 rfl).trans x2
  replace x3 := (old2 3 rfl).trans x3
  clear x9
  replace x23 := (old2 23 rfl).trans x23
  replace x8 := (old2 8 rfl).trans x8
  have x9 : f10.eval (.tmp 9) = .int .i64 0 := new2
  have lt_m4 := Ob.lt m4
  replace m4 := Ob.below m4 hb
  have lt_m29 := Ob.lt m29
  replace m29 := Ob.below m29 hb
  replace bl := (bl.trans (Below.mono hb bl.size))
  replace sz := sz2.trans sz
  replace df := df2.trans df
  clear df2 sz2 old2 new2 hb
  refine wpList_nil ?_
  show Code.wp _ _ _ _ _
  refine wp_ret ?_
  repeat (first | with_reducible refine then_ret ?_ | with_reducible refine block_ret ?_)
  exact bodyPost_ret (v := .tuple #[.pointer (some ⟨g29, 0, none⟩), .int .i64 0]) (ret_two rfl f10 _ _ x8 x9 _ _) df ⟨g29, rfl, m29, hw29, bl⟩
end Go.Proofs.YtnanipeapjpkfaaDoor
