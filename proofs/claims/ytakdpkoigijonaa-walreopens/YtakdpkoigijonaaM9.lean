/- What Int, Text, Hash, Hashes and Bool do with an Out. The bytes of a signature, plainly; lists of hashes as flat lists; an Out that begins. What is written is read back, and what is read was so written: numbers, hashes, signatures. The calls of an In as walks of other packages meet them. What the reference's Bytes hands back: the kind's byte, and the bytes of the parts, one behind the other. What the reference's Number hands back: a number's last bytes, the highest first; Bytes once more. What the reference's Number, Int, Count hand back. What the reference's Text and Hashes hand back. Rows of arrays, and what law and reference make of hashes. The law's and the reference's bytes of a signature: Join, and slices of arrays of the call's own. The reference's Int, Join, Head. The reference's Read. The head, plainly. The reference's Parse. The wal, plainly: what stays over crashes and openings. What the laws know between their calls. Openings, again and again; tampered heads. The law's step at any two states: nothing, Flush, Arm, Crash, Tamper. The law's step: a Read. The law's step: a Write. What the program's disk tells (open); the law's same. The step of every kind; New (open). Calls of the program's disk; awake. The landed wal: its struct; Home, Room, Size, Down, has, the sectors' numbers. -/
import Derived.Test.YtakdpkoigijonaaM8
import Derived.Test.YtakdpkoigijonaaM3
import Derived.Test.YtakdpkoigijonaaM2
import Derived.Test.YtakdpkoigijonaaM1
import Derived.Laws.IdiomStrings
import Derived.Test.YtakdpkoigijonaaM7
import Derived.Laws.AppendOwnNone
namespace Go.Proofs.Ytakdpkoigijonaa
set_option maxRecDepth 100000
open Go.RowKit
/-- A number's eight bytes. -/
def be8 (n : Int) : List (BitVec 8) := beN (n % 18446744073709551616).toNat 8
theorem be8_len (n : Int) : (be8 n).length = 8 := beN_len _ _
set_option maxHeartbeats 400000 in
theorem oint_any (ob : Nat) (n : Int) (v0 : Value) (xs : List (BitVec 8)) (w : World) (h : HasOut w ob v0 xs) (hx : xs.length ≤ 900000) :
    Calls Try.prog 80 #[.pointer (some ⟨ob, 0, none⟩), .int .i64 n] w fun e w' => e = .returned (.pointer (some ⟨ob, 0, none⟩)) ∧ ∃ v', HasOut w' ob v' (xs ++ be8 n) ∧ Put ob v0 v' w w' := by
  have hT := Box.mk (onumber_any ob (n % 18446744073709551616).toNat 8 v0 xs w h (by omega) (by omega) hx)
  have e1 : IntKind.u64.wrap n = (((n % 18446744073709551616).toNat : Nat) : Int) := by rw [IntKind.wrap_u64]; omega
  unfold be8
  generalize (n % 18446744073709551616).toNat = N at *
  clear h
  go_enter Try.func80, Try.ntmps80
  go_wp2_with (first | (rw [e1]; refine hT.out.mono ?_; rintro e w' ⟨rfl, h1⟩; have h1' := Box.mk h1; clear h1) | (refine hT.out.mono ?_; rintro e w' ⟨rfl, h1⟩; have h1' := Box.mk h1; clear h1))
  go_ret
  exact ⟨rfl, h1'.out⟩
theorem wpList_app {ops : Array Oper} {rest : List Oper} {o : Oper} {a : Act} {w w2 : World} {Q : Exit → Act → World → Prop} (hgd : o.guard = none) (s x : Operand) (t u : TypeId)
    (ho : o.op = .call { callee := .builtin .append, args := #[s, x], argTypes := #[t, u] }) (v y v2 : Value) (hs : a.eval s = v) (hx : a.eval x = y) (hr : (Builtin.append_ #[t, u] o.type #[v, y]).run Try.prog w = .ok v2 w2)
    (h : wpList Try.prog ops Q rest (a.put o.dst v2) w2) : wpList Try.prog ops Q (o :: rest) a w := by
  refine wpList_plain hgd fun K hK => ?_
  unfold Oper.wp execOp
  simp only [ho, resolve, invoke, builtin, Sem.run_bind, Sem.run_pure, Result.andThen_ok, List.map_toArray, List.map_cons, List.map_nil, hs, hx, hr]
  exact hK _ _ h
/-- A slice value that has n hashes, one behind the other. -/
structure Fl (w : World) (A : Option Addr) (lb lo n : Nat) (D : List (BitVec 8)) : Prop where
  len : D.length = 32 * n
  src : 0 < n → A = some ⟨lb, lo, none⟩ ∧ lb < w.heap.size ∧ HasB w lb lo D
theorem Fl.keep {w w' : World} {A : Option Addr} {lb lo n : Nat} {D : List (BitVec 8)} (h : Fl w A lb lo n D) (hs : w.heap.size ≤ w'.heap.size) (hk : 0 < n → w'.heap[lb]? = w.heap[lb]?) : Fl w' A lb lo n D :=
  ⟨h.len, fun hn => ⟨(h.src hn).1, Nat.lt_of_lt_of_le (h.src hn).2.1 hs, fun i hi => by rw [World.cell?_of_block (w := w) (hk hn)]; exact (h.src hn).2.2 i hi⟩⟩
theorem Fl.below {w w' : World} {A : Option Addr} {lb lo n B : Nat} {D : List (BitVec 8)} (h : Fl w A lb lo n D) (hb : Below B w w') (hB : 0 < n → lb < B) : Fl w' A lb lo n D := h.keep hb.size fun hn => hb.block lb (hB hn)
/-- Hash number k. -/
def nth (D : List (BitVec 8)) (k : Nat) : List (BitVec 8) := (D.drop (32 * k)).take 32
theorem Fl.range {w : World} {A : Option Addr} {lb lo n : Nat} {D : List (BitVec 8)} (h : Fl w A lb lo n D) (k : Nat) (hk : k < n) : w.rangeAt lb (lo + k * 32) ((nth D k).map V) := by
  intro j v hj
  have hB := ((h.src (by omega)).2.2.drop (32 * k)).take 32
  have := hB.src 32 j v
  rw [List.take_take, Nat.min_self] at this
  have h2 := this hj
  rw [Addr.add_mid] at h2
  rw [Nat.mul_comm k 32]
  exact h2
end Go.Proofs.Ytakdpkoigijonaa
namespace Go.Proofs.Ytakdpkoigijonaa
set_option maxRecDepth 100000
open Go.RowKit
theorem out_nil {w : World} {ob : Nat} (h : Ob w ob 110 [.slice none 0 0]) : HasOut w ob (.slice none 0 0) [] := ⟨h, World.ownsRow_nil _ _ _ _⟩
theorem out_rv {w : World} {ob : Nat} {v : Value} {xs : List (BitVec 8)} (h : HasOut w ob v xs) : ∃ gb, Rv w v xs gb := by
  rcases own_rv h.2 with ⟨e1, e2⟩ | ⟨g, _, _, _, hr⟩
  · exact ⟨0, .inl ⟨e1, e2⟩⟩
  · exact ⟨g, hr⟩
theorem rv_sl {w : World} {v : Value} {xs : List (BitVec 8)} {gb : Nat} (h : Rv w v xs gb) : (Fk.sl xs).f v w := by
  rcases h with ⟨rfl, rfl⟩ | ⟨go, c, rfl, hc, hl, hB⟩
  · exact ⟨none, 0, 0, 0, 0, rfl, rfl, Nat.le_refl _, fun _ => ⟨rfl, rfl⟩, fun h => absurd h (by omega)⟩
  · exact ⟨_, _, c, gb, go, rfl, rfl, hc, (fun e => by cases e), fun _ => ⟨rfl, hl, hB⟩⟩
theorem own_sl {w : World} {base n : Nat} {v : Value} {xs : List (BitVec 8)} (h : w.ownsRow base 5 1 v n (xs.map V)) : (Fk.sl xs).f v w := by
  rcases own_rv h with ⟨e1, e2⟩ | ⟨g, _, _, _, hr⟩
  · exact rv_sl (gb := 0) (.inl ⟨e1, e2⟩)
  · exact rv_sl hr
theorem sl_rv {w : World} {v : Value} {xs : List (BitVec 8)} (h : (Fk.sl xs).f v w) : (∃ gb, Rv w v xs gb) ∨ ∃ sp c, v = .slice sp 0 c ∧ xs = [] := by
  obtain ⟨sp, m, c, b, o, rfl, hs⟩ := h
  have hl := hs.len
  subst hl
  rcases Nat.eq_zero_or_pos xs.length with h0 | h0
  · exact .inr ⟨sp, c, by rw [h0], List.length_eq_zero_iff.1 h0⟩
  · obtain ⟨e, hlt, hB⟩ := hs.src h0
    exact .inl ⟨b, .inr ⟨o, c, by rw [e], hs.cap, hlt, hB⟩⟩
/-- The bytes of hashes, of a signature. -/
def hsb (hs : List (List (BitVec 8))) : List (BitVec 8) := beN hs.length 4 ++ hs.flatten
end Go.Proofs.Ytakdpkoigijonaa
namespace Go.Proofs.Ytakdpkoigijonaa
set_option maxRecDepth 100000
open Go.RowKit
theorem beN_succ (N s : Nat) : beN N (s + 1) = BitVec.ofNat 8 (N / 2 ^ (8 * s)) :: beN N s := by
  unfold beN
  rw [List.range_succ_eq_map, List.map_cons, List.map_map]
  congr 1
  apply List.map_congr_left
  intro k hk
  have hk2 : k < s := by simpa using hk
  simp only [Function.comp]
  rw [show s + 1 - 1 - (k + 1) = s - 1 - k by omega]
theorem num_cons (x : BitVec 8) (r : List (BitVec 8)) : num (x :: r) = x.toNat * 256 ^ r.length + num r := by
  have := num_append [x] r
  rw [List.singleton_append] at this
  rw [this]; simp [num]
theorem num_beN (N s : Nat) : num (beN N s) = N % 256 ^ s := by
  induction s with
  | zero => rw [show (beN N 0) = [] from rfl, num_nil, Nat.pow_zero, Nat.mod_one]
  | succ s ih =>
    rw [beN_succ, num_cons, ih, beN_len, BitVec.toNat_ofNat, show (2 : Nat) ^ (8 * s) = 256 ^ s by rw [Nat.pow_mul], show N % 256 ^ (s + 1) = _ from Nat.mod_pow_succ]
    rw [Nat.mul_comm (256 ^ s) (N / 256 ^ s % 256), Nat.add_comm]
theorem takeB_app (xs ys : List (BitVec 8)) (n : Nat) (h : xs.length = n) : takeB (xs ++ ys) n = xs := by
  unfold takeB; rw [if_pos (by simp; omega), List.take_left' h]
theorem dropB_app (xs ys : List (BitVec 8)) (n : Nat) (h : xs.length = n) : dropB (xs ++ ys) n = ys := by
  unfold dropB; rw [if_pos (by simp; omega), List.drop_left' h]
theorem badB_app (xs ys : List (BitVec 8)) (n : Nat) (h : xs.length = n) (bad : Bool) : badB (xs ++ ys) bad n = bad := by
  unfold badB; rw [if_pos (by simp; omega)]
theorem rdI_be8 (n : Int) (r : List (BitVec 8)) (h1 : -9223372036854775808 ≤ n) (h2 : n ≤ 9223372036854775807) : rdI (be8 n ++ r) = n := by
  unfold rdI
  rw [takeB_app _ _ 8 (be8_len n)]
  unfold be8
  rw [num_beN, IntKind.wrap_i64]
  omega
theorem beN_num : ∀ (xs : List (BitVec 8)), beN (num xs) xs.length = xs
  | [] => rfl
  | x :: r => by
    rw [List.length_cons, beN_succ]
    have h1 := num_cons x r
    have h2 := num_lt r
    have h3 : (2 : Nat) ^ (8 * r.length) = 256 ^ r.length := by rw [Nat.pow_mul]
    have hp : 0 < 256 ^ r.length := Nat.pow_pos (by omega)
    congr 1
    · rw [h3, h1, Nat.mul_comm, Nat.mul_add_div hp, Nat.div_eq_of_lt h2, Nat.add_zero]
      simp
    · have e : beN (num (x :: r)) r.length = beN (num r) r.length := by
        unfold beN
        apply List.map_congr_left
        intro k hk
        have hk2 : k < r.length := by simpa using hk
        rw [h1]
        apply BitVec.eq_of_toNat_eq
        rw [BitVec.toNat_ofNat, BitVec.toNat_ofNat]
        have e1 : (2 : Nat) ^ (8 * (r.length - 1 - k)) = 256 ^ (r.length - 1 - k) := by rw [Nat.pow_mul]
        have e2 : (256 : Nat) ^ r.length = 256 ^ (r.length - 1 - k) * (256 * 256 ^ k) := by
          rw [← Nat.pow_succ', ← Nat.pow_add]
          congr 1
          omega
        have hq : 0 < 256 ^ (r.length - 1 - k) := Nat.pow_pos (by omega)
        rw [e1, e2, show x.toNat * (256 ^ (r.length - 1 - k) * (256 * 256 ^ k)) = 256 ^ (r.length - 1 - k) * (256 * (256 ^ k * x.toNat)) by ac_rfl, Nat.mul_add_div hq, Nat.mul_add_mod]
      rw [e]
      exact beN_num r
theorem be8_rdI (bs : List (BitVec 8)) (h : 8 ≤ bs.length) : be8 (rdI bs) = bs.take 8 := by
  have e : takeB bs 8 = bs.take 8 := by unfold takeB; rw [if_pos h]
  have hl : (bs.take 8).length = 8 := by simp; omega
  have h1 := num_lt (bs.take 8)
  have h2 := beN_num (bs.take 8)
  rw [hl] at h1 h2
  unfold be8 rdI
  rw [e, IntKind.wrap_i64]
  rw [show (((num (bs.take 8) : Int) + 9223372036854775808) % 18446744073709551616 - 9223372036854775808) % 18446744073709551616 = (num (bs.take 8) : Int) by omega, Int.toNat_natCast]
  exact h2
/-- Count: what it tells, what is left, whether it is bad. -/
def cV (l m : Int) (bs : List (BitVec 8)) : Int := if l ≤ rdI bs ∧ rdI bs ≤ m then rdI bs else 0
def cR (l m : Int) (bs : List (BitVec 8)) : List (BitVec 8) := if l ≤ rdI bs ∧ rdI bs ≤ m then dropB bs 8 else []
def cX (l m : Int) (bs : List (BitVec 8)) (bad : Bool) : Bool := if l ≤ rdI bs ∧ rdI bs ≤ m then badB bs bad 8 else true
theorem cR_len (l m : Int) (bs : List (BitVec 8)) : (cR l m bs).length ≤ bs.length := by
  unfold cR dropB
  split
  · split <;> simp
  · simp
theorem cX_false {l m : Int} {bs : List (BitVec 8)} {bad : Bool} (h : cX l m bs bad = false) : bad = false ∧ 8 ≤ bs.length ∧ l ≤ cV l m bs ∧ cV l m bs ≤ m ∧ bs = be8 (cV l m bs) ++ cR l m bs := by
  unfold cX at h
  by_cases h1 : l ≤ rdI bs ∧ rdI bs ≤ m
  · rw [if_pos h1] at h
    unfold badB at h
    by_cases h2 : 8 ≤ bs.length
    · rw [if_pos h2] at h
      unfold cV cR
      rw [if_pos h1, if_pos h1]
      refine ⟨h, h2, h1.1, h1.2, ?_⟩
      rw [be8_rdI bs h2]
      unfold dropB
      rw [if_pos h2, List.take_append_drop]
    · rw [if_neg h2] at h; cases h
  · rw [if_neg h1] at h; cases h
theorem c_be8 (l m n : Int) (r : List (BitVec 8)) (h1 : l ≤ n) (h2 : n ≤ m) (hl : -9223372036854775808 ≤ l) (hm : m ≤ 9223372036854775807) : cV l m (be8 n ++ r) = n ∧ cR l m (be8 n ++ r) = r ∧ cX l m (be8 n ++ r) false = false := by
  have e := rdI_be8 n r (by omega) (by omega)
  unfold cV cR cX
  rw [e, if_pos ⟨h1, h2⟩, if_pos ⟨h1, h2⟩, if_pos ⟨h1, h2⟩, dropB_app _ _ 8 (be8_len n), badB_app _ _ 8 (be8_len n)]
  exact ⟨rfl, rfl, rfl⟩
/-- What is left, step by step. -/
def b1 (bs : List (BitVec 8)) := cR 1 2 bs
def b2 (bs : List (BitVec 8)) := cR 0 255 (b1 bs)
def b3 (bs : List (BitVec 8)) := (hsD (b2 bs) (512 : Nat)).drop (32 * hsN (b2 bs) (512 : Nat))
def b4 (bs : List (BitVec 8)) := (hsD (b3 bs) (8 : Nat)).drop (32 * hsN (b3 bs) (8 : Nat))
def t1 (bs : List (BitVec 8)) := cX 1 2 bs false
def t2 (bs : List (BitVec 8)) := cX 0 255 (b1 bs) (t1 bs)
def t3 (bs : List (BitVec 8)) := hsX (b2 bs) (t2 bs) (512 : Nat)
def t4 (bs : List (BitVec 8)) := hsX (b3 bs) (t3 bs) (8 : Nat)
end Go.Proofs.Ytakdpkoigijonaa
namespace Go.Proofs.Ytakdpkoigijonaa
set_option maxRecDepth 100000
open Go.RowKit
theorem run_app_empty (w : World) (sp : Option Addr) (c : Nat) (ty : TypeId) : (Builtin.append_ #[35, 35] ty #[.slice none 0 0, .slice sp 0 c]).run Try.prog w = .ok (.slice none 0 0) w := by
  obtain ⟨i0, hi, hz0, hz1, hz2⟩ := info_parts Try.info5
  cases sp <;> simp [Builtin.append_, run_underlying Try.under35, sizeOf, typeInfo, hi, Builtin.lenOf, Builtin.firstCells, loadCells, loadCellsFrom]
set_option maxHeartbeats 400000 in
theorem newIn_e (sp : Option Addr) (c : Nat) (w : World) :
    Calls Try.prog 73 #[.slice sp 0 c] w fun e w' => ∃ ib g, e = .returned (.pointer (some ⟨ib, 0, none⟩)) ∧ w.heap.size ≤ ib ∧ w.heap.size ≤ g ∧ HasIn w' ib [] false g ∧ Below w.heap.size w w' := by
  have hr := Box.mk (run_app_empty w sp c 35)
  go_enter Try.func73, Try.ntmps73
  go_wp2_with (at_builtin; refine wpList_app rfl _ _ 35 35 rfl (.slice none 0 0) (.slice sp 0 c) (.slice none 0 0) rfl rfl hr.out ?_)
  go_ret
  exact ⟨w.heap.size, w.heap.size + 1, rfl, Nat.le_refl _, by omega, ⟨_, heap_alloc_new _ _, .inl ⟨rfl, rfl⟩, by omega⟩, (Below.refl _ _).alloc (Nat.le_refl _) _⟩
theorem in_new {bs : List (BitVec 8)} {v : Value} {w : World} (h : (Fk.sl bs).f v w) (hl : bs.length ≤ 900000) :
    Calls Try.prog 73 #[v] w fun e w' => ∃ u, e = .returned u ∧ ∃ ib, u = .pointer (some ⟨ib, 0, none⟩) ∧ w.heap.size ≤ ib ∧ HasI w' ib bs false ∧ Below w.heap.size w w' := by
  rcases sl_rv h with ⟨gb, hr⟩ | ⟨sp, c, rfl, rfl⟩
  · refine (newIn_any v gb bs w hr hl).mono ?_
    rintro e w' ⟨ib, g, rfl, h1, _, h3, h4⟩
    exact ⟨_, rfl, ib, rfl, h1, ⟨g, h3⟩, h4⟩
  · refine (newIn_e sp c w).mono ?_
    rintro e w' ⟨ib, g, rfl, h1, _, h3, h4⟩
    exact ⟨_, rfl, ib, rfl, h1, ⟨g, h3⟩, h4⟩
theorem in_count {ib : Nat} {bs : List (BitVec 8)} {bad : Bool} (l m : Int) (w : World) (h : HasI w ib bs bad) (hbs : bs.length ≤ 1000000) :
    Calls Try.prog 74 #[.pointer (some ⟨ib, 0, none⟩), .int .i64 l, .int .i64 m] w fun e w' => ∃ u, e = .returned u ∧ u = .int .i64 (cV l m bs) ∧ HasI w' ib (cR l m bs) (cX l m bs bad) ∧ Only ib w w' := by
  obtain ⟨gb, h⟩ := h
  refine (count_any ib gb bs bad l m w h hbs).mono ?_
  rintro e w' ⟨⟨h1, rfl, h2⟩ | ⟨h1, rfl, h2⟩, ho⟩
  · unfold cV cR cX
    rw [if_pos h1, if_pos h1, if_pos h1]
    exact ⟨_, rfl, rfl, ⟨gb, h2⟩, ho⟩
  · unfold cV cR cX
    rw [if_neg h1, if_neg h1, if_neg h1]
    exact ⟨_, rfl, rfl, ⟨gb, h2⟩, ho⟩
/-- The In stays as it is when a struct without bytes is written. -/
theorem HasI.setc {w : World} {ib g : Nat} {bs : List (BitVec 8)} {bad : Bool} {T : TypeId} {cs : List Value} (h : HasI w ib bs bad) (m : Ob w g T cs) (hc : ∀ (j : Nat) (x : Int), cs[j]? ≠ some (.int .u8 x)) (hne : ib ≠ g) (i : Nat) (v : Value) : HasI (w.setCell ⟨g, i, none⟩ v) ib bs bad := by
  obtain ⟨gb, h⟩ := h
  have ho : Only g w (w.setCell ⟨g, i, none⟩ v) := (Only.refl g w).setCell i v
  by_cases e : gb = g
  · subst e
    have hl := h.lt
    obtain ⟨u, hv, hr, hn⟩ := h
    refine ⟨gb, u, by rw [ho.block ib hl hne]; exact hv, ?_, hn⟩
    rcases hr with hr | ⟨go, c, e, hc', hl2, hB⟩
    · exact .inl hr
    · rcases Nat.eq_zero_or_pos bs.length with h0 | h0
      · exact .inr ⟨go, c, e, hc', Nat.lt_of_lt_of_le hl2 ho.size, fun j hj => absurd hj (by omega)⟩
      · exfalso
        have h1 := hB 0 h0
        rcases Nat.lt_or_ge (go + 0) cs.length with h2 | h2
        · have h3 := m.cell (go + 0) (List.getElem?_eq_getElem h2)
          rw [h1] at h3
          exact hc (go + 0) _ (by rw [List.getElem?_eq_getElem h2]; exact h3.symm)
        · have h3 : w.cell? ⟨gb, go + 0, none⟩ = none := by
            unfold Ob at m
            simp only [World.cell?, m]
            simp; omega
          rw [h3] at h1
          cases h1
  · exact ⟨gb, h.only ho hne e⟩
end Go.Proofs.Ytakdpkoigijonaa
namespace Go.Proofs.Ytakdpkoigijonaa
set_option maxRecDepth 100000
open Go.RowKit
end Go.Proofs.Ytakdpkoigijonaa
namespace Go.Proofs.Ytakdpkoigijonaa
set_option maxRecDepth 100000
open Go.RowKit
theorem Try.makes (c : Nat) (hc : c ≤ 1000000) (w : World) : (Instr.makeSlice 35 (.int .i64 (c : Int)) (.int .i64 (c : Int))).run Try.prog w = .ok (.slice (some ⟨w.heap.size, 0, none⟩) c c) (w.alloc (.cells ((zs c).map V).toArray 5)) := by
  obtain ⟨i0, hi, hz0, hz1, hz2⟩ := info_parts Try.info5
  have := run_make (P := Try.prog) w 35 5 i0 (.int .u8 0) Try.under35 hi hz0 .i64 .i64 (c : Int) (c : Int) (by omega) (by omega) (by rw [hz2]; omega) (by omega)
  rw [hz1, Int.toNat_natCast, Nat.mul_one, made_eq] at this
  exact this
attribute [local go_sem] kb_v
end Go.Proofs.Ytakdpkoigijonaa
namespace Go.Proofs.Ytakdpkoigijonaa
set_option maxRecDepth 100000
open Go.RowKit
attribute [local go_sem] kb_v
end Go.Proofs.Ytakdpkoigijonaa
namespace Go.Proofs.Ytakdpkoigijonaa
set_option maxRecDepth 100000
open Go.RowKit
end Go.Proofs.Ytakdpkoigijonaa
namespace Go.Proofs.Ytakdpkoigijonaa
set_option maxRecDepth 100000
open Go.RowKit
theorem range_of {w : World} {g o : Nat} {xs : List (BitVec 8)} (h : HasB w g o xs) : w.rangeAt g o (xs.map V) := by
  intro j v hj
  have := h.src xs.length j v
  rw [List.take_of_length_le (Nat.le_refl _)] at this
  have h2 := this hj
  rw [Addr.add_mid] at h2
  exact h2
end Go.Proofs.Ytakdpkoigijonaa
namespace Go.Proofs.Ytakdpkoigijonaa
set_option maxRecDepth 100000
open Go.RowKit
section
variable {Q : Exit → Act → World → Prop} {o : Oper} {a : Act} {w : World} {ops : Array Oper} {rest : List Oper}
end
end Go.Proofs.Ytakdpkoigijonaa
namespace Go.Proofs.Ytakdpkoigijonaa
set_option maxRecDepth 100000
open Go.RowKit
section
variable {Q : Exit → Act → World → Prop} {o : Oper} {a : Act} {w : World} {ops : Array Oper} {rest : List Oper}
end
/-- A head's bytes: the number 1, how many, and each home sector; then noughts. -/
def hbs (n : Nat) (l : List Int) : List (BitVec 8) := be8 1 ++ be8 (n : Int) ++ l.flatMap be8
theorem flat8_len (l : List Int) : (l.flatMap be8).length = 8 * l.length := by
  induction l with
  | nil => rfl
  | cons z l ih => rw [List.flatMap_cons, List.length_append, ih, be8_len, List.length_cons]; omega
theorem hbs_len (n : Nat) (l : List Int) : (hbs n l).length = 16 + 8 * l.length := by
  unfold hbs
  rw [List.length_append, List.length_append, be8_len, be8_len, flat8_len]
theorem hbs_snoc {n k : Nat} {l : List Int} {z : Int} (h : l[k]? = some z) : hbs n (l.take (k + 1)) = hbs n (l.take k) ++ be8 z := by
  unfold hbs
  rw [take_one12 h, List.flatMap_append, List.append_assoc (be8 1 ++ be8 (n : Int))]
  simp
def hdb (z : Nat) (l : List Int) : List (BitVec 8) := hbs l.length l ++ List.replicate (z - (16 + 8 * l.length)) 0
section
variable {Q : Exit → Act → World → Prop} {o : Oper} {a : Act} {w : World}
end
end Go.Proofs.Ytakdpkoigijonaa
namespace Go.Proofs.Ytakdpkoigijonaa
set_option maxRecDepth 100000
open Go.RowKit
/-- So many bytes at a place, as a number. -/
def rdAt (bs : List (BitVec 8)) (at_ size : Nat) : Int := IntKind.i64.wrap (num ((bs.drop at_).take size) : Int)
end Go.Proofs.Ytakdpkoigijonaa
namespace Go.Proofs.Ytakdpkoigijonaa
set_option maxRecDepth 100000
open Go.RowKit
/-- What a head's bytes tell: how many; the home sectors. -/
def atsOf (b : Byt) (c : Nat) : List Int := (List.range c).map fun i => rdAt b (16 + 8 * i) 8
/-- The home sectors that a head names; none: it is not right. -/
def prsP (n : Nat) (b : Byt) : Option (List Nat) :=
  if b = zs b.length then some [] else
    if rdAt b 8 8 < 0 ∨ (roomN n b.length : Int) < rdAt b 8 8 then none else
      if (∀ z ∈ atsOf b (rdAt b 8 8).toNat, 0 ≤ z ∧ z < homN n) ∧ hdb b.length (atsOf b (rdAt b 8 8).toNat) = b then some ((atsOf b (rdAt b 8 8).toNat).map Int.toNat) else none
def hdz (z : Nat) (l : List Nat) : Byt := hdb z (l.map fun k : Nat => (k : Int))
theorem rdAt_be8 {b : Byt} {p : Nat} {a : Byt} {z : Int} {r : Byt} (hb : b = a ++ (be8 z ++ r)) (hp : p = a.length) (h1 : -9223372036854775808 ≤ z) (h2 : z ≤ 9223372036854775807) : rdAt b p 8 = z := by
  subst hp
  unfold rdAt
  rw [hb, List.drop_left, List.take_left' (be8_len z)]
  unfold be8
  rw [num_beN, IntKind.wrap_i64]
  omega
theorem flat_split (l : List Int) : ∀ (i : Nat) (z : Int), l[i]? = some z → ∃ a r, l.flatMap be8 = a ++ (be8 z ++ r) ∧ a.length = 8 * i := by
  induction l with
  | nil => exact fun i z h => by cases h
  | cons x l ih =>
    intro i z h
    cases i with
    | zero =>
      obtain rfl := Option.some.inj h
      exact ⟨[], l.flatMap be8, by rw [List.flatMap_cons]; rfl, rfl⟩
    | succ i =>
      obtain ⟨a, r, h1, h2⟩ := ih i z h
      exact ⟨be8 x ++ a, r, by rw [List.flatMap_cons, h1, List.append_assoc], by rw [List.length_append, be8_len, h2]; omega⟩
theorem hdb_len {z : Nat} {l : List Int} (h : 16 + 8 * l.length ≤ z) : (hdb z l).length = z := by
  unfold hdb
  rw [List.length_append, hbs_len, List.length_replicate]
  omega
theorem hdb_count {z : Nat} {l : List Int} (hl : l.length ≤ 1000000) : rdAt (hdb z l) 8 8 = l.length := by
  refine rdAt_be8 (a := be8 1) (z := (l.length : Int)) (r := l.flatMap be8 ++ List.replicate (z - (16 + 8 * l.length)) 0) ?_ (be8_len 1).symm (by omega) (by omega)
  unfold hdb hbs
  rw [List.append_assoc, List.append_assoc]
theorem hdb_at {z : Nat} {l : List Int} {i : Nat} {y : Int} (hi : l[i]? = some y) (h1 : -9223372036854775808 ≤ y) (h2 : y ≤ 9223372036854775807) : rdAt (hdb z l) (16 + 8 * i) 8 = y := by
  obtain ⟨a, r, e1, e2⟩ := flat_split l i y hi
  refine rdAt_be8 (a := be8 1 ++ (be8 (l.length : Int) ++ a)) (z := y) (r := r ++ List.replicate (z - (16 + 8 * l.length)) 0) ?_ (by rw [List.length_append, List.length_append, be8_len, be8_len, e2]; omega) h1 h2
  unfold hdb hbs
  rw [e1]
  simp only [List.append_assoc]
theorem hdb_zs {z : Nat} {l : List Int} : hdb z l ≠ zs (hdb z l).length := fun e => by
  have h : (hdb z l)[7]? = some 1 := by
    unfold hdb hbs
    rw [List.append_assoc, List.append_assoc, List.getElem?_append_left (by rw [be8_len]; decide)]
    rfl
  rw [e] at h
  unfold zs at h
  rw [List.getElem?_replicate] at h
  split at h
  · cases h
  · cases h
theorem atsOf_hdb {z : Nat} {l : List Int} (h : ∀ y ∈ l, -9223372036854775808 ≤ y ∧ y ≤ 9223372036854775807) : atsOf (hdb z l) l.length = l := by
  refine List.ext_getElem? fun i => ?_
  unfold atsOf
  rw [List.getElem?_map]
  by_cases hi : i < l.length
  · rw [List.getElem?_range hi, List.getElem?_eq_getElem hi]
    exact congrArg some (hdb_at (List.getElem?_eq_getElem hi) (h _ (List.getElem_mem hi)).1 (h _ (List.getElem_mem hi)).2)
  · rw [List.getElem?_eq_none (by rw [List.length_range]; omega), List.getElem?_eq_none (by omega)]
    rfl
/-- The head's bytes and their reading go together. -/
theorem hd_ok {n z : Nat} (h3 : 3 ≤ n) (h32 : 32 ≤ z) (hn : n ≤ 100000) : Hd n z (homN n) (roomN n z) (prsP n) (hdz z) := by
  have hh : 1 + homN n + jouN n = n := by unfold jouN homN; omega
  have hr1 : roomN n z ≤ jouN n := Nat.min_le_left _ _
  have hr2 : roomN n z ≤ (z - 16) / 8 := Nat.min_le_right _ _
  refine ⟨by omega, fun l hl => ?_, fun l hl hal => ?_, fun b l hb hp => ?_⟩
  · exact hdb_len (by rw [List.length_map]; omega)
  · have hlen : (hdz z l).length = z := hdb_len (by rw [List.length_map]; omega)
    have hc : rdAt (hdz z l) 8 8 = l.length := by
      have := hdb_count (z := z) (l := l.map fun k : Nat => (k : Int)) (by rw [List.length_map]; omega)
      rw [List.length_map] at this
      exact this
    have hat : atsOf (hdz z l) l.length = l.map fun k : Nat => (k : Int) := by
      have := atsOf_hdb (z := z) (l := l.map fun k : Nat => (k : Int)) (fun y hy => by
        obtain ⟨k, hk, rfl⟩ := List.mem_map.1 hy
        have := hal k hk
        omega)
      rw [List.length_map] at this
      exact this
    unfold prsP
    rw [if_neg (show ¬ hdz z l = zs (hdz z l).length from hdb_zs), hlen, hc, if_neg (by omega), Int.toNat_natCast, hat, if_pos]
    · rw [List.map_map]
      exact congrArg some (List.map_id'' (fun k => Int.toNat_natCast k) l)
    · refine ⟨fun y hy => ?_, rfl⟩
      obtain ⟨k, hk, rfl⟩ := List.mem_map.1 hy
      have := hal k hk
      omega
  · unfold prsP at hp
    split at hp
    · cases hp
      exact ⟨Nat.zero_le _, fun a q => by cases q⟩
    · split at hp
      · cases hp
      · rename_i h2
        split at hp
        · rename_i h4
          cases hp
          rw [hb] at h2
          refine ⟨by unfold atsOf; rw [List.length_map, List.length_map, List.length_range]; omega, fun a q => ?_⟩
          obtain ⟨y, hy, rfl⟩ := List.mem_map.1 q
          have := h4.1 y hy
          omega
        · cases hp
end Go.Proofs.Ytakdpkoigijonaa
namespace Go.Proofs.Ytakdpkoigijonaa
set_option maxRecDepth 100000
open Go.RowKit
section
variable {Q : Exit → Act → World → Prop} {o : Oper} {a : Act} {w : World}
end
end Go.Proofs.Ytakdpkoigijonaa
namespace Go.Proofs.Ytakdpkoigijonaa
set_option maxRecDepth 100000
open Go.RowKit
section
variable {n z h R : Nat} {prs : Byt → Option (List Nat)} {H : List Nat → Byt}
/-- Nothing is under way: a crash leaves home as it is. -/
theorem Quiet.inv (hd : Hd n z h R prs H) {a : Bool} {s : Dst} {now : List Byt} (hq : Quiet n z h prs a s now) : Inv n h prs s (· = now) := fun f hf => by
  have hroom := hd.room
  refine ⟨[], now, ?_, rfl, hq.len, fun k hk => ?_⟩
  · rw [(hf 0 (by omega)).settled hq.head0]
    exact hq.head
  · show now.getD k [] = f (1 + k)
    rw [(hf (1 + k) (by omega)).settled (hq.home k hk).1]
    exact (hq.home k hk).2.symm
theorem Inv.mono {s : Dst} {P P2 : List Byt → Prop} (hi : Inv n h prs s P) (hP : ∀ v, P v → P2 v) : Inv n h prs s P2 := fun f hf => by
  obtain ⟨l, v, h1, h2, h3⟩ := hi f hf
  exact ⟨l, v, h1, hP v h2, h3⟩
/-- What is told of home. -/
theorem Quiet.homes {a : Bool} {s : Dst} {now : List Byt} (hq : Quiet n z h prs a s now) : (List.range h).map (fun k => nowO s (1 + k)) = now := by
  refine List.ext_getElem (by rw [List.length_map, List.length_range, hq.len]) fun k h1 h2 => ?_
  rw [List.length_map, List.length_range] at h1
  rw [List.getElem_map, List.getElem_range]
  unfold nowO
  rw [if_pos (hq.home k h1).1, (hq.home k h1).2, List.getD_eq_getElem?_getD, List.getElem?_eq_getElem h2]
  rfl
theorem Inv.view {s : Dst} {P : List Byt → Prop} (hi : Inv n h prs s P) {t : Dst} (ht : ∀ j, j < n → May s j (stO t j)) : ∃ l v, prs (stO t 0) = some l ∧ P v ∧ v.length = h ∧ ∀ k, k < h → v.getD k [] = vw h l (stO t) k := hi (stO t) ht
/-- A crash, and Open: home is as P asks. -/
theorem open_crash (hd : Hd n z h R prs H) (h3 : 3 ≤ n) (h32 : 32 ≤ z) {s : Dst} (g : Gw s n z) {P : List Byt → Prop} (hi : Inv n h prs s P) (lost : List Int) : ∃ v, P v ∧ (wopn h prs H (crs s lost)).1 = 0 ∧ Quiet n z h prs false (wopn h prs H (crs s lost)).2 v ∧ ∀ j, caO (wopn h prs H (crs s lost)).2 j = [] := by
  obtain ⟨c1, c2, c3⟩ := crs_res g lost
  obtain ⟨l, v, e1, e2, e3, e4⟩ := hi.view c3
  rcases wopn_res hd h3 h32 c1 c2 e1 e3 e4 with ⟨w1, w2⟩ | ⟨_, w2⟩
  · exact ⟨v, e2, w1, w2.1, w2.2.1⟩
  · exact absurd w2.1.2.1 (by decide)
/-- A crash, the power set anew, and Open: opened with home v, or down with home v behind any crash. -/
theorem open_armed (hd : Hd n z h R prs H) (h3 : 3 ≤ n) (h32 : 32 ≤ z) {a : Bool} {t : Dst} (hu : Up t n z a) (hc : ∀ j, caO t j = []) {l : List Nat} {v : List Byt} (e1 : prs (stO t 0) = some l) (e3 : v.length = h) (e4 : ∀ k, k < h → v.getD k [] = vw h l (stO t) k) :
    ((wopn h prs H t).1 = 0 ∧ Quiet n z h prs a (wopn h prs H t).2 v) ∨ ((wopn h prs H t).1 = 30 ∧ Gw (wopn h prs H t).2 n z ∧ Inv n h prs (wopn h prs H t).2 (· = v)) :=
  (wopn_res hd h3 h32 hu hc e1 e3 e4).imp (fun q => ⟨q.1, q.2.1⟩) (fun q => ⟨q.1, q.2.1.1, q.2.2⟩)
/-- Other power, same sectors. -/
theorem Up.power {s : Dst} {a : Bool} (h : Up s n z a) (left : Int) (a2 : Bool) : Up { s with left := left, armed := a2 } n z a2 := ⟨⟨h.1.has, h.1.cch, h.1.size, h.1.pos, h.1.hl, h.1.cl⟩, rfl, h.2.2⟩
theorem Gw.power {s : Dst} (g : Gw s n z) (left : Int) (a2 : Bool) : Gw { s with left := left, armed := a2 } n z := ⟨g.has, g.cch, g.size, g.pos, g.hl, g.cl⟩
theorem Quiet.power {a : Bool} {s : Dst} {now : List Byt} (hq : Quiet n z h prs a s now) (left : Int) (a2 : Bool) : Quiet n z h prs a2 { s with left := left, armed := a2 } now := ⟨hq.up.power left a2, hq.head, hq.head0, hq.len, hq.home⟩
theorem Inv.power {s : Dst} {P : List Byt → Prop} (hi : Inv n h prs s P) (left : Int) (a2 : Bool) : Inv n h prs { s with left := left, armed := a2 } P := hi
/-- A disk without an armed end: a commit is done. -/
theorem wcom_on (hd : Hd n z h R prs H) {s : Dst} {now : List Byt} (hq : Quiet n z h prs false s now) {l : List (Nat × Byt)} (hl : ∀ c ∈ l, c.1 < h ∧ c.2.length = z) (hR : l.length ≤ R) : (wcom h H s l).1 = 0 ∧ Quiet n z h prs false (wcom h H s l).2 (chg now l) ∧ ∀ j, caO (wcom h H s l).2 j = [] := by
  rcases wcom_res hd hq hl hR with ⟨w1, w2⟩ | ⟨_, w2⟩
  · exact ⟨w1, w2⟩
  · exact absurd w2.1.2.1 (by decide)
/-- A commit of a wal that is up: done, or down with home as before or as behind it. -/
theorem wcom_any (hd : Hd n z h R prs H) {a : Bool} {s : Dst} {now : List Byt} (hq : Quiet n z h prs a s now) {l : List (Nat × Byt)} (hl : ∀ c ∈ l, c.1 < h ∧ c.2.length = z) (hR : l.length ≤ R) : ((wcom h H s l).1 = 0 ∧ Quiet n z h prs a (wcom h H s l).2 (chg now l)) ∨ ((wcom h H s l).1 = 30 ∧ Gw (wcom h H s l).2 n z ∧ Inv n h prs (wcom h H s l).2 (fun v => v = now ∨ v = chg now l)) :=
  (wcom_res hd hq hl hR).imp (fun q => ⟨q.1, q.2.1⟩) (fun q => ⟨q.1, q.2.1.1, q.2.2⟩)
end
end Go.Proofs.Ytakdpkoigijonaa
namespace Go.Proofs.Ytakdpkoigijonaa
set_option maxRecDepth 100000
open Go.RowKit
theorem zs_get {n z i : Nat} (hi : i < n) : (List.replicate n (zs z)).getD i [] = zs z := by
  rw [List.getD_eq_getElem?_getD, List.getElem?_replicate, if_pos hi]
  rfl
theorem nil_get {n i : Nat} : (List.replicate n ([] : Byt)).getD i [] = [] := by
  rw [List.getD_eq_getElem?_getD, List.getElem?_replicate]
  split <;> rfl
theorem zs_len12 (z : Nat) : (zs z).length = z := List.length_replicate
theorem gw_newd {n z : Nat} (hz : 0 < z) : Gw (newd n z) n z := ⟨List.length_replicate, List.length_replicate, rfl, hz, fun i hi => by
  show ((List.replicate n (zs z)).getD i []).length = z
  rw [zs_get hi, zs_len12], fun i _ => .inl nil_get⟩
/-- A new disk: nothing is under way, home is of noughts. -/
theorem quiet_newd {n z : Nat} (h3 : 3 ≤ n) (hz : 0 < z) : Quiet n z (homN n) (prsP n) false (newd n z) (List.replicate (homN n) (zs z)) := by
  have hh : 1 + homN n ≤ n := by unfold homN; omega
  refine ⟨⟨gw_newd hz, rfl, rfl⟩, ?_, nil_get, List.length_replicate, fun k hk => ⟨nil_get, ?_⟩⟩
  · show prsP n ((List.replicate n (zs z)).getD 0 []) = some []
    rw [zs_get (by omega)]
    unfold prsP
    rw [if_pos (by rw [zs_len12])]
  · show (List.replicate n (zs z)).getD (1 + k) [] = _
    rw [zs_get (by omega), zs_get hk]
theorem wopn_quiet {n z h : Nat} {prs : Byt → Option (List Nat)} {H : List Nat → Byt} {a : Bool} {s : Dst} {now : List Byt} (h3 : 3 ≤ n) (h32 : 32 ≤ z) (hq : Quiet n z h prs a s now) : wopn h prs H s = (0, s) := by
  have hn : nowO s 0 = stO s 0 := by unfold nowO; rw [if_pos hq.head0]
  unfold wopn
  rw [if_neg (by rw [hq.up.1.has, hq.up.1.size]; omega), if_neg (by rw [hq.up.2.2]; simp), hn, hq.head]
/-- Changes with which nothing is wrong. -/
theorem wrong_ok {l : List Cng} {n z : Nat} (h : WrongIs l n z 0) : (∀ c ∈ prc l, c.1 < homN n ∧ c.2.length = z) ∧ (prc l).length ≤ roomN n z ∧ ∀ c ∈ l, 0 ≤ c.p ∧ c.p < homN n := by
  rcases h with ⟨e, _⟩ | ⟨h1, h2⟩
  · cases e
  · rcases h2 with ⟨e, _⟩ | ⟨h2, h3⟩
    · cases e
    · rcases h3 with ⟨e, _⟩ | ⟨_, h3⟩
      · cases e
      · have hat : ∀ c ∈ l, 0 ≤ c.p ∧ c.p < homN n := fun c hc => by
          have := h1 c hc
          unfold BadAt at this
          omega
        refine ⟨fun c hc => ?_, by unfold prc; rw [List.length_map]; exact h3, hat⟩
        obtain ⟨d, hd, rfl⟩ := List.mem_map.1 hc
        have := hat d hd
        refine ⟨by show d.p.toNat < homN n; omega, Classical.byContradiction fun e => ?_⟩
        obtain ⟨i, hi⟩ := List.mem_iff_getElem?.1 hd
        exact h2 ⟨i, d, (List.getElem?_eq_some_iff.1 hi).1, hi, .inl e⟩
/-- What the law on crashes knows between its calls: the wal is up and home is now; or it is down, and a crash leaves now, or maybe. -/
def LI (n z : Nat) (s : Dst) (dn : Bool) (now : List Byt) (mb : Option (List Byt)) : Prop := now.length = homN n ∧ ((dn = false ∧ mb = none ∧ ∃ a, Quiet n z (homN n) (prsP n) a s now) ∨ (dn = true ∧ Gw s n z ∧ Inv n (homN n) (prsP n) s (fun v => v = now ∨ mb = some v)))
theorem LI.gw {n z : Nat} {s : Dst} {dn : Bool} {now : List Byt} {mb : Option (List Byt)} (h : LI n z s dn now mb) : Gw s n z := by
  rcases h.2 with ⟨_, _, _, q⟩ | ⟨_, q, _⟩
  · exact q.up.1
  · exact q
theorem LI.arm {n z : Nat} {s : Dst} {dn : Bool} {now : List Byt} {mb : Option (List Byt)} (h : LI n z s dn now mb) (k : Int) : LI n z { s with armed := decide (0 ≤ k), left := k } dn now mb := by
  refine ⟨h.1, ?_⟩
  rcases h.2 with ⟨h1, h2, a, q⟩ | ⟨h1, q, i⟩
  · exact .inl ⟨h1, h2, _, q.power k _⟩
  · exact .inr ⟨h1, q.power k _, i.power k _⟩
theorem LI.com {n z : Nat} (h3 : 3 ≤ n) (h32 : 32 ≤ z) (hn : n ≤ 100000) {s : Dst} {now : List Byt} {mb : Option (List Byt)} (h : LI n z s false now mb) {l : List Cng} (hw : WrongIs l n z 0) :
    ((wcom (homN n) (hdz z) s (prc l)).1 = 0 ∧ LI n z (wcom (homN n) (hdz z) s (prc l)).2 false (chg now (prc l)) none) ∨ ((wcom (homN n) (hdz z) s (prc l)).1 = 30 ∧ LI n z (wcom (homN n) (hdz z) s (prc l)).2 true now (some (chg now (prc l)))) := by
  obtain ⟨w1, w2, _⟩ := wrong_ok hw
  rcases h.2 with ⟨_, _, a, q⟩ | ⟨e, _⟩
  · rcases wcom_any (hd_ok h3 h32 hn) q w1 w2 with ⟨r1, r2⟩ | ⟨r1, r2, r3⟩
    · exact .inl ⟨r1, (chg_len _ _).trans h.1, .inl ⟨rfl, rfl, a, r2⟩⟩
    · exact .inr ⟨r1, h.1, .inr ⟨rfl, r2, r3.mono (fun v e => e.imp id (fun e => congrArg some e.symm))⟩⟩
  · cases e
theorem LI.crash {n z : Nat} (h3 : 3 ≤ n) (h32 : 32 ≤ z) (hn : n ≤ 100000) {s : Dst} {dn : Bool} {now : List Byt} {mb : Option (List Byt)} (h : LI n z s dn now mb) (lost : List Int) :
    ∃ v, (v = now ∨ mb = some v) ∧ (wopn (homN n) (prsP n) (hdz z) (crs s lost)).1 = 0 ∧ LI n z (wopn (homN n) (prsP n) (hdz z) (crs s lost)).2 false v none ∧ (wopn (homN n) (prsP n) (hdz z) (crs s lost)).2.down = false ∧ (List.range (homN n)).map (fun k => nowO (wopn (homN n) (prsP n) (hdz z) (crs s lost)).2 (1 + k)) = v := by
  have hi : Inv n (homN n) (prsP n) s (fun v => v = now ∨ mb = some v) := by
    rcases h.2 with ⟨_, _, a, q⟩ | ⟨_, _, q⟩
    · exact (q.inv (hd_ok h3 h32 hn)).mono (fun v e => .inl e)
    · exact q
  obtain ⟨v, e1, e2, e3, _⟩ := open_crash (hd_ok h3 h32 hn) h3 h32 h.gw hi lost
  exact ⟨v, e1, e2, ⟨e3.len, .inl ⟨rfl, rfl, _, e3⟩⟩, e3.up.2.2, e3.homes⟩
theorem LI.start {n z : Nat} (h3 : 3 ≤ n) (hz : 0 < z) : LI n z (newd n z) false (List.replicate (homN n) (zs z)) none := ⟨List.length_replicate, .inl ⟨rfl, rfl, _, quiet_newd h3 hz⟩⟩
end Go.Proofs.Ytakdpkoigijonaa
namespace Go.Proofs.Ytakdpkoigijonaa
set_option maxRecDepth 100000
open Go.RowKit
/-- A disk behind a crash: up, nothing cached, and Open would make home v of it. -/
def SV (n z : Nat) (t : Dst) (v : List Byt) : Prop := (∃ a, Up t n z a) ∧ (∀ j, caO t j = []) ∧ ∃ l, prsP n (stO t 0) = some l ∧ v.length = homN n ∧ ∀ k, k < homN n → v.getD k [] = vw (homN n) l (stO t) k
theorem SV.crash {n z : Nat} {s : Dst} (g : Gw s n z) {P : List Byt → Prop} (hi : Inv n (homN n) (prsP n) s P) (lost : List Int) : ∃ v, P v ∧ SV n z (crs s lost) v := by
  obtain ⟨c1, c2, c3⟩ := crs_res g lost
  obtain ⟨l, v, e1, e2, e3, e4⟩ := hi.view c3
  exact ⟨v, e2, ⟨_, c1⟩, c2, l, e1, e3, e4⟩
theorem SV.arm {n z : Nat} {t : Dst} {v : List Byt} (h : SV n z t v) (k : Int) : SV n z { t with armed := decide (0 ≤ k), left := k } v := by
  obtain ⟨⟨a, h1⟩, h2, h3⟩ := h
  exact ⟨⟨_, h1.power k _⟩, h2, h3⟩
/-- Opened, whatever the power does: home is v; or down, and home is v behind any crash. -/
theorem SV.open {n z : Nat} (h3 : 3 ≤ n) (h32 : 32 ≤ z) (hn : n ≤ 100000) {t : Dst} {v : List Byt} (h : SV n z t v) :
    (((wopn (homN n) (prsP n) (hdz z) t).1 = 0 ∧ (wopn (homN n) (prsP n) (hdz z) t).2.down = false ∧ (List.range (homN n)).map (fun k => nowO (wopn (homN n) (prsP n) (hdz z) t).2 (1 + k)) = v) ∨ (wopn (homN n) (prsP n) (hdz z) t).1 = 30) ∧ ∀ lost, SV n z (crs (wopn (homN n) (prsP n) (hdz z) t).2 lost) v := by
  obtain ⟨⟨a, h1⟩, h2, l, e1, e3, e4⟩ := h
  rcases open_armed (hd_ok h3 h32 hn) h3 h32 h1 h2 e1 e3 e4 with ⟨w1, w2⟩ | ⟨w1, w2, w3⟩
  · refine ⟨.inl ⟨w1, w2.up.2.2, w2.homes⟩, fun lost => ?_⟩
    obtain ⟨v', rfl, q⟩ := SV.crash w2.up.1 (w2.inv (hd_ok h3 h32 hn)) lost
    exact q
  · refine ⟨.inr w1, fun lost => ?_⟩
    obtain ⟨v', rfl, q⟩ := SV.crash w2 w3 lost
    exact q
/-- Not armed: opened. -/
theorem SV.opens {n z : Nat} (h3 : 3 ≤ n) (h32 : 32 ≤ z) (hn : n ≤ 100000) {t : Dst} {v : List Byt} (h : SV n z t v) (ha : t.armed = false) : (wopn (homN n) (prsP n) (hdz z) t).1 = 0 ∧ Quiet n z (homN n) (prsP n) false (wopn (homN n) (prsP n) (hdz z) t).2 v ∧ ∀ j, caO (wopn (homN n) (prsP n) (hdz z) t).2 j = [] := by
  obtain ⟨⟨a, h1⟩, h2, l, e1, e3, e4⟩ := h
  obtain rfl : a = false := h1.2.1.symm.trans ha
  rcases wopn_res (hd_ok h3 h32 hn) h3 h32 h1 h2 e1 e3 e4 with ⟨w1, w2⟩ | ⟨_, w2⟩
  · exact ⟨w1, w2.1, w2.2.1⟩
  · exact absurd w2.1.2.1 (by decide)
end Go.Proofs.Ytakdpkoigijonaa
namespace Go.Proofs.Ytakdpkoigijonaa
set_option maxRecDepth 100000
open Go.RowKit
end Go.Proofs.Ytakdpkoigijonaa
namespace Go.Proofs.Ytakdpkoigijonaa
set_option maxRecDepth 100000
open Go.RowKit
end Go.Proofs.Ytakdpkoigijonaa
namespace Go.Proofs.Ytakdpkoigijonaa
set_option maxRecDepth 100000
open Go.RowKit
end Go.Proofs.Ytakdpkoigijonaa
namespace Go.Proofs.Ytakdpkoigijonaa
set_option maxRecDepth 100000
open Go.RowKit
end Go.Proofs.Ytakdpkoigijonaa
namespace Go.Proofs.Ytakdpkoigijonaa
set_option maxRecDepth 100000
open Go.RowKit
/-- A disk of n sectors of z bytes that did k commands at most. -/
structure Gd (s : Dst) (n z k : Nat) : Prop where
  has : s.has.length = n
  cch : s.cch.length = n
  size : s.size = z
  done : s.done ≤ k
  hl : ∀ y ∈ s.has, y.length ≤ z
  cl : ∀ y ∈ s.cch, y.length ≤ z
theorem gd_new (n z : Nat) : Gd (newd n z) n z 0 := ⟨List.length_replicate, List.length_replicate, rfl, Nat.le_refl _, fun y hy => by rw [List.eq_of_mem_replicate hy]; simp [zs], fun y hy => by rw [List.eq_of_mem_replicate hy]; simp⟩
theorem Gd.le {s : Dst} {n z k k' : Nat} (g : Gd s n z k) (h : k ≤ k') : Gd s n z k' := ⟨g.has, g.cch, g.size, Nat.le_trans g.done h, g.hl, g.cl⟩
theorem gd_cmd {s : Dst} {n z k : Nat} (g : Gd s n z k) : Gd (cmd s).2 n z (k + 1) := by
  unfold cmd
  split
  · exact ⟨g.has, g.cch, g.size, Nat.le_succ_of_le g.done, g.hl, g.cl⟩
  · exact ⟨g.has, g.cch, g.size, Nat.succ_le_succ g.done, g.hl, g.cl⟩
theorem set_le {l : List (List (BitVec 8))} {z : Nat} (h : ∀ y ∈ l, y.length ≤ z) (i : Nat) {b : List (BitVec 8)} (hb : b.length ≤ z) : ∀ y ∈ l.set i b, y.length ≤ z := fun y hy => by
  rcases List.mem_or_eq_of_mem_set hy with hy | rfl
  · exact h y hy
  · exact hb
theorem gd_stl {s : Dst} {n z k : Nat} (g : Gd s n z k) : Gd (stl s) n z k := by
  refine ⟨?_, ?_, g.size, g.done, fun y hy => ?_, fun y hy => ?_⟩
  · show (List.zipWith pickc s.has s.cch).length = n
    rw [List.length_zipWith, g.has, g.cch, Nat.min_self]
  · show (s.cch.map fun _ => ([] : List (BitVec 8))).length = n
    rw [List.length_map, g.cch]
  · replace hy : y ∈ List.zipWith pickc s.has s.cch := hy
    obtain ⟨i, hi, rfl⟩ := List.mem_iff_getElem.1 hy
    rw [List.getElem_zipWith]
    unfold pickc
    split
    · exact g.hl _ (List.getElem_mem _)
    · exact g.cl _ (List.getElem_mem _)
  · obtain ⟨_, _, rfl⟩ := List.mem_map.1 hy
    exact Nat.zero_le _
theorem gd_flu {s : Dst} {n z k : Nat} (g : Gd s n z k) : Gd (flu s).2 n z (k + 1) := by
  unfold flu
  split
  · exact g.le (Nat.le_succ _)
  · split
    · exact gd_stl (gd_cmd g)
    · exact gd_cmd g
theorem gd_wrt {s : Dst} {n z k : Nat} (g : Gd s n z k) (i : Int) (b : List (BitVec 8)) : Gd (wrt s i b).2 n z (k + 1) := by
  unfold wrt
  split
  · exact g.le (Nat.le_succ _)
  · split
    · exact g.le (Nat.le_succ _)
    · split
      · exact g.le (Nat.le_succ _)
      · rename_i h
        refine gd_cmd ⟨g.has, ?_, g.size, g.done, g.hl, set_le g.cl _ ?_⟩
        · show (s.cch.set i.toNat b).length = n
          rw [List.length_set, g.cch]
        · have := g.size
          omega
theorem lose_ok {z n : Nat} (l : List Int) : ∀ (c : List (List (BitVec 8))), c.length = n → (∀ y ∈ c, y.length ≤ z) → (lose c l).length = n ∧ ∀ y ∈ lose c l, y.length ≤ z := by
  unfold lose
  induction l with
  | nil => exact fun c h1 h2 => ⟨h1, h2⟩
  | cons k l ih =>
    intro c h1 h2
    rw [List.foldl_cons]
    split
    · exact ih _ (by rw [List.length_set]; exact h1) (set_le h2 _ (Nat.zero_le _))
    · exact ih _ h1 h2
theorem gd_crs {s : Dst} {n z k : Nat} (g : Gd s n z k) (l : List Int) : Gd (crs s l) n z k := by
  obtain ⟨h1, h2⟩ := lose_ok l s.cch g.cch g.cl
  have q := gd_stl (s := { s with cch := lose s.cch l }) ⟨g.has, h1, g.size, g.done, g.hl, h2⟩
  exact ⟨q.has, q.cch, q.size, q.done, q.hl, q.cl⟩
end Go.Proofs.Ytakdpkoigijonaa
namespace Go.Proofs.Ytakdpkoigijonaa
set_option maxRecDepth 100000
open Go.RowKit
end Go.Proofs.Ytakdpkoigijonaa
namespace Go.Proofs.Ytakdpkoigijonaa
set_option maxRecDepth 100000
open Go.RowKit
/-- The wal in memory: its struct at gw, over the disk at gd. -/
def HW (w : World) (gw gd : Nat) (V : Nat → Prop) (_n _z : Nat) (dn : Bool) : Prop := Ob w gw 66 [.pointer (some ⟨gd, 0, none⟩), .bool dn] ∧ ∀ j, V j ↔ j = gw
theorem HW.lt {w : World} {gw gd n z : Nat} {V : Nat → Prop} {dn : Bool} (h : HW w gw gd V n z dn) : ∀ j, V j → j < w.heap.size := fun j q => by
  rw [(h.2 j).1 q]
  exact Ob.lt h.1
theorem Ob.keep {w w' : World} {b : Nat} {T : TypeId} {cs : List Value} (h : Ob w b T cs) (hb : w'.heap[b]? = w.heap[b]?) : Ob w' b T cs := hb.trans h
theorem HW.keep {w w' : World} {gw gd n z : Nat} {V : Nat → Prop} {dn : Bool} (h : HW w gw gd V n z dn) (hk : ∀ j, V j → w'.heap[j]? = w.heap[j]?) (_hs : w.heap.size ≤ w'.heap.size) : HW w' gw gd V n z dn := ⟨h.1.keep (hk gw ((h.2 gw).2 rfl)), h.2⟩
theorem HD.nz {w : World} {gd n z k9 : Nat} {M D : Nat → Prop} {s : Dst} (hd : HD w gd M D s) (gs : Gd s n z k9) : (1 ≤ n ∧ n ≤ 65536) ∧ (1 ≤ z ∧ z ≤ 4096) := by
  obtain ⟨sb, cb, C, pl, vs, l, r⟩ := hd
  have h1 := r.nmax
  have h2 := r.pos
  have h3 := r.zmax
  rw [gs.has] at h1
  rw [gs.size] at h2 h3
  omega
theorem fk_dsecN {w : World} {gd n z k9 : Nat} {M D : Nat → Prop} {s : Dst} (hd : HD w gd M D s) (gs : Gd s n z k9) : Calls Try.prog 28 #[.pointer (some ⟨gd, 0, none⟩)] w fun e w' => ∃ u, e = .returned u ∧ (Fk.eq (.int .i64 (n : Int))).f u w' ∧ Below w.heap.size w w' := by
  have := fk_dsectors hd
  rw [gs.has] at this
  exact this
theorem fk_dsizN {w : World} {gd n z k9 : Nat} {M D : Nat → Prop} {s : Dst} (hd : HD w gd M D s) (gs : Gd s n z k9) : Calls Try.prog 29 #[.pointer (some ⟨gd, 0, none⟩)] w fun e w' => ∃ u, e = .returned u ∧ (Fk.eq (.int .i64 (z : Int))).f u w' ∧ Below w.heap.size w w' := by
  have := fk_dsize hd
  rw [gs.size] at this
  exact this
theorem homN_half {n : Nat} (h : 1 ≤ n) : homN n = n / 2 := by unfold homN; omega
theorem homN_le {n : Nat} (h : 1 ≤ n) : 1 + homN n ≤ n + 1 ∧ homN n + jouN n + 1 = n := by unfold jouN homN; omega
section
variable {Q : Exit → Act → World → Prop} {o : Oper} {a : Act} {w : World}
theorem st_quoc (x y : Operand) (ho : o.op = .binOp .quo 3 x y 3) (m c : Nat) (hc : 0 < c) (hm : m ≤ 1000000) (hx : a.eval x = .int .i64 (m : Int)) (hy : a.eval y = .int .i64 (c : Int)) : o.wp Try.prog a w (Ends a o.dst w (Fk.eq (.int .i64 ((m / c : Nat) : Int))).f) Q := by
  refine st_bin .quo 3 3 x y ho hx hy ?_
  have h1 : Int.tdiv (m : Int) c = ((m / c : Nat) : Int) := by
    rw [Int.tdiv_eq_ediv_of_nonneg (by omega)]
    rfl
  have h2 : m / c ≤ m := Nat.div_le_self _ _
  generalize m / c = q at h1 h2 ⊢
  simp only [eqGuard, binOp, Op.intDiv]
  have h4 : ¬ c = 0 := by omega
  simp [h1, h4]
  rw [IntKind.wrap_i64]
  omega
theorem st_min2 (x y : Operand) (ts : Array TypeId) (ho : o.op = .call { callee := .builtin .min, args := #[x, y], argTypes := ts }) (m n e : Int) (hx : a.eval x = .int .i64 m) (hy : a.eval y = .int .i64 n) (he : e = min m n) : o.wp Try.prog a w (Ends a o.dst w (Fk.eq (.int .i64 e)).f) Q := by
  refine st_pure (v := .int .i64 e) ?_ rfl
  have h1 := run_min_int2 (P := Try.prog) (w := w) ts o.type .i64 .i64 m n
  have h2 : (if n < m then n else m) = e := by rw [he]; split <;> omega
  rw [h2] at h1
  unfold execOp
  simp [ho, resolve, invoke, builtin, hx, hy, h1]
end
theorem fk_whs {m : Nat} (hm : m ≤ 900000) (w : World) :
    Calls Try.prog 38 #[.int .i64 (m : Int)] w fun e w' => ∃ u, e = .returned u ∧ (Fk.eq (.int .i64 ((1 + m : Nat) : Int))).f u w' ∧ Below w.heap.size w w' := by
  go_enter Try.func38, Try.ntmps38
  refine code_both (fun f w1 => f.tmps.size = 5 ∧ f.defers = [] ∧ f.eval (.tmp 0) = .int .i64 (m : Int) ∧ Below w.heap.size w (w1)) ⟨rfl, rfl, rfl, Below.refl _ _⟩ ?_
  rintro f0 w0 ⟨sz, df, x0, bl⟩
  have sd := And.intro sz df
  clear sz df
  have bl0 := bl
  refine wp_seq ?_
  refine wr_a [.eq (.int .i64 0)] (by rw [sd.1]; kernel_rfl) ⟨fun hw ac u K => ?_, trivial⟩ ?_
  · exact st_assign (.const (.int .i64 0)) rfl rfl
  intro f1 w1 A hb
  replace x0 := A.t x0 rfl
  replace bl := bgo bl hb
  replace sd := A.sd sd
  clear A hb
  show Code.wp _ _ _ _ _
  refine wp_seq ?_
  refine wr_a [.eq (.int .i64 (m : Int)), .eq (.int .i64 ((1 + m : Nat) : Int)), .eq (.int .i64 ((1 + m : Nat) : Int))] (by rw [sd.1]; kernel_rfl) ⟨fun hw ac u K => ?_, fun hw ac u K => ?_, fun hw ac u K => ?_, trivial⟩ ?_
  · exact st_move (.tmp 0) rfl (K.t x0 rfl)
  · exact st_add (.const (.int .i64 1)) (.tmp 3) rfl (1) (m) (1 + m) rfl (K.dep 0 3 rfl) rfl (by omega)
  · exact st_assign (.tmp 4) rfl (K.dep 1 4 rfl)
  intro f2 w2 A hb
  replace x0 := A.t x0 rfl
  have x2 := A.e 2 2 rfl rfl
  replace bl := bgo bl hb
  replace sd := A.sd sd
  clear A hb
  clear x0
  show Code.wp _ _ _ _ _
  refine wp_ret ?_
  repeat (first | with_reducible refine then_ret ?_ | with_reducible refine block_ret ?_)
  exact bodyPost_ret (v := .int .i64 ((1 + m : Nat) : Int)) (ret_slot rfl f2 _ x2 _ _) sd.2 ⟨_, rfl, rfl, bl⟩
theorem fk_wni {m : Nat} (hm : m ≤ 900000) (h16 : 16 ≤ m) (w : World) :
    Calls Try.prog 32 #[.int .i64 (m : Int)] w fun e w' => ∃ u, e = .returned u ∧ (Fk.eq (.int .i64 ((m / 8 - 2 : Nat) : Int))).f u w' ∧ Below w.heap.size w w' := by
  go_enter Try.func32, Try.ntmps32
  refine code_both (fun f w1 => f.tmps.size = 6 ∧ f.defers = [] ∧ f.eval (.tmp 0) = .int .i64 (m : Int) ∧ Below w.heap.size w (w1)) ⟨rfl, rfl, rfl, Below.refl _ _⟩ ?_
  rintro f0 w0 ⟨sz, df, x0, bl⟩
  have sd := And.intro sz df
  clear sz df
  have bl0 := bl
  refine wp_seq ?_
  refine wr_a [.eq (.int .i64 0)] (by rw [sd.1]; kernel_rfl) ⟨fun hw ac u K => ?_, trivial⟩ ?_
  · exact st_assign (.const (.int .i64 0)) rfl rfl
  intro f1 w1 A hb
  replace x0 := A.t x0 rfl
  replace bl := bgo bl hb
  replace sd := A.sd sd
  clear A hb
  show Code.wp _ _ _ _ _
  refine wp_seq ?_
  refine wr_a [.eq (.int .i64 (m : Int)), .eq (.int .i64 ((m / 8 : Nat) : Int)), .eq (.int .i64 ((m / 8 - 2 : Nat) : Int)), .eq (.int .i64 ((m / 8 - 2 : Nat) : Int))] (by rw [sd.1]; kernel_rfl) ⟨fun hw ac u K => ?_, fun hw ac u K => ?_, fun hw ac u K => ?_, fun hw ac u K => ?_, trivial⟩ ?_
  · exact st_move (.tmp 0) rfl (K.t x0 rfl)
  · exact st_quoc (.tmp 3) (.const (.int .i64 8)) rfl m 8 (by omega) (by omega) (K.dep 0 3 rfl) rfl
  · exact st_sub (.tmp 4) (.const (.int .i64 2)) rfl (m / 8) 2 (m / 8 - 2) (K.dep 1 4 rfl) rfl (by omega) (by omega)
  · exact st_assign (.tmp 5) rfl (K.dep 2 5 rfl)
  intro f2 w2 A hb
  replace x0 := A.t x0 rfl
  have x2 := A.e 3 2 rfl rfl
  replace bl := bgo bl hb
  replace sd := A.sd sd
  clear A hb
  clear x0
  show Code.wp _ _ _ _ _
  refine wp_ret ?_
  repeat (first | with_reducible refine then_ret ?_ | with_reducible refine block_ret ?_)
  exact bodyPost_ret (v := .int .i64 ((m / 8 - 2 : Nat) : Int)) (ret_slot rfl f2 _ x2 _ _) sd.2 ⟨_, rfl, rfl, bl⟩
theorem fk_xhome {w : World} {gw gd n z k9 : Nat} {M D : Nat → Prop} {dn : Bool} {s : Dst} (mw : Ob w gw 66 [.pointer (some ⟨gd, 0, none⟩), .bool dn]) (hd : HD w gd M D s) (gs : Gd s n z k9) :
    Calls Try.prog 11 #[.pointer (some ⟨gw, 0, none⟩)] w fun e w' => ∃ u, e = .returned u ∧ (Fk.eq (.int .i64 ((homN n : Nat) : Int))).f u w' ∧ Below w.heap.size w w' := by
  obtain ⟨⟨hn1, hn2⟩, hz1, hz2⟩ := HD.nz hd gs
  have hho := homN_le hn1
  go_enter Try.func11, Try.ntmps11
  refine code_both (fun f w1 => f.tmps.size = 9 ∧ f.defers = [] ∧ f.eval (.tmp 0) = .pointer (some ⟨gw, 0, none⟩) ∧ Below w.heap.size w (w1)) ⟨rfl, rfl, rfl, Below.refl _ _⟩ ?_
  rintro f0 w0 ⟨sz, df, x0, bl⟩
  have sd := And.intro sz df
  clear sz df
  have bl0 := bl
  refine wp_seq ?_
  refine wr_a [.eq (.int .i64 0)] (by rw [sd.1]; kernel_rfl) ⟨fun hw ac u K => ?_, trivial⟩ ?_
  · exact st_assign (.const (.int .i64 0)) rfl rfl
  intro f1 w1 A hb
  replace x0 := A.t x0 rfl
  replace bl := bgo bl hb
  replace sd := A.sd sd
  clear A hb
  show Code.wp _ _ _ _ _
  refine wp_seq ?_
  refine wr_a [.eq (.pointer (some ⟨gw, 0, none⟩)), .eq (.pointer (some ⟨gw, 0, none⟩)), .eq (.pointer (some ⟨gw, 0, none⟩)), .eq (.pointer (some ⟨gd, 0, none⟩)), .eq (.int .i64 (n : Int)), .eq (.int .i64 ((n / 2 : Nat) : Int)), .eq (.int .i64 ((n / 2 : Nat) : Int))] (by rw [sd.1]; kernel_rfl) ⟨fun hw ac u K => ?_, fun hw ac u K => ?_, fun hw ac u K => ?_, fun hw ac u K => ?_, fun hw ac u K => ?_, fun hw ac u K => ?_, fun hw ac u K => ?_, trivial⟩ ?_
  · exact st_move (.tmp 0) rfl (K.t x0 rfl)
  · exact st_nil (.tmp 3) rfl (K.dep 0 3 rfl)
  · exact st_field 66 0 (.tmp 4) rfl (K.dep 1 4 rfl) (by kernel_rfl)
  · exact st_loadc 25 (.tmp 5) rfl (by kernel_rfl) (K.dep 2 5 rfl) (Ob.cell (Ob.below mw (bgo bl K.grow)) 0 rfl)
  · exact st_call 28 (.func 28) _ _ _ rfl rfl (one_arg (K.dep 3 6 rfl)) Try.enter28 (fk_dsecN (HD.below hd (bgo bl K.grow)) gs)
  · exact st_quoc (.tmp 7) (.const (.int .i64 2)) rfl n 2 (by omega) (by omega) (K.dep 4 7 rfl) rfl
  · exact st_assign (.tmp 8) rfl (K.dep 5 8 rfl)
  intro f2 w2 A hb
  replace x0 := A.t x0 rfl
  have x2 := A.e 6 2 rfl rfl
  replace bl := bgo bl hb
  replace sd := A.sd sd
  clear A hb
  clear x0
  show Code.wp _ _ _ _ _
  refine wp_ret ?_
  repeat (first | with_reducible refine then_ret ?_ | with_reducible refine block_ret ?_)
  exact bodyPost_ret (v := .int .i64 ((n / 2 : Nat) : Int)) (ret_slot rfl f2 _ x2 _ _) sd.2 ⟨_, rfl, by rw [homN_half hn1]; rfl, bl⟩
theorem fk_xjs {w : World} {gw gd n z k9 : Nat} {M D : Nat → Prop} {dn : Bool} {s : Dst} (mw : Ob w gw 66 [.pointer (some ⟨gd, 0, none⟩), .bool dn]) (hd : HD w gd M D s) (gs : Gd s n z k9) {m : Nat} (hm : m ≤ 900000) :
    Calls Try.prog 31 #[.pointer (some ⟨gw, 0, none⟩), .int .i64 (m : Int)] w fun e w' => ∃ u, e = .returned u ∧ (Fk.eq (.int .i64 ((1 + homN n + m : Nat) : Int))).f u w' ∧ Below w.heap.size w w' := by
  obtain ⟨⟨hn1, hn2⟩, hz1, hz2⟩ := HD.nz hd gs
  have hho := homN_le hn1
  go_enter Try.func31, Try.ntmps31
  refine code_both (fun f w1 => f.tmps.size = 10 ∧ f.defers = [] ∧ f.eval (.tmp 0) = .pointer (some ⟨gw, 0, none⟩) ∧ f.eval (.tmp 1) = .int .i64 (m : Int) ∧ Below w.heap.size w (w1)) ⟨rfl, rfl, rfl, rfl, Below.refl _ _⟩ ?_
  rintro f0 w0 ⟨sz, df, x0, x1, bl⟩
  have sd := And.intro sz df
  clear sz df
  have bl0 := bl
  refine wp_seq ?_
  refine wr_a [.eq (.int .i64 0)] (by rw [sd.1]; kernel_rfl) ⟨fun hw ac u K => ?_, trivial⟩ ?_
  · exact st_assign (.const (.int .i64 0)) rfl rfl
  intro f1 w1 A hb
  replace x0 := A.t x0 rfl
  replace x1 := A.t x1 rfl
  replace bl := bgo bl hb
  replace sd := A.sd sd
  clear A hb
  show Code.wp _ _ _ _ _
  refine wp_seq ?_
  refine wr_a [.eq (.pointer (some ⟨gw, 0, none⟩)), .eq (.int .i64 ((homN n : Nat) : Int)), .eq (.int .i64 ((1 + homN n : Nat) : Int)), .eq (.int .i64 (m : Int)), .eq (.int .i64 (((1 + homN n) + m : Nat) : Int)), .eq (.int .i64 (((1 + homN n) + m : Nat) : Int))] (by rw [sd.1]; kernel_rfl) ⟨fun hw ac u K => ?_, fun hw ac u K => ?_, fun hw ac u K => ?_, fun hw ac u K => ?_, fun hw ac u K => ?_, fun hw ac u K => ?_, trivial⟩ ?_
  · exact st_move (.tmp 0) rfl (K.t x0 rfl)
  · exact st_call 11 (.func 11) _ _ _ rfl rfl (one_arg (K.dep 0 5 rfl)) Try.enter11 (fk_xhome (Ob.below mw (bgo bl K.grow)) (HD.below hd (bgo bl K.grow)) gs)
  · exact st_call 38 (.func 38) _ _ _ rfl rfl (one_arg (K.dep 1 6 rfl)) Try.enter38 (fk_whs (by omega) _)
  · exact st_move (.tmp 1) rfl (K.t x1 rfl)
  · exact st_add (.tmp 7) (.tmp 8) rfl (1 + homN n) (m) ((1 + homN n) + m) (K.dep 2 7 rfl) (K.dep 3 8 rfl) (by omega) (by omega)
  · exact st_assign (.tmp 9) rfl (K.dep 4 9 rfl)
  intro f2 w2 A hb
  replace x0 := A.t x0 rfl
  replace x1 := A.t x1 rfl
  have x4 := A.e 5 4 rfl rfl
  replace bl := bgo bl hb
  replace sd := A.sd sd
  clear A hb
  clear x0
  clear x1
  show Code.wp _ _ _ _ _
  refine wp_ret ?_
  repeat (first | with_reducible refine then_ret ?_ | with_reducible refine block_ret ?_)
  exact bodyPost_ret (v := .int .i64 ((1 + homN n + m : Nat) : Int)) (ret_slot rfl f2 _ x4 _ _) sd.2 ⟨_, rfl, rfl, bl⟩
theorem fk_xsize {w : World} {gw gd n z k9 : Nat} {M D : Nat → Prop} {dn : Bool} {s : Dst} (mw : Ob w gw 66 [.pointer (some ⟨gd, 0, none⟩), .bool dn]) (hd : HD w gd M D s) (gs : Gd s n z k9) :
    Calls Try.prog 14 #[.pointer (some ⟨gw, 0, none⟩)] w fun e w' => ∃ u, e = .returned u ∧ (Fk.eq (.int .i64 (z : Int))).f u w' ∧ Below w.heap.size w w' := by
  go_enter Try.func14, Try.ntmps14
  refine code_both (fun f w1 => f.tmps.size = 8 ∧ f.defers = [] ∧ f.eval (.tmp 0) = .pointer (some ⟨gw, 0, none⟩) ∧ Below w.heap.size w (w1)) ⟨rfl, rfl, rfl, Below.refl _ _⟩ ?_
  rintro f0 w0 ⟨sz, df, x0, bl⟩
  have sd := And.intro sz df
  clear sz df
  have bl0 := bl
  refine wp_seq ?_
  refine wr_a [.eq (.int .i64 0)] (by rw [sd.1]; kernel_rfl) ⟨fun hw ac u K => ?_, trivial⟩ ?_
  · exact st_assign (.const (.int .i64 0)) rfl rfl
  intro f1 w1 A hb
  replace x0 := A.t x0 rfl
  replace bl := bgo bl hb
  replace sd := A.sd sd
  clear A hb
  show Code.wp _ _ _ _ _
  refine wp_seq ?_
  refine wr_a [.eq (.pointer (some ⟨gw, 0, none⟩)), .eq (.pointer (some ⟨gw, 0, none⟩)), .eq (.pointer (some ⟨gw, 0, none⟩)), .eq (.pointer (some ⟨gd, 0, none⟩)), .eq (.int .i64 (z : Int)), .eq (.int .i64 (z : Int))] (by rw [sd.1]; kernel_rfl) ⟨fun hw ac u K => ?_, fun hw ac u K => ?_, fun hw ac u K => ?_, fun hw ac u K => ?_, fun hw ac u K => ?_, fun hw ac u K => ?_, trivial⟩ ?_
  · exact st_move (.tmp 0) rfl (K.t x0 rfl)
  · exact st_nil (.tmp 3) rfl (K.dep 0 3 rfl)
  · exact st_field 66 0 (.tmp 4) rfl (K.dep 1 4 rfl) (by kernel_rfl)
  · exact st_loadc 25 (.tmp 5) rfl (by kernel_rfl) (K.dep 2 5 rfl) (Ob.cell (Ob.below mw (bgo bl K.grow)) 0 rfl)
  · exact st_call 29 (.func 29) _ _ _ rfl rfl (one_arg (K.dep 3 6 rfl)) Try.enter29 (fk_dsizN (HD.below hd (bgo bl K.grow)) gs)
  · exact st_assign (.tmp 7) rfl (K.dep 4 7 rfl)
  intro f2 w2 A hb
  replace x0 := A.t x0 rfl
  have x2 := A.e 5 2 rfl rfl
  replace bl := bgo bl hb
  replace sd := A.sd sd
  clear A hb
  clear x0
  show Code.wp _ _ _ _ _
  refine wp_ret ?_
  repeat (first | with_reducible refine then_ret ?_ | with_reducible refine block_ret ?_)
  exact bodyPost_ret (v := .int .i64 (z : Int)) (ret_slot rfl f2 _ x2 _ _) sd.2 ⟨_, rfl, rfl, bl⟩
theorem fk_xroom {w : World} {gw gd n z k9 : Nat} {M D : Nat → Prop} {dn : Bool} {s : Dst} (mw : Ob w gw 66 [.pointer (some ⟨gd, 0, none⟩), .bool dn]) (hd : HD w gd M D s) (gs : Gd s n z k9) (h16 : 16 ≤ z) :
    Calls Try.prog 12 #[.pointer (some ⟨gw, 0, none⟩)] w fun e w' => ∃ u, e = .returned u ∧ (Fk.eq (.int .i64 ((roomN n z : Nat) : Int))).f u w' ∧ Below w.heap.size w w' := by
  obtain ⟨⟨hn1, hn2⟩, hz1, hz2⟩ := HD.nz hd gs
  have hho := homN_le hn1
  obtain ⟨j, hj⟩ : ∃ j, j = jouN n := ⟨_, rfl⟩
  rw [← hj] at hho
  go_enter Try.func12, Try.ntmps12
  refine code_both (fun f w1 => f.tmps.size = 15 ∧ f.defers = [] ∧ f.eval (.tmp 0) = .pointer (some ⟨gw, 0, none⟩) ∧ Below w.heap.size w (w1)) ⟨rfl, rfl, rfl, Below.refl _ _⟩ ?_
  rintro f0 w0 ⟨sz, df, x0, bl⟩
  have sd := And.intro sz df
  clear sz df
  have bl0 := bl
  refine wp_seq ?_
  refine wr_a [.eq (.int .i64 0)] (by rw [sd.1]; kernel_rfl) ⟨fun hw ac u K => ?_, trivial⟩ ?_
  · exact st_assign (.const (.int .i64 0)) rfl rfl
  intro f1 w1 A hb
  replace x0 := A.t x0 rfl
  replace bl := bgo bl hb
  replace sd := A.sd sd
  clear A hb
  show Code.wp _ _ _ _ _
  refine wp_seq ?_
  refine wr_a [.eq (.pointer (some ⟨gw, 0, none⟩)), .eq (.pointer (some ⟨gw, 0, none⟩)), .eq (.pointer (some ⟨gw, 0, none⟩)), .eq (.pointer (some ⟨gd, 0, none⟩)), .eq (.int .i64 (n : Int)), .eq (.pointer (some ⟨gw, 0, none⟩)), .eq (.int .i64 ((1 + homN n + 0 : Nat) : Int)), .eq (.int .i64 (j : Int)), .eq (.pointer (some ⟨gw, 0, none⟩)), .eq (.int .i64 (z : Int)), .eq (.int .i64 ((z / 8 - 2 : Nat) : Int)), .eq (.int .i64 ((roomN n z : Nat) : Int)), .eq (.int .i64 ((roomN n z : Nat) : Int))] (by rw [sd.1]; kernel_rfl) ⟨fun hw ac u K => ?_, fun hw ac u K => ?_, fun hw ac u K => ?_, fun hw ac u K => ?_, fun hw ac u K => ?_, fun hw ac u K => ?_, fun hw ac u K => ?_, fun hw ac u K => ?_, fun hw ac u K => ?_, fun hw ac u K => ?_, fun hw ac u K => ?_, fun hw ac u K => ?_, fun hw ac u K => ?_, trivial⟩ ?_
  · exact st_move (.tmp 0) rfl (K.t x0 rfl)
  · exact st_nil (.tmp 3) rfl (K.dep 0 3 rfl)
  · exact st_field 66 0 (.tmp 4) rfl (K.dep 1 4 rfl) (by kernel_rfl)
  · exact st_loadc 25 (.tmp 5) rfl (by kernel_rfl) (K.dep 2 5 rfl) (Ob.cell (Ob.below mw (bgo bl K.grow)) 0 rfl)
  · exact st_call 28 (.func 28) _ _ _ rfl rfl (one_arg (K.dep 3 6 rfl)) Try.enter28 (fk_dsecN (HD.below hd (bgo bl K.grow)) gs)
  · exact st_move (.tmp 0) rfl (K.t x0 rfl)
  · exact st_call 31 (.func 31) _ _ _ rfl rfl (arg2 (K.dep 5 8 rfl) rfl) Try.enter31 (fk_xjs (Ob.below mw (bgo bl K.grow)) (HD.below hd (bgo bl K.grow)) gs (m := 0) (by omega))
  · exact st_sub (.tmp 7) (.tmp 9) rfl n (1 + homN n + 0) j (K.dep 4 7 rfl) (K.dep 6 9 rfl) (by omega) (by omega)
  · exact st_move (.tmp 0) rfl (K.t x0 rfl)
  · exact st_call 14 (.func 14) _ _ _ rfl rfl (one_arg (K.dep 8 11 rfl)) Try.enter14 (fk_xsize (Ob.below mw (bgo bl K.grow)) (HD.below hd (bgo bl K.grow)) gs)
  · exact st_call 32 (.func 32) _ _ _ rfl rfl (one_arg (K.dep 9 12 rfl)) Try.enter32 (fk_wni (by omega) h16 _)
  · exact st_min2 (.tmp 10) (.tmp 13) _ rfl (j : Int) ((z / 8 - 2 : Nat) : Int) _ (K.dep 7 10 rfl) (K.dep 10 13 rfl) (by rw [hj]; unfold roomN; omega)
  · exact st_assign (.tmp 14) rfl (K.dep 11 14 rfl)
  intro f2 w2 A hb
  replace x0 := A.t x0 rfl
  have x2 := A.e 12 2 rfl rfl
  replace bl := bgo bl hb
  replace sd := A.sd sd
  clear A hb
  clear x0
  show Code.wp _ _ _ _ _
  refine wp_ret ?_
  repeat (first | with_reducible refine then_ret ?_ | with_reducible refine block_ret ?_)
  exact bodyPost_ret (v := .int .i64 ((roomN n z : Nat) : Int)) (ret_slot rfl f2 _ x2 _ _) sd.2 ⟨_, rfl, rfl, bl⟩
theorem fk_xhas {w : World} {gw gd n z k9 : Nat} {M D : Nat → Prop} {dn : Bool} {s : Dst} (mw : Ob w gw 66 [.pointer (some ⟨gd, 0, none⟩), .bool dn]) (hd : HD w gd M D s) (gs : Gd s n z k9) (i : Int) :
    Calls Try.prog 36 #[.pointer (some ⟨gw, 0, none⟩), .int .i64 i] w fun e w' => ∃ u, e = .returned u ∧ (Fk.eq (.bool (decide (0 ≤ i ∧ i < (homN n : Int))))).f u w' ∧ Below w.heap.size w w' := by
  obtain ⟨⟨hn1, hn2⟩, hz1, hz2⟩ := HD.nz hd gs
  have hho := homN_le hn1
  go_enter Try.func36, Try.ntmps36
  refine code_both (fun f w1 => f.tmps.size = 13 ∧ f.defers = [] ∧ f.eval (.tmp 0) = .pointer (some ⟨gw, 0, none⟩) ∧ f.eval (.tmp 1) = .int .i64 i ∧ Below w.heap.size w (w1)) ⟨rfl, rfl, rfl, rfl, Below.refl _ _⟩ ?_
  rintro f0 w0 ⟨sz, df, x0, x1, bl⟩
  have sd := And.intro sz df
  clear sz df
  have bl0 := bl
  refine wp_seq ?_
  refine wr_a [.eq (.bool false)] (by rw [sd.1]; kernel_rfl) ⟨fun hw ac u K => ?_, trivial⟩ ?_
  · exact st_assign (.const (.bool false)) rfl rfl
  intro f1 w1 A hb
  replace x0 := A.t x0 rfl
  replace x1 := A.t x1 rfl
  replace bl := bgo bl hb
  replace sd := A.sd sd
  clear A hb
  show Code.wp _ _ _ _ _
  refine wp_seq ?_
  by_cases h0 : 0 ≤ i
  rotate_left
  · skip
    refine wr_a [.eq (.int .i64 i), .eq (.bool false), .eq (.bool false), .any, .any, .any, .any, .eq (.bool false), .eq (.bool false)] (by rw [sd.1]; kernel_rfl) ⟨fun hw ac u K => ?_, fun hw ac u K => ?_, fun hw ac u K => ?_, fun hw ac u K => ?_, fun hw ac u K => ?_, fun hw ac u K => ?_, fun hw ac u K => ?_, fun hw ac u K => ?_, fun hw ac u K => ?_, trivial⟩ ?_
    · exact st_move (.tmp 1) rfl (K.t x1 rfl)
    · exact st_geq 3 (.tmp 5) (.const (.int .i64 0)) rfl .i64 (i) (0) (K.dep 0 5 rfl) rfl _ (by rw [eq_comm, decide_eq_false_iff_not]; exact h0)
    · exact st_move (.tmp 6) rfl (K.dep 1 6 rfl)
    · exact (Bool.false_ne_true hw).elim
    · exact (Bool.false_ne_true hw).elim
    · exact (Bool.false_ne_true hw).elim
    · exact (Bool.false_ne_true hw).elim
    · exact st_pick_f' (.tmp 7) (.tmp 11) (.const (.bool false)) rfl (K.dep 2 7 rfl) rfl
    · exact st_assign (.tmp 12) rfl (K.dep 7 12 rfl)
    intro f2 w2 A hb
    replace x0 := A.t x0 rfl
    replace x1 := A.t x1 rfl
    have x4 := A.e 8 4 rfl rfl
    replace bl := bgo bl hb
    replace sd := A.sd sd
    clear A hb
    clear x0
    clear x1
    show Code.wp _ _ _ _ _
    refine wp_ret ?_
    repeat (first | with_reducible refine then_ret ?_ | with_reducible refine block_ret ?_)
    exact bodyPost_ret (v := .bool false) (ret_slot rfl f2 _ x4 _ _) sd.2 ⟨_, rfl, (by rw [show decide (0 ≤ i ∧ i < (homN n : Int)) = false from by rw [decide_eq_false_iff_not]; exact fun q => h0 q.1]; rfl), bl⟩
  by_cases h1 : i < (homN n : Int)
  rotate_left
  · skip
    refine wr_a [.eq (.int .i64 i), .eq (.bool true), .eq (.bool true), .eq (.int .i64 i), .eq (.pointer (some ⟨gw, 0, none⟩)), .eq (.int .i64 ((homN n : Nat) : Int)), .eq (.bool false), .eq (.bool false), .eq (.bool false)] (by rw [sd.1]; kernel_rfl) ⟨fun hw ac u K => ?_, fun hw ac u K => ?_, fun hw ac u K => ?_, fun hw ac u K => ?_, fun hw ac u K => ?_, fun hw ac u K => ?_, fun hw ac u K => ?_, fun hw ac u K => ?_, fun hw ac u K => ?_, trivial⟩ ?_
    · exact st_move (.tmp 1) rfl (K.t x1 rfl)
    · exact st_geq 3 (.tmp 5) (.const (.int .i64 0)) rfl .i64 (i) (0) (K.dep 0 5 rfl) rfl _ (by rw [eq_comm, decide_eq_true_iff]; exact h0)
    · exact st_move (.tmp 6) rfl (K.dep 1 6 rfl)
    · exact st_move (.tmp 1) rfl (K.t x1 rfl)
    · exact st_move (.tmp 0) rfl (K.t x0 rfl)
    · exact st_call 11 (.func 11) _ _ _ rfl rfl (one_arg (K.dep 4 9 rfl)) Try.enter11 (fk_xhome (Ob.below mw (bgo bl K.grow)) (HD.below hd (bgo bl K.grow)) gs)
    · exact st_lss 3 (.tmp 8) (.tmp 10) rfl .i64 (i) (((homN n : Nat) : Int)) (K.dep 3 8 rfl) (K.dep 5 10 rfl) _ (by rw [eq_comm, decide_eq_false_iff_not]; exact h1)
    · exact st_pick_t (.tmp 7) (.tmp 11) (.const (.bool false)) rfl (K.dep 2 7 rfl) (K.dep 6 11 rfl)
    · exact st_assign (.tmp 12) rfl (K.dep 7 12 rfl)
    intro f2 w2 A hb
    replace x0 := A.t x0 rfl
    replace x1 := A.t x1 rfl
    have x4 := A.e 8 4 rfl rfl
    replace bl := bgo bl hb
    replace sd := A.sd sd
    clear A hb
    clear x0
    clear x1
    show Code.wp _ _ _ _ _
    refine wp_ret ?_
    repeat (first | with_reducible refine then_ret ?_ | with_reducible refine block_ret ?_)
    exact bodyPost_ret (v := .bool false) (ret_slot rfl f2 _ x4 _ _) sd.2 ⟨_, rfl, (by rw [show decide (0 ≤ i ∧ i < (homN n : Int)) = false from by rw [decide_eq_false_iff_not]; exact fun q => h1 q.2]; rfl), bl⟩
  refine wr_a [.eq (.int .i64 i), .eq (.bool true), .eq (.bool true), .eq (.int .i64 i), .eq (.pointer (some ⟨gw, 0, none⟩)), .eq (.int .i64 ((homN n : Nat) : Int)), .eq (.bool true), .eq (.bool true), .eq (.bool true)] (by rw [sd.1]; kernel_rfl) ⟨fun hw ac u K => ?_, fun hw ac u K => ?_, fun hw ac u K => ?_, fun hw ac u K => ?_, fun hw ac u K => ?_, fun hw ac u K => ?_, fun hw ac u K => ?_, fun hw ac u K => ?_, fun hw ac u K => ?_, trivial⟩ ?_
  · exact st_move (.tmp 1) rfl (K.t x1 rfl)
  · exact st_geq 3 (.tmp 5) (.const (.int .i64 0)) rfl .i64 (i) (0) (K.dep 0 5 rfl) rfl _ (by rw [eq_comm, decide_eq_true_iff]; exact h0)
  · exact st_move (.tmp 6) rfl (K.dep 1 6 rfl)
  · exact st_move (.tmp 1) rfl (K.t x1 rfl)
  · exact st_move (.tmp 0) rfl (K.t x0 rfl)
  · exact st_call 11 (.func 11) _ _ _ rfl rfl (one_arg (K.dep 4 9 rfl)) Try.enter11 (fk_xhome (Ob.below mw (bgo bl K.grow)) (HD.below hd (bgo bl K.grow)) gs)
  · exact st_lss 3 (.tmp 8) (.tmp 10) rfl .i64 (i) (((homN n : Nat) : Int)) (K.dep 3 8 rfl) (K.dep 5 10 rfl) _ (by rw [eq_comm, decide_eq_true_iff]; exact h1)
  · exact st_pick_t (.tmp 7) (.tmp 11) (.const (.bool false)) rfl (K.dep 2 7 rfl) (K.dep 6 11 rfl)
  · exact st_assign (.tmp 12) rfl (K.dep 7 12 rfl)
  intro f2 w2 A hb
  replace x0 := A.t x0 rfl
  replace x1 := A.t x1 rfl
  have x4 := A.e 8 4 rfl rfl
  replace bl := bgo bl hb
  replace sd := A.sd sd
  clear A hb
  clear x0
  clear x1
  show Code.wp _ _ _ _ _
  refine wp_ret ?_
  repeat (first | with_reducible refine then_ret ?_ | with_reducible refine block_ret ?_)
  exact bodyPost_ret (v := .bool true) (ret_slot rfl f2 _ x4 _ _) sd.2 ⟨_, rfl, (by rw [show decide (0 ≤ i ∧ i < (homN n : Int)) = true from by rw [decide_eq_true_iff]; exact ⟨h0, h1⟩]; rfl), bl⟩
end Go.Proofs.Ytakdpkoigijonaa
