/- Numbers as bytes, the highest first. No program is spoken of. What number, Int, length, counted and Count do with an In. What Int, Count, Bool, length and counted do with an In. What length and counted do with an In. append, with the place of the row behind it. No program is spoken of. append of bytes, and what NewIn, Bytes and Text do. What Hash does with an In. What Hashes does with an In. An Out (package wire) in memory: what number does. What Int, Text, Hash, Hashes and Bool do with an Out. The bytes of a signature, plainly; lists of hashes as flat lists; an Out that begins. -/
import Derived.Test.YtnanipeapjpkfaaDoorM1
import Derived.Laws.BitsAllLaws
import Derived.Test.YtnanipeapjpkfaaDoorM6
import Derived.Laws.AppendOwnNone
import Derived.Test.YtnanipeapjpkfaaDoorM3
import Derived.Deep.MidRow
import Derived.Deep.RegionLaw
import Derived.Deep.AppendLies
namespace Go.Proofs.YtnanipeapjpkfaaDoor
set_option maxRecDepth 100000
open Go.RowKit
/-- The number that bytes are. -/
def num (bs : List (BitVec 8)) : Nat := bs.foldl (fun a x => a * 256 + x.toNat) 0
theorem num_nil : num [] = 0 := rfl
theorem num_snoc (xs : List (BitVec 8)) (x : BitVec 8) : num (xs ++ [x]) = num xs * 256 + x.toNat := by
  unfold num; rw [List.foldl_append]; rfl
theorem num_foldl (bs : List (BitVec 8)) : ∀ a, bs.foldl (fun a x => a * 256 + x.toNat) a = a * 256 ^ bs.length + num bs := by
  induction bs with
  | nil => intro a; simp [num]
  | cons x r ih =>
    intro a
    unfold num
    rw [List.foldl_cons, List.foldl_cons, ih, ih, List.length_cons, Nat.pow_succ]
    rw [Nat.add_mul, Nat.mul_assoc, Nat.mul_comm 256, Nat.add_mul, Nat.zero_mul]
    omega
theorem num_append (xs ys : List (BitVec 8)) : num (xs ++ ys) = num xs * 256 ^ ys.length + num ys := by
  unfold num; rw [List.foldl_append, num_foldl]; rfl
theorem num_lt (bs : List (BitVec 8)) : num bs < 256 ^ bs.length := by
  induction bs with
  | nil => simp [num]
  | cons x r ih =>
    have := num_append [x] r
    rw [List.singleton_append] at this
    rw [this, List.length_cons, Nat.pow_succ]
    have hx : num [x] = x.toNat := by simp [num]
    have := x.isLt
    have h2 : num [x] ≤ 255 := by omega
    have h3 : num [x] * 256 ^ r.length ≤ 255 * 256 ^ r.length := Nat.mul_le_mul_right _ h2
    omega
theorem num_take (bs : List (BitVec 8)) (k : Nat) (h : k < bs.length) : num (bs.take (k + 1)) = num (bs.take k) * 256 + (bs.getD k 0).toNat := by
  rw [List.take_add_one, List.getElem?_eq_getElem h]
  simp only [Option.toList_some]
  rw [num_snoc]
  simp [h]
theorem num_take_lt (bs : List (BitVec 8)) (k n : Nat) (h : k ≤ n) : num (bs.take k) < 256 ^ n :=
  Nat.lt_of_lt_of_le (num_lt _) (Nat.pow_le_pow_right (by omega) (by rw [List.length_take]; omega))
theorem or256 (a b : Nat) (h : b < 256) : (a * 256) ||| b = a * 256 + b := by
  have := Nat.two_pow_add_eq_or_of_lt (i := 8) h a
  rw [Nat.mul_comm a 256]; exact this.symm
/-- One more byte, as an unsigned number. -/
theorem u64_push (a : Nat) (x : BitVec 8) (h : a < 72057594037927936) : bits .or .u64 ((a : Int) * 256 % (18446744073709551616 : Int)) (bv x) = ((a * 256 + x.toNat : Nat) : Int) := by
  have hx := x.isLt
  have e : ((a : Int) * 256 % (18446744073709551616 : Int)) = ((a * 256 : Nat) : Int) := by omega
  unfold bv
  rw [e, u64_or_nat _ _ (by omega) (by omega), or256 _ _ hx]
theorem u64_push' (a : Nat) (x : BitVec 8) (h : a < 72057594037927936) : bits .or .u64 ((a : Int) * 256) (bv x) = ((a * 256 + x.toNat : Nat) : Int) := by
  have e : ((a : Int) * 256 % (18446744073709551616 : Int)) = ((a * 256 : Nat) : Int) := by omega
  rw [← u64_push a x h, e]; rfl
theorem ofInt_wrap (z : Int) : BitVec.ofInt 64 (IntKind.i64.wrap z) = BitVec.ofInt 64 z := by
  apply BitVec.eq_of_toNat_eq
  rw [BitVec.toNat_ofInt, BitVec.toNat_ofInt, IntKind.wrap_i64]
  omega
/-- One more byte, as a signed number. -/
theorem i64_push (a : Nat) (x : BitVec 8) : bits .or .i64 (IntKind.i64.wrap (IntKind.i64.wrap (a : Int) * 256)) (bv x) = IntKind.i64.wrap ((a * 256 + x.toNat : Nat) : Int) := by
  have hx := x.isLt
  have e1 : IntKind.i64.wrap (IntKind.i64.wrap (a : Int) * 256) = IntKind.i64.wrap ((a * 256 : Nat) : Int) := by
    rw [IntKind.wrap_i64, IntKind.wrap_i64, IntKind.wrap_i64]; omega
  rw [e1]
  show IntKind.i64.wrap ((BitVec.ofInt 64 (IntKind.i64.wrap ((a * 256 : Nat) : Int)) ||| BitVec.ofInt 64 (bv x)).toNat : Int) = _
  rw [ofInt_wrap, BitVec.toNat_or]
  unfold bv
  have e2 : (BitVec.ofInt 64 ((a * 256 : Nat) : Int)).toNat = (a % 72057594037927936) * 256 := by rw [BitVec.toNat_ofInt]; omega
  have e3 : (BitVec.ofInt 64 ((x.toNat : Nat) : Int)).toNat = x.toNat := by rw [BitVec.toNat_ofInt]; omega
  rw [e2, e3, or256 _ _ hx, IntKind.wrap_i64, IntKind.wrap_i64]
  omega
end Go.Proofs.YtnanipeapjpkfaaDoor
namespace Go.Proofs.YtnanipeapjpkfaaDoor
set_option maxRecDepth 100000
open Go.RowKit
theorem takeB_len (bs : List (BitVec 8)) (n : Nat) : (takeB bs n).length ≤ n := by unfold takeB; split <;> simp; omega
set_option maxHeartbeats 400000 in
theorem number_any (ib gb n : Nat) (bs : List (BitVec 8)) (bad : Bool) (w : World) (h : HasIn w ib bs bad gb) (hn : n ≤ 8) (hbs : bs.length ≤ 1000000) :
    Calls Tryd.prog 80 #[.pointer (some ⟨ib, 0, none⟩), .int .i64 (n : Int)] w fun e w' => e = .returned (.int .u64 (num (takeB bs n) : Int)) ∧ HasIn w' ib (dropB bs n) (badB bs bad n) gb ∧ Only ib w w' := by
  have hlen := takeB_len bs n
  have hT := take_any ib gb n bs bad w h (by omega) (by omega)
  generalize takeB bs n = tb at hT hlen ⊢
  have hT' := Box.mk hT
  clear h hT
  go_enter Tryd.func80, Tryd.ntmps80
  go_wp2_with (refine hT'.out.mono ?_; rintro e w' ⟨v, rfl, h1, h2, h3⟩; obtain ⟨a, c, hve, hc⟩ := h1.shape; subst hve; have h1' := Box.mk h1; have h2' := Box.mk h2; clear h1 h2)
  go_loopw [5, 12] (fun x i wr => ∃ k : Nat, k ≤ tb.length ∧ i = .int .i64 k ∧ x = .int .u64 (num (tb.take k) : Int) ∧ wr = w') (fun _ i _ => tb.length - (intOf i).toNat)
  case atStart => exact ⟨0, by omega, rfl, rfl, rfl⟩
  case round =>
    obtain ⟨k, hk, rfl, rfl, rfl⟩ := hrel
    by_cases hlt : k < tb.length
    · rcases h1'.out with ⟨e, rfl⟩ | ⟨go, c', e, _, hgl, hB⟩
      · simp at hlt
      · simp only [Value.slice.injEq] at e
        obtain ⟨rfl, _, rfl⟩ := e
        have c0 := hB k hlt
        have hs := num_take tb k hlt
        have hlt8 := num_take_lt tb k 7 (by omega)
        generalize tb.getD k 0 = x at c0 hs
        have hx := bv_range x
        have hp := u64_push' (num (tb.take k)) x (by omega)
        rw [← hs] at hp
        have hp' := Box.mk hp
        clear hs hB hp
        generalize num (tb.take k) = N at hp' hlt8 ⊢
        go_wp2
        go_roundw
        case rel => exact ⟨k + 1, by omega, by go_num, by rw [hp'.out], by first | rfl | trivial⟩
        case measure => simp [intOf]; omega
    · have hkn : Box (tb.take k = tb) := ⟨by rw [List.take_of_length_le (by omega)]⟩
      rw [hkn.out]
      go_wp2
      go_ret
      exact ⟨rfl, h2'.out, h3⟩
end Go.Proofs.YtnanipeapjpkfaaDoor
namespace Go.Proofs.YtnanipeapjpkfaaDoor
set_option maxRecDepth 100000
open Go.RowKit
theorem w64 (z : Int) : wrap64 z = IntKind.i64.wrap z := by simp only [wrap64, IntKind.wrap_i64]
/-- The number that the next eight bytes are. -/
def rdI (bs : List (BitVec 8)) : Int := IntKind.i64.wrap (num (takeB bs 8) : Int)
theorem rdI_range (bs : List (BitVec 8)) : -9223372036854775808 ≤ rdI bs ∧ rdI bs ≤ 9223372036854775807 := by
  unfold rdI; rw [IntKind.wrap_i64]; omega
set_option maxHeartbeats 400000 in
theorem int_any (ib gb : Nat) (bs : List (BitVec 8)) (bad : Bool) (w : World) (h : HasIn w ib bs bad gb) (hbs : bs.length ≤ 1000000) :
    Calls Tryd.prog 72 #[.pointer (some ⟨ib, 0, none⟩)] w fun e w' => e = .returned (.int .i64 (rdI bs)) ∧ HasIn w' ib (dropB bs 8) (badB bs bad 8) gb ∧ Only ib w w' := by
  have hT := Box.mk (number_any ib gb 8 bs bad w h (by omega) hbs)
  have hr : Box (IntKind.i64.wrap (num (takeB bs 8) : Int) = rdI bs) := ⟨rfl⟩
  generalize num (takeB bs 8) = N at hT hr
  clear h
  go_enter Tryd.func72, Tryd.ntmps72
  go_wp2_with (refine hT.out.mono ?_; rintro e w' ⟨rfl, h1, h2⟩; have h1' := Box.mk h1; clear h1)
  go_ret
  refine ⟨?_, h1'.out, h2⟩
  rw [← hr.out, ← w64]
  rfl
set_option maxHeartbeats 400000 in
theorem count_any (ib gb : Nat) (bs : List (BitVec 8)) (bad : Bool) (least most : Int) (w : World) (h : HasIn w ib bs bad gb) (hbs : bs.length ≤ 1000000) :
    Calls Tryd.prog 60 #[.pointer (some ⟨ib, 0, none⟩), .int .i64 least, .int .i64 most] w fun e w' => ((least ≤ rdI bs ∧ rdI bs ≤ most) ∧ e = .returned (.int .i64 (rdI bs)) ∧ HasIn w' ib (dropB bs 8) (badB bs bad 8) gb ∨ ¬ (least ≤ rdI bs ∧ rdI bs ≤ most) ∧ e = .returned (.int .i64 0) ∧ HasIn w' ib [] true gb) ∧ Only ib w w' := by
  have hT := Box.mk (int_any ib gb bs bad w h hbs)
  generalize rdI bs = N at hT
  clear h
  by_cases q1 : N < least
  · have d1 : decide (N < least) = true := by simpa using q1
    go_enter Tryd.func60, Tryd.ntmps60
    go_wp2_with (first | (refine hT.out.mono ?_; rintro e w' ⟨rfl, h1, h2⟩; have h1' := Box.mk h1; clear h1) | (refine (spoil_any ib gb _ _ _ h1'.out).mono ?_; rintro e w2 ⟨rfl, h3, h4⟩; have h3' := Box.mk h3; clear h3))
    go_ret
    exact ⟨.inr ⟨by omega, rfl, h3'.out⟩, h2.trans h4⟩
  · by_cases q2 : most < N
    · have d1 : decide (N < least) = false := by simpa using q1
      have d2 : decide (most < N) = true := by simpa using q2
      go_enter Tryd.func60, Tryd.ntmps60
      go_wp2_with (first | (refine hT.out.mono ?_; rintro e w' ⟨rfl, h1, h2⟩; have h1' := Box.mk h1; clear h1) | (refine (spoil_any ib gb _ _ _ h1'.out).mono ?_; rintro e w2 ⟨rfl, h3, h4⟩; have h3' := Box.mk h3; clear h3))
      go_ret
      exact ⟨.inr ⟨by omega, rfl, h3'.out⟩, h2.trans h4⟩
    · have d1 : decide (N < least) = false := by simpa using q1
      have d2 : decide (most < N) = false := by simpa using q2
      go_enter Tryd.func60, Tryd.ntmps60
      go_wp2_with (first | (refine hT.out.mono ?_; rintro e w' ⟨rfl, h1, h2⟩; have h1' := Box.mk h1; clear h1) | (refine (spoil_any ib gb _ _ _ h1'.out).mono ?_; rintro e w2 ⟨rfl, h3, h4⟩; have h3' := Box.mk h3; clear h3))
      go_ret
      exact ⟨.inl ⟨by omega, rfl, h1'.out⟩, h2⟩
/-- The bool that the next byte is; is it one? -/
def boolOk (bs : List (BitVec 8)) : Prop := num (takeB bs 1) ≤ 1
end Go.Proofs.YtnanipeapjpkfaaDoor
namespace Go.Proofs.YtnanipeapjpkfaaDoor
set_option maxRecDepth 100000
open Go.RowKit
/-- How many come next: are they no more than most, and are they there? -/
def lenOk (bs : List (BitVec 8)) (most : Int) (size : Nat) : Prop := (num (takeB bs 4) : Int) ≤ most ∧ num (takeB bs 4) ≤ (dropB bs 4).length / size
set_option maxHeartbeats 400000 in
theorem length_any (ib gb size : Nat) (bs : List (BitVec 8)) (bad : Bool) (most : Int) (w : World) (h : HasIn w ib bs bad gb) (hbs : bs.length ≤ 1000000) (hsz : size = 1 ∨ size = 32) :
    Calls Tryd.prog 74 #[.pointer (some ⟨ib, 0, none⟩), .int .i64 most, .int .i64 (size : Int)] w fun e w' => (lenOk bs most size ∧ e = .returned (.int .i64 (num (takeB bs 4) : Int)) ∧ HasIn w' ib (dropB bs 4) (badB bs bad 4) gb ∨ ¬ lenOk bs most size ∧ e = .returned (.int .i64 0) ∧ HasIn w' ib [] true gb) ∧ Only ib w w' := by
  have hT := Box.mk (number_any ib gb 4 bs bad w h (by omega) hbs)
  have hN : num (takeB bs 4) < 4294967296 := Nat.lt_of_lt_of_le (num_lt _) (Nat.le_trans (Nat.pow_le_pow_right (by omega) (takeB_len bs 4)) (by omega))
  have hD : (dropB bs 4).length ≤ 1000000 := by unfold dropB; split <;> simp; omega
  unfold lenOk
  generalize num (takeB bs 4) = N at hT hN ⊢
  generalize dropB bs 4 = D at hT hD ⊢
  have hT2 : Box (Calls Tryd.prog 80 #[.pointer (some ⟨ib, 0, none⟩), .int .i64 4] w fun e w' => e = .returned (.int .u64 (N : Int)) ∧ (∃ a c, w'.cell? ⟨ib, 0, none⟩ = some (.slice a D.length c) ∧ Box (HasIn w' ib D (badB bs bad 4) gb)) ∧ Only ib w w') := ⟨by
    refine hT.out.mono ?_
    rintro e w' ⟨rfl, h1, h2⟩
    refine ⟨rfl, ?_, h2⟩
    have h1' := Box.mk h1
    obtain ⟨v, hv, hr, _⟩ := h1
    obtain ⟨a, c, rfl, _⟩ := hr.shape
    exact ⟨a, c, (cell2 hv).1, h1'⟩⟩
  clear h hT
  by_cases q1 : most < (N : Int)
  · have d1 : decide (most < (N : Int)) = true := by simpa using q1
    go_enter Tryd.func74, Tryd.ntmps74
    go_wp2_with (first | (refine hT2.out.mono ?_; rintro e w' ⟨rfl, ⟨a, c, c0, h1'⟩, h2⟩) | (refine (spoil_any ib gb _ _ _ h1'.out).mono ?_; rintro e w2 ⟨rfl, h3, h4⟩; have h3' := Box.mk h3; clear h3))
    go_ret
    exact ⟨.inr ⟨by omega, rfl, h3'.out⟩, h2.trans h4⟩
  · have d1 : decide (most < (N : Int)) = false := by simpa using q1
    rcases hsz with rfl | rfl
    · by_cases q2 : (D.length : Int) < (N : Int)
      · have d2 : decide ((D.length : Int) < (N : Int)) = true := by simpa using q2
        go_enter Tryd.func74, Tryd.ntmps74
        go_wp2_with (first | (refine hT2.out.mono ?_; rintro e w' ⟨rfl, ⟨a, c, c0, h1'⟩, h2⟩) | (refine (spoil_any ib gb _ _ _ h1'.out).mono ?_; rintro e w2 ⟨rfl, h3, h4⟩; have h3' := Box.mk h3; clear h3))
        go_ret
        exact ⟨.inr ⟨by omega, rfl, h3'.out⟩, h2.trans h4⟩
      · have d2 : decide ((D.length : Int) < (N : Int)) = false := by simpa using q2
        go_enter Tryd.func74, Tryd.ntmps74
        go_wp2_with (first | (refine hT2.out.mono ?_; rintro e w' ⟨rfl, ⟨a, c, c0, h1'⟩, h2⟩) | (refine (spoil_any ib gb _ _ _ h1'.out).mono ?_; rintro e w2 ⟨rfl, h3, h4⟩; have h3' := Box.mk h3; clear h3))
        go_ret
        exact ⟨.inl ⟨by omega, rfl, h1'.out⟩, h2⟩
    · by_cases q2 : (D.length : Int) / 32 < (N : Int)
      · have d2 : decide ((D.length : Int) / 32 < (N : Int)) = true := by simpa using q2
        go_enter Tryd.func74, Tryd.ntmps74
        go_wp2_with (first | (refine hT2.out.mono ?_; rintro e w' ⟨rfl, ⟨a, c, c0, h1'⟩, h2⟩) | (refine (spoil_any ib gb _ _ _ h1'.out).mono ?_; rintro e w2 ⟨rfl, h3, h4⟩; have h3' := Box.mk h3; clear h3))
        go_ret
        exact ⟨.inr ⟨by omega, rfl, h3'.out⟩, h2.trans h4⟩
      · have d2 : decide ((D.length : Int) / 32 < (N : Int)) = false := by simpa using q2
        go_enter Tryd.func74, Tryd.ntmps74
        go_wp2_with (first | (refine hT2.out.mono ?_; rintro e w' ⟨rfl, ⟨a, c, c0, h1'⟩, h2⟩) | (refine (spoil_any ib gb _ _ _ h1'.out).mono ?_; rintro e w2 ⟨rfl, h3, h4⟩; have h3' := Box.mk h3; clear h3))
        go_ret
        exact ⟨.inl ⟨by omega, rfl, h1'.out⟩, h2⟩
theorem lenOk_one (bs : List (BitVec 8)) (most : Int) : lenOk bs most 1 ↔ (num (takeB bs 4) : Int) ≤ most ∧ num (takeB bs 4) ≤ (dropB bs 4).length := by unfold lenOk; rw [Nat.div_one]
end Go.Proofs.YtnanipeapjpkfaaDoor
namespace Go.Proofs.YtnanipeapjpkfaaDoor
set_option maxRecDepth 100000
open Go.RowKit
/-- The row lies where it lay, or in the next new block. -/
theorem append_where {P : Program} (w : World) (base : Nat) (t ty e : TypeId) (i : TypeInfo) (z : Value) (size bytes : Nat) (ht : P.underlying t = some (.slice e)) (hi : P.info? e = some i) (hz : i.zero = some z)
    (hsize : i.size = size) (hby : i.bytes = bytes)
    (v : Value) (n : Nat) (xs : List Value) (hown : w.ownsRow base e size v n xs)
    (a : Addr) (m c : Nat) (news : List Value) (hl : news.length = m * size) (hnews : ∀ j u, news[j]? = some u → w.cell? (a.add j) = some u) (h1 : ∀ u ∈ news, u.oneCell' = true)
    (h63 : n + m ≤ maxLen) (hbytes : (n + m) * bytes ≤ 140737488355328) :
    ∀ v' w', (Builtin.append_ #[t, t] ty #[v, .slice (some a) m c]).run P w = .ok v' w' → v'.ownBlock = v.ownBlock ∨ v'.ownBlock = some w.heap.size := by
  subst hsize
  subst hby
  intro v' w' hr
  have hsmall : n + m ≤ 9223372036854775807 := by simp only [maxLen] at h63; omega
  rcases hown.2 with ⟨rfl, rfl⟩ | ⟨g, cap, cur, rfl, hbg, hg, hnc, hcm, hcs, htake⟩
  · by_cases hm : m = 0
    · subst hm
      left
      have : (Builtin.append_ #[t, t] ty #[.slice none 0 0, .slice (some a) 0 c]).run P w = .ok (.slice none 0 0) w := by
        simp [Builtin.append_, run_underlying ht, sizeOf, typeInfo, hi, Builtin.lenOf, Builtin.firstCells, loadCells, loadCellsFrom]
      rw [this] at hr
      obtain ⟨rfl, _⟩ := Result.ok.inj hr
      rfl
    · right
      rw [run_append_nil (P := P) w t ty e i z ht hi hz a m c news hl hnews (by omega) (by omega) (by have hb := hbytes; simp only [Nat.zero_add] at hb; omega)] at hr
      obtain ⟨rfl, _⟩ := Result.ok.inj hr
      rfl
  · by_cases hroom : n + m ≤ cap
    · left
      rw [run_append_room (P := P) w t ty e i ht hi g n cap cur hg a m c news hl hnews h1 hroom (by rw [hl, hcs, ← Nat.add_mul]; exact Nat.mul_le_mul_right _ hroom)] at hr
      obtain ⟨rfl, _⟩ := Result.ok.inj hr
      rfl
    · right
      rw [run_append_grow (P := P) w t ty e i z ht hi hz ⟨g, 0, none⟩ n cap xs hown.1 (hown.cells (g := g) rfl) a m c news hl hnews (by omega) (by omega) (growslice_fits (by omega) hbytes)] at hr
      obtain ⟨rfl, _⟩ := Result.ok.inj hr
      rfl
/-- The bytes of a text. -/
def strB (s : ByteArray) : List (BitVec 8) := s.data.toList.map fun b => BitVec.ofNat 8 b.toNat
theorem strB_len (s : ByteArray) : (strB s).length = s.size := by unfold strB; simp
theorem strB_V (s : ByteArray) : (strB s).map V = s.data.toList.map fun b => Value.int .u8 (b.toNat : Int) := by
  unfold strB
  rw [List.map_map]
  apply List.map_congr_left
  intro b _
  have := b.toNat_lt
  simp only [Function.comp, V, bv]
  rw [BitVec.toNat_ofNat, Nat.mod_eq_of_lt (by omega)]
theorem extract_all (s : ByteArray) : (s.extract 0 s.size).data.map (fun b => Value.int .u8 (b.toNat : Int)) = ((strB s).map V).toArray := by
  rw [strB_V, ByteArray.data_extract, show s.size = s.data.size from rfl, Array.extract_size]
  apply Array.toList_inj.1
  rw [Array.toList_map]
theorem run_first_str (P : Program) (w : World) (s : ByteArray) : (Builtin.firstCells 1 s.size (.string s)).run P w = .ok ((strB s).map V).toArray w := by
  rw [← extract_all]; rfl
/-- append of a text onto a row of the call's own that has something. -/
theorem run_append_str {P : Program} (w : World) (base : Nat) (t u ty e : TypeId) (i : TypeInfo) (z : Value) (ht : P.underlying t = some (.slice e)) (hu : P.underlying u = some .string) (hi : P.info? e = some i) (hz : i.zero = some z)
    (hsize : i.size = 1) (hby : i.bytes = 1) (hzs : z.cells.size = 1)
    (v : Value) (n : Nat) (xs : List Value) (hn : 0 < n) (hown : w.ownsRow base e 1 v n xs) (s : ByteArray)
    (h63 : n + s.size ≤ 1000000) (hbase : base ≤ w.heap.size) :
    ∃ v' w', (Builtin.append_ #[t, u] ty #[v, .string s]).run P w = .ok v' w' ∧ w'.ownsRow base e 1 v' (n + s.size) (xs ++ (strB s).map V) ∧ w.grownBy w' v.ownBlock ∧ (v'.ownBlock = v.ownBlock ∨ v'.ownBlock = some w.heap.size) := by
  have hlen : (xs ++ (strB s).map V).length = (n + s.size) * 1 := by rw [List.length_append, hown.1, List.length_map, strB_len]; omega
  rcases hown.2 with ⟨_, h0⟩ | ⟨g, cap, cur, rfl, hbg, hg, hnc, hcm, hcs, htake⟩
  · omega
  · by_cases hroom : n + s.size ≤ cap
    · refine ⟨.slice (some ⟨g, 0, none⟩) (n + s.size) cap, w.setRow g (cur.toList.take n ++ (strB s).map V ++ cur.toList.drop (n + s.size)).toArray, ?_, ⟨hlen, .inr ⟨g, cap, _, rfl, hbg, setRow_heap w g cur _ e _ hg, hroom, hcm, ?_, ?_⟩⟩, ⟨rfl, rfl, rfl, by simp, fun k _ hk => setRow_other w g k _ (fun e => hk (by simp [Value.ownBlock, e]))⟩, .inl rfl⟩
      · have hst := run_storeCells_at P g n e ((strB s).map V) 0 cur w hg (by rw [List.length_map, strB_len]; omega) (V_one _)
        simp only [Nat.add_zero, List.length_map, strB_len] at hst
        have hx := run_first_str P w s
        simp [Builtin.append_, run_underlying ht, run_underlying hu, sizeOf, typeInfo, hi, hsize, Builtin.lenOf, hroom, hx, Addr.add_lit, hst]
      · simp only [List.size_toArray, List.length_append, List.length_take, List.length_drop, Array.length_toList, List.length_map, strB_len]
        omega
      · rw [show (n + s.size) * 1 = (xs ++ (strB s).map V).length from hlen.symm, show cur.toList.take n = xs by rw [← htake, Nat.mul_one]]
        exact List.take_left
    · have hge := grownCap_ge w (n + s.size) cap e
      have hcm2 : grownCap w (n + s.size) cap e ≤ maxLen := grownCap_le_maxLen w (n + s.size) cap e (by unfold maxLen; omega)
      refine ⟨.slice (some ⟨w.heap.size, 0, none⟩) (n + s.size) (grownCap w (n + s.size) cap e), w.drew.alloc (.cells (xs.toArray ++ ((strB s).map V).toArray ++ Builtin.zeroCells z.cells (grownCap w (n + s.size) cap e - (n + s.size))) e), ?_, ⟨hlen, .inr ⟨w.heap.size, _, _, rfl, hbase, heap_alloc_new w.drew _, hge, hcm2, ?_, ?_⟩⟩, ⟨rfl, rfl, rfl, by simp, fun k hk _ => Below.heap_alloc w.drew _ k hk⟩, .inr rfl⟩
      · have hfo := run_firstCells_some (P := P) w.drew i.size n ⟨g, 0, none⟩ n cap xs (by rw [hsize]; exact hown.1) (hown.cells (g := g) rfl)
        rw [hsize] at hfo
        have hx := run_first_str P w.drew s
        have h63' : ¬ (9223372036854775807 < ((n : Int) + (s.size : Int))) := by omega
        have h48' : ¬ (281474976710656 < Builtin.nextslicecap (n + s.size) cap) := by have := growslice_fits (bytes := 1) (need := n + s.size) (old := cap) (by omega) (by omega); omega
        simp [Builtin.append_, run_underlying ht, run_underlying hu, sizeOf, typeInfo, zeroValue, hi, hz, hsize, hby, Builtin.lenOf, hroom, h63', h48', Question.forced, hfo, hx, newRow, grownCap]
        congr 2
        apply Array.ext'
        simp [List.append_assoc]
      · simp only [Array.size_append, List.size_toArray, size_zeroCells, hzs, hown.1, List.length_map, strB_len]
        omega
      · simp only [Array.toList_append, List.append_assoc]
        rw [← List.append_assoc, ← hlen]
        exact List.take_left
end Go.Proofs.YtnanipeapjpkfaaDoor
namespace Go.Proofs.YtnanipeapjpkfaaDoor
set_option maxRecDepth 100000
open Go.RowKit
/-- append of bytes onto a slice of the call's own. -/
theorem append36W {ops : Array Oper} {rest : List Oper} {o : Oper} {a : Act} {w : World} {Q : Exit → Act → World → Prop} (hgd : o.guard = none) (s x : Operand)
    (ho : o.op = .call { callee := .builtin .append, args := #[s, x], argTypes := #[36, 36] })
    (base : Nat) (v : Value) (n : Nat) (xs : List (BitVec 8)) (hs : a.eval s = v) (hown : w.ownsRow base 5 1 v n (xs.map V))
    (y : Value) (bs : List (BitVec 8)) (gb : Nat) (hx : a.eval x = y) (hr : Rv w y bs gb) (hb : n + bs.length ≤ 1000000) (hbase : base ≤ w.heap.size)
    (h : ∀ v' w', w'.ownsRow base 5 1 v' (n + bs.length) ((xs ++ bs).map V) → w.grownBy w' v.ownBlock → (v'.ownBlock = v.ownBlock ∨ v'.ownBlock = some w.heap.size) → wpList Tryd.prog ops Q rest (a.put o.dst v') w') : wpList Tryd.prog ops Q (o :: rest) a w := by
  obtain ⟨i0, hi, hz0, hz1, hz2⟩ := info_parts Tryd.info5
  rcases hr with ⟨rfl, rfl⟩ | ⟨go, c, rfl, hc, hlt, hB⟩
  · refine wpList_append_own_none hgd s x 36 ho base 5 i0 1 Tryd.under36 hi v n _ hs hown hx (h v w ?_ ⟨rfl, rfl, rfl, Nat.le_refl _, fun _ _ _ => rfl⟩ (.inl rfl))
    rw [List.append_nil]; exact hown
  · have hnews : ∀ (j : Nat) (u : Value), (bs.map V)[j]? = some u → w.cell? ((⟨gb, go, none⟩ : Addr).add j) = some u := by
      intro j u hj
      have := hB.src bs.length j u
      rw [List.take_of_length_le (Nat.le_refl _)] at this
      exact this hj
    obtain ⟨v', w', hr, h2, h3, _⟩ := run_append_own (P := Tryd.prog) w base 36 o.type 5 i0 (.int .u8 0) 1 1 Tryd.under36 hi hz0 hz1 hz2 rfl (by decide) v n (xs.map V) hown ⟨gb, go, none⟩ bs.length c (bs.map V) (by simp) hnews (V_one bs) (by unfold maxLen; omega) (by omega) hbase
    have h4 := append_where (P := Tryd.prog) w base 36 o.type 5 i0 (.int .u8 0) 1 1 Tryd.under36 hi hz0 hz1 hz2 v n (xs.map V) hown ⟨gb, go, none⟩ bs.length c (bs.map V) (by simp) hnews (V_one bs) (by unfold maxLen; omega) (by omega) v' w' hr
    refine wpList_plain hgd fun K hK => ?_
    unfold Oper.wp execOp
    simp only [ho, resolve, invoke, builtin, Sem.run_bind, Sem.run_pure, Result.andThen_ok, List.map_toArray, List.map_cons, List.map_nil, hs, hx, hr]
    rw [← List.map_append] at h2
    exact hK _ _ (h v' w' h2 h3 h4)
theorem own_rv {w : World} {base n : Nat} {v : Value} {xs : List (BitVec 8)} (h : w.ownsRow base 5 1 v n (xs.map V)) : (v = .slice none 0 0 ∧ xs = []) ∨ ∃ g, base ≤ g ∧ g < w.heap.size ∧ v.ownBlock = some g ∧ Rv w v xs g := by
  obtain ⟨hl, h⟩ := h
  have hn : n = xs.length := by simpa using hl.symm
  subst hn
  rcases h with ⟨rfl, h0⟩ | ⟨g, cap, cur, rfl, hbg, hg, hnc, _, hcs, ht⟩
  · exact .inl ⟨rfl, List.eq_nil_of_length_eq_zero h0⟩
  · have hgl := (Array.getElem?_eq_some_iff.1 hg).1
    refine .inr ⟨g, hbg, hgl, rfl, .inr ⟨0, cap, rfl, hnc, hgl, ?_⟩⟩
    intro i hi
    rw [Nat.zero_add, cell_of_row _ _ _ _ _ _ hg]
    have e2 := congrArg (·[i]?) ht
    simp [hi] at e2
    simp [e2, hi, V]
/-- The slice lies apart from what was. -/
theorem own_apart {w : World} {base n : Nat} {v : Value} {xs : List (BitVec 8)} (h : w.ownsRow base 5 1 v n (xs.map V)) (hb : base ≤ w.heap.size) : ∃ g a c, v = .slice a xs.length c ∧ base ≤ g ∧ g ≠ w.heap.size ∧ Rv w v xs g := by
  rcases own_rv h with ⟨rfl, rfl⟩ | ⟨g, h1, h2, _, h3⟩
  · exact ⟨w.heap.size + 1, none, 0, rfl, by omega, by omega, .inl ⟨rfl, rfl⟩⟩
  · obtain ⟨a, c, e, _⟩ := h3.shape
    exact ⟨g, a, c, e, h1, by omega, h3⟩
set_option maxHeartbeats 400000 in
theorem newIn_any (v : Value) (gb : Nat) (bs : List (BitVec 8)) (w : World) (hr : Rv w v bs gb) (hl : bs.length ≤ 900000) :
    Calls Tryd.prog 59 #[v] w fun e w' => ∃ ib g, e = .returned (.pointer (some ⟨ib, 0, none⟩)) ∧ w.heap.size ≤ ib ∧ w.heap.size ≤ g ∧ HasIn w' ib bs false g ∧ Below w.heap.size w w' := by
  have hr' := Box.mk hr
  obtain ⟨a, c, rfl, _⟩ := hr.shape
  clear hr
  go_enter Tryd.func59, Tryd.ntmps59
  go_wp2_with (at_builtin; refine append36W rfl _ _ rfl w.heap.size _ 0 [] rfl (World.ownsRow_nil _ _ _ _) _ bs gb rfl hr'.out (by omega) (Nat.le_refl _) ?_; intro v2 w2 own2 gr2 _; have gr2' := Box.mk gr2; obtain ⟨g, a2, c2, e2, hg1, hg2, hg3⟩ := own_apart own2 gr2.size; subst e2; have hg3' := Box.mk hg3; clear own2 gr2 hg3)
  go_ret
  have hb : Below w.heap.size w w2 := (Below.refl _ _).grown gr2'.out (Nat.le_refl _) (fun k e => by cases e)
  exact ⟨w2.heap.size, g, rfl, hb.size, hg1, ⟨_, heap_alloc_new _ _, hg3'.out.below ((Below.refl _ _).alloc (Nat.le_refl _) _), hg2⟩, hb.alloc hb.size _⟩
set_option maxHeartbeats 400000 in
theorem all_any (ob : Nat) (v : Value) (gb : Nat) (bs : List (BitVec 8)) (w : World) (ho : w.heap[ob]? = some (.cells #[v] 86 (0, 0))) (hr : Rv w v bs gb) (hl : bs.length ≤ 900000) :
    Calls Tryd.prog 55 #[.pointer (some ⟨ob, 0, none⟩)] w fun e w' => ∃ v', e = .returned v' ∧ w'.ownsRow w.heap.size 5 1 v' bs.length (bs.map V) ∧ Below w.heap.size w w' := by
  have hr' := Box.mk hr
  obtain ⟨a, c, rfl, _⟩ := hr.shape
  have c0 : w.cell? ⟨ob, 0, none⟩ = some (.slice a bs.length c) := by simp [World.cell?, ho]
  clear hr ho
  go_enter Tryd.func55, Tryd.ntmps55
  go_wp2_with (at_builtin; refine append36W rfl _ _ rfl w.heap.size _ 0 [] rfl (World.ownsRow_nil _ _ _ _) _ bs gb rfl hr'.out (by omega) (Nat.le_refl _) ?_; intro v2 w2 own2 gr2 _; have gr2' := Box.mk gr2; have own2' := Box.mk own2; clear own2 gr2)
  go_ret
  have hb : Below w.heap.size w w2 := (Below.refl _ _).grown gr2'.out (Nat.le_refl _) (fun k e => by cases e)
  refine ⟨_, rfl, ?_, hb⟩
  have := own2'.out
  rw [Nat.zero_add, List.nil_append] at this
  exact this
theorem run_strW (w : World) (v : Value) (bs : List (BitVec 8)) (gb : Nat) (h : Rv w v bs gb) : (convert 36 9 v).run Tryd.prog w = .ok (.string (str bs)) w := by
  rcases h with ⟨rfl, rfl⟩ | ⟨go, c, rfl, hc, hlt, hB⟩
  · exact run_convert_bytes_nil (P := Tryd.prog) w 36 5 Tryd.under36 Tryd.under5 0 0 9 Tryd.under9
  · exact run_convert_bytes_arg (P := Tryd.prog) w 36 5 Tryd.under36 Tryd.under5 gb go bs.length c (bs.map bv) (by simp) (fun i hi => by
      rw [hB i hi]
      simp [hi]) 9 Tryd.under9
/-- How many come next: are they no more than most, and are they there? -/
def lenB (bs : List (BitVec 8)) (most : Int) (size : Nat) : Bool := decide ((num (takeB bs 4) : Int) ≤ most) && decide (num (takeB bs 4) ≤ (dropB bs 4).length / size)
theorem lenB_iff (bs : List (BitVec 8)) (most : Int) (size : Nat) : lenB bs most size = true ↔ lenOk bs most size := by unfold lenB lenOk; simp
def cntO (bs : List (BitVec 8)) (most : Int) : List (BitVec 8) := if lenB bs most 1 then (dropB bs 4).take (num (takeB bs 4)) else []
def cntR (bs : List (BitVec 8)) (most : Int) : List (BitVec 8) := if lenB bs most 1 then (dropB bs 4).drop (num (takeB bs 4)) else []
def cntX (bs : List (BitVec 8)) (bad : Bool) (most : Int) : Bool := if lenB bs most 1 then badB bs bad 4 else true
theorem cntO_len (bs : List (BitVec 8)) (most : Int) : (cntO bs most).length ≤ bs.length := by
  unfold cntO
  split
  · unfold dropB; split <;> simp <;> omega
  · simp
end Go.Proofs.YtnanipeapjpkfaaDoor
namespace Go.Proofs.YtnanipeapjpkfaaDoor
set_option maxRecDepth 100000
open Go.RowKit
def z32W : List (BitVec 8) := List.replicate 32 0
/-- The next hash. -/
def hOf (bs : List (BitVec 8)) : List (BitVec 8) := if 32 ≤ bs.length then bs.take 32 else z32W
theorem hOf_len (bs : List (BitVec 8)) : (hOf bs).length = 32 := by unfold hOf z32W; split <;> simp; omega
theorem splice_h (bs : List (BitVec 8)) : splice (z32W.map V) 0 ((takeB bs 32).map V) = (hOf bs).map V := by
  unfold hOf takeB splice
  split
  · have : (z32W.map V).drop (0 + ((bs.take 32).map V).length) = [] := List.eq_nil_of_length_eq_zero (by simp [z32W]; omega)
    rw [this]; simp
  · simp
theorem below_setRow2 {B g : Nat} {w0 w : World} (hb : Below B w0 w) (hBg : B ≤ g) (cs : Array Value) : Below B w0 (w.setRow g cs) :=
  ⟨hb.os, hb.tape, hb.output, by simpa using hb.size, fun k hk => by rw [setRow_other w g k cs (by omega)]; exact hb.block k hk⟩
theorem hv_only {w w' : World} {g b : Nat} {T : TypeId} {xs : List (BitVec 8)} (h : HasV w b T xs) (ho : Only g w w') (hg : b ≠ g) : HasV w' b T xs := by
  have hl := h.lt
  unfold HasV at h ⊢
  rw [ho.block b hl hg]; exact h
theorem copy_h (g : Nat) (a : Option Addr) (c : Nat) (w : World) (bs : List (BitVec 8)) (gb : Nat) (hr : Rv w (.slice a (takeB bs 32).length c) (takeB bs 32) gb) (hv : HasV w g 23 z32W) :
    (Builtin.copy_ #[36, 36] 3 #[.slice (some ⟨g, 0, none⟩) 32 32, .slice a (takeB bs 32).length c]).run Tryd.prog w = .ok (.int .i64 ((takeB bs 32).length : Int)) (w.setRow g ((hOf bs).map V).toArray) := by
  have hl := takeB_len bs 32
  have := run_copy_exact (P := Tryd.prog) w 36 36 3 5 Tryd.under36 Tryd.size5 (some ⟨g, 0, none⟩) a 32 32 (takeB bs 32).length c g 0 (z32W.map V) 23 hv ((takeB bs 32).map V) (by rw [List.length_map]; show _ = min _ _; omega) (fun hp => ⟨rfl, by
    rcases hr with ⟨_, e⟩ | ⟨go, c', e, _, _, hB⟩
    · rw [e] at hp; simp at hp
    · simp only [Value.slice.injEq] at e
      refine ⟨_, e.1, ?_⟩
      intro j v hj
      have := hB.src (takeB bs 32).length j v
      rw [List.take_of_length_le (Nat.le_refl _)] at this
      exact this hj⟩) (by rw [List.length_map, List.length_map]; show _ ≤ z32W.length; simp [z32W]; omega) (V_one _)
  rw [splice_h, List.length_map] at this
  exact this
/-- In block ib lies an In that has the bytes bs left, wherever these lie. -/
def HasI (w : World) (ib : Nat) (bs : List (BitVec 8)) (bad : Bool) : Prop := ∃ gb, HasIn w ib bs bad gb
theorem HasI.lt {w : World} {ib : Nat} {bs : List (BitVec 8)} {bad : Bool} (h : HasI w ib bs bad) : ib < w.heap.size := by obtain ⟨gb, h⟩ := h; exact h.lt
theorem HasI.below {w w' : World} {ib : Nat} {bs : List (BitVec 8)} {bad : Bool} (h : HasI w ib bs bad) (ho : Below w.heap.size w w') : HasI w' ib bs bad := by obtain ⟨gb, h⟩ := h; exact ⟨gb, h.below ho⟩
theorem HasI.pick {w : World} {ib : Nat} {bs : List (BitVec 8)} {bad : Bool} (h : HasI w ib bs bad) : ∃ gb, HasIn w ib bs bad gb ∧ (gb < w.heap.size ∨ w.heap.size + 9 ≤ gb) := by
  have hl := h.lt
  obtain ⟨gb, v, hv, hr, hne⟩ := h
  rcases hr with ⟨e, e2⟩ | ⟨go, c, e, hc, hlt, hB⟩
  · exact ⟨w.heap.size + 9, ⟨v, hv, .inl ⟨e, e2⟩, by omega⟩, .inr (by omega)⟩
  · exact ⟨gb, ⟨v, hv, .inr ⟨go, c, e, hc, hlt, hB⟩, hne⟩, .inl hlt⟩
theorem HasIn.setRow {w : World} {ib gb g : Nat} {bs : List (BitVec 8)} {bad : Bool} (h : HasIn w ib bs bad gb) (cs : Array Value) (h1 : ib ≠ g) (h2 : gb ≠ g) : HasIn (w.setRow g cs) ib bs bad gb := by
  obtain ⟨v, hv, hr, hne⟩ := h
  exact ⟨v, by rw [setRow_other w g ib cs h1]; exact hv, hr.keep (by simp) (fun _ => setRow_other w g gb cs h2), hne⟩
set_option maxHeartbeats 400000 in
theorem hash_at (ib gb : Nat) (bs : List (BitVec 8)) (bad : Bool) (w : World) (h : HasIn w ib bs bad gb) (hgb : gb ≠ w.heap.size ∧ gb ≠ w.heap.size + 1) (hbs : bs.length ≤ 900000) :
    Calls Tryd.prog 75 #[.pointer (some ⟨ib, 0, none⟩)] w fun e w' => e = .returned (.agg ((hOf bs).map V).toArray) ∧ HasIn w' ib (dropB bs 32) (badB bs bad 32) gb ∧ Only ib w w' := by
  have hib := h.lt
  have h' := Box.mk h
  clear h
  go_enter Tryd.func75, Tryd.ntmps75
  go_upto_region 2 with fail
  refine code_any (fun w1 => HasV w1 w.heap.size 23 z32W ∧ HasV w1 (w.heap.size + 1) 23 z32W ∧ Below w.heap.size w w1) ?_ ?_
  · exact ⟨heap_alloc2_old _ _ _, heap_alloc2_new _ _ _, ((Below.refl _ _).alloc (Nat.le_refl _) _).alloc (by simp) _⟩
  rintro w1 ⟨hv1, hv2, hb1⟩
  have hB1 := Box.mk hv1
  have hB2 := Box.mk hv2
  clear hv1 hv2
  go_region_with (go_at_call 81; refine (take_any ib gb 32 bs bad _ (h'.out.below (by first | exact hb1.drew | exact hb1)) (by omega) (by omega)).mono ?_; rintro e w2 ⟨v, rfl, h1, h2, h3⟩; have h1' := Box.mk h1; have h2' := Box.mk h2; have h3' : Box (Only ib w1 w2) := ⟨⟨h3.os, h3.tape, h3.output, h3.size, h3.block⟩⟩; obtain ⟨a, c, e2, _⟩ := h1.shape; subst e2; have hcp := copy_h (w.heap.size + 1) a c w2 _ gb h1 (hv_only hB2.out h3'.out (by omega)); clear h1 h2 h3)
  all_goals
    have hW : ∃ w3, w3 = w2.setRow (w.heap.size + 1) ((hOf bs).map V).toArray ∧ w3.heap[w.heap.size + 1]? = some (.cells ((hOf bs).map V).toArray 23 (0, 0)) ∧ w3.heap[w.heap.size]? = some (.cells (z32W.map V).toArray 23 (0, 0)) ∧ Box (Only ib w w3) ∧ Box (HasIn w3 ib (dropB bs 32) (badB bs bad 32) gb) := by
      refine ⟨_, rfl, setRow_heap _ _ _ _ 23 (0, 0) (hv_only hB2.out h3'.out (by omega)), ?_, ⟨?_⟩, ⟨h2'.out.setRow _ (by omega) (by omega)⟩⟩
      · rw [setRow_other _ _ _ _ (by omega)]
        exact hv_only hB1.out h3'.out (by omega)
      · have o1 : Only ib w w2 := (Only.of_below hb1).trans h3'.out
        exact ⟨o1.os, o1.tape, o1.output, by simpa using o1.size, fun k hk hne => by rw [setRow_other _ _ _ _ (by omega)]; exact o1.block k hk hne⟩
    obtain ⟨w3, hw3, k1, k2, k3, k4⟩ := hW
    rw [← hw3]
    clear hw3 hcp
    have hs32 : Box (((hOf bs).map V).toArray.size = 32) := ⟨by simp [hOf_len]⟩
    have hz32 : Box ((z32W.map V).toArray.size = 32) := ⟨by simp [z32W]⟩
    go_wp2_with (first | (refine wpList_load_row rfl 23 (.tmp 3) rfl (w.heap.size + 1) rfl 23 _ (0, 0) _ k1 Tryd.under23 rfl (by rw [hs32.out]; exact Tryd.size23) ?_) | (refine wpList_store_row rfl 23 (.tmp 2) (.tmp 8) rfl w.heap.size ((hOf bs).map V).toArray rfl rfl 23 _ k2 (by rw [hs32.out]; exact Tryd.size23) (by rw [hs32.out, hz32.out]) (V_all _) ?_))
    try go_frame
    refine bodyPost_ret (results_cell_row rfl _ _ w.heap.size 23 ((hOf bs).map V).toArray (0, 0) _ rfl (setRow_heap _ _ _ _ 23 (0, 0) k2) Tryd.under23 rfl (by rw [hs32.out]; exact Tryd.size23)) rfl ⟨rfl, k4.out.setRow _ (by omega) (by omega), ?_⟩
    have o1 := k3.out
    exact ⟨o1.os, o1.tape, o1.output, by simpa using o1.size, fun k hk hne => by rw [setRow_other _ _ _ _ (by omega)]; exact o1.block k hk hne⟩
theorem hash_any (ib : Nat) (bs : List (BitVec 8)) (bad : Bool) (w : World) (h : HasI w ib bs bad) (hbs : bs.length ≤ 900000) :
    Calls Tryd.prog 75 #[.pointer (some ⟨ib, 0, none⟩)] w fun e w' => e = .returned (.agg ((hOf bs).map V).toArray) ∧ HasI w' ib (dropB bs 32) (badB bs bad 32) ∧ Only ib w w' := by
  obtain ⟨gb, h', hgb⟩ := h.pick
  refine (hash_at ib gb bs bad w h' (by omega) hbs).mono ?_
  rintro e w' ⟨h1, h2, h3⟩
  exact ⟨h1, ⟨gb, h2⟩, h3⟩
end Go.Proofs.YtnanipeapjpkfaaDoor
namespace Go.Proofs.YtnanipeapjpkfaaDoor
set_option maxRecDepth 100000
open Go.RowKit
theorem Tryd.info23W : (Tryd.prog.info? 23).map (fun i => (i.zero, i.size, i.bytes)) = some (some (.agg ((z32W.map V).toArray)), 32, 32) := by kernel_rfl
theorem Tryd.makeH (n : Nat) (hn : n ≤ 1000000) (w : World) : ∃ cs : Array Value, cs.size = n * 32 ∧ (Instr.makeSlice 32 (.int .i64 (n : Int)) (.int .i64 (n : Int))).run Tryd.prog w = .ok (.slice (some ⟨w.heap.size, 0, none⟩) n n) (w.alloc (.cells cs 23)) := by
  obtain ⟨i0, hi, hz0, hz1, hz2⟩ := info_parts Tryd.info23W
  have := run_make (P := Tryd.prog) w 32 23 i0 _ Tryd.under32' hi hz0 .i64 .i64 (n : Int) (n : Int) (by omega) (by omega) (by rw [hz2]; omega) (by omega)
  rw [hz1, Int.toNat_natCast] at this
  exact ⟨_, size_madeCells _ _, this⟩
theorem Only.setCells {g : Nat} {a : World} : ∀ (vs : List Value) (o : Nat) (w : World), Only g a w → Only g a (w.setCells g o vs)
  | [], _, _, h => h
  | v :: r, o, _, h => Only.setCells r (o + 1) _ (h.setCell o v)
theorem there_new (w : World) (cs : Array Value) (T : TypeId) : (w.alloc (.cells cs T)).there w.heap.size 0 cs.size := by
  intro j hj
  have hg := heap_alloc_new w (.cells cs T)
  constructor
  · rw [cell_of_row _ _ _ _ _ _ hg]; simp [hj]
  · exact frozen_of_row _ _ _ _ _ hg
theorem there_only {w w' : World} {g b o n : Nat} (h : w.there b o n) (ho : Only g w w') (hb : b < w.heap.size) (hg : b ≠ g) : w'.there b o n := by
  intro j hj
  have := h j hj
  have e := ho.block b hb hg
  rw [World.cell?_of_block (w := w) e, World.frozen?_of_block (w := w) e]
  exact this
/-- One more hash in the row. -/
theorem put_h {w : World} {L k n : Nat} {D h : List (BitVec 8)} (hB : HasB w L 0 (D.take (32 * k))) (ht : w.there L 0 (32 * n)) (hk : k < n) (hD : 32 * n ≤ D.length) (hh : h = (D.drop (32 * k)).take 32) :
    HasB (w.setCells L (32 * k) (h.map V)) L 0 (D.take (32 * (k + 1))) := by
  have hl : h.length = 32 := by rw [hh]; simp; omega
  intro i hi
  have hi2 : i < 32 * (k + 1) := by simp at hi; omega
  have hin : i < D.length := by omega
  rw [Nat.zero_add]
  by_cases hlt : i < 32 * k
  · rw [World.cell?_setCells_out L (h.map V) (32 * k) w ⟨L, i, none⟩ (fun _ _ => .inl hlt)]
    have := hB i (by simp; omega)
    rw [Nat.zero_add] at this
    rw [this]
    simp [hi2, hlt]
  · have := World.cell?_setCells_in L (h.map V) (32 * k) w (fun j hj => by
      have := (ht (32 * k + j) (by simp [hl] at hj; omega)).1
      rwa [Nat.zero_add] at this) (i - 32 * k) (by simp [hl]; omega)
    rw [show 32 * k + (i - 32 * k) = i by omega] at this
    rw [this]
    subst hh
    simp [V, hi2, hin, show 32 * k + (i - 32 * k) = i by omega]
def hsN (bs : List (BitVec 8)) (most : Int) : Nat := if lenB bs most 32 then num (takeB bs 4) else 0
def hsD (bs : List (BitVec 8)) (most : Int) : List (BitVec 8) := if lenB bs most 32 then dropB bs 4 else []
def hsX (bs : List (BitVec 8)) (bad : Bool) (most : Int) : Bool := if lenB bs most 32 then badB bs bad 4 else true
theorem hs_le (bs : List (BitVec 8)) (most : Int) : 32 * hsN bs most ≤ (hsD bs most).length := by
  unfold hsN hsD
  split
  · rename_i h
    have := ((lenB_iff _ _ _).1 h).2
    omega
  · simp
theorem hsD_len (bs : List (BitVec 8)) (most : Int) : (hsD bs most).length ≤ bs.length := by
  unfold hsD dropB
  split
  · split <;> simp
  · simp
theorem length_h (ib gb : Nat) (bs : List (BitVec 8)) (bad : Bool) (most : Int) (w : World) (h : HasIn w ib bs bad gb) (hbs : bs.length ≤ 1000000) :
    Calls Tryd.prog 74 #[.pointer (some ⟨ib, 0, none⟩), .int .i64 most, .int .i64 ((32 : Nat) : Int)] w fun e w' => e = .returned (.int .i64 (hsN bs most : Int)) ∧ HasIn w' ib (hsD bs most) (hsX bs bad most) gb ∧ Only ib w w' := by
  refine (length_any ib gb 32 bs bad most w h hbs (.inr rfl)).mono ?_
  rintro e w' ⟨h1, h2⟩
  unfold hsN hsD hsX
  rcases h1 with ⟨hk, rfl, h4⟩ | ⟨hk, rfl, h4⟩
  · rw [if_pos ((lenB_iff _ _ _).2 hk), if_pos ((lenB_iff _ _ _).2 hk), if_pos ((lenB_iff _ _ _).2 hk)]
    exact ⟨rfl, h4, h2⟩
  · have hk' : ¬ lenB bs most 32 = true := fun e => hk ((lenB_iff _ _ _).1 e)
    rw [if_neg hk', if_neg hk', if_neg hk']
    exact ⟨rfl, h4, h2⟩
theorem HasIn.setCells {w : World} {ib gb g : Nat} {bs : List (BitVec 8)} {bad : Bool} (h : HasIn w ib bs bad gb) (o : Nat) (vs : List Value) (h1 : ib ≠ g) (h2 : gb ≠ g) : HasIn (w.setCells g o vs) ib bs bad gb :=
  h.only (Only.setCells vs o w (Only.refl g w)) h1 h2
set_option maxHeartbeats 400000 in
theorem inHashes_any (ib : Nat) (bs : List (BitVec 8)) (bad : Bool) (most : Int) (w : World) (h : HasI w ib bs bad) (hbs : bs.length ≤ 900000) :
    Calls Tryd.prog 61 #[.pointer (some ⟨ib, 0, none⟩), .int .i64 most] w fun e w' => ∃ L, e = .returned (.slice (some ⟨L, 0, none⟩) (hsN bs most) (hsN bs most)) ∧ w.heap.size ≤ L ∧ L < w'.heap.size ∧ HasB w' L 0 ((hsD bs most).take (32 * hsN bs most)) ∧ HasI w' ib ((hsD bs most).drop (32 * hsN bs most)) (hsX bs bad most) ∧ Only ib w w' := by
  have hib := h.lt
  obtain ⟨gb, h', hgb⟩ := h.pick
  have hT := Box.mk (length_h ib gb bs bad most w h' (by omega))
  have hle := hs_le bs most
  have hDl := hsD_len bs most
  have hnil : w.heap.size + 9 ≤ gb → hsN bs most = 0 := by
    intro hg
    obtain ⟨v, _, hr, _⟩ := h'
    rcases hr with ⟨_, rfl⟩ | ⟨_, _, _, _, hlt, _⟩
    · simp at hDl
      rw [hDl] at hle
      simp at hle
      omega
    · omega
  clear h h'
  have hT2 : Box (Calls Tryd.prog 74 #[.pointer (some ⟨ib, 0, none⟩), .int .i64 most, .int .i64 32] w fun e w1 => e = .returned (.int .i64 (hsN bs most : Int)) ∧ Only ib w w1 ∧ ∃ w2, (Instr.makeSlice 32 (.int .i64 (hsN bs most : Int)) (.int .i64 (hsN bs most : Int))).run Tryd.prog w1 = .ok (.slice (some ⟨w1.heap.size, 0, none⟩) (hsN bs most) (hsN bs most)) w2 ∧ Box (w2.there w1.heap.size 0 (32 * hsN bs most)) ∧ Box (HasIn w2 ib (hsD bs most) (hsX bs bad most) gb) ∧ Box (Only ib w w2) ∧ w1.heap.size < w2.heap.size) := ⟨by
    refine hT.out.mono ?_
    rintro e w1 ⟨rfl, h1, h2⟩
    obtain ⟨cs, hcs, hmk⟩ := Tryd.makeH (hsN bs most) (by omega) w1
    refine ⟨rfl, h2, _, hmk, ⟨?_⟩, ⟨h1.below ((Below.refl _ _).alloc (Nat.le_refl _) _)⟩, ⟨h2.trans (Only.of_below ((Below.refl _ _).alloc (Nat.le_refl _) _))⟩, by simp⟩
    have := there_new w1 cs 23
    rw [hcs, Nat.mul_comm] at this
    exact this⟩
  clear hT
  generalize hsX bs bad most = X at hT2 ⊢
  generalize hsD bs most = D at hT2 hle hDl ⊢
  generalize hsN bs most = n at hT2 hle hnil ⊢
  have hn : n ≤ 100000 := by omega
  have hnil := Box.mk hnil
  have hDl := Nat.le_trans hDl hbs
  go_enter Tryd.func61, Tryd.ntmps61
  go_wp2_with (refine hT2.out.mono ?_; rintro e w1 ⟨rfl, h2, w2, hmk, t2, i2, o2, s2⟩; have hz1 := h2.size; clear h2)
  clear hmk
  generalize w1.heap.size = L at *
  go_loopw [14] (fun i wr => ∃ k : Nat, k ≤ n ∧ i = .int .i64 k ∧ Box (HasB wr L 0 (D.take (32 * k))) ∧ Box (wr.there L 0 (32 * n)) ∧ Box (HasIn wr ib (D.drop (32 * k)) X gb) ∧ Box (Only ib w wr) ∧ L < wr.heap.size) (fun i _ => n - (intOf i).toNat)
  case atStart => exact ⟨0, by omega, rfl, ⟨fun i hi => by simp at hi⟩, t2, by simpa using i2, o2, s2⟩
  case round =>
    clear t2 i2 o2 s2
    obtain ⟨k, hk, rfl, hB, ht, hI, hO, hL⟩ := hrel
    by_cases hlt : k < n
    · have hgl : gb < w.heap.size := by
        rcases hgb with hgb | hgb
        · exact hgb
        · have := hnil.out hgb; omega
      have hwz := hO.out.size
      have hDk : (D.drop (32 * k)).length = D.length - 32 * k := List.length_drop
      have hH : hOf (D.drop (32 * k)) = (D.drop (32 * k)).take 32 := by unfold hOf; rw [if_pos (by omega)]
      have hd : dropB (D.drop (32 * k)) 32 = D.drop (32 * (k + 1)) := by unfold dropB; rw [if_pos (by omega), List.drop_drop, show 32 * k + 32 = 32 * (k + 1) by omega]
      have hx : badB (D.drop (32 * k)) X 32 = X := by unfold badB; rw [if_pos (by omega)]
      have hC : Box (Calls Tryd.prog 75 #[.pointer (some ⟨ib, 0, none⟩)] wr fun e w3 => e = .returned (.agg (((D.drop (32 * k)).take 32).map V).toArray) ∧ Box (HasIn w3 ib (D.drop (32 * (k + 1))) X gb) ∧ Box (Only ib wr w3)) := ⟨by
        refine (hash_at ib gb _ X wr hI.out (by omega) (by omega)).mono ?_
        rintro e w3 ⟨rfl, h1, h2⟩
        rw [hH]
        rw [hd, hx] at h1
        exact ⟨rfl, ⟨h1⟩, ⟨h2⟩⟩⟩
      clear hd hx hH hI
      have hl32 : Box (((D.drop (32 * k)).take 32).length = 32) := ⟨by simp; omega⟩
      obtain ⟨H, hH⟩ : ∃ H, Box ((D.drop (32 * k)).take 32 = H) := ⟨_, ⟨rfl⟩⟩
      rw [hH.out] at hC hl32
      have hsz : Box ((H.map V).toArray.size = 32) := ⟨by simp [hl32.out]⟩
      have hne : L ≠ ib := by omega
      go_wp2_with (first | (refine hC.out.mono ?_; rintro e w3 ⟨rfl, h1, h2⟩; have ht3 : Box (w3.there L 0 (32 * n)) := ⟨there_only ht.out h2.out hL hne⟩; have hm3 : Box (w3.there L (k * 32) (H.map V).toArray.size) := ⟨fun j hj => by have := ht3.out (k * 32 + j) (by rw [hsz.out] at hj; omega); rwa [Nat.zero_add] at this⟩) | (refine wpList_store_mid rfl 23 (.tmp 21) (.tmp 20) rfl L (k * 32) (H.map V).toArray rfl rfl hm3.out (by rw [hsz.out]; exact Tryd.size23) (V_all _) ?_))
      have k1 : Box (HasB (w3.setCells L (k * 32) (H.map V).toArray.toList) L 0 (D.take (32 * (k + 1)))) := ⟨by
        have := put_h (w := w3) (hB.out.only h2.out hL hne) ht3.out hlt hle hH.out.symm
        rw [Nat.mul_comm k 32]
        exact this⟩
      have k2 : Box ((w3.setCells L (k * 32) (H.map V).toArray.toList).there L 0 (32 * n)) := ⟨World.there_setCells ht3.out _ _ _⟩
      have k3 : Box (HasIn (w3.setCells L (k * 32) (H.map V).toArray.toList) ib (D.drop (32 * (k + 1))) X gb) := ⟨h1.out.setCells _ _ (by omega) (by omega)⟩
      have k4 : Box (Only ib w (w3.setCells L (k * 32) (H.map V).toArray.toList)) := ⟨by
        have o1 := hO.out.trans h2.out
        have o2 := Only.setCells (g := L) (a := w3) (H.map V).toArray.toList (k * 32) w3 (Only.refl _ _)
        have := h2.out.size
        exact ⟨o2.os.trans o1.os, o2.tape.trans o1.tape, o2.output.trans o1.output, Nat.le_trans o1.size o2.size, fun q hq hne2 => by rw [o2.block q (by omega) (by omega)]; exact o1.block q hq hne2⟩⟩
      have k5 : L < (w3.setCells L (k * 32) (H.map V).toArray.toList).heap.size := by
        have o2 := (Only.setCells (g := L) (a := w3) (H.map V).toArray.toList (k * 32) w3 (Only.refl _ _)).size
        have := h2.out.size
        omega
      clear h1 h2 ht3 hm3 ht hB hO hC
      generalize w3.setCells L (k * 32) (H.map V).toArray.toList = w4 at *
      go_wp2
      go_roundw
      case rel => exact ⟨k + 1, by omega, by go_num, k1, k2, k3, k4, k5⟩
      case measure => simp [intOf]; omega
    · have hkn : Box (k = n) := ⟨by omega⟩
      go_wp2
      go_ret
      rw [hkn.out] at hB hI
      exact ⟨L, rfl, hz1, hL, hB.out, ⟨gb, hI.out⟩, hO.out⟩
end Go.Proofs.YtnanipeapjpkfaaDoor
namespace Go.Proofs.YtnanipeapjpkfaaDoor
set_option maxRecDepth 100000
open Go.RowKit
/-- In block ob lies an Out that has the bytes xs. -/
def HasOut (w : World) (ob : Nat) (v : Value) (xs : List (BitVec 8)) : Prop :=
  w.heap[ob]? = some (.cells #[v] 86 (0, 0)) ∧ w.ownsRow (ob + 1) 5 1 v xs.length (xs.map V)
/-- w' is as w was, but for the Out, its row, and new blocks. -/
structure Put (ob : Nat) (v v' : Value) (w w' : World) : Prop where
  os : w'.os = w.os
  tape : w'.tape = w.tape
  output : w'.output = w.output
  size : w.heap.size ≤ w'.heap.size
  block : ∀ k, k < w.heap.size → k ≠ ob → some k ≠ v.ownBlock → w'.heap[k]? = w.heap[k]?
  own : v'.ownBlock = v.ownBlock ∨ ∃ g, v'.ownBlock = some g ∧ w.heap.size ≤ g
theorem Put.refl (ob : Nat) (v : Value) (w : World) : Put ob v v w w := ⟨rfl, rfl, rfl, Nat.le_refl _, fun _ _ _ _ => rfl, .inl rfl⟩
theorem Put.trans {ob : Nat} {v1 v2 v3 : Value} {w1 w2 w3 : World} (h : Put ob v1 v2 w1 w2) (k : Put ob v2 v3 w2 w3) : Put ob v1 v3 w1 w3 := by
  have hs := h.size
  refine ⟨k.os.trans h.os, k.tape.trans h.tape, k.output.trans h.output, Nat.le_trans h.size k.size, fun q hq hne hno => ?_, ?_⟩
  · rw [k.block q (by omega) hne ?_]
    · exact h.block q hq hne hno
    · rcases h.own with e | ⟨g, e, hg⟩
      · rw [e]; exact hno
      · rw [e]; intro e2; have := Option.some.inj e2; omega
  · rcases k.own with e | ⟨g, e, hg⟩
    · rw [e]; exact h.own
    · exact .inr ⟨g, e, by omega⟩
theorem HasOut.lt {w : World} {ob : Nat} {v : Value} {xs : List (BitVec 8)} (h : HasOut w ob v xs) : ob < w.heap.size := (Array.getElem?_eq_some_iff.1 h.1).1
theorem Put.below {ob : Nat} {v v' : Value} {w w' : World} {xs : List (BitVec 8)} (h : Put ob v v' w w') (ho : HasOut w ob v xs) (B : Nat) (hB : B ≤ ob) : Below B w w' := by
  have hl := ho.lt
  refine ⟨h.os, h.tape, h.output, h.size, fun k hk => h.block k (by omega) (by omega) (fun e => ?_)⟩
  have := ho.2.lt k e.symm
  omega
theorem HasOut.below {w w' : World} {ob : Nat} {v : Value} {xs : List (BitVec 8)} (h : HasOut w ob v xs) (hb : Below w.heap.size w w') : HasOut w' ob v xs := by
  refine ⟨by rw [hb.block ob h.lt]; exact h.1, h.2.1, ?_⟩
  rcases h.2.2 with hn | ⟨g, cap, cur, rfl, hb1, hgg, rest⟩
  · exact .inl hn
  · exact .inr ⟨g, cap, cur, rfl, hb1, by rw [hb.block g (Array.getElem?_eq_some_iff.1 hgg).1]; exact hgg, rest⟩
/-- One append, and its store. -/
theorem put_step {w w1 w2 : World} {ob H : Nat} {v v2 : Value} {xs bs : List (BitVec 8)} (h : HasOut w ob v xs) (hb : Below w.heap.size w w1)
    (own2 : w2.ownsRow (ob + 1) 5 1 v2 (xs.length + bs.length) ((xs ++ bs).map V)) (gr : w1.grownBy w2 v.ownBlock) (hat : v2.ownBlock = v.ownBlock ∨ v2.ownBlock = some H) (hH : w.heap.size ≤ H) :
    HasOut (w2.setCell ⟨ob, 0, none⟩ v2) ob v2 (xs ++ bs) ∧ Put ob v v2 w (w2.setCell ⟨ob, 0, none⟩ v2) := by
  have hl := h.lt
  have hs := hb.size
  have hno : some ob ≠ v.ownBlock := fun e => by have := h.2.lt ob e.symm; omega
  have e1 : w2.heap[ob]? = some (.cells #[v] 86 (0, 0)) := by
    rw [gr.block ob (by omega) hno, hb.block ob hl]; exact h.1
  refine ⟨⟨?_, ?_⟩, gr.os.trans hb.os, gr.tape.trans hb.tape, gr.output.trans hb.output, ?_, ?_, ?_⟩
  · simp [World.setCell, Array.getElem?_modify, e1]
  · rw [List.length_append]
    refine ⟨own2.1, ?_⟩
    rcases own2.2 with hn | ⟨g, cap, cur, rfl, hb1, hgg, rest⟩
    · exact .inl hn
    · exact .inr ⟨g, cap, cur, rfl, hb1, by rw [heap_setCell_other _ _ _ _ (show g ≠ ob by omega)]; exact hgg, rest⟩
  · have := gr.size
    simp
    omega
  · intro k hk hne hnk
    rw [heap_setCell_other _ _ _ _ (show k ≠ ob from hne), gr.block k (by omega) hnk, hb.block k hk]
  · rcases hat with e | e
    · exact .inl e
    · exact .inr ⟨H, e, hH⟩
/-- append of bytes onto the Out's row: what its store makes of it. -/
theorem run_out {w wr : World} {ob : Nat} {v : Value} {xs : List (BitVec 8)} (hout : HasOut wr ob v xs) (hb : Below wr.heap.size wr w) (ty : TypeId) {y : Value} {bs : List (BitVec 8)} {gb : Nat} (hr : Rv w y bs gb) (hlen : xs.length + bs.length ≤ 1000000) :
    ∃ a n c w', (Builtin.append_ #[36, 36] ty #[v, y]).run Tryd.prog w = .ok (.slice a n c) w' ∧ w'.cell? ⟨ob, 0, none⟩ = some v ∧ w'.frozen? ⟨ob, 0, none⟩ = false ∧ Box (HasOut (w'.setCell ⟨ob, 0, none⟩ (.slice a n c)) ob (.slice a n c) (xs ++ bs) ∧ Put ob v (.slice a n c) wr (w'.setCell ⟨ob, 0, none⟩ (.slice a n c))) := by
  obtain ⟨i0, hi, hz0, hz1, hz2⟩ := info_parts Tryd.info5
  have hown := (hout.below hb).2
  have hl := hout.lt
  have hs := hb.size
  have key : ∃ v' w', (Builtin.append_ #[36, 36] ty #[v, y]).run Tryd.prog w = .ok v' w' ∧ w'.ownsRow (ob + 1) 5 1 v' (xs.length + bs.length) ((xs ++ bs).map V) ∧ w.grownBy w' v.ownBlock ∧ (v'.ownBlock = v.ownBlock ∨ v'.ownBlock = some w.heap.size) := by
    rcases hr with ⟨rfl, rfl⟩ | ⟨go, c, rfl, hc, hlt, hB⟩
    · exact ⟨v, w, run_append_owned_none (P := Tryd.prog) (w := w) (ob + 1) 36 ty 5 i0 1 Tryd.under36 hi v _ _ hown, by simpa using hown, ⟨rfl, rfl, rfl, Nat.le_refl _, fun _ _ _ => rfl⟩, .inl rfl⟩
    · have hnews : ∀ (j : Nat) (u : Value), (bs.map V)[j]? = some u → w.cell? ((⟨gb, go, none⟩ : Addr).add j) = some u := by
        intro j u hj
        have := hB.src bs.length j u
        rw [List.take_of_length_le (Nat.le_refl _)] at this
        exact this hj
      obtain ⟨v', w', hr, h2, h3, _⟩ := run_append_own (P := Tryd.prog) w (ob + 1) 36 ty 5 i0 (.int .u8 0) 1 1 Tryd.under36 hi hz0 hz1 hz2 rfl (by decide) v _ (xs.map V) hown ⟨gb, go, none⟩ bs.length c (bs.map V) (by simp) hnews (V_one bs) (by unfold maxLen; omega) (by omega) (by omega)
      have h4 := append_where (P := Tryd.prog) w (ob + 1) 36 ty 5 i0 (.int .u8 0) 1 1 Tryd.under36 hi hz0 hz1 hz2 v _ (xs.map V) hown ⟨gb, go, none⟩ bs.length c (bs.map V) (by simp) hnews (V_one bs) (by unfold maxLen; omega) (by omega) v' w' hr
      rw [← List.map_append] at h2
      exact ⟨v', w', hr, h2, h3, h4⟩
  obtain ⟨v', w', hrun, h2, h3, h4⟩ := key
  obtain ⟨g, a, c, rfl, _⟩ := own_apart (base := 0) ⟨h2.1, by
    rcases h2.2 with h | ⟨g, cap, cur, e, _, r⟩
    · exact .inl h
    · exact .inr ⟨g, cap, cur, e, Nat.zero_le _, r⟩⟩ (Nat.zero_le _)
  have hg : w'.heap[ob]? = wr.heap[ob]? := by
    rw [h3.block ob (by omega) (fun e => by have := hout.2.lt ob e.symm; omega), hb.block ob hl]
  refine ⟨a, _, c, w', hrun, ?_, ?_, ⟨put_step hout hb h2 h3 h4 hs⟩⟩
  · rw [World.cell?_of_block (w := wr) hg]; simp [World.cell?, hout.1]
  · rw [World.frozen?_of_block (w := wr) hg]; simp [World.frozen?, hout.1]
theorem wp_out {o : Oper} {a : Act} {w wr : World} {K : Act → World → Prop} {Q : Exit → Act → World → Prop} (s x : Operand)
    (ho : o.op = .call { callee := .builtin .append, args := #[s, x], argTypes := #[36, 36] }) (ob : Nat) (v : Value) (xs : List (BitVec 8)) (hout : HasOut wr ob v xs) (hb : Below wr.heap.size wr w) (hs : a.eval s = v)
    (y : Value) (bs : List (BitVec 8)) (gb : Nat) (hx : a.eval x = y) (hr : Rv w y bs gb) (hlen : xs.length + bs.length ≤ 1000000)
    (h : ∀ a' n c w', w'.cell? ⟨ob, 0, none⟩ = some v → w'.frozen? ⟨ob, 0, none⟩ = false → Box (HasOut (w'.setCell ⟨ob, 0, none⟩ (.slice a' n c)) ob (.slice a' n c) (xs ++ bs) ∧ Put ob v (.slice a' n c) wr (w'.setCell ⟨ob, 0, none⟩ (.slice a' n c))) → K (a.put o.dst (.slice a' n c)) w') : o.wp Tryd.prog a w K Q := by
  obtain ⟨a', n, c, w', hrun, h1, h2, h3⟩ := run_out hout hb o.type hr hlen
  unfold Oper.wp execOp
  simp only [ho, resolve, invoke, builtin, Sem.run_bind, Sem.run_pure, Result.andThen_ok, List.map_toArray, List.map_cons, List.map_nil, hs, hx, hrun]
  exact h a' n c w' h1 h2 h3
theorem step_out {ops : Array Oper} {o : Oper} {a : Act} {w wr : World} {K : Act → World → Prop} {Q : Exit → Act → World → Prop} {E : Prop} (hgd : o.guard = none) (s x : Operand)
    (ho : o.op = .call { callee := .builtin .append, args := #[s, x], argTypes := #[36, 36] }) (ob : Nat) (v : Value) (xs : List (BitVec 8)) (hout : HasOut wr ob v xs) (hb : Below wr.heap.size wr w) (hs : a.eval s = v)
    (y : Value) (bs : List (BitVec 8)) (gb : Nat) (hx : a.eval x = y) (hr : Rv w y bs gb) (hlen : xs.length + bs.length ≤ 1000000)
    (h : ∀ a' n c w', w'.cell? ⟨ob, 0, none⟩ = some v → w'.frozen? ⟨ob, 0, none⟩ = false → Box (HasOut (w'.setCell ⟨ob, 0, none⟩ (.slice a' n c)) ob (.slice a' n c) (xs ++ bs) ∧ Put ob v (.slice a' n c) wr (w'.setCell ⟨ob, 0, none⟩ (.slice a' n c))) → K (a.put o.dst (.slice a' n c)) w') :
    if Region.wanted o (yielded ops a.tmps) = true then Oper.wp Tryd.prog o a w K Q else E := by
  have hw : Region.wanted o (yielded ops a.tmps) = true := by simp [Region.wanted, hgd]
  rw [if_pos hw]
  exact wp_out s x ho ob v xs hout hb hs y bs gb hx hr hlen h
/-- The lowest bytes of a number, the highest of them first. -/
def beN (N size : Nat) : List (BitVec 8) := (List.range size).map fun k => BitVec.ofNat 8 (N / 2 ^ (8 * (size - 1 - k)))
theorem beN_len (N size : Nat) : (beN N size).length = size := by simp [beN]
theorem beN_take (N size k : Nat) (h : k < size) : (beN N size).take (k + 1) = (beN N size).take k ++ [BitVec.ofNat 8 (N / 2 ^ (8 * (size - 1 - k)))] := by
  rw [List.take_add_one, List.getElem?_eq_getElem (by rw [beN_len]; exact h)]
  simp [beN]
theorem news_one {w : World} {a : Addr} {v : Value} (h : w.cell? a = some v) : ∀ (j : Nat) (u : Value), [v][j]? = some u → w.cell? (a.add j) = some u := by
  intro j u hj
  match j, hj with
  | 0, hj =>
    simp only [List.getElem?_cons_zero, Option.some.injEq] at hj
    subst hj
    simpa [Addr.add] using h
theorem cell_new1 (w : World) (v : Value) (T : TypeId) : (w.alloc (.cells #[v] T)).cell? ⟨w.heap.size, 0, none⟩ = some v := by
  rw [cell_of_row _ _ _ _ T _ (heap_alloc_new _ _)]; rfl
theorem one_int (k : IntKind) (n : Int) : ∀ u ∈ [Value.int k n], u.oneCell' = true := by
  intro u hu
  simp only [List.mem_cons, List.not_mem_nil, or_false] at hu
  subst hu; rfl
theorem byte_v (N j : Nat) : Value.int .u8 (IntKind.u8.wrap ((N : Int) / 2 ^ (8 * (j : Int)).toNat)) = V (BitVec.ofNat 8 (N / 2 ^ (8 * j))) := by
  unfold V
  rw [bv_lit, IntKind.wrap_u8, show (8 * (j : Int)).toNat = 8 * j by omega]
  congr 1
theorem new_one (w : World) (N j : Nat) : Rv (w.drew.alloc (.cells #[.int .u8 (IntKind.u8.wrap ((N : Int) / 2 ^ (8 * (j : Int)).toNat))] 5)) (.slice (some ⟨w.heap.size, 0, none⟩) 1 1) [BitVec.ofNat 8 (N / 2 ^ (8 * j))] w.heap.size := by
  refine .inr ⟨0, 1, rfl, Nat.le_refl _, by simp, ?_⟩
  rw [byte_v]
  intro i hi
  obtain rfl : i = 0 := by simpa using hi
  exact cell_new1 _ _ _
theorem new_one' (w : World) (N j : Nat) : Rv (w.alloc (.cells #[.int .u8 (IntKind.u8.wrap ((N : Int) / 2 ^ (8 * (j : Int)).toNat))] 5)).drew (.slice (some ⟨w.heap.size, 0, none⟩) 1 1) [BitVec.ofNat 8 (N / 2 ^ (8 * j))] w.heap.size := new_one w N j
set_option maxHeartbeats 400000 in
theorem onumber_any (ob N size : Nat) (v0 : Value) (xs : List (BitVec 8)) (w : World) (h : HasOut w ob v0 xs) (_hN : N < 18446744073709551616) (hs : size ≤ 8) (hx : xs.length ≤ 900000) :
    Calls Tryd.prog 69 #[.pointer (some ⟨ob, 0, none⟩), .int .u64 (N : Int), .int .i64 (size : Int)] w fun e w' => e = .returned (.pointer (some ⟨ob, 0, none⟩)) ∧ ∃ v', HasOut w' ob v' (xs ++ beN N size) ∧ Put ob v0 v' w w' := by
  obtain ⟨i0, hi, hz0, hz1, hz2⟩ := info_parts Tryd.info5
  have h' := Box.mk h
  clear h
  go_enter Tryd.func69, Tryd.ntmps69
  go_wp2
  go_loopw [9] (fun i wr => ∃ k : Nat, k ≤ size ∧ i = .int .i64 k ∧ Box (∃ v, HasOut wr ob v (xs ++ (beN N size).take k) ∧ Put ob v0 v w wr)) (fun i _ => size - (intOf i).toNat)
  case atStart => exact ⟨0, by omega, rfl, ⟨v0, by simpa using h'.out, Put.refl _ _ _⟩⟩
  case round =>
    obtain ⟨k, hk, rfl, hr⟩ := hrel
    by_cases hlt : k < size
    · obtain ⟨v, ho, hp⟩ := hr.out
      have c0 : wr.cell? ⟨ob, 0, none⟩ = some v := by simp [World.cell?, ho.1]
      have f0 : wr.frozen? ⟨ob, 0, none⟩ = false := by simp [World.frozen?, ho.1]
      have hol := ho.lt
      have ho' := Box.mk ho
      have hp' := Box.mk hp
      have hxl : (xs ++ List.take k (beN N size)).length ≤ 900008 := by simp [beN_len]; omega
      clear hr ho hp h'
      obtain ⟨j, hj⟩ : ∃ j : Nat, Box (j = size - 1 - k) := ⟨_, ⟨rfl⟩⟩
      have hjj : (size : Int) - 1 - k = j := by rw [hj.out]; omega
      have hj8 : j ≤ 7 := by rw [hj.out]; omega
      have hw3 : IntKind.i64.wrap (8 * IntKind.i64.wrap (IntKind.i64.wrap ((size : Int) - 1) - k)) = ((8 * j : Nat) : Int) := by simp only [IntKind.wrap_i64]; omega
      go_wp2
      go_region_law ((refine step_out (by rfl) _ _ (by rfl) ob v _ ho'.out (by first | exact ((Below.refl _ _).alloc (Nat.le_refl _) _).drew | exact (Below.refl _ _).drew.alloc (Nat.le_refl _) _) (by rfl) _ [BitVec.ofNat 8 (N / 2 ^ (8 * j))] wr.heap.size (by rfl) (by first | exact new_one _ _ _ | exact new_one' _ _ _) (by simp; omega) ?_; intro a2 n2 c2 w1 c1 f1 hres))
      all_goals
        have hfin : Box (∃ v, HasOut (w1.setCell ⟨ob, 0, none⟩ (.slice a2 n2 c2)) ob v (xs ++ (beN N size).take (k + 1)) ∧ Put ob v0 v w (w1.setCell ⟨ob, 0, none⟩ (.slice a2 n2 c2))) := ⟨_, by rw [beN_take N size k hlt, ← List.append_assoc, ← hj.out]; exact hres.out.1, hp'.out.trans hres.out.2⟩
        clear hres c1 f1 c0 f0 ho' hp' hw3 hxl hjj
        generalize w1.setCell ⟨ob, 0, none⟩ (.slice a2 n2 c2) = w2 at *
        go_wp2
        go_roundw
        case rel => exact ⟨k + 1, by omega, by go_num, hfin⟩
        case measure => simp [intOf]; omega
    · have hkn : Box ((beN N size).take k = beN N size) := ⟨List.take_of_length_le (by rw [beN_len]; omega)⟩
      rw [hkn.out] at hr
      go_wp2
      go_ret
      exact ⟨rfl, hr.out⟩
end Go.Proofs.YtnanipeapjpkfaaDoor
namespace Go.Proofs.YtnanipeapjpkfaaDoor
set_option maxRecDepth 100000
open Go.RowKit
/-- A number's eight bytes. -/
def be8 (n : Int) : List (BitVec 8) := beN (n % 18446744073709551616).toNat 8
theorem be8_len (n : Int) : (be8 n).length = 8 := beN_len _ _
set_option maxHeartbeats 400000 in
theorem oint_any (ob : Nat) (n : Int) (v0 : Value) (xs : List (BitVec 8)) (w : World) (h : HasOut w ob v0 xs) (hx : xs.length ≤ 900000) :
    Calls Tryd.prog 53 #[.pointer (some ⟨ob, 0, none⟩), .int .i64 n] w fun e w' => e = .returned (.pointer (some ⟨ob, 0, none⟩)) ∧ ∃ v', HasOut w' ob v' (xs ++ be8 n) ∧ Put ob v0 v' w w' := by
  have hT := Box.mk (onumber_any ob (n % 18446744073709551616).toNat 8 v0 xs w h (by omega) (by omega) hx)
  have e1 : IntKind.u64.wrap n = (((n % 18446744073709551616).toNat : Nat) : Int) := by rw [IntKind.wrap_u64]; omega
  unfold be8
  generalize (n % 18446744073709551616).toNat = N at *
  clear h
  go_enter Tryd.func53, Tryd.ntmps53
  go_wp2_with (first | (rw [e1]; refine hT.out.mono ?_; rintro e w' ⟨rfl, h1⟩; have h1' := Box.mk h1; clear h1) | (refine hT.out.mono ?_; rintro e w' ⟨rfl, h1⟩; have h1' := Box.mk h1; clear h1))
  go_ret
  exact ⟨rfl, h1'.out⟩
/-- append of a text onto the Out's row: what its store makes of it. -/
theorem run_outs {w : World} {ob : Nat} {v : Value} {xs : List (BitVec 8)} (hout : HasOut w ob v xs) (ty : TypeId) (s : ByteArray) (hn : 0 < xs.length) (hlen : xs.length + s.size ≤ 1000000) :
    ∃ a n c w', (Builtin.append_ #[36, 9] ty #[v, .string s]).run Tryd.prog w = .ok (.slice a n c) w' ∧ w'.cell? ⟨ob, 0, none⟩ = some v ∧ w'.frozen? ⟨ob, 0, none⟩ = false ∧ Box (HasOut (w'.setCell ⟨ob, 0, none⟩ (.slice a n c)) ob (.slice a n c) (xs ++ strB s) ∧ Put ob v (.slice a n c) w (w'.setCell ⟨ob, 0, none⟩ (.slice a n c))) := by
  obtain ⟨i0, hi, hz0, hz1, hz2⟩ := info_parts Tryd.info5
  have hl := hout.lt
  obtain ⟨v', w', hrun, h2, h3, h4⟩ := run_append_str (P := Tryd.prog) w (ob + 1) 36 9 ty 5 i0 (.int .u8 0) Tryd.under36 Tryd.under9 hi hz0 hz1 hz2 rfl v _ (xs.map V) hn hout.2 s hlen (by omega)
  rw [← List.map_append] at h2
  rw [← strB_len] at h2
  obtain ⟨g, a, c, rfl, _⟩ := own_apart (base := 0) ⟨h2.1, by
    rcases h2.2 with h | ⟨g, cap, cur, e, _, r⟩
    · exact .inl h
    · exact .inr ⟨g, cap, cur, e, Nat.zero_le _, r⟩⟩ (Nat.zero_le _)
  have hg : w'.heap[ob]? = w.heap[ob]? := h3.block ob (by omega) (fun e => by have := hout.2.lt ob e.symm; omega)
  refine ⟨a, _, c, w', hrun, ?_, ?_, ⟨put_step hout (Below.refl _ _) h2 h3 h4 (Nat.le_refl _)⟩⟩
  · rw [World.cell?_of_block (w := w) hg]; simp [World.cell?, hout.1]
  · rw [World.frozen?_of_block (w := w) hg]; simp [World.frozen?, hout.1]
theorem wpList_app {ops : Array Oper} {rest : List Oper} {o : Oper} {a : Act} {w w2 : World} {Q : Exit → Act → World → Prop} (hgd : o.guard = none) (s x : Operand) (t u : TypeId)
    (ho : o.op = .call { callee := .builtin .append, args := #[s, x], argTypes := #[t, u] }) (v y v2 : Value) (hs : a.eval s = v) (hx : a.eval x = y) (hr : (Builtin.append_ #[t, u] o.type #[v, y]).run Tryd.prog w = .ok v2 w2)
    (h : wpList Tryd.prog ops Q rest (a.put o.dst v2) w2) : wpList Tryd.prog ops Q (o :: rest) a w := by
  refine wpList_plain hgd fun K hK => ?_
  unfold Oper.wp execOp
  simp only [ho, resolve, invoke, builtin, Sem.run_bind, Sem.run_pure, Result.andThen_ok, List.map_toArray, List.map_cons, List.map_nil, hs, hx, hr]
  exact hK _ _ h
theorem rv_row {w : World} {g : Nat} {T : TypeId} {h : List (BitVec 8)} (hv : HasV w g T h) (hl : h.length = 32) : Rv w (.slice (some ⟨g, 0, none⟩) 32 32) h g :=
  .inr ⟨0, 32, by rw [hl], by omega, hv.lt, hv.bytes⟩
set_option maxHeartbeats 400000 in
theorem ohash_any (ob : Nat) (hh : List (BitVec 8)) (v0 : Value) (xs : List (BitVec 8)) (w : World) (h : HasOut w ob v0 xs) (hl : hh.length = 32) (hx : xs.length ≤ 900000) :
    Calls Tryd.prog 70 #[.pointer (some ⟨ob, 0, none⟩), .agg (hh.map V).toArray] w fun e w' => e = .returned (.pointer (some ⟨ob, 0, none⟩)) ∧ ∃ v', HasOut w' ob v' (xs ++ hh) ∧ Put ob v0 v' w w' := by
  have h' := Box.mk h
  have hol := h.lt
  clear h
  go_enter Tryd.func70, Tryd.ntmps70
  go_upto_region 1 with fail
  refine code_any (fun w1 => HasV w1 w.heap.size 23 hh ∧ Below w.heap.size w w1) ?_ ?_
  · exact ⟨heap_alloc_new _ _, (Below.refl _ _).alloc (Nat.le_refl _) _⟩
  rintro w1 ⟨hv1, hb1⟩
  have hB1 := Box.mk hv1
  have c0 : w1.cell? ⟨ob, 0, none⟩ = some v0 := by rw [hb1.cell (by exact hol)]; simp [World.cell?, h'.out.1]
  clear hv1
  go_region_law ((refine step_out (by rfl) _ _ (by rfl) ob v0 _ h'.out (by first | exact hb1.drew | exact hb1) (by rfl) _ hh w.heap.size (by rfl) (by first | exact rv_row hB1.out.drew hl | exact rv_row hB1.out hl) (by omega) ?_; intro a2 n2 c2 w2 c1 f1 hres))
  all_goals
    go_wp2
    go_ret
    exact ⟨rfl, _, hres.out⟩
/-- A slice value that has n hashes, one behind the other. -/
structure Fl (w : World) (A : Option Addr) (lb lo n : Nat) (D : List (BitVec 8)) : Prop where
  len : D.length = 32 * n
  src : 0 < n → A = some ⟨lb, lo, none⟩ ∧ lb < w.heap.size ∧ HasB w lb lo D
theorem Fl.keep {w w' : World} {A : Option Addr} {lb lo n : Nat} {D : List (BitVec 8)} (h : Fl w A lb lo n D) (hs : w.heap.size ≤ w'.heap.size) (hk : 0 < n → w'.heap[lb]? = w.heap[lb]?) : Fl w' A lb lo n D :=
  ⟨h.len, fun hn => ⟨(h.src hn).1, Nat.lt_of_lt_of_le (h.src hn).2.1 hs, fun i hi => by rw [World.cell?_of_block (w := w) (hk hn)]; exact (h.src hn).2.2 i hi⟩⟩
theorem Fl.below {w w' : World} {A : Option Addr} {lb lo n B : Nat} {D : List (BitVec 8)} (h : Fl w A lb lo n D) (hb : Below B w w') (hB : 0 < n → lb < B) : Fl w' A lb lo n D := h.keep hb.size fun hn => hb.block lb (hB hn)
/-- Hash number k. -/
def nth (D : List (BitVec 8)) (k : Nat) : List (BitVec 8) := (D.drop (32 * k)).take 32
theorem nth_len (D : List (BitVec 8)) (n k : Nat) (h : D.length = 32 * n) (hk : k < n) : (nth D k).length = 32 := by unfold nth; simp; omega
theorem nth_take (D : List (BitVec 8)) (k : Nat) : D.take (32 * (k + 1)) = D.take (32 * k) ++ nth D k := by
  unfold nth
  rw [show 32 * (k + 1) = 32 * k + 32 by omega, List.take_add]
theorem Fl.range {w : World} {A : Option Addr} {lb lo n : Nat} {D : List (BitVec 8)} (h : Fl w A lb lo n D) (k : Nat) (hk : k < n) : w.rangeAt lb (lo + k * 32) ((nth D k).map V) := by
  intro j v hj
  have hB := ((h.src (by omega)).2.2.drop (32 * k)).take 32
  have := hB.src 32 j v
  rw [List.take_take, Nat.min_self] at this
  have h2 := this hj
  rw [Addr.add_mid] at h2
  rw [Nat.mul_comm k 32]
  exact h2
set_option maxHeartbeats 400000 in
theorem ohashes_any (ob lb lo n c : Nat) (A : Option Addr) (D : List (BitVec 8)) (v0 : Value) (xs : List (BitVec 8)) (w : World) (h : HasOut w ob v0 xs) (hf : Fl w A lb lo n D) (hlb : 0 < n → lb < ob) (hn : n ≤ 1000) (hx : xs.length ≤ 800000) :
    Calls Tryd.prog 54 #[.pointer (some ⟨ob, 0, none⟩), .slice A n c] w fun e w' => e = .returned (.pointer (some ⟨ob, 0, none⟩)) ∧ ∃ v', HasOut w' ob v' (xs ++ beN n 4 ++ D) ∧ Put ob v0 v' w w' := by
  have hT := Box.mk (onumber_any ob n 4 v0 xs w h (by omega) (by omega) (by omega))
  have hf' := Box.mk hf
  have h' := Box.mk h
  have hl4 := beN_len n 4
  have hDl := hf.len
  clear hf h
  go_enter Tryd.func54, Tryd.ntmps54
  go_wp2_with (refine hT.out.mono ?_; rintro e w' ⟨rfl, h1⟩; have h1' := Box.mk h1; clear h1)
  go_loopw [13] (fun i wr => ∃ k : Nat, k ≤ n ∧ i = .int .i64 k ∧ Box (∃ v, HasOut wr ob v (xs ++ beN n 4 ++ D.take (32 * k)) ∧ Put ob v0 v w wr)) (fun i _ => n - (intOf i).toNat)
  case atStart => exact ⟨0, by omega, rfl, ⟨by simpa using h1'.out⟩⟩
  case round =>
    obtain ⟨k, hk, rfl, hr⟩ := hrel
    by_cases hlt : k < n
    · obtain ⟨rfl, hlw, _⟩ := hf'.out.src (by omega)
      obtain ⟨v, ho, hp⟩ := hr.out
      have hb : Below ob w wr := hp.below h'.out ob (Nat.le_refl _)
      have hrg := Box.mk ((hf'.out.below hb hlb).range k hlt)
      have hC : Box (Calls Tryd.prog 70 #[.pointer (some ⟨ob, 0, none⟩), .agg ((nth D k).map V).toArray] wr fun e w' => e = .returned (.pointer (some ⟨ob, 0, none⟩)) ∧ Box (∃ v', HasOut w' ob v' (xs ++ beN n 4 ++ D.take (32 * (k + 1))) ∧ Put ob v0 v' w w')) := ⟨by
        refine (ohash_any ob (nth D k) v _ wr ho (nth_len D n k hDl hlt) (by simp [hl4]; omega)).mono ?_
        rintro e w2 ⟨rfl, v', h3, h4⟩
        rw [List.append_assoc, ← nth_take] at h3
        exact ⟨rfl, ⟨v', h3, hp.trans h4⟩⟩⟩
      have hsz : Box (((nth D k).map V).length = 32) := ⟨by rw [List.length_map]; exact nth_len D n k hDl hlt⟩
      clear hr ho hp h1' hb
      go_wp2_with (first | (refine wpList_load_mid rfl 23 (.tmp 19) rfl lb (lo + k * 32) rfl ((nth D k).map V) _ hrg.out Tryd.under23 rfl (by rw [hsz.out]; exact Tryd.size23) ?_) | (refine hC.out.mono ?_; rintro e w2 ⟨rfl, h3⟩))
      go_roundw
      case rel => exact ⟨k + 1, by omega, by go_num, h3⟩
      case measure => simp [intOf]; omega
    · have hkn : Box (D.take (32 * k) = D) := ⟨List.take_of_length_le (by omega)⟩
      rw [hkn.out] at hr
      go_wp2
      go_ret
      exact ⟨rfl, hr.out⟩
end Go.Proofs.YtnanipeapjpkfaaDoor
namespace Go.Proofs.YtnanipeapjpkfaaDoor
set_option maxRecDepth 100000
open Go.RowKit
theorem flat_len2 : ∀ (hs : List (List (BitVec 8))), (∀ (i : Nat) (x : List (BitVec 8)), hs[i]? = some x → x.length = 32) → hs.flatten.length = 32 * hs.length
  | [], _ => rfl
  | x :: r, h => by
    rw [List.flatten_cons, List.length_append, h 0 x rfl, flat_len2 r (fun i y hy => h (i + 1) y (by simpa using hy)), List.length_cons]
    omega
theorem Hl.len32 {w : World} {A : Option Addr} {lb lo : Nat} {hs : List (List (BitVec 8))} (h : Hl w A lb lo hs) : ∀ (i : Nat) (x : List (BitVec 8)), hs[i]? = some x → x.length = 32 := fun i x hi => (h.all i x hi).1
theorem hl_fl {w : World} {A : Option Addr} {lb lo : Nat} {hs : List (List (BitVec 8))} (h : Hl w A lb lo hs) : Fl w A lb lo hs.length hs.flatten := by
  have hfl := flat_len2 hs h.len32
  refine ⟨hfl, fun hn => ⟨h.ptr hn, h.lt hn, fun i hi => ?_⟩⟩
  rw [hfl] at hi
  obtain ⟨x, hx⟩ : ∃ x, hs[i / 32]? = some x := ⟨_, List.getElem?_eq_getElem (by omega)⟩
  obtain ⟨h1, h2⟩ := h.all (i / 32) x hx
  have h3 := h2 (i % 32) (by rw [h1]; omega)
  have h4 := flat_at hs h.len32 (i / 32) x hx (i % 32) (by omega)
  rw [show i / 32 * 32 + i % 32 = i by omega] at h4
  rw [show lo + i = lo + i / 32 * 32 + i % 32 by omega, h3, List.getD_eq_getElem?_getD, List.getD_eq_getElem?_getD, h4]
theorem hs_fl {w : World} {A : Option Addr} {C : Nat} {hs : List (List (BitVec 8))} (h : (Fk.hs hs).f (.slice A hs.length C) w) : ∃ lb lo, Fl w A lb lo hs.length hs.flatten := by
  obtain ⟨A', C', lb, lo, e, hl⟩ := h
  injection e with e1 e2 e3
  subst e1
  exact ⟨lb, lo, hl_fl hl⟩
theorem out_nil {w : World} {ob : Nat} (h : Ob w ob 86 [.slice none 0 0]) : HasOut w ob (.slice none 0 0) [] := ⟨h, World.ownsRow_nil _ _ _ _⟩
theorem out_rv {w : World} {ob : Nat} {v : Value} {xs : List (BitVec 8)} (h : HasOut w ob v xs) : ∃ gb, Rv w v xs gb := by
  rcases own_rv h.2 with ⟨e1, e2⟩ | ⟨g, _, _, _, hr⟩
  · exact ⟨0, .inl ⟨e1, e2⟩⟩
  · exact ⟨g, hr⟩
theorem rv_sl {w : World} {v : Value} {xs : List (BitVec 8)} {gb : Nat} (h : Rv w v xs gb) : (Fk.sl xs).f v w := by
  rcases h with ⟨rfl, rfl⟩ | ⟨go, c, rfl, hc, hl, hB⟩
  · exact ⟨none, 0, 0, 0, 0, rfl, rfl, Nat.le_refl _, fun _ => ⟨rfl, rfl⟩, fun h => absurd h (by omega)⟩
  · exact ⟨_, _, c, gb, go, rfl, rfl, hc, (fun e => by cases e), fun _ => ⟨rfl, hl, hB⟩⟩
theorem own_sl {w : World} {base n : Nat} {v : Value} {xs : List (BitVec 8)} (h : w.ownsRow base 5 1 v n (xs.map V)) : (Fk.sl xs).f v w := by
  rcases own_rv h with ⟨e1, e2⟩ | ⟨g, _, _, _, hr⟩
  · exact rv_sl (gb := 0) (.inl ⟨e1, e2⟩)
  · exact rv_sl hr
theorem sl_rv {w : World} {v : Value} {xs : List (BitVec 8)} (h : (Fk.sl xs).f v w) : (∃ gb, Rv w v xs gb) ∨ ∃ sp c, v = .slice sp 0 c ∧ xs = [] := by
  obtain ⟨sp, m, c, b, o, rfl, hs⟩ := h
  have hl := hs.len
  subst hl
  rcases Nat.eq_zero_or_pos xs.length with h0 | h0
  · exact .inr ⟨sp, c, by rw [h0], List.length_eq_zero_iff.1 h0⟩
  · obtain ⟨e, hlt, hB⟩ := hs.src h0
    exact .inl ⟨b, .inr ⟨o, c, by rw [e], hs.cap, hlt, hB⟩⟩
/-- The bytes of hashes, of a signature. -/
def hsb (hs : List (List (BitVec 8))) : List (BitVec 8) := beN hs.length 4 ++ hs.flatten
def sgb (k i : Int) (S P : List (List (BitVec 8))) : List (BitVec 8) := be8 k ++ be8 i ++ hsb S ++ hsb P
end Go.Proofs.YtnanipeapjpkfaaDoor
