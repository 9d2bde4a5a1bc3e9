/- What Hashes does with an In. -/
import Derived.Test.YtkgfcddjjghohaaWf
import Derived.Deep.MidRow
namespace Go.Proofs.Ytkgfcddjjghohaa
open Go.RowKit
theorem Try.under30 : Try.prog.underlying 30 = some (.slice 29) := by kernel_rfl
theorem Try.info29 : (Try.prog.info? 29).map (fun i => (i.zero, i.size, i.bytes)) = some (some (.agg ((z32.map V).toArray)), 32, 32) := by kernel_rfl
theorem Try.makeH (n : Nat) (hn : n ≤ 1000000) (w : World) : ∃ cs : Array Value, cs.size = n * 32 ∧ (Instr.makeSlice 30 (.int .i64 (n : Int)) (.int .i64 (n : Int))).run Try.prog w = .ok (.slice (some ⟨w.heap.size, 0, none⟩) n n) (w.alloc (.cells cs 29)) := by
  obtain ⟨i0, hi, hz0, hz1, hz2⟩ := info_parts Try.info29
  have := run_make (P := Try.prog) w 30 29 i0 _ Try.under30 hi hz0 .i64 .i64 (n : Int) (n : Int) (by omega) (by omega) (by rw [hz2]; omega) (by omega)
  rw [hz1, Int.toNat_natCast] at this
  exact ⟨_, size_madeCells _ _, this⟩
theorem Only.setCells {g : Nat} {a : World} : ∀ (vs : List Value) (o : Nat) (w : World), Only g a w → Only g a (w.setCells g o vs)
  | [], _, _, h => h
  | v :: r, o, _, h => Only.setCells r (o + 1) _ (h.setCell o v)
theorem there_new (w : World) (cs : Array Value) (T : TypeId) : (w.alloc (.cells cs T)).there w.heap.size 0 cs.size := by
  intro j hj
  have hg := heap_alloc_new w (.cells cs T)
  constructor
  · rw [cell_of_row _ _ _ _ _ _ hg]; simp [hj]
  · exact frozen_of_row _ _ _ _ _ hg
theorem there_only {w w' : World} {g b o n : Nat} (h : w.there b o n) (ho : Only g w w') (hb : b < w.heap.size) (hg : b ≠ g) : w'.there b o n := by
  intro j hj
  have := h j hj
  have e := ho.block b hb hg
  rw [World.cell?_of_block (w := w) e, World.frozen?_of_block (w := w) e]
  exact this
/-- One more hash in the row. -/
theorem put_h {w : World} {L k n : Nat} {D h : List (BitVec 8)} (hB : HasB w L 0 (D.take (32 * k))) (ht : w.there L 0 (32 * n)) (hk : k < n) (hD : 32 * n ≤ D.length) (hh : h = (D.drop (32 * k)).take 32) :
    HasB (w.setCells L (32 * k) (h.map V)) L 0 (D.take (32 * (k + 1))) := by
  have hl : h.length = 32 := by rw [hh]; simp; omega
  intro i hi
  have hi2 : i < 32 * (k + 1) := by simp at hi; omega
  have hin : i < D.length := by omega
  rw [Nat.zero_add]
  by_cases hlt : i < 32 * k
  · rw [World.cell?_setCells_out L (h.map V) (32 * k) w ⟨L, i, none⟩ (fun _ _ => .inl hlt)]
    have := hB i (by simp; omega)
    rw [Nat.zero_add] at this
    rw [this]
    simp [hi2, hlt]
  · have := World.cell?_setCells_in L (h.map V) (32 * k) w (fun j hj => by
      have := (ht (32 * k + j) (by simp [hl] at hj; omega)).1
      rwa [Nat.zero_add] at this) (i - 32 * k) (by simp [hl]; omega)
    rw [show 32 * k + (i - 32 * k) = i by omega] at this
    rw [this]
    subst hh
    simp [V, hi2, hin, show 32 * k + (i - 32 * k) = i by omega]
def hsN (bs : List (BitVec 8)) (most : Int) : Nat := if lenB bs most 32 then num (takeB bs 4) else 0
def hsD (bs : List (BitVec 8)) (most : Int) : List (BitVec 8) := if lenB bs most 32 then dropB bs 4 else []
def hsX (bs : List (BitVec 8)) (bad : Bool) (most : Int) : Bool := if lenB bs most 32 then badB bs bad 4 else true
theorem hs_le (bs : List (BitVec 8)) (most : Int) : 32 * hsN bs most ≤ (hsD bs most).length := by
  unfold hsN hsD
  split
  · rename_i h
    have := ((lenB_iff _ _ _).1 h).2
    omega
  · simp
theorem hsD_len (bs : List (BitVec 8)) (most : Int) : (hsD bs most).length ≤ bs.length := by
  unfold hsD dropB
  split
  · split <;> simp
  · simp
theorem length_h (ib gb : Nat) (bs : List (BitVec 8)) (bad : Bool) (most : Int) (w : World) (h : HasIn w ib bs bad gb) (hbs : bs.length ≤ 1000000) :
    Calls Try.prog 37 #[.pointer (some ⟨ib, 0, none⟩), .int .i64 most, .int .i64 ((32 : Nat) : Int)] w fun e w' => e = .returned (.int .i64 (hsN bs most : Int)) ∧ HasIn w' ib (hsD bs most) (hsX bs bad most) gb ∧ Only ib w w' := by
  refine (length_any ib gb 32 bs bad most w h hbs (.inr rfl)).mono ?_
  rintro e w' ⟨h1, h2⟩
  unfold hsN hsD hsX
  rcases h1 with ⟨hk, rfl, h4⟩ | ⟨hk, rfl, h4⟩
  · rw [if_pos ((lenB_iff _ _ _).2 hk), if_pos ((lenB_iff _ _ _).2 hk), if_pos ((lenB_iff _ _ _).2 hk)]
    exact ⟨rfl, h4, h2⟩
  · have hk' : ¬ lenB bs most 32 = true := fun e => hk ((lenB_iff _ _ _).1 e)
    rw [if_neg hk', if_neg hk', if_neg hk']
    exact ⟨rfl, h4, h2⟩
theorem HasIn.setCells {w : World} {ib gb g : Nat} {bs : List (BitVec 8)} {bad : Bool} (h : HasIn w ib bs bad gb) (o : Nat) (vs : List Value) (h1 : ib ≠ g) (h2 : gb ≠ g) : HasIn (w.setCells g o vs) ib bs bad gb :=
  h.only (Only.setCells vs o w (Only.refl g w)) h1 h2
set_option maxHeartbeats 400000 in
theorem inHashes_any (ib : Nat) (bs : List (BitVec 8)) (bad : Bool) (most : Int) (w : World) (h : HasI w ib bs bad) (hbs : bs.length ≤ 900000) :
    Calls Try.prog 24 #[.pointer (some ⟨ib, 0, none⟩), .int .i64 most] w fun e w' => ∃ L, e = .returned (.slice (some ⟨L, 0, none⟩) (hsN bs most) (hsN bs most)) ∧ w.heap.size ≤ L ∧ L < w'.heap.size ∧ HasB w' L 0 ((hsD bs most).take (32 * hsN bs most)) ∧ HasI w' ib ((hsD bs most).drop (32 * hsN bs most)) (hsX bs bad most) ∧ Only ib w w' := by
  have hib := h.lt
  obtain ⟨gb, h', hgb⟩ := h.pick
  have hT := Box.mk (length_h ib gb bs bad most w h' (by omega))
  have hle := hs_le bs most
  have hDl := hsD_len bs most
  have hnil : w.heap.size + 9 ≤ gb → hsN bs most = 0 := by
    intro hg
    obtain ⟨v, _, hr, _⟩ := h'
    rcases hr with ⟨_, rfl⟩ | ⟨_, _, _, _, hlt, _⟩
    · simp at hDl
      rw [hDl] at hle
      simp at hle
      omega
    · omega
  clear h h'
  have hT2 : Box (Calls Try.prog 37 #[.pointer (some ⟨ib, 0, none⟩), .int .i64 most, .int .i64 32] w fun e w1 => e = .returned (.int .i64 (hsN bs most : Int)) ∧ Only ib w w1 ∧ ∃ w2, (Instr.makeSlice 30 (.int .i64 (hsN bs most : Int)) (.int .i64 (hsN bs most : Int))).run Try.prog w1 = .ok (.slice (some ⟨w1.heap.size, 0, none⟩) (hsN bs most) (hsN bs most)) w2 ∧ Box (w2.there w1.heap.size 0 (32 * hsN bs most)) ∧ Box (HasIn w2 ib (hsD bs most) (hsX bs bad most) gb) ∧ Box (Only ib w w2) ∧ w1.heap.size < w2.heap.size) := ⟨by
    refine hT.out.mono ?_
    rintro e w1 ⟨rfl, h1, h2⟩
    obtain ⟨cs, hcs, hmk⟩ := Try.makeH (hsN bs most) (by omega) w1
    refine ⟨rfl, h2, _, hmk, ⟨?_⟩, ⟨h1.below ((Below.refl _ _).alloc (Nat.le_refl _) _)⟩, ⟨h2.trans (Only.of_below ((Below.refl _ _).alloc (Nat.le_refl _) _))⟩, by simp⟩
    have := there_new w1 cs 29
    rw [hcs, Nat.mul_comm] at this
    exact this⟩
  clear hT
  generalize hsX bs bad most = X at hT2 ⊢
  generalize hsD bs most = D at hT2 hle hDl ⊢
  generalize hsN bs most = n at hT2 hle hnil ⊢
  have hn : n ≤ 100000 := by omega
  have hnil := Box.mk hnil
  have hDl := Nat.le_trans hDl hbs
  go_enter Try.func24, Try.ntmps24
  go_wp2_with (refine hT2.out.mono ?_; rintro e w1 ⟨rfl, h2, w2, hmk, t2, i2, o2, s2⟩; have hz1 := h2.size; clear h2)
  clear hmk
  generalize w1.heap.size = L at *
  go_loopw [14] (fun i wr => ∃ k : Nat, k ≤ n ∧ i = .int .i64 k ∧ Box (HasB wr L 0 (D.take (32 * k))) ∧ Box (wr.there L 0 (32 * n)) ∧ Box (HasIn wr ib (D.drop (32 * k)) X gb) ∧ Box (Only ib w wr) ∧ L < wr.heap.size) (fun i _ => n - (intOf i).toNat)
  case atStart => exact ⟨0, by omega, rfl, ⟨fun i hi => by simp at hi⟩, t2, by simpa using i2, o2, s2⟩
  case round =>
    clear t2 i2 o2 s2
    obtain ⟨k, hk, rfl, hB, ht, hI, hO, hL⟩ := hrel
    by_cases hlt : k < n
    · have hgl : gb < w.heap.size := by
        rcases hgb with hgb | hgb
        · exact hgb
        · have := hnil.out hgb; omega
      have hwz := hO.out.size
      have hDk : (D.drop (32 * k)).length = D.length - 32 * k := List.length_drop
      have hH : hOf (D.drop (32 * k)) = (D.drop (32 * k)).take 32 := by unfold hOf; rw [if_pos (by omega)]
      have hd : dropB (D.drop (32 * k)) 32 = D.drop (32 * (k + 1)) := by unfold dropB; rw [if_pos (by omega), List.drop_drop, show 32 * k + 32 = 32 * (k + 1) by omega]
      have hx : badB (D.drop (32 * k)) X 32 = X := by unfold badB; rw [if_pos (by omega)]
      have hC : Box (Calls Try.prog 22 #[.pointer (some ⟨ib, 0, none⟩)] wr fun e w3 => e = .returned (.agg (((D.drop (32 * k)).take 32).map V).toArray) ∧ Box (HasIn w3 ib (D.drop (32 * (k + 1))) X gb) ∧ Box (Only ib wr w3)) := ⟨by
        refine (hash_at ib gb _ X wr hI.out (by omega) (by omega)).mono ?_
        rintro e w3 ⟨rfl, h1, h2⟩
        rw [hH]
        rw [hd, hx] at h1
        exact ⟨rfl, ⟨h1⟩, ⟨h2⟩⟩⟩
      clear hd hx hH hI
      have hl32 : Box (((D.drop (32 * k)).take 32).length = 32) := ⟨by simp; omega⟩
      obtain ⟨H, hH⟩ : ∃ H, Box ((D.drop (32 * k)).take 32 = H) := ⟨_, ⟨rfl⟩⟩
      rw [hH.out] at hC hl32
      have hsz : Box ((H.map V).toArray.size = 32) := ⟨by simp [hl32.out]⟩
      have hne : L ≠ ib := by omega
      go_wp2_with (first | (refine hC.out.mono ?_; rintro e w3 ⟨rfl, h1, h2⟩; have ht3 : Box (w3.there L 0 (32 * n)) := ⟨there_only ht.out h2.out hL hne⟩; have hm3 : Box (w3.there L (k * 32) (H.map V).toArray.size) := ⟨fun j hj => by have := ht3.out (k * 32 + j) (by rw [hsz.out] at hj; omega); rwa [Nat.zero_add] at this⟩) | (refine wpList_store_mid rfl 29 (.tmp 21) (.tmp 20) rfl L (k * 32) (H.map V).toArray rfl rfl hm3.out (by rw [hsz.out]; exact Try.size29) (V_all _) ?_))
      have k1 : Box (HasB (w3.setCells L (k * 32) (H.map V).toArray.toList) L 0 (D.take (32 * (k + 1)))) := ⟨by
        have := put_h (w := w3) (hB.out.only h2.out hL hne) ht3.out hlt hle hH.out.symm
        rw [Nat.mul_comm k 32]
        exact this⟩
      have k2 : Box ((w3.setCells L (k * 32) (H.map V).toArray.toList).there L 0 (32 * n)) := ⟨World.there_setCells ht3.out _ _ _⟩
      have k3 : Box (HasIn (w3.setCells L (k * 32) (H.map V).toArray.toList) ib (D.drop (32 * (k + 1))) X gb) := ⟨h1.out.setCells _ _ (by omega) (by omega)⟩
      have k4 : Box (Only ib w (w3.setCells L (k * 32) (H.map V).toArray.toList)) := ⟨by
        have o1 := hO.out.trans h2.out
        have o2 := Only.setCells (g := L) (a := w3) (H.map V).toArray.toList (k * 32) w3 (Only.refl _ _)
        have := h2.out.size
        exact ⟨o2.os.trans o1.os, o2.tape.trans o1.tape, o2.output.trans o1.output, Nat.le_trans o1.size o2.size, fun q hq hne2 => by rw [o2.block q (by omega) (by omega)]; exact o1.block q hq hne2⟩⟩
      have k5 : L < (w3.setCells L (k * 32) (H.map V).toArray.toList).heap.size := by
        have o2 := (Only.setCells (g := L) (a := w3) (H.map V).toArray.toList (k * 32) w3 (Only.refl _ _)).size
        have := h2.out.size
        omega
      clear h1 h2 ht3 hm3 ht hB hO hC
      generalize w3.setCells L (k * 32) (H.map V).toArray.toList = w4 at *
      go_wp2
      go_roundw
      case rel => exact ⟨k + 1, by omega, by go_num, k1, k2, k3, k4, k5⟩
      case measure => simp [intOf]; omega
    · have hkn : Box (k = n) := ⟨by omega⟩
      go_wp2
      go_ret
      rw [hkn.out] at hB hI
      exact ⟨L, rfl, hz1, hL, hB.out, ⟨gb, hI.out⟩, hO.out⟩
end Go.Proofs.Ytkgfcddjjghohaa
