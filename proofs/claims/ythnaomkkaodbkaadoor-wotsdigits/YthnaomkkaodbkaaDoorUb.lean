/- What wots.Digits hands back: the 67 digits, in new memory. -/
import Derived.Test.YthnaomkkaodbkaaDoorUa
namespace Go.Proofs.YthnaomkkaodbkaaDoor
open Go.RowKit
/-- So many numbers 0. -/
def zn (c : Nat) : List Nat := List.replicate c 0
theorem Tryd.make67 (w : World) : (Instr.makeSlice 24 (.int .i64 0) (.int .i64 67)).run Tryd.prog w = .ok (.slice (some ⟨w.heap.size, 0, none⟩) 0 67) (w.alloc (.cells ((zn 67).map Nv).toArray 3)) := by kernel_rfl
/-- v is a slice of the call's own that has the numbers xs. -/
def OwnI (w : World) (base : Nat) (v : Value) (n : Nat) (xs : List Nat) : Prop := w.ownsRow base 3 1 v n (xs.map Nv)
theorem own_made (w : World) (base c : Nat) (h : base ≤ w.heap.size) (hc : c ≤ maxLen) : OwnI (w.alloc (.cells ((zn c).map Nv).toArray 3)) base (.slice (some ⟨w.heap.size, 0, none⟩) 0 c) 0 [] :=
  ⟨rfl, .inr ⟨w.heap.size, c, ((zn c).map Nv).toArray, rfl, h, heap_alloc_new _ _, Nat.zero_le _, hc, by simp [zn], by simp⟩⟩
theorem OwnI.alloc {w : World} {base n : Nat} {v : Value} {xs : List Nat} (h : OwnI w base v n xs) (o : Obj) : OwnI (w.alloc o) base v n xs := World.ownsRow.alloc h o
theorem i15_all : ∀ x : Fin 1024, bits .and .i64 ((x.val : Nat) : Int) 15 = ((x.val % 16 : Nat) : Int) := by decide +kernel
theorem i15 (n : Nat) (h : n < 1024) : bits .and .i64 (n : Int) (15 : Int) = ((n % 16 : Nat) : Int) := i15_all ⟨n, h⟩
attribute [local go_sem] and15
set_option maxHeartbeats 400000 in
theorem digits_own (hs : List (BitVec 8)) (w : World) (hl : hs.length = 32) :
    Calls Tryd.prog 8 #[.agg (hs.map V).toArray] w fun e w' => ∃ v, e = .returned v ∧ w'.ownsRow w.heap.size 3 1 v 67 ((dig hs).map Nv) ∧ Below w.heap.size w w' := by
  have hmk := Tryd.make67
  go_enter Tryd.func8, Tryd.ntmps8
  go_upto_region 3 with fail
  clear hmk
  refine code_any (fun w1 => OwnI w1 w.heap.size (.slice (some ⟨w.heap.size + 1, 0, none⟩) 0 67) 0 [] ∧ HasV w1 w.heap.size 23 hs ∧ Below w.heap.size w w1) ?_ ?_
  · refine ⟨?_, heap_alloc2_old _ _ _, ((Below.refl _ _).alloc (Nat.le_refl _) _).alloc (by simp) _⟩
    have := own_made (w.alloc (.cells (hs.map V).toArray 23)) w.heap.size 67 (by simp) (by unfold maxLen; omega)
    simpa using this
  rintro w1 ⟨hown1, hh1, hb1⟩
  have hown : Box (OwnI w1 w.heap.size (.slice (some ⟨w.heap.size + 1, 0, none⟩) 0 67) 0 []) := ⟨hown1⟩
  have hh' : w1.heap[w.heap.size]? = some (.cells (hs.map V).toArray 23 (0, 0)) := hh1
  have hl' : Box ((hs.map V).toArray.size = 32) := ⟨by simp [hl]⟩
  clear hh1 hown1
  go_wp2_with (refine wpList_load_row rfl 23 (.tmp 1) rfl w.heap.size rfl 23 _ (0, 0) _ hh' Tryd.under23 rfl (by rw [hl'.out]; exact Tryd.size23) ?_)
  try go_frame
  clear hh'
  go_loopw [3, 4, 11] (fun v L i wr => ∃ k : Nat, k ≤ 32 ∧ i = .int .i64 k ∧ L = .int .i64 ((lef hs (2 * k) : Nat) : Int) ∧ Box (OwnI wr w.heap.size v (2 * k) (hds hs (2 * k))) ∧ Below w.heap.size w wr) (fun _ _ i _ => 32 - (intOf i).toNat)
  case atStart => exact ⟨0, by omega, rfl, rfl, hown, hb1⟩
  case round =>
    clear hown hb1
    obtain ⟨k, hk, rfl, rfl, hown, hb⟩ := hrel
    have hz := hb.size
    have hll := lef_le hs (2 * k)
    by_cases hlt : k < 32
    · have hidx := Tryd.idx23 hs hl k hlt
      have hD := Box.mk (hds_two hs k)
      have hL := Box.mk (lef_two hs k)
      generalize lef hs (2 * k) = L at hll hL ⊢
      generalize hs.getD k 0 = x at hidx hD hL
      have hx := bv_range x
      have hxn : bv x = (x.toNat : Int) := rfl
      have hin : x.toNat < 256 := x.isLt
      obtain ⟨p, hp⟩ : ∃ p : Nat, Box (p = x.toNat / 16) := ⟨_, ⟨rfl⟩⟩
      obtain ⟨q, hq⟩ : ∃ q : Nat, Box (q = x.toNat % 16) := ⟨_, ⟨rfl⟩⟩
      have hp15 : p ≤ 15 := by rw [hp.out]; omega
      have hq15 : q ≤ 15 := by rw [hq.out]; omega
      have e1 : bv x / (16 : Int) = (p : Int) := by rw [hp.out, hxn]; omega
      have e2 : bv x % (16 : Int) = (q : Int) := by rw [hq.out, hxn]; omega
      rw [← hp.out, ← hq.out] at hD hL
      clear hxn hin hx hp hq
      go_wp2_with (at_builtin; refine appendI rfl (.tmp 20) (.tmp 23) rfl w.heap.size _ (2 * k) (hds hs (2 * k)) rfl (hown.out.alloc _) ⟨wr.heap.size, 0, none⟩ 2 2 [p, q] rfl rfl (news_new wr 3 [p, q]) (by omega) (by simp; omega) ?_; intro v2 w2 own2 gr2)
      have hb2 : Below w.heap.size w w2 := (hb.alloc hz _).grown gr2 (by simp; omega) (fun k e => (World.ownsRow.lt hown.out k e).1)
      rw [← hD.out] at own2
      have own2' : Box (OwnI w2 w.heap.size v2 (2 * (k + 1)) (hds hs (2 * (k + 1)))) := ⟨own2⟩
      clear own2 gr2 hown hb
      go_wp2
      go_roundw
      case rel => exact ⟨k + 1, by omega, by go_num, by rw [hL.out]; go_num, own2', hb2⟩
      case measure => simp [intOf]; omega
    · obtain rfl : k = 32 := by omega
      have hD : Box (dig hs = hds hs (2 * 32) ++ [lef hs (2 * 32) / 256, lef hs (2 * 32) / 16 % 16, lef hs (2 * 32) % 16]) := ⟨rfl⟩
      generalize lef hs (2 * 32) = L at hll hD ⊢
      obtain ⟨p, hp⟩ : ∃ p : Nat, Box (p = L / 256) := ⟨_, ⟨rfl⟩⟩
      obtain ⟨q, hq⟩ : ∃ q : Nat, Box (q = L / 16) := ⟨_, ⟨rfl⟩⟩
      obtain ⟨q2, hq2⟩ : ∃ q2 : Nat, Box (q2 = q % 16) := ⟨_, ⟨rfl⟩⟩
      obtain ⟨r, hr⟩ : ∃ r : Nat, Box (r = L % 16) := ⟨_, ⟨rfl⟩⟩
      have e1 : (L : Int) / (256 : Int) = (p : Int) := by rw [hp.out]; omega
      have e2 : (L : Int) / (16 : Int) = (q : Int) := by rw [hq.out]; omega
      have e3 : bits .and .i64 (q : Int) (15 : Int) = (q2 : Int) := by rw [hq2.out]; exact i15 q (by rw [hq.out]; omega)
      have e4 : bits .and .i64 (L : Int) (15 : Int) = (r : Int) := by rw [hr.out]; exact i15 L (by omega)
      rw [← hq.out, ← hq2.out, ← hp.out, ← hr.out] at hD
      clear hp hq hq2 hr
      go_wp2_with (at_builtin; refine appendI rfl (.tmp 33) (.tmp 41) rfl w.heap.size _ (2 * 32) (hds hs (2 * 32)) rfl (hown.out.alloc _) ⟨wr.heap.size, 0, none⟩ 3 3 [p, q2, r] rfl rfl (news_new wr 3 [p, q2, r]) (by omega) (by simp; omega) ?_; intro v2 w2 own2 gr2)
      have hb2 : Below w.heap.size w w2 := (hb.alloc hz _).grown gr2 (by simp; omega) (fun k e => (World.ownsRow.lt hown.out k e).1)
      rw [← hD.out] at own2
      have own2' := Box.mk own2
      clear own2 gr2 hown hb
      go_wp2
      go_ret
      exact ⟨_, rfl, own2'.out, hb2⟩
theorem digits_any (hs : List (BitVec 8)) (w : World) (hl : hs.length = 32) :
    Calls Tryd.prog 8 #[.agg (hs.map V).toArray] w fun e w' => ∃ sp c b, e = .returned (.slice sp 67 c) ∧ Is w' sp b 0 (dig hs) ∧ w.heap.size ≤ b ∧ Below w.heap.size w w' := by
  refine (digits_own hs w hl).mono ?_
  rintro e w' ⟨v, rfl, ho, hb⟩
  obtain ⟨g, sp, c, rfl, hs, hg⟩ := own_is ho
  exact ⟨sp, c, g, by rw [dig_len], hs, hg (by omega), hb⟩
end Go.Proofs.YthnaomkkaodbkaaDoor
