/- What the reference's Digits hands back: the same 67 digits. -/
import Derived.Test.YthnaomkkaodbkaaDoorUb
namespace Go.Proofs.YthnaomkkaodbkaaDoor
open Go.RowKit
theorem Tryd.under22 : Tryd.prog.underlying 22 = some (.array 32 5) := by kernel_rfl
/-- The last three, k of them told. -/
def tl (L : Nat) : List Nat := [L / 256, L / 16 % 16, L % 16]
/-- What it divides by in round m. -/
def KK : Nat → Nat
  | 0 => 256
  | 1 => 16
  | 2 => 1
  | _ => 0
/-- What is left in round m. -/
def LL (L : Nat) : Nat → Nat
  | 0 => L
  | 1 => L % 256
  | 2 => L % 256 % 16
  | _ => 0
theorem KK_step (m : Nat) (h : m < 3) : 1 ≤ KK m ∧ KK m ≤ 256 ∧ KK (m + 1) = KK m / 16 := by
  rcases m with _ | _ | _ | m
  · decide
  · decide
  · decide
  · omega
theorem LL_le (L m : Nat) (h : L ≤ 960) : LL L m ≤ 960 := by
  rcases m with _ | _ | _ | m <;> simp only [LL] <;> omega
theorem LL_next (L m : Nat) (h : m < 3) : LL L (m + 1) = LL L m % KK m := by
  rcases m with _ | _ | _ | m
  · rfl
  · rfl
  · simp [LL, KK, Nat.mod_one]
  · omega
theorem tl_step (L m : Nat) (h : m < 3) : (tl L).take (m + 1) = (tl L).take m ++ [LL L m / KK m] := by
  rcases m with _ | _ | _ | m
  · rfl
  · simp [tl, LL, KK]; omega
  · simp [tl, LL, KK]
  · omega
theorem own_base {w : World} {base base' n s : Nat} {e : TypeId} {v : Value} {xs : List Value} (h : w.ownsRow base e s v n xs) (hb : base' ≤ base) : w.ownsRow base' e s v n xs :=
  ⟨h.1, h.2.imp id fun ⟨g, cap, cur, h1, h2, h3⟩ => ⟨g, cap, cur, h1, Nat.le_trans hb h2, h3⟩⟩
theorem hasV_grown {w w' : World} {g : Nat} {T : TypeId} {xs : List (BitVec 8)} {row : Option Nat} (h : HasV w g T xs) (hg : w.grownBy w' row) (hr : some g ≠ row) : HasV w' g T xs := by
  have := hg.block g h.lt hr
  unfold HasV at *
  rw [this]; exact h
set_option maxHeartbeats 400000 in
theorem ref_own (hs : List (BitVec 8)) (w : World) (hl : hs.length = 32) :
    Calls Tryd.prog 9 #[.agg (hs.map V).toArray] w fun e w' => ∃ v, e = .returned v ∧ w'.ownsRow w.heap.size 3 1 v 67 ((dig hs).map Nv) ∧ Below w.heap.size w w' := by
  go_enter Tryd.func9, Tryd.ntmps9
  go_upto_region 3 with fail
  refine code_any (fun w1 => HasV w1 w.heap.size 22 hs ∧ Below (w.heap.size + 1) w1 w1 ∧ Below w.heap.size w w1) ?_ ?_
  · exact ⟨heap_alloc_new _ _, Below.refl _ _, (Below.refl _ _).alloc (Nat.le_refl _) _⟩
  rintro w1 ⟨hv1, _, hb1⟩
  have hz1 := hv1.lt
  have hown : Box (OwnI w1 (w.heap.size + 1) (.slice none 0 0) 0 []) := ⟨World.ownsRow_nil _ _ _ _⟩
  go_wp2
  go_loopw [3, 4, 5] (fun v L i wr => ∃ k : Nat, k ≤ 64 ∧ i = .int .i64 k ∧ L = .int .i64 ((lef hs k : Nat) : Int) ∧ Box (OwnI wr (w.heap.size + 1) v k (hds hs k)) ∧ Box (HasV wr w.heap.size 22 hs) ∧ Below w.heap.size w wr) (fun _ _ i _ => 64 - (intOf i).toNat)
  case atStart => exact ⟨0, by omega, rfl, rfl, hown, ⟨hv1⟩, hb1⟩
  case round =>
    clear hown hb1 hv1 hz1
    obtain ⟨k, hk, rfl, rfl, hown, hv, hb⟩ := hrel
    have hll := lef_le hs k
    have hz : w.heap.size + 1 ≤ wr.heap.size := hv.out.lt
    by_cases hlt : k < 64
    · obtain ⟨j, hj⟩ : ∃ j : Nat, Box (j = k / 2) := ⟨_, ⟨rfl⟩⟩
      have c0 := hv.out.cell j (by rw [hj.out, hl]; omega)
      have hD := Box.mk (hds_succ hs k)
      have hL : Box (lef hs (k + 1) = lef hs k + (15 - half hs k)) := ⟨rfl⟩
      have hH : Box (half hs k = if k % 2 = 0 then (hs.getD j 0).toNat / 16 else (hs.getD j 0).toNat % 16) := ⟨by rw [hj.out]; rfl⟩
      have h15 := half_le hs k
      generalize lef hs k = L at hll hL ⊢
      generalize half hs k = d at hD hL hH h15
      generalize hs.getD j 0 = x at c0 hH
      have hx := bv_range x
      have hxn : Box (bv x = (x.toNat : Int)) := ⟨rfl⟩
      have ej : (k : Int) / (2 : Int) = (j : Int) := by rw [hj.out]; omega
      have hj32 : j < 32 := by rw [hj.out]; omega
      by_cases hpar : k % 2 = 0
      · have ep : (k : Int) % (2 : Int) = 0 := by omega
        have ed : bv x / (16 : Int) = (d : Int) := by rw [hxn.out, hH.out, if_pos hpar]; omega
        clear hH hj
        go_upto_region 10 with fail
        rw [ed]
        clear ed
        go_wp2_with (at_builtin; refine appendI rfl (.tmp 24) (.tmp 26) rfl (w.heap.size + 1) _ k (hds hs k) rfl (hown.out.alloc _) ⟨wr.heap.size, 0, none⟩ 1 1 [d] rfl rfl (news_new wr 3 [d]) (by omega) (by simp; omega) ?_; intro v2 w2 own2 gr2)
        have hv2 : Box (HasV w2 w.heap.size 22 hs) := ⟨hasV_grown (hv.out.alloc _) gr2 (fun e => by have := (World.ownsRow.lt hown.out _ e.symm).1; omega)⟩
        have hb2 : Below w.heap.size w w2 := (hb.alloc (by omega) _).grown gr2 (by simp; omega) (fun k e => by have := (World.ownsRow.lt hown.out k e).1; omega)
        rw [← hD.out] at own2
        have own2' : Box (OwnI w2 (w.heap.size + 1) v2 (k + 1) (hds hs (k + 1))) := ⟨own2⟩
        clear own2 gr2 hown hb hv c0
        go_wp2
        go_roundw
        case rel => exact ⟨k + 1, by omega, by go_num, by rw [hL.out]; go_num, own2', hv2, hb2⟩
        case measure => simp [intOf]; omega
      · have ep : (k : Int) % (2 : Int) = 1 := by omega
        have ed : bv x % (16 : Int) = (d : Int) := by rw [hxn.out, hH.out, if_neg hpar]; omega
        clear hH hj
        go_upto_region 10 with fail
        rw [ed]
        clear ed
        go_wp2_with (at_builtin; refine appendI rfl (.tmp 24) (.tmp 26) rfl (w.heap.size + 1) _ k (hds hs k) rfl (hown.out.alloc _) ⟨wr.heap.size, 0, none⟩ 1 1 [d] rfl rfl (news_new wr 3 [d]) (by omega) (by simp; omega) ?_; intro v2 w2 own2 gr2)
        have hv2 : Box (HasV w2 w.heap.size 22 hs) := ⟨hasV_grown (hv.out.alloc _) gr2 (fun e => by have := (World.ownsRow.lt hown.out _ e.symm).1; omega)⟩
        have hb2 : Below w.heap.size w w2 := (hb.alloc (by omega) _).grown gr2 (by simp; omega) (fun k e => by have := (World.ownsRow.lt hown.out k e).1; omega)
        rw [← hD.out] at own2
        have own2' : Box (OwnI w2 (w.heap.size + 1) v2 (k + 1) (hds hs (k + 1))) := ⟨own2⟩
        clear own2 gr2 hown hb hv c0
        go_wp2
        go_roundw
        case rel => exact ⟨k + 1, by omega, by go_num, by rw [hL.out]; go_num, own2', hv2, hb2⟩
        case measure => simp [intOf]; omega
    · obtain rfl : k = 64 := by omega
      have hD : Box (dig hs = hds hs 64 ++ tl (lef hs 64)) := ⟨rfl⟩
      generalize lef hs 64 = L at hll hD ⊢
      clear hv
      have hown' : Box (OwnI wr (w.heap.size + 1) u3 (64 + 0) (hds hs 64 ++ (tl L).take 0)) := ⟨by simpa using hown.out⟩
      clear hown
      rw [show ((64 : Nat) : Int) = (64 : Int) from rfl]
      go_wp2
      go_loopw [3, 4, 7] (fun v M i wl => ∃ m : Nat, m ≤ 3 ∧ i = .int .i64 ((KK m : Nat) : Int) ∧ M = .int .i64 ((LL L m : Nat) : Int) ∧ Box (OwnI wl (w.heap.size + 1) v (64 + m) (hds hs 64 ++ (tl L).take m)) ∧ Below w.heap.size w wl ∧ w.heap.size + 1 ≤ wl.heap.size) (fun _ _ i _ => (intOf i).toNat)
      case atStart => exact ⟨0, by omega, rfl, rfl, hown', hb, hz⟩
      case round =>
        clear hown' hb hz
        obtain ⟨m, hm, rfl, rfl, hown, hb, hz⟩ := hrel
        have hq1 := tl_step L m
        by_cases h3 : m < 3
        · obtain ⟨hK1, hK2, hK3⟩ := KK_step m h3
          have hT := Box.mk (hq1 h3)
          clear hq1
          have hLLb : LL L m ≤ 960 := LL_le L m (by omega)
          have hn1 := LL_next L m h3
          generalize LL L m = M at hLLb hT hn1 ⊢
          generalize hK : KK m = K at hK1 hK2 hK3 hT hn1 ⊢
          obtain ⟨q, hq⟩ : ∃ q : Nat, Box (q = M / K) := ⟨_, ⟨rfl⟩⟩
          obtain ⟨r, hr⟩ : ∃ r : Nat, Box (r = M % K) := ⟨_, ⟨rfl⟩⟩
          obtain ⟨K', hK'⟩ : ∃ K' : Nat, Box (K' = K / 16) := ⟨_, ⟨rfl⟩⟩
          have eq : (M : Int) / (K : Int) = (q : Int) := by rw [hq.out]; simp
          have er : (M : Int) % (K : Int) = (r : Int) := by rw [hr.out]; simp
          have eK : (K : Int) / (16 : Int) = (K' : Int) := by rw [hK'.out]; omega
          rw [← hq.out] at hT
          rw [← hr.out] at hn1
          have hq2 : q ≤ 960 := by rw [hq.out]; exact Nat.le_trans (Nat.div_le_self _ _) hLLb
          rw [← hK'.out] at hK3
          have hn1' := Box.mk hn1
          have hK3' := Box.mk hK3
          have hge : (1 : Int) ≤ (K : Int) := by omega
          have hK'' : K' < K := by rw [hK'.out]; omega
          clear hq hr hK' hn1 hK3 hK
          go_wp2_with (at_builtin; refine appendI rfl (.tmp 36) (.tmp 40) rfl (w.heap.size + 1) _ (64 + m) (hds hs 64 ++ (tl L).take m) rfl (hown.out.alloc _) ⟨wr.heap.size, 0, none⟩ 1 1 [q] rfl rfl (news_new wr 3 [q]) (by omega) (by simp; omega) ?_; intro v2 w2 own2 gr2)
          have hb2 : Below w.heap.size w w2 := (hb.alloc (by omega) _).grown gr2 (by simp; omega) (fun k e => by have := (World.ownsRow.lt hown.out k e).1; omega)
          have hz2 : w.heap.size + 1 ≤ w2.heap.size := by have := gr2.size; simp at this; omega
          rw [List.append_assoc, ← hT.out] at own2
          have own2' : Box (OwnI w2 (w.heap.size + 1) v2 (64 + (m + 1)) (hds hs 64 ++ (tl L).take (m + 1))) := ⟨own2⟩
          clear own2 gr2 hown hb hz
          go_wp2
          go_roundw
          case rel => exact ⟨m + 1, by omega, by rw [hK3'.out], by rw [hn1'.out, er], own2', hb2, hz2⟩
          case measure => simp [intOf]; omega
        · obtain rfl : m = 3 := by omega
          have hK0 : KK 3 = 0 := rfl
          rw [hK0]
          have hown' : Box (wr.ownsRow w.heap.size 3 1 u3 67 ((dig hs).map Nv)) := ⟨by rw [hD.out]; exact own_base hown.out (by omega)⟩
          clear hown
          go_wp2
          go_ret
          exact ⟨_, rfl, hown'.out, hb⟩
theorem ref_any (hs : List (BitVec 8)) (w : World) (hl : hs.length = 32) :
    Calls Tryd.prog 9 #[.agg (hs.map V).toArray] w fun e w' => ∃ sp c b, e = .returned (.slice sp 67 c) ∧ Is w' sp b 0 (dig hs) ∧ w.heap.size ≤ b ∧ Below w.heap.size w w' := by
  refine (ref_own hs w hl).mono ?_
  rintro e w' ⟨v, rfl, ho, hb⟩
  obtain ⟨g, sp, c, rfl, hs, hg⟩ := own_is ho
  exact ⟨sp, c, g, by rw [dig_len], hs, hg (by omega), hb⟩
end Go.Proofs.YthnaomkkaodbkaaDoor
