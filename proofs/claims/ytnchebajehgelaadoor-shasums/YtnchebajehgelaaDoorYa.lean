/- What the reference's Numbers hands back. -/
import Derived.Test.YtnchebajehgelaaDoorWz
namespace Go.Proofs.YtnchebajehgelaaDoor
open Go.RowKit
theorem Tryd.under46 : Tryd.prog.underlying 46 = some (.slice 52) := by kernel_rfl
theorem Tryd.info52 : (Tryd.prog.info? 52).map (fun i => (i.zero, i.size, i.bytes)) = some (some (.int .u32 0), 1, 4) := by kernel_rfl
theorem own_belowE {w w' : World} {base n B : Nat} {e : TypeId} {v : Value} {xs : List Value} (h : w.ownsRow base e 1 v n xs) (hb : Below B w w') (hlt : w.heap.size ≤ B) : w'.ownsRow base e 1 v n xs := by
  obtain ⟨hl, h⟩ := h
  refine ⟨hl, ?_⟩
  rcases h with h | ⟨g, cap, cur, rfl, hbg, hg, h⟩
  · exact .inl h
  · exact .inr ⟨g, cap, cur, rfl, hbg, by rw [hb.block g (Nat.lt_of_lt_of_le (Array.getElem?_eq_some_iff.1 hg).1 hlt)]; exact hg, h⟩
/-- Rows of different types lie apart. -/
theorem own_apartT {w : World} {b1 b2 n1 n2 : Nat} {e1 e2 : TypeId} {v1 v2 : Value} {xs ys : List Value} (h1 : w.ownsRow b1 e1 1 v1 n1 xs) (h2 : w.ownsRow b2 e2 1 v2 n2 ys) (hne : e1 ≠ e2) : v1.ownBlock = none ∨ v1.ownBlock ≠ v2.ownBlock := by
  rcases h1.2 with ⟨rfl, _⟩ | ⟨g, cap, cur, rfl, _, hg, _⟩
  · exact .inl rfl
  · right
    rcases h2.2 with ⟨rfl, _⟩ | ⟨g', cap', cur', rfl, _, hg', _⟩
    · simp [Value.ownBlock]
    · intro e
      simp only [Value.ownBlock, Option.some.injEq] at e
      subst e
      rw [hg] at hg'
      simp at hg'
      exact hne hg'.2
/-- Rows that begin otherwise lie apart. -/
theorem own_apartH {w : World} {b1 b2 n1 n2 : Nat} {e1 e2 : TypeId} {v1 v2 : Value} {xs ys : List Value} (h1 : w.ownsRow b1 e1 1 v1 n1 xs) (h2 : w.ownsRow b2 e2 1 v2 n2 ys) (hx : ∀ x y, xs[0]? = some x → ys[0]? = some y → x ≠ y) (h0 : xs = [] → v1 = .slice none 0 0) (h0' : ys = [] → v2 = .slice none 0 0) : v1.ownBlock = none ∨ v1.ownBlock ≠ v2.ownBlock := by
  cases hv1 : v1.ownBlock with
  | none => exact .inl rfl
  | some g =>
    right
    intro e
    have c1 := h1.cells hv1
    have c2 := h2.cells e.symm
    cases xs with
    | nil => rw [h0 rfl] at hv1; simp [Value.ownBlock] at hv1
    | cons x xs =>
      cases ys with
      | nil => rw [h0' rfl] at e; simp [Value.ownBlock] at e
      | cons y ys =>
        have a1 := c1 0 x rfl
        have a2 := c2 0 y rfl
        rw [a1] at a2
        exact hx x y rfl rfl (Option.some.inj a2)
theorem root_nat (q n : Nat) (hn : n ≤ 3) (hq : q < 18446744073709551616) (w : World) :
    Calls Tryd.prog 30 #[.int .u64 (q : Int), .int .i64 n] w fun e w' => e = .returned (.int .u32 (vl (rtW q n))) ∧ Below w.heap.size w w' := by
  have h := root_any (BitVec.ofNat 64 q) n hn w
  have e1 : (BitVec.ofNat 64 q).toNat = q := by rw [BitVec.toNat_ofNat]; omega
  rw [rt_w _ _ hn, e1, show wl (BitVec.ofNat 64 q) = (q : Int) by unfold wl; rw [e1]] at h
  exact h
def hl (i : Nat) : List (BitVec 32) := (prims.take (min i 8)).map (rtW · 2)
def kl (i : Nat) : List (BitVec 32) := (prims.take i).map (rtW · 3)
theorem prims_len : prims.length = 64 := rfl
theorem hl_len (i : Nat) : (hl i).length = min i 8 := by unfold hl; simp [prims_len]; try omega
theorem kl_len (i : Nat) (h : i ≤ 64) : (kl i).length = i := by unfold kl; simp [prims_len]; try omega
theorem hl_next {i q : Nat} (h : i < 8) (hq : prims[i]? = some q) : hl (i + 1) = hl i ++ [rtW q 2] := by
  unfold hl; rw [show min (i + 1) 8 = i + 1 by omega, show min i 8 = i by omega, List.take_add_one, hq]; simp
theorem hl_stay {i : Nat} (h : ¬ i < 8) : hl (i + 1) = hl i := by
  unfold hl; rw [show min (i + 1) 8 = 8 by omega, show min i 8 = 8 by omega]
theorem kl_next {i q : Nat} (hq : prims[i]? = some q) : kl (i + 1) = kl i ++ [rtW q 3] := by
  unfold kl; rw [List.take_add_one, hq]; simp
theorem hl_end : hl 64 = St.first.list := roots2
theorem kl_end : kl 64 = KN := by rw [← roots3]; unfold kl; rw [List.take_of_length_le (by rw [prims_len]; exact Nat.le_refl _)]
theorem prims_small : ∀ q ∈ prims, q < 1000 := by decide
theorem head_ne (i i' : Nat) : ∀ x y, ((hl i).map U)[0]? = some x → ((kl i').map U)[0]? = some y → x ≠ y := by
  intro x y hx hy
  have e1 : x = U (rtW 2 2) := by
    unfold hl at hx
    cases h : min i 8 with
    | zero => rw [h] at hx; simp at hx
    | succ m => rw [h] at hx; simp [prims] at hx; exact hx.symm
  have e2 : y = U (rtW 2 3) := by
    unfold kl at hy
    cases i' with
    | zero => simp at hy
    | succ m => simp [prims] at hy; exact hy.symm
  have hne : rtW 2 2 ≠ rtW 2 3 := by decide +kernel
  generalize rtW 2 2 = a at hne e1
  generalize rtW 2 3 = b at hne e2
  subst e1 e2
  intro e
  apply hne
  apply BitVec.eq_of_toNat_eq
  simp only [U, vl, Value.int.injEq, true_and] at e
  exact_mod_cast e
structure NumS (w wr : World) (i : Nat) (v1 v2 vp : Value) : Prop where
  own1 : wr.ownsRow w.heap.size 52 1 v1 (min i 8) ((hl i).map U)
  own2 : wr.ownsRow w.heap.size 52 1 v2 i ((kl i).map U)
  nil1 : i = 0 → v1 = .slice none 0 0
  nil2 : i = 0 → v2 = .slice none 0 0
  ownp : wr.ownsRow w.heap.size 49 1 vp 64 (prims.map P64)
  below : Below w.heap.size w wr
theorem prime_cell {wr : World} {base gp cp k q : Nat} (h : wr.ownsRow base 49 1 (.slice (some ⟨gp, 0, none⟩) 64 cp) 64 (prims.map P64)) (hq : prims[k]? = some q) : wr.cell? ⟨gp, k, none⟩ = some (.int .u64 (q : Int)) := by
  obtain ⟨sp, c, e, _, hc⟩ := own_parts h
  obtain ⟨g, rfl, _, _, hc⟩ := hc (by omega)
  simp only [Value.slice.injEq, Option.some.injEq, Addr.mk.injEq, and_true] at e
  obtain ⟨rfl, -⟩ := e
  exact hc k _ (by rw [List.getElem?_map, hq]; rfl)
theorem numS_one {w wr w2 w3 : World} {k q : Nat} {v1 v2 vp v' : Value} {o : Obj} (h : NumS w wr k v1 v2 vp) (h8 : k < 8) (hq : prims[k]? = some q) (hb : Below wr.heap.size wr w2)
    (ho : w3.ownsRow w.heap.size 52 1 v' (min k 8 + 1) ((hl k).map U ++ [.int .u32 (vl (rtW q 2))])) (hg : (w2.alloc o).grownBy w3 v1.ownBlock) :
    w3.ownsRow w.heap.size 52 1 v' (min (k + 1) 8) ((hl (k + 1)).map U) ∧ w3.ownsRow w.heap.size 52 1 v2 k ((kl k).map U) ∧ w3.ownsRow w.heap.size 49 1 vp 64 (prims.map P64) ∧ Below w.heap.size w w3 := by
  have h1 := (own_belowE h.own1 hb (Nat.le_refl _)).alloc o
  have h2 := (own_belowE h.own2 hb (Nat.le_refl _)).alloc o
  have hp := (own_belowE h.ownp hb (Nat.le_refl _)).alloc o
  have hl1 := hl_len k
  have hl2 := kl_len k (by omega)
  refine ⟨?_, h2.kept hg ?_, hp.kept hg (own_apartT hp h1 (by decide)), ?_⟩
  · rw [hl_next h8 hq, show min (k + 1) 8 = min k 8 + 1 by omega, List.map_append]; exact ho
  · refine own_apartH h2 h1 (fun x y hx hy => (head_ne k k y x hy hx).symm) (fun e => h.nil2 ?_) (fun e => h.nil1 ?_)
    · have := congrArg List.length e; rw [List.length_map, List.length_nil] at this; omega
    · have := congrArg List.length e; rw [List.length_map, List.length_nil] at this; omega
  · exact ((h.below.trans (hb.mono h.below.size)).alloc (Nat.le_trans h.below.size hb.size) o).grown hg (by have := h.below.size; have := hb.size; simp; omega) (fun g e => (h1.lt g e).1)
theorem numS_two {w wr w2 w3 : World} {k q : Nat} {v1 v2 vp v' : Value} {o : Obj} (h1' : wr.ownsRow w.heap.size 52 1 v1 (min (k + 1) 8) ((hl (k + 1)).map U)) (h2' : wr.ownsRow w.heap.size 52 1 v2 k ((kl k).map U)) (hp' : wr.ownsRow w.heap.size 49 1 vp 64 (prims.map P64)) (hbel : Below w.heap.size w wr) (hk : k < 64) (hn : k = 0 → v2 = .slice none 0 0) (hq : prims[k]? = some q) (hb : Below wr.heap.size wr w2)
    (ho : w3.ownsRow w.heap.size 52 1 v' (k + 1) ((kl k).map U ++ [.int .u32 (vl (rtW q 3))])) (hg : (w2.alloc o).grownBy w3 v2.ownBlock) :
    NumS w w3 (k + 1) v1 v' vp := by
  have h1 := (own_belowE h1' hb (Nat.le_refl _)).alloc o
  have h2 := (own_belowE h2' hb (Nat.le_refl _)).alloc o
  have hp := (own_belowE hp' hb (Nat.le_refl _)).alloc o
  have hl1 := hl_len (k + 1)
  have hl2 := kl_len k (by omega)
  refine ⟨h1.kept hg ?_, ?_, fun h => absurd h (by omega), fun h => absurd h (by omega), hp.kept hg (own_apartT hp h2 (by decide)), ?_⟩
  · refine own_apartH h1 h2 (head_ne (k + 1) k) (fun e => ?_) (fun e => hn ?_)
    · have := congrArg List.length e; rw [List.length_map, List.length_nil] at this; omega
    · have := congrArg List.length e; rw [List.length_map, List.length_nil] at this; omega
  · rw [kl_next hq, List.map_append]; exact ho
  · exact ((hbel.trans (hb.mono hbel.size)).alloc (Nat.le_trans hbel.size hb.size) o).grown hg (by have := hbel.size; have := hb.size; simp; omega) (fun g e => (h2.lt g e).1)
set_option maxHeartbeats 1000000 in
theorem numbers_any (w : World) :
    Calls Tryd.prog 21 #[] w fun e w' => ∃ v1 v2, e = .returned (.tuple #[v1, v2]) ∧ w'.ownsRow w.heap.size 52 1 v1 8 (St.first.list.map U) ∧ w'.ownsRow w.heap.size 52 1 v2 64 (KN.map U) ∧ Below w.heap.size w w' := by
  obtain ⟨i0, hi, hz0, hz1, hz2⟩ := info_parts Tryd.info52
  go_enter Tryd.func21, Tryd.ntmps21
  go_wp2_with fail
  refine (primes_any w).mono ?_
  rintro e w1 ⟨vp, rfl, hop, hb1⟩
  obtain ⟨sp, cp, rfl, hcp, hcell⟩ := own_parts hop
  obtain ⟨gp, rfl, -, -, -⟩ := hcell (by omega)
  have hop' : Box (w1.ownsRow w.heap.size 49 1 (.slice (some ⟨gp, 0, none⟩) 64 cp) 64 (prims.map P64)) := ⟨hop⟩
  clear hop hcell
  go_wp2
  go_loopw [2, 3, 5] (fun v1 v2 i wr => ∃ k : Nat, k ≤ 64 ∧ i = .int .i64 k ∧ NumS w wr k v1 v2 (.slice (some ⟨gp, 0, none⟩) 64 cp)) (fun _ _ i _ => 64 - (intOf i).toNat)
  case atStart => exact ⟨0, by omega, rfl, ⟨World.ownsRow_nil _ _ _ _, World.ownsRow_nil _ _ _ _, fun _ => rfl, fun _ => rfl, hop'.out, hb1⟩⟩
  case round =>
    clear hb1 hop'
    obtain ⟨k, hk, rfl, hS⟩ := hrel
    by_cases hk64 : k < 64
    · obtain ⟨q, hq⟩ : ∃ q, prims[k]? = some q := ⟨_, List.getElem?_eq_getElem (by rw [prims_len]; exact hk64)⟩
      have hq1000 : q < 1000 := prims_small q (List.mem_of_getElem? hq)
      have hq' : Box (prims[k]? = some q) := ⟨hq⟩
      have hS' : Box (NumS w wr k u2 u3 (.slice (some ⟨gp, 0, none⟩) 64 cp)) := ⟨hS⟩
      have hn2 : Box (k = 0 → u3 = .slice none 0 0) := ⟨hS.nil2⟩
      clear hS hq
      by_cases h8 : k < 8
      · have cq := prime_cell hS'.out.ownp hq'.out
        go_wp2_with (first | (go_at_call 30; refine (root_nat q 2 (by omega) (by omega) _).mono ?_; rintro e w2 ⟨rfl, hb2⟩) | (at_builtin; refine wpList_append_own _ rfl (.tmp 13) (.tmp 19) 46 rfl w.heap.size 52 i0 (.int .u32 0) 1 4 Tryd.under46 hi hz0 hz1 hz2 rfl (by decide) u2 (min k 8) _ rfl ((own_belowE hS'.out.own1 hb2 (Nat.le_refl _)).alloc _) ⟨w2.heap.size, 0, none⟩ 1 1 [.int .u32 (vl (rtW q 2))] rfl rfl (news_one (cell_new1 _ _ _)) (one_int _ _) (by unfold maxLen; omega) (by omega) (by have := hS'.out.below.size; have := hb2.size; simp; omega) ?_))
        intro u2x w3 hown3 hgrow3 _
        have hT := numS_one hS'.out h8 hq'.out hb2 hown3 hgrow3
        have h1 : Box _ := ⟨hT.1⟩
        have h2 : Box _ := ⟨hT.2.1⟩
        have hP : Box _ := ⟨hT.2.2.1⟩
        have hB : Box _ := ⟨hT.2.2.2⟩
        clear hT hown3 hgrow3 hb2 cq hS'
        go_upto_region 8 with fail
        have cq2 := prime_cell hP.out hq'.out
        go_wp2_with (first | (go_at_call 30; refine (root_nat q 3 (by omega) (by omega) _).mono ?_; rintro e w5 ⟨rfl, hb5⟩) | (at_builtin; refine wpList_append_own _ rfl (.tmp 21) (.tmp 27) 46 rfl w.heap.size 52 i0 (.int .u32 0) 1 4 Tryd.under46 hi hz0 hz1 hz2 rfl (by decide) u3 k _ rfl ((own_belowE h2.out hb5 (Nat.le_refl _)).alloc _) ⟨w5.heap.size, 0, none⟩ 1 1 [.int .u32 (vl (rtW q 3))] rfl rfl (news_one (cell_new1 _ _ _)) (one_int _ _) (by unfold maxLen; omega) (by omega) (by have := hB.out.size; have := hb5.size; simp; omega) ?_))
        intro v6 w6 hown6 hgrow6 _
        have hS6 : Box (NumS w w6 (k + 1) u2x v6 (.slice (some ⟨gp, 0, none⟩) 64 cp)) := ⟨numS_two h1.out h2.out hP.out hB.out hk64 hn2.out hq'.out hb5 hown6 hgrow6⟩
        clear hown6 hgrow6 hb5 cq2
        go_wp2
        go_roundw
        case rel => exact ⟨k + 1, by omega, by go_num, hS6.out⟩
        case measure => simp [intOf]; omega
      · have h1 : Box (wr.ownsRow w.heap.size 52 1 u2 (min (k + 1) 8) ((hl (k + 1)).map U)) := ⟨by rw [hl_stay h8, show min (k + 1) 8 = min k 8 by omega]; exact hS'.out.own1⟩
        have h2 : Box _ := ⟨hS'.out.own2⟩
        have hP : Box _ := ⟨hS'.out.ownp⟩
        have hB : Box _ := ⟨hS'.out.below⟩
        clear hS'
        go_upto_region 8 with fail
        have cq2 := prime_cell hP.out hq'.out
        go_wp2_with (first | (go_at_call 30; refine (root_nat q 3 (by omega) (by omega) _).mono ?_; rintro e w5 ⟨rfl, hb5⟩) | (at_builtin; refine wpList_append_own _ rfl (.tmp 21) (.tmp 27) 46 rfl w.heap.size 52 i0 (.int .u32 0) 1 4 Tryd.under46 hi hz0 hz1 hz2 rfl (by decide) u3 k _ rfl ((own_belowE h2.out hb5 (Nat.le_refl _)).alloc _) ⟨w5.heap.size, 0, none⟩ 1 1 [.int .u32 (vl (rtW q 3))] rfl rfl (news_one (cell_new1 _ _ _)) (one_int _ _) (by unfold maxLen; omega) (by omega) (by have := hB.out.size; have := hb5.size; simp; omega) ?_))
        intro v6 w6 hown6 hgrow6 _
        have hS6 : Box (NumS w w6 (k + 1) u2 v6 (.slice (some ⟨gp, 0, none⟩) 64 cp)) := ⟨numS_two h1.out h2.out hP.out hB.out hk64 hn2.out hq'.out hb5 hown6 hgrow6⟩
        clear hown6 hgrow6 hb5 cq2
        go_wp2
        go_roundw
        case rel => exact ⟨k + 1, by omega, by go_num, hS6.out⟩
        case measure => simp [intOf]; omega
    · obtain rfl : k = 64 := by omega
      go_wp2
      go_ret2
      have h1 := hS.own1
      have h2 := hS.own2
      rw [hl_end] at h1
      rw [kl_end] at h2
      exact ⟨_, _, rfl, h1, h2, hS.below⟩
end Go.Proofs.YtnchebajehgelaaDoor
