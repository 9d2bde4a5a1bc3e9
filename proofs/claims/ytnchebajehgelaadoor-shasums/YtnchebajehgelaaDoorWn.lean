/- What the reference's Show hands back: the same text as Show. -/
import Derived.Test.YtnchebajehgelaaDoorWm
namespace Go.Proofs.YtnchebajehgelaaDoor
open Go.RowKit
/-- The text of the first k bytes. -/
def rtx (hs : List (BitVec 8)) : Nat → List (BitVec 8)
  | 0 => []
  | k + 1 => rtx hs k ++ [dgt ((hs.getD k 0).toNat / 16), dgt ((hs.getD k 0).toNat % 16)]
theorem rtx_len (hs : List (BitVec 8)) (k : Nat) : (rtx hs k).length = 2 * k := by
  induction k with
  | zero => rfl
  | succ k ih => simp [rtx, ih]; omega
theorem Tryd.under24 : Tryd.prog.underlying 24 = some (.array 32 5) := by kernel_rfl
theorem Tryd.info5 : (Tryd.prog.info? 5).map (fun i => (i.zero, i.size, i.bytes)) = some (some (.int .u8 0), 1, 1) := by kernel_rfl
def hiB (x : BitVec 8) : BitVec 8 := BitVec.ofNat 8 (x.toNat / 16)
def loB (x : BitVec 8) : BitVec 8 := BitVec.ofNat 8 (x.toNat % 16)
theorem hiB_v (x : BitVec 8) : bv x / (16 : Int) = bv (hiB x) := by unfold hiB; rw [bv_lit]; unfold bv; have := x.isLt; omega
theorem loB_v (x : BitVec 8) : bv x % (16 : Int) = bv (loB x) := by unfold loB; rw [bv_lit]; unfold bv; omega
theorem dgt_ge (n : Nat) (h : n < 16) : 48 ≤ (dgt n).toNat := by
  unfold dgt
  split <;> rw [BitVec.toNat_ofNat] <;> omega
theorem rtx_ge (hs : List (BitVec 8)) (k : Nat) : ∀ t ∈ rtx hs k, 48 ≤ t.toNat := by
  induction k with
  | zero => intro t ht; cases ht
  | succ k ih =>
    intro t ht
    rw [rtx, List.mem_append] at ht
    rcases ht with ht | ht
    · exact ih t ht
    · simp only [List.mem_cons, List.not_mem_nil, or_false] at ht
      have := (hs.getD k 0).isLt
      rcases ht with rfl | rfl
      · exact dgt_ge _ (by omega)
      · exact dgt_ge _ (by omega)
theorem own_ne {w : World} {base bk n : Nat} {v : Value} {ts : List (BitVec 8)} {h0 : BitVec 8} {r : List (BitVec 8)} (hown : w.ownsRow base 5 1 v n (ts.map V)) (hb : HasV w bk 5 (h0 :: r)) (hn : 0 < n) (hts : ∀ t ∈ ts, 48 ≤ t.toNat) (h16 : h0.toNat < 16) : v.ownBlock ≠ some bk := by
  obtain ⟨hl, h⟩ := hown
  rcases h with ⟨_, h⟩ | ⟨g, cap, cur, rfl, _, hg, _, _, _, ht⟩
  · omega
  · intro e
    simp only [Value.ownBlock, Option.some.injEq] at e
    subst e
    unfold HasV at hb
    rw [hg] at hb
    simp only [Option.some.injEq, Obj.cells.injEq] at hb
    rw [hb.1] at ht
    cases ts with
    | nil => simp at hl; omega
    | cons t0 ts' =>
      have e0 := congrArg (·[0]?) ht
      simp [show 0 < n by omega, V] at e0
      have := hts t0 (by simp)
      unfold bv at e0
      omega
theorem news_one {w : World} {a : Addr} {v : Value} (h : w.cell? a = some v) : ∀ (j : Nat) (u : Value), [v][j]? = some u → w.cell? (a.add j) = some u := by
  intro j u hj
  match j, hj with
  | 0, hj =>
    simp only [List.getElem?_cons_zero, Option.some.injEq] at hj
    subst hj
    simpa [Addr.add] using h
theorem cell_new1 (w : World) (v : Value) (T : TypeId) : (w.alloc (.cells #[v] T)).cell? ⟨w.heap.size, 0, none⟩ = some v := by
  rw [cell_of_row _ _ _ _ T _ (heap_alloc_new _ _)]; rfl
theorem one_int (k : IntKind) (n : Int) : ∀ u ∈ [Value.int k n], u.oneCell' = true := by
  intro u hu
  simp only [List.mem_cons, List.not_mem_nil, or_false] at hu
  subst hu; rfl
theorem dgt_lo (d : BitVec 8) (h : bv d < 10) : (48 : Int) + bv d = bv (dgt d.toNat) := by
  unfold bv at *
  unfold dgt
  rw [if_pos (by omega), BitVec.toNat_ofNat]
  omega
theorem dgt_hi (d : BitVec 8) (h : ¬ bv d < 10) (h2 : bv d < 16) : (97 : Int) + bv d - 10 = bv (dgt d.toNat) := by
  unfold bv at *
  unfold dgt
  rw [if_neg (by omega), BitVec.toNat_ofNat]
  omega
set_option maxHeartbeats 400000 in
theorem rshow_any (hs : List (BitVec 8)) (w : World) (hl : hs.length = 32) :
    Calls Tryd.prog 19 #[.agg (hs.map V).toArray] w fun e w' => e = .returned (.string (strOfNums ((rtx hs 32).map bv))) ∧ Below w.heap.size w w' := by
  obtain ⟨i0, hi, hz0, hz1, hz2⟩ := info_parts Tryd.info5
  go_enter Tryd.func19, Tryd.ntmps19
  go_upto_region 1 with fail
  refine code_any (fun w1 => HasV w1 w.heap.size 24 hs ∧ Below w.heap.size w w1) ?_ ?_
  · exact ⟨heap_alloc_new _ _, (Below.refl _ _).alloc (Nat.le_refl _) _⟩
  rintro w1 ⟨hv1, hb1⟩
  go_wp2
  go_loopw [3, 4] (fun v i wr => ∃ k : Nat, k ≤ 32 ∧ i = .int .i64 k ∧ wr.ownsRow (w.heap.size + 1) 5 1 v (2 * k) ((rtx hs k).map V) ∧ HasV wr w.heap.size 24 hs ∧ Below w.heap.size w wr) (fun _ i _ => 32 - (intOf i).toNat)
  case atStart => exact ⟨0, by omega, rfl, World.ownsRow_nil _ _ _ _, hv1, hb1⟩
  case round =>
    clear hv1 hb1
    obtain ⟨k, hk, rfl, hown, hv, hb⟩ := hrel
    by_cases hlt : k < 32
    · have hdec : decide ((k : Int) < 32) = true := by simp; omega
      have c0 := hv.cell k (by omega)
      obtain ⟨x, hxe⟩ : ∃ x, Box (hs.getD k 0 = x) := ⟨_, ⟨rfl⟩⟩
      rw [hxe.out] at c0
      have hx := bv_range x
      have hR : Box (rtx hs (k + 1) = rtx hs k ++ [dgt (x.toNat / 16), dgt (x.toNat % 16)]) := ⟨by rw [rtx, hxe.out]⟩
      have hlt3 := hown.lt
      have hvl := hv.lt
      have hW : ∃ wx, wx = (wr.alloc (Obj.cells #[Value.int IntKind.u8 (bv x / 16), Value.int IntKind.u8 (bv x % 16)] 5)).drew ∧ wx.ownsRow (w.heap.size + 1) 5 1 u3 (2 * k) ((rtx hs k).map V) ∧ HasV wx wr.heap.size 5 [hiB x, loB x] ∧ HasV wx w.heap.size 24 hs ∧ Below w.heap.size w wx := by
        refine ⟨_, rfl, (hown.alloc _).drew, ?_, (hv.alloc _).drew, (hb.alloc hb.size _).drew⟩
        rw [hiB_v, loB_v]
        exact heap_alloc_new _ _
      obtain ⟨wx, hwx, hown2, hbk2, hv2, hb2⟩ := hW
      have hwx' : Box (wx = _) := ⟨hwx⟩
      have hnb : Box (u3.ownBlock ≠ some wr.heap.size) := ⟨fun e => by have := hlt3 _ e; omega⟩
      clear hwx hlt3
      go_wp2
      go_region
      go_wp2
      rw [← hwx'.out]
      clear hwx' hown hv hb c0
      generalize wr.heap.size = bk at hbk2 hnb hvl ⊢
      obtain ⟨wo, hwo⟩ : ∃ wo : World, wo = wr := ⟨_, rfl⟩
      clear hwo
      go_loopw [3, 21] (fun v j wi => ∃ m : Nat, m ≤ 2 ∧ j = .int .i64 m ∧ wi.ownsRow (w.heap.size + 1) 5 1 v (2 * k + m) ((rtx hs k ++ [dgt (x.toNat / 16), dgt (x.toNat % 16)].take m).map V) ∧ v.ownBlock ≠ some bk ∧ HasV wi bk 5 [hiB x, loB x] ∧ HasV wi w.heap.size 24 hs ∧ Below w.heap.size w wi) (fun _ j _ => 2 - (intOf j).toNat)
      case atStart => exact ⟨0, by omega, rfl, by simpa using hown2, hnb.out, hbk2, hv2, hb2⟩
      case round =>
        clear hown2 hbk2 hv2 hb2 hnb
        obtain ⟨m, hm, rfl, hown, hnb, hbk, hv, hb⟩ := hrel
        by_cases hm2 : m < 2
        · have cm := hbk.cell m (by simpa using hm2)
          have hd : bv ([hiB x, loB x].getD m 0) < 16 ∧ 0 ≤ bv ([hiB x, loB x].getD m 0) := by
            obtain rfl | rfl : m = 0 ∨ m = 1 := by omega
            · simp only [List.getD_cons_zero]; rw [← hiB_v]; omega
            · simp only [List.getD_cons_succ, List.getD_cons_zero]; rw [← loB_v]; omega
          have hT : Box ([dgt (x.toNat / 16), dgt (x.toNat % 16)].take (m + 1) = [dgt (x.toNat / 16), dgt (x.toNat % 16)].take m ++ [dgt ([hiB x, loB x].getD m 0).toNat]) := ⟨by
            have := x.isLt
            obtain rfl | rfl : m = 0 ∨ m = 1 := by omega
            · simp [hiB]; congr 1; omega
            · simp [loB]; congr 1; omega⟩
          generalize [hiB x, loB x].getD m 0 = dd at cm hd hT
          have hown' : Box (wr.ownsRow (w.heap.size + 1) 5 1 u3 (2 * k + m) ((rtx hs k ++ [dgt (x.toNat / 16), dgt (x.toNat % 16)].take m).map V)) := ⟨hown⟩
          have hnb' : u3.ownBlock = some bk → False := hnb
          clear hown hnb
          by_cases h10 : bv dd < 10
          · go_wp2_with (at_builtin; refine wpList_append_own _ rfl (.tmp 27) (.tmp 30) 22 rfl (w.heap.size + 1) 5 i0 (.int .u8 0) 1 1 Tryd.under22 hi hz0 hz1 hz2 rfl (by decide) u3 (2 * k + m) _ rfl (hown'.out.alloc _) ⟨wr.heap.size, 0, none⟩ 1 1 [.int .u8 (48 + bv dd)] rfl rfl (news_one (cell_new1 _ _ _)) (one_int _ _) (by unfold maxLen; omega) (by omega) (by have := hb.size; simp; omega) ?_)
            intro v' w3 hown3 hgrow _
            have hown4 : Box (w3.ownsRow (w.heap.size + 1) 5 1 v' (2 * k + (m + 1)) ((rtx hs k ++ [dgt (x.toNat / 16), dgt (x.toNat % 16)].take (m + 1)).map V)) := ⟨by
              rw [hT.out, ← Nat.add_assoc]
              simp only [List.map_append, List.map_take, List.map_cons, List.map_nil]
              rw [dgt_lo dd h10] at hown3
              exact hown3⟩
            have hbl := hbk.lt
            have hbk3 : HasV w3 bk 5 [hiB x, loB x] := by
              have := hgrow.block bk (by simp; omega) (fun e => hnb' (e.symm))
              unfold HasV at hbk ⊢
              rw [this, Below.heap_alloc wr _ bk hbl]; exact hbk
            have hv3 : HasV w3 w.heap.size 24 hs := by
              have hvl2 := hv.lt
              have := hgrow.block w.heap.size (by simp; omega) (fun e => by have := hown'.out.lt _ e.symm; omega)
              unfold HasV at hv ⊢
              rw [this, Below.heap_alloc wr _ _ hvl2]; exact hv
            have hb3 : Below w.heap.size w w3 := (hb.alloc hb.size _).grown hgrow (by have := hb.size; simp; omega) (fun g e => by have := hown'.out.lt _ e; omega)
            have hnb3 : v'.ownBlock ≠ some bk := own_ne hown4.out hbk3 (by omega) (by
              intro t ht
              rw [List.mem_append] at ht
              rcases ht with ht | ht
              · exact rtx_ge hs k t ht
              · have ht2 := List.mem_of_mem_take ht
                simp only [List.mem_cons, List.not_mem_nil, or_false] at ht2
                have := x.isLt
                rcases ht2 with rfl | rfl
                · exact dgt_ge _ (by omega)
                · exact dgt_ge _ (by omega)) (by unfold hiB; have := x.isLt; rw [BitVec.toNat_ofNat]; omega)
            have hnb4 : Box (v'.ownBlock ≠ some bk) := ⟨hnb3⟩
            clear hown3 hgrow hnb3 hown' hbk hv hb cm hnb'
            go_wp2
            go_roundw
            case rel => exact ⟨m + 1, by omega, by go_num, hown4.out, hnb4.out, hbk3, hv3, hb3⟩
            case measure => simp [intOf]; omega
          · go_wp2_with (at_builtin; refine wpList_append_own _ rfl (.tmp 32) (.tmp 36) 22 rfl (w.heap.size + 1) 5 i0 (.int .u8 0) 1 1 Tryd.under22 hi hz0 hz1 hz2 rfl (by decide) u3 (2 * k + m) _ rfl (hown'.out.alloc _) ⟨wr.heap.size, 0, none⟩ 1 1 [.int .u8 (97 + bv dd - 10)] rfl rfl (news_one (cell_new1 _ _ _)) (one_int _ _) (by unfold maxLen; omega) (by omega) (by have := hb.size; simp; omega) ?_)
            intro v' w3 hown3 hgrow _
            have hown4 : Box (w3.ownsRow (w.heap.size + 1) 5 1 v' (2 * k + (m + 1)) ((rtx hs k ++ [dgt (x.toNat / 16), dgt (x.toNat % 16)].take (m + 1)).map V)) := ⟨by
              rw [hT.out, ← Nat.add_assoc]
              simp only [List.map_append, List.map_take, List.map_cons, List.map_nil]
              rw [dgt_hi dd (by omega) (by omega)] at hown3
              exact hown3⟩
            have hbl := hbk.lt
            have hbk3 : HasV w3 bk 5 [hiB x, loB x] := by
              have := hgrow.block bk (by simp; omega) (fun e => hnb' (e.symm))
              unfold HasV at hbk ⊢
              rw [this, Below.heap_alloc wr _ bk hbl]; exact hbk
            have hv3 : HasV w3 w.heap.size 24 hs := by
              have hvl2 := hv.lt
              have := hgrow.block w.heap.size (by simp; omega) (fun e => by have := hown'.out.lt _ e.symm; omega)
              unfold HasV at hv ⊢
              rw [this, Below.heap_alloc wr _ _ hvl2]; exact hv
            have hb3 : Below w.heap.size w w3 := (hb.alloc hb.size _).grown hgrow (by have := hb.size; simp; omega) (fun g e => by have := hown'.out.lt _ e; omega)
            have hnb3 : v'.ownBlock ≠ some bk := own_ne hown4.out hbk3 (by omega) (by
              intro t ht
              rw [List.mem_append] at ht
              rcases ht with ht | ht
              · exact rtx_ge hs k t ht
              · have ht2 := List.mem_of_mem_take ht
                simp only [List.mem_cons, List.not_mem_nil, or_false] at ht2
                have := x.isLt
                rcases ht2 with rfl | rfl
                · exact dgt_ge _ (by omega)
                · exact dgt_ge _ (by omega)) (by unfold hiB; have := x.isLt; rw [BitVec.toNat_ofNat]; omega)
            have hnb4 : Box (v'.ownBlock ≠ some bk) := ⟨hnb3⟩
            clear hown3 hgrow hnb3 hown' hbk hv hb cm hnb'
            go_wp2
            go_roundw
            case rel => exact ⟨m + 1, by omega, by go_num, hown4.out, hnb4.out, hbk3, hv3, hb3⟩
            case measure => simp [intOf]; omega
        · have hm2' : Box (m = 2) := ⟨by omega⟩
          have hown' : Box (wr.ownsRow (w.heap.size + 1) 5 1 u3 (2 * (k + 1)) ((rtx hs (k + 1)).map V)) := ⟨by
            have e := hm2'.out
            subst e
            rw [hR.out, show 2 * (k + 1) = 2 * k + 2 by omega]
            exact hown⟩
          clear hown hnb hbk
          go_wp2
          go_roundw
          case rel => exact ⟨k + 1, by omega, by go_num, hown'.out, hv, hb⟩
          case measure => simp [intOf]; omega
    · have hk32 : Box (k = 32) := ⟨by omega⟩
      have hst : ∃ g c, u3 = .slice (some ⟨g, 0, none⟩) 64 c ∧ ∀ i, i < 64 → wr.cell? ⟨g, 0 + i, none⟩ = some (.int .u8 (((rtx hs 32).map bv).getD i 0)) := by
        have e := hk32.out
        subst e
        obtain ⟨hl2, h⟩ := hown
        rcases h with ⟨_, h⟩ | ⟨g, cap, cur, e1, _, hg, hnc, _, hcs, ht⟩
        · omega
        · refine ⟨g, cap, e1, fun i hi => ?_⟩
          rw [Nat.zero_add, cell_of_row _ _ _ _ _ _ hg]
          have e2 := congrArg (·[i]?) ht
          have hir : i < (rtx hs 32).length := by rw [rtx_len]; omega
          simp [show i < 64 by omega, hir] at e2
          simp [e2, hir, V]
      obtain ⟨g, c, e3, hcell⟩ := hst
      have hcv := run_convert_bytes_arg (P := Tryd.prog) wr 22 5 Tryd.under22 Tryd.under5 g 0 64 c ((rtx hs 32).map bv) (by rw [List.length_map, rtx_len]) hcell 9 Tryd.under9
      rw [e3]
      clear hcell hown hv e3
      go_wp2
      go_ret
      exact ⟨rfl, hb⟩
/-- The two texts are one. -/
theorem txt_eq (hs : List (BitVec 8)) : ∀ k, k ≤ 32 → txt hs k = rtx hs k ++ SZ.drop (2 * k) := by
  intro k
  induction k with
  | zero => intro _; rfl
  | succ k ih =>
    intro hk
    have hl := rtx_len hs k
    have hsz : SZ.length = 64 := rfl
    rw [txt, ih (by omega), rtx, List.set_append_right _ _ (by omega), hl, show 2 * k - 2 * k = 0 by omega]
    rw [List.drop_eq_getElem_cons (show 2 * k < SZ.length by omega), List.set_cons_zero, List.set_append_right _ _ (by omega), hl, show 2 * k + 1 - 2 * k = 1 by omega]
    rw [List.set_cons_succ, List.drop_eq_getElem_cons (show 2 * k + 1 < SZ.length by omega), List.set_cons_zero, show 2 * (k + 1) = 2 * k + 1 + 1 by omega]
    simp only [List.append_assoc, List.cons_append, List.nil_append]
theorem txt_rtx (hs : List (BitVec 8)) : txt hs 32 = rtx hs 32 := by
  rw [txt_eq hs 32 (by omega)]
  have : SZ.drop (2 * 32) = [] := rfl
  rw [this, List.append_nil]
end Go.Proofs.YtnchebajehgelaaDoor
