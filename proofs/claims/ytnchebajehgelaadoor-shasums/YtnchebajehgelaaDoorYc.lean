/- What the reference's Sum hands back. -/
import Derived.Test.YtnchebajehgelaaDoorYb
import Derived.Test.YtnchebajehgelaaDoorPu
namespace Go.Proofs.YtnchebajehgelaaDoor
open Go.RowKit
theorem Sl.belowE {w w' : World} {B : Nat} {sp : Option Addr} {m c : Nat} {bs : List (BitVec 8)} {b o : Nat} (h : Sl w sp m c bs b o) (hb : Below B w w') (hB : w.heap.size ≤ B) : Sl w' sp m c bs b o :=
  ⟨h.len, h.cap, h.nil, fun hm => by
    obtain ⟨e, hl, hB'⟩ := h.src hm
    exact ⟨e, Nat.lt_of_lt_of_le hl hb.size, hB'.below hb (Nat.lt_of_lt_of_le hl hB)⟩⟩
theorem Tryd.size24 : (Tryd.prog.info? 24).map (·.size) = some 32 := by kernel_rfl
theorem bv_id8 (x : BitVec 8) : bv x % (256 : Int) = bv x := by have := bv_range x; omega
theorem wl_256w (x : BitVec 64) : IntKind.u64.wrap (wl x * (256 : Int)) = wl (x * 256) := by
  rw [IntKind.wrap_u64]; exact wl_256 x
theorem bv128 : bv 128 = (128 : Int) := rfl
theorem bv00 : bv 0 = (0 : Int) := rfl
theorem hasB_part {w : World} {g : Nat} {A : List (BitVec 8)} (h : HasB w g 0 A) (k : Nat) : HasB w g k ((A.drop k).take 64) := by
  intro i hi
  rw [List.length_take, List.length_drop] at hi
  have := h (k + i) (by omega)
  rw [Nat.zero_add] at this
  rw [this, List.getD_eq_getElem?_getD, List.getD_eq_getElem?_getD, List.getElem?_take_of_lt (by omega), List.getElem?_drop]
theorem hasU_other {w : World} {b ob o : Nat} {v : Value} {xs : List (BitVec 32)} (h : HasU w b xs) (hne : b ≠ ob) : HasU (w.setCell ⟨ob, o, none⟩ v) b xs := by
  have e : (w.setCell ⟨ob, o, none⟩ v).heap[b]? = w.heap[b]? := heap_setCell_other _ _ _ _ hne
  refine ⟨by simpa [World.setCell] using h.1, fun i hi => ?_⟩
  have := h.2 i hi
  rw [World.cell?_of_block (w := w) (a := ⟨b, i, none⟩) e]; exact this
attribute [local go_sem] byt0 byt1 byt2 byt3 wl_top wl_256 wl_256w bv_id8
set_option maxRecDepth 100000 in
set_option maxHeartbeats 2000000 in
theorem refsum_any (ab ao : Nat) (a : Option Addr) (n c : Nat) (bs : List (BitVec 8)) (w : World) (hsl : Sl w a n c bs ab ao) (hlen : n ≤ 600) :
    Calls Tryd.prog 11 #[.slice a n c] w fun e w' => e = .returned (.agg ((shaOf bs).map V).toArray) ∧ Below w.heap.size w w' := by
  obtain ⟨i0, hi, hz0, hz1, hz2⟩ := info_parts Tryd.info5
  have hsl' : Box (Sl w a n c bs ab ao) := ⟨hsl⟩
  have hnl : Box (n = bs.length) := ⟨hsl.len⟩
  clear hsl
  go_enter Tryd.func11, Tryd.ntmps11
  go_wp2_with fail
  refine (numbers_any _).mono ?_
  rintro e w2 ⟨v1, v2, rfl, ho1, ho2, hb2⟩
  obtain ⟨hb8, hc8, rfl, -, -, hU1⟩ := own_has ho1 (by omega)
  obtain ⟨kb, kc, rfl, -, -, hU2⟩ := own_has ho2 (by omega)
  have hU1' : Box (HasU w2 hb8 St.first.list) := ⟨hU1⟩
  have hU2' : Box (HasU w2 kb KN) := ⟨hU2⟩
  have hR2 : Box (HasV w2 w.heap.size 24 (List.replicate 32 0)) := ⟨by
    have h1 : HasV (w.alloc (.cells ((List.replicate 32 (0 : BitVec 8)).map V).toArray 24)) w.heap.size 24 (List.replicate 32 0) := heap_alloc_new _ _
    exact h1.below hb2 (by simp)⟩
  have hB2 : Box (Below w.heap.size w w2) := ⟨((Below.refl _ _).alloc (Nat.le_refl _) _).trans (hb2.mono (by simp))⟩
  have hsl2 : Sl w2 a n c bs ab ao := hsl'.out.belowE hB2.out (Nat.le_refl _)
  have hrl : Box (w.heap.size < w2.heap.size) := ⟨by have := hb2.size; simp at this; omega⟩
  clear ho1 ho2 hU1 hU2 hb2 hsl'
  go_wp2_with (at_builtin; refine append22 rfl (.tmp 15) (.tmp 16) rfl w2.heap.size (.slice none 0 0) 0 [] rfl (World.ownsRow_nil _ _ _ _) a n c bs ab ao rfl hsl2 (by omega) (Nat.le_refl _) ?_)
  intro v3 w3 hown3 hg3
  have hb3 : Below w2.heap.size w2 w3 := (Below.refl _ _).grown hg3 (Nat.le_refl _) (fun g e => by simp [Value.ownBlock] at e)
  try rw [List.nil_append, Nat.zero_add] at hown3
  have hown3' : Box (w3.ownsRow w2.heap.size 5 1 v3 n (bs.map V)) := ⟨hown3⟩
  clear hown3 hg3 hsl2
  go_wp2_with (at_builtin; refine wpList_append_own _ rfl (.tmp 18) (.tmp 19) 22 rfl w2.heap.size 5 i0 (.int .u8 0) 1 1 Tryd.under22 hi hz0 hz1 hz2 rfl (by decide) v3 n _ rfl (hown3'.out.alloc _) ⟨w3.heap.size, 0, none⟩ 1 1 [.int .u8 128] rfl rfl (news_one (cell_new1 _ _ _)) (one_int _ _) (by unfold maxLen; omega) (by omega) (by have := hb3.size; simp; omega) ?_)
  intro v4 w4 hown4 hg4 _
  have hb4 : Below w2.heap.size w2 w4 := (hb3.alloc hb3.size _).grown hg4 (by have := hb3.size; simp; omega) (fun g e => (hown3'.out.lt _ e).1)
  have hown4' : Box (w4.ownsRow w2.heap.size 5 1 v4 (n + 1 + 0) ((bs ++ [128] ++ List.replicate 0 0).map V)) := ⟨by
    rw [List.replicate_zero, List.append_nil, List.map_append]; exact hown4⟩
  clear hown4 hg4 hown3' hb3
  obtain ⟨Z, hZ⟩ : ∃ Z, Box (Z = (119 - n % 64) % 64) := ⟨_, ⟨rfl⟩⟩
  have hZ64 : Z < 64 := by rw [hZ.out]; omega
  go_wp2
  go_loopw [5] (fun v wr => ∃ z : Nat, z ≤ Z ∧ wr.ownsRow w2.heap.size 5 1 v (n + 1 + z) ((bs ++ [128] ++ List.replicate z 0).map V) ∧ Below w2.heap.size w2 wr) (fun v _ => Z + n + 1 - (match v with | .slice _ m _ => m | _ => 0))
  case atStart => exact ⟨0, by omega, hown4'.out, hb4⟩
  case round =>
    clear hown4' hb4
    obtain ⟨z, hz, hown, hb⟩ := hrel
    obtain ⟨sp, cp, rfl, hcp, -⟩ := own_parts hown
    by_cases hzZ : z < Z
    · have hown' : Box (wr.ownsRow w2.heap.size 5 1 (.slice sp (n + 1 + z) cp) (n + 1 + z) ((bs ++ [128] ++ List.replicate z 0).map V)) := ⟨hown⟩
      have hne : ¬ (n + 1 + z) % 64 = 56 := by have := hZ.out; omega
      obtain ⟨N, hN⟩ : ∃ N, Box (N = n + 1 + z) := ⟨_, ⟨rfl⟩⟩
      have hN1 : N ≤ 700 := by rw [hN.out]; omega
      rw [← hN.out] at hown' hne hcp ⊢
      obtain ⟨L, hL⟩ : ∃ L, Box (bs ++ [128] ++ List.replicate z 0 = L) := ⟨_, ⟨rfl⟩⟩
      rw [hL.out] at hown'
      have ht : ((N : Int) % 64 != 56) = true := by rw [bne_iff_ne]; omega
      clear hown hne
      go_wp2_with (at_builtin; refine wpList_append_own _ rfl (.tmp 25) (.tmp 26) 22 rfl w2.heap.size 5 i0 (.int .u8 0) 1 1 Tryd.under22 hi hz0 hz1 hz2 rfl (by decide) (.slice sp N cp) N _ rfl (hown'.out.alloc _) ⟨wr.heap.size, 0, none⟩ 1 1 [.int .u8 0] rfl rfl (news_one (cell_new1 _ _ _)) (one_int _ _) (by unfold maxLen; omega) (by omega) (by have := hb.size; simp; omega) ?_)
      intro v5 w5 hown5 hg5 _
      have hb5 : Below w2.heap.size w2 w5 := (hb.alloc hb.size _).grown hg5 (by have := hb.size; simp; omega) (fun g e => (hown'.out.lt _ e).1)
      have hown6 : Box (w5.ownsRow w2.heap.size 5 1 v5 (n + 1 + (z + 1)) ((bs ++ [128] ++ List.replicate (z + 1) 0).map V)) := ⟨by
        rw [← Nat.add_assoc, ← hN.out, List.replicate_succ', ← List.append_assoc, hL.out, List.map_append]; exact hown5⟩
      obtain ⟨sp5, c5, rfl, -, -⟩ := own_parts hown5
      clear hown5 hg5 hown' hb
      go_wp2
      go_roundw
      case rel => exact ⟨z + 1, by omega, hown6.out, hb5⟩
      case measure => have := hN.out; simp; omega
    · obtain rfl : z = Z := by omega
      obtain ⟨L, hL⟩ : ∃ L, Box (bs ++ [128] ++ List.replicate z 0 = L) := ⟨_, ⟨rfl⟩⟩
      rw [hL.out] at hown
      have hown' : Box (wr.ownsRow w2.heap.size 5 1 (.slice sp (n + 1 + z) cp) (n + 1 + z) (L.map V)) := ⟨hown⟩
      have hpad : Box (bs ++ padOf bs.length = L ++ cbs n 8) := ⟨by rw [padOf_parts, ← hnl.out, ← hZ.out, ← hL.out]; simp⟩
      have heq : (n + 1 + z) % 64 = 56 := by have := hZ.out; omega
      obtain ⟨N, hN⟩ : ∃ N, Box (N = n + 1 + z) := ⟨_, ⟨rfl⟩⟩
      have hN1 : N ≤ 700 := by rw [hN.out]; omega
      rw [← hN.out] at hown' heq hcp ⊢
      have ht : ((N : Int) % 64 != 56) = false := by rw [bne_eq_false_iff_eq]; omega
      have hN56 : Box (N % 64 = 56) := ⟨heq⟩
      clear hown heq hZ hL hN hzZ hz hZ64
      obtain ⟨wo, hwo⟩ : ∃ wo : World, wo = wr := ⟨_, rfl⟩
      subst hwo
      go_wp2
      go_loopw [5, 6, 7] (fun v x i wr => ∃ k : Nat, k ≤ 8 ∧ i = .int .i64 k ∧ x = .int .u64 (wl (cw n k)) ∧ wr.ownsRow w2.heap.size 5 1 v (N + k) ((L ++ cbs n k).map V) ∧ Below w2.heap.size w2 wr) (fun _ _ i _ => 8 - (intOf i).toNat)
      case atStart => exact ⟨0, by omega, rfl, by rw [cw_zero n (by omega)], by rw [cbs, List.append_nil]; exact hown'.out, hb⟩
      case round =>
        clear hown' hb
        obtain ⟨k, hk, rfl, rfl, hown, hb⟩ := hrel
        by_cases hk8 : k < 8
        · have hown' : Box (wr.ownsRow w2.heap.size 5 1 u5 (N + k) ((L ++ cbs n k).map V)) := ⟨hown⟩
          have hcn : Box (cw n (k + 1) = cw n k * 256) := ⟨cw_next n k⟩
          have hct : Box (topb (cw n k) = cb n k) := ⟨cw_top n (by omega) k hk8⟩
          obtain ⟨M, hM⟩ : ∃ M, Box (L ++ cbs n k = M) := ⟨_, ⟨rfl⟩⟩
          have hM2 : Box (L ++ cbs n (k + 1) = M ++ [cb n k]) := ⟨by rw [cbs, ← hM.out]; simp⟩
          rw [hM.out] at hown'
          rw [← hct.out] at hM2
          generalize cw n k = x at hcn hM2 ⊢
          clear hown hct
          go_wp2_with (at_builtin; refine wpList_append_own _ rfl (.tmp 36) (.tmp 40) 22 rfl w2.heap.size 5 i0 (.int .u8 0) 1 1 Tryd.under22 hi hz0 hz1 hz2 rfl (by decide) u5 (N + k) _ rfl (hown'.out.alloc _) ⟨wr.heap.size, 0, none⟩ 1 1 [.int .u8 (bv (topb x))] rfl rfl (news_one (cell_new1 _ _ _)) (one_int _ _) (by unfold maxLen; omega) (by omega) (by have := hb.size; simp; omega) ?_)
          intro v5 w5 hown5 hg5 _
          have hb5 : Below w2.heap.size w2 w5 := (hb.alloc hb.size _).grown hg5 (by have := hb.size; simp; omega) (fun g e => (hown'.out.lt _ e).1)
          have hown6 : Box (w5.ownsRow w2.heap.size 5 1 v5 (N + (k + 1)) ((L ++ cbs n (k + 1)).map V)) := ⟨by
            rw [hM2.out, List.map_append]; exact hown5⟩
          clear hown5 hg5 hown' hb
          go_wp2
          go_roundw
          case rel => exact ⟨k + 1, by omega, by go_num, by rw [hcn.out]; rfl, hown6.out, hb5⟩
          case measure => simp [intOf]; omega
        · obtain rfl : k = 8 := by omega
          obtain ⟨g, sp2, c2, rfl, hSl, -⟩ := own_slice hown
          obtain ⟨rfl, hgl, hBy⟩ := hSl.src (by omega)
          have hc2 := hSl.cap
          have hAl := hSl.len
          obtain ⟨J, hJ⟩ : ∃ J, N + 8 = 64 * J := ⟨(N + 8) / 64, by have := hN56.out; omega⟩
          generalize L ++ cbs n 8 = A at hpad hBy hAl
          have hsha : Box (shaOf bs = hsh (mixs St.first A J) 8) := ⟨by rw [sha_plain, hpad.out, ← hAl, hJ, Nat.mul_div_cancel_left _ (by omega)]⟩
          have hAl' : Box (A.length = 64 * J) := ⟨by rw [← hAl, hJ]⟩
          have hBy' : Box (HasB wr g 0 A) := ⟨hBy⟩
          have hK8 : Box (HasU wr kb KN) := ⟨hU2'.out.below hb hU2'.out.1⟩
          have hH8 : Box (HasU wr hb8 St.first.list) := ⟨hU1'.out.below hb hU1'.out.1⟩
          have hR8 : Box (HasV wr w.heap.size 24 (List.replicate 32 0)) := ⟨hR2.out.below hb hrl.out⟩
          have hB8 : Box (Below w.heap.size w wr) := ⟨hB2.out.trans (hb.mono hB2.out.size)⟩
          have hJ12 : J ≤ 12 := by omega
          rw [hJ] at hc2 ⊢
          clear hown hSl hBy hAl hb hJ hpad
          obtain ⟨wo3, hwo3⟩ : ∃ wo3 : World, wo3 = wr := ⟨_, rfl⟩
          subst hwo3
          go_wp2
          go_loopw [3, 8] (fun v i wr => ∃ j hb hc : Nat, j ≤ J ∧ i = .int .i64 ((64 * j : Nat) : Int) ∧ v = .slice (some ⟨hb, 0, none⟩) 8 hc ∧ HasU wr hb (mixs St.first A j).list ∧ Below wo3.heap.size wo3 wr) (fun _ i _ => 64 * J - (intOf i).toNat)
          case atStart => exact ⟨0, hb8, hc8, by omega, rfl, rfl, hH8.out, Below.refl _ _⟩
          case round =>
            clear hH8
            obtain ⟨j, hb, hc, hj, rfl, rfl, hU, hbw⟩ := hrel
            by_cases hjJ : j < J
            · have hnx : Box (mixs St.first A (j + 1) = mix (mixs St.first A j) ((A.drop (64 * j)).take 64)) := ⟨rfl⟩
              have hl64 : Box (((A.drop (64 * j)).take 64).length = 64) := ⟨by rw [List.length_take, List.length_drop, hAl'.out]; omega⟩
              have hBj : Box (HasB wr g (64 * j) ((A.drop (64 * j)).take 64)) := ⟨hasB_part (hBy'.out.below hbw hgl) (64 * j)⟩
              have hKj : Box (HasU wr kb KN) := ⟨hK8.out.below hbw hK8.out.1⟩
              have hUj : Box (HasU wr hb (mixs St.first A j).list) := ⟨hU⟩
              have hglj : g < wr.heap.size := Nat.lt_of_lt_of_le hgl hbw.size
              generalize (A.drop (64 * j)).take 64 = blk at hnx hl64 hBj
              generalize mixs St.first A j = st at hnx hUj hU
              clear hU
              go_wp2_with (go_at_call 22; refine (one_any st blk hl64.out hb hc kb kc g (64 * j) _ wr hUj.out hKj.out hBj.out hglj).mono ?_; rintro e w6 ⟨g6, c6, rfl, hg6, hU6, hb6⟩)
              go_roundw
              case rel =>
                repeat apply Exists.intro
                refine And.intro ?_ rfl
                exact ⟨j + 1, g6, c6, by omega, by go_num, rfl, by rw [hnx.out]; exact hU6, hbw.trans (hb6.mono hbw.size)⟩
              case measure => simp [intOf]; omega
            · obtain rfl : j = J := by omega
              have hUe : Box (HasU wr hb (mixs St.first A j).list) := ⟨hU⟩
              have hrl3 : w.heap.size < wo3.heap.size := (Array.getElem?_eq_some_iff.1 hR8.out).1
              have hR9 : Box (HasV wr w.heap.size 24 (List.replicate 32 0)) := ⟨hR8.out.below hbw hrl3⟩
              have hB9 : Box (Below w.heap.size w wr) := ⟨hB8.out.trans (hbw.mono hB8.out.size)⟩
              have hrl9 : w.heap.size < wr.heap.size := Nat.lt_of_lt_of_le hrl3 hbw.size
              generalize mixs St.first A j = st at hsha hUe hU
              clear hU hbw hrl3
              go_upto_region 18 with fail
              refine code_any (fun w7 => HasV w7 wr.heap.size 24 (oth st 0) ∧ HasV w7 w.heap.size 24 (List.replicate 32 0) ∧ HasU w7 hb st.list ∧ Below w.heap.size w w7) ?_ ?_
              · exact ⟨heap_alloc_new _ _, hR9.out.below (B := wr.heap.size) (Below.alloc (Below.refl _ _) (Nat.le_refl _) _) hrl9, hUe.out.below (B := wr.heap.size) (Below.alloc (Below.refl _ _) (Nat.le_refl _) _) hUe.out.1, Below.alloc hB9.out hB9.out.size _⟩
              rintro w7 ⟨hO7, hR7, hU7, hB7⟩
              have hneo : hb ≠ wr.heap.size := by have := hUe.out.1; omega
              clear hR9 hB9 hUe
              generalize wr.heap.size = ob at hO7 hneo hrl9 ⊢
              obtain ⟨wo9, hwo9⟩ : ∃ wo9 : World, wo9 = wr := ⟨_, rfl⟩
              subst hwo9
              go_wp2
              go_loopw [10] (fun i wr => ∃ k : Nat, k ≤ 32 ∧ i = .int .i64 k ∧ HasV wr ob 24 (oth st k) ∧ HasV wr w.heap.size 24 (List.replicate 32 0) ∧ HasU wr hb st.list ∧ Below w.heap.size w wr) (fun i _ => 32 - (intOf i).toNat)
              case atStart => exact ⟨0, by omega, rfl, hO7, hR7, hU7, hB7⟩
              case round =>
                clear hO7 hR7 hU7 hB7
                obtain ⟨k, hk, rfl, hO, hR, hUs, hB⟩ := hrel
                by_cases hk32 : k < 32
                · obtain ⟨q, hq, hkq⟩ : ∃ q, q < 8 ∧ (k = 4 * q ∨ k = 4 * q + 1 ∨ k = 4 * q + 2 ∨ k = 4 * q + 3) := ⟨k / 4, by omega, by omega⟩
                  rcases hkq with rfl | rfl | rfl | rfl
                  · have HR : Box (HasV (wr.setCell ⟨ob, 4 * q, none⟩ (.int .u8 (bv (byt (st.list.getD q 0) 0)))) ob 24 (oth st (4 * q + 1))) := ⟨by
                      have h1 := hO.set (4 * q) (byt (st.list.getD q 0) 0)
                      rw [oth, show (4 * q) / 4 = q by omega, show (4 * q) % 4 = 0 by omega]; exact h1⟩
                    have cx := hUs.2 q (by simpa [St.list] using hq)
                    have c0 := hO.cell (4 * q) (by rw [oth_len]; omega)
                    have f0 := hO.frozen (4 * q)
                    have hR' : Box (HasV (wr.setCell ⟨ob, 4 * q, none⟩ (.int .u8 (bv (byt (st.list.getD q 0) 0)))) w.heap.size 24 (List.replicate 32 0)) := ⟨hR.other _ _ (by simp; omega)⟩
                    have hB' : Box (Below w.heap.size w (wr.setCell ⟨ob, 4 * q, none⟩ (.int .u8 (bv (byt (st.list.getD q 0) 0))))) := ⟨hB.setCell (by simp; omega) _⟩
                    have hU' : Box (HasU (wr.setCell ⟨ob, 4 * q, none⟩ (.int .u8 (bv (byt (st.list.getD q 0) 0)))) hb st.list) := ⟨hasU_other hUs hneo⟩
                    have hd1 : (4 * (q : Int)) / 4 = (q : Int) := by omega
                    have hd2 : (4 * (q : Int)).tdiv 4 = (q : Int) := by rw [Int.tdiv_eq_ediv_of_nonneg (by omega)]; omega
                    have hm1 : (4 * (q : Int)) % 4 = 0 := by omega
                    have hm2 : (4 * (q : Int)).tmod 4 = 0 := by rw [Int.tmod_eq_emod_of_nonneg (by omega)]; omega
                    have hq8 : (q : Int) < 8 := by omega
                    generalize st.list.getD q 0 = x at cx HR hR' hB' hU'
                    generalize (oth st (4 * q)).getD (4 * q) 0 = y at c0
                    clear hO hR hUs hB
                    go_wp2
                    go_roundw
                    case rel =>
                      first | exact ⟨4 * q + 1, by omega, by go_num, HR.out, hR'.out, hU'.out, hB'.out⟩ | (repeat apply Exists.intro; refine And.intro ?_ rfl; exact ⟨4 * q + 1, by omega, by go_num, HR.out, hR'.out, hU'.out, hB'.out⟩)
                    case measure => simp [intOf]; omega
                  · have HR : Box (HasV (wr.setCell ⟨ob, 4 * q + 1, none⟩ (.int .u8 (bv (byt (st.list.getD q 0) 1)))) ob 24 (oth st (4 * q + 1 + 1))) := ⟨by
                      have h1 := hO.set (4 * q + 1) (byt (st.list.getD q 0) 1)
                      rw [oth, show (4 * q + 1) / 4 = q by omega, show (4 * q + 1) % 4 = 1 by omega]; exact h1⟩
                    have cx := hUs.2 q (by simpa [St.list] using hq)
                    have c0 := hO.cell (4 * q + 1) (by rw [oth_len]; omega)
                    have f0 := hO.frozen (4 * q + 1)
                    have hR' : Box (HasV (wr.setCell ⟨ob, 4 * q + 1, none⟩ (.int .u8 (bv (byt (st.list.getD q 0) 1)))) w.heap.size 24 (List.replicate 32 0)) := ⟨hR.other _ _ (by simp; omega)⟩
                    have hB' : Box (Below w.heap.size w (wr.setCell ⟨ob, 4 * q + 1, none⟩ (.int .u8 (bv (byt (st.list.getD q 0) 1))))) := ⟨hB.setCell (by simp; omega) _⟩
                    have hU' : Box (HasU (wr.setCell ⟨ob, 4 * q + 1, none⟩ (.int .u8 (bv (byt (st.list.getD q 0) 1)))) hb st.list) := ⟨hasU_other hUs hneo⟩
                    have hd1 : (4 * (q : Int) + 1) / 4 = (q : Int) := by omega
                    have hd2 : (4 * (q : Int) + 1).tdiv 4 = (q : Int) := by rw [Int.tdiv_eq_ediv_of_nonneg (by omega)]; omega
                    have hm1 : (4 * (q : Int) + 1) % 4 = 1 := by omega
                    have hm2 : (4 * (q : Int) + 1).tmod 4 = 1 := by rw [Int.tmod_eq_emod_of_nonneg (by omega)]; omega
                    have hq8 : (q : Int) < 8 := by omega
                    generalize st.list.getD q 0 = x at cx HR hR' hB' hU'
                    generalize (oth st (4 * q + 1)).getD (4 * q + 1) 0 = y at c0
                    clear hO hR hUs hB
                    go_wp2
                    go_roundw
                    case rel =>
                      first | exact ⟨4 * q + 1 + 1, by omega, by go_num, HR.out, hR'.out, hU'.out, hB'.out⟩ | (repeat apply Exists.intro; refine And.intro ?_ rfl; exact ⟨4 * q + 1 + 1, by omega, by go_num, HR.out, hR'.out, hU'.out, hB'.out⟩)
                    case measure => simp [intOf]; omega
                  · have HR : Box (HasV (wr.setCell ⟨ob, 4 * q + 2, none⟩ (.int .u8 (bv (byt (st.list.getD q 0) 2)))) ob 24 (oth st (4 * q + 2 + 1))) := ⟨by
                      have h1 := hO.set (4 * q + 2) (byt (st.list.getD q 0) 2)
                      rw [oth, show (4 * q + 2) / 4 = q by omega, show (4 * q + 2) % 4 = 2 by omega]; exact h1⟩
                    have cx := hUs.2 q (by simpa [St.list] using hq)
                    have c0 := hO.cell (4 * q + 2) (by rw [oth_len]; omega)
                    have f0 := hO.frozen (4 * q + 2)
                    have hR' : Box (HasV (wr.setCell ⟨ob, 4 * q + 2, none⟩ (.int .u8 (bv (byt (st.list.getD q 0) 2)))) w.heap.size 24 (List.replicate 32 0)) := ⟨hR.other _ _ (by simp; omega)⟩
                    have hB' : Box (Below w.heap.size w (wr.setCell ⟨ob, 4 * q + 2, none⟩ (.int .u8 (bv (byt (st.list.getD q 0) 2))))) := ⟨hB.setCell (by simp; omega) _⟩
                    have hU' : Box (HasU (wr.setCell ⟨ob, 4 * q + 2, none⟩ (.int .u8 (bv (byt (st.list.getD q 0) 2)))) hb st.list) := ⟨hasU_other hUs hneo⟩
                    have hd1 : (4 * (q : Int) + 2) / 4 = (q : Int) := by omega
                    have hd2 : (4 * (q : Int) + 2).tdiv 4 = (q : Int) := by rw [Int.tdiv_eq_ediv_of_nonneg (by omega)]; omega
                    have hm1 : (4 * (q : Int) + 2) % 4 = 2 := by omega
                    have hm2 : (4 * (q : Int) + 2).tmod 4 = 2 := by rw [Int.tmod_eq_emod_of_nonneg (by omega)]; omega
                    have hq8 : (q : Int) < 8 := by omega
                    generalize st.list.getD q 0 = x at cx HR hR' hB' hU'
                    generalize (oth st (4 * q + 2)).getD (4 * q + 2) 0 = y at c0
                    clear hO hR hUs hB
                    go_wp2
                    go_roundw
                    case rel =>
                      first | exact ⟨4 * q + 2 + 1, by omega, by go_num, HR.out, hR'.out, hU'.out, hB'.out⟩ | (repeat apply Exists.intro; refine And.intro ?_ rfl; exact ⟨4 * q + 2 + 1, by omega, by go_num, HR.out, hR'.out, hU'.out, hB'.out⟩)
                    case measure => simp [intOf]; omega
                  · have HR : Box (HasV (wr.setCell ⟨ob, 4 * q + 3, none⟩ (.int .u8 (bv (byt (st.list.getD q 0) 3)))) ob 24 (oth st (4 * q + 3 + 1))) := ⟨by
                      have h1 := hO.set (4 * q + 3) (byt (st.list.getD q 0) 3)
                      rw [oth, show (4 * q + 3) / 4 = q by omega, show (4 * q + 3) % 4 = 3 by omega]; exact h1⟩
                    have cx := hUs.2 q (by simpa [St.list] using hq)
                    have c0 := hO.cell (4 * q + 3) (by rw [oth_len]; omega)
                    have f0 := hO.frozen (4 * q + 3)
                    have hR' : Box (HasV (wr.setCell ⟨ob, 4 * q + 3, none⟩ (.int .u8 (bv (byt (st.list.getD q 0) 3)))) w.heap.size 24 (List.replicate 32 0)) := ⟨hR.other _ _ (by simp; omega)⟩
                    have hB' : Box (Below w.heap.size w (wr.setCell ⟨ob, 4 * q + 3, none⟩ (.int .u8 (bv (byt (st.list.getD q 0) 3))))) := ⟨hB.setCell (by simp; omega) _⟩
                    have hU' : Box (HasU (wr.setCell ⟨ob, 4 * q + 3, none⟩ (.int .u8 (bv (byt (st.list.getD q 0) 3)))) hb st.list) := ⟨hasU_other hUs hneo⟩
                    have hd1 : (4 * (q : Int) + 3) / 4 = (q : Int) := by omega
                    have hd2 : (4 * (q : Int) + 3).tdiv 4 = (q : Int) := by rw [Int.tdiv_eq_ediv_of_nonneg (by omega)]; omega
                    have hm1 : (4 * (q : Int) + 3) % 4 = 3 := by omega
                    have hm2 : (4 * (q : Int) + 3).tmod 4 = 3 := by rw [Int.tmod_eq_emod_of_nonneg (by omega)]; omega
                    have hq8 : (q : Int) < 8 := by omega
                    generalize st.list.getD q 0 = x at cx HR hR' hB' hU'
                    generalize (oth st (4 * q + 3)).getD (4 * q + 3) 0 = y at c0
                    clear hO hR hUs hB
                    go_wp2
                    go_roundw
                    case rel =>
                      first | exact ⟨4 * q + 3 + 1, by omega, by go_num, HR.out, hR'.out, hU'.out, hB'.out⟩ | (repeat apply Exists.intro; refine And.intro ?_ rfl; exact ⟨4 * q + 3 + 1, by omega, by go_num, HR.out, hR'.out, hU'.out, hB'.out⟩)
                    case measure => simp [intOf]; omega
                · obtain rfl : k = 32 := by omega
                  have hO' : wr.heap[ob]? = some (.cells ((hsh st 8).map V).toArray 24 (0, 0)) := by
                    have e := oth_four st 8
                    rw [← e]; exact hO
                  have hR' : wr.heap[w.heap.size]? = some (.cells ((List.replicate 32 (0 : BitVec 8)).map V).toArray 24 (0, 0)) := hR
                  have hl : Box (((hsh st 8).map V).toArray.size = 32) := ⟨by simp [hsh_len]⟩
                  have hz : Box (((List.replicate 32 (0 : BitVec 8)).map V).toArray.size = 32) := ⟨by simp⟩
                  generalize hsh st 8 = H at hO' hl hsha
                  generalize ((List.replicate 32 (0 : BitVec 8)).map V).toArray = ZR at hR' hz
                  clear hO hR hUs
                  go_wp2_with (first | (refine wpList_load_row rfl 24 (.tmp 9) rfl ob rfl 24 _ (0, 0) _ hO' Tryd.under24 rfl (by rw [hl.out]; exact Tryd.size24) ?_) | (refine wpList_store_row rfl 24 (.tmp 2) (.tmp 75) rfl w.heap.size (H.map V).toArray rfl rfl 24 _ hR' (by rw [hl.out]; exact Tryd.size24) (by rw [hl.out, hz.out]) (V_all _) ?_))
                  refine bodyPost_ret (v := .agg ((shaOf bs).map V).toArray) ?_ rfl ⟨rfl, ?_⟩
                  · rw [hsha.out]
                    exact results_cell_row (P := Tryd.prog) (fn := Tryd.f11) (p := 2) (ty := 24) rfl _ _ w.heap.size 24 _ (0, 0) _ rfl (setRow_heap _ _ _ _ 24 (0, 0) hR') Tryd.under24 rfl (by rw [hl.out]; exact Tryd.size24)
                  · exact hB.trans (below_setRow _ _ _ _ (Nat.le_refl _))
end Go.Proofs.YtnchebajehgelaaDoor
