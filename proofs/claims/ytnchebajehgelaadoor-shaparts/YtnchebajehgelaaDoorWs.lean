/- What the law on parts answers at values in memory: true. -/
import Derived.Test.YtnchebajehgelaaDoorWq
namespace Go.Proofs.YtnchebajehgelaaDoor
open Go.RowKit
/-- Place k of a list of slices of bytes that came in. -/
def Elem (w : World) (lb lo k : Nat) : Prop := ∃ sp m c bs b o, w.cell? ⟨lb, lo + k, none⟩ = some (.slice sp m c) ∧ Sl w sp m c bs b o ∧ m ≤ maxLen
/-- The first m cells of block g are bytes. -/
def RowB (w : World) (g m : Nat) : Prop := ∃ cur, w.heap[g]? = some (.cells cur 5 (0, 0)) ∧ ∀ i, i < m → ∃ x, cur[i]? = some (.int .u8 (bv x))
theorem RowB.cell {w : World} {g m : Nat} (h : RowB w g m) (i : Nat) (hi : i < m) : ∃ x, w.cell? ⟨g, i, none⟩ = some (.int .u8 (bv x)) := by
  obtain ⟨cur, hg, hc⟩ := h
  obtain ⟨x, hx⟩ := hc i hi
  exact ⟨x, by rw [cell_of_row _ _ _ _ _ _ hg]; exact hx⟩
theorem RowB.frozen {w : World} {g m : Nat} (h : RowB w g m) (i : Nat) : w.frozen? ⟨g, i, none⟩ = false := by
  obtain ⟨cur, hg, _⟩ := h
  exact frozen_of_row _ _ _ _ _ hg
theorem RowB.set {w : World} {g m : Nat} (h : RowB w g m) (i : Nat) (y : BitVec 8) : RowB (w.setCell ⟨g, i, none⟩ (.int .u8 (bv y))) g m := by
  obtain ⟨cur, hg, hc⟩ := h
  refine ⟨_, heap_setCell_same w g i cur 5 _ hg, fun j hj => ?_⟩
  obtain ⟨x, hx⟩ := hc j hj
  by_cases e : i = j
  · subst e
    have : i < cur.size := (Array.getElem?_eq_some_iff.1 hx).1
    exact ⟨y, by simp [this]⟩
  · exact ⟨x, by rw [Array.getElem?_setIfInBounds_ne e]; exact hx⟩
theorem row_of_own {w : World} {base n : Nat} {v : Value} {xs : List (BitVec 8)} (h : w.ownsRow base 5 1 v n (xs.map V)) : ∃ g sp c, v = .slice sp n c ∧ Sl w sp n c xs g 0 ∧ (0 < n → base ≤ g ∧ RowB w g n) := by
  obtain ⟨hl, h⟩ := h
  have hn : n = xs.length := by simpa using hl.symm
  rcases h with ⟨rfl, rfl⟩ | ⟨g, cap, cur, rfl, hbg, hg, hnc, _, hcs, ht⟩
  · exact ⟨0, none, 0, rfl, ⟨hn, Nat.le_refl _, fun _ => ⟨rfl, rfl⟩, fun h => absurd h (by omega)⟩, fun h => absurd h (by omega)⟩
  · have hc : ∀ i, i < n → cur[i]? = some (.int .u8 (bv (xs.getD i 0))) := fun i hi => by
      have e2 := congrArg (·[i]?) ht
      simp [hi, show i < xs.length by omega] at e2
      simp [e2, show i < xs.length by omega, V]
    refine ⟨g, some ⟨g, 0, none⟩, cap, rfl, ⟨hn, hnc, fun h => by (cases h), fun _ => ⟨rfl, (Array.getElem?_eq_some_iff.1 hg).1, ?_⟩⟩, fun _ => ⟨hbg, cur, hg, fun i hi => ⟨_, hc i hi⟩⟩⟩
    intro i hi
    rw [Nat.zero_add, cell_of_row _ _ _ _ _ _ hg]
    exact hc i (by omega)
theorem bv_inc (x : BitVec 8) : (bv x + 1) % (256 : Int) = bv (x + 1) := by
  unfold bv
  rw [BitVec.toNat_add]
  simp
theorem bv_incw (x : BitVec 8) : IntKind.u8.wrap (bv x + 1) = bv (x + 1) := by rw [IntKind.wrap_u8', bv_inc]
theorem elem_of {w w' : World} {lb lo k : Nat} (h : Elem w lb lo k) (hb : Below w.heap.size w w') (hl : lb < w.heap.size) : ∃ sp m c bs b o, w'.cell? ⟨lb, lo + k, none⟩ = some (.slice sp m c) ∧ Sl w sp m c bs b o ∧ m ≤ maxLen := by
  obtain ⟨sp, m, c, bs, b, o, h1, h2, h3⟩ := h
  exact ⟨sp, m, c, bs, b, o, by rw [hb.cell (by exact hl)]; exact h1, h2, h3⟩
theorem own_below {w w' : World} {base n B : Nat} {v : Value} {xs : List Value} (h : w.ownsRow base 5 1 v n xs) (hb : Below B w w') (hlt : ∀ k, v.ownBlock = some k → k < B) : w'.ownsRow base 5 1 v n xs := by
  obtain ⟨hl, h⟩ := h
  refine ⟨hl, ?_⟩
  rcases h with h | ⟨g, cap, cur, e, hbg, hg, r⟩
  · exact .inl h
  · exact .inr ⟨g, cap, cur, e, hbg, by rw [hb.block g (hlt g (by rw [e]; rfl))]; exact hg, r⟩
attribute [local go_sem] bv_inc bv_incw
set_option maxHeartbeats 400000 in
theorem parts_any (A : Option Addr) (N C lb lo : Nat) (w : World) (hA : 0 < N → A = some ⟨lb, lo, none⟩ ∧ lb < w.heap.size) (hE : ∀ k, k < N → Elem w lb lo k) (hN : N ≤ 40) (hK : HasK w 0) (h0 : 0 < w.heap.size) :
    Calls Tryd.prog 4 #[.slice A N C] w fun e w' => e = .returned (.bool true) ∧ Below w.heap.size w w' := by
  have hE' : Box (∀ k, k < N → Elem w lb lo k) := ⟨hE⟩
  have hA' : Box (0 < N → A = some ⟨lb, lo, none⟩ ∧ lb < w.heap.size) := ⟨hA⟩
  clear hE hA
  have hd40 : decide ((40 : Int) < (N : Int)) = false := by simp; omega
  go_enter Tryd.func4, Tryd.ntmps4
  go_wp2_with fail
  refine (new_m w).mono ?_
  rintro e w1 ⟨db, rfl, hdb, hM1, hb1⟩
  have z1 := hM1.lt
  go_wp2
  go_loopw [4, 18] (fun v i wr => ∃ k : Nat, k ≤ N ∧ i = .int .i64 k ∧ ∃ ms : List (BitVec 8), ms.length ≤ 500 * k ∧ wr.ownsRow w1.heap.size 5 1 v ms.length (ms.map V) ∧ HasM wr db ms ∧ Below w.heap.size w wr ∧ w1.heap.size ≤ wr.heap.size) (fun _ i _ => N - (intOf i).toNat)
  case atStart => exact ⟨0, by omega, rfl, [], by simp, World.ownsRow_nil _ _ _ _, hM1, hb1, Nat.le_refl _⟩
  case round =>
    clear hM1
    obtain ⟨k, hk, rfl, ms, hml, hown, hM, hb, hzr⟩ := hrel
    by_cases hlt : k < N
    · obtain ⟨rfl, hlb⟩ := hA'.out (by omega)
      obtain ⟨sp, m, c, bs, b, o, hcell, hsl, hmm⟩ := elem_of (hE'.out k hlt) hb hlb
      unfold maxLen at hmm
      have hown' : Box (wr.ownsRow w1.heap.size 5 1 u4 ms.length (ms.map V)) := ⟨hown⟩
      have hsl' : Box (Sl w sp m c bs b o) := ⟨hsl⟩
      have hM' : Box (HasM wr db ms) := ⟨hM⟩
      clear hown hsl hM
      have hdk : decide ((k : Int) < (N : Int)) = true := by simp; omega
      by_cases h500 : 500 < m
      · go_wp2_with fail
        refine (awake_any wr (hK.below hb h0) (by omega)).mono ?_
        rintro e w6 ⟨rfl, hb8⟩
        have hb9 : Below w.heap.size w w6 := hb.trans (hb8.mono hb.size)
        go_wp2
        go_ret
        exact ⟨rfl, hb9⟩
      · have hd500 : decide ((500 : Int) < (m : Int)) = false := by simp; omega
        have Bm : Box (0 < m → b < w.heap.size) := ⟨fun h => (hsl'.out.src h).2.1⟩
        have SA : Box (∀ o', Sl (wr.alloc o') sp m c bs b o) := ⟨fun o' => hsl'.out.below (hb.alloc hb.size o') Bm.out⟩
        have hzw : w.heap.size ≤ wr.heap.size := hb.size
        go_wp2_with (at_builtin; refine append22 rfl (.tmp 26) (.tmp 27) rfl wr.heap.size _ 0 [] rfl (own_empty wr _ (Nat.le_refl _)) sp m c bs b o rfl (SA.out _) (by omega) (by simp) ?_; intro v1 wA ownA grA; have ownA' := cp_own ownA; have bA := cp_belA grA; clear ownA grA)
        obtain ⟨g1, sp1, cp1, ev1, SV, RV⟩ := row_of_own ownA'.out
        rw [ev1]
        have SV' : Box (Sl wA sp1 m cp1 bs g1 0) := ⟨SV⟩
        have RV' : Box (0 < m → wr.heap.size ≤ g1 ∧ RowB wA g1 m) := ⟨RV⟩
        have MA : Box (HasM wA db ms) := ⟨hM'.out.below bA⟩
        have ownB : Box (wA.ownsRow w1.heap.size 5 1 u4 ms.length (ms.map V)) := ⟨hown'.out.kept (row := none) ⟨bA.os, bA.tape, bA.output, bA.size, fun k hk _ => bA.block k hk⟩ (by cases hv : u4.ownBlock with | none => exact .inl rfl | some k => exact .inr (by simp))⟩
        have hzA := bA.size
        have hbA : Below w.heap.size w wA := hb.trans (bA.mono hzw)
        have dlt : db < wr.heap.size := hM'.out.lt
        have olt : Box (∀ k, u4.ownBlock = some k → w1.heap.size ≤ k ∧ k < wr.heap.size) := ⟨hown'.out.lt⟩
        clear ev1 SV RV ownA' bA hM' hown' SA hcell hb
        refine (write_m db g1 0 sp1 m cp1 bs ms wA MA.out (SV'.out.toSrc (fun h => by have := (RV'.out h).1; omega)) (by omega) (hK.below hbA h0) (by omega) (by omega)).mono ?_
        rintro e w2 ⟨rfl, hM2, hO2⟩
        have hz2 := hO2.size
        have RV2 : Box (0 < m → wr.heap.size ≤ g1 ∧ RowB w2 g1 m) := ⟨fun h => by
          obtain ⟨h1, cur, hg, hc⟩ := RV'.out h
          refine ⟨h1, cur, ?_, hc⟩
          rw [hO2.block g1 (Array.getElem?_eq_some_iff.1 hg).1 (by omega)]
          exact hg⟩
        have AD : Box (0 < m → sp1 = some ⟨g1, 0, none⟩) := ⟨fun h => (SV'.out.src h).1⟩
        have ownC : Box (w2.ownsRow w1.heap.size 5 1 u4 ms.length (ms.map V)) := ⟨ownB.out.kept (row := some db) ⟨hO2.os, hO2.tape, hO2.output, hO2.size, fun k hk hne => hO2.block k hk (fun e => hne (by rw [e]))⟩ (by
          cases hv : u4.ownBlock with
          | none => exact .inl rfl
          | some k => exact .inr (fun e => by have := olt.out k hv; have := Option.some.inj e; omega))⟩
        have hb2 : Below w.heap.size w w2 := hbA.trans (hO2.below _ (by omega) hbA.size)
        have M2 : Box (HasM w2 db (ms ++ bs)) := ⟨hM2⟩
        clear hM2 hO2 RV' MA ownB SV' hbA
        go_upto_region 14 with fail
        obtain ⟨wo, hwo⟩ : ∃ wo : Nat, wo = wr.heap.size := ⟨_, rfl⟩
        rw [← hwo] at RV2 olt dlt hzw hzr hzA
        clear hwo
        go_wp2
        go_loopw [34] (fun j wi => ∃ q : Nat, q ≤ m ∧ j = .int .i64 q ∧ (0 < m → wo ≤ g1 ∧ RowB wi g1 m) ∧ Below wo w2 wi) (fun j _ => m - (intOf j).toNat)
        case atStart => exact ⟨0, by omega, rfl, RV2.out, Below.refl _ _⟩
        case round =>
          clear RV2
          obtain ⟨q, hq, rfl, hrow, hbi⟩ := hrel
          by_cases hqm : q < m
          · obtain rfl := AD.out (by omega)
            obtain ⟨hwg, hrb⟩ := hrow (by omega)
            obtain ⟨x, cx⟩ := hrb.cell q hqm
            have fx := hrb.frozen q
            have hdq : decide ((q : Int) < (m : Int)) = true := by simp; omega
            have HR : Box (RowB _ g1 m) := ⟨hrb.set q (x + 1)⟩
            clear hrb hrow
            go_wp2
            go_roundw
            case rel => exact ⟨q + 1, by omega, by go_num, fun _ => ⟨hwg, HR.out⟩, hbi.setCell (by exact hwg) _⟩
            case measure => simp [intOf]; omega
          · go_upto_region 19 with fail
            have hbX : Below w.heap.size w wr := hb2.trans (hbi.mono hzw)
            have ownD : Box (wr.ownsRow w1.heap.size 5 1 u4 ms.length (ms.map V)) := ⟨own_below ownC.out hbi (fun k e => (olt.out k e).2)⟩
            have MI : HasM wr db (ms ++ bs) := M2.out.belowB hbi dlt
            have SI : Box (Sl wr sp m c bs b o) := ⟨hsl'.out.below hbX Bm.out⟩
            have hzX := hbi.size
            have lT : Box (ms.length + m = (ms ++ bs).length) := ⟨by rw [List.length_append, hsl'.out.len]⟩
            clear hrow hbi ownC M2 hb2
            go_wp2_with (at_builtin; refine append22 rfl (.tmp 44) (.tmp 45) rfl w1.heap.size u4 ms.length ms rfl ownD.out sp m c bs b o rfl SI.out (by omega) (by omega) ?_; intro v2 wG ownG grG; have bG := cp_belB (Below.refl w1.heap.size wr) ownD.out grG (Nat.le_refl _) (by omega); have ownG' : Box (wG.ownsRow w1.heap.size 5 1 v2 (ms.length + m) ((ms ++ bs).map V)) := ⟨ownG⟩; clear ownG grG)
            have MG : HasM wG db (ms ++ bs) := MI.belowB bG z1
            have hbG : Below w.heap.size w wG := hbX.trans (bG.mono (by omega))
            have zG := bG.size
            have KG : HasK wG 0 := hK.below hbG h0
            obtain ⟨g2, sp2, cc2, ev2, S2, -⟩ := own_slice ownG'.out
            have ev2' : Box (v2 = .slice sp2 (ms.length + m) cc2) := ⟨ev2⟩
            rw [ev2]
            have S2' : Box (Sl wG sp2 (ms.length + m) cc2 (ms ++ bs) g2 0) := ⟨S2⟩
            clear ev2 S2 bG MI ownD SI hbX AD
            generalize hTT : ms ++ bs = ts at MG S2' ownG' lT
            have hTT' : Box (ms ++ bs = ts) := ⟨hTT⟩
            clear hTT
            refine (dsum_m db ts wG MG (by rw [← lT.out]; omega) KG (by omega)).mono ?_
            rintro e w6 ⟨rfl, hb7⟩
            have M7 : HasM w6 db ts := MG.below hb7
            have K7 : HasK w6 0 := KG.below hb7 (by omega)
            have z7 := hb7.size
            have Q2 : Box (Sl w6 sp2 (ms.length + m) cc2 ts g2 0) := ⟨S2'.out.below hb7 (fun h => (S2'.out.src h).2.1)⟩
            have hbE : Below w.heap.size w w6 := hbG.trans (hb7.mono hbG.size)
            have own7 : Box (w6.ownsRow w1.heap.size 5 1 v2 (ms.length + m) (ts.map V)) := ⟨own_below ownG'.out hb7 (fun k e => (ownG'.out.lt k e).2)⟩
            clear MG KG S2' hb7 hbG ownG'
            go_wp2_with fail
            refine (sum_any g2 0 sp2 (ms.length + m) cc2 ts w6 lT.out Q2.out.cap Q2.out.src (by omega) K7 (by omega)).mono ?_
            rintro e w7 ⟨rfl, hb8⟩
            have M8 : HasM w7 db ts := M7.below hb8
            have K8 : HasK w7 0 := K7.below hb8 (by omega)
            have z8 := hb8.size
            have hbF : Below w.heap.size w w7 := hbE.trans (hb8.mono hbE.size)
            have R2 : Box (Sl w7 sp2 (ms.length + m) cc2 ts g2 0) := ⟨Q2.out.below hb8 (fun h => (Q2.out.src h).2.1)⟩
            have own8 : Box (w7.ownsRow w1.heap.size 5 1 v2 (ms.length + m) (ts.map V)) := ⟨own_below own7.out hb8 (fun k e => (own7.out.lt k e).2)⟩
            have heq := fun w => run_equal25_same w (shaOf ts) (shaOf_len ts)
            clear M7 K7 Q2 hb8 hbE own7
            go_wp2_with fail
            refine (dsum_m db ts w7 M8 (by rw [← lT.out]; omega) K8 (by omega)).mono ?_
            rintro e w8 ⟨rfl, hb9⟩
            have M9 : HasM w8 db ts := M8.below hb9
            have K9 : HasK w8 0 := K8.below hb9 (by omega)
            have z9 := hb9.size
            have hbH : Below w.heap.size w w8 := hbF.trans (hb9.mono hbF.size)
            have P2 : Box (Sl w8 sp2 (ms.length + m) cc2 ts g2 0) := ⟨R2.out.below hb9 (fun h => (R2.out.src h).2.1)⟩
            have own9 : Box (w8.ownsRow w1.heap.size 5 1 v2 (ms.length + m) (ts.map V)) := ⟨own_below own8.out hb9 (fun k e => (own8.out.lt k e).2)⟩
            clear M8 K8 R2 hb9 hbF own8
            go_wp2_with fail
            refine (sum_any g2 0 sp2 (ms.length + m) cc2 ts w8 lT.out P2.out.cap P2.out.src (by omega) K9 (by omega)).mono ?_
            rintro e w9 ⟨rfl, hb10⟩
            have MA : HasM w9 db ts := M9.below hb10
            have z10 := hb10.size
            have hbI : Below w.heap.size w w9 := hbH.trans (hb10.mono hbH.size)
            have ownA : Box (w9.ownsRow w1.heap.size 5 1 v2 (ms.length + m) (ts.map V)) := ⟨own_below own9.out hb10 (fun k e => (own9.out.lt k e).2)⟩
            clear M9 K9 P2 hb10 hbH own9
            go_wp2_with fail
            refine (len_m db ts w9 MA).mono ?_
            rintro e w10 ⟨rfl, rfl⟩
            rw [← lT.out]
            clear heq
            have MA' : Box (HasM w10 db ts) := ⟨MA⟩
            clear MA
            go_wp2
            go_roundw
            case rel =>
              refine ⟨k + 1, by omega, by go_num, ts, by rw [← lT.out]; omega, ?_, MA'.out, hbI, by omega⟩
              rw [← lT.out, ← ev2'.out]
              exact ownA.out
            case measure => simp [intOf]; omega
    · go_wp2_with fail
      refine (awake_any wr (hK.below hb h0) (by omega)).mono ?_
      rintro e w6 ⟨rfl, hb8⟩
      have hb9 : Below w.heap.size w w6 := hb.trans (hb8.mono hb.size)
      go_wp2
      go_ret
      exact ⟨rfl, hb9⟩
set_option maxHeartbeats 400000 in
theorem parts_big (A : Option Addr) (N C : Nat) (w : World) (hN : 40 < N) (hm : N ≤ maxLen) (hK : HasK w 0) (h0 : 0 < w.heap.size) :
    Calls Tryd.prog 4 #[.slice A N C] w fun e w' => e = .returned (.bool true) ∧ Below w.heap.size w w' := by
  unfold maxLen at hm
  go_enter Tryd.func4, Tryd.ntmps4
  go_wp2_with fail
  refine (awake_any w hK h0).mono ?_
  rintro e w6 ⟨rfl, hb8⟩
  go_wp2
  go_ret
  exact ⟨rfl, hb8⟩
theorem parts_all (A : Option Addr) (N C lb lo : Nat) (w : World) (hA : 0 < N → A = some ⟨lb, lo, none⟩ ∧ lb < w.heap.size) (hE : ∀ k, k < N → Elem w lb lo k) (hm : N ≤ maxLen) (hK : HasK w 0) (h0 : 0 < w.heap.size) :
    Calls Tryd.prog 4 #[.slice A N C] w fun e w' => e = .returned (.bool true) ∧ Below w.heap.size w w' := by
  by_cases h : 40 < N
  · exact parts_big A N C w h hm hK h0
  · exact parts_any A N C lb lo w hA hE (by omega) hK h0
end Go.Proofs.YtnchebajehgelaaDoor
