/- The walk of the law on cuts. -/
import Derived.Test.YtkgfcddjjghohaaXe
import Derived.Test.YtkgfcddjjghohaaXd
namespace Go.Proofs.Ytkgfcddjjghohaa
open Go.RowKit
theorem Try.under52 : Try.prog.underlying 52 = some (.slice 3) := by kernel_rfl
theorem Try.info3 : (Try.prog.info? 3).map (fun i => (i.zero, i.size, i.bytes)) = some (some (.int .i64 0), 1, 8) := by kernel_rfl
/-- Where the first k things end, one by one. -/
def endsOf (ts : List Th) (k : Nat) : List Nat := (List.range k).map fun j => (encs (ts.take (j + 1))).length
theorem endsOf_len (ts : List Th) (k : Nat) : (endsOf ts k).length = k := by simp [endsOf]
theorem endsOf_succ (ts : List Th) (k : Nat) : endsOf ts (k + 1) = endsOf ts k ++ [(encs (ts.take (k + 1))).length] := by simp [endsOf, List.range_succ]
theorem twoE_new (w0 w : World) (hb : Below w0.heap.size w0 w) : TwoE w0 (w.alloc (.cells #[.slice none 0 0] 27)) w.heap.size (.slice none 0 0) [] [] :=
  ⟨_, out_new w, World.ownsRow_nil _ _ _ _, hb.alloc hb.size _, hb.size⟩
theorem encs_split (ts : List Th) (k : Nat) : encs ts = encs (ts.take k) ++ encs (ts.drop k) := by
  unfold encs
  rw [← List.flatten_append, ← List.map_append, List.take_append_drop]
/-- The In, ahead of thing q: it has what is left ahead of the cut, or is bad. -/
def Ahead (w0 w : World) (ib : Nat) (ts : List Th) (m q : Nat) : Prop :=
  ((encs (ts.take q)).length ≤ m ∧ Sin w0 w ib ((encs (ts.drop q)).take (m - (encs (ts.take q)).length)) false) ∨ (m < (encs (ts.take q)).length ∧ Sin w0 w ib [] true)
/-- The numbers lie there. -/
def Ends (w : World) (v : Value) (es : List Nat) : Prop := 0 < es.length → ∃ g c, v = .slice (some ⟨g, 0, none⟩) es.length c ∧ g < w.heap.size ∧ ∀ j, j < es.length → w.cell? ⟨g, j, none⟩ = some (I (es.getD j 0))
theorem own_ends {w : World} {base : Nat} {v : Value} {es : List Nat} (h : w.ownsRow base 3 1 v es.length (es.map I)) : Ends w v es := by
  intro hp
  rcases h.2 with ⟨_, h0⟩ | ⟨g, cap, cur, rfl, hbg, hg, hnc, _, hcs, ht⟩
  · omega
  · refine ⟨g, cap, rfl, (Array.getElem?_eq_some_iff.1 hg).1, fun j hj => ?_⟩
    rw [cell_of_row _ _ _ _ _ _ hg]
    have e2 := congrArg (·[j]?) ht
    simp [hj] at e2
    simp [e2, hj]
theorem own_I {w : World} {base k : Nat} {v : Value} {es : List Nat} {z : Nat} (h : w.ownsRow base 3 1 v k (es.map I ++ [I z])) : w.ownsRow base 3 1 v k ((es ++ [z]).map I) := by
  rw [List.map_append]; exact h
theorem own_form {w : World} {base : Nat} {v : Value} {X : List (BitVec 8)} (h : w.ownsRow base 5 1 v X.length (X.map V)) : (v = .slice none 0 0 ∧ X.length = 0) ∨ ∃ gb c, v = .slice (some ⟨gb, 0, none⟩) X.length c ∧ X.length ≤ c ∧ gb < w.heap.size ∧ HasB w gb 0 X := by
  rcases h.2 with ⟨rfl, h0⟩ | ⟨g, cap, cur, rfl, hbg, hg, hnc, _, hcs, ht⟩
  · exact .inl ⟨rfl, h0⟩
  · refine .inr ⟨g, cap, rfl, hnc, (Array.getElem?_eq_some_iff.1 hg).1, fun i hi => ?_⟩
    rw [Nat.zero_add, cell_of_row _ _ _ _ _ _ hg]
    have e2 := congrArg (·[i]?) ht
    simp [hi] at e2
    simp [e2, hi, V]
theorem ahead_whole {w0 w : World} {ib m q : Nat} {ts : List Th} {t : Th} (h : Ahead w0 w ib ts m q) (ht : ts[q]? = some t) (hle : (encs (ts.take (q + 1))).length ≤ m) :
    Sin w0 w ib (t.enc ++ (encs (ts.drop (q + 1))).take (m - (encs (ts.take (q + 1))).length)) false := by
  have e1 := encs_take ts q t ht
  have e2 := encs_drop ts q t ht
  have el : (encs (ts.take (q + 1))).length = (encs (ts.take q)).length + t.enc.length := by rw [e1, List.length_append]
  rcases h with ⟨_, s⟩ | ⟨h, _⟩
  · rw [e2, List.take_append, List.take_of_length_le (by omega), show m - (encs (ts.take q)).length - t.enc.length = m - (encs (ts.take (q + 1))).length by omega] at s
    exact s
  · omega
theorem ahead_dead {w0 w : World} {ib m q : Nat} {ts : List Th} {t : Th} (h : Ahead w0 w ib ts m q) (ht : ts[q]? = some t) (hok : t.ok w0) (hN : t.N ≤ 1000) (hs : t.text.size ≤ 1000) (hle : ¬ (encs (ts.take (q + 1))).length ≤ m) :
    ∃ rest bad, Sin w0 w ib rest bad ∧ Dead t rest bad := by
  have e1 := encs_take ts q t ht
  have e2 := encs_drop ts q t ht
  have el : (encs (ts.take (q + 1))).length = (encs (ts.take q)).length + t.enc.length := by rw [e1, List.length_append]
  rcases h with ⟨h, s⟩ | ⟨_, s⟩
  · rw [e2, List.take_append_of_le_length (by omega)] at s
    exact ⟨_, _, s, dead_cut t _ hok hN hs (by omega)⟩
  · exact ⟨_, _, s, dead_bad t⟩
theorem ends_at (ts : List Th) (n q : Nat) (h : q < n) : (endsOf ts n).getD q 0 = (encs (ts.take (q + 1))).length := by
  simp [endsOf, h]
set_option maxHeartbeats 4000000 in
theorem cuts_small (A : Option Addr) (lb lo c : Nat) (ts : List Th) (cut : Int) (w : World) (hT : Tl w A lb lo ts) (hs : Small ts) (hc1 : -9223372036854775808 ≤ cut) (hc2 : cut ≤ 9223372036854775807) :
    Calls Try.prog 7 #[.slice A ts.length c, .int .i64 cut] w fun e w' => e = .returned (.bool true) ∧ Below w.heap.size w w' := by
  have hfs := Box.mk Try.underlying32
  obtain ⟨i0, hi, hz0, hz1, hz2⟩ := info_parts Try.info3
  have hS := Box.mk (small_two A lb lo c ts w hT (by have := hs.1; omega) hs)
  have hT' := Box.mk hT
  have hs' := Box.mk hs
  have hL := fun k => small_ok (fun i t h => hT.ok i t h) hs k
  obtain ⟨n, hn⟩ : ∃ n, Box (ts.length = n) := ⟨_, ⟨rfl⟩⟩
  have hn40 : n ≤ 40 := by rw [← hn.out]; exact hs.1
  rw [hn.out] at hS ⊢
  clear hT hs
  go_enter Try.func7, Try.ntmps7
  go_wp2_with (go_at_call 8; refine hS.out.mono ?_; rintro e w1 ⟨rfl, b1⟩)
  have t1 := Box.mk (twoE_new w w1 b1)
  clear hS b1
  generalize w1.heap.size = ob at *
  go_loopw [6, 7, 20] (fun v N i wr => ∃ k : Nat, k ≤ n ∧ i = .int .i64 k ∧ N = .int .i64 (((encs (ts.take k)).length : Nat) : Int) ∧ Box (TwoE w wr ob v (encs (ts.take k)) (endsOf ts k))) (fun _ _ i _ => n - (intOf i).toNat)
  case atStart => exact ⟨0, by omega, rfl, rfl, ⟨by simpa [encs, endsOf] using t1.out⟩⟩
  case round =>
    clear t1
    obtain ⟨k, hk, rfl, rfl, h2⟩ := hrel
    by_cases hlt : k < n
    · have hkt : k < ts.length := by rw [hn.out]; exact hlt
      obtain ⟨rfl, hlw⟩ := hT'.out.src (by omega)
      obtain ⟨t, ht⟩ : ∃ t, ts[k]? = some t := ⟨_, List.getElem?_eq_getElem hkt⟩
      obtain ⟨_, hlow⟩ : ∃ x : Unit, Below w.heap.size w wr := by obtain ⟨v0, _, _, h4, _⟩ := h2.out; exact ⟨(), h4⟩
      have hol : ob < wr.heap.size := by obtain ⟨v0, h1, _⟩ := h2.out; exact h1.lt
      have hrg := Box.mk (range_below (hT'.out.row k t ht) hlow hlw)
      have hok := hT'.out.ok k t ht
      have hsm := hs'.out.2 t (List.mem_of_getElem? ht)
      have hlen := Th.len hok.hl
      have hsz : Box (t.cells.toArray.size = 37) := ⟨by simp [hlen]⟩
      have hz37 : Box (z37.toArray.size = 37) := ⟨by simp [z37, z32]⟩
      have hE := Box.mk (encs_take ts k t ht)
      have hEs := Box.mk (endsOf_succ ts k)
      have hEl := endsOf_len ts k
      have hLk := (hL k).1
      have hLe := (hL (k + 1)).1
      have hNn : Box ((encs (ts.take (k + 1))).length = (encs (ts.take k)).length + t.enc.length) := ⟨by rw [hE.out, List.length_append]⟩
      rw [hNn.out] at hLe hEs
      generalize encs (ts.take k) = E at *
      generalize endsOf ts k = es at *
      obtain ⟨EL, hEL⟩ : ∃ EL, Box (E.length = EL) := ⟨_, ⟨rfl⟩⟩
      obtain ⟨TL, hTL⟩ : ∃ TL, Box (t.enc.length = TL) := ⟨_, ⟨rfl⟩⟩
      rw [hEL.out] at hLk hLe hNn hEs ⊢
      rw [hTL.out] at hLe hNn hEs
      go_upto_region 9 with (first | (refine wpList_load_mid rfl 32 (.tmp 22) rfl lb (lo + k * 37) rfl t.cells _ hrg.out hfs.out rfl (by rw [hlen]; exact Try.size32) ?_) | (refine wpList_store_row rfl 32 (.tmp 9) (.tmp 23) rfl wr.heap.size t.cells.toArray rfl rfl 32 z37.toArray (heap_alloc_new _ _) (by rw [hsz.out]; exact Try.size32) (by rw [hsz.out, hz37.out]) (all_oneCell_toArray t.one) ?_))
      go_frame
      refine code_any (fun w5 => HasT w5 wr.heap.size t ∧ Below wr.heap.size wr w5) ?_ ?_
      · exact ⟨setRow_heap _ _ _ _ 32 (0, 0) (heap_alloc_new _ _), below_setRow2 ((Below.refl _ _).alloc (Nat.le_refl _) _) (Nat.le_refl _) _⟩
      rintro w5 ⟨hv5, hb5⟩
      have r5 := Box.mk hv5.range
      have hP := Box.mk (put_twoE (h2.out.grow hb5) (by rw [hEL.out]; omega) hok (by omega) (by omega) hv5 (by omega) (fun v0 hv0 e => by
        obtain ⟨v1, k1, _⟩ := h2.out
        have e1 := (k1.below hb5).1
        rw [hv0.1] at e1
        simp at e1
        rw [e1] at e
        have := k1.2.lt _ e
        omega))
      have hQ : ∀ w6, Box (TwoE w w6 ob u6 (E ++ t.enc) es) → Box (Calls Try.prog 11 #[.agg t.cells.toArray] w6 fun e w' => ∃ a c, e = .returned (.slice a TL c) ∧ Box (TwoE w w' ob u6 (E ++ t.enc) es)) := fun w6 h6 => ⟨by
        have := bytes_twoE h6.out hok (by omega) (by omega)
        rw [hTL.out] at this
        exact this⟩
      have e9 : Box ((es ++ [EL + TL]).map I = es.map I ++ [.int .i64 ((EL : Int) + TL)]) := ⟨by rw [List.map_append]; simp [I]⟩
      clear hv5 hb5 hrg h2 hlow
      go_wp2_with (first | (go_at_call 10; refine hP.out.mono ?_; rintro e w6 ⟨rfl, r6, h6⟩; have r6' := Box.mk r6; clear r6) | (go_at_call 11; refine (hQ _ h6).out.mono ?_; rintro e w7 ⟨a7, c7, rfl, h7⟩) | (refine wpList_load_mid rfl 32 (.tmp 9) rfl wr.heap.size 0 rfl t.cells _ (by first | exact r5.out | exact r6'.out) hfs.out rfl (by rw [hlen]; exact Try.size32) ?_) | (at_builtin; have h7t := h7.out; obtain ⟨v0, k1, k2, _⟩ := h7t; refine wpList_append_own _ rfl (.tmp 31) (.tmp 33) 52 rfl (ob + 1) 3 i0 (.int .i64 0) 1 8 Try.under52 hi hz0 hz1 hz2 rfl (by decide) u6 es.length (es.map I) rfl (k2.alloc _) ⟨w7.heap.size, 0, none⟩ 1 1 [.int .i64 ((EL : Int) + TL)] rfl rfl (news_one (cell_new1 _ _ _)) (one_int _ _) (by unfold maxLen; omega) (by omega) (by have := k1.lt; simp; omega) ?_; intro v8 w8 own8 gr8 _; have h8 : Box (TwoE w w8 ob v8 (E ++ t.enc) (es ++ [EL + TL])) := ⟨app_twoE (h7.out.grow ((Below.refl _ _).alloc (Nat.le_refl _) _)) (by rw [e9.out]; exact own8) gr8⟩; clear own8 gr8 k1 k2 h7))
      have h9 : Box (TwoE w w8 ob v8 (encs (ts.take (k + 1))) (endsOf ts (k + 1))) := ⟨by rw [hE.out, hEs.out]; exact h8.out⟩
      clear h8 hP hQ r5 r6' h6
      go_wp2
      go_roundw
      case rel => first | exact ⟨k + 1, by omega, by go_num, by rw [hNn.out]; go_num, h9⟩ | exact ⟨_, _, _, _, ⟨k + 1, by omega, by go_num, by rw [hNn.out]; go_num, h9⟩, rfl, rfl, rfl⟩
      case measure => simp [intOf]; omega
    · have hkn : ts.take k = ts := List.take_of_length_le (by rw [hn.out]; omega)
      obtain rfl : n = k := by omega
      rw [hkn] at h2
      rw [hkn]
      have hLX := (hL 0).2
      rw [List.drop_zero] at hLX
      obtain ⟨X, hX⟩ : ∃ X, Box (encs ts = X) := ⟨_, ⟨rfl⟩⟩
      rw [hX.out] at h2 hLX ⊢
      obtain ⟨XL, hXL⟩ : ∃ XL, Box (X.length = XL) := ⟨_, ⟨rfl⟩⟩
      rw [hXL.out] at hLX ⊢
      have hAll : Box (Calls Try.prog 12 #[.pointer (some ⟨ob, 0, none⟩)] wr fun e w2 => ∃ v', e = .returned v' ∧ Box ((v' = .slice none 0 0 ∧ XL = 0) ∨ ∃ gb c2, v' = .slice (some ⟨gb, 0, none⟩) XL c2 ∧ XL ≤ c2 ∧ gb < w2.heap.size ∧ HasB w2 gb 0 X) ∧ Box (Below w.heap.size w w2) ∧ Box (Ends w2 u6 (endsOf ts n))) := ⟨by
        obtain ⟨v0, k1, k2, k4, k5⟩ := h2.out
        have hz := k4.size
        refine (oall_any ob v0 X wr k1 (by rw [hXL.out]; omega)).mono ?_
        rintro e w2 ⟨v', rfl, q1, q2⟩
        have hf := own_form q1
        rw [hXL.out] at hf
        exact ⟨v', rfl, ⟨hf⟩, ⟨k4.trans ⟨q2.os, q2.tape, q2.output, q2.size, fun q hq => q2.block q (by omega)⟩⟩, ⟨own_ends (own_growE k2 q2)⟩⟩⟩
      clear h2
      go_upto_region 14 with (go_at_call 12; refine hAll.out.mono ?_; rintro e w2 ⟨v', rfl, hform, hlow2', hE2⟩)
      have hlow2 := hlow2'.out
      have hz2 := hlow2.size
      clear hAll hlow2'
      rcases hform.out with ⟨rfl, hX0⟩ | ⟨gb, c2, rfl, hcc, hgl, hBX⟩
      · clear hform
        subst hX0
        by_cases hcut : cut < 0
        · have d1 : decide (cut < 0) = true := by simpa using hcut
          go_wp2_with (go_at_call 9; refine (awake_any w2).mono ?_; rintro e w9 ⟨rfl, b9⟩)
          go_ret
          exact ⟨rfl, hlow2.trans ⟨b9.os, b9.tape, b9.output, b9.size, fun k hk => b9.block k (by omega)⟩⟩
        by_cases hcut2 : ((0 : Nat) : Int) < cut
        · have d1 : decide (cut < 0) = false := by simp; omega
          have d2 : decide ((0 : Int) < cut) = true := by simp; omega
          go_wp2_with (go_at_call 9; refine (awake_any w2).mono ?_; rintro e w9 ⟨rfl, b9⟩)
          go_ret
          exact ⟨rfl, hlow2.trans ⟨b9.os, b9.tape, b9.output, b9.size, fun k hk => b9.block k (by omega)⟩⟩
        obtain ⟨m, rfl⟩ : ∃ m : Nat, cut = (m : Int) := ⟨cut.toNat, by omega⟩
        obtain rfl : m = 0 := by omega
        have hNew : Box (Calls Try.prog 13 #[.slice none 0 0] w2 fun e w3 => ∃ ib, e = .returned (.pointer (some ⟨ib, 0, none⟩)) ∧ Box (Ahead w2 w3 ib ts 0 0)) := ⟨by
          refine (s_new w2 w2 _ 0 [] (.inl ⟨rfl, rfl⟩) (by simp) (Below.refl _ _)).mono ?_
          rintro e w3 ⟨ib, rfl, q1, _⟩
          exact ⟨ib, rfl, ⟨.inl ⟨Nat.le_refl _, by simpa using q1.out⟩⟩⟩⟩
        go_wp2_with (go_at_call 13; refine hNew.out.mono ?_; rintro e w3 ⟨ib, rfl, hA0⟩)
        clear hNew
        go_loopw [63] (fun i wi => ∃ q : Nat, q ≤ n ∧ i = .int .i64 q ∧ Box (Ahead w2 wi ib ts 0 q)) (fun i _ => n - (intOf i).toNat)
        case atStart => exact ⟨0, by omega, rfl, hA0⟩
        case round =>
          clear hA0
          obtain ⟨q, hq, rfl, hA⟩ := hrel
          have hlow3 : Below w2.heap.size w2 wr := by
            rcases hA.out with ⟨_, s⟩ | ⟨_, s⟩
            · exact s.low
            · exact s.low
          have hz3 := hlow3.size
          have hlow4 : Below w.heap.size w wr := hlow2.trans ⟨hlow3.os, hlow3.tape, hlow3.output, hlow3.size, fun k hk => hlow3.block k (by omega)⟩
          by_cases hlt3 : q < n
          · have hkt : q < ts.length := by rw [hn.out]; exact hlt3
            obtain ⟨rfl, hlw⟩ := hT'.out.src (by omega)
            obtain ⟨t, ht⟩ : ∃ t, ts[q]? = some t := ⟨_, List.getElem?_eq_getElem hkt⟩
            have hrg := Box.mk (range_below (hT'.out.row q t ht) hlow4 hlw)
            have hok := (hT'.out.ok q t ht).below hlow2
            have hsm := hs'.out.2 t (List.mem_of_getElem? ht)
            have hlen := Th.len hok.hl
            have hsz : Box (t.cells.toArray.size = 37) := ⟨by simp [hlen]⟩
            have hz37 : Box (z37.toArray.size = 37) := ⟨by simp [z37, z32]⟩
            obtain ⟨g6, c6, hu6, hg6, hcell6⟩ := hE2.out (by rw [endsOf_len]; omega)
            have k6 := hcell6 q (by rw [endsOf_len]; exact hlt3)
            rw [ends_at ts n q hlt3] at k6
            rw [endsOf_len] at hu6
            rw [hu6]
            obtain ⟨e1, he1⟩ : ∃ e1, Box ((encs (ts.take (q + 1))).length = e1) := ⟨_, ⟨rfl⟩⟩
            rw [he1.out] at k6
            have hLe := (hL (q + 1)).1
            rw [he1.out] at hLe
            clear hcell6
            go_upto_region 20 with (first | (refine wpList_load_mid rfl 32 (.tmp 66) rfl lb (lo + q * 37) rfl t.cells _ hrg.out hfs.out rfl (by rw [hlen]; exact Try.size32) ?_) | (refine wpList_store_row rfl 32 (.tmp 13) (.tmp 67) rfl wr.heap.size t.cells.toArray rfl rfl 32 z37.toArray (heap_alloc_new _ _) (by rw [hsz.out]; exact Try.size32) (by rw [hsz.out, hz37.out]) (all_oneCell_toArray t.one) ?_))
            go_frame
            refine code_any (fun w5 => HasT w5 wr.heap.size t ∧ Below wr.heap.size wr w5) ?_ ?_
            · exact ⟨setRow_heap _ _ _ _ 32 (0, 0) (heap_alloc_new _ _), below_setRow2 ((Below.refl _ _).alloc (Nat.le_refl _) _) (Nat.le_refl _) _⟩
            rintro w5 ⟨hv5, hb5⟩
            have r5 := Box.mk hv5.range
            have k7 : w5.cell? ⟨g6, q, none⟩ = some (.int .i64 (e1 : Int)) := by
              rw [hb5.cell (show g6 < wr.heap.size by omega), hlow3.cell (by exact hg6)]; exact k6
            by_cases hle : e1 ≤ 0
            · have d5 : decide ((e1 : Int) ≤ ((0 : Nat) : Int)) = true := by simp; omega
              have hC : Box (Calls Try.prog 14 #[.pointer (some ⟨ib, 0, none⟩), .agg t.cells.toArray] w5 fun e w6 => e = .returned (.bool true) ∧ Box (Sin w2 w6 ib ((encs (ts.drop (q + 1))).take (0 - (encs (ts.take (q + 1))).length)) false)) := ⟨told_whole w2 w5 ib t _ ((ahead_whole hA.out ht (by rw [he1.out]; exact hle)).grow hb5) hok (by omega) (by omega)⟩
              clear hv5 hb5 hrg hA k6 hlow3 hlow4
              go_wp2_with (first | (go_at_call 14; refine hC.out.mono ?_; rintro e w6 ⟨rfl, h6⟩) | (go_at_call 15; refine (s_bad h6.out).mono ?_; rintro e w7 ⟨rfl, rfl⟩) | (refine wpList_load_mid rfl 32 (.tmp 13) rfl wr.heap.size 0 rfl t.cells _ r5.out hfs.out rfl (by rw [hlen]; exact Try.size32) ?_))
              go_roundw
              case rel => exact ⟨q + 1, by omega, by go_num, ⟨.inl ⟨by rw [he1.out]; exact hle, h6.out⟩⟩⟩
              case measure => simp [intOf]; omega
            · have d5 : decide ((e1 : Int) ≤ ((0 : Nat) : Int)) = false := by simp; omega
              have hC : Box (Calls Try.prog 14 #[.pointer (some ⟨ib, 0, none⟩), .agg t.cells.toArray] w5 fun e w6 => ∃ b, e = .returned (.bool b) ∧ Box (Sin w2 w6 ib [] true)) := ⟨by
                obtain ⟨rest, bad, sr, hd⟩ := ahead_dead hA.out ht hok (by omega) (by omega) (by rw [he1.out]; exact hle)
                exact told_dead w2 w5 ib t rest bad (sr.grow hb5) hok (by omega) hd⟩
              clear hv5 hb5 hrg hA k6 hlow3 hlow4
              go_wp2_with (first | (go_at_call 14; refine hC.out.mono ?_; rintro e w6 ⟨b6, rfl, h6⟩) | (go_at_call 15; refine (s_bad h6.out).mono ?_; rintro e w7 ⟨rfl, rfl⟩) | (go_at_call 16; refine (s_done h6.out).mono ?_; rintro e w8 ⟨rfl, rfl⟩) | (refine wpList_load_mid rfl 32 (.tmp 13) rfl wr.heap.size 0 rfl t.cells _ r5.out hfs.out rfl (by rw [hlen]; exact Try.size32) ?_))
              go_roundw
              case rel => exact ⟨q + 1, by omega, by go_num, ⟨.inr ⟨by rw [he1.out]; omega, h6.out⟩⟩⟩
              case measure => simp [intOf]; omega
          · have htk : ts.take q = ts := List.take_of_length_le (by rw [hn.out]; omega)
            have hdr : ts.drop q = [] := List.drop_eq_nil_of_le (by rw [hn.out]; omega)
            rcases hA.out with ⟨hle, s⟩ | ⟨hle, s⟩
            · rw [htk, hX.out, hXL.out] at hle
              rw [hdr, show encs [] = [] from rfl, List.take_nil] at s
              have hD : Box (Calls Try.prog 16 #[.pointer (some ⟨ib, 0, none⟩)] wr fun e w' => e = .returned (.bool true) ∧ w' = wr) := ⟨s_done s⟩
              have q0 : (((0 : Nat) : Int) == ((0 : Nat) : Int)) = true := by first | (simp; done) | (simp; omega)
              clear hA hlow3
              go_wp2_with (first | (go_at_call 16; refine hD.out.mono ?_; rintro e w6 ⟨rfl, rfl⟩) | (go_at_call 9; refine (s_awake s).mono ?_; rintro e w9 ⟨rfl, s9⟩))
              go_ret
              have b9 := s9.out.low
              exact ⟨rfl, hlow2.trans ⟨b9.os, b9.tape, b9.output, b9.size, fun k hk => b9.block k (by omega)⟩⟩
            · rw [htk, hX.out, hXL.out] at hle
              exact absurd hle (by omega)
      · clear hform
        by_cases hcut : cut < 0
        · have d1 : decide (cut < 0) = true := by simpa using hcut
          go_wp2_with (go_at_call 9; refine (awake_any w2).mono ?_; rintro e w9 ⟨rfl, b9⟩)
          go_ret
          exact ⟨rfl, hlow2.trans ⟨b9.os, b9.tape, b9.output, b9.size, fun k hk => b9.block k (by omega)⟩⟩
        by_cases hcut2 : ((XL : Nat) : Int) < cut
        · have d1 : decide (cut < 0) = false := by simp; omega
          have d2 : decide (((XL : Nat) : Int) < cut) = true := by simp; omega
          go_wp2_with (go_at_call 9; refine (awake_any w2).mono ?_; rintro e w9 ⟨rfl, b9⟩)
          go_ret
          exact ⟨rfl, hlow2.trans ⟨b9.os, b9.tape, b9.output, b9.size, fun k hk => b9.block k (by omega)⟩⟩
        obtain ⟨m, rfl⟩ : ∃ m : Nat, cut = (m : Int) := ⟨cut.toNat, by omega⟩
        have d1 : decide ((m : Int) < 0) = false := by simp
        have d2 : decide ((XL : Int) < (m : Int)) = false := by simp; omega
        have hNew : Box (Calls Try.prog 13 #[.slice (some ⟨gb, 0, none⟩) m c2] w2 fun e w3 => ∃ ib, e = .returned (.pointer (some ⟨ib, 0, none⟩)) ∧ Box (Ahead w2 w3 ib ts m 0)) := ⟨by
          have hml : (X.take m).length = m := by rw [List.length_take, hXL.out]; omega
          refine (s_new w2 w2 _ gb (X.take m) (.inr ⟨0, c2, by rw [hml], by omega, hgl, hBX.take m⟩) (by omega) (Below.refl _ _)).mono ?_
          rintro e w3 ⟨ib, rfl, q1, _⟩
          refine ⟨ib, rfl, ⟨.inl ⟨Nat.zero_le _, ?_⟩⟩⟩
          rw [List.drop_zero, hX.out]
          exact q1.out⟩
        go_wp2_with (go_at_call 13; refine hNew.out.mono ?_; rintro e w3 ⟨ib, rfl, hA0⟩)
        clear hNew
        go_loopw [63] (fun i wi => ∃ q : Nat, q ≤ n ∧ i = .int .i64 q ∧ Box (Ahead w2 wi ib ts m q)) (fun i _ => n - (intOf i).toNat)
        case atStart => exact ⟨0, by omega, rfl, hA0⟩
        case round =>
          clear hA0
          obtain ⟨q, hq, rfl, hA⟩ := hrel
          have hlow3 : Below w2.heap.size w2 wr := by
            rcases hA.out with ⟨_, s⟩ | ⟨_, s⟩
            · exact s.low
            · exact s.low
          have hz3 := hlow3.size
          have hlow4 : Below w.heap.size w wr := hlow2.trans ⟨hlow3.os, hlow3.tape, hlow3.output, hlow3.size, fun k hk => hlow3.block k (by omega)⟩
          by_cases hlt3 : q < n
          · have hkt : q < ts.length := by rw [hn.out]; exact hlt3
            obtain ⟨rfl, hlw⟩ := hT'.out.src (by omega)
            obtain ⟨t, ht⟩ : ∃ t, ts[q]? = some t := ⟨_, List.getElem?_eq_getElem hkt⟩
            have hrg := Box.mk (range_below (hT'.out.row q t ht) hlow4 hlw)
            have hok := (hT'.out.ok q t ht).below hlow2
            have hsm := hs'.out.2 t (List.mem_of_getElem? ht)
            have hlen := Th.len hok.hl
            have hsz : Box (t.cells.toArray.size = 37) := ⟨by simp [hlen]⟩
            have hz37 : Box (z37.toArray.size = 37) := ⟨by simp [z37, z32]⟩
            obtain ⟨g6, c6, hu6, hg6, hcell6⟩ := hE2.out (by rw [endsOf_len]; omega)
            have k6 := hcell6 q (by rw [endsOf_len]; exact hlt3)
            rw [ends_at ts n q hlt3] at k6
            rw [endsOf_len] at hu6
            rw [hu6]
            obtain ⟨e1, he1⟩ : ∃ e1, Box ((encs (ts.take (q + 1))).length = e1) := ⟨_, ⟨rfl⟩⟩
            rw [he1.out] at k6
            have hLe := (hL (q + 1)).1
            rw [he1.out] at hLe
            clear hcell6
            go_upto_region 20 with (first | (refine wpList_load_mid rfl 32 (.tmp 66) rfl lb (lo + q * 37) rfl t.cells _ hrg.out hfs.out rfl (by rw [hlen]; exact Try.size32) ?_) | (refine wpList_store_row rfl 32 (.tmp 13) (.tmp 67) rfl wr.heap.size t.cells.toArray rfl rfl 32 z37.toArray (heap_alloc_new _ _) (by rw [hsz.out]; exact Try.size32) (by rw [hsz.out, hz37.out]) (all_oneCell_toArray t.one) ?_))
            go_frame
            refine code_any (fun w5 => HasT w5 wr.heap.size t ∧ Below wr.heap.size wr w5) ?_ ?_
            · exact ⟨setRow_heap _ _ _ _ 32 (0, 0) (heap_alloc_new _ _), below_setRow2 ((Below.refl _ _).alloc (Nat.le_refl _) _) (Nat.le_refl _) _⟩
            rintro w5 ⟨hv5, hb5⟩
            have r5 := Box.mk hv5.range
            have k7 : w5.cell? ⟨g6, q, none⟩ = some (.int .i64 (e1 : Int)) := by
              rw [hb5.cell (show g6 < wr.heap.size by omega), hlow3.cell (by exact hg6)]; exact k6
            by_cases hle : e1 ≤ m
            · have d5 : decide ((e1 : Int) ≤ ((m : Nat) : Int)) = true := by simp; omega
              have hC : Box (Calls Try.prog 14 #[.pointer (some ⟨ib, 0, none⟩), .agg t.cells.toArray] w5 fun e w6 => e = .returned (.bool true) ∧ Box (Sin w2 w6 ib ((encs (ts.drop (q + 1))).take (m - (encs (ts.take (q + 1))).length)) false)) := ⟨told_whole w2 w5 ib t _ ((ahead_whole hA.out ht (by rw [he1.out]; exact hle)).grow hb5) hok (by omega) (by omega)⟩
              clear hv5 hb5 hrg hA k6 hlow3 hlow4
              go_wp2_with (first | (go_at_call 14; refine hC.out.mono ?_; rintro e w6 ⟨rfl, h6⟩) | (go_at_call 15; refine (s_bad h6.out).mono ?_; rintro e w7 ⟨rfl, rfl⟩) | (refine wpList_load_mid rfl 32 (.tmp 13) rfl wr.heap.size 0 rfl t.cells _ r5.out hfs.out rfl (by rw [hlen]; exact Try.size32) ?_))
              go_roundw
              case rel => exact ⟨q + 1, by omega, by go_num, ⟨.inl ⟨by rw [he1.out]; exact hle, h6.out⟩⟩⟩
              case measure => simp [intOf]; omega
            · have d5 : decide ((e1 : Int) ≤ ((m : Nat) : Int)) = false := by simp; omega
              have hC : Box (Calls Try.prog 14 #[.pointer (some ⟨ib, 0, none⟩), .agg t.cells.toArray] w5 fun e w6 => ∃ b, e = .returned (.bool b) ∧ Box (Sin w2 w6 ib [] true)) := ⟨by
                obtain ⟨rest, bad, sr, hd⟩ := ahead_dead hA.out ht hok (by omega) (by omega) (by rw [he1.out]; exact hle)
                exact told_dead w2 w5 ib t rest bad (sr.grow hb5) hok (by omega) hd⟩
              clear hv5 hb5 hrg hA k6 hlow3 hlow4
              go_wp2_with (first | (go_at_call 14; refine hC.out.mono ?_; rintro e w6 ⟨b6, rfl, h6⟩) | (go_at_call 15; refine (s_bad h6.out).mono ?_; rintro e w7 ⟨rfl, rfl⟩) | (go_at_call 16; refine (s_done h6.out).mono ?_; rintro e w8 ⟨rfl, rfl⟩) | (refine wpList_load_mid rfl 32 (.tmp 13) rfl wr.heap.size 0 rfl t.cells _ r5.out hfs.out rfl (by rw [hlen]; exact Try.size32) ?_))
              go_roundw
              case rel => exact ⟨q + 1, by omega, by go_num, ⟨.inr ⟨by rw [he1.out]; omega, h6.out⟩⟩⟩
              case measure => simp [intOf]; omega
          · have htk : ts.take q = ts := List.take_of_length_le (by rw [hn.out]; omega)
            have hdr : ts.drop q = [] := List.drop_eq_nil_of_le (by rw [hn.out]; omega)
            rcases hA.out with ⟨hle, s⟩ | ⟨hle, s⟩
            · rw [htk, hX.out, hXL.out] at hle
              rw [hdr, show encs [] = [] from rfl, List.take_nil] at s
              have hD : Box (Calls Try.prog 16 #[.pointer (some ⟨ib, 0, none⟩)] wr fun e w' => e = .returned (.bool true) ∧ w' = wr) := ⟨s_done s⟩
              have q0 : (((m : Nat) : Int) == ((XL : Nat) : Int)) = true := by first | (simp; done) | (simp; omega)
              clear hA hlow3
              go_wp2_with (first | (go_at_call 16; refine hD.out.mono ?_; rintro e w6 ⟨rfl, rfl⟩) | (go_at_call 9; refine (s_awake s).mono ?_; rintro e w9 ⟨rfl, s9⟩))
              go_ret
              have b9 := s9.out.low
              exact ⟨rfl, hlow2.trans ⟨b9.os, b9.tape, b9.output, b9.size, fun k hk => b9.block k (by omega)⟩⟩
            · rw [htk, hX.out, hXL.out] at hle
              have hD : Box (Calls Try.prog 16 #[.pointer (some ⟨ib, 0, none⟩)] wr fun e w' => e = .returned (.bool false) ∧ w' = wr) := ⟨s_done s⟩
              have q0 : (((m : Nat) : Int) == ((XL : Nat) : Int)) = false := by first | (simp; done) | (simp; omega)
              clear hA hlow3
              go_wp2_with (first | (go_at_call 16; refine hD.out.mono ?_; rintro e w6 ⟨rfl, rfl⟩) | (go_at_call 9; refine (s_awake s).mono ?_; rintro e w9 ⟨rfl, s9⟩))
              go_ret
              have b9 := s9.out.low
              exact ⟨rfl, hlow2.trans ⟨b9.os, b9.tape, b9.output, b9.size, fun k hk => b9.block k (by omega)⟩⟩
set_option maxHeartbeats 1000000 in
theorem cuts_big (A : Option Addr) (lb lo c : Nat) (ts : List Th) (cut : Int) (w : World) (hT : Tl w A lb lo ts) (hl : ts.length ≤ 9223372036854775807) (hs : ¬ Small ts) :
    Calls Try.prog 7 #[.slice A ts.length c, .int .i64 cut] w fun e w' => e = .returned (.bool true) ∧ Below w.heap.size w w' := by
  have hS := Box.mk (small_no A lb lo c ts w hT hl hs)
  obtain ⟨n, hn⟩ : ∃ n, Box (ts.length = n) := ⟨_, ⟨rfl⟩⟩
  rw [hn.out] at hS ⊢
  go_enter Try.func7, Try.ntmps7
  go_wp2_with (first | (go_at_call 8; refine hS.out.mono ?_; rintro e w1 ⟨rfl, b1⟩) | (go_at_call 9; refine (awake_any w1).mono ?_; rintro e w2 ⟨rfl, b2⟩))
  go_ret
  have := b1.size
  exact ⟨rfl, b1.trans ⟨b2.os, b2.tape, b2.output, b2.size, fun q hq => b2.block q (by omega)⟩⟩
theorem cuts_law (A : Option Addr) (len c lb lo : Nat) (ts : List Th) (cut : Int) (w : World) (hT : Tl w A lb lo ts) (hl : ts.length = len ∧ len ≤ 9223372036854775807) (hc1 : -9223372036854775808 ≤ cut) (hc2 : cut ≤ 9223372036854775807) :
    Calls Try.prog 7 #[.slice A len c, .int .i64 cut] w fun e w' => e = .returned (.bool true) ∧ Below w.heap.size w w' := by
  obtain ⟨rfl, hl⟩ := hl
  by_cases hs : Small ts
  · exact cuts_small A lb lo c ts cut w hT hs hc1 hc2
  · exact cuts_big A lb lo c ts cut w hT hl hs
end Go.Proofs.Ytkgfcddjjghohaa
