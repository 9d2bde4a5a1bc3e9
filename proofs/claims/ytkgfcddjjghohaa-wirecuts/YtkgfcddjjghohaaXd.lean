/- The walk of the law on telling. -/
import Derived.Test.YtkgfcddjjghohaaXc
import Derived.Test.YtkgfcddjjghohaaWv
namespace Go.Proofs.Ytkgfcddjjghohaa
open Go.RowKit
theorem small_two (A : Option Addr) (lb lo c : Nat) (ts : List Th) (w : World) (hT : Tl w A lb lo ts) (hl : ts.length ≤ 9223372036854775807) (hs : Small ts) :
    Calls Try.prog 8 #[.slice A ts.length c] w fun e w' => e = .returned (.bool true) ∧ Below w.heap.size w w' := by
  refine (small_any A lb lo c ts w hT hl).mono ?_
  rintro e w' ⟨b, rfl, h1, h2⟩
  exact ⟨by rw [h1.2 hs], h2⟩
theorem small_no (A : Option Addr) (lb lo c : Nat) (ts : List Th) (w : World) (hT : Tl w A lb lo ts) (hl : ts.length ≤ 9223372036854775807) (hs : ¬ Small ts) :
    Calls Try.prog 8 #[.slice A ts.length c] w fun e w' => e = .returned (.bool false) ∧ Below w.heap.size w w' := by
  refine (small_any A lb lo c ts w hT hl).mono ?_
  rintro e w' ⟨b, rfl, h1, h2⟩
  cases b
  · exact ⟨rfl, h2⟩
  · exact absurd (h1.1 rfl) hs
theorem two_new (w0 w : World) (hb : Below w0.heap.size w0 w) : Two w0 (w.alloc (.cells #[.slice none 0 0] 27)) w.heap.size (.slice none 0 0) [] [] :=
  ⟨_, out_new w, World.ownsRow_nil _ _ _ _, .inl rfl, hb.alloc hb.size _, hb.size⟩
theorem Two.out_ne {w0 w : World} {ob : Nat} {v : Value} {xs ys : List (BitVec 8)} (_h : Two w0 w ob v xs ys) : ∀ v0, HasOut w ob v0 xs → v0.ownBlock ≠ some w.heap.size := fun v0 h e => by have := h.2.lt _ e; omega
/-- The bytes b of the law's own, ahead of its loop that turns them. -/
def Mine (w : World) (g n : Nat) : Prop := ∀ j, j < n → (∃ x, w.cell? ⟨g, j, none⟩ = some (.int .u8 (bv x))) ∧ w.frozen? ⟨g, j, none⟩ = false
theorem Mine.set {w : World} {g n : Nat} (h : Mine w g n) (m : Nat) (y : BitVec 8) : Mine (w.setCell ⟨g, m, none⟩ (.int .u8 (bv y))) g n := by
  intro j hj
  obtain ⟨⟨x, hx⟩, hf⟩ := h j hj
  refine ⟨?_, by rw [World.frozen?_setCell]; exact hf⟩
  by_cases e : j = m
  · subst e
    exact ⟨y, World.cell?_setCell_same _ _ _ hx⟩
  · exact ⟨x, (World.cell?_setCell_other _ _ _ _ (by intro e2; simp at e2)).trans hx⟩
theorem Mine.keep {w w' : World} {g n : Nat} (h : Mine w g n) (e : w'.heap[g]? = w.heap[g]?) : Mine w' g n := fun j hj => by
  rw [World.cell?_of_block (w := w) e, World.frozen?_of_block (w := w) e]; exact h j hj
theorem own_mine {w : World} {base : Nat} {v : Value} {X : List (BitVec 8)} (h : w.ownsRow base 5 1 v X.length (X.map V)) : ∃ a c gb, v = .slice a X.length c ∧ (0 < X.length → a = some ⟨gb, 0, none⟩ ∧ gb < w.heap.size ∧ base ≤ gb ∧ Mine w gb X.length) := by
  rcases h.2 with ⟨rfl, h0⟩ | ⟨g, cap, cur, rfl, hbg, hg, hnc, _, hcs, ht⟩
  · exact ⟨none, 0, 0, by rw [h0], fun h => by omega⟩
  · refine ⟨_, cap, g, rfl, fun _ => ⟨rfl, (Array.getElem?_eq_some_iff.1 hg).1, hbg, fun j hj => ⟨⟨X.getD j 0, ?_⟩, frozen_of_row _ _ _ _ _ hg⟩⟩⟩
    rw [cell_of_row _ _ _ _ _ _ hg]
    have e2 := congrArg (·[j]?) ht
    simp [hj] at e2
    simp [e2, hj, V]
set_option maxHeartbeats 4000000 in
theorem tells_small (A : Option Addr) (lb lo c : Nat) (ts : List Th) (w : World) (hT : Tl w A lb lo ts) (hs : Small ts) :
    Calls Try.prog 3 #[.slice A ts.length c] w fun e w' => e = .returned (.bool true) ∧ Below w.heap.size w w' := by
  have hfs := Box.mk Try.underlying32
  have hS := Box.mk (small_two A lb lo c ts w hT (by have := hs.1; omega) hs)
  have hT' := Box.mk hT
  have hs' := Box.mk hs
  have hL := fun k => small_ok (fun i t h => hT.ok i t h) hs k
  obtain ⟨n, hn⟩ : ∃ n, Box (ts.length = n) := ⟨_, ⟨rfl⟩⟩
  have hn40 : n ≤ 40 := by rw [← hn.out]; exact hs.1
  rw [hn.out] at hS ⊢
  clear hT hs
  go_enter Try.func3, Try.ntmps3
  go_wp2_with (go_at_call 8; refine hS.out.mono ?_; rintro e w1 ⟨rfl, b1⟩)
  have t1 := Box.mk (two_new w w1 b1)
  clear hS b1
  generalize w1.heap.size = ob at *
  go_loopw [4, 18] (fun v i wr => ∃ k : Nat, k ≤ n ∧ i = .int .i64 k ∧ Box (Two w wr ob v (encs (ts.take k)) (encs (ts.take k)))) (fun _ i _ => n - (intOf i).toNat)
  case atStart => exact ⟨0, by omega, rfl, ⟨by simpa [encs] using t1.out⟩⟩
  case round =>
    clear t1
    obtain ⟨k, hk, rfl, h2⟩ := hrel
    by_cases hlt : k < n
    · have hkt : k < ts.length := by rw [hn.out]; exact hlt
      obtain ⟨rfl, hlw⟩ := hT'.out.src (by omega)
      obtain ⟨t, ht⟩ : ∃ t, ts[k]? = some t := ⟨_, List.getElem?_eq_getElem hkt⟩
      obtain ⟨_, hlow⟩ : ∃ x : Unit, Below w.heap.size w wr := by obtain ⟨v0, _, _, _, h4, _⟩ := h2.out; exact ⟨(), h4⟩
      have hol : ob < wr.heap.size := by obtain ⟨v0, h1, _⟩ := h2.out; exact h1.lt
      have hrg := Box.mk (range_below (hT'.out.row k t ht) hlow hlw)
      have hok := hT'.out.ok k t ht
      have hsm := hs'.out.2 t (List.mem_of_getElem? ht)
      have hlen := Th.len hok.hl
      have hsz : Box (t.cells.toArray.size = 37) := ⟨by simp [hlen]⟩
      have hz37 : Box (z37.toArray.size = 37) := ⟨by simp [z37, z32]⟩
      have hE := Box.mk (encs_take ts k t ht)
      have hLk := (hL k).1
      have hLe := (hL (k + 1)).1
      rw [hE.out, List.length_append] at hLe
      generalize encs (ts.take k) = E at *
      go_upto_region 8 with (first | (refine wpList_load_mid rfl 32 (.tmp 20) rfl lb (lo + k * 37) rfl t.cells _ hrg.out hfs.out rfl (by rw [hlen]; exact Try.size32) ?_) | (refine wpList_store_row rfl 32 (.tmp 6) (.tmp 21) rfl wr.heap.size t.cells.toArray rfl rfl 32 z37.toArray (heap_alloc_new _ _) (by rw [hsz.out]; exact Try.size32) (by rw [hsz.out, hz37.out]) (all_oneCell_toArray t.one) ?_))
      go_frame
      refine code_any (fun w5 => HasT w5 wr.heap.size t ∧ Below wr.heap.size wr w5) ?_ ?_
      · exact ⟨setRow_heap _ _ _ _ 32 (0, 0) (heap_alloc_new _ _), below_setRow2 ((Below.refl _ _).alloc (Nat.le_refl _) _) (Nat.le_refl _) _⟩
      rintro w5 ⟨hv5, hb5⟩
      have r5 := Box.mk hv5.range
      have hP := Box.mk (put_two (h2.out.grow hb5) (by omega) hok (by omega) (by omega) hv5 (by omega) (fun v0 hv0 e => by
        obtain ⟨v1, k1, _⟩ := h2.out
        have e1 := (k1.below hb5).1
        rw [hv0.1] at e1
        simp at e1
        rw [e1] at e
        have := k1.2.lt _ e
        omega))
      have hQ : ∀ w6, Box (Two w w6 ob u4 (E ++ t.enc) E) → Box (Calls Try.prog 11 #[.agg t.cells.toArray] w6 fun e w' => ∃ vb, e = .returned vb ∧ Box (∃ g, Rv w' vb t.enc g ∧ Two w w' ob u4 (E ++ t.enc) E)) := fun w6 h6 => ⟨bytes_two h6.out hok (by omega) (by omega)⟩
      clear hv5 hb5 hrg h2 hlow
      go_wp2_with (first | (go_at_call 10; refine hP.out.mono ?_; rintro e w6 ⟨rfl, r6, h6⟩; have r6' := Box.mk r6; clear r6) | (go_at_call 11; refine (hQ _ h6).out.mono ?_; rintro e w7 ⟨vb, rfl, h7⟩) | (refine wpList_load_mid rfl 32 (.tmp 6) rfl wr.heap.size 0 rfl t.cells _ (by first | exact r5.out | exact r6'.out) hfs.out rfl (by rw [hlen]; exact Try.size32) ?_) | (at_builtin; obtain ⟨g, hrv, h7t⟩ := h7.out; have h7u := h7t; obtain ⟨v0, k1, k2, _⟩ := h7u; refine append25 rfl _ _ rfl (ob + 1) _ _ E rfl k2 _ t.enc g rfl hrv (by omega) (by have := k1.lt; omega) ?_; intro v8 w8 own8 gr8 at8; have h8 := Box.mk (app_two h7t own8 gr8 at8); clear own8 gr8 at8 hrv h7t k1 k2 h7))
      have h9 : Box (Two w w8 ob v8 (encs (ts.take (k + 1))) (encs (ts.take (k + 1)))) := ⟨by rw [hE.out]; exact h8.out⟩
      clear h8 hP hQ r5 r6' h6
      go_wp2
      go_roundw
      case rel => first | exact ⟨k + 1, by omega, by go_num, h9⟩ | exact ⟨_, _, _, ⟨k + 1, by omega, by go_num, h9⟩, rfl, rfl, rfl⟩
      case measure => simp [intOf]; omega
    · have hkn : ts.take k = ts := List.take_of_length_le (by rw [hn.out]; omega)
      rw [hkn] at h2
      have hLX := (hL 0).2
      rw [List.drop_zero] at hLX
      obtain ⟨X, hX⟩ : ∃ X, Box (encs ts = X) := ⟨_, ⟨rfl⟩⟩
      rw [hX.out] at h2 hLX
      have hAll : Box (Calls Try.prog 12 #[.pointer (some ⟨ob, 0, none⟩)] wr fun e w2 => ∃ a c gb, e = .returned (.slice a X.length c) ∧ (convert 25 9 (.slice a X.length c)).run Try.prog w2 = .ok (.string (str X)) w2 ∧ (convert 25 9 u4).run Try.prog w2 = .ok (.string (str X)) w2 ∧ Box ((0 < X.length → a = some ⟨gb, 0, none⟩ ∧ gb < w2.heap.size ∧ w.heap.size ≤ gb ∧ Mine w2 gb X.length) ∧ (∃ g, Rv w2 (.slice a X.length c) X g) ∧ Below w.heap.size w w2)) := ⟨by
        obtain ⟨v0, k1, k2, _, k4, k5⟩ := h2.out
        have hz := k4.size
        refine (oall_any ob v0 X wr k1 (by omega)).mono ?_
        rintro e w2 ⟨v', rfl, q1, q2⟩
        have r1 : ∃ g, Rv w2 v' X g := by
          obtain ⟨g, _, _, _, _, _, hr⟩ := own_apart q1 q2.size
          exact ⟨g, hr⟩
        have r2 : ∃ g, Rv w2 u4 X g := by
          have hol := k1.lt
          have hq := q2.size
          obtain ⟨g, _, _, _, _, _, hr⟩ := own_apart (own_grow k2 q2) (by omega)
          exact ⟨g, hr⟩
        obtain ⟨a, c2, gb, rfl, hm⟩ := own_mine q1
        obtain ⟨g1, r1⟩ := r1
        obtain ⟨g2, r2⟩ := r2
        exact ⟨a, c2, gb, rfl, run_str w2 _ X g1 r1, run_str w2 _ X g2 r2, ⟨fun h => ⟨(hm h).1, (hm h).2.1, by have := (hm h).2.2.1; omega, (hm h).2.2.2⟩, ⟨g1, r1⟩, k4.trans ⟨q2.os, q2.tape, q2.output, q2.size, fun q hq => q2.block q (by omega)⟩⟩⟩⟩
      have hNew : ∀ a c2 gb w2, Box ((0 < X.length → a = some ⟨gb, 0, none⟩ ∧ gb < w2.heap.size ∧ w.heap.size ≤ gb ∧ Mine w2 gb X.length) ∧ (∃ g, Rv w2 (.slice a X.length c2) X g) ∧ Below w.heap.size w w2) → Box (Calls Try.prog 13 #[.slice a X.length c2] w2 fun e w3 => ∃ ib, e = .returned (.pointer (some ⟨ib, 0, none⟩)) ∧ Box (0 < X.length → a = some ⟨gb, 0, none⟩ ∧ w.heap.size ≤ gb) ∧ Box ((∃ g', HasIn w3 ib X false g' ∧ (0 < X.length → g' ≠ gb ∧ ib ≠ gb)) ∧ w.heap.size ≤ ib ∧ (0 < X.length → Mine w3 gb X.length) ∧ Below w.heap.size w w3)) := fun a c2 gb w2 hB => ⟨by
        obtain ⟨hm, ⟨g, hr⟩, hlow⟩ := hB.out
        have hz := hlow.size
        refine (newIn_any _ g X w2 hr (by omega)).mono ?_
        rintro e w3 ⟨ib, g', rfl, q1, q2, q3, q4⟩
        exact ⟨ib, rfl, ⟨fun h => ⟨(hm h).1, (hm h).2.2.1⟩⟩, ⟨g', q3, fun h => by have := (hm h).2.1; omega⟩, by omega, fun h => (hm h).2.2.2.keep (q4.block gb (hm h).2.1), hlow.trans ⟨q4.os, q4.tape, q4.output, q4.size, fun q hq => q4.block q (by omega)⟩⟩⟩
      clear h2
      go_wp2_with (first | (go_at_call 12; refine hAll.out.mono ?_; rintro e w2 ⟨a, c2, gb, rfl, cv1, cv2, hB⟩) | (go_at_call 13; refine (hNew a c2 gb w2 hB).out.mono ?_; rintro e w3 ⟨ib, rfl, hA3, h3⟩))
      clear hAll hNew cv1 cv2 hB
      go_loopw [39] (fun i wi => ∃ m : Nat, m ≤ X.length ∧ i = .int .i64 m ∧ Box ((∃ g', HasIn wi ib X false g' ∧ (0 < X.length → g' ≠ gb ∧ ib ≠ gb)) ∧ w.heap.size ≤ ib ∧ (0 < X.length → Mine wi gb X.length) ∧ Below w.heap.size w wi)) (fun i _ => X.length - (intOf i).toNat)
      case atStart => exact ⟨0, by omega, rfl, h3⟩
      case round =>
        clear h3
        obtain ⟨m, hm, rfl, h3⟩ := hrel
        by_cases hlt2 : m < X.length
        · obtain ⟨⟨g', hI, hne⟩, hfar, hM, hlow⟩ := h3.out
          obtain ⟨⟨x, c0⟩, f0⟩ := hM (by omega) m hlt2
          obtain ⟨hA4, hgb⟩ := hA3.out (by omega)
          have hx := bv_range x
          have hne2 := hne (by omega)
          rw [hA4]
          have hk0 := kb_v (bv x + 1)
          have h4 : Box ((∃ g', HasIn (wr.setCell ⟨gb, m, none⟩ (.int .u8 ((bv x + 1) % 256))) ib X false g' ∧ (0 < X.length → g' ≠ gb ∧ ib ≠ gb)) ∧ w.heap.size ≤ ib ∧ (0 < X.length → Mine (wr.setCell ⟨gb, m, none⟩ (.int .u8 ((bv x + 1) % 256))) gb X.length) ∧ Below w.heap.size w (wr.setCell ⟨gb, m, none⟩ (.int .u8 ((bv x + 1) % 256)))) := ⟨⟨g', hI.only ((Only.refl gb wr).setCell m _) hne2.2 hne2.1, hne⟩, hfar, fun _ => by rw [hk0]; exact (hM (by omega)).set m _, hlow.setCell (by exact hgb) _⟩
          clear hI hM hlow h3 hk0
          go_wp2
          go_roundw
          case rel => exact ⟨m + 1, by omega, by go_num, h4⟩
          case measure => simp [intOf]; omega
        · have h5 : Box (Sin w wr ib (encs (ts.drop 0)) false) := ⟨by
            obtain ⟨⟨g', hI, _⟩, hfar, _, hlow⟩ := h3.out
            rw [List.drop_zero, hX.out]
            exact ⟨⟨g', hI⟩, hlow, hfar, by omega⟩⟩
          clear h3 hA3
          go_wp2
          go_loopw [51] (fun i wi => ∃ q : Nat, q ≤ n ∧ i = .int .i64 q ∧ Box (Sin w wi ib (encs (ts.drop q)) false)) (fun i _ => n - (intOf i).toNat)
          case atStart => exact ⟨0, by omega, rfl, h5⟩
          case round =>
            clear h5
            obtain ⟨q, hq, rfl, h5⟩ := hrel
            by_cases hlt3 : q < n
            · have hkt : q < ts.length := by rw [hn.out]; exact hlt3
              obtain ⟨rfl, hlw⟩ := hT'.out.src (by omega)
              obtain ⟨t, ht⟩ : ∃ t, ts[q]? = some t := ⟨_, List.getElem?_eq_getElem hkt⟩
              have hrg := Box.mk (range_below (hT'.out.row q t ht) h5.out.low hlw)
              have hok := hT'.out.ok q t ht
              have hsm := hs'.out.2 t (List.mem_of_getElem? ht)
              have hlen := Th.len hok.hl
              have hsz : Box (t.cells.toArray.size = 37) := ⟨by simp [hlen]⟩
              have hz37 : Box (z37.toArray.size = 37) := ⟨by simp [z37, z32]⟩
              rw [encs_drop ts q t ht] at h5
              go_upto_region 23 with (first | (refine wpList_load_mid rfl 32 (.tmp 53) rfl lb (lo + q * 37) rfl t.cells _ hrg.out hfs.out rfl (by rw [hlen]; exact Try.size32) ?_) | (refine wpList_store_row rfl 32 (.tmp 11) (.tmp 54) rfl wr.heap.size t.cells.toArray rfl rfl 32 z37.toArray (heap_alloc_new _ _) (by rw [hsz.out]; exact Try.size32) (by rw [hsz.out, hz37.out]) (all_oneCell_toArray t.one) ?_))
              go_frame
              refine code_any (fun w5 => HasT w5 wr.heap.size t ∧ Below wr.heap.size wr w5) ?_ ?_
              · exact ⟨setRow_heap _ _ _ _ 32 (0, 0) (heap_alloc_new _ _), below_setRow2 ((Below.refl _ _).alloc (Nat.le_refl _) _) (Nat.le_refl _) _⟩
              rintro w5 ⟨hv5, hb5⟩
              have r5 := Box.mk hv5.range
              have hC := Box.mk (told_whole w w5 ib t _ (h5.out.grow hb5) hok (by omega) (by omega))
              clear hv5 hb5 hrg h5
              go_wp2_with (first | (go_at_call 14; refine hC.out.mono ?_; rintro e w6 ⟨rfl, h6⟩) | (go_at_call 15; refine (s_bad h6.out).mono ?_; rintro e w7 ⟨rfl, rfl⟩) | (refine wpList_load_mid rfl 32 (.tmp 11) rfl wr.heap.size 0 rfl t.cells _ r5.out hfs.out rfl (by rw [hlen]; exact Try.size32) ?_))
              go_roundw
              case rel => exact ⟨q + 1, by omega, by go_num, h6⟩
              case measure => simp [intOf]; omega
            · have hD : Box (Calls Try.prog 16 #[.pointer (some ⟨ib, 0, none⟩)] wr fun e w' => e = .returned (.bool true) ∧ w' = wr) := ⟨by
                have := s_done h5.out
                rw [List.drop_eq_nil_of_le (by rw [hn.out]; omega)] at this
                exact this⟩
              go_wp2_with (first | (go_at_call 16; refine hD.out.mono ?_; rintro e w6 ⟨rfl, rfl⟩) | (go_at_call 9; refine (s_awake h5.out).mono ?_; rintro e w9 ⟨rfl, s9⟩))
              go_ret
              exact ⟨rfl, s9.out.low⟩
set_option maxHeartbeats 1000000 in
theorem tells_big (A : Option Addr) (lb lo c : Nat) (ts : List Th) (w : World) (hT : Tl w A lb lo ts) (hl : ts.length ≤ 9223372036854775807) (hs : ¬ Small ts) :
    Calls Try.prog 3 #[.slice A ts.length c] w fun e w' => e = .returned (.bool true) ∧ Below w.heap.size w w' := by
  have hS := Box.mk (small_no A lb lo c ts w hT hl hs)
  obtain ⟨n, hn⟩ : ∃ n, Box (ts.length = n) := ⟨_, ⟨rfl⟩⟩
  rw [hn.out] at hS ⊢
  go_enter Try.func3, Try.ntmps3
  go_wp2_with (first | (go_at_call 8; refine hS.out.mono ?_; rintro e w1 ⟨rfl, b1⟩) | (go_at_call 9; refine (awake_any w1).mono ?_; rintro e w2 ⟨rfl, b2⟩))
  go_ret
  have := b1.size
  exact ⟨rfl, b1.trans ⟨b2.os, b2.tape, b2.output, b2.size, fun q hq => b2.block q (by omega)⟩⟩
theorem tells_law (A : Option Addr) (len c lb lo : Nat) (ts : List Th) (w : World) (hT : Tl w A lb lo ts) (hl : ts.length = len ∧ len ≤ 9223372036854775807) :
    Calls Try.prog 3 #[.slice A len c] w fun e w' => e = .returned (.bool true) ∧ Below w.heap.size w w' := by
  obtain ⟨rfl, hl⟩ := hl
  by_cases hs : Small ts
  · exact tells_small A lb lo c ts w hT hs
  · exact tells_big A lb lo c ts w hT hl hs
end Go.Proofs.Ytkgfcddjjghohaa
