/- What bytes does. -/
import Derived.Test.YtkgfcddjjghohaaWx
namespace Go.Proofs.Ytkgfcddjjghohaa
open Go.RowKit
theorem Try.under59 : Try.prog.underlying 59 = some (.slice 28) := by kernel_rfl
theorem Try.info28 : (Try.prog.info? 28).map (fun i => (i.zero, i.size, i.bytes)) = some (some (.agg ((z32.map V).toArray)), 32, 32) := by kernel_rfl
theorem wpList_build {ops : Array Oper} {rest : List Oper} {o : Oper} {a : Act} {w w2 : World} {Q : Exit → Act → World → Prop} (hgd : o.guard = none) (T : TypeId) (x : Operand) (ho : o.op = .buildSlice T 1 #[(0, x)]) (y v2 : Value) (hx : a.eval x = y)
    (hr : (Instr.buildSlice T 1 #[(0, y)]).run Try.prog w = .ok v2 w2) (h : wpList Try.prog ops Q rest (a.put o.dst v2) w2) : wpList Try.prog ops Q (o :: rest) a w := by
  refine wpList_plain hgd fun K hK => ?_
  unfold Oper.wp execOp
  rw [ho]
  simp [hx, hr]
  exact hK _ _ h
theorem HasV.rv {w : World} {g : Nat} {T : TypeId} {xs : List (BitVec 8)} (h : HasV w g T xs) (n : Nat) (hn : xs.length = n) : Rv w (.slice (some ⟨g, 0, none⟩) n n) xs g := .inr ⟨0, n, by rw [hn], by omega, h.lt, h.bytes⟩
theorem own_fl {w : World} {base n : Nat} {v : Value} {D : List (BitVec 8)} (h : w.ownsRow base 28 32 v n (D.map V)) : ∃ A c g, v = .slice A n c ∧ Fl w A g 0 n D := by
  obtain ⟨hl, h⟩ := h
  have hD : D.length = 32 * n := by rw [List.length_map] at hl; omega
  rcases h with ⟨rfl, rfl⟩ | ⟨g, cap, cur, rfl, hbg, hg, hnc, _, hcs, ht⟩
  · exact ⟨none, 0, 0, rfl, hD, fun h => absurd h (by omega)⟩
  · refine ⟨_, cap, g, rfl, hD, fun _ => ⟨rfl, (Array.getElem?_eq_some_iff.1 hg).1, fun i hi => ?_⟩⟩
    rw [Nat.zero_add, cell_of_row _ _ _ _ _ _ hg]
    have e2 := congrArg (·[i]?) ht
    simp [hi, show i < n * 32 by omega] at e2
    simp [e2, hi, V]
set_option maxHeartbeats 1000000 in
theorem bytes_int (t : Th) (w : World) (hk : t.kind = 0) :
    Calls Try.prog 11 #[.agg t.cells.toArray] w fun e w' => ∃ v g, e = .returned v ∧ Rv w' v (be8 t.n) g ∧ Below w.heap.size w w' := by
  obtain ⟨cs, hcs⟩ : ∃ cs, Box (t.cells = cs) := ⟨_, ⟨rfl⟩⟩
  rw [hcs.out]
  go_enter Try.func11, Try.ntmps11
  go_upto_region 1 with fail
  refine code_any (fun w1 => HasT w1 w.heap.size t ∧ Below w.heap.size w w1) ?_ ?_
  · exact ⟨by unfold HasT; rw [hcs.out]; exact heap_alloc_new _ _, (Below.refl _ _).alloc (Nat.le_refl _) _⟩
  rintro w1 ⟨ht, hb1⟩
  have c0 := ht.c0
  rw [hk] at c0
  have c1 := ht.c1
  have hz := hb1.size
  have hT := Box.mk (refInt_any t.n w1)
  clear ht hcs hk
  go_wp2_with (go_at_call 30; refine hT.out.mono ?_; rintro e w2 ⟨rfl, h1, h2⟩; have h1' := Box.mk h1; clear h1)
  go_ret
  exact ⟨_, w1.heap.size, rfl, h1'.out.rv 8 (be8_len _), hb1.trans ⟨h2.os, h2.tape, h2.output, h2.size, fun k hk => h2.block k (by omega)⟩⟩
set_option maxHeartbeats 1000000 in
theorem bytes_text (t : Th) (w : World) (hs : t.text.size ≤ 1000) (hk : t.kind = 1) :
    Calls Try.prog 11 #[.agg t.cells.toArray] w fun e w' => ∃ v g, e = .returned v ∧ Rv w' v (beN t.text.size 4 ++ strB t.text) g ∧ Below w.heap.size w w' := by
  obtain ⟨cs, hcs⟩ : ∃ cs, Box (t.cells = cs) := ⟨_, ⟨rfl⟩⟩
  rw [hcs.out]
  go_enter Try.func11, Try.ntmps11
  go_upto_region 1 with fail
  refine code_any (fun w1 => HasT w1 w.heap.size t ∧ Below w.heap.size w w1) ?_ ?_
  · exact ⟨by unfold HasT; rw [hcs.out]; exact heap_alloc_new _ _, (Below.refl _ _).alloc (Nat.le_refl _) _⟩
  rintro w1 ⟨ht, hb1⟩
  have c0 := ht.c0
  rw [hk] at c0
  have c1 := ht.c2
  have hz := hb1.size
  have hT := Box.mk (refText_any t.text w1 (by omega))
  clear ht hcs hk
  go_wp2_with (go_at_call 31; refine hT.out.mono ?_; rintro e w2 ⟨v2, rfl, h1, h2⟩; have h1' := Box.mk h1; clear h1)
  go_ret
  obtain ⟨g, a, c, e, _, _, hr⟩ := own_apart h1'.out h2.size
  exact ⟨_, g, rfl, hr, hb1.trans ⟨h2.os, h2.tape, h2.output, h2.size, fun k hk => h2.block k (by omega)⟩⟩
set_option maxHeartbeats 1000000 in
theorem bytes_hash (t : Th) (w : World) (hok : t.hash.length = 32) (hk : t.kind = 2) :
    Calls Try.prog 11 #[.agg t.cells.toArray] w fun e w' => ∃ v g, e = .returned v ∧ Rv w' v (t.hash) g ∧ Below w.heap.size w w' := by
  obtain ⟨cs, hcs⟩ : ∃ cs, Box (t.cells = cs) := ⟨_, ⟨rfl⟩⟩
  rw [hcs.out]
  go_enter Try.func11, Try.ntmps11
  go_upto_region 1 with fail
  refine code_any (fun w1 => HasT w1 w.heap.size t ∧ Below w.heap.size w w1) ?_ ?_
  · exact ⟨by unfold HasT; rw [hcs.out]; exact heap_alloc_new _ _, (Below.refl _ _).alloc (Nat.le_refl _) _⟩
  rintro w1 ⟨ht, hb1⟩
  have c0 := ht.c0
  rw [hk] at c0
  have c1 := Box.mk (ht.hash hok)
  have hz := hb1.size
  have hlt := ht.lt
  clear ht hcs hk
  go_wp2
  go_ret
  exact ⟨_, w.heap.size, rfl, .inr ⟨3, 32, by rw [hok]; rfl, by omega, hlt, c1.out⟩, hb1⟩
set_option maxHeartbeats 1000000 in
theorem bytes_bool (t : Th) (w : World) (hok : t.hash.length = 32) (hk : t.kind = 4) :
    Calls Try.prog 11 #[.agg t.cells.toArray] w fun e w' => ∃ v g, e = .returned v ∧ Rv w' v ([bit t.flag]) g ∧ Below w.heap.size w w' := by
  obtain ⟨cs, hcs⟩ : ∃ cs, Box (t.cells = cs) := ⟨_, ⟨rfl⟩⟩
  rw [hcs.out]
  go_enter Try.func11, Try.ntmps11
  go_upto_region 1 with fail
  refine code_any (fun w1 => HasT w1 w.heap.size t ∧ Below w.heap.size w w1) ?_ ?_
  · exact ⟨by unfold HasT; rw [hcs.out]; exact heap_alloc_new _ _, (Below.refl _ _).alloc (Nat.le_refl _) _⟩
  rintro w1 ⟨ht, hb1⟩
  have c0 := ht.c0
  rw [hk] at c0
  have c1 := ht.c36 hok
  have hz := hb1.size
  clear ht hcs hk
  cases hf : t.flag with
  | true =>
    rw [hf] at c1
    go_wp2
    go_ret
    have hn1 := rv_new1 w1 1
    rw [show bv 1 = 1 from rfl] at hn1
    rw [hf]
    exact ⟨_, w1.heap.size, rfl, hn1, hb1.alloc hz _⟩
  | false =>
    rw [hf] at c1
    go_wp2
    go_ret
    have hn1 := rv_new1 w1 0
    rw [show bv 0 = 0 from rfl] at hn1
    rw [hf]
    exact ⟨_, w1.heap.size, rfl, hn1, hb1.alloc hz _⟩
set_option maxHeartbeats 1000000 in
theorem bytes_none (t : Th) (w : World) (h0 : t.kind ≠ 0) (h1 : t.kind ≠ 1) (h2 : t.kind ≠ 2) (h3 : t.kind ≠ 3) (h4 : t.kind ≠ 4) :
    Calls Try.prog 11 #[.agg t.cells.toArray] w fun e w' => ∃ v g, e = .returned v ∧ Rv w' v [] g ∧ Below w.heap.size w w' := by
  obtain ⟨cs, hcs⟩ : ∃ cs, Box (t.cells = cs) := ⟨_, ⟨rfl⟩⟩
  rw [hcs.out]
  go_enter Try.func11, Try.ntmps11
  go_upto_region 1 with fail
  refine code_any (fun w1 => HasT w1 w.heap.size t ∧ Below w.heap.size w w1) ?_ ?_
  · exact ⟨by unfold HasT; rw [hcs.out]; exact heap_alloc_new _ _, (Below.refl _ _).alloc (Nat.le_refl _) _⟩
  rintro w1 ⟨ht, hb1⟩
  have c0 := ht.c0
  have q0 : (t.kind == 0) = false := by simpa using h0
  have q1 : (t.kind == 1) = false := by simpa using h1
  have q2 : (t.kind == 2) = false := by simpa using h2
  have q3 : (t.kind == 3) = false := by simpa using h3
  have q4 : (t.kind == 4) = false := by simpa using h4
  clear ht hcs
  go_wp2
  go_ret
  exact ⟨_, 0, rfl, .inl ⟨rfl, rfl⟩, hb1⟩
set_option maxHeartbeats 1000000 in
theorem bytes_hashes (t : Th) (w : World) (hok : t.hash.length = 32) (hfl : Fl w t.A t.lb t.lo t.N t.D) (hN : t.N ≤ 1000) (hk : t.kind = 3) :
    Calls Try.prog 11 #[.agg t.cells.toArray] w fun e w' => ∃ v g, e = .returned v ∧ Rv w' v (beN t.N 4 ++ t.D) g ∧ Below w.heap.size w w' := by
  obtain ⟨i0, hi, hz0, hz1, hz2⟩ := info_parts Try.info28
  obtain ⟨cs, hcs⟩ : ∃ cs, Box (t.cells = cs) := ⟨_, ⟨rfl⟩⟩
  rw [hcs.out]
  go_enter Try.func11, Try.ntmps11
  go_upto_region 1 with fail
  refine code_any (fun w1 => HasT w1 w.heap.size t ∧ Below w.heap.size w w1) ?_ ?_
  · exact ⟨by unfold HasT; rw [hcs.out]; exact heap_alloc_new _ _, (Below.refl _ _).alloc (Nat.le_refl _) _⟩
  rintro w1 ⟨ht, hb1⟩
  have c0 := ht.c0
  rw [hk] at c0
  have c1 := ht.c35 hok
  have hfl' := Box.mk hfl
  clear ht hcs hk hfl
  go_wp2
  clear c0 c1
  go_loopw [3, 27] (fun v i wr => ∃ k : Nat, k ≤ t.N ∧ i = .int .i64 k ∧ Box (wr.ownsRow w.heap.size 28 32 v k ((t.D.take (32 * k)).map V)) ∧ Box (Below w.heap.size w wr)) (fun _ i _ => t.N - (intOf i).toNat)
  case atStart => exact ⟨0, by omega, rfl, ⟨by simpa using World.ownsRow_nil w1 w.heap.size 28 32⟩, ⟨hb1⟩⟩
  case round =>
    clear hb1
    obtain ⟨k, hk, rfl, ho, hb⟩ := hrel
    by_cases hlt : k < t.N
    · obtain ⟨hA, hlw, _⟩ := hfl'.out.src (by omega)
      have hrg := Box.mk ((hfl'.out.below hb.out (fun hn => (hfl'.out.src hn).2.1)).range k hlt)
      have hn32 := nth_len t.D t.N k hfl'.out.len hlt
      have hnt := Box.mk (nth_take t.D k)
      generalize nth t.D k = hh at hrg hn32 hnt
      rw [hA]
      have hz := hb.out.size
      have hsz : Box ((hh.map V).length = 32) := ⟨by rw [List.length_map]; exact hn32⟩
      have hsa : Box ((hh.map V).toArray.size = 32) := ⟨by simp [hn32]⟩
      have hz32 : Box ((z32.map V).toArray.size = 32) := ⟨by simp [z32]⟩
      go_upto_region 13 with (first | (refine wpList_load_mid rfl 29 (.tmp 29) rfl t.lb (t.lo + k * 32) rfl (hh.map V) _ hrg.out Try.under29 rfl (by rw [hsz.out]; exact Try.size29) ?_) | (refine wpList_store_row rfl 29 (.tmp 5) (.tmp 30) rfl wr.heap.size (hh.map V).toArray rfl rfl 29 (z32.map V).toArray (heap_alloc_new _ _) (by rw [hsa.out]; exact Try.size29) (by rw [hsa.out, hz32.out]) (V_all _) ?_))
      go_frame
      refine code_any (fun w5 => HasV w5 wr.heap.size 29 hh ∧ Below wr.heap.size wr w5) ?_ ?_
      · exact ⟨setRow_heap _ _ _ _ 29 (0, 0) (heap_alloc_new _ _), below_setRow2 ((Below.refl _ _).alloc (Nat.le_refl _) _) (Nat.le_refl _) _⟩
      rintro w5 ⟨hv5, hb5⟩
      have hbd := Box.mk (Try.build28 hh hn32 w5)
      have ho5 : Box ((w5.alloc (.cells (hh.map V).toArray 28)).ownsRow w.heap.size 28 32 u3 k ((t.D.take (32 * k)).map V)) := ⟨by
        refine World.ownsRow.alloc ?_ _
        refine ⟨ho.out.1, ho.out.2.imp id (fun ⟨g, cap, cur, e, hg, hgg, r⟩ => ⟨g, cap, cur, e, hg, ?_, r⟩)⟩
        rw [hb5.block g (Array.getElem?_eq_some_iff.1 hgg).1]; exact hgg⟩
      have hk5 : Box (w5.heap[wr.heap.size]? = some (.cells (hh.map V).toArray 29 (0, 0))) := ⟨hv5⟩
      have hz5 := hb5.size
      have hb6 : Box (Below w.heap.size w w5) := ⟨hb.out.trans ⟨hb5.os, hb5.tape, hb5.output, hb5.size, fun q hq => hb5.block q (by omega)⟩⟩
      clear hv5 hb5
      go_wp2_with (first | (refine wpList_load_row rfl 29 (.tmp 5) rfl wr.heap.size rfl 29 _ (0, 0) _ hk5.out Try.under29 rfl (by rw [hsa.out]; exact Try.size29) ?_) | (refine wpList_build (w := w5) rfl 59 (.tmp 32) rfl (.agg (hh.map V).toArray) (.slice (some ⟨w5.heap.size, 0, none⟩) 1 1) rfl hbd.out ?_) | (at_builtin; refine wpList_append_own _ rfl (.tmp 31) (.tmp 33) 59 rfl w.heap.size 28 i0 _ 32 32 Try.under59 hi hz0 hz1 hz2 rfl (by decide) u3 k _ rfl ho5.out ⟨w5.heap.size, 0, none⟩ 1 1 (hh.map V) rfl (by have := hsz.out; omega) (World.news_of_block (cs := (hh.map V).toArray) (heap_alloc_new _ _)) (V_one hh) (by unfold maxLen; omega) (by omega) (by simp; omega) ?_; intro v2 w6 own2 gr2 _; have gr2' := Box.mk gr2; have own2' := Box.mk own2; clear own2 gr2))
      have ho7 : Box (w6.ownsRow w.heap.size 28 32 v2 (k + 1) ((t.D.take (32 * (k + 1))).map V)) := ⟨by
        have := own2'.out
        rw [hnt.out, List.map_append]
        exact this⟩
      have hb7 : Box (Below w.heap.size w w6) := ⟨(hb6.out.alloc hb6.out.size _).grown gr2'.out (by simp; omega) (fun q e => (ho5.out.lt q e).1)⟩
      clear own2' gr2' ho5 hk5 hb6 hbd ho hb hrg
      go_wp2
      go_roundw
      case rel => first | exact ⟨k + 1, by omega, by go_num, ho7, hb7⟩ | exact ⟨_, _, _, ⟨k + 1, by omega, by go_num, ho7, hb7⟩, rfl, rfl, rfl⟩
      case measure => simp [intOf]; omega
    · have hkn : k = t.N := by omega
      have ho2 := ho.out
      rw [hkn, List.take_of_length_le (by have := hfl'.out.len; omega)] at ho2
      obtain ⟨A2, c2, g2, rfl, hf2⟩ := own_fl ho2
      have hz := hb.out.size
      have hT := Box.mk (refHashes_any A2 g2 0 t.N c2 t.D wr hf2 hN)
      clear ho ho2 hf2
      go_wp2_with (go_at_call 32; refine hT.out.mono ?_; rintro e w2 ⟨v2, rfl, h1, h2⟩; have h1' := Box.mk h1; clear h1)
      go_ret
      have hl : (beN t.N 4 ++ t.D).length = 4 + 32 * t.N := by rw [List.length_append, beN_len, hfl'.out.len]
      obtain ⟨g, a, c, e, _, _, hr⟩ := own_apart h1'.out h2.size
      exact ⟨_, g, rfl, hr, hb.out.trans ⟨h2.os, h2.tape, h2.output, h2.size, fun q hq => h2.block q (by omega)⟩⟩
/-- bytes, whatever the kind. -/
theorem bytes_any (t : Th) (w : World) (hok : t.hash.length = 32) (hfl : Fl w t.A t.lb t.lo t.N t.D) (hN : t.N ≤ 1000) (hs : t.text.size ≤ 1000) :
    Calls Try.prog 11 #[.agg t.cells.toArray] w fun e w' => ∃ v g, e = .returned v ∧ Rv w' v t.enc g ∧ Below w.heap.size w w' := by
  unfold Th.enc
  by_cases h0 : t.kind = 0
  · rw [if_pos h0]; exact bytes_int t w h0
  by_cases h1 : t.kind = 1
  · rw [if_neg h0, if_pos h1]; exact bytes_text t w hs h1
  by_cases h2 : t.kind = 2
  · rw [if_neg h0, if_neg h1, if_pos h2]; exact bytes_hash t w hok h2
  by_cases h3 : t.kind = 3
  · rw [if_neg h0, if_neg h1, if_neg h2, if_pos h3]; exact bytes_hashes t w hok hfl hN h3
  by_cases h4 : t.kind = 4
  · rw [if_neg h0, if_neg h1, if_neg h2, if_neg h3, if_pos h4]; exact bytes_bool t w hok h4
  · rw [if_neg h0, if_neg h1, if_neg h2, if_neg h3, if_neg h4]; exact bytes_none t w h0 h1 h2 h3 h4
end Go.Proofs.Ytkgfcddjjghohaa
