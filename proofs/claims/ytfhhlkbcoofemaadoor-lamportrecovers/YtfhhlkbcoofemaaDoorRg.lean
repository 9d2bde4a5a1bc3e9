/- What the law's ends hands back. -/
import Derived.Test.YtfhhlkbcoofemaaDoorRf
namespace Go.Proofs.YtfhhlkbcoofemaaDoor
open Go.RowKit
section
variable {Q : Exit → Act → World → Prop} {o : Oper} {a : Act} {w : World} {ops : Array Oper} {rest : List Oper}
theorem wl_run {P : Program} (hgd : o.guard = none) {v : Value} {w' : World} (hr : (execOp a.eval o).run P w = .ok (.value v) w') (h : wpList P ops Q rest (a.put o.dst v) w') : wpList P ops Q (o :: rest) a w := by
  unfold wpList
  rw [if_pos (by unfold Region.wanted; rw [hgd])]
  refine .inl ?_
  unfold Oper.wp
  rw [hr]
  exact h
theorem wl_build (hgd : o.guard = none) (x : Operand) (ho : o.op = .buildSlice 27 1 #[(0, x)]) (hh : List (BitVec 8)) (hl : hh.length = 32) (hx : a.eval x = .agg (hh.map V).toArray)
    (h : wpList Tryd.prog ops Q rest (a.put o.dst (.slice (some ⟨w.heap.size, 0, none⟩) 1 1)) (w.alloc (.cells (hh.map V).toArray 23))) : wpList Tryd.prog ops Q (o :: rest) a w := by
  refine wl_run hgd (v := .slice (some ⟨w.heap.size, 0, none⟩) 1 1) (w' := w.alloc (.cells (hh.map V).toArray 23)) ?_ h
  have := Tryd.build27 hh hl w
  unfold execOp
  rw [ho]
  simp [hx, this]
theorem appendH (hgd : o.guard = none) (s x : Operand) (ho : o.op = .call { callee := .builtin .append, args := #[s, x], argTypes := #[27, 27] })
    (wL : World) (v : Value) (hs : List (List (BitVec 8))) (hh : List (BitVec 8)) (g : Nat) (hsv : a.eval s = v) (hs1 : (Fk.ow wL.heap.size hs).f v w) (hx : a.eval x = .slice (some ⟨g, 0, none⟩) 1 1) (hv : HasV w g 23 hh) (hhl : hh.length = 32) (hL : Below wL.heap.size wL w) (hN : hs.length ≤ 1000)
    (h : ∀ v' w', (Fk.ow wL.heap.size (hs ++ [hh])).f v' w' → Below wL.heap.size wL w' → wpList Tryd.prog ops Q rest (a.put o.dst v') w') : wpList Tryd.prog ops Q (o :: rest) a w := by
  obtain ⟨i0, hi, hz0, hz1, hz2⟩ := info_parts Tryd.info23
  obtain ⟨hown, h32⟩ := hs1
  refine wpList_append_own w hgd s x 27 ho wL.heap.size 23 i0 _ 32 32 Tryd.under27' hi hz0 hz1 hz2 (by simp [Value.cells, hz_len]) (by decide) v hs.length _ hsv hown ⟨g, 0, none⟩ 1 1 (hh.map V) hx (by simp [hhl]) ?_ (V_one hh) (by unfold maxLen; omega) (by omega) hL.size ?_
  · intro j u hj
    have := hv.bytes.src hh.length j u
    rw [List.take_of_length_le (Nat.le_refl _)] at this
    exact this hj
  · intro v' w' h1 h2 _
    refine h v' w' ⟨?_, fun i y hi => ?_⟩ (hL.grown h2 hL.size (fun k e => (World.ownsRow.lt hown k e).1))
    · rw [List.length_append, List.flatten_append, List.map_append]
      simpa using h1
    · by_cases hil : i < hs.length
      · exact h32 i y (by rw [List.getElem?_append_left hil] at hi; exact hi)
      · rw [List.getElem?_append_right (by omega)] at hi
        cases hq : i - hs.length with
        | zero =>
          rw [hq] at hi
          obtain rfl : hh = y := by simpa using hi
          exact hhl
        | succ n => rw [hq] at hi; simp at hi
end
theorem ow_alloc {base : Nat} {hs : List (List (BitVec 8))} {v : Value} {w w' : World} (h : (Fk.ow base hs).f v w) (hb : Below w.heap.size w w') : (Fk.ow base hs).f v w' := Fk.mono _ _ _ _ h hb
set_option maxRecDepth 100000 in
set_option maxHeartbeats 1000000 in
theorem ends_any (seed : List (BitVec 8)) (key : Int) (w : World) (hx : seed.length = 32) (hK : Tab w) :
    Calls Tryd.prog 9 #[.agg (seed.map V).toArray, .int .i64 key] w fun e w' => ∃ v, e = .returned v ∧ (Fk.hs (all512 (edOf seed key))).f v w' ∧ Below w.heap.size w w' := by
  go_enter Tryd.func9, Tryd.ntmps9
  obtain ⟨wL, hwL⟩ : ∃ wL, wL = w.alloc (Obj.cells (List.map V seed).toArray 23) := ⟨_, rfl⟩
  have hLs : wL.heap.size = w.heap.size + 1 := by rw [hwL]; simp
  have hLv : HasV wL w.heap.size 23 seed := by rw [hwL]; exact heap_alloc_new _ _
  have hLb : Below w.heap.size w wL := by rw [hwL]; exact (Below.refl _ _).alloc (Nat.le_refl _) _
  go_upto_region 2 with fail
  rw [← hwL]
  clear hwL
  go_wp2
  go_loopw [5, 8] (fun v i wr => ∃ k : Nat, k ≤ 256 ∧ i = .int .i64 (k : Int) ∧ Box ((Fk.ow wL.heap.size (firsts (edOf seed key) (2 * k))).f v wr) ∧ Box (Below wL.heap.size wL wr)) (fun _ i _ => 256 - (intOf i).toNat)
  case atStart => exact ⟨0, by omega, rfl, ⟨ow_nil _ _⟩, ⟨Below.refl _ _⟩⟩
  case round =>
    obtain ⟨k, hk256, rfl, hown, hb⟩ := hrel
    by_cases hlt : k < 256
    · have hd : decide ((k : Int) < 256) = true := by simp; omega
      go_wp2
      go_loopw [5, 11] (fun v i wr => ∃ b : Nat, b ≤ 2 ∧ i = .int .i64 (b : Int) ∧ Box ((Fk.ow wL.heap.size (firsts (edOf seed key) (2 * k + b))).f v wr) ∧ Box (Below wL.heap.size wL wr)) (fun _ i _ => 2 - (intOf i).toNat)
      case atStart => exact ⟨0, by omega, rfl, hown, hb⟩
      case round =>
        clear hown hb
        obtain ⟨b, hb2, rfl, hown, hb⟩ := hrel
        by_cases hbl : b < 2
        · have hv1' : Box (HasV wr w.heap.size 23 seed) := ⟨hLv.below hb.out (by omega)⟩
          have hsz : Box ((seed.map V).toArray.size = 32) := ⟨by simp [hx]⟩
          have hT : Tab wr := hK.below (hLb.trans (hb.out.mono (by omega)))
          have hS : Box (Calls Tryd.prog 12 #[.agg (seed.map V).toArray, .int .i64 key, .int .i64 (67 + 2 * (k : Int) + (b : Int))] wr fun e w' => e = .returned (.agg ((sc seed key k b).map V).toArray) ∧ Below wr.heap.size wr w') := ⟨by
            have := sec_any seed key ((67 + 2 * k + b : Nat) : Int) wr hx hT
            rw [show ((67 + 2 * k + b : Nat) : Int) = 67 + 2 * (k : Int) + (b : Int) by omega] at this
            unfold sc
            rw [show ((67 + 2 * k + b : Nat) : Int) = 67 + 2 * (k : Int) + (b : Int) by omega]
            exact this⟩
          have hE : Box (∀ w2, Tab w2 → Calls Tryd.prog 14 #[.agg ((sc seed key k b).map V).toArray, .int .i64 (67 + (k : Int)), .int .i64 (b : Int)] w2 fun e w' => e = .returned (.agg ((en (sc seed key k b) k b).map V).toArray) ∧ Below w2.heap.size w2 w') := ⟨fun w2 h2 => by
            have := chn_any (sc seed key k b) ((67 + k : Nat) : Int) (b : Int) w2 (sc_len _ _ _ _) h2
            rw [show ((67 + k : Nat) : Int) = 67 + (k : Int) by omega] at this
            unfold en
            rw [show ((67 + k : Nat) : Int) = 67 + (k : Int) by omega]
            exact this⟩
          have hP := Box.mk (firsts_succ (edOf seed key) (2 * k + b))
          rw [edOf_at seed key k b (by omega)] at hP
          obtain ⟨y, hy⟩ : ∃ y, Box (en (sc seed key k b) k b = y) := ⟨_, ⟨rfl⟩⟩
          have hel : y.length = 32 := by rw [← hy.out]; exact en_len _ _ _
          rw [hy.out] at hE hP
          have hpl := Box.mk (firsts_len (edOf seed key) (2 * k + b))
          generalize sc seed key k b = z at hS hE
          clear hy
          go_wp2_with (first | (refine wpList_load_row rfl 23 (.tmp 2) rfl w.heap.size rfl 23 _ (0, 0) _ hv1'.out Tryd.under23 rfl (by rw [hsz.out]; exact Tryd.size23) ?_) | (go_at_call 12; refine hS.out.mono ?_; rintro e w2 ⟨rfl, hb2'⟩; have hT2 := hT.below hb2') | (go_at_call 14; refine (hE.out w2 hT2).mono ?_; rintro e w3 ⟨rfl, hb3⟩; have hb4 : Below wr.heap.size wr w3 := hb2'.trans (hb3.mono hb2'.size); have hr3 := Box.mk (ow_alloc (ow_alloc hown.out hb4) ((Below.refl _ _).alloc (Nat.le_refl _) (Obj.cells (y.map V).toArray 23))); have hb5 := Box.mk ((hb.out.trans (hb4.mono hb.out.size)).alloc (hb.out.trans (hb4.mono hb.out.size)).size (Obj.cells (y.map V).toArray 23)); clear hb4 hb3 hb2' hown hv1' hb) | (refine wl_build rfl (.tmp 26) rfl y hel rfl ?_) | (at_builtin; refine appendH rfl (.tmp 14) (.tmp 27) rfl wL _ _ y w3.heap.size rfl hr3.out rfl (heap_alloc_new _ _) hel hb5.out (by rw [hpl.out]; omega) ?_; intro v2 w4 own2 hb6; have ownB := Box.mk own2; have hbB := Box.mk hb6; clear own2 hb6 hr3 hb5))
          refine ⟨⟨b + 1, by omega, by go_num, ⟨?_⟩, hbB⟩, by simp [intOf]; omega⟩
          rw [← Nat.add_assoc, hP.out]
          exact ownB.out
        · obtain rfl : b = 2 := by omega
          go_wp2
          refine ⟨⟨k + 1, by omega, by go_num, ?_, hb⟩, by simp [intOf]; omega⟩
          rw [show 2 * (k + 1) = 2 * k + 2 by omega]
          exact hown
    · obtain rfl : k = 256 := by omega
      rw [show 2 * 256 = 512 by rfl, firsts_all] at hown
      go_wp2
      refine bodyPost_ret (results_tmp rfl _ _ _) rfl ⟨_, rfl, ow_hs hown.out, hLb.trans (hb.out.mono (by omega))⟩
end Go.Proofs.YtfhhlkbcoofemaaDoor
