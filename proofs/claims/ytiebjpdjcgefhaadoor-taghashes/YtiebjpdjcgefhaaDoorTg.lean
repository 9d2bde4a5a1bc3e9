/- What the law on sums of bytes answers at values in memory: true. -/
import Derived.Test.YtiebjpdjcgefhaaDoorTf
namespace Go.Proofs.YtiebjpdjcgefhaaDoor
open Go.RowKit
theorem Tryd.enter7 (args : Array Value) (w : World) : (callFunc 7 args).run Tryd.prog w = .ok (.enter 7 args) w := by kernel_rfl
theorem Tryd.enter8 (args : Array Value) (w : World) : (callFunc 8 args).run Tryd.prog w = .ok (.enter 8 args) w := by kernel_rfl
theorem Tryd.enter9 (args : Array Value) (w : World) : (callFunc 9 args).run Tryd.prog w = .ok (.enter 9 args) w := by kernel_rfl
theorem Tryd.enter10 (args : Array Value) (w : World) : (callFunc 10 args).run Tryd.prog w = .ok (.enter 10 args) w := by kernel_rfl
theorem Tryd.enter11 (args : Array Value) (w : World) : (callFunc 11 args).run Tryd.prog w = .ok (.enter 11 args) w := by kernel_rfl
theorem Tryd.enter12 (args : Array Value) (w : World) : (callFunc 12 args).run Tryd.prog w = .ok (.enter 12 args) w := by kernel_rfl
theorem Tryd.enter13 (args : Array Value) (w : World) : (callFunc 13 args).run Tryd.prog w = .ok (.enter 13 args) w := by kernel_rfl
theorem f_at {q : Fk} {a : Act} {x : Operand} {v : Value} {w : World} (e : a.eval x = v) (h : q.f v w) : q.f (a.eval x) w := by rw [e]; exact h
theorem two_args {a : Act} {x y : Operand} {u v : Value} (h : a.eval x = u) (h2 : a.eval y = v) : ((#[x, y].toList.map a.eval).toArray : Array Value) = #[u, v] := by rw [← h, ← h2]; rfl
theorem fk_record {xs bs : List (BitVec 8)} {v : Value} {w : World} (hx : xs.length = 32) (hT : bs.length ≤ 800000) (hK : Tab w) (h : (Fk.sl bs).f v w) :
    Calls Tryd.prog 13 #[.agg (xs.map V).toArray, v] w fun e w' => ∃ u, e = .returned u ∧ (Fk.eq (.agg ((shaOf (kb 7 :: (xs ++ bs))).map V).toArray)).f u w' ∧ Below w.heap.size w w' := by
  obtain ⟨sp, m, c, b, o, rfl, hs⟩ := h
  refine (record_any xs b o sp m c bs w hx hs hT hK).mono ?_
  rintro e w' ⟨rfl, hb⟩
  exact ⟨_, rfl, rfl, hb⟩
set_option maxHeartbeats 1000000 in
theorem bytes_law (sp : Option Addr) (n c b o : Nat) (bs xs : List (BitVec 8)) (w : World) (hs : Sl w sp n c bs b o) (hx : xs.length = 32) (hm : n ≤ maxLen) (hK : Tab w) :
    Calls Tryd.prog 3 #[.slice sp n c, .agg (xs.map V).toArray] w fun e w' => e = .returned (.bool true) ∧ Below w.heap.size w w' := by
  unfold maxLen at hm
  have hs' : Box (Sl w sp n c bs b o) := ⟨hs⟩
  have hn := hs.len
  have hn' : Box (n = bs.length) := ⟨hn⟩
  clear hs hn
  by_cases h5 : 500 < n
  · go_enter Tryd.func3, Tryd.ntmps3
    go_wp2_with fail
    have hb1 : ∀ ob, Below w.heap.size w (w.alloc ob) := fun ob => (Below.refl _ _).alloc (Nat.le_refl _) _
    refine (awake_any _ (hK.below (hb1 _)).K (hK.below (hb1 _)).pos).mono ?_
    rintro e w6 ⟨rfl, hb8⟩
    have hb9 := (hb1 _).trans (hb8.mono (hb1 _).size)
    clear hb8 hb1
    go_wp2
    go_ret
    exact ⟨rfl, hb9⟩
  · have hbl : bs.length ≤ 500 := by rw [← hn'.out]; omega
    have l0 : (shaOf (kb 0 :: bs)).length = 32 := shaOf_len _
    have C0 : ∀ (v : Value) (w' : World), Tab w' → (Fk.sl bs).f v w' → Calls Tryd.prog 8 #[v] w' fun e w2 => ∃ u, e = .returned u ∧ (Fk.eq (.agg ((shaOf (kb 0 :: bs)).map V).toArray)).f u w2 ∧ Below w'.heap.size w' w2 := fun v w' ht h => fk_leaf (by omega) ht h
    have S0 : ∀ (v : Value) (w' : World), Tab w' → (Fk.sl (kb 0 :: bs)).f v w' → Calls Tryd.prog 9 #[v] w' fun e w2 => ∃ u, e = .returned u ∧ (Fk.eq (.agg ((shaOf (kb 0 :: bs)).map V).toArray)).f u w2 ∧ Below w'.heap.size w' w2 := fun v w' ht h => fk_sum (by simp; omega) ht h
    generalize shaOf (kb 0 :: bs) = h0 at l0 C0 S0
    have C0' := hide C0
    have S0' := hide S0
    clear C0 S0
    have l1 : (shaOf (kb 5 :: bs)).length = 32 := shaOf_len _
    have C1 : ∀ (v : Value) (w' : World), Tab w' → (Fk.sl bs).f v w' → Calls Tryd.prog 11 #[v] w' fun e w2 => ∃ u, e = .returned u ∧ (Fk.eq (.agg ((shaOf (kb 5 :: bs)).map V).toArray)).f u w2 ∧ Below w'.heap.size w' w2 := fun v w' ht h => fk_message (by omega) ht h
    have S1 : ∀ (v : Value) (w' : World), Tab w' → (Fk.sl (kb 5 :: bs)).f v w' → Calls Tryd.prog 9 #[v] w' fun e w2 => ∃ u, e = .returned u ∧ (Fk.eq (.agg ((shaOf (kb 5 :: bs)).map V).toArray)).f u w2 ∧ Below w'.heap.size w' w2 := fun v w' ht h => fk_sum (by simp; omega) ht h
    generalize shaOf (kb 5 :: bs) = h1 at l1 C1 S1
    have C1' := hide C1
    have S1' := hide S1
    clear C1 S1
    have l2 : (shaOf (kb 6 :: bs)).length = 32 := shaOf_len _
    have C2 : ∀ (v : Value) (w' : World), Tab w' → (Fk.sl bs).f v w' → Calls Tryd.prog 12 #[v] w' fun e w2 => ∃ u, e = .returned u ∧ (Fk.eq (.agg ((shaOf (kb 6 :: bs)).map V).toArray)).f u w2 ∧ Below w'.heap.size w' w2 := fun v w' ht h => fk_file (by omega) ht h
    have S2 : ∀ (v : Value) (w' : World), Tab w' → (Fk.sl (kb 6 :: bs)).f v w' → Calls Tryd.prog 9 #[v] w' fun e w2 => ∃ u, e = .returned u ∧ (Fk.eq (.agg ((shaOf (kb 6 :: bs)).map V).toArray)).f u w2 ∧ Below w'.heap.size w' w2 := fun v w' ht h => fk_sum (by simp; omega) ht h
    generalize shaOf (kb 6 :: bs) = h2 at l2 C2 S2
    have C2' := hide C2
    have S2' := hide S2
    clear C2 S2
    have l3 : (shaOf (kb 7 :: (xs ++ bs))).length = 32 := shaOf_len _
    have C3 : ∀ (v : Value) (w' : World), Tab w' → (Fk.sl bs).f v w' → Calls Tryd.prog 13 #[.agg (xs.map V).toArray, v] w' fun e w2 => ∃ u, e = .returned u ∧ (Fk.eq (.agg ((shaOf (kb 7 :: (xs ++ bs))).map V).toArray)).f u w2 ∧ Below w'.heap.size w' w2 := fun v w' ht h => fk_record hx (by omega) ht h
    have S3 : ∀ (v : Value) (w' : World), Tab w' → (Fk.sl (kb 7 :: (xs ++ bs))).f v w' → Calls Tryd.prog 9 #[v] w' fun e w2 => ∃ u, e = .returned u ∧ (Fk.eq (.agg ((shaOf (kb 7 :: (xs ++ bs))).map V).toArray)).f u w2 ∧ Below w'.heap.size w' w2 := fun v w' ht h => fk_sum (by simp; omega) ht h
    generalize shaOf (kb 7 :: (xs ++ bs)) = h3 at l3 C3 S3
    have C3' := hide C3
    have S3' := hide S3
    clear C3 S3
    go_enter Tryd.func3, Tryd.ntmps3
    go_upto_region 3 with fail
    refine code_any (fun w1 => HasV w1 w.heap.size 24 xs ∧ Below w.heap.size w w1) ?_ ?_
    · exact ⟨heap_alloc_new _ _, (Below.refl _ _).alloc (Nat.le_refl _) _⟩
    rintro w1 ⟨hv1, hb1⟩
    have hT1 : Tab w1 := hK.below hb1
    have hs0 : ∀ w', Below w1.heap.size w1 w' → (Fk.sl bs).f (.slice sp n c) w' := fun w' hb => ⟨sp, n, c, b, o, rfl, (Pt.ok_below (p := ⟨sp, n, c, bs, b, o⟩) (Pt.ok_below (p := ⟨sp, n, c, bs, b, o⟩) hs'.out hb1) hb)⟩
    have C0 := C0'.out
    have S0 := S0'.out
    have C1 := C1'.out
    have S1 := S1'.out
    have C2 := C2'.out
    have S2 := S2'.out
    have C3 := C3'.out
    have S3 := S3'.out
    refine wp_region_end [.sl bs, .eq (.agg (h0.map V).toArray), .sl bs, .ls 1 bs, .sl (kb 0 :: bs), .eq (.agg (h0.map V).toArray), .eq (.bool true), .eq (.bool true), .sl bs, .eq (.agg (h1.map V).toArray), .sl bs, .ls 1 bs, .sl (kb 5 :: bs), .eq (.agg (h1.map V).toArray), .eq (.bool true), .eq (.bool true), .eq (.bool true), .sl bs, .eq (.agg (h2.map V).toArray), .sl bs, .ls 1 bs, .sl (kb 6 :: bs), .eq (.agg (h2.map V).toArray), .eq (.bool true), .eq (.bool true), .eq (.bool true), .eq (.agg (xs.map V).toArray), .sl bs, .eq (.agg (h3.map V).toArray), .sl xs, .sl bs, .ls 2 (xs ++ bs), .sl (kb 7 :: (xs ++ bs)), .eq (.agg (h3.map V).toArray), .eq (.bool true), .eq (.bool true), .eq (.bool true), .eq (.bool true), .eq (.bool true)] Tryd.mixed (by kernel_rfl) (by kernel_rfl) (by kernel_rfl) (by kernel_rfl) ⟨fun _ a w' K => ?_, fun _ a w' K => ?_, fun _ a w' K => ?_, fun _ a w' K => ?_, fun _ a w' K => ?_, fun _ a w' K => ?_, fun _ a w' K => ?_, fun _ a w' K => ?_, fun _ a w' K => ?_, fun _ a w' K => ?_, fun _ a w' K => ?_, fun _ a w' K => ?_, fun _ a w' K => ?_, fun _ a w' K => ?_, fun _ a w' K => ?_, fun _ a w' K => ?_, fun _ a w' K => ?_, fun _ a w' K => ?_, fun _ a w' K => ?_, fun _ a w' K => ?_, fun _ a w' K => ?_, fun _ a w' K => ?_, fun _ a w' K => ?_, fun _ a w' K => ?_, fun _ a w' K => ?_, fun _ a w' K => ?_, fun _ a w' K => ?_, fun _ a w' K => ?_, fun _ a w' K => ?_, fun _ a w' K => ?_, fun _ a w' K => ?_, fun _ a w' K => ?_, fun _ a w' K => ?_, fun _ a w' K => ?_, fun _ a w' K => ?_, fun _ a w' K => ?_, fun _ a w' K => ?_, fun _ a w' K => ?_, fun _ a w' K => ?_, trivial⟩ ?_
    · exact st_move (.tmp 0) rfl (f_at (K.old 0 rfl) (hs0 _ K.grow))
    · exact st_call 8 (.func 8) _ _ #[a.eval (.tmp 9)] rfl rfl rfl Tryd.enter8 (C0 _ _ (hT1.below K.grow) (K.dep 0 9 rfl))
    · exact st_move (.tmp 0) rfl (f_at (K.old 0 rfl) (hs0 _ K.grow))
    · exact st_build1 (.tmp 11) rfl (K.dep 2 11 rfl)
    · exact st_call 10 (.func 10) _ _ #[.int .u8 (bv (kb 0)), a.eval (.tmp 12)] rfl rfl rfl Tryd.enter10 (fk_bytes (kb 0) (by first | omega | (simp; omega)) (by omega) (K.dep 3 12 rfl))
    · exact st_call 9 (.func 9) _ _ #[a.eval (.tmp 13)] rfl rfl rfl Tryd.enter9 (S0 _ _ (hT1.below K.grow) (K.dep 4 13 rfl))
    · exact st_eq24 (.tmp 10) (.tmp 14) rfl h0 l0 (K.dep 1 10 rfl) (K.dep 5 14 rfl)
    · exact st_move (.tmp 15) rfl (K.dep 6 15 rfl)
    · exact st_move (.tmp 0) rfl (f_at (K.old 0 rfl) (hs0 _ K.grow))
    · exact st_call 11 (.func 11) _ _ #[a.eval (.tmp 17)] rfl rfl rfl Tryd.enter11 (C1 _ _ (hT1.below K.grow) (K.dep 8 17 rfl))
    · exact st_move (.tmp 0) rfl (f_at (K.old 0 rfl) (hs0 _ K.grow))
    · exact st_build1 (.tmp 19) rfl (K.dep 10 19 rfl)
    · exact st_call 10 (.func 10) _ _ #[.int .u8 (bv (kb 5)), a.eval (.tmp 20)] rfl rfl rfl Tryd.enter10 (fk_bytes (kb 5) (by first | omega | (simp; omega)) (by omega) (K.dep 11 20 rfl))
    · exact st_call 9 (.func 9) _ _ #[a.eval (.tmp 21)] rfl rfl rfl Tryd.enter9 (S1 _ _ (hT1.below K.grow) (K.dep 12 21 rfl))
    · exact st_eq24 (.tmp 18) (.tmp 22) rfl h1 l1 (K.dep 9 18 rfl) (K.dep 13 22 rfl)
    · exact st_pick_t (.tmp 16) (.tmp 23) _ rfl (K.dep 7 16 rfl) (K.dep 14 23 rfl)
    · exact st_move (.tmp 24) rfl (K.dep 15 24 rfl)
    · exact st_move (.tmp 0) rfl (f_at (K.old 0 rfl) (hs0 _ K.grow))
    · exact st_call 12 (.func 12) _ _ #[a.eval (.tmp 26)] rfl rfl rfl Tryd.enter12 (C2 _ _ (hT1.below K.grow) (K.dep 17 26 rfl))
    · exact st_move (.tmp 0) rfl (f_at (K.old 0 rfl) (hs0 _ K.grow))
    · exact st_build1 (.tmp 28) rfl (K.dep 19 28 rfl)
    · exact st_call 10 (.func 10) _ _ #[.int .u8 (bv (kb 6)), a.eval (.tmp 29)] rfl rfl rfl Tryd.enter10 (fk_bytes (kb 6) (by first | omega | (simp; omega)) (by omega) (K.dep 20 29 rfl))
    · exact st_call 9 (.func 9) _ _ #[a.eval (.tmp 30)] rfl rfl rfl Tryd.enter9 (S2 _ _ (hT1.below K.grow) (K.dep 21 30 rfl))
    · exact st_eq24 (.tmp 27) (.tmp 31) rfl h2 l2 (K.dep 18 27 rfl) (K.dep 22 31 rfl)
    · exact st_pick_t (.tmp 25) (.tmp 32) _ rfl (K.dep 16 25 rfl) (K.dep 23 32 rfl)
    · exact st_move (.tmp 33) rfl (K.dep 24 33 rfl)
    · exact st_load24 (.tmp 3) rfl _ xs (K.old 3 rfl) hx (hv1.below K.grow hv1.lt)
    · exact st_move (.tmp 0) rfl (f_at (K.old 0 rfl) (hs0 _ K.grow))
    · exact st_call 13 (.func 13) _ _ #[.agg (xs.map V).toArray, a.eval (.tmp 36)] rfl rfl (two_args (K.dep 26 35 rfl) rfl) Tryd.enter13 (C3 _ _ (hT1.below K.grow) (K.dep 27 36 rfl))
    · exact st_slice24 (.tmp 3) rfl _ _ xs (K.old 3 rfl) hx (hv1.below K.grow hv1.lt).lt (hv1.below K.grow hv1.lt).bytes
    · exact st_move (.tmp 0) rfl (f_at (K.old 0 rfl) (hs0 _ K.grow))
    · exact st_build2 (.tmp 38) (.tmp 39) rfl (K.dep 29 38 rfl) (K.dep 30 39 rfl)
    · exact st_call 10 (.func 10) _ _ #[.int .u8 (bv (kb 7)), a.eval (.tmp 40)] rfl rfl rfl Tryd.enter10 (fk_bytes (kb 7) (by first | omega | (simp; omega)) (by omega) (K.dep 31 40 rfl))
    · exact st_call 9 (.func 9) _ _ #[a.eval (.tmp 41)] rfl rfl rfl Tryd.enter9 (S3 _ _ (hT1.below K.grow) (K.dep 32 41 rfl))
    · exact st_eq24 (.tmp 37) (.tmp 42) rfl h3 l3 (K.dep 28 37 rfl) (K.dep 33 42 rfl)
    · exact st_pick_t (.tmp 34) (.tmp 43) _ rfl (K.dep 25 34 rfl) (K.dep 34 43 rfl)
    · exact st_move (.tmp 44) rfl (K.dep 35 44 rfl)
    · exact st_call 7 (.func 7) _ _ #[] rfl rfl rfl Tryd.enter7 (fk_awake (hT1.below K.grow))
    · exact st_pick_t (.tmp 45) (.tmp 46) _ rfl (K.dep 36 45 rfl) (K.dep 37 46 rfl)
    · intro af w4 fin hb4
      have e3 : af.eval (.tmp 47) = .bool true := fin.has 38 47 rfl
      have hb6 : Below w.heap.size w w4 := hb1.trans (hb4.mono hb1.size)
      have hz : 4 < af.tmps.size := by rw [fin.size]; show 4 < 48; omega
      refine end_assign (.tmp 47) rfl rfl ?_
      rw [e3]
      go_wp2
      exact bodyPost_ret (v := .bool true) (ret_tmp rfl af _ hz _ _) fin.defs ⟨rfl, hb6⟩
end Go.Proofs.YtiebjpdjcgefhaaDoor
