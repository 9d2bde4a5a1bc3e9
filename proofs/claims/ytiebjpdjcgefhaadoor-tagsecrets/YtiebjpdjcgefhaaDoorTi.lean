/- What the law on secrets and steps of chains answers at values in memory: true. -/
import Derived.Test.YtiebjpdjcgefhaaDoorPy
namespace Go.Proofs.YtiebjpdjcgefhaaDoor
open Go.RowKit
theorem Tryd.enter15 (args : Array Value) (w : World) : (callFunc 15 args).run Tryd.prog w = .ok (.enter 15 args) w := by kernel_rfl
theorem Tryd.enter17 (args : Array Value) (w : World) : (callFunc 17 args).run Tryd.prog w = .ok (.enter 17 args) w := by kernel_rfl
theorem Tryd.enter18 (args : Array Value) (w : World) : (callFunc 18 args).run Tryd.prog w = .ok (.enter 18 args) w := by kernel_rfl
theorem Tryd.enter19 (args : Array Value) (w : World) : (callFunc 19 args).run Tryd.prog w = .ok (.enter 19 args) w := by kernel_rfl
theorem three_args {a : Act} {x y z : Operand} {u v t : Value} (h : a.eval x = u) (h2 : a.eval y = v) (h3 : a.eval z = t) : ((#[x, y, z].toList.map a.eval).toArray : Array Value) = #[u, v, t] := by rw [← h, ← h2, ← h3]; rfl
theorem fk_secret {xs : List (BitVec 8)} {m n : Int} {w : World} (hx : xs.length = 32) (hK : Tab w) :
    Calls Tryd.prog 18 #[.agg (xs.map V).toArray, .int .i64 m, .int .i64 n] w fun e w' => ∃ u, e = .returned u ∧ (Fk.eq (.agg ((shaOf (kb 3 :: (xs ++ (four m ++ four n)))).map V).toArray)).f u w' ∧ Below w.heap.size w w' := by
  refine (secret_any xs m n w hx hK).mono ?_
  rintro e w' ⟨rfl, hb⟩
  exact ⟨_, rfl, rfl, hb⟩
theorem fk_chain {xs : List (BitVec 8)} {m n : Int} {w : World} (hx : xs.length = 32) (hK : Tab w) :
    Calls Tryd.prog 17 #[.agg (xs.map V).toArray, .int .i64 m, .int .i64 n] w fun e w' => ∃ u, e = .returned u ∧ (Fk.eq (.agg ((shaOf (kb 2 :: (xs ++ (two m ++ two n)))).map V).toArray)).f u w' ∧ Below w.heap.size w w' := by
  refine (chain_any xs m n w hx hK).mono ?_
  rintro e w' ⟨rfl, hb⟩
  exact ⟨_, rfl, rfl, hb⟩
/-- The slots that stay. -/
structure Fr (a : Act) (pS pA pB : Nat) : Prop where
  e3 : a.eval (.tmp 3) = .pointer (some ⟨pS, 0, none⟩)
  e4 : a.eval (.tmp 4) = .pointer (some ⟨pA, 0, none⟩)
  e5 : a.eval (.tmp 5) = .pointer (some ⟨pB, 0, none⟩)
  e7 : a.eval (.tmp 7) = .func (.func 15) #[] #[]
  size : a.tmps.size = 140
  defs : a.defers = []
/-- The blocks that stay. -/
structure Sec (w : World) (pS pA pB : Nat) (seed : List (BitVec 8)) (a0 a1 b0 b1 : Int) : Prop where
  s : HasV w pS 24 seed
  a : w.heap[pA]? = some (.cells #[.int .i64 a0, .int .i64 a1] 39 (0, 0))
  b : w.heap[pB]? = some (.cells #[.int .i64 b0, .int .i64 b1] 39 (0, 0))
  t : Tab w
section
variable {w w' : World} {pS pA pB : Nat} {seed : List (BitVec 8)} {a0 a1 b0 b1 : Int}
theorem Sec.below (h : Sec w pS pA pB seed a0 a1 b0 b1) (hb : Below w.heap.size w w') : Sec w' pS pA pB seed a0 a1 b0 b1 :=
  ⟨h.s.below hb h.s.lt, (hb.block _ (Array.getElem?_eq_some_iff.1 h.a).1).trans h.a, (hb.block _ (Array.getElem?_eq_some_iff.1 h.b).1).trans h.b, h.t.below hb⟩
theorem Sec.ca0 (h : Sec w pS pA pB seed a0 a1 b0 b1) : w.cell? ⟨pA, 0, none⟩ = some (.int .i64 a0) := cell_of_row w pA 0 _ 39 _ h.a
theorem Sec.ca1 (h : Sec w pS pA pB seed a0 a1 b0 b1) : w.cell? ⟨pA, 1, none⟩ = some (.int .i64 a1) := cell_of_row w pA 1 _ 39 _ h.a
theorem Sec.cb0 (h : Sec w pS pA pB seed a0 a1 b0 b1) : w.cell? ⟨pB, 0, none⟩ = some (.int .i64 b0) := cell_of_row w pB 0 _ 39 _ h.b
theorem Sec.cb1 (h : Sec w pS pA pB seed a0 a1 b0 b1) : w.cell? ⟨pB, 1, none⟩ = some (.int .i64 b1) := cell_of_row w pB 1 _ 39 _ h.b
end
set_option maxRecDepth 100000 in
set_option maxHeartbeats 2000000 in
theorem secrets_law (seed : List (BitVec 8)) (a0 a1 b0 b1 : Int) (w : World) (hx : seed.length = 32) (hK : Tab w) :
    Calls Tryd.prog 6 #[.agg (seed.map V).toArray, .agg #[.int .i64 a0, .int .i64 a1], .agg #[.int .i64 b0, .int .i64 b1]] w fun e w' => e = .returned (.bool true) ∧ Below w.heap.size w w' := by
  have l0 : (shaOf (kb 3 :: (seed ++ (four a0 ++ four a1)))).length = 32 := shaOf_len _
  have C0 : ∀ (w' : World), Tab w' → Calls Tryd.prog 18 #[.agg (seed.map V).toArray, .int .i64 a0, .int .i64 a1] w' fun e w2 => ∃ u, e = .returned u ∧ (Fk.eq (.agg ((shaOf (kb 3 :: (seed ++ (four a0 ++ four a1)))).map V).toArray)).f u w2 ∧ Below w'.heap.size w' w2 := fun w' ht => fk_secret hx ht
  have S0 : ∀ (v : Value) (w' : World), Tab w' → (Fk.sl (kb 3 :: (seed ++ (four a0 ++ four a1)))).f v w' → Calls Tryd.prog 9 #[v] w' fun e w2 => ∃ u, e = .returned u ∧ (Fk.eq (.agg ((shaOf (kb 3 :: (seed ++ (four a0 ++ four a1)))).map V).toArray)).f u w2 ∧ Below w'.heap.size w' w2 := fun v w' ht h => fk_sum (by simp [four]; omega) ht h
  generalize shaOf (kb 3 :: (seed ++ (four a0 ++ four a1))) = h0 at l0 C0 S0
  have C0' := hide C0
  have S0' := hide S0
  clear C0 S0
  have l1 : (shaOf (kb 3 :: (seed ++ (four b0 ++ four b1)))).length = 32 := shaOf_len _
  have C1 : ∀ (w' : World), Tab w' → Calls Tryd.prog 18 #[.agg (seed.map V).toArray, .int .i64 b0, .int .i64 b1] w' fun e w2 => ∃ u, e = .returned u ∧ (Fk.eq (.agg ((shaOf (kb 3 :: (seed ++ (four b0 ++ four b1)))).map V).toArray)).f u w2 ∧ Below w'.heap.size w' w2 := fun w' ht => fk_secret hx ht
  have S1 : ∀ (v : Value) (w' : World), Tab w' → (Fk.sl (kb 3 :: (seed ++ (four b0 ++ four b1)))).f v w' → Calls Tryd.prog 9 #[v] w' fun e w2 => ∃ u, e = .returned u ∧ (Fk.eq (.agg ((shaOf (kb 3 :: (seed ++ (four b0 ++ four b1)))).map V).toArray)).f u w2 ∧ Below w'.heap.size w' w2 := fun v w' ht h => fk_sum (by simp [four]; omega) ht h
  generalize shaOf (kb 3 :: (seed ++ (four b0 ++ four b1))) = h1 at l1 C1 S1
  have C1' := hide C1
  have S1' := hide S1
  clear C1 S1
  have l2 : (shaOf (kb 2 :: (seed ++ (two a0 ++ two a1)))).length = 32 := shaOf_len _
  have C2 : ∀ (w' : World), Tab w' → Calls Tryd.prog 17 #[.agg (seed.map V).toArray, .int .i64 a0, .int .i64 a1] w' fun e w2 => ∃ u, e = .returned u ∧ (Fk.eq (.agg ((shaOf (kb 2 :: (seed ++ (two a0 ++ two a1)))).map V).toArray)).f u w2 ∧ Below w'.heap.size w' w2 := fun w' ht => fk_chain hx ht
  have S2 : ∀ (v : Value) (w' : World), Tab w' → (Fk.sl (kb 2 :: (seed ++ (two a0 ++ two a1)))).f v w' → Calls Tryd.prog 9 #[v] w' fun e w2 => ∃ u, e = .returned u ∧ (Fk.eq (.agg ((shaOf (kb 2 :: (seed ++ (two a0 ++ two a1)))).map V).toArray)).f u w2 ∧ Below w'.heap.size w' w2 := fun v w' ht h => fk_sum (by simp [two]; omega) ht h
  generalize shaOf (kb 2 :: (seed ++ (two a0 ++ two a1))) = h2 at l2 C2 S2
  have C2' := hide C2
  have S2' := hide S2
  clear C2 S2
  go_enter Tryd.func6, Tryd.ntmps6
  go_upto_region 2 with fail
  refine code_any (fun w1 => Sec w1 w.heap.size (w.heap.size + 1) (w.heap.size + 1 + 1) seed a0 a1 b0 b1 ∧ Below w.heap.size w w1) ?_ ?_
  · have hbb : ∀ o1 o2 o3, Below w.heap.size w (((w.alloc o1).alloc o2).alloc o3) := fun o1 o2 o3 => (((Below.refl _ _).alloc (Nat.le_refl _) _).alloc (by simp) _).alloc (by simp; omega) _
    refine ⟨⟨HasV.alloc (heap_alloc2_old _ _ _) _, ?_, heap_alloc3_new _ _ _ _, hK.below (hbb _ _ _)⟩, hbb _ _ _⟩
    rw [Below.heap_alloc _ _ _ (by simp)]
    exact heap_alloc2_new _ _ _
  rintro w0 ⟨sc0, hb0⟩
  generalize w.heap.size + 1 + 1 = pB at sc0 ⊢
  generalize w.heap.size + 1 = pA at sc0 ⊢
  generalize hpS : w.heap.size = pS at sc0 ⊢
  rw [hpS] at hb0
  rename_i KK hKK
  generalize hfr : (⟨#[_, _, _, _, _, _, _, _, _, _, _, _, _, _, _, _, _, _, _, _, _, _, _, _, _, _, _, _, _, _, _, _, _, _, _, _, _, _, _, _, _, _, _, _, _, _, _, _, _, _, _, _, _, _, _, _, _, _, _, _, _, _, _, _, _, _, _, _, _, _, _, _, _, _, _, _, _, _, _, _, _, _, _, _, _, _, _, _, _, _, _, _, _, _, _, _, _, _, _, _, _, _, _, _, _, _, _, _, _, _, _, _, _, _, _, _, _, _, _, _, _, _, _, _, _, _, _, _, _, _, _, _, _, _, _, _, _, _, _, _], _⟩ : Act) = f0
  have fr0 : Fr f0 pS pA pB := by subst hfr; exact ⟨rfl, rfl, rfl, rfl, rfl, rfl⟩
  clear hfr
  refine wp_region_assign [.sl seed, .eq (.func (.func 15) #[] #[]), .eq (.pointer (some ⟨pA, 0, none⟩)), .eq (.int .i64 a0), .sl (four a0), .eq (.func (.func 15) #[] #[]), .eq (.pointer (some ⟨pA, 1, none⟩)), .eq (.int .i64 a1), .sl (four a1), .ls 3 (seed ++ (four a0 ++ four a1)), .sl (kb 3 :: (seed ++ (four a0 ++ four a1)))] 10 24 8 Tryd.mixed (by kernel_rfl) (by kernel_rfl) (by rw [fr0.size]; rfl) (by kernel_rfl) (by kernel_rfl) (by rw [fr0.size]; kernel_rfl) (by kernel_rfl) ⟨fun _ a w' K => ?_, fun _ a w' K => ?_, fun _ a w' K => ?_, fun _ a w' K => ?_, fun _ a w' K => ?_, fun _ a w' K => ?_, fun _ a w' K => ?_, fun _ a w' K => ?_, fun _ a w' K => ?_, fun _ a w' K => ?_, fun _ a w' K => ?_, trivial⟩ ?_
  · exact st_slice24 (.tmp 3) rfl _ _ seed ((K.old 3 rfl).trans fr0.e3) hx (sc0.below K.grow).s.lt (sc0.below K.grow).s.bytes
  · exact st_move (.tmp 7) rfl ((K.old 7 rfl).trans fr0.e7)
  · exact st_at0 (.tmp 4) rfl _ ((K.old 4 rfl).trans fr0.e4)
  · exact st_load3 (.tmp 16) rfl _ _ _ (K.dep 2 16 rfl) (sc0.below K.grow).ca0
  · exact st_call 15 (.tmp 15) _ _ #[.int .i64 a0, .int .i64 4] rfl (K.dep 1 15 rfl) (two_args (K.dep 3 17 rfl) rfl) Tryd.enter15 (fk_number4 a0 w')
  · exact st_move (.tmp 7) rfl ((K.old 7 rfl).trans fr0.e7)
  · exact st_at1 (.tmp 4) rfl _ ((K.old 4 rfl).trans fr0.e4)
  · exact st_load3 (.tmp 20) rfl _ _ _ (K.dep 6 20 rfl) (sc0.below K.grow).ca1
  · exact st_call 15 (.tmp 19) _ _ #[.int .i64 a1, .int .i64 4] rfl (K.dep 5 19 rfl) (two_args (K.dep 7 21 rfl) rfl) Tryd.enter15 (fk_number4 a1 w')
  · exact st_build3 (.tmp 14) (.tmp 18) (.tmp 22) rfl (K.dep 0 14 rfl) (K.dep 4 18 rfl) (K.dep 8 22 rfl)
  · exact st_call 19 (.func 19) _ _ #[.int .i64 3, a.eval (.tmp 23)] rfl rfl rfl Tryd.enter19 (fk_input 3 (by simp [four]; omega) (by omega) (K.dep 9 23 rfl))
  intro f2 w2 A2 hb2
  have sc2 := sc0.below hb2
  have fr2 : Fr f2 pS pA pB := ⟨(A2.old 3 rfl).trans fr0.e3, (A2.old 4 rfl).trans fr0.e4, (A2.old 5 rfl).trans fr0.e5, (A2.old 7 rfl).trans fr0.e7, A2.size.trans fr0.size, A2.defs.trans fr0.defs⟩
  have x2 : (Fk.sl (kb 3 :: (seed ++ (four a0 ++ four a1)))).f (f2.eval (.tmp 8)) w2 := A2.new
  have hb2' : Below pS w w2 := hb0.trans (hb2.mono (by rw [← hpS]; exact hb0.size))
  clear A2 hb2 sc0 fr0 hb0
  refine hKK _ _ ?_
  refine wp_seq ?_
  refine wp_region_assign [.sl seed, .eq (.func (.func 15) #[] #[]), .eq (.pointer (some ⟨pB, 0, none⟩)), .eq (.int .i64 b0), .sl (four b0), .eq (.func (.func 15) #[] #[]), .eq (.pointer (some ⟨pB, 1, none⟩)), .eq (.int .i64 b1), .sl (four b1), .ls 3 (seed ++ (four b0 ++ four b1)), .sl (kb 3 :: (seed ++ (four b0 ++ four b1)))] 10 35 9 Tryd.mixed (by kernel_rfl) (by kernel_rfl) (by rw [fr2.size]; rfl) (by kernel_rfl) (by kernel_rfl) (by rw [fr2.size]; kernel_rfl) (by kernel_rfl) ⟨fun _ a w' K => ?_, fun _ a w' K => ?_, fun _ a w' K => ?_, fun _ a w' K => ?_, fun _ a w' K => ?_, fun _ a w' K => ?_, fun _ a w' K => ?_, fun _ a w' K => ?_, fun _ a w' K => ?_, fun _ a w' K => ?_, fun _ a w' K => ?_, trivial⟩ ?_
  · exact st_slice24 (.tmp 3) rfl _ _ seed ((K.old 3 rfl).trans fr2.e3) hx (sc2.below K.grow).s.lt (sc2.below K.grow).s.bytes
  · exact st_move (.tmp 7) rfl ((K.old 7 rfl).trans fr2.e7)
  · exact st_at0 (.tmp 5) rfl _ ((K.old 5 rfl).trans fr2.e5)
  · exact st_load3 (.tmp 27) rfl _ _ _ (K.dep 2 27 rfl) (sc2.below K.grow).cb0
  · exact st_call 15 (.tmp 26) _ _ #[.int .i64 b0, .int .i64 4] rfl (K.dep 1 26 rfl) (two_args (K.dep 3 28 rfl) rfl) Tryd.enter15 (fk_number4 b0 w')
  · exact st_move (.tmp 7) rfl ((K.old 7 rfl).trans fr2.e7)
  · exact st_at1 (.tmp 5) rfl _ ((K.old 5 rfl).trans fr2.e5)
  · exact st_load3 (.tmp 31) rfl _ _ _ (K.dep 6 31 rfl) (sc2.below K.grow).cb1
  · exact st_call 15 (.tmp 30) _ _ #[.int .i64 b1, .int .i64 4] rfl (K.dep 5 30 rfl) (two_args (K.dep 7 32 rfl) rfl) Tryd.enter15 (fk_number4 b1 w')
  · exact st_build3 (.tmp 25) (.tmp 29) (.tmp 33) rfl (K.dep 0 25 rfl) (K.dep 4 29 rfl) (K.dep 8 33 rfl)
  · exact st_call 19 (.func 19) _ _ #[.int .i64 3, a.eval (.tmp 34)] rfl rfl rfl Tryd.enter19 (fk_input 3 (by simp [four]; omega) (by omega) (K.dep 9 34 rfl))
  intro f3 w3 A3 hb3
  have sc3 := sc2.below hb3
  have fr3 : Fr f3 pS pA pB := ⟨(A3.old 3 rfl).trans fr2.e3, (A3.old 4 rfl).trans fr2.e4, (A3.old 5 rfl).trans fr2.e5, (A3.old 7 rfl).trans fr2.e7, A3.size.trans fr2.size, A3.defs.trans fr2.defs⟩
  have x3 : (Fk.sl (kb 3 :: (seed ++ (four a0 ++ four a1)))).f (f3.eval (.tmp 8)) w3 := by rw [A3.old 8 rfl]; exact Fk.mono _ _ _ _ x2 hb3
  have y3 : (Fk.sl (kb 3 :: (seed ++ (four b0 ++ four b1)))).f (f3.eval (.tmp 9)) w3 := A3.new
  have hb3' : Below pS w w3 := hb2'.trans (hb3.mono (by rw [← hpS] at hb2' ⊢; exact hb2'.size))
  clear A3 hb3 sc2 fr2 hb2' x2
  show Code.wp _ _ _ _ _
  refine wp_seq ?_
  refine wp_mono (Q := fun e f4 w4 => e = .normal ∧ Fr f4 pS pA pB ∧ f4.eval (.tmp 8) = f3.eval (.tmp 8) ∧ f4.eval (.tmp 9) = f3.eval (.tmp 9) ∧ f4.eval (.tmp 10) = .bool (decide (a0 % 4294967296 = b0 % 4294967296) && decide (a1 % 4294967296 = b1 % 4294967296)) ∧ Below w3.heap.size w3 w4) ?_ ?_
  · by_cases h0 : a0 % 4294967296 = b0 % 4294967296
    · refine wp_text_assign [.eq (.pointer (some ⟨pA, 0, none⟩)), .eq (.int .i64 a0), .eq (.int .u32 (a0 % 4294967296)), .eq (.pointer (some ⟨pB, 0, none⟩)), .eq (.int .i64 b0), .eq (.int .u32 (b0 % 4294967296)), .eq (.bool true), .eq (.bool true), .eq (.pointer (some ⟨pA, 1, none⟩)), .eq (.int .i64 a1), .eq (.int .u32 (a1 % 4294967296)), .eq (.pointer (some ⟨pB, 1, none⟩)), .eq (.int .i64 b1), .eq (.int .u32 (b1 % 4294967296)), .eq (.bool (decide (a1 % 4294967296 = b1 % 4294967296))), .eq (.bool (decide (a1 % 4294967296 = b1 % 4294967296)))] 15 51 10 (by kernel_rfl) (by kernel_rfl) (by kernel_rfl) (by rw [fr3.size]; rfl) (by kernel_rfl) (by kernel_rfl) (by rw [fr3.size]; kernel_rfl) (by kernel_rfl) ⟨fun _ a w' K => ?_, fun _ a w' K => ?_, fun _ a w' K => ?_, fun _ a w' K => ?_, fun _ a w' K => ?_, fun _ a w' K => ?_, fun _ a w' K => ?_, fun _ a w' K => ?_, fun _ a w' K => ?_, fun _ a w' K => ?_, fun _ a w' K => ?_, fun _ a w' K => ?_, fun _ a w' K => ?_, fun _ a w' K => ?_, fun _ a w' K => ?_, fun _ a w' K => ?_, trivial⟩ ?_
      · exact st_at0 (.tmp 4) rfl _ ((K.old 4 rfl).trans fr3.e4)
      · exact st_load3 (.tmp 36) rfl _ _ _ (K.dep 0 36 rfl) (sc3.below K.grow).ca0
      · exact st_conv32 (.tmp 37) rfl _ (K.dep 1 37 rfl)
      · exact st_at0 (.tmp 5) rfl _ ((K.old 5 rfl).trans fr3.e5)
      · exact st_load3 (.tmp 39) rfl _ _ _ (K.dep 3 39 rfl) (sc3.below K.grow).cb0
      · exact st_conv32 (.tmp 40) rfl _ (K.dep 4 40 rfl)
      · exact st_eqi 40 (.tmp 38) (.tmp 41) rfl _ _ _ (K.dep 2 38 rfl) (K.dep 5 41 rfl) _ (by simp [h0])
      · exact st_move (.tmp 42) rfl (K.dep 6 42 rfl)
      · exact st_at1 (.tmp 4) rfl _ ((K.old 4 rfl).trans fr3.e4)
      · exact st_load3 (.tmp 44) rfl _ _ _ (K.dep 8 44 rfl) (sc3.below K.grow).ca1
      · exact st_conv32 (.tmp 45) rfl _ (K.dep 9 45 rfl)
      · exact st_at1 (.tmp 5) rfl _ ((K.old 5 rfl).trans fr3.e5)
      · exact st_load3 (.tmp 47) rfl _ _ _ (K.dep 11 47 rfl) (sc3.below K.grow).cb1
      · exact st_conv32 (.tmp 48) rfl _ (K.dep 12 48 rfl)
      · exact st_eqi 40 (.tmp 46) (.tmp 49) rfl _ _ _ (K.dep 10 46 rfl) (K.dep 13 49 rfl) _ rfl
      · exact st_pick_t (.tmp 43) (.tmp 50) _ rfl (K.dep 7 43 rfl) (K.dep 14 50 rfl)
      intro f4 w4 A4 hb4
      have fr4 : Fr f4 pS pA pB := ⟨(A4.old 3 rfl).trans fr3.e3, (A4.old 4 rfl).trans fr3.e4, (A4.old 5 rfl).trans fr3.e5, (A4.old 7 rfl).trans fr3.e7, A4.size.trans fr3.size, A4.defs.trans fr3.defs⟩
      exact ⟨rfl, fr4, A4.old 8 rfl, A4.old 9 rfl, by rw [show f4.eval (.tmp 10) = _ from A4.new]; simp [h0], hb4⟩
    · refine wp_text_assign [.eq (.pointer (some ⟨pA, 0, none⟩)), .eq (.int .i64 a0), .eq (.int .u32 (a0 % 4294967296)), .eq (.pointer (some ⟨pB, 0, none⟩)), .eq (.int .i64 b0), .eq (.int .u32 (b0 % 4294967296)), .eq (.bool false), .eq (.bool false), .any, .any, .any, .any, .any, .any, .any, .eq (.bool false)] 15 51 10 (by kernel_rfl) (by kernel_rfl) (by kernel_rfl) (by rw [fr3.size]; rfl) (by kernel_rfl) (by kernel_rfl) (by rw [fr3.size]; kernel_rfl) (by kernel_rfl) ⟨fun _ a w' K => ?_, fun _ a w' K => ?_, fun _ a w' K => ?_, fun _ a w' K => ?_, fun _ a w' K => ?_, fun _ a w' K => ?_, fun _ a w' K => ?_, fun _ a w' K => ?_, fun h => Bool.noConfusion (show false = true from h), fun h => Bool.noConfusion (show false = true from h), fun h => Bool.noConfusion (show false = true from h), fun h => Bool.noConfusion (show false = true from h), fun h => Bool.noConfusion (show false = true from h), fun h => Bool.noConfusion (show false = true from h), fun h => Bool.noConfusion (show false = true from h), fun _ a w' K => ?_, trivial⟩ ?_
      · exact st_at0 (.tmp 4) rfl _ ((K.old 4 rfl).trans fr3.e4)
      · exact st_load3 (.tmp 36) rfl _ _ _ (K.dep 0 36 rfl) (sc3.below K.grow).ca0
      · exact st_conv32 (.tmp 37) rfl _ (K.dep 1 37 rfl)
      · exact st_at0 (.tmp 5) rfl _ ((K.old 5 rfl).trans fr3.e5)
      · exact st_load3 (.tmp 39) rfl _ _ _ (K.dep 3 39 rfl) (sc3.below K.grow).cb0
      · exact st_conv32 (.tmp 40) rfl _ (K.dep 4 40 rfl)
      · exact st_eqi 40 (.tmp 38) (.tmp 41) rfl _ _ _ (K.dep 2 38 rfl) (K.dep 5 41 rfl) _ (by simp [h0])
      · exact st_move (.tmp 42) rfl (K.dep 6 42 rfl)
      · exact st_pick_f (.tmp 43) (.tmp 50) _ rfl (K.dep 7 43 rfl) rfl
      intro f4 w4 A4 hb4
      have fr4 : Fr f4 pS pA pB := ⟨(A4.old 3 rfl).trans fr3.e3, (A4.old 4 rfl).trans fr3.e4, (A4.old 5 rfl).trans fr3.e5, (A4.old 7 rfl).trans fr3.e7, A4.size.trans fr3.size, A4.defs.trans fr3.defs⟩
      exact ⟨rfl, fr4, A4.old 8 rfl, A4.old 9 rfl, by rw [show f4.eval (.tmp 10) = _ from A4.new]; simp [h0], hb4⟩
  rintro e f4 w4 ⟨rfl, fr4, k8, k9, k10, hb4⟩
  have sc4 := sc3.below hb4
  have x4 : (Fk.sl (kb 3 :: (seed ++ (four a0 ++ four a1)))).f (f4.eval (.tmp 8)) w4 := by rw [k8]; exact Fk.mono _ _ _ _ x3 hb4
  have y4 : (Fk.sl (kb 3 :: (seed ++ (four b0 ++ four b1)))).f (f4.eval (.tmp 9)) w4 := by rw [k9]; exact Fk.mono _ _ _ _ y3 hb4
  have hb4' : Below pS w w4 := hb3'.trans (hb4.mono (by rw [← hpS] at hb3' ⊢; exact hb3'.size))
  clear k8 k9 hb4 sc3 fr3 hb3' x3 y3
  show Code.wp _ _ _ _ _
  refine wp_seq ?_
  refine wp_seq ?_
  have C0 := C0'.out
  have S0 := S0'.out
  have C1 := C1'.out
  have S1 := S1'.out
  refine wp_region_text [.sl (kb 3 :: (seed ++ (four a0 ++ four a1))), .eq (.string (str (kb 3 :: (seed ++ (four a0 ++ four a1))))), .sl (kb 3 :: (seed ++ (four b0 ++ four b1))), .eq (.string (str (kb 3 :: (seed ++ (four b0 ++ four b1))))), .eq (.bool (decide (a0 % 4294967296 = b0 % 4294967296) && decide (a1 % 4294967296 = b1 % 4294967296))), .eq (.bool (decide (a0 % 4294967296 = b0 % 4294967296) && decide (a1 % 4294967296 = b1 % 4294967296))), .eq (.bool false), .eq (.bool false), .eq (.agg (seed.map V).toArray), .eq (.pointer (some ⟨pA, 0, none⟩)), .eq (.int .i64 a0), .eq (.pointer (some ⟨pA, 1, none⟩)), .eq (.int .i64 a1), .eq (.agg (h0.map V).toArray), .sl (kb 3 :: (seed ++ (four a0 ++ four a1))), .eq (.agg (h0.map V).toArray), .eq (.bool false), .eq (.bool false), .eq (.bool false), .eq (.agg (seed.map V).toArray), .eq (.pointer (some ⟨pB, 0, none⟩)), .eq (.int .i64 b0), .eq (.pointer (some ⟨pB, 1, none⟩)), .eq (.int .i64 b1), .eq (.agg (h1.map V).toArray), .sl (kb 3 :: (seed ++ (four b0 ++ four b1))), .eq (.agg (h1.map V).toArray), .eq (.bool false), .eq (.bool false)] (by kernel_rfl) (by kernel_rfl) (by kernel_rfl) (by rw [fr4.size]; kernel_rfl) (by kernel_rfl) ⟨fun _ a w' K => ?_, fun _ a w' K => ?_, fun _ a w' K => ?_, fun _ a w' K => ?_, fun _ a w' K => ?_, fun _ a w' K => ?_, fun _ a w' K => ?_, fun _ a w' K => ?_, fun _ a w' K => ?_, fun _ a w' K => ?_, fun _ a w' K => ?_, fun _ a w' K => ?_, fun _ a w' K => ?_, fun _ a w' K => ?_, fun _ a w' K => ?_, fun _ a w' K => ?_, fun _ a w' K => ?_, fun _ a w' K => ?_, fun _ a w' K => ?_, fun _ a w' K => ?_, fun _ a w' K => ?_, fun _ a w' K => ?_, fun _ a w' K => ?_, fun _ a w' K => ?_, fun _ a w' K => ?_, fun _ a w' K => ?_, fun _ a w' K => ?_, fun _ a w' K => ?_, fun _ a w' K => ?_, trivial⟩ ?_
  · exact st_move (.tmp 8) rfl (f_at (K.old 8 rfl) (Fk.mono _ _ _ _ x4 K.grow))
  · exact st_str (.tmp 52) rfl (by simp) (K.dep 0 52 rfl)
  · exact st_move (.tmp 9) rfl (f_at (K.old 9 rfl) (Fk.mono _ _ _ _ y4 K.grow))
  · exact st_str (.tmp 54) rfl (by simp) (K.dep 2 54 rfl)
  · exact st_eqs (.tmp 53) (.tmp 55) rfl _ _ (K.dep 1 53 rfl) (K.dep 3 55 rfl) _ (secret_eq _ _ _ _ _ _)
  · exact st_move (.tmp 10) rfl ((K.old 10 rfl).trans k10)
  · exact st_neqb (.tmp 56) (.tmp 57) rfl _ (K.dep 4 56 rfl) (K.dep 5 57 rfl)
  · exact st_move (.tmp 58) rfl (K.dep 6 58 rfl)
  · exact st_load24 (.tmp 3) rfl _ seed ((K.old 3 rfl).trans fr4.e3) hx (sc4.below K.grow).s
  · exact st_at0 (.tmp 4) rfl _ ((K.old 4 rfl).trans fr4.e4)
  · exact st_load3 (.tmp 61) rfl _ _ _ (K.dep 9 61 rfl) (sc4.below K.grow).ca0
  · exact st_at1 (.tmp 4) rfl _ ((K.old 4 rfl).trans fr4.e4)
  · exact st_load3 (.tmp 63) rfl _ _ _ (K.dep 11 63 rfl) (sc4.below K.grow).ca1
  · exact st_call 18 (.func 18) _ _ #[.agg (seed.map V).toArray, .int .i64 a0, .int .i64 a1] rfl rfl (three_args (K.dep 8 60 rfl) (K.dep 10 62 rfl) (K.dep 12 64 rfl)) Tryd.enter18 (C0 _ (sc4.below K.grow).t)
  · exact st_move (.tmp 8) rfl (f_at (K.old 8 rfl) (Fk.mono _ _ _ _ x4 K.grow))
  · exact st_call 9 (.func 9) _ _ #[a.eval (.tmp 66)] rfl rfl rfl Tryd.enter9 (S0 _ _ (sc4.below K.grow).t (K.dep 14 66 rfl))
  · exact st_neq24 (.tmp 65) (.tmp 67) rfl h0 l0 (K.dep 13 65 rfl) (K.dep 15 67 rfl)
  · exact st_pick_f (.tmp 59) _ (.tmp 68) rfl (K.dep 7 59 rfl) (K.dep 16 68 rfl)
  · exact st_move (.tmp 69) rfl (K.dep 17 69 rfl)
  · exact st_load24 (.tmp 3) rfl _ seed ((K.old 3 rfl).trans fr4.e3) hx (sc4.below K.grow).s
  · exact st_at0 (.tmp 5) rfl _ ((K.old 5 rfl).trans fr4.e5)
  · exact st_load3 (.tmp 72) rfl _ _ _ (K.dep 20 72 rfl) (sc4.below K.grow).cb0
  · exact st_at1 (.tmp 5) rfl _ ((K.old 5 rfl).trans fr4.e5)
  · exact st_load3 (.tmp 74) rfl _ _ _ (K.dep 22 74 rfl) (sc4.below K.grow).cb1
  · exact st_call 18 (.func 18) _ _ #[.agg (seed.map V).toArray, .int .i64 b0, .int .i64 b1] rfl rfl (three_args (K.dep 19 71 rfl) (K.dep 21 73 rfl) (K.dep 23 75 rfl)) Tryd.enter18 (C1 _ (sc4.below K.grow).t)
  · exact st_move (.tmp 9) rfl (f_at (K.old 9 rfl) (Fk.mono _ _ _ _ y4 K.grow))
  · exact st_call 9 (.func 9) _ _ #[a.eval (.tmp 77)] rfl rfl rfl Tryd.enter9 (S1 _ _ (sc4.below K.grow).t (K.dep 25 77 rfl))
  · exact st_neq24 (.tmp 76) (.tmp 78) rfl h1 l1 (K.dep 24 76 rfl) (K.dep 26 78 rfl)
  · exact st_pick_f (.tmp 70) _ (.tmp 79) rfl (K.dep 18 70 rfl) (K.dep 27 79 rfl)
  intro f5 w5 A5 hb5
  have sc5 := sc4.below hb5
  have fr5 : Fr f5 pS pA pB := ⟨(A5.old 3 rfl).trans fr4.e3, (A5.old 4 rfl).trans fr4.e4, (A5.old 5 rfl).trans fr4.e5, (A5.old 7 rfl).trans fr4.e7, A5.size.trans fr4.size, A5.defs.trans fr4.defs⟩
  have hb5' : Below pS w w5 := hb4'.trans (hb5.mono (by rw [← hpS] at hb4' ⊢; exact hb4'.size))
  have e80 : f5.eval (.tmp 80) = .bool false := A5.has 28 80 rfl
  clear A5 hb5 sc4 fr4 hb4' x4 y4 C0 S0 C1 S1 k10
  show Code.wp _ _ _ _ _
  refine wp_cond_false e80 ?_
  refine wp_skip ?_
  show Code.wp _ _ _ _ _
  refine wp_seq ?_
  refine wp_region_assign [.sl seed, .eq (.func (.func 15) #[] #[]), .eq (.pointer (some ⟨pA, 0, none⟩)), .eq (.int .i64 a0), .sl (two a0), .eq (.func (.func 15) #[] #[]), .eq (.pointer (some ⟨pA, 1, none⟩)), .eq (.int .i64 a1), .sl (two a1), .ls 3 (seed ++ (two a0 ++ two a1)), .sl (kb 2 :: (seed ++ (two a0 ++ two a1)))] 10 91 11 Tryd.mixed (by kernel_rfl) (by kernel_rfl) (by rw [fr5.size]; rfl) (by kernel_rfl) (by kernel_rfl) (by rw [fr5.size]; kernel_rfl) (by kernel_rfl) ⟨fun _ a w' K => ?_, fun _ a w' K => ?_, fun _ a w' K => ?_, fun _ a w' K => ?_, fun _ a w' K => ?_, fun _ a w' K => ?_, fun _ a w' K => ?_, fun _ a w' K => ?_, fun _ a w' K => ?_, fun _ a w' K => ?_, fun _ a w' K => ?_, trivial⟩ ?_
  · exact st_slice24 (.tmp 3) rfl _ _ seed ((K.old 3 rfl).trans fr5.e3) hx (sc5.below K.grow).s.lt (sc5.below K.grow).s.bytes
  · exact st_move (.tmp 7) rfl ((K.old 7 rfl).trans fr5.e7)
  · exact st_at0 (.tmp 4) rfl _ ((K.old 4 rfl).trans fr5.e4)
  · exact st_load3 (.tmp 83) rfl _ _ _ (K.dep 2 83 rfl) (sc5.below K.grow).ca0
  · exact st_call 15 (.tmp 82) _ _ #[.int .i64 a0, .int .i64 2] rfl (K.dep 1 82 rfl) (two_args (K.dep 3 84 rfl) rfl) Tryd.enter15 (fk_number2 a0 w')
  · exact st_move (.tmp 7) rfl ((K.old 7 rfl).trans fr5.e7)
  · exact st_at1 (.tmp 4) rfl _ ((K.old 4 rfl).trans fr5.e4)
  · exact st_load3 (.tmp 87) rfl _ _ _ (K.dep 6 87 rfl) (sc5.below K.grow).ca1
  · exact st_call 15 (.tmp 86) _ _ #[.int .i64 a1, .int .i64 2] rfl (K.dep 5 86 rfl) (two_args (K.dep 7 88 rfl) rfl) Tryd.enter15 (fk_number2 a1 w')
  · exact st_build3 (.tmp 81) (.tmp 85) (.tmp 89) rfl (K.dep 0 81 rfl) (K.dep 4 85 rfl) (K.dep 8 89 rfl)
  · exact st_call 19 (.func 19) _ _ #[.int .i64 2, a.eval (.tmp 90)] rfl rfl rfl Tryd.enter19 (fk_input 2 (by simp [two]; omega) (by omega) (K.dep 9 90 rfl))
  intro f7 w7 A7 hb7
  have sc7 := sc5.below hb7
  have fr7 : Fr f7 pS pA pB := ⟨(A7.old 3 rfl).trans fr5.e3, (A7.old 4 rfl).trans fr5.e4, (A7.old 5 rfl).trans fr5.e5, (A7.old 7 rfl).trans fr5.e7, A7.size.trans fr5.size, A7.defs.trans fr5.defs⟩
  have x7 : (Fk.sl (kb 2 :: (seed ++ (two a0 ++ two a1)))).f (f7.eval (.tmp 11)) w7 := A7.new
  have hb7' : Below pS w w7 := hb5'.trans (hb7.mono (by rw [← hpS] at hb5' ⊢; exact hb5'.size))
  clear A7 hb7 sc5 fr5 hb5'
  show Code.wp _ _ _ _ _
  refine wp_seq ?_
  refine wp_region_assign [.sl seed, .eq (.func (.func 15) #[] #[]), .eq (.pointer (some ⟨pB, 0, none⟩)), .eq (.int .i64 b0), .sl (two b0), .eq (.func (.func 15) #[] #[]), .eq (.pointer (some ⟨pB, 1, none⟩)), .eq (.int .i64 b1), .sl (two b1), .ls 3 (seed ++ (two b0 ++ two b1)), .sl (kb 2 :: (seed ++ (two b0 ++ two b1)))] 10 102 12 Tryd.mixed (by kernel_rfl) (by kernel_rfl) (by rw [fr7.size]; rfl) (by kernel_rfl) (by kernel_rfl) (by rw [fr7.size]; kernel_rfl) (by kernel_rfl) ⟨fun _ a w' K => ?_, fun _ a w' K => ?_, fun _ a w' K => ?_, fun _ a w' K => ?_, fun _ a w' K => ?_, fun _ a w' K => ?_, fun _ a w' K => ?_, fun _ a w' K => ?_, fun _ a w' K => ?_, fun _ a w' K => ?_, fun _ a w' K => ?_, trivial⟩ ?_
  · exact st_slice24 (.tmp 3) rfl _ _ seed ((K.old 3 rfl).trans fr7.e3) hx (sc7.below K.grow).s.lt (sc7.below K.grow).s.bytes
  · exact st_move (.tmp 7) rfl ((K.old 7 rfl).trans fr7.e7)
  · exact st_at0 (.tmp 5) rfl _ ((K.old 5 rfl).trans fr7.e5)
  · exact st_load3 (.tmp 94) rfl _ _ _ (K.dep 2 94 rfl) (sc7.below K.grow).cb0
  · exact st_call 15 (.tmp 93) _ _ #[.int .i64 b0, .int .i64 2] rfl (K.dep 1 93 rfl) (two_args (K.dep 3 95 rfl) rfl) Tryd.enter15 (fk_number2 b0 w')
  · exact st_move (.tmp 7) rfl ((K.old 7 rfl).trans fr7.e7)
  · exact st_at1 (.tmp 5) rfl _ ((K.old 5 rfl).trans fr7.e5)
  · exact st_load3 (.tmp 98) rfl _ _ _ (K.dep 6 98 rfl) (sc7.below K.grow).cb1
  · exact st_call 15 (.tmp 97) _ _ #[.int .i64 b1, .int .i64 2] rfl (K.dep 5 97 rfl) (two_args (K.dep 7 99 rfl) rfl) Tryd.enter15 (fk_number2 b1 w')
  · exact st_build3 (.tmp 92) (.tmp 96) (.tmp 100) rfl (K.dep 0 92 rfl) (K.dep 4 96 rfl) (K.dep 8 100 rfl)
  · exact st_call 19 (.func 19) _ _ #[.int .i64 2, a.eval (.tmp 101)] rfl rfl rfl Tryd.enter19 (fk_input 2 (by simp [two]; omega) (by omega) (K.dep 9 101 rfl))
  intro f8 w8 A8 hb8
  have sc8 := sc7.below hb8
  have fr8 : Fr f8 pS pA pB := ⟨(A8.old 3 rfl).trans fr7.e3, (A8.old 4 rfl).trans fr7.e4, (A8.old 5 rfl).trans fr7.e5, (A8.old 7 rfl).trans fr7.e7, A8.size.trans fr7.size, A8.defs.trans fr7.defs⟩
  have x8 : (Fk.sl (kb 2 :: (seed ++ (two a0 ++ two a1)))).f (f8.eval (.tmp 11)) w8 := by rw [A8.old 11 rfl]; exact Fk.mono _ _ _ _ x7 hb8
  have y8 : (Fk.sl (kb 2 :: (seed ++ (two b0 ++ two b1)))).f (f8.eval (.tmp 12)) w8 := A8.new
  have hb8' : Below pS w w8 := hb7'.trans (hb8.mono (by rw [← hpS] at hb7' ⊢; exact hb7'.size))
  clear A8 hb8 sc7 fr7 hb7' x7
  show Code.wp _ _ _ _ _
  refine wp_seq ?_
  refine wp_mono (Q := fun e f4 w4 => e = .normal ∧ Fr f4 pS pA pB ∧ f4.eval (.tmp 11) = f8.eval (.tmp 11) ∧ f4.eval (.tmp 12) = f8.eval (.tmp 12) ∧ f4.eval (.tmp 13) = .bool (decide (a0 % 65536 = b0 % 65536) && decide (a1 % 65536 = b1 % 65536)) ∧ Below w8.heap.size w8 w4) ?_ ?_
  · by_cases h0 : a0 % 65536 = b0 % 65536
    · refine wp_text_assign [.eq (.pointer (some ⟨pA, 0, none⟩)), .eq (.int .i64 a0), .eq (.int .u16 (a0 % 65536)), .eq (.pointer (some ⟨pB, 0, none⟩)), .eq (.int .i64 b0), .eq (.int .u16 (b0 % 65536)), .eq (.bool true), .eq (.bool true), .eq (.pointer (some ⟨pA, 1, none⟩)), .eq (.int .i64 a1), .eq (.int .u16 (a1 % 65536)), .eq (.pointer (some ⟨pB, 1, none⟩)), .eq (.int .i64 b1), .eq (.int .u16 (b1 % 65536)), .eq (.bool (decide (a1 % 65536 = b1 % 65536))), .eq (.bool (decide (a1 % 65536 = b1 % 65536)))] 15 118 13 (by kernel_rfl) (by kernel_rfl) (by kernel_rfl) (by rw [fr8.size]; rfl) (by kernel_rfl) (by kernel_rfl) (by rw [fr8.size]; kernel_rfl) (by kernel_rfl) ⟨fun _ a w' K => ?_, fun _ a w' K => ?_, fun _ a w' K => ?_, fun _ a w' K => ?_, fun _ a w' K => ?_, fun _ a w' K => ?_, fun _ a w' K => ?_, fun _ a w' K => ?_, fun _ a w' K => ?_, fun _ a w' K => ?_, fun _ a w' K => ?_, fun _ a w' K => ?_, fun _ a w' K => ?_, fun _ a w' K => ?_, fun _ a w' K => ?_, fun _ a w' K => ?_, trivial⟩ ?_
      · exact st_at0 (.tmp 4) rfl _ ((K.old 4 rfl).trans fr8.e4)
      · exact st_load3 (.tmp 103) rfl _ _ _ (K.dep 0 103 rfl) (sc8.below K.grow).ca0
      · exact st_conv16 (.tmp 104) rfl _ (K.dep 1 104 rfl)
      · exact st_at0 (.tmp 5) rfl _ ((K.old 5 rfl).trans fr8.e5)
      · exact st_load3 (.tmp 106) rfl _ _ _ (K.dep 3 106 rfl) (sc8.below K.grow).cb0
      · exact st_conv16 (.tmp 107) rfl _ (K.dep 4 107 rfl)
      · exact st_eqi 41 (.tmp 105) (.tmp 108) rfl _ _ _ (K.dep 2 105 rfl) (K.dep 5 108 rfl) _ (by simp [h0])
      · exact st_move (.tmp 109) rfl (K.dep 6 109 rfl)
      · exact st_at1 (.tmp 4) rfl _ ((K.old 4 rfl).trans fr8.e4)
      · exact st_load3 (.tmp 111) rfl _ _ _ (K.dep 8 111 rfl) (sc8.below K.grow).ca1
      · exact st_conv16 (.tmp 112) rfl _ (K.dep 9 112 rfl)
      · exact st_at1 (.tmp 5) rfl _ ((K.old 5 rfl).trans fr8.e5)
      · exact st_load3 (.tmp 114) rfl _ _ _ (K.dep 11 114 rfl) (sc8.below K.grow).cb1
      · exact st_conv16 (.tmp 115) rfl _ (K.dep 12 115 rfl)
      · exact st_eqi 41 (.tmp 113) (.tmp 116) rfl _ _ _ (K.dep 10 113 rfl) (K.dep 13 116 rfl) _ rfl
      · exact st_pick_t (.tmp 110) (.tmp 117) _ rfl (K.dep 7 110 rfl) (K.dep 14 117 rfl)
      intro f4 w4 A4 hb4
      have fr4 : Fr f4 pS pA pB := ⟨(A4.old 3 rfl).trans fr8.e3, (A4.old 4 rfl).trans fr8.e4, (A4.old 5 rfl).trans fr8.e5, (A4.old 7 rfl).trans fr8.e7, A4.size.trans fr8.size, A4.defs.trans fr8.defs⟩
      exact ⟨rfl, fr4, A4.old 11 rfl, A4.old 12 rfl, by rw [show f4.eval (.tmp 13) = _ from A4.new]; simp [h0], hb4⟩
    · refine wp_text_assign [.eq (.pointer (some ⟨pA, 0, none⟩)), .eq (.int .i64 a0), .eq (.int .u16 (a0 % 65536)), .eq (.pointer (some ⟨pB, 0, none⟩)), .eq (.int .i64 b0), .eq (.int .u16 (b0 % 65536)), .eq (.bool false), .eq (.bool false), .any, .any, .any, .any, .any, .any, .any, .eq (.bool false)] 15 118 13 (by kernel_rfl) (by kernel_rfl) (by kernel_rfl) (by rw [fr8.size]; rfl) (by kernel_rfl) (by kernel_rfl) (by rw [fr8.size]; kernel_rfl) (by kernel_rfl) ⟨fun _ a w' K => ?_, fun _ a w' K => ?_, fun _ a w' K => ?_, fun _ a w' K => ?_, fun _ a w' K => ?_, fun _ a w' K => ?_, fun _ a w' K => ?_, fun _ a w' K => ?_, fun h => Bool.noConfusion (show false = true from h), fun h => Bool.noConfusion (show false = true from h), fun h => Bool.noConfusion (show false = true from h), fun h => Bool.noConfusion (show false = true from h), fun h => Bool.noConfusion (show false = true from h), fun h => Bool.noConfusion (show false = true from h), fun h => Bool.noConfusion (show false = true from h), fun _ a w' K => ?_, trivial⟩ ?_
      · exact st_at0 (.tmp 4) rfl _ ((K.old 4 rfl).trans fr8.e4)
      · exact st_load3 (.tmp 103) rfl _ _ _ (K.dep 0 103 rfl) (sc8.below K.grow).ca0
      · exact st_conv16 (.tmp 104) rfl _ (K.dep 1 104 rfl)
      · exact st_at0 (.tmp 5) rfl _ ((K.old 5 rfl).trans fr8.e5)
      · exact st_load3 (.tmp 106) rfl _ _ _ (K.dep 3 106 rfl) (sc8.below K.grow).cb0
      · exact st_conv16 (.tmp 107) rfl _ (K.dep 4 107 rfl)
      · exact st_eqi 41 (.tmp 105) (.tmp 108) rfl _ _ _ (K.dep 2 105 rfl) (K.dep 5 108 rfl) _ (by simp [h0])
      · exact st_move (.tmp 109) rfl (K.dep 6 109 rfl)
      · exact st_pick_f (.tmp 110) (.tmp 117) _ rfl (K.dep 7 110 rfl) rfl
      intro f4 w4 A4 hb4
      have fr4 : Fr f4 pS pA pB := ⟨(A4.old 3 rfl).trans fr8.e3, (A4.old 4 rfl).trans fr8.e4, (A4.old 5 rfl).trans fr8.e5, (A4.old 7 rfl).trans fr8.e7, A4.size.trans fr8.size, A4.defs.trans fr8.defs⟩
      exact ⟨rfl, fr4, A4.old 11 rfl, A4.old 12 rfl, by rw [show f4.eval (.tmp 13) = _ from A4.new]; simp [h0], hb4⟩
  rintro e f9 w9 ⟨rfl, fr9, k11, k12, k13, hb9⟩
  have sc9 := sc8.below hb9
  have x9 : (Fk.sl (kb 2 :: (seed ++ (two a0 ++ two a1)))).f (f9.eval (.tmp 11)) w9 := by rw [k11]; exact Fk.mono _ _ _ _ x8 hb9
  have y9 : (Fk.sl (kb 2 :: (seed ++ (two b0 ++ two b1)))).f (f9.eval (.tmp 12)) w9 := by rw [k12]; exact Fk.mono _ _ _ _ y8 hb9
  have hb9' : Below pS w w9 := hb8'.trans (hb9.mono (by rw [← hpS] at hb8' ⊢; exact hb8'.size))
  clear k11 k12 hb9 sc8 fr8 hb8' x8 y8
  show Code.wp _ _ _ _ _
  refine wp_seq ?_
  have C2 := C2'.out
  have S2 := S2'.out
  refine wp_text_assign [.sl (kb 2 :: (seed ++ (two a0 ++ two a1))), .eq (.string (str (kb 2 :: (seed ++ (two a0 ++ two a1))))), .sl (kb 2 :: (seed ++ (two b0 ++ two b1))), .eq (.string (str (kb 2 :: (seed ++ (two b0 ++ two b1))))), .eq (.bool (decide (a0 % 65536 = b0 % 65536) && decide (a1 % 65536 = b1 % 65536))), .eq (.bool (decide (a0 % 65536 = b0 % 65536) && decide (a1 % 65536 = b1 % 65536))), .eq (.bool true), .eq (.bool true), .eq (.agg (seed.map V).toArray), .eq (.pointer (some ⟨pA, 0, none⟩)), .eq (.int .i64 a0), .eq (.pointer (some ⟨pA, 1, none⟩)), .eq (.int .i64 a1), .eq (.agg (h2.map V).toArray), .sl (kb 2 :: (seed ++ (two a0 ++ two a1))), .eq (.agg (h2.map V).toArray), .eq (.bool true), .eq (.bool true), .eq (.bool true), .eq (.bool true), .eq (.bool true)] 20 139 6 (by kernel_rfl) (by kernel_rfl) (by kernel_rfl) (by rw [fr9.size]; rfl) (by kernel_rfl) (by kernel_rfl) (by rw [fr9.size]; kernel_rfl) (by kernel_rfl) ⟨fun _ a w' K => ?_, fun _ a w' K => ?_, fun _ a w' K => ?_, fun _ a w' K => ?_, fun _ a w' K => ?_, fun _ a w' K => ?_, fun _ a w' K => ?_, fun _ a w' K => ?_, fun _ a w' K => ?_, fun _ a w' K => ?_, fun _ a w' K => ?_, fun _ a w' K => ?_, fun _ a w' K => ?_, fun _ a w' K => ?_, fun _ a w' K => ?_, fun _ a w' K => ?_, fun _ a w' K => ?_, fun _ a w' K => ?_, fun _ a w' K => ?_, fun _ a w' K => ?_, fun _ a w' K => ?_, trivial⟩ ?_
  · exact st_move (.tmp 11) rfl (f_at (K.old 11 rfl) (Fk.mono _ _ _ _ x9 K.grow))
  · exact st_str (.tmp 119) rfl (by simp) (K.dep 0 119 rfl)
  · exact st_move (.tmp 12) rfl (f_at (K.old 12 rfl) (Fk.mono _ _ _ _ y9 K.grow))
  · exact st_str (.tmp 121) rfl (by simp) (K.dep 2 121 rfl)
  · exact st_eqs (.tmp 120) (.tmp 122) rfl _ _ (K.dep 1 120 rfl) (K.dep 3 122 rfl) _ (chain_eq _ _ _ _ _ _)
  · exact st_move (.tmp 13) rfl ((K.old 13 rfl).trans k13)
  · exact st_eqb (.tmp 123) (.tmp 124) rfl _ (K.dep 4 123 rfl) (K.dep 5 124 rfl)
  · exact st_move (.tmp 125) rfl (K.dep 6 125 rfl)
  · exact st_load24 (.tmp 3) rfl _ seed ((K.old 3 rfl).trans fr9.e3) hx (sc9.below K.grow).s
  · exact st_at0 (.tmp 4) rfl _ ((K.old 4 rfl).trans fr9.e4)
  · exact st_load3 (.tmp 128) rfl _ _ _ (K.dep 9 128 rfl) (sc9.below K.grow).ca0
  · exact st_at1 (.tmp 4) rfl _ ((K.old 4 rfl).trans fr9.e4)
  · exact st_load3 (.tmp 130) rfl _ _ _ (K.dep 11 130 rfl) (sc9.below K.grow).ca1
  · exact st_call 17 (.func 17) _ _ #[.agg (seed.map V).toArray, .int .i64 a0, .int .i64 a1] rfl rfl (three_args (K.dep 8 127 rfl) (K.dep 10 129 rfl) (K.dep 12 131 rfl)) Tryd.enter17 (C2 _ (sc9.below K.grow).t)
  · exact st_move (.tmp 11) rfl (f_at (K.old 11 rfl) (Fk.mono _ _ _ _ x9 K.grow))
  · exact st_call 9 (.func 9) _ _ #[a.eval (.tmp 133)] rfl rfl rfl Tryd.enter9 (S2 _ _ (sc9.below K.grow).t (K.dep 14 133 rfl))
  · exact st_eq24 (.tmp 132) (.tmp 134) rfl h2 l2 (K.dep 13 132 rfl) (K.dep 15 134 rfl)
  · exact st_pick_t (.tmp 126) (.tmp 135) _ rfl (K.dep 7 126 rfl) (K.dep 16 135 rfl)
  · exact st_move (.tmp 136) rfl (K.dep 17 136 rfl)
  · exact st_call 7 (.func 7) _ _ #[] rfl rfl rfl Tryd.enter7 (fk_awake (sc9.below K.grow).t)
  · exact st_pick_t (.tmp 137) (.tmp 138) _ rfl (K.dep 18 137 rfl) (K.dep 19 138 rfl)
  intro f10 w10 A10 hb10
  have hb10' : Below pS w w10 := hb9'.trans (hb10.mono (by rw [← hpS] at hb9' ⊢; exact hb9'.size))
  show Code.wp _ _ _ _ _
  refine wp_ret ?_
  exact bodyPost_ret (v := .bool true) (ret_slot rfl f10 _ A10.new _ _) (A10.defs.trans fr9.defs) ⟨rfl, by rw [hpS]; exact hb10'⟩
end Go.Proofs.YtiebjpdjcgefhaaDoor
