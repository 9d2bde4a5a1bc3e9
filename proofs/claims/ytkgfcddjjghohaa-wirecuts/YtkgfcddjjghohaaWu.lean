/- What told does with a list of hashes. -/
import Derived.Test.YtkgfcddjjghohaaWt
namespace Go.Proofs.Ytkgfcddjjghohaa
open Go.RowKit
theorem Try.noGuard29n (x y : Operand) (a b : Array Value) (w : World) : (eqGuard .neq 29 x y (.agg a) (.agg b)).run Try.prog w = .ok () w := by kernel_rfl
set_option maxHeartbeats 1000000 in
theorem told_hs_ne (w0 w : World) (ib : Nat) (t : Th) (rest : List (BitVec 8)) (bad : Bool) (s : Sin w0 w ib rest bad) (hok : t.hash.length = 32) (hk : t.kind = 3) (hne : hsN rest 1000 ≠ t.N) (_hl : t.N ≤ 1000000) :
    Calls Try.prog 14 #[.pointer (some ⟨ib, 0, none⟩), .agg t.cells.toArray] w fun e w' => e = .returned (.bool false) ∧ Box (Sin w0 w' ib ((hsD rest 1000).drop (32 * hsN rest 1000)) (hsX rest bad 1000)) := by
  have hib := s.has.lt
  have hle := hs_le rest 1000
  have hDl := hsD_len rest 1000
  have hsl := s.len
  have s' := Box.mk s
  clear s
  obtain ⟨cs, hcs⟩ : ∃ cs, Box (t.cells = cs) := ⟨_, ⟨rfl⟩⟩
  rw [hcs.out]
  go_enter Try.func14, Try.ntmps14
  go_upto_region 1 with fail
  refine code_any (fun w1 => HasT w1 w.heap.size t ∧ Below w.heap.size w w1) ?_ ?_
  · exact ⟨by unfold HasT; rw [hcs.out]; exact heap_alloc_new _ _, (Below.refl _ _).alloc (Nat.le_refl _) _⟩
  rintro w1 ⟨ht, hb1⟩
  have c0 := ht.c0
  rw [hk] at c0
  have ht' := Box.mk ht
  have hi : Box (Calls Try.prog 24 #[.pointer (some ⟨ib, 0, none⟩), .int .i64 1000] w1 fun e w' => ∃ L, e = .returned (.slice (some ⟨L, 0, none⟩) (hsN rest 1000) (hsN rest 1000)) ∧ w'.cell? ⟨w.heap.size, 35, none⟩ = some (.slice t.A t.N t.C) ∧ Box (Sin w0 w' ib ((hsD rest 1000).drop (32 * hsN rest 1000)) (hsX rest bad 1000))) := ⟨by
    refine (s_hashes (s'.out.grow hb1) 1000).mono ?_
    rintro e w' ⟨L, rfl, _, _, h4, h5⟩
    exact ⟨L, rfl, (ht'.out.keep (h5.out.block w.heap.size ht'.out.lt (by omega))).c35 hok, h4⟩⟩
  have q0 : ((hsN rest 1000 : Int) != (t.N : Int)) = true := by rw [bne_iff_ne]; omega
  obtain ⟨n, hn⟩ : ∃ n, Box (hsN rest 1000 = n) := ⟨_, ⟨rfl⟩⟩
  rw [hn.out] at hi q0 hne hle
  clear ht hcs hk
  go_wp2_with (go_at_call 24; refine hi.out.mono ?_; rintro e w2 ⟨L, rfl, c35, s2⟩)
  go_ret
  rw [hn.out]
  exact ⟨rfl, s2⟩
set_option maxHeartbeats 1000000 in
theorem told_hs_eq (w0 w : World) (ib : Nat) (t : Th) (rest : List (BitVec 8)) (bad : Bool) (s : Sin w0 w ib rest bad) (hok : t.hash.length = 32) (hk : t.kind = 3) (hfl : Fl w0 t.A t.lb t.lo t.N t.D) (he : hsN rest 1000 = t.N) (hD : (hsD rest 1000).take (32 * t.N) = t.D) (hl : t.N ≤ 1000) :
    Calls Try.prog 14 #[.pointer (some ⟨ib, 0, none⟩), .agg t.cells.toArray] w fun e w' => e = .returned (.bool true) ∧ Box (Sin w0 w' ib ((hsD rest 1000).drop (32 * t.N)) (hsX rest bad 1000)) := by
  have hib := s.has.lt
  have s' := Box.mk s
  clear s
  obtain ⟨cs, hcs⟩ : ∃ cs, Box (t.cells = cs) := ⟨_, ⟨rfl⟩⟩
  rw [hcs.out]
  go_enter Try.func14, Try.ntmps14
  go_upto_region 1 with fail
  refine code_any (fun w1 => HasT w1 w.heap.size t ∧ Below w.heap.size w w1) ?_ ?_
  · exact ⟨by unfold HasT; rw [hcs.out]; exact heap_alloc_new _ _, (Below.refl _ _).alloc (Nat.le_refl _) _⟩
  rintro w1 ⟨ht, hb1⟩
  have c0 := ht.c0
  rw [hk] at c0
  have ht' := Box.mk ht
  have hi : Box (Calls Try.prog 24 #[.pointer (some ⟨ib, 0, none⟩), .int .i64 1000] w1 fun e w' => ∃ L, e = .returned (.slice (some ⟨L, 0, none⟩) t.N t.N) ∧ w'.cell? ⟨w.heap.size, 35, none⟩ = some (.slice t.A t.N t.C) ∧ Box (HasT w' w.heap.size t) ∧ Box (Fl w' (some ⟨L, 0, none⟩) L 0 t.N t.D) ∧ Box (Sin w0 w' ib ((hsD rest 1000).drop (32 * t.N)) (hsX rest bad 1000))) := ⟨by
    refine (s_hashes (s'.out.grow hb1) 1000).mono ?_
    rw [he, hD]
    rintro e w' ⟨L, rfl, _, h3, h4, h5⟩
    have hT := ht'.out.keep (h5.out.block w.heap.size ht'.out.lt (by omega))
    exact ⟨L, rfl, hT.c35 hok, ⟨hT⟩, h3, h4⟩⟩
  have q0 : ((t.N : Int) != (t.N : Int)) = false := by simp
  clear ht hcs hk he hD
  go_wp2_with (go_at_call 24; refine hi.out.mono ?_; rintro e w2 ⟨L, rfl, c35, hT2, hF2, s2⟩)
  clear hi c35 q0
  go_loopw [42] (fun i wr => ∃ k : Nat, k ≤ t.N ∧ i = .int .i64 k ∧ Box (Below w2.heap.size w2 wr)) (fun i _ => t.N - (intOf i).toNat)
  case atStart => exact ⟨0, by omega, rfl, ⟨Below.refl _ _⟩⟩
  case round =>
    obtain ⟨k, hk, rfl, hb⟩ := hrel
    by_cases hlt : k < t.N
    · have hTr := hT2.out.keep (hb.out.block w.heap.size hT2.out.lt)
      have hS0 := hTr.c35 hok
      have hFr := hF2.out.below hb.out (fun hn => (hF2.out.src hn).2.1)
      have hGr := (hfl.below s2.out.low (fun hn => (hfl.src hn).2.1))
      have hGr2 := hGr.below hb.out (fun hn => (hGr.src hn).2.1)
      have hS1 := hFr.range k hlt
      have hS2 := hGr2.range k hlt
      rw [Nat.zero_add] at hS1
      obtain ⟨hA, _, _⟩ := hfl.src (by omega)
      rw [hA] at hS0
      clear hTr hFr hGr hGr2 hA
      obtain ⟨lb, hlb⟩ : ∃ lb, Box (t.lb = lb) := ⟨_, ⟨rfl⟩⟩
      obtain ⟨lo, hlo⟩ : ∃ lo, Box (t.lo = lo) := ⟨_, ⟨rfl⟩⟩
      rw [hlb.out, hlo.out] at hS0 hS2
      have hn32 := nth_len t.D t.N k hfl.len hlt
      generalize nth t.D k = O at hS1 hS2 hn32
      obtain ⟨O2, hO2⟩ : ∃ O2, Box (O2 = O) := ⟨_, ⟨rfl⟩⟩
      rw [← hO2.out] at hS2
      have hn33 : O2.length = 32 := by rw [hO2.out]; exact hn32
      have g5 : (Try.prog.info? 29).map (·.size) = some (O2.map V).length := by rw [List.length_map, hn33]; exact Try.size29
      have g1 := Try.under29
      have g2 : (Try.prog.info? 29).map (·.size) = some (O.map V).length := by rw [List.length_map, hn32]; exact Try.size29
      have g3 : (O.map V).length = 32 := by rw [List.length_map, hn32]
      have g4 := V_one O
      have hq : ∀ W, (Op.equalIn 10000 29 (.agg (O.map V).toArray) (.agg (O2.map V).toArray)).run Try.prog W = .ok true W := fun W => by rw [run_equal29 W O O2 hn32 hn33, hO2.out]; simp
      have hg := fun W => Try.noGuard29n (.tmp 48) (.tmp 53) (O.map V).toArray (O2.map V).toArray W
      go_wp2
      refine wp_region_held_drew (S := fun W => W.cell? ⟨w.heap.size, 35, none⟩ = some (.slice (some ⟨lb, lo, none⟩) t.N t.C) ∧ W.rangeAt L (k * 32) (O.map V) ∧ W.rangeAt lb (lo + k * 32) (O2.map V)) (by kernel_rfl) ⟨hS0, hS1, hS2⟩ (fun hHeld => ?_)
      refine wpAnyH_take (i := 0) (oi := { dst := some 45, op := .move (.tmp 5), type := 30, pos := "law.go:90", after := #[], guard := none }) (v := .slice (some ⟨L, 0, none⟩) t.N t.N) rfl (by kernel_rfl) (by kernel_rfl) (by kernel_rfl) (fun _ _ _ h => h) (Or.inl ⟨by rfl, ?_⟩) hHeld ?_
      · intro W hSw
        (try dsimp only at hSw)
        go_simp
        try (with_reducible rfl)
      simp only [Act.put, List.setIfInBounds_toArray, List.set_cons_zero, List.set_cons_succ]
      refine wpAnyH_take (i := 1) (oi := { dst := some 46, op := .move (.tmp 6), type := 3, pos := "law.go:90", after := #[], guard := none }) (v := .int .i64 (k : Int)) rfl (by kernel_rfl) (by kernel_rfl) (by kernel_rfl) (fun _ _ _ h => h) (Or.inl ⟨by rfl, ?_⟩) hHeld ?_
      · intro W hSw
        (try dsimp only at hSw)
        go_simp
        try (with_reducible rfl)
      simp only [Act.put, List.setIfInBounds_toArray, List.set_cons_zero, List.set_cons_succ]
      refine wpAnyH_take (i := 2) (oi := { dst := some 47, op := .indexAddr 30 (.tmp 45) (.tmp 46), type := 0, pos := "law.go:90", after := #[{ on := 0, ground := .data }, { on := 1, ground := .data }], guard := none }) (v := .pointer (some ⟨L, k * 32, none⟩)) rfl (by kernel_rfl) (by kernel_rfl) (by kernel_rfl) (fun _ _ _ h => h) (Or.inl ⟨by rfl, ?_⟩) hHeld ?_
      · intro W hSw
        (try dsimp only at hSw)
        go_simp
        try (with_reducible rfl)
      simp only [Act.put, List.setIfInBounds_toArray, List.set_cons_zero, List.set_cons_succ]
      refine wpAnyH_take (i := 3) (oi := { dst := some 48, op := .load 29 (.tmp 47), type := 29, pos := "law.go:90", after := #[{ on := 2, ground := .data }], guard := none }) rfl (by kernel_rfl) (by kernel_rfl) (by kernel_rfl) (fun _ _ _ h => h) (yieldsIf_load_mid (by rfl) 29 (.tmp 47) rfl L (k * 32) rfl (O.map V) _ (fun W h => h.2.1) Try.under29 rfl g2) hHeld ?_
      simp only [Act.put, List.setIfInBounds_toArray, List.set_cons_zero, List.set_cons_succ]
      refine wpAnyH_take (i := 4) (oi := { dst := some 49, op := .fieldAddr 32 (.tmp 3) 4, type := 0, pos := "law.go:90", after := #[], guard := none }) (v := .pointer (some ⟨w.heap.size, 35, none⟩)) rfl (by kernel_rfl) (by kernel_rfl) (by kernel_rfl) (fun _ _ _ h => h) (Or.inl ⟨by rfl, ?_⟩) hHeld ?_
      · intro W hSw
        (try dsimp only at hSw)
        go_simp
        try (with_reducible rfl)
      simp only [Act.put, List.setIfInBounds_toArray, List.set_cons_zero, List.set_cons_succ]
      refine wpAnyH_take (i := 5) (oi := { dst := some 50, op := .load 30 (.tmp 49), type := 30, pos := "law.go:90", after := #[{ on := 4, ground := .data }], guard := none }) (v := .slice (some ⟨lb, lo, none⟩) t.N t.C) rfl (by kernel_rfl) (by kernel_rfl) (by kernel_rfl) (fun _ _ _ h => h) (Or.inl ⟨by rfl, ?_⟩) hHeld ?_
      · intro W hSw
        (try dsimp only at hSw)
        go_simp
        try (with_reducible rfl)
      simp only [Act.put, List.setIfInBounds_toArray, List.set_cons_zero, List.set_cons_succ]
      refine wpAnyH_take (i := 6) (oi := { dst := some 51, op := .move (.tmp 6), type := 3, pos := "law.go:90", after := #[], guard := none }) (v := .int .i64 (k : Int)) rfl (by kernel_rfl) (by kernel_rfl) (by kernel_rfl) (fun _ _ _ h => h) (Or.inl ⟨by rfl, ?_⟩) hHeld ?_
      · intro W hSw
        (try dsimp only at hSw)
        go_simp
        try (with_reducible rfl)
      simp only [Act.put, List.setIfInBounds_toArray, List.set_cons_zero, List.set_cons_succ]
      refine wpAnyH_take (i := 7) (oi := { dst := some 52, op := .indexAddr 30 (.tmp 50) (.tmp 51), type := 0, pos := "law.go:90", after := #[{ on := 5, ground := .data }, { on := 6, ground := .data }], guard := none }) (v := .pointer (some ⟨lb, lo + k * 32, none⟩)) rfl (by kernel_rfl) (by kernel_rfl) (by kernel_rfl) (fun _ _ _ h => h) (Or.inl ⟨by rfl, ?_⟩) hHeld ?_
      · intro W hSw
        (try dsimp only at hSw)
        go_simp
        try (with_reducible rfl)
      simp only [Act.put, List.setIfInBounds_toArray, List.set_cons_zero, List.set_cons_succ]
      refine wpAnyH_take (i := 8) (oi := { dst := some 53, op := .load 29 (.tmp 52), type := 29, pos := "law.go:90", after := #[{ on := 7, ground := .data }], guard := none }) rfl (by kernel_rfl) (by kernel_rfl) (by kernel_rfl) (fun _ _ _ h => h) (yieldsIf_load_mid (by rfl) 29 (.tmp 52) rfl lb (lo + k * 32) rfl (O2.map V) _ (fun W h => h.2.2) Try.under29 rfl g5) hHeld ?_
      simp only [Act.put, List.setIfInBounds_toArray, List.set_cons_zero, List.set_cons_succ]
      refine wpAnyH_take (i := 9) (oi := { dst := some 54, op := .binOp .neq 29 (.tmp 48) (.tmp 53) 29, type := 4, pos := "law.go:90", after := #[{ on := 3, ground := .data }, { on := 8, ground := .data }], guard := none }) (v := .bool false) rfl (by kernel_rfl) (by kernel_rfl) (by kernel_rfl) (fun _ _ _ h => h) (Or.inl ⟨by rfl, ?_⟩) hHeld ?_
      · intro W hSw
        (try dsimp only at hSw)
        go_simp
        try (with_reducible rfl)
      simp only [Act.put, List.setIfInBounds_toArray, List.set_cons_zero, List.set_cons_succ]
      refine wpAnyH_done (by kernel_rfl) ?_ _
      all_goals
        have hb7 : Box (Below w2.heap.size w2 wr.drew) := ⟨hb.out.drew⟩
        clear hS0 hS1 hS2 hHeld hq hg g1 g2 g3 g4 g5 hb
        go_wp2
        go_roundw
        case rel => exact ⟨k + 1, by omega, by go_num, hb7⟩
        case measure => simp [intOf]; omega
    · go_wp2
      go_ret
      exact ⟨rfl, ⟨s2.out.grow hb.out⟩⟩
end Go.Proofs.Ytkgfcddjjghohaa
