/- What the reference's root hands back. -/
import Derived.Test.YtnchebajehgelaaDoorWv
namespace Go.Proofs.YtnchebajehgelaaDoor
open Go.RowKit
theorem AllReady.cons_plain {P : Program} {md : Region.Mode} {ops : Array Oper} {Q : Exit → Act → World → Prop} {fuel : Nat} {listed : Array Bool} {a : Act} {w : World} {i : Nat} {o : Oper} {rs : List Nat} (ho : ops[i]? = some o) (hg : o.guard = none)
    (h : ∀ K' : Act → World → Prop, (∀ a w, wpAny P md ops Q fuel (listed.setIfInBounds i true) a w → K' a w) → Oper.wp P o a w K' Q)
    (hs : AllReady P md ops Q fuel listed a w rs) : AllReady P md ops Q fuel listed a w (i :: rs) :=
  AllReady.cons ho (fun K hK => by simp only [Region.wanted, hg]; exact h K hK) hs
attribute [local go_sem] wl_addw wl_add wl_id wl_half wl_halft wl_low wl_lowt vl_id vl_id64 vl_idm
set_option maxHeartbeats 1000000 in
theorem root_any (p : BitVec 64) (n : Nat) (hn : n ≤ 3) (w : World) :
    Calls Tryd.prog 30 #[.int .u64 (wl p), .int .i64 n] w fun e w' => e = .returned (.int .u32 (vl (low32 (rtL p n 41)))) ∧ Below w.heap.size w w' := by
  have hz := Tryd.zero71
  go_enter Tryd.func30, Tryd.ntmps30
  go_wp2_with fail
  refine (of_any p w).mono ?_
  rintro e w1 ⟨rfl, hb1⟩
  have hl0 : Box (((ofL p 4).map N64).toArray.size = 16) := ⟨by simp [ofL_len]⟩
  go_upto_region 2 with (refine wpList_store_row rfl 71 (.tmp 5) (.tmp 12) rfl w1.heap.size ((ofL p 4).map N64).toArray rfl rfl 71 _ (heap_alloc_new _ _) (by rw [hl0.out]; exact Tryd.size71) (by rw [hl0.out]; rfl) (N64_all _) ?_)
  try go_frame
  refine code_any (fun w2 => HasN w2 w1.heap.size 71 (goalL p 0) ∧ Below w1.heap.size w1 w2) ?_ ?_
  · exact ⟨setRow_heap _ _ _ _ 71 (0, 0) (heap_alloc_new _ _), ((Below.refl _ _).alloc (Nat.le_refl _) _).trans (below_setRow _ _ _ _ (Nat.le_refl _))⟩
  rintro w2 ⟨hg2, hb2'⟩
  have hb2 : Below w.heap.size w w2 := hb1.trans (hb2'.mono hb1.size)
  have hz1 := hb1.size
  clear hb2' hb1 hl0
  generalize w1.heap.size = gb at hg2 hz1 ⊢
  go_wp2
  go_loopw [6] (fun i wr => ∃ k : Nat, k ≤ n ∧ i = .int .i64 k ∧ HasN wr gb 71 (goalL p k) ∧ Below w.heap.size w wr) (fun i _ => n - (intOf i).toNat)
  case atStart => exact ⟨0, by omega, rfl, hg2, hb2⟩
  case round =>
    clear hg2 hb2
    obtain ⟨k, hk, rfl, hg, hb⟩ := hrel
    by_cases hlt : k < n
    · have HE : Box (goalL p (k + 1) = mulL (goalL p k) (ofL 4294967296 4) 16) := ⟨rfl⟩
      have hlo : Box ((ofL 4294967296 4).length = 16) := ⟨ofL_len _ _⟩
      have hlc : Box ((goalL p k).length = 16) := ⟨goalL_len p k⟩
      have hof := hide (fun w => of_32 w)
      generalize ofL 4294967296 4 = oo at HE hlo hof
      generalize goalL p k = Y at HE hlc hg
      have hlm : Box ((mulL Y oo 16).length = 16) := ⟨mulL_len _ _ _⟩
      have hlY : Box ((Y.map N64).toArray.size = 16) := ⟨by simp [hlc.out]⟩
      have hlM : Box (((mulL Y oo 16).map N64).toArray.size = 16) := ⟨by simp [hlm.out]⟩
      have htm := hide (fun w => times_any Y oo w hlc.out hlo.out)
      generalize mulL Y oo 16 = M at HE hlm hlM htm
      go_wp2
      refine wp_region_any (by kernel_rfl) ?_
      try (change wpAny _ _ _ _ _ _ _ (World.drew _))
      refine wpAny_ready (rs := [0, 1]) (by kernel_rfl) (by simp) ?_
      refine AllReady.cons_plain rfl rfl (fun K hK => ?_) (AllReady.cons_plain rfl rfl (fun K hK => ?_) AllReady.nil)
      · refine wp_load_row 71 (.tmp 5) rfl gb rfl 71 (Y.map N64).toArray (0, 0) _ (by exact hg) Tryd.under71 rfl (by rw [hlY.out]; exact Tryd.size71) ?_
        refine hK _ _ ?_
        clear hK K
        try go_frame
        refine wpAny_ready (rs := [1]) (by kernel_rfl) (by simp) ?_
        refine AllReady.cons_plain rfl rfl (fun K hK => ?_) AllReady.nil
        go_simp
        go_wp2_with (go_at_call 35; refine (hof.out _).mono ?_; rintro e wa ⟨rfl, hba⟩)
        have hgA : HasN wa gb 71 Y := HasN.below (w := wr.drew) hg hba hg.lt
        refine wpAny_ready (rs := [2]) (by kernel_rfl) (by simp) ?_
        refine AllReady.cons_plain rfl rfl (fun K hK => ?_) AllReady.nil
        go_simp
        go_wp2_with (go_at_call 36; refine (htm.out _).mono ?_; rintro e wb ⟨rfl, hbb⟩)
        have hgB : HasN wb gb 71 Y := HasN.below hgA hbb hgA.lt
        refine wpAny_ready (rs := [3]) (by kernel_rfl) (by simp) ?_
        refine AllReady.cons_plain rfl rfl (fun K hK => ?_) AllReady.nil
        refine wp_store_row 71 (.tmp 5) (.tmp 20) rfl gb (M.map N64).toArray rfl rfl 71 _ hgB (by rw [hlM.out]; exact Tryd.size71) (by rw [hlM.out, hlY.out]) (N64_all _) ?_
        refine hK _ _ ?_
        clear hK K
        try go_frame
        refine wpAny_done (by kernel_rfl) ?_ _
        have HB : Box (Below w.heap.size w wb) := ⟨(hb.drew.trans (Below.mono (w := wr.drew) hba hb.size)).trans (hbb.mono (Nat.le_trans hb.size hba.size))⟩
        have HN' : Box (HasN (wb.setRow gb (M.map N64).toArray) gb 71 (goalL p (k + 1))) := ⟨by rw [HE.out]; exact setRow_heap _ _ _ _ 71 (0, 0) hgB⟩
        go_wp2
        go_roundw
        case rel => exact ⟨k + 1, by omega, by go_num, HN'.out, HB.out.trans (below_setRow _ _ _ _ hz1)⟩
        case measure => simp [intOf]; omega
      · go_simp
        go_wp2_with (go_at_call 35; refine (hof.out _).mono ?_; rintro e wa ⟨rfl, hba⟩)
        have hgA : HasN wa gb 71 Y := HasN.below (w := wr.drew) hg hba hg.lt
        refine wpAny_ready (rs := [0]) (by kernel_rfl) (by simp) ?_
        refine AllReady.cons_plain rfl rfl (fun K hK => ?_) AllReady.nil
        refine wp_load_row 71 (.tmp 5) rfl gb rfl 71 (Y.map N64).toArray (0, 0) _ (by exact hgA) Tryd.under71 rfl (by rw [hlY.out]; exact Tryd.size71) ?_
        refine hK _ _ ?_
        clear hK K
        try go_frame
        refine wpAny_ready (rs := [2]) (by kernel_rfl) (by simp) ?_
        refine AllReady.cons_plain rfl rfl (fun K hK => ?_) AllReady.nil
        go_simp
        go_wp2_with (go_at_call 36; refine (htm.out _).mono ?_; rintro e wb ⟨rfl, hbb⟩)
        have hgB : HasN wb gb 71 Y := HasN.below hgA hbb hgA.lt
        refine wpAny_ready (rs := [3]) (by kernel_rfl) (by simp) ?_
        refine AllReady.cons_plain rfl rfl (fun K hK => ?_) AllReady.nil
        refine wp_store_row 71 (.tmp 5) (.tmp 20) rfl gb (M.map N64).toArray rfl rfl 71 _ hgB (by rw [hlM.out]; exact Tryd.size71) (by rw [hlM.out, hlY.out]) (N64_all _) ?_
        refine hK _ _ ?_
        clear hK K
        try go_frame
        refine wpAny_done (by kernel_rfl) ?_ _
        have HB : Box (Below w.heap.size w wb) := ⟨(hb.drew.trans (Below.mono (w := wr.drew) hba hb.size)).trans (hbb.mono (Nat.le_trans hb.size hba.size))⟩
        have HN' : Box (HasN (wb.setRow gb (M.map N64).toArray) gb 71 (goalL p (k + 1))) := ⟨by rw [HE.out]; exact setRow_heap _ _ _ _ 71 (0, 0) hgB⟩
        go_wp2
        go_roundw
        case rel => exact ⟨k + 1, by omega, by go_num, HN'.out, HB.out.trans (below_setRow _ _ _ _ hz1)⟩
        case measure => simp [intOf]; omega
    · have hkn : Box (k = n) := ⟨by omega⟩
      have hg' : HasN wr gb 71 (goalL p n) := by rw [← hkn.out]; exact hg
      clear hg
      have hGl := goalL_len p n
      have HRT : Box (∀ j, rtL p n (j + 1) = if abv (powL (rtL p n j + bitL j) n) (goalL p n) 16 then rtL p n j else rtL p n j + bitL j) := ⟨fun _ => rfl⟩
      have HR0 : Box (rtL p n 0 = 0) := ⟨rfl⟩
      generalize goalL p n = G at hg' hGl HRT
      go_wp2
      go_loopw [7, 8] (fun x bt wi => ∃ j : Nat, j ≤ 41 ∧ x = .int .u64 (wl (rtL p n j)) ∧ bt = .int .u64 (wl (bitL j)) ∧ HasN wi gb 71 G ∧ Below w.heap.size w wi) (fun _ bt _ => (intOf bt).toNat)
      case atStart => exact ⟨0, by omega, by rw [HR0.out]; rfl, rfl, hg', hb⟩
      case round =>
        clear hg' hb HR0
        obtain ⟨j, hj, rfl, rfl, hg, hb⟩ := hrel
        by_cases hj41 : j < 41
        · have hpos := bitL_pos ⟨j, hj41⟩
          simp only at hpos
          have HJ : Box (rtL p n (j + 1) = if abv (powL (rtL p n j + bitL j) n) G 16 then rtL p n j else rtL p n j + bitL j) := ⟨HRT.out j⟩
          have hnx : Box (bitL j >>> 1 = bitL (j + 1)) := ⟨bitL_next j⟩
          have hms : Box (wl (bitL j >>> 1) < wl (bitL j)) := ⟨by rw [← wl_half]; omega⟩
          generalize bitL j = bt at hpos HJ hnx hms ⊢
          generalize rtL p n j = x at HJ ⊢
          go_wp2_with fail
          refine (of_1 _).mono ?_
          rintro e w3 ⟨rfl, hb3⟩
          have hl1 : Box (((ofL 1 4).map N64).toArray.size = 16) := ⟨by simp [ofL_len]⟩
          go_upto_region 11 with (refine wpList_store_row rfl 71 (.tmp 9) (.tmp 25) rfl w3.heap.size ((ofL 1 4).map N64).toArray rfl rfl 71 _ (heap_alloc_new _ _) (by rw [hl1.out]; exact Tryd.size71) (by rw [hl1.out]; rfl) (N64_all _) ?_)
          try go_frame
          refine code_any (fun w4 => HasN w4 w3.heap.size 71 (powL (x + bt) 0) ∧ HasN w4 gb 71 G ∧ Below w.heap.size w w4) ?_ ?_
          · have hb5 : Below w3.heap.size w3 ((w3.alloc (.cells (Z16.map N64).toArray 71)).setRow w3.heap.size ((ofL 1 4).map N64).toArray) := ((Below.refl _ _).alloc (Nat.le_refl _) _).trans (below_setRow _ _ _ _ (Nat.le_refl _))
            have hg3 := hg.below hb3 hg.lt
            have hb4 : Below w.heap.size w w3 := hb.trans (hb3.mono hb.size)
            exact ⟨setRow_heap _ _ _ _ 71 (0, 0) (heap_alloc_new _ _), hg3.below hb5 hg3.lt, hb4.trans (hb5.mono hb4.size)⟩
          rintro w4 ⟨hy4, hg4, hb4⟩
          have hgl : gb < w3.heap.size := Nat.lt_of_lt_of_le hg.lt hb3.size
          clear hb3 hg hb hl1
          generalize w3.heap.size = yb at hy4 hgl ⊢
          obtain ⟨wo, hwo⟩ : ∃ wo : World, wo = wr := ⟨_, rfl⟩
          clear hwo
          go_wp2
          go_loopw [10] (fun i wi => ∃ q : Nat, q ≤ n ∧ i = .int .i64 q ∧ HasN wi yb 71 (powL (x + bt) q) ∧ HasN wi gb 71 G ∧ Below w.heap.size w wi) (fun i _ => n - (intOf i).toNat)
          case atStart => exact ⟨0, by omega, rfl, hy4, hg4, hb4⟩
          case round =>
            clear hy4 hg4 hb4
            obtain ⟨q, hq, rfl, hg, hgG, hb⟩ := hrel
            by_cases hqn : q < n
            · have HE : Box (powL (x + bt) (q + 1) = mulL (powL (x + bt) q) (ofL (x + bt) 4) 16) := ⟨rfl⟩
              have hlo : Box ((ofL (x + bt) 4).length = 16) := ⟨ofL_len _ _⟩
              have hlc : Box ((powL (x + bt) q).length = 16) := ⟨powL_len (x + bt) q⟩
              have hof := hide (fun w => of_any (x + bt) w)
              generalize ofL (x + bt) 4 = oo at HE hlo hof
              generalize powL (x + bt) q = Y at HE hlc hg
              have hlm : Box ((mulL Y oo 16).length = 16) := ⟨mulL_len _ _ _⟩
              have hlY : Box ((Y.map N64).toArray.size = 16) := ⟨by simp [hlc.out]⟩
              have hlM : Box (((mulL Y oo 16).map N64).toArray.size = 16) := ⟨by simp [hlm.out]⟩
              have htm := hide (fun w => times_any Y oo w hlc.out hlo.out)
              generalize mulL Y oo 16 = M at HE hlm hlM htm
              go_wp2
              refine wp_region_any (by kernel_rfl) ?_
              try (change wpAny _ _ _ _ _ _ _ (World.drew _))
              refine wpAny_take (i := 1) (v := .int .u64 (wl x)) rfl (by kernel_rfl) (by kernel_rfl) (by kernel_rfl) (fun _ _ _ h => h) (Or.inl ⟨by rfl, by intro w; go_simp; try with_reducible rfl⟩) ?_
              try go_frame
              refine wpAny_take (i := 2) (v := .int .u64 (wl bt)) rfl (by kernel_rfl) (by kernel_rfl) (by kernel_rfl) (fun _ _ _ h => h) (Or.inl ⟨by rfl, by intro w; go_simp; try with_reducible rfl⟩) ?_
              try go_frame
              refine wpAny_take (i := 3) (v := .int .u64 (wl (x + bt))) rfl (by kernel_rfl) (by kernel_rfl) (by kernel_rfl) (fun _ _ _ h => h) (Or.inl ⟨by rfl, by intro w; go_simp; try with_reducible rfl⟩) ?_
              try go_frame
              refine wpAny_ready (rs := [0, 4]) (by kernel_rfl) (by simp) ?_
              refine AllReady.cons_plain rfl rfl (fun K hK => ?_) (AllReady.cons_plain rfl rfl (fun K hK => ?_) AllReady.nil)
              · refine wp_load_row 71 (.tmp 9) rfl yb rfl 71 (Y.map N64).toArray (0, 0) _ (by exact hg) Tryd.under71 rfl (by rw [hlY.out]; exact Tryd.size71) ?_
                refine hK _ _ ?_
                clear hK K
                try go_frame
                refine wpAny_ready (rs := [4]) (by kernel_rfl) (by simp) ?_
                refine AllReady.cons_plain rfl rfl (fun K hK => ?_) AllReady.nil
                go_simp
                go_wp2_with (go_at_call 35; refine (hof.out _).mono ?_; rintro e wa ⟨rfl, hba⟩)
                have hgA : HasN wa yb 71 Y := HasN.below (w := wr.drew) hg hba hg.lt
                refine wpAny_ready (rs := [5]) (by kernel_rfl) (by simp) ?_
                refine AllReady.cons_plain rfl rfl (fun K hK => ?_) AllReady.nil
                go_simp
                go_wp2_with (go_at_call 36; refine (htm.out _).mono ?_; rintro e wb ⟨rfl, hbb⟩)
                have hgB : HasN wb yb 71 Y := HasN.below hgA hbb hgA.lt
                refine wpAny_ready (rs := [6]) (by kernel_rfl) (by simp) ?_
                refine AllReady.cons_plain rfl rfl (fun K hK => ?_) AllReady.nil
                refine wp_store_row 71 (.tmp 9) (.tmp 36) rfl yb (M.map N64).toArray rfl rfl 71 _ hgB (by rw [hlM.out]; exact Tryd.size71) (by rw [hlM.out, hlY.out]) (N64_all _) ?_
                refine hK _ _ ?_
                clear hK K
                try go_frame
                refine wpAny_done (by kernel_rfl) ?_ _
                have HB : Box (Below w.heap.size w wb) := ⟨(hb.drew.trans (Below.mono (w := wr.drew) hba hb.size)).trans (hbb.mono (Nat.le_trans hb.size hba.size))⟩
                have HN' : Box (HasN (wb.setRow yb (M.map N64).toArray) yb 71 (powL (x + bt) (q + 1))) := ⟨by rw [HE.out]; exact setRow_heap _ _ _ _ 71 (0, 0) hgB⟩
                have HG2 : Box (HasN wb gb 71 G) := ⟨(HasN.below (w := wr.drew) hgG hba hgG.lt).below hbb (Nat.lt_of_lt_of_le hgG.lt hba.size)⟩
                go_wp2
                go_roundw
                case rel => exact ⟨q + 1, by omega, by go_num, HN'.out, HG2.out.below (below_setRow yb _ _ _ (Nat.le_refl _)) hgl, HB.out.trans (below_setRow _ _ _ _ (by omega))⟩
                case measure => simp [intOf]; omega
              · go_simp
                go_wp2_with (go_at_call 35; refine (hof.out _).mono ?_; rintro e wa ⟨rfl, hba⟩)
                have hgA : HasN wa yb 71 Y := HasN.below (w := wr.drew) hg hba hg.lt
                refine wpAny_ready (rs := [0]) (by kernel_rfl) (by simp) ?_
                refine AllReady.cons_plain rfl rfl (fun K hK => ?_) AllReady.nil
                refine wp_load_row 71 (.tmp 9) rfl yb rfl 71 (Y.map N64).toArray (0, 0) _ (by exact hgA) Tryd.under71 rfl (by rw [hlY.out]; exact Tryd.size71) ?_
                refine hK _ _ ?_
                clear hK K
                try go_frame
                refine wpAny_ready (rs := [5]) (by kernel_rfl) (by simp) ?_
                refine AllReady.cons_plain rfl rfl (fun K hK => ?_) AllReady.nil
                go_simp
                go_wp2_with (go_at_call 36; refine (htm.out _).mono ?_; rintro e wb ⟨rfl, hbb⟩)
                have hgB : HasN wb yb 71 Y := HasN.below hgA hbb hgA.lt
                refine wpAny_ready (rs := [6]) (by kernel_rfl) (by simp) ?_
                refine AllReady.cons_plain rfl rfl (fun K hK => ?_) AllReady.nil
                refine wp_store_row 71 (.tmp 9) (.tmp 36) rfl yb (M.map N64).toArray rfl rfl 71 _ hgB (by rw [hlM.out]; exact Tryd.size71) (by rw [hlM.out, hlY.out]) (N64_all _) ?_
                refine hK _ _ ?_
                clear hK K
                try go_frame
                refine wpAny_done (by kernel_rfl) ?_ _
                have HB : Box (Below w.heap.size w wb) := ⟨(hb.drew.trans (Below.mono (w := wr.drew) hba hb.size)).trans (hbb.mono (Nat.le_trans hb.size hba.size))⟩
                have HN' : Box (HasN (wb.setRow yb (M.map N64).toArray) yb 71 (powL (x + bt) (q + 1))) := ⟨by rw [HE.out]; exact setRow_heap _ _ _ _ 71 (0, 0) hgB⟩
                have HG2 : Box (HasN wb gb 71 G) := ⟨(HasN.below (w := wr.drew) hgG hba hgG.lt).below hbb (Nat.lt_of_lt_of_le hgG.lt hba.size)⟩
                go_wp2
                go_roundw
                case rel => exact ⟨q + 1, by omega, by go_num, HN'.out, HG2.out.below (below_setRow yb _ _ _ (Nat.le_refl _)) hgl, HB.out.trans (below_setRow _ _ _ _ (by omega))⟩
                case measure => simp [intOf]; omega
            · have hqn' : Box (q = n) := ⟨by omega⟩
              have hgY : wr.heap[yb]? = some (.cells ((powL (x + bt) n).map N64).toArray 71 (0, 0)) := by rw [← hqn'.out]; exact hg
              have hgG' : wr.heap[gb]? = some (.cells (G.map N64).toArray 71 (0, 0)) := hgG
              have hlY : Box (((powL (x + bt) n).map N64).toArray.size = 16) := ⟨by simp [powL_len]⟩
              have hlG : Box ((G.map N64).toArray.size = 16) := ⟨by simp [hGl]⟩
              have hpl := powL_len (x + bt) n
              have hyl : yb < wr.heap.size := (Array.getElem?_eq_some_iff.1 hgY).1
              clear hg
              generalize powL (x + bt) n = Y at hgY hlY hpl HJ
              go_wp2_with (first | (refine wpList_load_row rfl 71 (.tmp 9) rfl yb rfl 71 _ (0, 0) _ hgY Tryd.under71 rfl (by rw [hlY.out]; exact Tryd.size71) ?_) | (refine wpList_load_row rfl 71 (.tmp 5) rfl gb rfl 71 _ (0, 0) _ hgG' Tryd.under71 rfl (by rw [hlG.out]; exact Tryd.size71) ?_))
              refine (above_any Y G wr hpl hGl).mono ?_
              rintro e w5 ⟨rfl, hb5⟩
              have hg5 : HasN w5 gb 71 G := hgG.below hb5 hgG.lt
              have hb6 : Below w.heap.size w w5 := hb.trans (hb5.mono hb.size)
              clear hgY hgG' hb5 hb hgG
              cases hab : abv Y G 16 with
              | true =>
                have HJ' : Box (rtL p n (j + 1) = x) := ⟨by rw [HJ.out, hab]; rfl⟩
                clear hab HJ
                go_wp2
                go_roundw
                case rel => exact ⟨j + 1, by omega, by rw [HJ'.out], by rw [← hnx.out], hg5, hb6⟩
                case measure => have := hms.out; simp only [intOf]; omega
              | false =>
                have HJ' : Box (rtL p n (j + 1) = x + bt) := ⟨by rw [HJ.out, hab]; rfl⟩
                clear hab HJ
                go_wp2
                go_roundw
                case rel => exact ⟨j + 1, by omega, by rw [HJ'.out], by rw [← hnx.out], hg5, hb6⟩
                case measure => have := hms.out; simp only [intOf]; omega
        · have hj' : Box (rtL p n j = rtL p n 41) := ⟨by rw [show j = 41 by omega]⟩
          have hz0 : wl (bitL j) = 0 := by rw [show j = 41 by omega]; exact bitL_end
          obtain ⟨res, hres⟩ : ∃ r, Box (rtL p n 41 = r) := ⟨_, ⟨rfl⟩⟩
          rw [hj'.out, hres.out]
          go_wp2
          go_ret
          exact ⟨by rw [hres.out]; rfl, hb⟩
end Go.Proofs.YtnchebajehgelaaDoor
