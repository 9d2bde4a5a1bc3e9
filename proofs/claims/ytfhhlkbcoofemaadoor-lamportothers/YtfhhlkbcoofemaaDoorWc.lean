/- What mixed hands back: the eight numbers behind a block of 64 bytes, whatever the memory, where the numbers of the rounds lie in block 0. -/
import Derived.Test.YtfhhlkbcoofemaaDoorWb
import Derived.Deep.QuietTactic
import Derived.BigQuiet
import Derived.Maps.RangeWalk
namespace Go.Proofs.YtfhhlkbcoofemaaDoor
open Go.RowKit
theorem Tryd.under59 : Tryd.prog.underlying 59 = some (.array 8 58) := by kernel_rfl
theorem Tryd.size59 : (Tryd.prog.info? 59).map (·.size) = some 8 := by kernel_rfl
theorem code_any {P : Program} {c : Code} {Q : Exit → Act → World → Prop} {a : Act} {w : World} (F : World → Prop) (hF : F w) (h : ∀ w2, F w2 → Code.wp P c Q a w2) : Code.wp P c Q a w := h w hF
/-- What stays through the rounds. -/
structure Mx (w wr : World) (s : St) (ws : List (BitVec 32)) (v : Nat) : Prop where
  below : Below w.heap.size w wr
  st : HasW wr w.heap.size 59 s.list
  re : HasW wr (w.heap.size + 1) 59 (List.replicate 8 0)
  ws : HasW wr v 66 ws
  k : HasK wr 0
theorem Mx.drew {w wr : World} {s : St} {ws : List (BitVec 32)} {v : Nat} (h : Mx w wr s ws v) : Mx w wr.drew s ws v := ⟨h.below.drew, h.st, h.re, h.ws, h.k⟩
theorem Mx.drewN {w wr : World} {s : St} {ws : List (BitVec 32)} {v : Nat} (h : Mx w wr s ws v) (n : Nat) : Mx w (wr.drewN n) s ws v := ⟨⟨h.below.os, h.below.tape, h.below.output, h.below.size, h.below.block⟩, h.st, h.re, h.ws, h.k⟩
theorem St.eta (s : St) : s = ⟨s.a, s.b, s.c, s.d, s.e, s.f, s.g, s.h⟩ := rfl
attribute [local go_sem] vl_xor vl_and vl_or vl_not vl_notw vl_add vl_addw
set_option maxHeartbeats 1600000 in
set_option maxRecDepth 100000 in
theorem mixed_any (s : St) (ab ao c : Nat) (bs : List (BitVec 8)) (w : World) (hab : ab < w.heap.size) (hl64 : bs.length = 64) (hc : HasB w ab ao bs) (hK : HasK w 0) (h0 : 0 < w.heap.size) :
    Calls Tryd.prog 30 #[.agg (s.list.map U).toArray, .slice (some ⟨ab, ao, none⟩) 64 c] w fun e w' => e = .returned (.agg ((mix s bs).list.map U).toArray) ∧ Below w.heap.size w w' := by
  show Calls Tryd.prog 30 #[.agg #[.int .u32 (vl s.a), .int .u32 (vl s.b), .int .u32 (vl s.c), .int .u32 (vl s.d), .int .u32 (vl s.e), .int .u32 (vl s.f), .int .u32 (vl s.g), .int .u32 (vl s.h)], .slice (some ⟨ab, ao, none⟩) 64 c] w _
  go_enter Tryd.func30, Tryd.ntmps30
  go_wp2_with fail
  refine (words_any ab ao c bs _ (by simp; omega) hl64 ?_).mono ?_
  · intro i hi
    rw [World.cell?_alloc_past _ _ _ (by simp; omega), World.cell?_alloc_past _ _ _ hab]
    exact hc i hi
  rintro e w1 ⟨rfl, hb1⟩
  have hb : Below w.heap.size w w1 := (((Below.refl _ _).alloc (Nat.le_refl _) _).alloc (by simp) _).trans (hb1.mono (by simp; omega))
  have hst : HasW w1 w.heap.size 59 s.list := by
    refine HasW.below (w := _) ?_ hb1 (by simp; omega)
    exact heap_alloc2_old _ _ _
  have hre : HasW w1 (w.heap.size + 1) 59 (List.replicate 8 0) := by
    refine HasW.below (w := _) ?_ hb1 (by simp)
    exact heap_alloc2_new _ _ _
  have hs1 : w.heap.size + 2 ≤ w1.heap.size := by have := hb1.size; simp at this; omega
  have hKr : HasK w1 0 := hK.below hb h0
  clear hK hc hb1
  have hl : ((words bs).map U).toArray.size = 64 := by simp [words_len]
  go_wp2_with (refine wpList_store_row rfl 66 (.tmp 5) (.tmp 18) rfl w1.heap.size _ rfl rfl 66 _ (heap_alloc_new _ _) (by rw [hl]; exact Tryd.size66) (by rw [hl]; rfl) (U_one _) ?_)
  go_frame
  refine code_any (fun w2 => Mx w w2 s (words bs) w1.heap.size) ?_ ?_
  · have hb2 : Below w1.heap.size w1 ((w1.alloc (.cells (Array.replicate 64 (.int .u32 0)) 66)).setRow w1.heap.size ((words bs).map U).toArray) := ((Below.refl _ _).alloc (Nat.le_refl _) _).trans (below_setRow _ _ _ _ (Nat.le_refl _))
    refine ⟨hb.trans (hb2.mono (by omega)), hst.below hb2 (by omega), hre.below hb2 (by omega), ?_, hKr.below hb2 (by omega)⟩
    exact setRow_heap _ _ _ _ 66 (0, 0) (heap_alloc_new _ _)
  intro w2 hM
  clear hb hst hre hKr hl
  generalize w1.heap.size = v at *
  have g0 := hM.st.cell 0 (by simp [St.list])
  have g1 := hM.st.cell 1 (by simp [St.list])
  have g2 := hM.st.cell 2 (by simp [St.list])
  have g3 := hM.st.cell 3 (by simp [St.list])
  have g4 := hM.st.cell 4 (by simp [St.list])
  have g5 := hM.st.cell 5 (by simp [St.list])
  have g6 := hM.st.cell 6 (by simp [St.list])
  have g7 := hM.st.cell 7 (by simp [St.list])
  simp only [St.list, List.getD_cons_zero, List.getD_cons_succ] at g0 g1 g2 g3 g4 g5 g6 g7
  go_region
  go_wp2
  go_region
  go_wp2
  have hM2 := hM.drew.drew
  clear hM g0 g1 g2 g3 g4 g5 g6 g7
  go_loopw [6, 7, 8, 9, 10, 11, 12, 13, 35] (fun a b c d e f g h i wr => ∃ k : Nat, k ≤ 64 ∧ i = .int .i64 k ∧ Mx w wr s (words bs) v ∧ a = .int .u32 (vl (rnds (words bs) s k).a) ∧ b = .int .u32 (vl (rnds (words bs) s k).b) ∧ c = .int .u32 (vl (rnds (words bs) s k).c) ∧ d = .int .u32 (vl (rnds (words bs) s k).d) ∧ e = .int .u32 (vl (rnds (words bs) s k).e) ∧ f = .int .u32 (vl (rnds (words bs) s k).f) ∧ g = .int .u32 (vl (rnds (words bs) s k).g) ∧ h = .int .u32 (vl (rnds (words bs) s k).h)) (fun _ _ _ _ _ _ _ _ i _ => 64 - (intOf i).toNat)
  case atStart => exact ⟨0, by omega, rfl, hM2, rfl, rfl, rfl, rfl, rfl, rfl, rfl, rfl⟩
  case round =>
    clear hM2
    obtain ⟨k, hk, rfl, hM, rfl, rfl, rfl, rfl, rfl, rfl, rfl, rfl⟩ := hrel
    by_cases hlt : k < 64
    · as_aux_lemma =>
      have hk1 := hM.k k hlt
      have hk2 := hM.ws.cell k (by rw [words_len]; exact hlt)
      have HN : Box (rnds (words bs) s (k + 1) = rnd (rnds (words bs) s k) (KN.getD k 0) ((words bs).getD k 0)) := ⟨rfl⟩
      generalize KN.getD k 0 = kk at hk1 HN
      generalize (words bs).getD k 0 = ww at hk2 HN
      rw [St.eta (rnds (words bs) s k)] at HN
      generalize (rnds (words bs) s k).a = ra at HN ⊢
      generalize (rnds (words bs) s k).b = rb at HN ⊢
      generalize (rnds (words bs) s k).c = rc at HN ⊢
      generalize (rnds (words bs) s k).d = rd at HN ⊢
      generalize (rnds (words bs) s k).e = re at HN ⊢
      generalize (rnds (words bs) s k).f = rf at HN ⊢
      generalize (rnds (words bs) s k).g = rg at HN ⊢
      generalize (rnds (words bs) s k).h = rh at HN ⊢
      go_wp2
      go_quiet ((go_at_call 34; exact Calls.quiet_of_same (rotr_any _ _ (by decide) (by decide) _)))
      go_wp2_with (go_at_call 34; refine (rotr_any _ _ (by decide) (by decide) _).mono ?_; rintro e w' ⟨rfl, rfl⟩)
      go_roundw
      case rel =>
        refine ⟨k + 1, by omega, by go_num, hM.drewN _, ?_, ?_, ?_, ?_, ?_, ?_, ?_, ?_⟩
        all_goals (rw [HN.out]; rfl)
      case measure => simp [intOf]; omega
    · have hk64 : Box (k = 64) := ⟨by omega⟩
      have g0 := hM.st.cell 0 (by simp [St.list])
      have g1 := hM.st.cell 1 (by simp [St.list])
      have g2 := hM.st.cell 2 (by simp [St.list])
      have g3 := hM.st.cell 3 (by simp [St.list])
      have g4 := hM.st.cell 4 (by simp [St.list])
      have g5 := hM.st.cell 5 (by simp [St.list])
      have g6 := hM.st.cell 6 (by simp [St.list])
      have g7 := hM.st.cell 7 (by simp [St.list])
      simp only [St.list, List.getD_cons_zero, List.getD_cons_succ] at g0 g1 g2 g3 g4 g5 g6 g7
      have hM' : Box (Mx w wr s (words bs) v) := ⟨hM⟩
      have hre : wr.heap[w.heap.size + 1]? = some (.cells ((List.replicate 8 (0 : BitVec 32)).map U).toArray 59 (0, 0)) := hM.re
      clear hM
      have hR : Box (mix s bs = s.plus (rnds (words bs) s k)) := ⟨by rw [hk64.out]; rfl⟩
      clear hk64
      generalize rnds (words bs) s k = r at hR ⊢
      have hone := U_one (s.plus r).list
      have hone2 : (#[.int .u32 (vl (s.a + r.a)), .int .u32 (vl (s.b + r.b)), .int .u32 (vl (s.c + r.c)), .int .u32 (vl (s.d + r.d)), .int .u32 (vl (s.e + r.e)), .int .u32 (vl (s.f + r.f)), .int .u32 (vl (s.g + r.g)), .int .u32 (vl (s.h + r.h))] : Array Value).all (·.oneCell') = true := hone
      go_wp2_with (refine wpList_store_row rfl 59 (.tmp 4) (.tmp 130) rfl (w.heap.size + 1) #[.int .u32 (vl (s.a + r.a)), .int .u32 (vl (s.b + r.b)), .int .u32 (vl (s.c + r.c)), .int .u32 (vl (s.d + r.d)), .int .u32 (vl (s.e + r.e)), .int .u32 (vl (s.f + r.f)), .int .u32 (vl (s.g + r.g)), .int .u32 (vl (s.h + r.h))] rfl rfl 59 _ hre Tryd.size59 rfl hone2 ?_)
      have hM := hM'.out
      rw [hR.out]
      refine bodyPost_ret (v := .agg ((s.plus r).list.map U).toArray) ?_ rfl ⟨rfl, ?_⟩
      · exact results_cell_row (P := Tryd.prog) (fn := Tryd.f30) (p := 4) (ty := 59) rfl _ _ (w.heap.size + 1) 59 _ (0, 0) _ rfl (setRow_heap _ _ _ _ 59 (0, 0) hre) Tryd.under59 rfl Tryd.size59
      · exact hM.below.trans (below_setRow _ _ _ _ (by omega))
end Go.Proofs.YtfhhlkbcoofemaaDoor
