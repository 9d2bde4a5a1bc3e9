/- What Hash does with an In. -/
import Derived.Test.YtkgfcddjjghohaaWe
namespace Go.Proofs.Ytkgfcddjjghohaa
open Go.RowKit
theorem Try.under29 : Try.prog.underlying 29 = some (.array 32 5) := by kernel_rfl
theorem Try.size29 : (Try.prog.info? 29).map (·.size) = some 32 := by kernel_rfl
theorem Try.size5 : (Try.prog.info? 5).map (·.size) = some 1 := by kernel_rfl
def z32 : List (BitVec 8) := List.replicate 32 0
/-- The next hash. -/
def hOf (bs : List (BitVec 8)) : List (BitVec 8) := if 32 ≤ bs.length then bs.take 32 else z32
theorem hOf_len (bs : List (BitVec 8)) : (hOf bs).length = 32 := by unfold hOf z32; split <;> simp; omega
theorem splice_h (bs : List (BitVec 8)) : splice (z32.map V) 0 ((takeB bs 32).map V) = (hOf bs).map V := by
  unfold hOf takeB splice
  split
  · have : (z32.map V).drop (0 + ((bs.take 32).map V).length) = [] := List.eq_nil_of_length_eq_zero (by simp [z32]; omega)
    rw [this]; simp
  · simp
theorem below_setRow2 {B g : Nat} {w0 w : World} (hb : Below B w0 w) (hBg : B ≤ g) (cs : Array Value) : Below B w0 (w.setRow g cs) :=
  ⟨hb.os, hb.tape, hb.output, by simpa using hb.size, fun k hk => by rw [setRow_other w g k cs (by omega)]; exact hb.block k hk⟩
theorem hv_only {w w' : World} {g b : Nat} {T : TypeId} {xs : List (BitVec 8)} (h : HasV w b T xs) (ho : Only g w w') (hg : b ≠ g) : HasV w' b T xs := by
  have hl := h.lt
  unfold HasV at h ⊢
  rw [ho.block b hl hg]; exact h
theorem copy_h (g : Nat) (a : Option Addr) (c : Nat) (w : World) (bs : List (BitVec 8)) (gb : Nat) (hr : Rv w (.slice a (takeB bs 32).length c) (takeB bs 32) gb) (hv : HasV w g 29 z32) :
    (Builtin.copy_ #[25, 25] 3 #[.slice (some ⟨g, 0, none⟩) 32 32, .slice a (takeB bs 32).length c]).run Try.prog w = .ok (.int .i64 ((takeB bs 32).length : Int)) (w.setRow g ((hOf bs).map V).toArray) := by
  have hl := takeB_len bs 32
  have := run_copy_exact (P := Try.prog) w 25 25 3 5 Try.under25 Try.size5 (some ⟨g, 0, none⟩) a 32 32 (takeB bs 32).length c g 0 (z32.map V) 29 hv ((takeB bs 32).map V) (by rw [List.length_map]; show _ = min _ _; omega) (fun hp => ⟨rfl, by
    rcases hr with ⟨_, e⟩ | ⟨go, c', e, _, _, hB⟩
    · rw [e] at hp; simp at hp
    · simp only [Value.slice.injEq] at e
      refine ⟨_, e.1, ?_⟩
      intro j v hj
      have := hB.src (takeB bs 32).length j v
      rw [List.take_of_length_le (Nat.le_refl _)] at this
      exact this hj⟩) (by rw [List.length_map, List.length_map]; show _ ≤ z32.length; simp [z32]; omega) (V_one _)
  rw [splice_h, List.length_map] at this
  exact this
/-- In block ib lies an In that has the bytes bs left, wherever these lie. -/
def HasI (w : World) (ib : Nat) (bs : List (BitVec 8)) (bad : Bool) : Prop := ∃ gb, HasIn w ib bs bad gb
theorem HasI.lt {w : World} {ib : Nat} {bs : List (BitVec 8)} {bad : Bool} (h : HasI w ib bs bad) : ib < w.heap.size := by obtain ⟨gb, h⟩ := h; exact h.lt
theorem HasI.below {w w' : World} {ib : Nat} {bs : List (BitVec 8)} {bad : Bool} (h : HasI w ib bs bad) (ho : Below w.heap.size w w') : HasI w' ib bs bad := by obtain ⟨gb, h⟩ := h; exact ⟨gb, h.below ho⟩
theorem HasI.pick {w : World} {ib : Nat} {bs : List (BitVec 8)} {bad : Bool} (h : HasI w ib bs bad) : ∃ gb, HasIn w ib bs bad gb ∧ (gb < w.heap.size ∨ w.heap.size + 9 ≤ gb) := by
  have hl := h.lt
  obtain ⟨gb, v, hv, hr, hne⟩ := h
  rcases hr with ⟨e, e2⟩ | ⟨go, c, e, hc, hlt, hB⟩
  · exact ⟨w.heap.size + 9, ⟨v, hv, .inl ⟨e, e2⟩, by omega⟩, .inr (by omega)⟩
  · exact ⟨gb, ⟨v, hv, .inr ⟨go, c, e, hc, hlt, hB⟩, hne⟩, .inl hlt⟩
theorem HasIn.setRow {w : World} {ib gb g : Nat} {bs : List (BitVec 8)} {bad : Bool} (h : HasIn w ib bs bad gb) (cs : Array Value) (h1 : ib ≠ g) (h2 : gb ≠ g) : HasIn (w.setRow g cs) ib bs bad gb := by
  obtain ⟨v, hv, hr, hne⟩ := h
  exact ⟨v, by rw [setRow_other w g ib cs h1]; exact hv, hr.keep (by simp) (fun _ => setRow_other w g gb cs h2), hne⟩
set_option maxHeartbeats 400000 in
theorem hash_at (ib gb : Nat) (bs : List (BitVec 8)) (bad : Bool) (w : World) (h : HasIn w ib bs bad gb) (hgb : gb ≠ w.heap.size ∧ gb ≠ w.heap.size + 1) (hbs : bs.length ≤ 900000) :
    Calls Try.prog 22 #[.pointer (some ⟨ib, 0, none⟩)] w fun e w' => e = .returned (.agg ((hOf bs).map V).toArray) ∧ HasIn w' ib (dropB bs 32) (badB bs bad 32) gb ∧ Only ib w w' := by
  have hib := h.lt
  have h' := Box.mk h
  clear h
  go_enter Try.func22, Try.ntmps22
  go_upto_region 2 with fail
  refine code_any (fun w1 => HasV w1 w.heap.size 29 z32 ∧ HasV w1 (w.heap.size + 1) 29 z32 ∧ Below w.heap.size w w1) ?_ ?_
  · exact ⟨heap_alloc2_old _ _ _, heap_alloc2_new _ _ _, ((Below.refl _ _).alloc (Nat.le_refl _) _).alloc (by simp) _⟩
  rintro w1 ⟨hv1, hv2, hb1⟩
  have hB1 := Box.mk hv1
  have hB2 := Box.mk hv2
  clear hv1 hv2
  go_region_with (go_at_call 36; refine (take_any ib gb 32 bs bad _ (h'.out.below (by first | exact hb1.drew | exact hb1)) (by omega) (by omega)).mono ?_; rintro e w2 ⟨v, rfl, h1, h2, h3⟩; have h1' := Box.mk h1; have h2' := Box.mk h2; have h3' : Box (Only ib w1 w2) := ⟨⟨h3.os, h3.tape, h3.output, h3.size, h3.block⟩⟩; obtain ⟨a, c, e2, _⟩ := h1.shape; subst e2; have hcp := copy_h (w.heap.size + 1) a c w2 _ gb h1 (hv_only hB2.out h3'.out (by omega)); clear h1 h2 h3)
  all_goals
    have hW : ∃ w3, w3 = w2.setRow (w.heap.size + 1) ((hOf bs).map V).toArray ∧ w3.heap[w.heap.size + 1]? = some (.cells ((hOf bs).map V).toArray 29 (0, 0)) ∧ w3.heap[w.heap.size]? = some (.cells (z32.map V).toArray 29 (0, 0)) ∧ Box (Only ib w w3) ∧ Box (HasIn w3 ib (dropB bs 32) (badB bs bad 32) gb) := by
      refine ⟨_, rfl, setRow_heap _ _ _ _ 29 (0, 0) (hv_only hB2.out h3'.out (by omega)), ?_, ⟨?_⟩, ⟨h2'.out.setRow _ (by omega) (by omega)⟩⟩
      · rw [setRow_other _ _ _ _ (by omega)]
        exact hv_only hB1.out h3'.out (by omega)
      · have o1 : Only ib w w2 := (Only.of_below hb1).trans h3'.out
        exact ⟨o1.os, o1.tape, o1.output, by simpa using o1.size, fun k hk hne => by rw [setRow_other _ _ _ _ (by omega)]; exact o1.block k hk hne⟩
    obtain ⟨w3, hw3, k1, k2, k3, k4⟩ := hW
    rw [← hw3]
    clear hw3 hcp
    have hs32 : Box (((hOf bs).map V).toArray.size = 32) := ⟨by simp [hOf_len]⟩
    have hz32 : Box ((z32.map V).toArray.size = 32) := ⟨by simp [z32]⟩
    go_wp2_with (first | (refine wpList_load_row rfl 29 (.tmp 3) rfl (w.heap.size + 1) rfl 29 _ (0, 0) _ k1 Try.under29 rfl (by rw [hs32.out]; exact Try.size29) ?_) | (refine wpList_store_row rfl 29 (.tmp 2) (.tmp 8) rfl w.heap.size ((hOf bs).map V).toArray rfl rfl 29 _ k2 (by rw [hs32.out]; exact Try.size29) (by rw [hs32.out, hz32.out]) (V_all _) ?_))
    try go_frame
    refine bodyPost_ret (results_cell_row rfl _ _ w.heap.size 29 ((hOf bs).map V).toArray (0, 0) _ rfl (setRow_heap _ _ _ _ 29 (0, 0) k2) Try.under29 rfl (by rw [hs32.out]; exact Try.size29)) rfl ⟨rfl, k4.out.setRow _ (by omega) (by omega), ?_⟩
    have o1 := k3.out
    exact ⟨o1.os, o1.tape, o1.output, by simpa using o1.size, fun k hk hne => by rw [setRow_other _ _ _ _ (by omega)]; exact o1.block k hk hne⟩
theorem hash_any (ib : Nat) (bs : List (BitVec 8)) (bad : Bool) (w : World) (h : HasI w ib bs bad) (hbs : bs.length ≤ 900000) :
    Calls Try.prog 22 #[.pointer (some ⟨ib, 0, none⟩)] w fun e w' => e = .returned (.agg ((hOf bs).map V).toArray) ∧ HasI w' ib (dropB bs 32) (badB bs bad 32) ∧ Only ib w w' := by
  obtain ⟨gb, h', hgb⟩ := h.pick
  refine (hash_at ib gb bs bad w h' (by omega) hbs).mono ?_
  rintro e w' ⟨h1, h2, h3⟩
  exact ⟨h1, ⟨gb, h2⟩, h3⟩
end Go.Proofs.Ytkgfcddjjghohaa
