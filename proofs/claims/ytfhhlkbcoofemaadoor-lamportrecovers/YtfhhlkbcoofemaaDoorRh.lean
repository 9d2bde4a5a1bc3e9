/- The calls of lamport and of ends as the laws' steps meet them. -/
import Derived.Test.YtfhhlkbcoofemaaDoorRg
namespace Go.Proofs.YtfhhlkbcoofemaaDoor
open Go.RowKit
theorem fk_public_ok {seed : List (BitVec 8)} {key : Nat} {w : World} (hx : seed.length = 32) (hk : key ≤ 2147483647) (hK : Tab w) {y : List (BitVec 8)} (hy : Box (pub (all512 (edOf seed key)) = y)) :
    Calls Tryd.prog 6 #[.agg (seed.map V).toArray, .int .i64 ((key : Nat) : Int)] w fun e w' => ∃ u, e = .returned u ∧ (Fk.eq (.tuple #[.agg (y.map V).toArray, .int .i64 0])).f u w' ∧ Below w.heap.size w w' := by
  rw [← hy.out]; exact fk_of (public_ok seed key w hx hk hK)
theorem fk_public_no {seed : List (BitVec 8)} {key : Int} {w : World} (hk : key < 0 ∨ 2147483647 < key) :
    Calls Tryd.prog 6 #[.agg (seed.map V).toArray, .int .i64 key] w fun e w' => ∃ u, e = .returned u ∧ (Fk.eq (.tuple #[.agg (hz.map V).toArray, .int .i64 11])).f u w' ∧ Below w.heap.size w w' := fk_of (public_no seed key w hk)
theorem fk_sign_ok {seed : List (BitVec 8)} {key : Nat} {h : List (BitVec 8)} {w : World} (hx : seed.length = 32) (hh : h.length = 32) (hk : key ≤ 2147483647) (hK : Tab w) {S : List (List (BitVec 8))} (hS : Box (all512 (sgOf seed key h) = S)) :
    Calls Tryd.prog 7 #[.agg (seed.map V).toArray, .int .i64 ((key : Nat) : Int), .agg (h.map V).toArray] w fun e w' => ∃ u, e = .returned u ∧ (Fk.th S 0).f u w' ∧ Below w.heap.size w w' := by
  refine (sign_ok seed key h w hx hh hk hK).mono ?_
  rintro e w' ⟨g, rfl, hl, _, hb⟩
  rw [hS.out] at hl
  have h512 : S.length = 512 := by rw [← hS.out]; exact all_len _
  exact ⟨_, rfl, ⟨_, rfl, _, 512, g, 0, by rw [h512], hl.hl⟩, hb⟩
/-- No hashes. -/
def nilH : List (List (BitVec 8)) := []
theorem fk_sign_no {seed : List (BitVec 8)} {key : Int} {h : List (BitVec 8)} {w : World} (hk : key < 0 ∨ 2147483647 < key) :
    Calls Tryd.prog 7 #[.agg (seed.map V).toArray, .int .i64 key, .agg (h.map V).toArray] w fun e w' => ∃ u, e = .returned u ∧ (Fk.th nilH 11).f u w' ∧ Below w.heap.size w w' := by
  refine (sign_no seed key h w hk).mono ?_
  rintro e w' ⟨rfl, hb⟩
  exact ⟨_, rfl, ⟨_, rfl, none, 0, 0, 0, rfl, fun h => by simp [nilH] at h, fun h => by simp [nilH] at h, fun i x hi => by simp [nilH] at hi⟩, hb⟩
theorem fk_recover_ok {h : List (BitVec 8)} {S : List (List (BitVec 8))} {v : Value} {w : World} (hh : h.length = 32) (hSl : S.length = 512) (hK : Tab w) (hv : (Fk.hs S).f v w) {y : List (BitVec 8)} (hy : Box (pub (all512 (rcOf h S)) = y)) :
    Calls Tryd.prog 13 #[.agg (h.map V).toArray, v] w fun e w' => ∃ u, e = .returned u ∧ (Fk.eq (.tuple #[.agg (y.map V).toArray, .int .i64 0])).f u w' ∧ Below w.heap.size w w' := by
  have hv' := hv
  obtain ⟨A, C, lb, lo, rfl, hl⟩ := hv
  rw [hSl] at hv' ⊢
  rw [← hy.out]
  exact fk_of (recover_ok h A C S w hh hSl hv' hK)
theorem fk_recover_no {h : List (BitVec 8)} {S : List (List (BitVec 8))} {v : Value} {w : World} (hSl : S.length ≠ 512) (hv : (Fk.hs S).f v w) :
    Calls Tryd.prog 13 #[.agg (h.map V).toArray, v] w fun e w' => ∃ u, e = .returned u ∧ (Fk.eq (.tuple #[.agg (hz.map V).toArray, .int .i64 10])).f u w' ∧ Below w.heap.size w w' := by
  obtain ⟨A, C, lb, lo, rfl, hl⟩ := hv
  exact fk_of (recover_no h A _ C w hSl)
theorem fk_ends {seed : List (BitVec 8)} {key : Int} {w : World} (hx : seed.length = 32) (hK : Tab w) {E : List (List (BitVec 8))} (hE : Box (all512 (edOf seed key) = E)) :
    Calls Tryd.prog 9 #[.agg (seed.map V).toArray, .int .i64 key] w fun e w' => ∃ u, e = .returned u ∧ (Fk.hs E).f u w' ∧ Below w.heap.size w w' := by
  rw [← hE.out]; exact ends_any seed key w hx hK
/-- A row of 512 noughts that is new. -/
def Fk.nr (g0 : Nat) : Fk := .inr (.inl ⟨fun v w => ∃ g, g0 ≤ g ∧ v = .slice (some ⟨g, 0, none⟩) 512 512 ∧ Rw w g z512, by
  rintro v w w' ⟨g, h, e, hr⟩ hb
  exact ⟨g, h, e, hr.below hb⟩⟩)
theorem st_make27 {Q : Exit → Act → World → Prop} {o : Oper} {a : Act} {w : World} (ho : o.op = .makeSlice 27 (.const (.int .i64 512)) (.const (.int .i64 512))) (g0 : Nat) (hg : g0 ≤ w.heap.size) : o.wp Tryd.prog a w (Ends a o.dst w (Fk.nr g0).f) Q := by
  refine st_run (v := .slice (some ⟨w.heap.size, 0, none⟩) 512 512) (w' := w.alloc (.cells mk512 23)) ?_ ((Below.refl _ _).alloc (Nat.le_refl _) _) ⟨w.heap.size, hg, rfl, rw_new w⟩
  have := Tryd.make27 w
  have he : a.eval (.const (.int .i64 512)) = .int .i64 512 := rfl
  unfold execOp
  rw [ho]
  simp [he, this]
theorem rw_hs {w : World} {g : Nat} {hs : List (List (BitVec 8))} (h : Rw w g hs) (hl : hs.length = 512) : (Fk.hs hs).f (.slice (some ⟨g, 0, none⟩) 512 512) w := ⟨_, 512, g, 0, by rw [hl], h.hl⟩
end Go.Proofs.YtfhhlkbcoofemaaDoor
