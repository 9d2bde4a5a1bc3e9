/- The calls of Public and Sign as steps meet them; what a signature leads to. -/
import Derived.Test.YthnaomkkaodbkaaDoorUo
namespace Go.Proofs.YthnaomkkaodbkaaDoor
open Go.RowKit
section
variable {Q : Exit → Act → World → Prop} {o : Oper} {a : Act} {w : World}
theorem st_exth (x : Operand) (ho : o.op = .extract x 0) {hs : List (List (BitVec 8))} {n : Int} (h : (Fk.th hs n).f (a.eval x) w) : o.wp Tryd.prog a w (Ends a o.dst w (Fk.hs hs).f) Q := by
  obtain ⟨u, e, hu⟩ := h
  exact st_ext0 x ho e hu
theorem st_extn (x : Operand) (ho : o.op = .extract x 1) {hs : List (List (BitVec 8))} {n : Int} (h : (Fk.th hs n).f (a.eval x) w) : o.wp Tryd.prog a w (Ends a o.dst w (Fk.eq (.int .i64 n)).f) Q := by
  obtain ⟨u, e, hu⟩ := h
  exact st_ext1 x ho e rfl
end
theorem fk_public_ok {seed : List (BitVec 8)} {key : Nat} {w : World} (hx : seed.length = 32) (hk : key ≤ 2147483647) (hK : Tab w) {y : List (BitVec 8)} (hy : Box (pub (all67 (endOf seed key)) = y)) :
    Calls Tryd.prog 11 #[.agg (seed.map V).toArray, .int .i64 ((key : Nat) : Int)] w fun e w' => ∃ u, e = .returned u ∧ (Fk.eq (.tuple #[.agg (y.map V).toArray, .int .i64 0])).f u w' ∧ Below w.heap.size w w' := by
  rw [← hy.out]; exact fk_of (public_ok seed key w hx hk hK)
theorem fk_public_no {seed : List (BitVec 8)} {key : Int} {w : World} (hk : key < 0 ∨ 2147483647 < key) :
    Calls Tryd.prog 11 #[.agg (seed.map V).toArray, .int .i64 key] w fun e w' => ∃ u, e = .returned u ∧ (Fk.eq (.tuple #[.agg (hz.map V).toArray, .int .i64 11])).f u w' ∧ Below w.heap.size w w' := fk_of (public_no seed key w hk)
theorem fk_sign_ok {seed : List (BitVec 8)} {key : Nat} {h : List (BitVec 8)} {w : World} (hx : seed.length = 32) (hh : h.length = 32) (hk : key ≤ 2147483647) (hK : Tab w) {S : List (List (BitVec 8))} (hS : Box (all67 (sigOf seed key h) = S)) :
    Calls Tryd.prog 12 #[.agg (seed.map V).toArray, .int .i64 ((key : Nat) : Int), .agg (h.map V).toArray] w fun e w' => ∃ u, e = .returned u ∧ (Fk.th S 0).f u w' ∧ Below w.heap.size w w' := by
  refine (sign_ok seed key h w hx hh hk hK).mono ?_
  rintro e w' ⟨g, rfl, hl, _, hb⟩
  rw [hS.out] at hl
  have h67 : S.length = 67 := by rw [← hS.out]; exact all_len _
  exact ⟨_, rfl, ⟨_, rfl, _, 67, g, 0, by rw [h67], hl⟩, hb⟩
/-- No hashes. -/
def nilH : List (List (BitVec 8)) := []
theorem fk_sign_no {seed : List (BitVec 8)} {key : Int} {h : List (BitVec 8)} {w : World} (hk : key < 0 ∨ 2147483647 < key) :
    Calls Tryd.prog 12 #[.agg (seed.map V).toArray, .int .i64 key, .agg (h.map V).toArray] w fun e w' => ∃ u, e = .returned u ∧ (Fk.th nilH 11).f u w' ∧ Below w.heap.size w w' := by
  refine (sign_no seed key h w hk).mono ?_
  rintro e w' ⟨rfl, hb⟩
  exact ⟨_, rfl, ⟨_, rfl, none, 0, 0, 0, rfl, fun h => by simp [nilH] at h, fun h => by simp [nilH] at h, fun i x hi => by simp [nilH] at hi⟩, hb⟩
theorem sig_end (seed : List (BitVec 8)) (key : Nat) (h : List (BitVec 8)) (i : Nat) : wk (i : Int) (dg h i) (sigOf seed key h i) (15 - dg h i) = endOf seed key i := by
  unfold sigOf endOf
  have := dg_le h i
  have e := wk_add (i : Int) 0 (sec seed key i) (dg h i) (15 - dg h i)
  rw [Nat.zero_add, show dg h i + (15 - dg h i) = 15 by omega] at e
  exact e.symm
theorem rec_sig (seed : List (BitVec 8)) (key : Nat) (h : List (BitVec 8)) : all67 (recOf h (all67 (sigOf seed key h))) = all67 (endOf seed key) := by
  unfold all67
  apply List.map_congr_left
  intro i hi
  have hi' : i < 67 := by simpa using hi
  have e : (((List.range 67).map (sigOf seed key h)).getD i []) = sigOf seed key h i := by
    have := all_at (sigOf seed key h) i hi'
    unfold all67 at this
    simp only [List.getD_eq_getElem?_getD, this, Option.getD_some]
  unfold recOf
  rw [e, sig_end]
end Go.Proofs.YthnaomkkaodbkaaDoor
