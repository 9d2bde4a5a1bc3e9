/- compact.joined. One leaf more. Append of package compact. Root of package compact. Drawn regions with guards, a call that turns an object in their midst: operations one by one, each guard told. -/
import Derived.Test.YtnppjlpnfijobaaDoorM7
import Derived.Test.YtnppjlpnfijobaaDoorM4
import Derived.Test.YtnppjlpnfijobaaDoorM3
import Derived.Test.YtnppjlpnfijobaaDoorM5
namespace Go.Proofs.YtnppjlpnfijobaaDoor
set_option maxRecDepth 100000
open Go.RowKit
theorem getD_at {P : List (List (BitVec 8))} {q : Nat} {p : List (BitVec 8)} (h : P[q]? = some p) : P.getD q [] = p := by rw [List.getD_eq_getElem?_getD, h]; rfl
theorem def_setRow {w : World} {D g : Nat} {T : TypeId} {cs : List Value} {d : Option (List Deferred)} (hD : w.heap[D]? = some (.deferred d)) (m : Ob w g T cs) (ds : Array Value) : (w.setRow g ds).heap[D]? = some (.deferred d) := by
  have hne : D ≠ g := by
    rintro rfl
    unfold Ob at m
    rw [hD] at m
    cases m
  rw [((Only.refl g w).setRow ds).block D (Array.getElem?_eq_some_iff.1 hD).1 hne]
  exact hD
theorem def_ne {w : World} {D g : Nat} {T : TypeId} {cs : List Value} {d : Option (List Deferred)} (hD : w.heap[D]? = some (.deferred d)) (m : Ob w g T cs) : g ≠ D := by
  rintro rfl
  unfold Ob at m
  rw [hD] at m
  cases m
/-- The frame of a round with one variable. -/
def rfr1 (t : Array Value) (p : Nat) (u : Value) : Act := { tmps := t.setIfInBounds p u, defers := [] }
theorem rfr1_eq (t : Array Value) (p : Nat) (u : Value) : ({ tmps := (#[p].zip #[u]).foldl (fun t (p, v) => t.setIfInBounds p v) t, defers := [] } : Act) = rfr1 t p u := by
  unfold rfr1
  simp
theorem rfr1_size (t : Array Value) (p : Nat) (u : Value) : (rfr1 t p u).tmps.size = t.size := by simp [rfr1]
theorem rfr1_old (a : Act) (p : Nat) (u : Value) {j : Nat} (hp : (j == p) = false) : (rfr1 a.tmps p u).eval (.tmp j) = a.eval (.tmp j) := by
  have h1 : p ≠ j := fun e => by subst e; simp at hp
  show (a.tmps.setIfInBounds p u).getD j undef = a.tmps.getD j undef
  rw [Array.getD_eq_getD_getElem?, Array.getD_eq_getD_getElem?, Array.getElem?_setIfInBounds_ne h1]
theorem rfr1_p (t : Array Value) (p : Nat) (u : Value) (hp : p < t.size) : (rfr1 t p u).eval (.tmp p) = u := by
  show (t.setIfInBounds p u).getD p undef = u
  rw [Array.getD_eq_getD_getElem?, Array.getElem?_setIfInBounds_self_of_lt hp]
  rfl
set_option maxHeartbeats 1000000 in
theorem joined_any {P : List (List (BitVec 8))} (hl : P.length ≤ 1000) {pA : Option Addr} {pC : Nat} (w : World) (hvs : (Fk.hs P).f (.slice pA P.length pC) w) (hK : Tab w) {y0 y : List (BitVec 8)} (hy0 : y0.length = 32) (ey : Box (gw P y0 P.length = y)) :
    Calls Tryd.prog 27 #[.slice pA P.length pC, .agg ((y0).map V).toArray] w fun e w' => e = .returned (.agg ((y).map V).toArray) ∧ Below w.heap.size w w' := by
  have hy : y.length = 32 := by rw [← ey.out]; exact gw_len P hy0 _
  refine (callsIn_wide (n := 7)).1 ?_
  refine callsIn_of_wp_marks Tryd.func27 rfl trivial ?_ rfl
  simp only [Tryd.ntmps27, List.size_toArray, List.length_cons, List.length_nil, Nat.reduceAdd, Nat.reduceSub, Array.replicate_succ, Array.replicate_zero, List.push_toArray, List.append_toArray, List.nil_append, List.cons_append]
  refine wpIn_wide.2 ?_
  refine code_both (fun f w1 => f.tmps.size = 15 ∧ f.defers = [] ∧ f.eval (.tmp 0) = .slice pA P.length pC ∧ f.eval (.tmp 1) = .agg ((y0).map V).toArray ∧ Below w.heap.size w (w1)) ⟨rfl, rfl, rfl, rfl, Below.refl _ _⟩ ?_
  rintro f0 w0 ⟨sz, df, x0, x1, bl⟩
  have bl0 := bl
  refine wp_seq ?_
  refine wp_region_seq [] (by kernel_rfl) (by kernel_rfl) (by rw [sz]; kernel_rfl) (by kernel_rfl) trivial ?_
  intro f1 w1 A hb
  replace bl0 := bl
  replace x0 := (A.old 0 rfl).trans x0
  replace x1 := (A.old 1 rfl).trans x1
  replace bl := (bl.trans (Below.mono hb bl.size))
  replace sz := A.size.trans sz
  replace df := A.defs.trans df
  clear A hb
  refine wl_one (.nw w1.heap.size 33 ((y0).map V)) rfl 3 rfl (by rw [sz]; decide) (st_box 33 (.tmp 1) rfl _ _ (by rw [show _ = _ from x1]; kernel_rfl) (Nat.le_refl _)) ?_
  intro f2 w2 df2 sz2 old2 new2 hb
  replace bl0 := bl
  replace x0 := (old2 0 rfl).trans x0
  replace x1 := (old2 1 rfl).trans x1
  have x3 : Fk.f (.nw w1.heap.size 33 ((y0).map V)) (f2.eval (.tmp 3)) w2 := new2
  replace bl := (bl.trans (Below.mono hb bl.size))
  replace sz := sz2.trans sz
  replace df := df2.trans df
  clear df2 sz2 old2 new2 hb
  obtain ⟨g3, hg3, e3, m3⟩ := x3
  have x3 := e3
  clear e3
  have hw3 : w.heap.size ≤ g3 := Nat.le_trans bl0.size hg3
  clear x1
  refine wl_one (.nw w2.heap.size 33 ((hz).map V)) rfl 4 rfl (by rw [sz]; decide) (st_alloc33 rfl _ (Nat.le_refl _)) ?_
  intro f3 w3 df2 sz2 old2 new2 hb
  replace bl0 := bl
  replace x0 := (old2 0 rfl).trans x0
  replace x3 := (old2 3 rfl).trans x3
  have x4 : Fk.f (.nw w2.heap.size 33 ((hz).map V)) (f3.eval (.tmp 4)) w3 := new2
  have lt_m3 := Ob.lt m3
  replace m3 := Ob.below m3 hb
  replace bl := (bl.trans (Below.mono hb bl.size))
  replace sz := sz2.trans sz
  replace df := df2.trans df
  clear df2 sz2 old2 new2 hb
  obtain ⟨g4, hg4, e4, m4⟩ := x4
  have x4 := e4
  clear e4
  have nm3_4 : g3 ≠ g4 := Nat.ne_of_lt (Nat.lt_of_lt_of_le lt_m3 hg4)
  have hw4 : w.heap.size ≤ g4 := Nat.le_trans bl0.size hg4
  refine wpList_nil ?_
  show Code.wp _ _ _ _ _
  refine wp_seq ?_
  refine wp_region_seq [.eq (.agg ((y0).map V).toArray)] (by kernel_rfl) (by kernel_rfl) (by rw [sz]; kernel_rfl) (by kernel_rfl) ⟨fun hw ac u K => ?_, trivial⟩ ?_
  · exact st_load33 (.tmp 3) rfl (g3) (y0) ((K.old 3 rfl).trans x3) hy0 (Ob.below m3 K.grow)
  intro f4 w4 A hb
  replace bl0 := bl
  replace x0 := (A.old 0 rfl).trans x0
  replace x3 := (A.old 3 rfl).trans x3
  replace x4 := (A.old 4 rfl).trans x4
  have x7 : f4.eval (.tmp 7) = .agg ((y0).map V).toArray := A.has 0 7 rfl
  have lt_m3 := Ob.lt m3
  replace m3 := Ob.below m3 hb
  have lt_m4 := Ob.lt m4
  replace m4 := Ob.below m4 hb
  replace bl := (bl.trans (Below.mono hb bl.size))
  replace sz := A.size.trans sz
  replace df := A.defs.trans df
  clear A hb
  clear x3
  refine wl_one (.nw w4.heap.size 33 ((hz).map V)) rfl 5 rfl (by rw [sz]; decide) (st_alloc33 rfl _ (Nat.le_refl _)) ?_
  intro f5 w5 df2 sz2 old2 new2 hb
  replace bl0 := bl
  replace x0 := (old2 0 rfl).trans x0
  replace x4 := (old2 4 rfl).trans x4
  replace x7 := (old2 7 rfl).trans x7
  have x5 : Fk.f (.nw w4.heap.size 33 ((hz).map V)) (f5.eval (.tmp 5)) w5 := new2
  have lt_m3 := Ob.lt m3
  replace m3 := Ob.below m3 hb
  have lt_m4 := Ob.lt m4
  replace m4 := Ob.below m4 hb
  replace bl := (bl.trans (Below.mono hb bl.size))
  replace sz := sz2.trans sz
  replace df := df2.trans df
  clear df2 sz2 old2 new2 hb
  obtain ⟨g5, hg5, e5, m5⟩ := x5
  have x5 := e5
  clear e5
  have nm3_5 : g3 ≠ g5 := Nat.ne_of_lt (Nat.lt_of_lt_of_le lt_m3 hg5)
  have nm4_5 : g4 ≠ g5 := Nat.ne_of_lt (Nat.lt_of_lt_of_le lt_m4 hg5)
  have hw5 : w.heap.size ≤ g5 := Nat.le_trans bl0.size hg5
  refine wl_store rfl (.tmp 5) (.tmp 7) rfl rfl (g5) (y0) (hz) x5 x7 m5 hz_len hy0 ?_
  replace m3 : Ob (w5.setRow g5 ((y0).map V : List Value).toArray) (g3) 33 ((y0).map V) := Ob.setRow_other m3 _ nm3_5
  replace m4 : Ob (w5.setRow g5 ((y0).map V : List Value).toArray) (g4) 33 ((hz).map V) := Ob.setRow_other m4 _ nm4_5
  replace m5 : Ob (w5.setRow g5 ((y0).map V : List Value).toArray) (g5) 33 ((y0).map V) := Ob.setRow m5 ((y0).map V)
  replace bl : Below w.heap.size w (w5.setRow g5 ((y0).map V : List Value).toArray) := bl.trans (below_setRow _ _ _ _ hw5)
  generalize w5.setRow g5 ((y0).map V : List Value).toArray = w6b at bl m3 m4 m5 ⊢
  refine wpList_nil ?_
  clear x7
  show Code.wp _ _ _ _ _
  refine wp_seq ?_
  refine wp_seq ?_
  refine wp_all_seq [.eq (.slice pA P.length pC), .cl w6b.heap.size 63 22 (.slice pA P.length pC)] (by kernel_rfl) (by kernel_rfl) (by rw [sz]; kernel_rfl) (by kernel_rfl) ⟨fun hw ac u K => ?_, fun hw ac u K => ?_, trivial⟩ ?_
  · exact st_move (.tmp 0) rfl ((K.old 0 rfl).trans x0)
  · exact st_call 46 (.func 46) _ _ #[.slice pA P.length pC] rfl rfl (one_arg (K.dep 0 8 rfl)) Tryd.enter46 (backward_any _ _ _ _ _ K.grow.size)
  intro f7 w7 A hb
  replace bl0 := bl
  replace x0 := (A.old 0 rfl).trans x0
  replace x4 := (A.old 4 rfl).trans x4
  replace x5 := (A.old 5 rfl).trans x5
  have x9 : Fk.f (.cl w6b.heap.size 63 22 (.slice pA P.length pC)) (f7.eval (.tmp 9)) w7 := A.has 1 9 rfl
  have lt_m3 := Ob.lt m3
  replace m3 := Ob.below m3 hb
  have lt_m4 := Ob.lt m4
  replace m4 := Ob.below m4 hb
  have lt_m5 := Ob.lt m5
  replace m5 := Ob.below m5 hb
  replace bl := (bl.trans (Below.mono hb bl.size))
  replace sz := A.size.trans sz
  replace df := A.defs.trans df
  clear A hb
  clear x0
  obtain ⟨g9, hg9, e9, m9⟩ := x9
  have x9 := e9
  clear e9
  have hw9 : w.heap.size ≤ g9 := Nat.le_trans bl0.size hg9
  show Code.wp _ _ _ _ _
  refine wp_block ?_
  have lt4 := Ob.lt m4
  have lt5 := Ob.lt m5
  have lt9 := Ob.lt m9
  have hsw := bl.size
  have n9_5 : g9 ≠ g5 := by have := lt_m5; omega
  refine (wpIn_wide (n := 7)).1 ?_
  refine range_gives (by decide) x9 Tryd.enter63 (back_gives (P := P) (by omega) g9 (.slice pA P.length pC) w7) (fun _ => rfl)
    (fun k W => Ob W g5 33 ((gw P y0 k).map V) ∧ Ob W g4 33 ((hz).map V) ∧ Ob W g9 22 [.slice pA P.length pC] ∧ Below w.heap.size w W) (fun _ _ _ => False) ?_ (fun _ _ _ _ h _ => h) ?_ ⟨by rw [show gw P y0 0 = y0 from rfl]; exact m5, m4, m9, bl⟩ ?_ ?_ (fun _ _ _ _ h _ => h.elim)
  · rintro k A B ⟨h1, h2, h3, h4⟩ hb
    exact ⟨ob_lo h1 hb lt5, ob_lo h2 hb lt4, ob_lo h3 hb lt9, h4.trans (Below.mono hb hsw)⟩
  · rintro k A ⟨_, _, h3, h4⟩
    exact ⟨h3, Fk.mono _ _ _ _ hvs h4⟩
  · rintro k W hk ⟨m5, m4, m9, blw0⟩ ⟨r, hl⟩
    clear bl bl0
    obtain ⟨q, hq⟩ : ∃ q, P.length - 1 - k = q := ⟨_, rfl⟩
    obtain ⟨p, hpk⟩ : ∃ p, P[q]? = some p := ⟨_, List.getElem?_eq_getElem (by omega)⟩
    have hp : p.length = 32 := hs_len hvs hpk
    have hpd : P.getD q [] = p := getD_at hpk
    have henc : encB P k = #[.agg ((p).map V).toArray] := by
      unfold encB
      rw [hq, hpd]
    obtain ⟨j, hjk⟩ : ∃ j, gw P y0 k = j := ⟨_, rfl⟩
    obtain ⟨z, ez⟩ : ∃ z, Box (nd p j = z) := ⟨_, ⟨rfl⟩⟩
    have hj1 : j.length = 32 := by rw [← hjk]; exact gw_len P hy0 k
    have hz1 : z.length = 32 := by rw [← ez.out]; exact nd_len _ _
    have hzk : gw P y0 (k + 1) = z := by rw [← gw_succ y0 (p := p) (by rw [show P.length - k - 1 = q by omega]; exact hpk), hjk]; exact ez.out
    rw [hjk] at m5
    have hlW := (Array.getElem?_eq_some_iff.1 hl).1
    rw [show ({ tmps := (#[10].zip (encB P k)).foldl (fun t (p, v) => t.setIfInBounds p v) f7.tmps, defers := [] } : Act) = rfr1 f7.tmps 10 (.agg ((p).map V).toArray) from by rw [henc]; exact rfr1_eq _ _ _]
    refine code_in (fun f w1 => f.tmps.size = 15 ∧ f.defers = [] ∧ f.eval (.tmp 5) = .pointer (some ⟨g5, 0, none⟩) ∧ f.eval (.tmp 10) = .agg ((p).map V).toArray ∧ Below W.heap.size W w1) ⟨(rfr1_size _ _ _).trans sz, rfl, (rfr1_old _ _ _ rfl).trans x5, rfr1_p _ _ _ (by rw [sz]; decide), Below.refl _ _⟩ ?_
    clear sz df x4 x5
    rintro f0 w0 ⟨sz, df, x5, x10, bl⟩
    have bl0 := bl
    refine in_region_seq [] (by rintro ⟨_, _, h⟩; exact h) (by kernel_rfl) (by kernel_rfl) (by kernel_rfl) (by rw [sz]; kernel_rfl) (by kernel_rfl) trivial ?_
    intro f101 w101 A hb
    replace bl0 := bl
    replace x5 := (A.old 5 rfl).trans x5
    replace x10 := (A.old 10 rfl).trans x10
    replace bl := (bl.trans (Below.mono hb bl.size))
    replace sz := A.size.trans sz
    replace df := A.defs.trans df
    clear A hb
    refine wl_one (.nw w101.heap.size 33 ((hz).map V)) rfl 6 rfl (by rw [sz]; decide) (st_alloc33 rfl _ (Nat.le_refl _)) ?_
    intro f102 w102 df2 sz2 old2 new2 hb
    replace bl0 := bl
    replace x5 := (old2 5 rfl).trans x5
    replace x10 := (old2 10 rfl).trans x10
    have x6 : Fk.f (.nw w101.heap.size 33 ((hz).map V)) (f102.eval (.tmp 6)) w102 := new2
    replace bl := (bl.trans (Below.mono hb bl.size))
    replace sz := sz2.trans sz
    replace df := df2.trans df
    clear df2 sz2 old2 new2 hb
    obtain ⟨g6, hg6, e6, m6⟩ := x6
    have x6 := e6
    clear e6
    have nm5_6 : g5 ≠ g6 := Nat.ne_of_lt (Nat.lt_of_lt_of_le (Ob.lt m5) (Nat.le_trans bl0.size hg6))
    have hw6 : W.heap.size ≤ g6 := Nat.le_trans bl0.size hg6
    refine wl_store rfl (.tmp 6) (.tmp 10) rfl rfl (g6) (p) (hz) x6 x10 m6 hz_len hp ?_
    replace m6 : Ob (w102.setRow g6 ((p).map V : List Value).toArray) (g6) 33 ((p).map V) := Ob.setRow m6 ((p).map V)
    replace bl : Below W.heap.size W (w102.setRow g6 ((p).map V : List Value).toArray) := bl.trans (below_setRow _ _ _ _ hw6)
    generalize w102.setRow g6 ((p).map V : List Value).toArray = w103b at bl m6 ⊢
    refine wpList_nil ?_
    clear x10
    refine ⟨Kept.of_below bl, fun o => ?_⟩
    have ltn := bl.size
    replace m5 := ob_put o (Ob.below m5 bl) (show g5 ≠ w7.heap.size + 1 by omega)
    replace m4 := ob_put o (Ob.below m4 bl) (show g4 ≠ w7.heap.size + 1 by omega)
    replace m9 := ob_put o (Ob.below m9 bl) (show g9 ≠ w7.heap.size + 1 by omega)
    replace m6 := ob_put o m6 (show g6 ≠ w7.heap.size + 1 by omega)
    have blV := (blw0.trans (Below.mono bl blw0.size)).trans (below_put (B := w.heap.size) (l := w7.heap.size + 1) o (by omega) (by omega))
    clear bl bl0
    generalize w103b.putObj (w7.heap.size + 1) o = U at m5 m4 m9 m6 blV ⊢
    have bl := Only.refl g5 U
    have bl0 := bl
    have hKo : ∀ {X : World}, Only g5 U X → Tab X := fun O => hK.below (blV.trans (O.below w.heap.size (by omega) blV.size))
    refine wpIn_block ?_
    refine in_region_seq [.eq (.agg ((p).map V).toArray), .eq (.agg ((j).map V).toArray), .eq (.agg ((z).map V).toArray)] (by rintro ⟨_, _, h⟩; exact h) (by kernel_rfl) (by kernel_rfl) (by kernel_rfl) (by rw [sz]; kernel_rfl) (by kernel_rfl) ⟨fun hw ac u K => ?_, fun hw ac u K => ?_, fun hw ac u K => ?_, trivial⟩ ?_
    · exact st_load33 (.tmp 6) rfl (g6) (p) ((K.old 6 rfl).trans x6) hp (Ob.below m6 K.grow)
    · exact st_load33 (.tmp 5) rfl (g5) (j) ((K.old 5 rfl).trans x5) hj1 (Ob.below m5 K.grow)
    · exact st_call 22 (.func 22) _ _ #[.agg ((p).map V).toArray, .agg ((j).map V).toArray] rfl rfl (arg2 (K.dep 0 11 rfl) (K.dep 1 12 rfl)) Tryd.enter22 (fk_node hp hj1 (hKo (only_below bl (Below.mono K.grow bl.size))) ez)
    intro f201 w201 A hb
    replace bl0 := bl
    replace x5 := (A.old 5 rfl).trans x5
    replace x6 := (A.old 6 rfl).trans x6
    have x13 : f201.eval (.tmp 13) = .agg ((z).map V).toArray := A.has 2 13 rfl
    have lt_m5 := Ob.lt m5
    replace m5 := Ob.below m5 hb
    have lt_m6 := Ob.lt m6
    replace m6 := Ob.below m6 hb
    replace bl := (only_below bl (Below.mono hb bl.size))
    replace sz := A.size.trans sz
    replace df := A.defs.trans df
    clear A hb
    refine wl_store rfl (.tmp 5) (.tmp 13) rfl rfl (g5) (z) (j) x5 x13 m5 hj1 hz1 ?_
    replace m5 : Ob (w201.setRow g5 ((z).map V : List Value).toArray) (g5) 33 ((z).map V) := Ob.setRow m5 ((z).map V)
    replace m6 : Ob (w201.setRow g5 ((z).map V : List Value).toArray) (g6) 33 ((p).map V) := Ob.setRow_other m6 _ nm5_6.symm
    replace bl : Only g5 U (w201.setRow g5 ((z).map V : List Value).toArray) := bl.setRow _
    generalize w201.setRow g5 ((z).map V : List Value).toArray = w202b at bl m5 m6 ⊢
    refine wpList_nil ?_
    clear x13
    show Kept _ _ _ ∧ _
    refine ⟨Kept.of_only bl (by omega), by rw [hzk]; exact m5, Ob.only m4 bl (by omega), Ob.only m9 bl (by omega), blV.trans (bl.below w.heap.size (by omega) blV.size)⟩
  rintro W ⟨m5, m4, _, bl⟩ hD
  show Code.wp _ _ _ _ _
  rw [ey.out] at m5
  refine code_both (fun f w1 => f.tmps.size = 15 ∧ f.defers = [{ target := .collected w7.heap.size, args := #[] }] ∧ f.eval (.tmp 4) = .pointer (some ⟨g4, 0, none⟩) ∧ f.eval (.tmp 5) = .pointer (some ⟨g5, 0, none⟩) ∧ Ob w1 g4 33 ((hz).map V) ∧ Ob w1 g5 33 ((y).map V) ∧ w1.heap[w7.heap.size]? = some (.deferred (some [])) ∧ Below w.heap.size w w1) ⟨sz, by rw [← df], x4, x5, m4, m5, hD, bl⟩ ?_
  clear sz df x4 x5 m4 m5 bl hD
  rintro fB wB ⟨sz, df, x4, x5, m4, m5, hD, bl⟩
  have bl0 := bl
  show Code.wp _ _ _ _ _
  refine wp_seq ?_
  refine wp_region_seq [.eq (.agg ((y).map V).toArray)] (by kernel_rfl) (by kernel_rfl) (by rw [sz]; kernel_rfl) (by kernel_rfl) ⟨fun hw ac u K => ?_, trivial⟩ ?_
  · exact st_load33 (.tmp 5) rfl (g5) (y) ((K.old 5 rfl).trans x5) hy (Ob.below m5 K.grow)
  intro f8 w8 A hb
  replace bl0 := bl
  replace x4 := (A.old 4 rfl).trans x4
  replace x5 := (A.old 5 rfl).trans x5
  have x14 : f8.eval (.tmp 14) = .agg ((y).map V).toArray := A.has 0 14 rfl
  have lt_m4 := Ob.lt m4
  replace m4 := Ob.below m4 hb
  have lt_m5 := Ob.lt m5
  replace m5 := Ob.below m5 hb
  replace hD := (hb.block _ (Array.getElem?_eq_some_iff.1 hD).1).trans hD
  replace bl := (bl.trans (Below.mono hb bl.size))
  replace sz := A.size.trans sz
  replace df := A.defs.trans df
  clear A hb
  refine wl_store rfl (.tmp 4) (.tmp 14) rfl rfl (g4) (y) (hz) x4 x14 m4 hz_len hy ?_
  replace hD := def_setRow hD m4 ((y).map V : List Value).toArray
  replace m4 : Ob (w8.setRow g4 ((y).map V : List Value).toArray) (g4) 33 ((y).map V) := Ob.setRow m4 ((y).map V)
  replace m5 : Ob (w8.setRow g4 ((y).map V : List Value).toArray) (g5) 33 ((y).map V) := Ob.setRow_other m5 _ nm4_5.symm
  replace bl : Below w.heap.size w (w8.setRow g4 ((y).map V : List Value).toArray) := bl.trans (below_setRow _ _ _ _ hw4)
  generalize w8.setRow g4 ((y).map V : List Value).toArray = w9b at bl m4 m5 hD ⊢
  refine wpList_nil ?_
  clear x14
  show Code.wp _ _ _ _ _
  refine wp_ret ?_
  repeat (first | with_reducible refine then_ret ?_ | with_reducible refine block_ret ?_)
  show LeavesInM _ _ _ _ _ _ _ _ _
  rw [df]
  have hDn := def_ne hD m4
  refine ⟨by simp, .inl ⟨_, _, rfl, run_takeDeferred hD, ?_⟩⟩
  exact ⟨_, ret_hash rfl f8 _ g4 (y) hy x4 (ob_put _ m4 hDn), rfl, bl.trans (below_put _ (by omega) (Array.getElem?_eq_some_iff.1 hD).1)⟩
theorem fk_joined {P : List (List (BitVec 8))} (hl : P.length ≤ 1000) {w : World} {v : Value} (hv : (Fk.hs P).f v w) (hK : Tab w) {y0 y : List (BitVec 8)} (hy0 : y0.length = 32) (ey : Box (gw P y0 P.length = y)) :
    Calls Tryd.prog 27 #[v, .agg ((y0).map V).toArray] w fun e w' => ∃ u, e = .returned u ∧ (Fk.eq (.agg ((y).map V).toArray)).f u w' ∧ Below w.heap.size w w' := by
  have hv2 := hv
  obtain ⟨A, C, lb, lo, rfl, _⟩ := hv
  exact fk_of (joined_any hl w hv2 hK hy0 ey)
end Go.Proofs.YtnppjlpnfijobaaDoor
namespace Go.Proofs.YtnppjlpnfijobaaDoor
set_option maxRecDepth 100000
open Go.RowKit
/-- An own slice whose block is named. -/
def Fk.ok (b : Option Nat) (P : List (List (BitVec 8))) : Fk := .inr (.inl ⟨fun v w => v.ownBlock = b ∧ (Fk.ow 0 P).f v w, by
  rintro v w w' ⟨h, ho⟩ hb
  exact ⟨h, Fk.mono _ _ _ _ ho hb⟩⟩)
theorem st_cutK {Q : Exit → Act → World → Prop} {o : Oper} {a : Act} {w : World} (x y : Operand) (ho : o.op = .slice 22 x none (some y) none) {b : Option Nat} {hs : List (List (BitVec 8))} (h : (Fk.ok b hs).f (a.eval x) w) (n : Nat) (hy : a.eval y = .int .i64 (n : Int)) (hn : n ≤ hs.length) : o.wp Tryd.prog a w (Ends a o.dst w (Fk.ok b (hs.take n)).f) Q := by
  obtain ⟨hb, h⟩ := h
  have h0 := h
  obtain ⟨A, C, lb, lo, e, hc, hl⟩ := ow_hc h
  rw [e] at h0 hb
  have h3 := ow_take h0 n hn
  refine st_pure (v := sliced A 0 n C 32) ?_ ?_
  · have h1 := run_slice_h (P := Tryd.prog) (w := w) 22 A hs.length C (by rw [Tryd.elem22]; exact Tryd.under22') .i64 (n : Int) (by omega) (by omega)
    rw [Tryd.elem22, Tryd.sizeOf33] at h1
    simp only [Result.andThen_ok, Int.toNat_natCast] at h1
    have h2 := run_sliceAt_slice (P := Tryd.prog) (w := w) 22 (.slice A hs.length C) none (some (.int .i64 (n : Int))) none (by rw [Tryd.elem22]; exact Tryd.under22')
    unfold execOp
    rw [ho]
    simp [e, hy, h2, h1]
  · have : sliced A 0 n C 32 = .slice A n C := by
      unfold sliced
      by_cases h0 : C = 0
      · simp [h0]
      · cases A with
        | none => simp
        | some p => simp [Addr.add]
    rw [this]
    refine ⟨?_, h3⟩
    rw [← hb]
    cases A <;> rfl
theorem HR.row3 {w : World} {g k n : Nat} {P : List (List (BitVec 8))} (h : HR w g k n P) : ∃ v b, Ob w g 51 [.int .i64 ((n : Nat) : Int), v] ∧ (Fk.ok b P).f v w ∧ ((b = none ∧ k = g) ∨ (b = some k ∧ k ≠ g)) := by
  obtain ⟨_, _, h32, v, hob, h | ⟨cap, cur, e, hkg, hk, hc, hm, hs, ht⟩⟩ := h
  · obtain ⟨rfl, rfl, hk⟩ := h
    exact ⟨_, none, hob, ⟨rfl, ow_nil _ _⟩, .inl ⟨rfl, hk⟩⟩
  · have hfl := flat_len32 P (fun i x hx => h32 x (List.mem_of_getElem? hx))
    exact ⟨v, some k, hob, ⟨by rw [e]; rfl, ⟨by rw [List.length_map, hfl], .inr ⟨k, cap, cur, e, Nat.zero_le _, hk, hc, hm, hs, ht⟩⟩, fun i x hx => h32 x (List.mem_of_getElem? hx)⟩, .inr ⟨rfl, hkg⟩⟩
theorem hr_make3 {w : World} {g k n : Nat} {P : List (List (BitVec 8))} {v : Value} (hn : n ≤ 1048576) (hP : P.length = pcn n) (m : Ob w g 51 [.int .i64 ((n : Nat) : Int), v]) (ho : (Fk.ow 0 P).f v w) (hb : v.ownBlock = some k) : HR w g k n P := by
  obtain ⟨⟨_, h2⟩, h32⟩ := ho
  have h32' : ∀ x ∈ P, x.length = 32 := fun x hx => by
    obtain ⟨i, hi⟩ := List.getElem?_of_mem hx
    exact h32 i x hi
  rcases h2 with ⟨rfl, h0⟩ | ⟨k', cap, cur, rfl, hk, hg, h3, h4, h5, h6⟩
  · cases hb
  · obtain rfl : k' = k := Option.some.inj hb
    refine ⟨hn, hP, h32', _, m, .inr ⟨cap, cur, rfl, ?_, hg, h3, h4, h5, h6⟩⟩
    intro e
    rw [e] at hg
    unfold Ob at m
    rw [m] at hg
    cases hg
theorem Ob.grown {w w' : World} {b : Nat} {T : TypeId} {cs : List Value} {r : Option Nat} (h : Ob w b T cs) (hg : w.grownBy w' r) (hne : some b ≠ r) : Ob w' b T cs := by
  have := hg.block b (Ob.lt h) hne
  unfold Ob at *
  rw [this]
  exact h
theorem ow_only {w w' : World} {base g : Nat} {P : List (List (BitVec 8))} {v : Value} (h : (Fk.ow base P).f v w) (O : Only g w w') (hne : v.ownBlock ≠ some g) : (Fk.ow base P).f v w' := by
  obtain ⟨⟨h1, h2⟩, h3⟩ := h
  refine ⟨⟨h1, ?_⟩, h3⟩
  rcases h2 with h2 | ⟨k, cap, cur, e, hb, hk, r⟩
  · exact .inl h2
  · exact .inr ⟨k, cap, cur, e, hb, by rw [O.block k (Array.getElem?_eq_some_iff.1 hk).1 (fun e2 => hne (by rw [e, e2]; rfl))]; exact hk, r⟩
theorem ow_some {w : World} {base : Nat} {P : List (List (BitVec 8))} {v : Value} (h : (Fk.ow base P).f v w) (hp : 0 < P.length) : ∃ k, v.ownBlock = some k := by
  obtain ⟨⟨_, h2⟩, _⟩ := h
  rcases h2 with ⟨_, h0⟩ | ⟨k, cap, cur, rfl, _⟩
  · omega
  · exact ⟨k, rfl⟩
theorem gw_drop (P : List (List (BitVec 8))) (y : List (BitVec 8)) {t : Nat} (ht : t ≤ P.length) (j : Nat) : j ≤ t → gw (P.drop (P.length - t)) y j = gw P y j := by
  induction j with
  | zero => intro _; rfl
  | succ j ih =>
    intro hj
    show nd ((P.drop (P.length - t)).getD ((P.drop (P.length - t)).length - j - 1) []) (gw (P.drop (P.length - t)) y j) = nd (P.getD (P.length - j - 1) []) (gw P y j)
    rw [ih (by omega), List.getD_eq_getElem?_getD, List.getD_eq_getElem?_getD, List.getElem?_drop, List.length_drop, show P.length - t + (P.length - (P.length - t) - j - 1) = P.length - j - 1 by omega]
set_option maxHeartbeats 1000000 in
theorem grow_any {w : World} {g k n : Nat} {P : List (List (BitVec 8))} (hr : HR w g k n P) {y : List (BitVec 8)} (hy : y.length = 32) (hn1 : n + 1 ≤ 1048576) (hK : Tab w) (hg2 : 2 < g) :
    Calls Tryd.prog 23 #[.pointer (some ⟨g, 0, none⟩), .agg ((y).map V).toArray] w fun e w' => e = .returned (.tuple #[]) ∧ (∃ k', HR w' g k' (n + 1) (gr1 (n, P) y).2 ∧ (k' = k ∨ w.heap.size ≤ k')) ∧ Kp g k w w' := by
  obtain ⟨v, bk, m0, hok, hbk⟩ := hr.row3
  have hl21 := hr.len
  have htl := tro_le n
  have hPn := hr.pcn
  have hgb : some g ≠ bk := by
    rcases hbk with ⟨e, _⟩ | ⟨e, e2⟩
    · rw [e]; simp
    · rw [e]; exact fun e3 => e2 (Option.some.inj e3).symm
  have hokF : ∀ {W : World}, Only g w W → (Fk.ok bk P).f v W := fun h => ⟨hok.1, ow_only hok.2 h (by rw [hok.1]; exact fun e => hgb e.symm)⟩
  have hvF : ∀ {W : World}, Only g w W → (Fk.hc P).f v W := fun h => ow_hc (hokF h).2
  have hvsF : ∀ {W : World}, Only g w W → (Fk.hs P).f v W := fun h => ow_hs (hokF h).2
  have hKo : ∀ {W : World}, Only g w W → Tab W := fun h => tab_kp hK (k := g) ⟨hg2, hg2⟩ ⟨h.os, h.tape, h.output, h.size, fun j hj h1 _ => h.block j hj h1⟩
  go_enter Tryd.func23, Tryd.ntmps23
  refine code_both (fun f w1 => f.tmps.size = 43 ∧ f.defers = [] ∧ f.eval (.tmp 0) = .pointer (some ⟨g, 0, none⟩) ∧ f.eval (.tmp 1) = .agg ((y).map V).toArray ∧ Ob w1 (g) 51 ([.int .i64 ((n : Nat) : Int), v]) ∧ Only g w (w1)) ⟨rfl, rfl, rfl, rfl, m0, Only.refl _ _⟩ ?_
  clear m0
  rintro f0 w0 ⟨sz, df, x0, x1, m0, bl⟩
  have bl0 := bl
  refine wp_seq ?_
  refine wp_all_seq [.nw w0.heap.size 33 ((y).map V)] (by kernel_rfl) (by kernel_rfl) (by rw [sz]; kernel_rfl) (by kernel_rfl) ⟨fun hw ac u K => ?_, trivial⟩ ?_
  · exact st_box 33 (.tmp 1) rfl _ _ (by rw [show _ = _ from ((K.old 1 rfl).trans x1)]; kernel_rfl) K.grow.size
  intro f1 w1 A hb
  replace bl0 := bl
  replace x0 := (A.old 0 rfl).trans x0
  replace x1 := (A.old 1 rfl).trans x1
  have x3 : Fk.f (.nw w0.heap.size 33 ((y).map V)) (f1.eval (.tmp 3)) w1 := A.has 0 3 rfl
  have lt_m0 := Ob.lt m0
  replace m0 := Ob.below m0 hb
  replace bl := (only_below bl (Below.mono hb bl.size))
  replace sz := A.size.trans sz
  replace df := A.defs.trans df
  clear A hb
  clear x1
  obtain ⟨g3, hg3, e3, m3⟩ := x3
  have x3 := e3
  clear e3
  have nm0_3 : g ≠ g3 := Nat.ne_of_lt (Nat.lt_of_lt_of_le lt_m0 hg3)
  have hw3 : w.heap.size ≤ g3 := Nat.le_trans bl0.size hg3
  show Code.wp _ _ _ _ _
  refine wp_seq ?_
  refine wp_region_seq [.eq (.pointer (some ⟨g, 0, none⟩)), .eq (.pointer (some ⟨g, 0, none⟩)), .eq (.pointer (some ⟨g, 0, none⟩)), .eq (.int .i64 ((n : Nat) : Int)), .eq (.int .i64 ((n + 1 : Nat) : Int)), .eq (.pointer (some ⟨g, 0, none⟩)), .eq (.pointer (some ⟨g, 0, none⟩))] (by kernel_rfl) (by kernel_rfl) (by rw [sz]; kernel_rfl) (by kernel_rfl) ⟨fun hw ac u K => ?_, fun hw ac u K => ?_, fun hw ac u K => ?_, fun hw ac u K => ?_, fun hw ac u K => ?_, fun hw ac u K => ?_, fun hw ac u K => ?_, trivial⟩ ?_
  · exact st_move (.tmp 0) rfl ((K.old 0 rfl).trans x0)
  · exact st_nil (.tmp 5) rfl (K.dep 0 5 rfl)
  · exact st_field 51 0 (.tmp 6) rfl (K.dep 1 6 rfl) (by kernel_rfl)
  · exact st_loadc 3 (.tmp 7) rfl (by kernel_rfl) (K.dep 2 7 rfl) (Ob.cell (Ob.below m0 K.grow) 0 rfl)
  · exact st_addz (.tmp 8) (.const (.int .i64 1)) rfl _ _ _ (K.dep 3 8 rfl) rfl (by omega) (by omega) (by omega)
  · exact st_nil (.tmp 5) rfl (K.dep 0 5 rfl)
  · exact st_field 51 0 (.tmp 10) rfl (K.dep 5 10 rfl) (by kernel_rfl)
  intro f2 w2 A hb
  replace bl0 := bl
  replace x0 := (A.old 0 rfl).trans x0
  replace x3 := (A.old 3 rfl).trans x3
  have x9 : f2.eval (.tmp 9) = .int .i64 ((n + 1 : Nat) : Int) := A.has 4 9 rfl
  have x11 : f2.eval (.tmp 11) = .pointer (some ⟨g, 0, none⟩) := A.has 6 11 rfl
  have lt_m0 := Ob.lt m0
  replace m0 := Ob.below m0 hb
  have lt_m3 := Ob.lt m3
  replace m3 := Ob.below m3 hb
  replace bl := (only_below bl (Below.mono hb bl.size))
  replace sz := A.size.trans sz
  replace df := A.defs.trans df
  clear A hb
  refine wl_stc 3 rfl (.tmp 11) (.tmp 9) rfl rfl (by kernel_rfl) (g) 0 (.int .i64 ((n + 1 : Nat) : Int)) x11 x9 rfl rfl (Ob.there m0 0 (by simp)) ?_
  replace m0 : Ob (w2.setCell ⟨g, 0, none⟩ (.int .i64 ((n + 1 : Nat) : Int))) (g) 51 ([.int .i64 ((n + 1 : Nat) : Int), v]) := Ob.set m0 0 (.int .i64 ((n + 1 : Nat) : Int))
  replace m3 : Ob (w2.setCell ⟨g, 0, none⟩ (.int .i64 ((n + 1 : Nat) : Int))) (g3) 33 ((y).map V) := Ob.setCell_other m3 _ _ nm0_3.symm
  replace bl : Only g w (w2.setCell ⟨g, 0, none⟩ (.int .i64 ((n + 1 : Nat) : Int))) := bl.setCell _ _
  generalize w2.setCell ⟨g, 0, none⟩ (.int .i64 ((n + 1 : Nat) : Int)) = w3b at bl m0 m3 ⊢
  refine wpList_nil ?_
  clear x9
  clear x11
  show Code.wp _ _ _ _ _
  refine wp_seq ?_
  refine wp_all [.eq (.pointer (some ⟨g, 0, none⟩)), .eq (.pointer (some ⟨g, 0, none⟩)), .eq (.pointer (some ⟨g, 1, none⟩)), .eq (v), .eq (.int .i64 (((P).length : Nat) : Int)), .eq (.pointer (some ⟨g, 0, none⟩)), .eq (.pointer (some ⟨g, 0, none⟩)), .eq (.pointer (some ⟨g, 0, none⟩)), .eq (.int .i64 ((n + 1 : Nat) : Int)), .eq (.int .u64 ((n + 1 : Nat) : Int)), .eq (.int .i64 ((tro n : Nat) : Int)), .eq (.int .i64 ((P.length - tro n : Nat) : Int)), .eq (.int .i64 ((P.length - tro n : Nat) : Int))] Tryd.mixed (by kernel_rfl) (by kernel_rfl) (by rw [sz]; kernel_rfl) (by kernel_rfl) ⟨fun hw ac u K => ?_, fun hw ac u K => ?_, fun hw ac u K => ?_, fun hw ac u K => ?_, fun hw ac u K => ?_, fun hw ac u K => ?_, fun hw ac u K => ?_, fun hw ac u K => ?_, fun hw ac u K => ?_, fun hw ac u K => ?_, fun hw ac u K => ?_, fun hw ac u K => ?_, fun hw ac u K => ?_, trivial⟩ ?_
  · exact st_move (.tmp 0) rfl ((K.old 0 rfl).trans x0)
  · exact st_nil (.tmp 12) rfl (K.dep 0 12 rfl)
  · exact st_field 51 1 (.tmp 13) rfl (K.dep 1 13 rfl) (by kernel_rfl)
  · exact st_loadc 22 (.tmp 14) rfl (by kernel_rfl) (K.dep 2 14 rfl) (Ob.cell (Ob.below m0 K.grow) 1 rfl)
  · exact st_lenc (.tmp 15) rfl ((P).length) rfl (fk_val (K.dep 3 15 rfl) (hvF (only_below bl (Below.mono K.grow bl.size))))
  · exact st_move (.tmp 0) rfl ((K.old 0 rfl).trans x0)
  · exact st_nil (.tmp 17) rfl (K.dep 5 17 rfl)
  · exact st_field 51 0 (.tmp 18) rfl (K.dep 6 18 rfl) (by kernel_rfl)
  · exact st_loadc 3 (.tmp 19) rfl (by kernel_rfl) (K.dep 7 19 rfl) (Ob.cell (Ob.below m0 K.grow) 0 rfl)
  · exact st_conv 3 72 (.tmp 20) rfl .i64 .u64 _ _ (K.dep 8 20 rfl) Tryd.under3 Tryd.under72 (by rw [IntKind.wrap_u64]; omega)
  · exact st_call 41 (.func 41) _ _ #[.int .u64 ((n + 1 : Nat) : Int)] rfl rfl (one_arg (K.dep 9 21 rfl)) Tryd.enter41 (fk_of (tz_any n (by omega) rfl _ (hKo (only_below bl (Below.mono K.grow bl.size)))))
  · exact st_sub (.tmp 16) (.tmp 22) rfl ((P).length) (tro n) (P.length - tro n) (K.dep 4 16 rfl) (K.dep 10 22 rfl) (by omega) (by omega)
  · exact st_assign (.tmp 23) rfl (K.dep 11 23 rfl)
  intro f4 w4 A hb
  replace bl0 := bl
  replace x0 := (A.old 0 rfl).trans x0
  replace x3 := (A.old 3 rfl).trans x3
  have x4 : f4.eval (.tmp 4) = .int .i64 ((P.length - tro n : Nat) : Int) := A.has 12 4 rfl
  have lt_m0 := Ob.lt m0
  replace m0 := Ob.below m0 hb
  have lt_m3 := Ob.lt m3
  replace m3 := Ob.below m3 hb
  replace bl := (only_below bl (Below.mono hb bl.size))
  replace sz := A.size.trans sz
  replace df := A.defs.trans df
  clear A hb
  show Code.wp _ _ _ _ _
  obtain ⟨Y, eY⟩ : ∃ Y, Box (gw (P.drop (P.length - tro n)) y (P.drop (P.length - tro n)).length = Y) := ⟨_, ⟨rfl⟩⟩
  have hY : Y.length = 32 := by rw [← eY.out]; exact gw_len _ hy _
  have hdl : (P.drop (P.length - tro n)).length = tro n := by rw [List.length_drop]; omega
  have hYg : gw P y (tro n) = Y := by rw [← eY.out, hdl]; exact (gw_drop P y (by omega) _ (Nat.le_refl _)).symm
  refine wp_region_early [.eq (.pointer (some ⟨g, 0, none⟩)), .eq (.pointer (some ⟨g, 0, none⟩)), .eq (.pointer (some ⟨g, 0, none⟩)), .eq (.pointer (some ⟨g, 1, none⟩)), .eq (v), .eq (.int .i64 ((P.length - tro n : Nat) : Int)), .ok bk (P.take (P.length - tro n)), .eq (.pointer (some ⟨g, 0, none⟩)), .eq (.pointer (some ⟨g, 0, none⟩)), .eq (.pointer (some ⟨g, 1, none⟩)), .eq (v), .eq (.int .i64 ((P.length - tro n : Nat) : Int)), .hc (P.drop (P.length - tro n)), .eq (.agg ((y).map V).toArray), .eq (.agg ((Y).map V).toArray), .hs ([Y])] 0 24 _ [16, 17, 18, 19] Tryd.mixed (by kernel_rfl) (by kernel_rfl) (by kernel_rfl) (by kernel_rfl) rfl rfl (by kernel_rfl) rfl (by kernel_rfl) (by kernel_rfl) (by kernel_rfl) (by kernel_rfl) (fun _ _ _ h => h) (fun w => run_mv (S := fun _ => True) rfl x0 w trivial) (fun _ => rfl) (by rw [sz]; kernel_rfl) (by kernel_rfl) ⟨fun hw ac u K => ?_, fun hw ac u K => ?_, fun hw ac u K => ?_, fun hw ac u K => ?_, fun hw ac u K => ?_, fun hw ac u K => ?_, fun hw ac u K => ?_, fun hw ac u K => ?_, fun hw ac u K => ?_, fun hw ac u K => ?_, fun hw ac u K => ?_, fun hw ac u K => ?_, fun hw ac u K => ?_, fun hw ac u K => ?_, fun hw ac u K => ?_, fun hw ac u K => ?_, trivial⟩ ?_
  · exact st_move (.tmp 0) rfl ((K.old 0 rfl).trans x0)
  · exact st_move (.tmp 0) rfl ((K.old 0 rfl).trans x0)
  · exact st_nil (.tmp 25) rfl (K.dep 1 25 rfl)
  · exact st_field 51 1 (.tmp 26) rfl (K.dep 2 26 rfl) (by kernel_rfl)
  · exact st_loadc 22 (.tmp 27) rfl (by kernel_rfl) (K.dep 3 27 rfl) (Ob.cell (Ob.below m0 K.grow) 1 rfl)
  · exact st_move (.tmp 4) rfl ((K.old 4 rfl).trans x4)
  · exact st_cutK (.tmp 28) (.tmp 29) rfl (fk_val (K.dep 4 28 rfl) (hokF (only_below bl (Below.mono K.grow bl.size)))) (P.length - tro n) (K.dep 5 29 rfl) (by omega)
  · exact st_move (.tmp 0) rfl ((K.old 0 rfl).trans x0)
  · exact st_nil (.tmp 31) rfl (K.dep 7 31 rfl)
  · exact st_field 51 1 (.tmp 32) rfl (K.dep 8 32 rfl) (by kernel_rfl)
  · exact st_loadc 22 (.tmp 33) rfl (by kernel_rfl) (K.dep 9 33 rfl) (Ob.cell (Ob.below m0 K.grow) 1 rfl)
  · exact st_move (.tmp 4) rfl ((K.old 4 rfl).trans x4)
  · exact st_restc (.tmp 34) (.tmp 35) rfl (fk_val (K.dep 10 34 rfl) (hvF (only_below bl (Below.mono K.grow bl.size)))) (P.length - tro n) (K.dep 11 35 rfl) (by omega)
  · exact st_load33 (.tmp 3) rfl (g3) (y) ((K.old 3 rfl).trans x3) hy (Ob.below m3 K.grow)
  · exact st_call 27 (.func 27) _ _ #[ac.eval (.tmp 36), .agg ((y).map V).toArray] rfl rfl (arg2 rfl (K.dep 13 37 rfl)) Tryd.enter27 (fk_joined (by omega) (hc_hs (K.dep 12 36 rfl)) (hKo (only_below bl (Below.mono K.grow bl.size))) hy eY)
  · exact st_bh1 (.tmp 38) rfl hY (K.dep 14 38 rfl)
  intro f5 w5 A hb
  replace bl0 := bl
  replace x0 := (A.old 0 rfl).trans x0
  replace x3 := (A.old 3 rfl).trans x3
  replace x4 := (A.old 4 rfl).trans x4
  have x24 : f5.eval (.tmp 24) = .pointer (some ⟨g, 0, none⟩) := A.has 0 24 rfl
  have x30 : Fk.f (.ok bk (P.take (P.length - tro n))) (f5.eval (.tmp 30)) w5 := A.has 6 30 rfl
  have x39 : Fk.f (.hs ([Y])) (f5.eval (.tmp 39)) w5 := A.has 15 39 rfl
  have lt_m0 := Ob.lt m0
  replace m0 := Ob.below m0 hb
  have lt_m3 := Ob.lt m3
  replace m3 := Ob.below m3 hb
  replace bl := (only_below bl (Below.mono hb bl.size))
  replace sz := A.size.trans sz
  replace df := A.defs.trans df
  clear A hb
  clear x3
  clear x4
  obtain ⟨v30, e30⟩ : ∃ v, f5.eval (.tmp 30) = v := ⟨_, rfl⟩
  obtain ⟨hb30, h30⟩ := x30
  rw [e30] at hb30 h30
  refine wl_appK rfl (.tmp 30) (.tmp 39) rfl 40 rfl (by rw [sz]; decide) e30 h30 x39 (by rw [List.length_take]; omega) ?_
  intro f6 w6 v40 df2 sz2 old2 e40 h40 hgrA hwh
  clear x39 e30
  replace x0 := (old2 0 rfl).trans x0
  replace x24 := (old2 24 rfl).trans x24
  obtain ⟨A40, C40, _, _, e48, _, _⟩ := ow_hc h40
  subst e48
  have x40 := e40
  clear e40
  have blA := bl
  have m0b := Ob.grown m0 hgrA (by rw [hb30]; exact hgb)
  clear m0 m3
  have m0 := m0b
  clear m0b bl bl0
  have bl := Only.refl g w6
  have bl0 := bl
  replace sz := sz2.trans sz
  replace df := df2.trans df
  clear df2 sz2 old2
  refine wl_one (.eq (.pointer (some ⟨g, 0, none⟩))) rfl 41 rfl (by rw [sz]; decide) (st_nil (.tmp 24) rfl x24) ?_
  intro f7 w7 df2 sz2 old2 new2 hb
  replace bl0 := bl
  replace x0 := (old2 0 rfl).trans x0
  replace x24 := (old2 24 rfl).trans x24
  replace x40 := (old2 40 rfl).trans x40
  have x41 : f7.eval (.tmp 41) = .pointer (some ⟨g, 0, none⟩) := new2
  have lt_m0 := Ob.lt m0
  replace m0 := Ob.below m0 hb
  replace bl := (only_below bl (Below.mono hb bl.size))
  replace sz := sz2.trans sz
  replace df := df2.trans df
  clear df2 sz2 old2 new2 hb
  clear x24
  refine wl_one (.eq (.pointer (some ⟨g, 1, none⟩))) rfl 42 rfl (by rw [sz]; decide) (st_field 51 1 (.tmp 41) rfl x41 (by kernel_rfl)) ?_
  intro f8 w8 df2 sz2 old2 new2 hb
  replace bl0 := bl
  replace x0 := (old2 0 rfl).trans x0
  replace x40 := (old2 40 rfl).trans x40
  replace x41 := (old2 41 rfl).trans x41
  have x42 : f8.eval (.tmp 42) = .pointer (some ⟨g, 1, none⟩) := new2
  have lt_m0 := Ob.lt m0
  replace m0 := Ob.below m0 hb
  replace bl := (only_below bl (Below.mono hb bl.size))
  replace sz := sz2.trans sz
  replace df := df2.trans df
  clear df2 sz2 old2 new2 hb
  clear x41
  refine wl_stc 22 rfl (.tmp 42) (.tmp 40) rfl rfl (by kernel_rfl) (g) 1 (.slice A40 (P.take (P.length - tro n) ++ [Y]).length C40) x42 x40 rfl rfl (Ob.there m0 1 (by simp)) ?_
  replace m0 : Ob (w8.setCell ⟨g, 1, none⟩ (.slice A40 (P.take (P.length - tro n) ++ [Y]).length C40)) (g) 51 ([.int .i64 ((n + 1 : Nat) : Int), .slice A40 (P.take (P.length - tro n) ++ [Y]).length C40]) := Ob.set m0 1 (.slice A40 (P.take (P.length - tro n) ++ [Y]).length C40)
  replace bl : Only g w6 (w8.setCell ⟨g, 1, none⟩ (.slice A40 (P.take (P.length - tro n) ++ [Y]).length C40)) := bl.setCell _ _
  generalize w8.setCell ⟨g, 1, none⟩ (.slice A40 (P.take (P.length - tro n) ++ [Y]).length C40) = w9b at bl m0 ⊢
  refine wpList_nil ?_
  clear x40
  clear x42
  obtain ⟨k2, hk2⟩ := ow_some h40 (by simp)
  have hkk : k2 = k ∨ w.heap.size ≤ k2 := by
    rcases hwh with e | e
    · rw [hb30, hk2] at e
      rcases hbk with ⟨e2, _⟩ | ⟨e2, _⟩
      · rw [e2] at e; cases e
      · rw [e2] at e; exact .inl (Option.some.inj e)
    · rw [hk2] at e
      right
      have := blA.size
      rw [Option.some.inj e]
      exact this
  have hkg : (Value.slice A40 (P.take (P.length - tro n) ++ [Y]).length C40).ownBlock ≠ some g := by
    rcases hwh with e | e
    · rw [e, hb30]; exact fun e2 => hgb e2.symm
    · rw [e]
      intro e2
      have e3 := Option.some.inj e2
      have := blA.size
      have := hr.lt
      omega
  have hF := hr_make3 (by omega) (by rw [gr1_pcn (s := (n, P)) hr.pcn y]; rfl) m0 (P := (gr1 (n, P) y).2) (by rw [show (gr1 (n, P) y).2 = P.take (P.length - tro n) ++ [gw P y (tro n)] from rfl, hYg]; exact ow_only h40 bl hkg) hk2
  refine bodyPost_end (results_none rfl _ _ _) df ⟨rfl, ⟨k2, hF, hkk⟩, bl.os.trans (hgrA.os.trans blA.os), bl.tape.trans (hgrA.tape.trans blA.tape), bl.output.trans (hgrA.output.trans blA.output), Nat.le_trans blA.size (Nat.le_trans hgrA.size bl.size), fun q hq h1 h2 => ?_⟩
  have q1 := blA.size
  have q2 := hgrA.size
  rw [bl.block q (by omega) h1, hgrA.block q (by omega) (by rw [hb30]; rcases hbk with ⟨e2, _⟩ | ⟨e2, _⟩ <;> rw [e2] <;> simp [h2]), blA.block q hq h1]
end Go.Proofs.YtnppjlpnfijobaaDoor
namespace Go.Proofs.YtnppjlpnfijobaaDoor
set_option maxRecDepth 100000
open Go.RowKit
theorem c_app_ok {w : World} {g k n : Nat} {P : List (List (BitVec 8))} (hr : HR w g k n P) {M : List (List (BitVec 8))} {v : Value} (hv : (Fk.hc M).f v w) (_hM : M.length ≤ 1000) (hn : n + M.length ≤ 1048576) (hK : Tab w) {n2 : Nat} {P2 : List (List (BitVec 8))} (hg : grl (n, P) M = (n2, P2)) (hap : 0 < M.length → v.ownBlock ≠ some g ∧ v.ownBlock ≠ some k) (h00 : 2 < g ∧ 2 < k) :
    Calls Tryd.prog 9 #[.pointer (some ⟨g, 0, none⟩), v] w fun e w' => e = .returned (.int .i64 0) ∧ (∃ k', HR w' g k' n2 P2 ∧ (k' = k ∨ w.heap.size ≤ k')) ∧ Kp g k w w' := by
  obtain ⟨vp, m0, hvp⟩ := hr.row
  have hvs9 := hc_hs hv
  have hn9 := hr.n
  go_enter Tryd.func9, Tryd.ntmps9
  refine code_both (fun f w1 => f.tmps.size = 25 ∧ f.defers = [] ∧ f.eval (.tmp 0) = .pointer (some ⟨g, 0, none⟩) ∧ f.eval (.tmp 1) = v ∧ Below w.heap.size w (w1)) ⟨rfl, rfl, rfl, rfl, Below.refl _ _⟩ ?_
  rintro f0 w0 ⟨sz, df, x0, x1, bl⟩
  have bl0 := bl
  refine wp_seq ?_
  refine wp_all_seq [.eq (.int .i64 0)] (by kernel_rfl) (by kernel_rfl) (by rw [sz]; kernel_rfl) (by kernel_rfl) ⟨fun hw ac u K => ?_, trivial⟩ ?_
  · exact st_assign (.const (.int .i64 0)) rfl rfl
  intro f1 w1 A hb
  replace bl0 := bl
  replace x0 := (A.old 0 rfl).trans x0
  replace x1 := (A.old 1 rfl).trans x1
  have x4 : f1.eval (.tmp 4) = .int .i64 0 := A.has 0 4 rfl
  replace bl := (bl.trans (Below.mono hb bl.size))
  replace sz := A.size.trans sz
  replace df := A.defs.trans df
  clear A hb
  show Code.wp _ _ _ _ _
  refine wp_seq ?_
  refine wp_seq ?_
  refine wp_all_seq [.eq (v), .eq (.int .i64 (((M).length : Nat) : Int)), .eq (.pointer (some ⟨g, 0, none⟩)), .eq (.pointer (some ⟨g, 0, none⟩)), .eq (.pointer (some ⟨g, 0, none⟩)), .eq (.int .i64 ((n : Nat) : Int)), .eq (.int .i64 ((1048576 - n : Nat) : Int)), .eq (.bool false)] (by kernel_rfl) (by kernel_rfl) (by rw [sz]; kernel_rfl) (by kernel_rfl) ⟨fun hw ac u K => ?_, fun hw ac u K => ?_, fun hw ac u K => ?_, fun hw ac u K => ?_, fun hw ac u K => ?_, fun hw ac u K => ?_, fun hw ac u K => ?_, fun hw ac u K => ?_, trivial⟩ ?_
  · exact st_move (.tmp 1) rfl ((K.old 1 rfl).trans x1)
  · exact st_lenc (.tmp 7) rfl ((M).length) rfl (fk_val (K.dep 0 7 rfl) (Fk.mono _ _ _ _ hv (bl.trans (Below.mono K.grow bl.size))))
  · exact st_move (.tmp 0) rfl ((K.old 0 rfl).trans x0)
  · exact st_nil (.tmp 9) rfl (K.dep 2 9 rfl)
  · exact st_field 51 0 (.tmp 10) rfl (K.dep 3 10 rfl) (by kernel_rfl)
  · exact st_loadc 3 (.tmp 11) rfl (by kernel_rfl) (K.dep 4 11 rfl) (Ob.cell (Ob.below m0 (bl.trans (Below.mono K.grow bl.size))) 0 rfl)
  · exact st_subz (.const (.int .i64 1048576)) (.tmp 12) rfl _ _ _ rfl (K.dep 5 12 rfl) (by omega) (by omega) (by omega)
  · exact st_gtr 3 (.tmp 8) (.tmp 13) rfl .i64 ((((M).length : Nat) : Int)) (((1048576 - n : Nat) : Int)) (K.dep 1 8 rfl) (K.dep 6 13 rfl) _ (by rw [eq_comm, decide_eq_false_iff_not]; omega)
  intro f2 w2 A hb
  replace bl0 := bl
  replace x0 := (A.old 0 rfl).trans x0
  replace x1 := (A.old 1 rfl).trans x1
  replace x4 := (A.old 4 rfl).trans x4
  have x14 : f2.eval (.tmp 14) = .bool false := A.has 7 14 rfl
  replace bl := (bl.trans (Below.mono hb bl.size))
  replace sz := A.size.trans sz
  replace df := A.defs.trans df
  clear A hb
  show Code.wp _ _ _ _ _
  refine wp_cond_false x14 ?_
  refine wp_skip ?_
  show Code.wp _ _ _ _ _
  refine wp_seq ?_
  refine wp_seq ?_
  refine wp_all_seq [.eq (v), .eq (.int .i64 (((M).length : Nat) : Int)), .eq (.int .i64 0)] (by kernel_rfl) (by kernel_rfl) (by rw [sz]; kernel_rfl) (by kernel_rfl) ⟨fun hw ac u K => ?_, fun hw ac u K => ?_, fun hw ac u K => ?_, trivial⟩ ?_
  · exact st_move (.tmp 1) rfl ((K.old 1 rfl).trans x1)
  · exact st_lenc (.tmp 15) rfl ((M).length) rfl (fk_val (K.dep 0 15 rfl) (Fk.mono _ _ _ _ hv (bl.trans (Below.mono K.grow bl.size))))
  · exact st_move (.const (.int .i64 0)) rfl rfl
  intro f3 w3 A hb
  replace bl0 := bl
  replace x0 := (A.old 0 rfl).trans x0
  replace x1 := (A.old 1 rfl).trans x1
  replace x4 := (A.old 4 rfl).trans x4
  replace x14 := (A.old 14 rfl).trans x14
  have x15 : f3.eval (.tmp 15) = v := A.has 0 15 rfl
  have x16 : f3.eval (.tmp 16) = .int .i64 (((M).length : Nat) : Int) := A.has 1 16 rfl
  have x17 : f3.eval (.tmp 17) = .int .i64 0 := A.has 2 17 rfl
  replace bl := (bl.trans (Below.mono hb bl.size))
  replace sz := A.size.trans sz
  replace df := A.defs.trans df
  clear A hb
  have hvF : ∀ {W : World}, Kp g k w W → (Fk.hc M).f v W := fun h => hc_kp hv hap h
  have hvsF : ∀ {W : World}, Kp g k w W → (Fk.hs M).f v W := fun h => hc_hs (hc_kp hv hap h)
  replace hr : HR w3 g k n P := hr.mono (by first | exact bl | exact bl.mono (Nat.le_refl _))
  have blk := Kp.of_below g k bl
  clear bl bl0 m0 hv hvs9
  have bl := blk
  clear blk
  have bl0 := bl
  show Code.wp _ _ _ _ _
  refine wp_block ?_
  refine wp_loop (fun f v1 => ∃ (i km : Nat), i ≤ M.length ∧ (km = k ∨ w.heap.size ≤ km) ∧ f.tmps.size = 25 ∧ f.defers = [] ∧ f.eval (.tmp 0) = .pointer (some ⟨g, 0, none⟩) ∧ f.eval (.tmp 1) = v ∧ f.eval (.tmp 4) = .int .i64 0 ∧ f.eval (.tmp 14) = .bool false ∧ f.eval (.tmp 15) = v ∧ f.eval (.tmp 16) = .int .i64 (((M).length : Nat) : Int) ∧ f.eval (.tmp 17) = .int .i64 ((i : Nat) : Int) ∧ HR v1 g km (n + i) (grl (n, P) (M.take i)).2 ∧ Kp g k w (v1)) (fun f _ => M.length - (intOf (f.eval (.tmp 17))).toNat) ⟨0, k, Nat.zero_le _, .inl rfl, sz, df, x0, x1, x4, x14, x15, x16, x17, hr, bl⟩ ?_
  intro f4 w4 hI
  clear sz df bl bl0 x0 x1 x4 x14 x15 x16 x17 hr
  obtain ⟨i, km, hi, hkm, sz, df, x0, x1, x4, x14, x15, x16, x17, hr, bl⟩ := hI
  have bl0 := bl
  have hcnt := x17
  refine wp_seq ?_
  by_cases hlt : i < M.length
  rotate_left
  · skip
    have hie : i = M.length := by omega
    rw [hie, List.take_length, hg] at hr
    refine wp_all_seq [.eq (.bool false)] (by kernel_rfl) (by kernel_rfl) (by rw [sz]; kernel_rfl) (by kernel_rfl) ⟨fun hw ac u K => ?_, trivial⟩ ?_
    · exact st_lss 3 (.tmp 17) (.tmp 16) rfl .i64 (((i : Nat) : Int)) ((((M).length : Nat) : Int)) ((K.old 17 rfl).trans x17) ((K.old 16 rfl).trans x16) _ (by rw [eq_comm, decide_eq_false_iff_not]; exact fun h => hlt (Int.ofNat_lt.1 h))
    intro f5 w5 A hb
    replace bl0 := bl
    replace x0 := (A.old 0 rfl).trans x0
    replace x1 := (A.old 1 rfl).trans x1
    replace x4 := (A.old 4 rfl).trans x4
    replace x14 := (A.old 14 rfl).trans x14
    replace x15 := (A.old 15 rfl).trans x15
    replace x16 := (A.old 16 rfl).trans x16
    replace x17 := (A.old 17 rfl).trans x17
    have x18 : f5.eval (.tmp 18) = .bool false := A.has 0 18 rfl
    replace hr := HR.mono hr hb
    replace bl := (Kp.grow bl hb)
    replace sz := A.size.trans sz
    replace df := A.defs.trans df
    clear A hb
    show Code.wp _ _ _ _ _
    refine wp_seq ?_
    refine wp_cond_false x18 ?_
    refine wp_exit ?_
    show Code.wp _ _ _ _ _
    refine wp_seq ?_
    refine wp_all_seq [.eq (.int .i64 0)] (by kernel_rfl) (by kernel_rfl) (by rw [sz]; kernel_rfl) (by kernel_rfl) ⟨fun hw ac u K => ?_, trivial⟩ ?_
    · exact st_assign (.const (.int .i64 0)) rfl rfl
    intro f6 w6 A hb
    replace bl0 := bl
    replace x0 := (A.old 0 rfl).trans x0
    replace x1 := (A.old 1 rfl).trans x1
    clear x4
    replace x14 := (A.old 14 rfl).trans x14
    replace x15 := (A.old 15 rfl).trans x15
    replace x16 := (A.old 16 rfl).trans x16
    replace x17 := (A.old 17 rfl).trans x17
    replace x18 := (A.old 18 rfl).trans x18
    have x4 : f6.eval (.tmp 4) = .int .i64 0 := A.has 0 4 rfl
    replace hr := HR.mono hr hb
    replace bl := (Kp.grow bl hb)
    replace sz := A.size.trans sz
    replace df := A.defs.trans df
    clear A hb
    show Code.wp _ _ _ _ _
    refine wp_ret ?_
    repeat (first | with_reducible refine then_ret ?_ | with_reducible refine block_ret ?_)
    exact bodyPost_ret (v := .int .i64 0) (ret_slot rfl f6 _ x4 _ _) df ⟨rfl, ⟨km, by rw [show n2 = n + M.length from by have := congrArg Prod.fst hg; rw [grl_fst] at this; exact this.symm]; exact hr, hkm⟩, bl⟩
  obtain ⟨h, hhk⟩ : ∃ p, M[i]? = some p := ⟨_, List.getElem?_eq_getElem hlt⟩
  have hh : h.length = 32 := hc_len (hvF bl) h (List.mem_of_getElem? hhk)
  refine wp_all_seq [.eq (.bool true)] (by kernel_rfl) (by kernel_rfl) (by rw [sz]; kernel_rfl) (by kernel_rfl) ⟨fun hw ac u K => ?_, trivial⟩ ?_
  · exact st_lss 3 (.tmp 17) (.tmp 16) rfl .i64 (((i : Nat) : Int)) ((((M).length : Nat) : Int)) ((K.old 17 rfl).trans x17) ((K.old 16 rfl).trans x16) _ (by rw [eq_comm, decide_eq_true_iff]; exact Int.ofNat_lt.2 hlt)
  intro f5 w5 A hb
  replace bl0 := bl
  replace x0 := (A.old 0 rfl).trans x0
  replace x1 := (A.old 1 rfl).trans x1
  replace x4 := (A.old 4 rfl).trans x4
  replace x14 := (A.old 14 rfl).trans x14
  replace x15 := (A.old 15 rfl).trans x15
  replace x16 := (A.old 16 rfl).trans x16
  replace x17 := (A.old 17 rfl).trans x17
  have x18 : f5.eval (.tmp 18) = .bool true := A.has 0 18 rfl
  replace hr := HR.mono hr hb
  replace bl := (Kp.grow bl hb)
  replace sz := A.size.trans sz
  replace df := A.defs.trans df
  clear A hb
  show Code.wp _ _ _ _ _
  refine wp_seq ?_
  refine wp_cond_true x18 ?_
  refine wp_skip ?_
  show Code.wp _ _ _ _ _
  refine wp_seq ?_
  refine wp_block ?_
  refine wp_seq ?_
  refine wp_region_seq [.ph (h), .eq (.agg ((h).map V).toArray), .nw w5.heap.size 33 ((hz).map V)] (by kernel_rfl) (by kernel_rfl) (by rw [sz]; kernel_rfl) (by kernel_rfl) ⟨fun hw ac u K => ?_, fun hw ac u K => ?_, fun hw ac u K => ?_, trivial⟩ ?_
  · exact st_idxh (.tmp 15) (.tmp 17) rfl (fk_val ((K.old 15 rfl).trans x15) (hvsF (Kp.grow bl K.grow))) (i) (h) ((K.old 17 rfl).trans x17) hhk
  · exact st_loadh (.tmp 19) rfl (K.dep 0 19 rfl)
  · exact st_alloc33 rfl _ K.grow.size
  intro f6 w6 A hb
  have S_hr := hr
  have hbS0 := Below.refl w5.heap.size w5
  have hbS := hb
  replace bl0 := bl
  replace x0 := (A.old 0 rfl).trans x0
  replace x1 := (A.old 1 rfl).trans x1
  replace x4 := (A.old 4 rfl).trans x4
  replace x14 := (A.old 14 rfl).trans x14
  replace x15 := (A.old 15 rfl).trans x15
  replace x16 := (A.old 16 rfl).trans x16
  replace x17 := (A.old 17 rfl).trans x17
  replace x18 := (A.old 18 rfl).trans x18
  have x6 : Fk.f (.nw w5.heap.size 33 ((hz).map V)) (f6.eval (.tmp 6)) w6 := A.has 2 6 rfl
  have x20 : f6.eval (.tmp 20) = .agg ((h).map V).toArray := A.has 1 20 rfl
  replace hr := HR.mono hr hb
  replace bl := (Kp.grow bl hb)
  replace sz := A.size.trans sz
  replace df := A.defs.trans df
  clear A hb
  obtain ⟨g6, hg6, e6, m6⟩ := x6
  have x6 := e6
  clear e6
  have hw6 : w.heap.size ≤ g6 := Nat.le_trans bl0.size hg6
  have hs6 := Nat.le_trans hbS0.size hg6
  refine wl_store rfl (.tmp 6) (.tmp 20) rfl rfl (g6) (h) (hz) x6 x20 m6 hz_len hh ?_
  replace m6 : Ob (w6.setRow g6 ((h).map V : List Value).toArray) (g6) 33 ((h).map V) := Ob.setRow m6 ((h).map V)
  replace hbS : Below _ _ (w6.setRow g6 ((h).map V : List Value).toArray) := hbS.trans (below_setRow _ _ _ _ hs6)
  replace hr := HR.mono S_hr hbS
  replace bl : Kp g k w (w6.setRow g6 ((h).map V : List Value).toArray) := bl.setRow_new hw6 _
  generalize w6.setRow g6 ((h).map V : List Value).toArray = w7b at bl m6 hr hbS ⊢
  refine wpList_nil ?_
  clear hbS hbS0 S_hr
  clear x20
  show Code.wp _ _ _ _ _
  refine wp_region_seq [.eq (.pointer (some ⟨g, 0, none⟩)), .eq (.agg ((h).map V).toArray)] (by kernel_rfl) (by kernel_rfl) (by rw [sz]; kernel_rfl) (by kernel_rfl) ⟨fun hw ac u K => ?_, fun hw ac u K => ?_, trivial⟩ ?_
  · exact st_move (.tmp 0) rfl ((K.old 0 rfl).trans x0)
  · exact st_load33 (.tmp 6) rfl (g6) (h) ((K.old 6 rfl).trans x6) hh (Ob.below m6 K.grow)
  intro f8 w8 A hb
  replace bl0 := bl
  replace x0 := (A.old 0 rfl).trans x0
  replace x1 := (A.old 1 rfl).trans x1
  replace x4 := (A.old 4 rfl).trans x4
  replace x14 := (A.old 14 rfl).trans x14
  replace x15 := (A.old 15 rfl).trans x15
  replace x16 := (A.old 16 rfl).trans x16
  replace x17 := (A.old 17 rfl).trans x17
  replace x18 := (A.old 18 rfl).trans x18
  replace x6 := (A.old 6 rfl).trans x6
  have x21 : f8.eval (.tmp 21) = .pointer (some ⟨g, 0, none⟩) := A.has 0 21 rfl
  have x22 : f8.eval (.tmp 22) = .agg ((h).map V).toArray := A.has 1 22 rfl
  have lt_m6 := Ob.lt m6
  replace m6 := Ob.below m6 hb
  replace hr := HR.mono hr hb
  replace bl := (Kp.grow bl hb)
  replace sz := A.size.trans sz
  replace df := A.defs.trans df
  clear A hb
  have hgr := grow_any hr hh (by omega) (tab_kp hK h00 bl) h00.1
  have hbs := bl.size
  refine wl_call 23 (.func 23) _ _ #[.pointer (some ⟨g, 0, none⟩), .agg ((h).map V).toArray] rfl 23 rfl (by rw [sz]; decide) rfl rfl (arg2 x21 x22) Tryd.enter23 (fun z W' => z = .tuple #[] ∧ (∃ k', HR W' g k' (n + i + 1) (gr1 (n + i, (grl (n, P) (M.take i)).2) h).2 ∧ (k' = km ∨ w8.heap.size ≤ k')) ∧ Kp g km w8 W') (hgr.mono (by rintro e w' ⟨rfl, h1, h2⟩; exact ⟨_, rfl, rfl, h1, h2⟩)) ?_
  intro f9 w9 df2 sz2 old2 hR2
  obtain ⟨x23, ⟨k9, hr2, hk2⟩, hkp⟩ := hR2
  clear hgr
  replace x0 := (old2 0 rfl).trans x0
  replace x1 := (old2 1 rfl).trans x1
  replace x4 := (old2 4 rfl).trans x4
  replace x14 := (old2 14 rfl).trans x14
  replace x15 := (old2 15 rfl).trans x15
  replace x16 := (old2 16 rfl).trans x16
  replace x17 := (old2 17 rfl).trans x17
  replace x18 := (old2 18 rfl).trans x18
  replace x6 := (old2 6 rfl).trans x6
  replace x21 := (old2 21 rfl).trans x21
  replace x22 := (old2 22 rfl).trans x22
  have hkm2 : k9 = k ∨ w.heap.size ≤ k9 := by
    rcases hk2 with e | e
    · rw [e]; exact hkm
    · exact .inr (Nat.le_trans hbs e)
  clear m6
  have hr3 : HR w9 g k9 (n + (i + 1)) (grl (n, P) (M.take (i + 1))).2 := by
    have e1 : grl (n, P) (M.take i) = (n + i, (grl (n, P) (M.take i)).2) := Prod.ext (by rw [grl_fst, List.length_take]; show n + min i M.length = n + i; omega) rfl
    rw [grl_take _ hhk, e1]
    exact hr2
  clear hr hr2
  have hr := hr3
  clear hr3
  replace bl := bl.step hkp hkm
  replace bl0 := bl
  replace sz := sz2.trans sz
  replace df := df2.trans df
  clear df2 sz2 old2 hkp hk2 hbs
  refine wpList_nil ?_
  clear x21
  clear x22
  clear x23
  show Code.wp _ _ _ _ _
  refine wp_region_seq [.eq (.int .i64 ((i + 1 : Nat) : Int))] (by kernel_rfl) (by kernel_rfl) (by rw [sz]; kernel_rfl) (by kernel_rfl) ⟨fun hw ac u K => ?_, trivial⟩ ?_
  · exact st_add (.tmp 17) (.const (.int .i64 1)) rfl (i) (1) (i + 1) ((K.old 17 rfl).trans x17) rfl (by omega) (by omega)
  intro f10 w10 A hb
  replace bl0 := bl
  replace x0 := (A.old 0 rfl).trans x0
  replace x1 := (A.old 1 rfl).trans x1
  replace x4 := (A.old 4 rfl).trans x4
  replace x14 := (A.old 14 rfl).trans x14
  replace x15 := (A.old 15 rfl).trans x15
  replace x16 := (A.old 16 rfl).trans x16
  replace x17 := (A.old 17 rfl).trans x17
  replace x18 := (A.old 18 rfl).trans x18
  replace x6 := (A.old 6 rfl).trans x6
  have x24 : f10.eval (.tmp 24) = .int .i64 ((i + 1 : Nat) : Int) := A.has 0 24 rfl
  replace hr := HR.mono hr hb
  replace bl := (Kp.grow bl hb)
  replace sz := A.size.trans sz
  replace df := A.defs.trans df
  clear A hb
  refine wl_one (.eq (.int .i64 ((i + 1 : Nat) : Int))) rfl 17 rfl (by rw [sz]; decide) (st_move (.tmp 24) rfl x24) ?_
  intro f11 w11 df2 sz2 old2 new2 hb
  replace bl0 := bl
  replace x0 := (old2 0 rfl).trans x0
  replace x1 := (old2 1 rfl).trans x1
  replace x4 := (old2 4 rfl).trans x4
  replace x14 := (old2 14 rfl).trans x14
  replace x15 := (old2 15 rfl).trans x15
  replace x16 := (old2 16 rfl).trans x16
  clear x17
  replace x18 := (old2 18 rfl).trans x18
  replace x6 := (old2 6 rfl).trans x6
  replace x24 := (old2 24 rfl).trans x24
  have x17 : f11.eval (.tmp 17) = .int .i64 ((i + 1 : Nat) : Int) := new2
  replace hr := HR.mono hr hb
  replace bl := (Kp.grow bl hb)
  replace sz := sz2.trans sz
  replace df := df2.trans df
  clear df2 sz2 old2 new2 hb
  refine wpList_nil ?_
  clear x24
  show (∃ _, _) ∧ _
  refine ⟨⟨i + 1, k9, (by omega), hkm2, sz, df, x0, x1, x4, x14, x15, x16, x17, hr, bl⟩, ?_⟩
  rw [show f11.eval (.tmp 17) = _ from x17, show _ = _ from hcnt]
  simp [intOf]
  omega
end Go.Proofs.YtnppjlpnfijobaaDoor
namespace Go.Proofs.YtnppjlpnfijobaaDoor
set_option maxRecDepth 100000
open Go.RowKit
theorem jn_gw (P : List (List (BitVec 8))) {y0 : List (BitVec 8)} (h0 : P.getD (P.length - 1) [] = y0) (k : Nat) : k ≤ P.length - 1 → jn P k = gw (P.take (P.length - 1)) y0 k := by
  induction k with
  | zero => intro _; exact h0
  | succ k ih =>
    intro hk
    have hl : (P.take (P.length - 1)).length = P.length - 1 := by rw [List.length_take]; omega
    show nd (P.getD (P.length - 1 - 1 - k) []) (jn P k) = nd ((P.take (P.length - 1)).getD ((P.take (P.length - 1)).length - k - 1) []) (gw (P.take (P.length - 1)) y0 k)
    rw [ih (by omega), hl, getD_take (by omega), show P.length - 1 - k - 1 = P.length - 1 - 1 - k by omega]
theorem pcn_some (n : Nat) : n ≠ 0 → 1 ≤ pcn n := by
  induction n using Nat.strongRecOn with
  | ind n ih =>
    intro h
    rw [pcn_pos h]
    by_cases h2 : n % 2 = 1
    · omega
    · have := ih (n / 2) (by omega) (by omega)
      omega
theorem fk_rroot {w : World} {g k n : Nat} {P : List (List (BitVec 8))} (hr : HR w g k n P) (hK : Tab w) {y : List (BitVec 8)} (ey : Box (rtp P = y)) :
    Calls Tryd.prog 15 #[.pointer (some ⟨g, 0, none⟩)] w fun e w' => ∃ u, e = .returned u ∧ (Fk.eq (.agg ((y).map V).toArray)).f u w' ∧ Below w.heap.size w w' := by
  obtain ⟨v, m0, hv⟩ := hr.row
  have hvc := ow_hc hv
  have hvs := ow_hs hv
  have hl21 := hr.len
  have hPn := hr.pcn
  have hnil := sl_nil w
  have hy : y.length = 32 := by
    rw [← ey.out]
    unfold rtp
    split
    · exact shaOf_len _
    · rename_i h1
      have h2 := List.length_pos_iff.2 h1
      exact jn_len h2 hr.h32 _
  go_enter Tryd.func15, Tryd.ntmps15
  refine code_both (fun f w1 => f.tmps.size = 30 ∧ f.defers = [] ∧ f.eval (.tmp 0) = .pointer (some ⟨g, 0, none⟩) ∧ Below w.heap.size w (w1)) ⟨rfl, rfl, rfl, Below.refl _ _⟩ ?_
  rintro f0 w0 ⟨sz, df, x0, bl⟩
  have bl0 := bl
  refine wp_seq ?_
  refine wp_all_seq [.nw w0.heap.size 33 ((hz).map V)] (by kernel_rfl) (by kernel_rfl) (by rw [sz]; kernel_rfl) (by kernel_rfl) ⟨fun hw ac u K => ?_, trivial⟩ ?_
  · exact st_alloc33 rfl _ K.grow.size
  intro f1 w1 A hb
  replace bl0 := bl
  replace x0 := (A.old 0 rfl).trans x0
  have x2 : Fk.f (.nw w0.heap.size 33 ((hz).map V)) (f1.eval (.tmp 2)) w1 := A.has 0 2 rfl
  replace bl := (bl.trans (Below.mono hb bl.size))
  replace sz := A.size.trans sz
  replace df := A.defs.trans df
  clear A hb
  obtain ⟨g2, hg2, e2, m2⟩ := x2
  have x2 := e2
  clear e2
  have nm0_2 : g ≠ g2 := Nat.ne_of_lt (Nat.lt_of_lt_of_le (Ob.lt m0) (Nat.le_trans bl0.size hg2))
  have hw2 : w.heap.size ≤ g2 := Nat.le_trans bl0.size hg2
  show Code.wp _ _ _ _ _
  refine wp_seq ?_
  refine wp_seq ?_
  by_cases hn0 : n = 0
  rotate_left
  · skip
    have hp1 := pcn_some n hn0
    have hP1 : P ≠ [] := fun e => by rw [e] at hPn; simp at hPn; omega
    obtain ⟨y0, hy0k⟩ : ∃ x, P[P.length - 1]? = some x := ⟨_, List.getElem?_eq_getElem (by omega)⟩
    have hy0 : y0.length = 32 := hr.h32 y0 (List.mem_of_getElem? hy0k)
    have htl : (P.take (P.length - 1)).length = P.length - 1 := by rw [List.length_take]; omega
    have eJ : Box (gw (P.take (P.length - 1)) y0 (P.take (P.length - 1)).length = y) := ⟨by rw [htl, ← jn_gw P (getD_at hy0k) _ (Nat.le_refl _), ← ey.out]; unfold rtp; rw [if_neg hP1]⟩
    refine wp_all_seq [.eq (.pointer (some ⟨g, 0, none⟩)), .eq (.pointer (some ⟨g, 0, none⟩)), .eq (.pointer (some ⟨g, 0, none⟩)), .eq (.int .i64 ((n : Nat) : Int)), .eq (.bool false)] (by kernel_rfl) (by kernel_rfl) (by rw [sz]; kernel_rfl) (by kernel_rfl) ⟨fun hw ac u K => ?_, fun hw ac u K => ?_, fun hw ac u K => ?_, fun hw ac u K => ?_, fun hw ac u K => ?_, trivial⟩ ?_
    · exact st_move (.tmp 0) rfl ((K.old 0 rfl).trans x0)
    · exact st_nil (.tmp 4) rfl (K.dep 0 4 rfl)
    · exact st_field 51 0 (.tmp 5) rfl (K.dep 1 5 rfl) (by kernel_rfl)
    · exact st_loadc 3 (.tmp 6) rfl (by kernel_rfl) (K.dep 2 6 rfl) (Ob.cell (Ob.below m0 (bl.trans (Below.mono K.grow bl.size))) 0 rfl)
    · exact st_eqi 3 (.tmp 7) (.const (.int .i64 0)) rfl .i64 (((n : Nat) : Int)) (0) (K.dep 3 7 rfl) rfl _ (by rw [eq_comm, decide_eq_false_iff_not]; omega)
    intro f2 w2 A hb
    replace bl0 := bl
    replace x0 := (A.old 0 rfl).trans x0
    replace x2 := (A.old 2 rfl).trans x2
    have x8 : f2.eval (.tmp 8) = .bool false := A.has 4 8 rfl
    have lt_m2 := Ob.lt m2
    replace m2 := Ob.below m2 hb
    replace bl := (bl.trans (Below.mono hb bl.size))
    replace sz := A.size.trans sz
    replace df := A.defs.trans df
    clear A hb
    show Code.wp _ _ _ _ _
    refine wp_cond_false x8 ?_
    refine wp_skip ?_
    show Code.wp _ _ _ _ _
    refine wp_seq ?_
    refine wp_all_seq [.eq (.pointer (some ⟨g, 0, none⟩)), .eq (.pointer (some ⟨g, 0, none⟩)), .eq (.pointer (some ⟨g, 1, none⟩)), .eq (v), .eq (.int .i64 (((P).length : Nat) : Int)), .eq (.int .i64 ((P.length - 1 : Nat) : Int)), .eq (.int .i64 ((P.length - 1 : Nat) : Int))] (by kernel_rfl) (by kernel_rfl) (by rw [sz]; kernel_rfl) (by kernel_rfl) ⟨fun hw ac u K => ?_, fun hw ac u K => ?_, fun hw ac u K => ?_, fun hw ac u K => ?_, fun hw ac u K => ?_, fun hw ac u K => ?_, fun hw ac u K => ?_, trivial⟩ ?_
    · exact st_move (.tmp 0) rfl ((K.old 0 rfl).trans x0)
    · exact st_nil (.tmp 10) rfl (K.dep 0 10 rfl)
    · exact st_field 51 1 (.tmp 11) rfl (K.dep 1 11 rfl) (by kernel_rfl)
    · exact st_loadc 22 (.tmp 12) rfl (by kernel_rfl) (K.dep 2 12 rfl) (Ob.cell (Ob.below m0 (bl.trans (Below.mono K.grow bl.size))) 1 rfl)
    · exact st_lenc (.tmp 13) rfl ((P).length) rfl (fk_val (K.dep 3 13 rfl) (Fk.mono _ _ _ _ hvc (bl.trans (Below.mono K.grow bl.size))))
    · exact st_sub (.tmp 14) (.const (.int .i64 1)) rfl ((P).length) (1) (P.length - 1) (K.dep 4 14 rfl) rfl (by omega) (by omega)
    · exact st_assign (.tmp 15) rfl (K.dep 5 15 rfl)
    intro f3 w3 A hb
    replace bl0 := bl
    replace x0 := (A.old 0 rfl).trans x0
    replace x2 := (A.old 2 rfl).trans x2
    replace x8 := (A.old 8 rfl).trans x8
    have x3 : f3.eval (.tmp 3) = .int .i64 ((P.length - 1 : Nat) : Int) := A.has 6 3 rfl
    have lt_m2 := Ob.lt m2
    replace m2 := Ob.below m2 hb
    replace bl := (bl.trans (Below.mono hb bl.size))
    replace sz := A.size.trans sz
    replace df := A.defs.trans df
    clear A hb
    show Code.wp _ _ _ _ _
    refine wp_seq ?_
    refine wp_region_tail [.eq (.pointer (some ⟨g, 0, none⟩)), .eq (.pointer (some ⟨g, 0, none⟩)), .eq (.pointer (some ⟨g, 1, none⟩)), .eq (v), .eq (.int .i64 ((P.length - 1 : Nat) : Int)), .hc (P.take (P.length - 1)), .eq (.pointer (some ⟨g, 0, none⟩)), .eq (.pointer (some ⟨g, 0, none⟩)), .eq (.pointer (some ⟨g, 1, none⟩)), .eq (v), .eq (.int .i64 ((P.length - 1 : Nat) : Int)), .ph (y0), .eq (.agg ((y0).map V).toArray)] [13, 14] Tryd.mixed (by kernel_rfl) (by kernel_rfl) (by kernel_rfl) (by kernel_rfl) (by rw [sz]; kernel_rfl) (by kernel_rfl) ⟨fun hw ac u K => ?_, fun hw ac u K => ?_, fun hw ac u K => ?_, fun hw ac u K => ?_, fun hw ac u K => ?_, fun hw ac u K => ?_, fun hw ac u K => ?_, fun hw ac u K => ?_, fun hw ac u K => ?_, fun hw ac u K => ?_, fun hw ac u K => ?_, fun hw ac u K => ?_, fun hw ac u K => ?_, trivial⟩ ?_
    · exact st_move (.tmp 0) rfl ((K.old 0 rfl).trans x0)
    · exact st_nil (.tmp 16) rfl (K.dep 0 16 rfl)
    · exact st_field 51 1 (.tmp 17) rfl (K.dep 1 17 rfl) (by kernel_rfl)
    · exact st_loadc 22 (.tmp 18) rfl (by kernel_rfl) (K.dep 2 18 rfl) (Ob.cell (Ob.below m0 (bl.trans (Below.mono K.grow bl.size))) 1 rfl)
    · exact st_move (.tmp 3) rfl ((K.old 3 rfl).trans x3)
    · exact st_cuth (.tmp 19) (.tmp 20) rfl (fk_val (K.dep 3 19 rfl) (Fk.mono _ _ _ _ hvc (bl.trans (Below.mono K.grow bl.size)))) (P.length - 1) (K.dep 4 20 rfl) (by omega)
    · exact st_move (.tmp 0) rfl ((K.old 0 rfl).trans x0)
    · exact st_nil (.tmp 22) rfl (K.dep 6 22 rfl)
    · exact st_field 51 1 (.tmp 23) rfl (K.dep 7 23 rfl) (by kernel_rfl)
    · exact st_loadc 22 (.tmp 24) rfl (by kernel_rfl) (K.dep 8 24 rfl) (Ob.cell (Ob.below m0 (bl.trans (Below.mono K.grow bl.size))) 1 rfl)
    · exact st_move (.tmp 3) rfl ((K.old 3 rfl).trans x3)
    · exact st_idxh (.tmp 25) (.tmp 26) rfl (fk_val (K.dep 9 25 rfl) (Fk.mono _ _ _ _ hvs (bl.trans (Below.mono K.grow bl.size)))) (P.length - 1) (y0) (K.dep 10 26 rfl) hy0k
    · exact st_loadh (.tmp 27) rfl (K.dep 11 27 rfl)
    intro f4 w4 A hb
    replace bl0 := bl
    replace x0 := (A.old 0 rfl).trans x0
    replace x2 := (A.old 2 rfl).trans x2
    replace x8 := (A.old 8 rfl).trans x8
    replace x3 := (A.old 3 rfl).trans x3
    have x21 : Fk.f (.hc (P.take (P.length - 1))) (f4.eval (.tmp 21)) w4 := A.has 5 21 rfl
    have x28 : f4.eval (.tmp 28) = .agg ((y0).map V).toArray := A.has 12 28 rfl
    have lt_m2 := Ob.lt m2
    replace m2 := Ob.below m2 hb
    replace bl := (bl.trans (Below.mono hb bl.size))
    replace sz := A.size.trans sz
    replace df := A.defs.trans df
    clear A hb
    clear x3
    refine wl_one (.eq (.agg ((y).map V).toArray)) rfl 29 rfl (by rw [sz]; decide) (st_call 27 (.func 27) _ _ #[f4.eval (.tmp 21), .agg ((y0).map V).toArray] rfl rfl (arg2 rfl x28) Tryd.enter27 (fk_joined (by omega) (hc_hs x21) (hK.below bl) hy0 eJ)) ?_
    intro f5 w5 df2 sz2 old2 new2 hb
    replace bl0 := bl
    replace x0 := (old2 0 rfl).trans x0
    replace x2 := (old2 2 rfl).trans x2
    replace x8 := (old2 8 rfl).trans x8
    replace x21 := f_at (old2 21 rfl) (Fk.mono _ _ _ _ x21 hb)
    replace x28 := (old2 28 rfl).trans x28
    have x29 : f5.eval (.tmp 29) = .agg ((y).map V).toArray := new2
    have lt_m2 := Ob.lt m2
    replace m2 := Ob.below m2 hb
    replace bl := (bl.trans (Below.mono hb bl.size))
    replace sz := sz2.trans sz
    replace df := df2.trans df
    clear df2 sz2 old2 new2 hb
    clear x21
    clear x28
    refine wl_store rfl (.tmp 2) (.tmp 29) rfl rfl (g2) (y) (hz) x2 x29 m2 hz_len hy ?_
    replace m2 : Ob (w5.setRow g2 ((y).map V : List Value).toArray) (g2) 33 ((y).map V) := Ob.setRow m2 ((y).map V)
    replace bl : Below w.heap.size w (w5.setRow g2 ((y).map V : List Value).toArray) := bl.trans (below_setRow _ _ _ _ hw2)
    generalize w5.setRow g2 ((y).map V : List Value).toArray = w6b at bl m2 ⊢
    refine wpList_nil ?_
    clear x29
    show Code.wp _ _ _ _ _
    refine wp_ret ?_
    repeat (first | with_reducible refine then_ret ?_ | with_reducible refine block_ret ?_)
    exact bodyPost_ret (v := .agg ((y).map V).toArray) (ret_hash rfl f5 _ g2 (y) hy x2 m2) df ⟨_, rfl, rfl, bl⟩
  have hP0 : P = [] := List.eq_nil_of_length_eq_zero (by rw [hPn, hn0, pcn_zero])
  have eys : shaOf [] = y := by rw [← ey.out, hP0]; rfl
  refine wp_all_seq [.eq (.pointer (some ⟨g, 0, none⟩)), .eq (.pointer (some ⟨g, 0, none⟩)), .eq (.pointer (some ⟨g, 0, none⟩)), .eq (.int .i64 ((n : Nat) : Int)), .eq (.bool true)] (by kernel_rfl) (by kernel_rfl) (by rw [sz]; kernel_rfl) (by kernel_rfl) ⟨fun hw ac u K => ?_, fun hw ac u K => ?_, fun hw ac u K => ?_, fun hw ac u K => ?_, fun hw ac u K => ?_, trivial⟩ ?_
  · exact st_move (.tmp 0) rfl ((K.old 0 rfl).trans x0)
  · exact st_nil (.tmp 4) rfl (K.dep 0 4 rfl)
  · exact st_field 51 0 (.tmp 5) rfl (K.dep 1 5 rfl) (by kernel_rfl)
  · exact st_loadc 3 (.tmp 6) rfl (by kernel_rfl) (K.dep 2 6 rfl) (Ob.cell (Ob.below m0 (bl.trans (Below.mono K.grow bl.size))) 0 rfl)
  · exact st_eqi 3 (.tmp 7) (.const (.int .i64 0)) rfl .i64 (((n : Nat) : Int)) (0) (K.dep 3 7 rfl) rfl _ (by rw [eq_comm, decide_eq_true_iff]; omega)
  intro f2 w2 A hb
  replace bl0 := bl
  replace x0 := (A.old 0 rfl).trans x0
  replace x2 := (A.old 2 rfl).trans x2
  have x8 : f2.eval (.tmp 8) = .bool true := A.has 4 8 rfl
  have lt_m2 := Ob.lt m2
  replace m2 := Ob.below m2 hb
  replace bl := (bl.trans (Below.mono hb bl.size))
  replace sz := A.size.trans sz
  replace df := A.defs.trans df
  clear A hb
  show Code.wp _ _ _ _ _
  refine wp_cond_true x8 ?_
  refine wp_seq ?_
  refine wp_region_seq [.eq (.agg ((y).map V).toArray)] (by kernel_rfl) (by kernel_rfl) (by rw [sz]; kernel_rfl) (by kernel_rfl) ⟨fun hw ac u K => ?_, trivial⟩ ?_
  · exact st_call 24 (.func 24) _ _ #[.slice none 0 0] rfl rfl (one_arg rfl) Tryd.enter24 (by rw [← eys]; exact fk_sum (by simp) (hK.below (bl.trans (Below.mono K.grow bl.size))) (Fk.mono _ _ _ _ hnil (bl.trans (Below.mono K.grow bl.size))))
  intro f3 w3 A hb
  replace bl0 := bl
  replace x0 := (A.old 0 rfl).trans x0
  replace x2 := (A.old 2 rfl).trans x2
  replace x8 := (A.old 8 rfl).trans x8
  have x9 : f3.eval (.tmp 9) = .agg ((y).map V).toArray := A.has 0 9 rfl
  have lt_m2 := Ob.lt m2
  replace m2 := Ob.below m2 hb
  replace bl := (bl.trans (Below.mono hb bl.size))
  replace sz := A.size.trans sz
  replace df := A.defs.trans df
  clear A hb
  refine wl_store rfl (.tmp 2) (.tmp 9) rfl rfl (g2) (y) (hz) x2 x9 m2 hz_len hy ?_
  replace m2 : Ob (w3.setRow g2 ((y).map V : List Value).toArray) (g2) 33 ((y).map V) := Ob.setRow m2 ((y).map V)
  replace bl : Below w.heap.size w (w3.setRow g2 ((y).map V : List Value).toArray) := bl.trans (below_setRow _ _ _ _ hw2)
  generalize w3.setRow g2 ((y).map V : List Value).toArray = w4b at bl m2 ⊢
  refine wpList_nil ?_
  clear x9
  show Code.wp _ _ _ _ _
  refine wp_ret ?_
  repeat (first | with_reducible refine then_ret ?_ | with_reducible refine block_ret ?_)
  exact bodyPost_ret (v := .agg ((y).map V).toArray) (ret_hash rfl f3 _ g2 (y) hy x2 m2) df ⟨_, rfl, rfl, bl⟩
end Go.Proofs.YtnppjlpnfijobaaDoor
namespace Go.Proofs.YtnppjlpnfijobaaDoor
set_option maxRecDepth 100000
open Go.RowKit
section
variable {P : Program} {ops : Array Oper} {Q : Exit → Act → World → Prop} {S : World → Prop} {o : Oper} {a : Act}
theorem yield_of {j d : Nat} {b : Bool} (hj : (ops[j]?).bind (·.dst) = some d) (h : a.eval (.tmp d) = .bool b) : yielded ops a.tmps j = some b := by
  simp only [Act.eval, Array.getD_eq_getD_getElem?] at h
  unfold yielded
  rw [hj]
  simp only [Option.bind_some]
  cases hq : a.tmps[d]? with
  | none => rw [hq] at h; simp [undef] at h
  | some u => rw [hq] at h; simp at h; rw [h]
theorem want_of {j d : Nat} {b : Bool} (hg : o.guard = some (j, b)) (hj : (ops[j]?).bind (·.dst) = some d) (h : a.eval (.tmp d) = .bool b) : Region.wanted o (yielded ops a.tmps) = true := by
  unfold Region.wanted
  rw [hg]
  show (yielded ops a.tmps j == some b) = true
  rw [yield_of hj h]
  simp
theorem want_none (hg : o.guard = none) : Region.wanted o (yielded ops a.tmps) = true := by
  unfold Region.wanted
  rw [hg]
/-- What only looks, wanted. -/
theorem wg_take (i : Nat) (d : Nat) {v : Value} {fuel : Nat} {listed : Array Bool} {w : World} (hi : ops[i]? = some o) (hd : o.dst = some d) (hsz : d < a.tmps.size) (hw : Region.wanted o (yielded ops a.tmps) = true)
    (hs : Region.noSelect ops = true) (hf : Region.free .any ops listed i = true) (hr : (Region.ready .any ops listed).contains i = true)
    (hQ : ∀ c a w, Q (.panic c) (a.put o.dst v) w → Q (.panic c) a w) (hy : ∀ w, S w → (execOp a.eval o).run P w = .ok (.value v) w) (hS : S w)
    (h : ∀ a2, a2.defers = a.defers → a2.tmps.size = a.tmps.size → (∀ t, (t == d) = false → a2.eval (.tmp t) = a.eval (.tmp t)) → a2.eval (.tmp d) = v → wpAnyH P .any ops Q S fuel (listed.setIfInBounds i true) a2 w) : wpAnyH P .any ops Q S (fuel + 1) listed a w := by
  refine wpAnyH_take hi hs hf hr hQ (.inl ⟨hw, hy⟩) hS ?_
  rw [hd]
  exact h _ (put_def _ _ _) (put_size _ _ _) (fun t ht => put_eval_other _ _ _ _ (fun e => by subst e; simp at ht)) (put_eval_same _ _ _ hsz)
/-- A step that is the only one that can come, wanted: as a step of a region by itself. -/
theorem wg_step (i : Nat) (d : Nat) {fuel : Nat} {listed : Array Bool} {w : World} (hi : ops[i]? = some o) (hd : o.dst = some d) (hsz : d < a.tmps.size) (hw : Region.wanted o (yielded ops a.tmps) = true) (hr : (Region.ready .any ops listed == [i]) = true) (q : Fk)
    (hs : o.wp P a w (Ends a o.dst w q.f) Q)
    (h : ∀ a2 w2, a2.defers = a.defers → a2.tmps.size = a.tmps.size → (∀ t, (t == d) = false → a2.eval (.tmp t) = a.eval (.tmp t)) → q.f (a2.eval (.tmp d)) w2 → Below w.heap.size w w2 → S w2 ∧ wpAnyH P .any ops Q S fuel (listed.setIfInBounds i true) a2 w2) : wpAnyH P .any ops Q S (fuel + 1) listed a w := by
  refine wpAnyH_all (eq_of_beq hr) (by simp) (fun j hj => ?_)
  obtain rfl : j = i := by simpa using hj
  unfold wpOp
  rw [hi]
  show if Region.wanted o (yielded ops a.tmps) = true then _ else _
  rw [if_pos hw]
  refine .inl (Oper.wp_mono ?_ hs)
  rintro a2 w2 ⟨v, rfl, hb, hq⟩
  rw [hd]
  refine h _ _ (put_def _ _ _) (put_size _ _ _) (fun t ht => put_eval_other _ _ _ _ (fun e => by subst e; simp at ht)) ?_ hb
  rw [put_eval_same _ _ _ hsz]
  exact hq
/-- A call that is the only one that can come, wanted; it may turn old blocks. -/
theorem wg_call (i : Nat) (d : Nat) {fuel : Nat} {listed : Array Bool} {w : World} (hi : ops[i]? = some o) (hd : o.dst = some d) (hsz : d < a.tmps.size) (hw : Region.wanted o (yielded ops a.tmps) = true) (hr : (Region.ready .any ops listed == [i]) = true)
    (f : FuncId) (x : Operand) (xs : Array Operand) (ts : Array TypeId) (vs : Array Value) (ho : o.op = .call { callee := .value x, args := xs, argTypes := ts }) (hx : a.eval x = .func (.func f) #[] #[]) (hv : (xs.toList.map a.eval).toArray = vs)
    (hf : ∀ args w, (callFunc f args).run P w = .ok (.enter f args) w) (R : Value → World → Prop) (hc : Calls P f vs w fun e w' => ∃ v, e = .returned v ∧ R v w')
    (h : ∀ a2 w2, a2.defers = a.defers → a2.tmps.size = a.tmps.size → (∀ t, (t == d) = false → a2.eval (.tmp t) = a.eval (.tmp t)) → R (a2.eval (.tmp d)) w2 → S w2 ∧ wpAnyH P .any ops Q S fuel (listed.setIfInBounds i true) a2 w2) : wpAnyH P .any ops Q S (fuel + 1) listed a w := by
  refine wpAnyH_all (eq_of_beq hr) (by simp) (fun j hj => ?_)
  obtain rfl : j = i := by simpa using hj
  have hrun : (execOp a.eval o).run P w = .ok (.enter f vs) w := by
    have hv' : xs.map a.eval = vs := by rw [← hv]; apply Array.toList_inj.1; simp
    unfold execOp; rw [ho]
    simp [resolve, hx, Deferred.ofValue, invoke, hv', hf]
  unfold wpOp
  rw [hi]
  show if Region.wanted o (yielded ops a.tmps) = true then _ else _
  rw [if_pos hw]
  refine .inl ?_
  unfold Oper.wp; rw [hrun]
  refine Calls.mono hc ?_
  rintro e w' ⟨v, rfl, h1⟩
  rw [hd]
  refine h _ _ (put_def _ _ _) (put_size _ _ _) (fun t ht => put_eval_other _ _ _ _ (fun e => by subst e; simp at ht)) ?_
  rw [put_eval_same _ _ _ hsz]
  exact h1
variable {rest : List Oper} {w : World}
end
end Go.Proofs.YtnppjlpnfijobaaDoor
