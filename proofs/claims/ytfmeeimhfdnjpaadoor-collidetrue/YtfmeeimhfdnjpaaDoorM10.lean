/- bytes.Equal, Right, root, inputs of nodes; what struct results are. Collisions, plainly: what a path and a proof that are right lead to, half by half. The sides of a leaf's path, reckoned upwards by halving its place and the last one's. A drawn region in which two variables are made, beside looks; a hash of a list is looked at. -/
import Derived.Test.YtfmeeimhfdnjpaaDoorM5
import Derived.Test.YtfmeeimhfdnjpaaDoorM6
import Derived.Test.YtfmeeimhfdnjpaaDoorM9
namespace Go.Proofs.YtfmeeimhfdnjpaaDoor
set_option maxRecDepth 100000
open Go.RowKit
theorem fk_beq {A B : List (BitVec 8)} {u1 u2 : Value} {w : World} (hA : (Fk.sl A).f u1 w) (hB : (Fk.sl B).f u2 w) {b : Bool} (hb : b = decide (A = B)) :
    Calls Tryd.prog 25 #[u1, u2] w fun e w' => ∃ u, e = .returned u ∧ (Fk.eq (.bool b)).f u w' ∧ Below w.heap.size w w' := by
  go_enter Tryd.func25, Tryd.ntmps25
  refine code_both (fun f w1 => f.tmps.size = 10 ∧ f.defers = [] ∧ f.eval (.tmp 0) = u1 ∧ f.eval (.tmp 1) = u2 ∧ Below w.heap.size w (w1)) ⟨rfl, rfl, rfl, rfl, Below.refl _ _⟩ ?_
  rintro f0 w0 ⟨sz, df, x0, x1, bl⟩
  have sd := And.intro sz df
  clear sz df
  have bl0 := bl
  refine wp_seq ?_
  refine wr_a [.eq (.bool false)] (by rw [sd.1]; kernel_rfl) ⟨fun hw ac u K => ?_, trivial⟩ ?_
  · exact st_assign (.const (.bool false)) rfl rfl
  intro f1 w1 A hb
  replace x0 := A.t x0 rfl
  replace x1 := A.t x1 rfl
  replace bl := bgo bl hb
  replace sd := A.sd sd
  clear A hb
  show Code.wp _ _ _ _ _
  refine wp_seq ?_
  by_cases hq : A = B
  rotate_left
  · skip
    have hbf : false = b := by rw [hb]; simp [hq]
    refine wr_a [.eq (u1), .eq (.string (str (A))), .eq (u2), .eq (.string (str (B))), .eq (.bool false), .eq (.bool false)] (by rw [sd.1]; kernel_rfl) ⟨fun hw ac u K => ?_, fun hw ac u K => ?_, fun hw ac u K => ?_, fun hw ac u K => ?_, fun hw ac u K => ?_, fun hw ac u K => ?_, trivial⟩ ?_
    · exact st_move (.tmp 0) rfl (K.t x0 rfl)
    · exact st_stra (.tmp 5) rfl (fk_val (K.dep 0 5 rfl) (Fk.mono _ _ _ _ hA (bgo bl K.grow)))
    · exact st_move (.tmp 1) rfl (K.t x1 rfl)
    · exact st_stra (.tmp 7) rfl (fk_val (K.dep 2 7 rfl) (Fk.mono _ _ _ _ hB (bgo bl K.grow)))
    · exact st_eqs (.tmp 6) (.tmp 8) rfl (str (A)) (str (B)) (K.dep 1 6 rfl) (K.dep 3 8 rfl) _ (by symm; rw [decide_eq_false_iff_not]; exact fun h => hq (str_inj h))
    · exact st_assign (.tmp 9) rfl (K.dep 4 9 rfl)
    intro f2 w2 A hb
    replace x0 := A.t x0 rfl
    replace x1 := A.t x1 rfl
    have x4 := A.e 5 4 rfl rfl
    replace bl := bgo bl hb
    replace sd := A.sd sd
    clear A hb
    clear x0
    clear x1
    show Code.wp _ _ _ _ _
    refine wp_ret ?_
    repeat (first | with_reducible refine then_ret ?_ | with_reducible refine block_ret ?_)
    exact bodyPost_ret (v := .bool false) (ret_slot rfl f2 _ x4 _ _) sd.2 ⟨_, rfl, by rw [← hbf]; rfl, bl⟩
  have hbf : true = b := by rw [hb]; simp [hq]
  refine wr_a [.eq (u1), .eq (.string (str (A))), .eq (u2), .eq (.string (str (B))), .eq (.bool true), .eq (.bool true)] (by rw [sd.1]; kernel_rfl) ⟨fun hw ac u K => ?_, fun hw ac u K => ?_, fun hw ac u K => ?_, fun hw ac u K => ?_, fun hw ac u K => ?_, fun hw ac u K => ?_, trivial⟩ ?_
  · exact st_move (.tmp 0) rfl (K.t x0 rfl)
  · exact st_stra (.tmp 5) rfl (fk_val (K.dep 0 5 rfl) (Fk.mono _ _ _ _ hA (bgo bl K.grow)))
  · exact st_move (.tmp 1) rfl (K.t x1 rfl)
  · exact st_stra (.tmp 7) rfl (fk_val (K.dep 2 7 rfl) (Fk.mono _ _ _ _ hB (bgo bl K.grow)))
  · exact st_eqs (.tmp 6) (.tmp 8) rfl (str (A)) (str (B)) (K.dep 1 6 rfl) (K.dep 3 8 rfl) _ (by rw [hq]; simp)
  · exact st_assign (.tmp 9) rfl (K.dep 4 9 rfl)
  intro f2 w2 A hb
  replace x0 := A.t x0 rfl
  replace x1 := A.t x1 rfl
  have x4 := A.e 5 4 rfl rfl
  replace bl := bgo bl hb
  replace sd := A.sd sd
  clear A hb
  clear x0
  clear x1
  show Code.wp _ _ _ _ _
  refine wp_ret ?_
  repeat (first | with_reducible refine then_ret ?_ | with_reducible refine block_ret ?_)
  exact bodyPost_ret (v := .bool true) (ret_slot rfl f2 _ x4 _ _) sd.2 ⟨_, rfl, by rw [← hbf]; rfl, bl⟩
theorem fk_hinput {p q : List (BitVec 8)} (hp : p.length = 32) (hq : q.length = 32) (w : World) :
    Calls Tryd.prog 60 #[.agg ((p ++ q).map V).toArray] w fun e w' => ∃ u, e = .returned u ∧ (Fk.sl (kb 1 :: (p ++ q))).f u w' ∧ Below w.heap.size w w' := by
  go_enter Tryd.func60, Tryd.ntmps60
  refine code_both (fun f w1 => f.tmps.size = 9 ∧ f.defers = [] ∧ f.eval (.tmp 0) = .agg ((p ++ q).map V).toArray ∧ Below w.heap.size w (w1)) ⟨rfl, rfl, rfl, Below.refl _ _⟩ ?_
  rintro f0 w0 ⟨sz, df, x0, bl⟩
  have sd := And.intro sz df
  clear sz df
  have bl0 := bl
  refine wp_seq ?_
  refine wr_a [.nw w0.heap.size 76 ((p ++ q).map V), .eq (.slice none 0 0)] (by rw [sd.1]; kernel_rfl) ⟨fun hw ac u K => ?_, fun hw ac u K => ?_, trivial⟩ ?_
  · exact st_box 76 (.tmp 0) rfl _ _ (by rw [show _ = _ from (K.t x0 rfl)]; kernel_rfl) K.grow.size
  · exact st_assign (.const (.slice none 0 0)) rfl rfl
  intro f1 w1 A hb
  replace bl0 := bl
  replace x0 := A.t x0 rfl
  have x1 : Fk.f (.nw w0.heap.size 76 ((p ++ q).map V)) (f1.eval (.tmp 1)) w1 := A.has 0 1 rfl
  replace bl := bgo bl hb
  replace sd := A.sd sd
  clear A hb
  clear x0
  obtain ⟨g1, hg1, e1, m1⟩ := x1
  have x1 := e1
  clear e1
  have hw1 : w.heap.size ≤ g1 := Nat.le_trans bl0.size hg1
  show Code.wp _ _ _ _ _
  refine wp_seq ?_
  refine wr_d [.eq (.pointer (some ⟨g1, 0, none⟩)), .sl (p), .eq (.pointer (some ⟨g1, 32, none⟩)), .sl (q), .ls 2 (p ++ q), .sl (kb 1 :: (p ++ q)), .sl (kb 1 :: (p ++ q))] Tryd.mixed (by rw [sd.1]; kernel_rfl) ⟨fun hw ac u K => ?_, fun hw ac u K => ?_, fun hw ac u K => ?_, fun hw ac u K => ?_, fun hw ac u K => ?_, fun hw ac u K => ?_, fun hw ac u K => ?_, trivial⟩ ?_
  · exact st_idx2h (.tmp 1) (.const (.int .i64 0)) rfl (K.t x1 rfl) (by kernel_rfl)
  · exact st_slice33 (.tmp 3) rfl (g1) 0 (p) (K.dep 0 3 rfl) hp (Ob.lt (Ob.below m1 K.grow)) (bytes_left (Ob.below m1 K.grow))
  · exact st_idx2h (.tmp 1) (.const (.int .i64 1)) rfl (K.t x1 rfl) (by kernel_rfl)
  · exact st_slice33 (.tmp 5) rfl (g1) 32 (q) (K.dep 2 5 rfl) hq (Ob.lt (Ob.below m1 K.grow)) (bytes_right hp (Ob.below m1 K.grow))
  · exact st_build2 (.tmp 4) (.tmp 6) rfl (K.dep 1 4 rfl) (K.dep 3 6 rfl)
  · exact st_call 48 (.func 48) _ _ _ rfl rfl (arg2 rfl rfl) Tryd.enter48 (fk_input 1 (by rw [List.length_append, hp, hq]; decide) (by decide) (K.dep 4 7 rfl))
  · exact st_assign (.tmp 8) rfl (K.dep 5 8 rfl)
  intro f2 w2 A hb
  replace x1 := A.t x1 rfl
  have x2 : Fk.f (.sl (kb 1 :: (p ++ q))) (f2.eval (.tmp 2)) w2 := A.has 6 2 rfl
  replace m1 := Ob.below m1 hb
  replace bl := bgo bl hb
  replace sd := A.sd sd
  clear A hb
  clear x1
  clear m1
  show Code.wp _ _ _ _ _
  refine wp_ret ?_
  repeat (first | with_reducible refine then_ret ?_ | with_reducible refine block_ret ?_)
  exact bodyPost_ret (v := f2.eval (.tmp 2)) (ret_slot rfl f2 _ rfl _ _) sd.2 ⟨_, rfl, x2, bl⟩
theorem und_row {T : TypeId} (hr : (Tryd.prog.underlying T).map (·.isRow) = some true) : ∃ d, Tryd.prog.underlying T = some d ∧ (match d with | .struct _ | .array _ _ => true | _ => false) = true := by
  cases hu : Tryd.prog.underlying T with
  | none => rw [hu] at hr; cases hr
  | some d =>
    rw [hu] at hr
    refine ⟨d, rfl, ?_⟩
    cases d <;> first | rfl | (simp [TypeDesc.isRow] at hr)
theorem ret_c1 {fn : Func} {p : Tmp} (h : fn.results = #[.cell p 25]) (a : Act) (w : World) (g : Nat) (u1 u2 : Value) (hp : a.eval (.tmp p) = .pointer (some ⟨g, 0, none⟩)) (m : Ob w g 25 [u1, u2]) : (results fn a.tmps).run Tryd.prog w = .ok (.agg ([u1, u2] : List Value).toArray) w := by
  obtain ⟨d, hd, hm⟩ := und_row (T := 25) (by kernel_rfl)
  exact results_cell_row (P := Tryd.prog) (fn := fn) (p := p) (ty := 25) h _ _ g 25 _ (0, 0) d hp m hd (by cases d <;> first | rfl | exact hm) (by kernel_rfl)
theorem ret_c2 {fn : Func} {p u : Tmp} (h : fn.results = #[.cell p 25, .tmp u]) (a : Act) (w : World) (g : Nat) (u1 u2 v : Value) (hp : a.eval (.tmp p) = .pointer (some ⟨g, 0, none⟩)) (m : Ob w g 25 [u1, u2]) (hu : a.eval (.tmp u) = v) : (results fn a.tmps).run Tryd.prog w = .ok (.tuple #[.agg ([u1, u2] : List Value).toArray, v]) w := by
  obtain ⟨d, hd, hm⟩ := und_row (T := 25) (by kernel_rfl)
  exact results_row_tmp (P := Tryd.prog) h _ _ g 25 _ (0, 0) d v hp m hd (by cases d <;> first | rfl | exact hm) (by kernel_rfl) hu
theorem ret_c3 {fn : Func} {p u t : Tmp} (h : fn.results = #[.cell p 25, .tmp u, .tmp t]) (a : Act) (w : World) (g : Nat) (u1 u2 v x : Value) (hp : a.eval (.tmp p) = .pointer (some ⟨g, 0, none⟩)) (m : Ob w g 25 [u1, u2]) (hu : a.eval (.tmp u) = v) (ht : a.eval (.tmp t) = x) : (results fn a.tmps).run Tryd.prog w = .ok (.tuple #[.agg ([u1, u2] : List Value).toArray, v, x]) w := by
  obtain ⟨d, hd, hm⟩ := und_row (T := 25) (by kernel_rfl)
  have h1 : a.tmps.getD p undef = .pointer (some ⟨g, 0, none⟩) := hp
  have h2 : a.tmps.getD u undef = v := hu
  have h3 : a.tmps.getD t undef = x := ht
  have l1 := run_loadVar_row (P := Tryd.prog) w g 25 25 _ (0, 0) d m hd (by cases d <;> first | rfl | exact hm) (by kernel_rfl)
  rw [Array.getD_eq_getD_getElem?] at h1 h2 h3
  simp [results, h, h1, h2, h3, asAddr, l1]
theorem sl_setRow {A : List (BitVec 8)} {v : Value} {w : World} {g : Nat} {T : TypeId} {a1 a2 : Option Addr} {n1 c1 n2 c2 : Nat} {ds : Array Value} (h : (Fk.sl A).f v w) (m : Ob w g T [.slice a1 n1 c1, .slice a2 n2 c2]) : (Fk.sl A).f v (w.setRow g ds) := by
  obtain ⟨sp, k, c, b, o, e, hs⟩ := h
  have O := (Only.refl g w).setRow ds
  refine ⟨sp, k, c, b, o, e, hs.len, hs.cap, hs.nil, fun hp => ?_⟩
  obtain ⟨e1, hl, hB⟩ := hs.src hp
  have hA : 0 < A.length := by have := hs.len; omega
  have hne : b ≠ g := by
    rintro rfl
    have h1 := hB 0 hA
    have h2 : w.cell? ⟨b, o + 0, none⟩ = some (.slice a1 n1 c1) ∨ w.cell? ⟨b, o + 0, none⟩ = some (.slice a2 n2 c2) := by
      have m2 := m
      unfold Ob at m2
      rcases Nat.lt_or_ge (o + 0) 2 with h3 | h3
      · rcases Nat.lt_or_ge (o + 0) 1 with h4 | h4
        · rw [show o + 0 = 0 by omega]; exact .inl (m.cell 0 rfl)
        · rw [show o + 0 = 1 by omega]; exact .inr (m.cell 1 rfl)
      · exfalso
        have h5 : w.cell? ⟨b, o + 0, none⟩ = none := by
          simp only [World.cell?, m2]
          exact Array.getElem?_eq_none h3
        rw [h5] at h1
        cases h1
    rcases h2 with h2 | h2 <;> (rw [h2] at h1; cases h1)
  refine ⟨e1, Nat.lt_of_lt_of_le hl O.size, fun i hi => ?_⟩
  rw [O.cell (by exact hl) (by exact hne)]
  exact hB i hi
/-- A collision's two inputs, as a struct has them. -/
def Fk.cs (A B : List (BitVec 8)) : Fk := .inr (.inl ⟨fun v w => ∃ u1 u2, v = .agg ([u1, u2] : List Value).toArray ∧ (Fk.sl A).f u1 w ∧ (Fk.sl B).f u2 w, by
  rintro v w w' ⟨u1, u2, e, h1, h2⟩ hb
  exact ⟨u1, u2, e, Fk.mono _ _ _ _ h1 hb, Fk.mono _ _ _ _ h2 hb⟩⟩)
/-- The hash of the leaf i. -/
def lvs (ps : List Pt) (i : Nat) : List (BitVec 8) := lf (((ps[i]?).map Pt.bs).getD [])
theorem lvs_len (ps : List Pt) (i : Nat) : (lvs ps i).length = 32 := lf_len _
theorem lvs_at {ps : List Pt} {i : Nat} {p : Pt} (h : ps[i]? = some p) : lvs ps i = lf p.bs := by unfold lvs; rw [h]; rfl
theorem firsts_at (L : Nat → List (BitVec 8)) {n i : Nat} (h : i < n) : (firsts L n)[i]? = some (L i) := by
  unfold firsts
  rw [List.getElem?_map, List.getElem?_range h]
  rfl
theorem leaves_any {ps : List Pt} (h40 : ps.length ≤ 1000) (hmx : ∀ p ∈ ps, p.bs.length ≤ 140737488351232) (w : World) {v : Value} (hv : (Fk.mg ps).f v w) (hK : Tab w) {S : List (List (BitVec 8))} (eS : Box (firsts (lvs ps) ps.length = S)) :
    Calls Tryd.prog 28 #[v] w fun e w' => ∃ u, e = .returned u ∧ (Fk.hc S).f u w' ∧ Below w.heap.size w w' := by
  go_enter Tryd.func28, Tryd.ntmps28
  refine code_both (fun f w1 => f.tmps.size = 23 ∧ f.defers = [] ∧ f.eval (.tmp 0) = v ∧ Below w.heap.size w (w1)) ⟨rfl, rfl, rfl, Below.refl _ _⟩ ?_
  rintro f0 w0 ⟨sz, df, x0, bl⟩
  have sd := And.intro sz df
  clear sz df
  have bl0 := bl
  refine wp_seq ?_
  refine wr_a [.eq (.slice none 0 0)] (by rw [sd.1]; kernel_rfl) ⟨fun hw ac u K => ?_, trivial⟩ ?_
  · exact st_assign (.const (.slice none 0 0)) rfl rfl
  intro f1 w1 A hb
  replace x0 := A.t x0 rfl
  replace bl := bgo bl hb
  replace sd := A.sd sd
  clear A hb
  show Code.wp _ _ _ _ _
  refine wp_seq ?_
  refine wr_a [.eq (v), .eq (.int .i64 (((ps).length : Nat) : Int)), .nz w.heap.size (ps).length, .nz w.heap.size (ps).length] (by rw [sd.1]; kernel_rfl) ⟨fun hw ac u K => ?_, fun hw ac u K => ?_, fun hw ac u K => ?_, fun hw ac u K => ?_, trivial⟩ ?_
  · exact st_move (.tmp 0) rfl (K.t x0 rfl)
  · exact st_lenm (.tmp 6) rfl (fk_val (K.dep 0 6 rfl) (Fk.mono _ _ _ _ hv (bgo bl K.grow)))
  · exact st_makeh (.tmp 7) (.tmp 7) rfl (ps).length (by omega) (K.dep 1 7 rfl) (K.dep 1 7 rfl) _ (Nat.le_trans bl.size K.grow.size)
  · exact st_assign (.tmp 8) rfl (K.dep 2 8 rfl)
  intro f2 w2 A hb
  replace bl0 := bl
  replace x0 := A.t x0 rfl
  have x3 : Fk.f (.nz w.heap.size (ps).length) (f2.eval (.tmp 3)) w2 := A.has 3 3 rfl
  replace bl := bgo bl hb
  replace sd := A.sd sd
  clear A hb
  obtain ⟨g3, hg3, e3, R3⟩ := x3
  have x3 : Fk.f (.eq (.slice (some ⟨g3, 0, none⟩) (ps).length (ps).length)) (f2.eval (.tmp 3)) w2 := e3
  clear e3
  have hw3 : w.heap.size ≤ g3 := hg3
  show Code.wp _ _ _ _ _
  refine wp_seq ?_
  refine wp_seq ?_
  refine wr_a [.eq (v), .eq (.int .i64 (((ps).length : Nat) : Int)), .eq (.int .i64 0)] (by rw [sd.1]; kernel_rfl) ⟨fun hw ac u K => ?_, fun hw ac u K => ?_, fun hw ac u K => ?_, trivial⟩ ?_
  · exact st_move (.tmp 0) rfl (K.t x0 rfl)
  · exact st_lenm (.tmp 9) rfl (fk_val (K.dep 0 9 rfl) (Fk.mono _ _ _ _ hv (bgo bl K.grow)))
  · exact st_move (.const (.int .i64 0)) rfl rfl
  intro f3 w3 A hb
  replace x0 := A.t x0 rfl
  replace x3 := A.t x3 rfl
  have x9 := A.e 0 9 rfl rfl
  have x10 := A.e 1 10 rfl rfl
  have x11 := A.e 2 11 rfl rfl
  replace R3 := Rw.below R3 hb
  replace bl := bgo bl hb
  replace sd := A.sd sd
  clear A hb
  clear x0
  show Code.wp _ _ _ _ _
  refine wp_block ?_
  refine wp_loop (fun f v1 => ∃ k : Nat, k ≤ (ps).length ∧ f.tmps.size = 23 ∧ f.defers = [] ∧ f.eval (.tmp 3) = .slice (some ⟨g3, 0, none⟩) (ps).length (ps).length ∧ f.eval (.tmp 9) = v ∧ f.eval (.tmp 10) = .int .i64 (((ps).length : Nat) : Int) ∧ f.eval (.tmp 11) = .int .i64 (k : Int) ∧ Rw v1 g3 (prt (ps).length (lvs ps) k) ∧ Below w.heap.size w (v1)) (fun f _ => (ps).length - (intOf (f.eval (.tmp 11))).toNat) ⟨0, Nat.zero_le _, sd.1, sd.2, x3, x9, x10, x11, (by rw [prt_zero]; exact R3), bl⟩ ?_
  intro f4 w4 hI
  clear sd bl bl0 x3 x9 x10 x11 R3
  obtain ⟨k, hk8, sz, df, x3, x9, x10, x11, R3, bl⟩ := hI
  have sd := And.intro sz df
  clear sz df
  have bl0 := bl
  have hcnt := x11
  refine wp_seq ?_
  by_cases hlt : k < (ps).length
  rotate_left
  · skip
    refine wr_a [.eq (.bool false)] (by rw [sd.1]; kernel_rfl) ⟨fun hw ac u K => ?_, trivial⟩ ?_
    · exact st_lss 3 (.tmp 11) (.tmp 10) rfl .i64 ((k : Int)) ((((ps).length : Nat) : Int)) (K.t x11 rfl) (K.t x10 rfl) _ (by rw [eq_comm, decide_eq_false_iff_not]; exact fun h => hlt (Int.ofNat_lt.1 h))
    intro f5 w5 A hb
    replace x3 := A.t x3 rfl
    replace x9 := A.t x9 rfl
    replace x10 := A.t x10 rfl
    replace x11 := A.t x11 rfl
    have x12 := A.e 0 12 rfl rfl
    replace R3 := Rw.below R3 hb
    replace bl := bgo bl hb
    replace sd := A.sd sd
    clear A hb
    show Code.wp _ _ _ _ _
    refine wp_seq ?_
    refine wp_cond_false x12 ?_
    refine wp_exit ?_
    show Code.wp _ _ _ _ _
    refine wp_seq ?_
    refine wr_a [.eq (.slice (some ⟨g3, 0, none⟩) (ps).length (ps).length), .eq (.slice (some ⟨g3, 0, none⟩) (ps).length (ps).length)] (by rw [sd.1]; kernel_rfl) ⟨fun hw ac u K => ?_, fun hw ac u K => ?_, trivial⟩ ?_
    · exact st_move (.tmp 3) rfl (K.t x3 rfl)
    · exact st_assign (.tmp 22) rfl (K.dep 0 22 rfl)
    intro f6 w6 A hb
    replace x3 := A.t x3 rfl
    replace x9 := A.t x9 rfl
    replace x10 := A.t x10 rfl
    replace x11 := A.t x11 rfl
    replace x12 := A.t x12 rfl
    have x2 := A.e 1 2 rfl rfl
    replace R3 := Rw.below R3 hb
    replace bl := bgo bl hb
    replace sd := A.sd sd
    clear A hb
    clear x12
    show Code.wp _ _ _ _ _
    refine wp_ret ?_
    repeat (first | with_reducible refine then_ret ?_ | with_reducible refine block_ret ?_)
    obtain rfl : k = (ps).length := by omega
    rw [prt_all, eS.out] at R3
    exact bodyPost_ret (v := f6.eval (.tmp 2)) (ret_slot rfl f6 _ rfl _ _) sd.2 ⟨_, rfl, by rw [show f6.eval (.tmp 2) = _ from x2]; exact ⟨_, _, g3, 0, by rw [← eS.out, firsts_len], by rw [← eS.out, firsts_len]; exact Nat.le_refl _, R3.hl⟩, bl⟩
  obtain ⟨p, hpk⟩ : ∃ p, ps[k]? = some p := ⟨_, List.getElem?_eq_getElem hlt⟩
  have hpl := hmx p (List.mem_of_getElem? hpk)
  have hsl : (Fk.sl p.bs).f (.slice p.sp p.m p.c) w := ⟨_, _, _, _, _, rfl, mg_ok hv hpk⟩
  obtain ⟨y, ey0⟩ : ∃ y, Box (lvs ps k = y) := ⟨_, ⟨rfl⟩⟩
  have hy : y.length = 32 := by rw [← ey0.out]; exact lvs_len _ _
  have ey : Box (lf p.bs = y) := ⟨by rw [← lvs_at hpk]; exact ey0.out⟩
  refine wr_a [.eq (.bool true)] (by rw [sd.1]; kernel_rfl) ⟨fun hw ac u K => ?_, trivial⟩ ?_
  · exact st_lss 3 (.tmp 11) (.tmp 10) rfl .i64 ((k : Int)) ((((ps).length : Nat) : Int)) (K.t x11 rfl) (K.t x10 rfl) _ (by rw [eq_comm, decide_eq_true_iff]; exact Int.ofNat_lt.2 hlt)
  intro f5 w5 A hb
  replace x3 := A.t x3 rfl
  replace x9 := A.t x9 rfl
  replace x10 := A.t x10 rfl
  replace x11 := A.t x11 rfl
  have x12 := A.e 0 12 rfl rfl
  replace R3 := Rw.below R3 hb
  replace bl := bgo bl hb
  replace sd := A.sd sd
  clear A hb
  show Code.wp _ _ _ _ _
  refine wp_seq ?_
  refine wp_cond_true x12 ?_
  refine wp_skip ?_
  show Code.wp _ _ _ _ _
  refine wp_seq ?_
  refine wp_block ?_
  refine wp_seq ?_
  refine wr_a [.eq (.int .i64 (k : Int)), .pv (.slice p.sp p.m p.c), .eq (.slice p.sp p.m p.c), .eq (.int .i64 (k : Int)), .eq (.slice p.sp p.m p.c)] (by rw [sd.1]; kernel_rfl) ⟨fun hw ac u K => ?_, fun hw ac u K => ?_, fun hw ac u K => ?_, fun hw ac u K => ?_, fun hw ac u K => ?_, trivial⟩ ?_
  · exact st_move (.tmp 11) rfl (K.t x11 rfl)
  · exact st_idxm (.tmp 9) (.tmp 11) rfl (fk_val (K.t x9 rfl) (Fk.mono _ _ _ _ hv (bgo bl K.grow))) k p (K.t x11 rfl) hpk
  · exact st_loadsl (.tmp 14) rfl (K.dep 1 14 rfl)
  · exact st_assign (.tmp 13) rfl (K.dep 0 13 rfl)
  · exact st_assign (.tmp 15) rfl (K.dep 2 15 rfl)
  intro f6 w6 A hb
  replace x3 := A.t x3 rfl
  replace x9 := A.t x9 rfl
  replace x10 := A.t x10 rfl
  replace x11 := A.t x11 rfl
  replace x12 := A.t x12 rfl
  have x4 := A.e 3 4 rfl rfl
  have x5 := A.e 4 5 rfl rfl
  replace R3 := Rw.below R3 hb
  replace bl := bgo bl hb
  replace sd := A.sd sd
  clear A hb
  clear x12
  show Code.wp _ _ _ _ _
  refine wr_s [.eq (.slice (some ⟨g3, 0, none⟩) (ps).length (ps).length), .eq (.int .i64 (k : Int)), .eq (.slice p.sp p.m p.c), .eq (.agg ((y).map V).toArray), .eq (.pointer (some ⟨g3, k * 32, none⟩))] (by rw [sd.1]; kernel_rfl) ⟨fun hw ac u K => ?_, fun hw ac u K => ?_, fun hw ac u K => ?_, fun hw ac u K => ?_, fun hw ac u K => ?_, trivial⟩ ?_
  · exact st_move (.tmp 3) rfl (K.t x3 rfl)
  · exact st_move (.tmp 4) rfl (K.t x4 rfl)
  · exact st_move (.tmp 5) rfl (K.t x5 rfl)
  · exact st_call 18 (.func 18) _ _ _ rfl rfl (one_arg (K.dep 2 18 rfl)) Tryd.enter18 (fk_leaf hpl (hK.below (bgo bl K.grow)) (Fk.mono _ _ _ _ hsl (bgo bl K.grow)) ey)
  · exact st_idxr (.tmp 16) (.tmp 17) rfl g3 k (ps).length (K.dep 0 16 rfl) (K.dep 1 17 rfl) hlt
  intro f7 w7 A hb
  have S_R3 := R3
  have hbS0 := Below.refl w6.heap.size w6
  have hbS := hb
  replace x3 := A.t x3 rfl
  replace x9 := A.t x9 rfl
  replace x10 := A.t x10 rfl
  replace x11 := A.t x11 rfl
  replace x4 := A.t x4 rfl
  replace x5 := A.t x5 rfl
  have x19 := A.e 3 19 rfl rfl
  have x20 := A.e 4 20 rfl rfl
  replace R3 := Rw.below R3 hb
  replace bl := bgo bl hb
  replace sd := A.sd sd
  clear A hb
  clear x4
  clear x5
  refine wl_storew rfl (.tmp 20) (.tmp 19) rfl rfl g3 (k) (y) _ x20 x19 R3 (by rw [prt_len]; exact hlt) hy ?_
  replace R3 := Rw.store R3 k y (by rw [prt_len]; exact hlt) hy
  rw [show (prt (ps).length (lvs ps) k).set k y = prt (ps).length (lvs ps) (k + 1) from by rw [← ey0.out]; exact prt_set _ _ _] at R3
  replace bl := below_setCells hw3 ((y).map V) (k * 32) _ bl
  generalize w7.setCells g3 (k * 32) ((y).map V) = w8b at R3 bl ⊢
  refine wpList_nil ?_
  clear hbS hbS0 S_R3
  clear x19
  clear x20
  show Code.wp _ _ _ _ _
  refine wr_s [.eq (.int .i64 ((k + 1 : Nat) : Int))] (by rw [sd.1]; kernel_rfl) ⟨fun hw ac u K => ?_, trivial⟩ ?_
  · exact st_add (.tmp 11) (.const (.int .i64 1)) rfl (k) (1) (k + 1) (K.t x11 rfl) rfl (by omega) (by omega)
  intro f9 w9 A hb
  replace x3 := A.t x3 rfl
  replace x9 := A.t x9 rfl
  replace x10 := A.t x10 rfl
  replace x11 := A.t x11 rfl
  have x21 := A.e 0 21 rfl rfl
  replace R3 := Rw.below R3 hb
  replace bl := bgo bl hb
  replace sd := A.sd sd
  clear A hb
  refine wl_one (.eq (.int .i64 ((k + 1 : Nat) : Int))) rfl 11 rfl (by rw [sd.1]; decide) (st_move (.tmp 21) rfl x21) ?_
  intro f10 w10 df2 sz2 old2 new2 hb
  replace x3 := tr old2 x3 rfl
  replace x9 := tr old2 x9 rfl
  replace x10 := tr old2 x10 rfl
  clear x11
  replace x21 := tr old2 x21 rfl
  have x11 := Fk.e new2
  replace R3 := Rw.below R3 hb
  replace bl := bgo bl hb
  replace sd := sd2 sz2 df2 sd
  clear df2 sz2 old2 new2 hb
  refine wpList_nil ?_
  clear x21
  show (∃ _, _) ∧ _
  refine ⟨⟨k + 1, by omega, sd.1, sd.2, x3, x9, x10, x11, R3, bl⟩, ?_⟩
  rw [show f10.eval (.tmp 11) = _ from x11, show _ = _ from hcnt]
  first | (simp [intOf]; done) | (simp [intOf]; omega)
theorem lvs_lhs (ps : List Pt) : firsts (lvs ps) ps.length = lhs ps := by
  apply List.ext_getElem?
  intro i
  by_cases hi : i < ps.length
  · rw [firsts_at _ hi]
    obtain ⟨p, hp⟩ : ∃ p, ps[i]? = some p := ⟨_, List.getElem?_eq_getElem hi⟩
    rw [lvs_at hp, lhs_at hp]
  · rw [List.getElem?_eq_none (by rw [firsts_len]; omega), List.getElem?_eq_none (by rw [lhs_len]; omega)]
theorem fk_lroot {ps : List Pt} (h40 : ps.length ≤ 1000) (hmx : ∀ p ∈ ps, p.bs.length ≤ 140737488351232) {w : World} {v : Value} (hv : (Fk.mg ps).f v w) (hK : Tab w) {y : List (BitVec 8)} (ey : Box (mroot (lhs ps) = y)) :
    Calls Tryd.prog 31 #[v] w fun e w' => ∃ u, e = .returned u ∧ (Fk.eq (.agg ((y).map V).toArray)).f u w' ∧ Below w.heap.size w w' := by
  have hy : y.length = 32 := by rw [← ey.out]; exact mroot_len (lhs_32 ps)
  go_enter Tryd.func31, Tryd.ntmps31
  refine code_both (fun f w1 => f.tmps.size = 6 ∧ f.defers = [] ∧ f.eval (.tmp 0) = v ∧ Below w.heap.size w (w1)) ⟨rfl, rfl, rfl, Below.refl _ _⟩ ?_
  rintro f0 w0 ⟨sz, df, x0, bl⟩
  have sd := And.intro sz df
  clear sz df
  have bl0 := bl
  refine wp_seq ?_
  refine wr_a [.nw w0.heap.size 33 ((hz).map V)] (by rw [sd.1]; kernel_rfl) ⟨fun hw ac u K => ?_, trivial⟩ ?_
  · exact st_alloc33 rfl _ K.grow.size
  intro f1 w1 A hb
  replace bl0 := bl
  replace x0 := A.t x0 rfl
  have x2 : Fk.f (.nw w0.heap.size 33 ((hz).map V)) (f1.eval (.tmp 2)) w1 := A.has 0 2 rfl
  replace bl := bgo bl hb
  replace sd := A.sd sd
  clear A hb
  obtain ⟨g2, hg2, e2, m2⟩ := x2
  have x2 := e2
  clear e2
  have hw2 : w.heap.size ≤ g2 := Nat.le_trans bl0.size hg2
  show Code.wp _ _ _ _ _
  refine wp_seq ?_
  refine wr_s [.eq (v), .hc (lhs ps), .eq (.agg ((y).map V).toArray)] (by rw [sd.1]; kernel_rfl) ⟨fun hw ac u K => ?_, fun hw ac u K => ?_, fun hw ac u K => ?_, trivial⟩ ?_
  · exact st_move (.tmp 0) rfl (K.t x0 rfl)
  · exact st_call 28 (.func 28) _ _ _ rfl rfl (one_arg (K.dep 0 3 rfl)) Tryd.enter28 (leaves_any (by omega) hmx _ (Fk.mono _ _ _ _ hv (bgo bl K.grow)) (hK.below (bgo bl K.grow)) ⟨lvs_lhs ps⟩)
  · exact st_call 19 (.func 19) _ _ _ rfl rfl (one_arg rfl) Tryd.enter19 (fk_of (root_any (lhs ps) _ _ (by rw [lhs_len]; omega) (K.dep 1 4 rfl) (hK.below (bgo bl K.grow)) ey))
  intro f2 w2 A hb
  replace x0 := A.t x0 rfl
  replace x2 := A.t x2 rfl
  have x5 := A.e 2 5 rfl rfl
  replace m2 := Ob.below m2 hb
  replace bl := bgo bl hb
  replace sd := A.sd sd
  clear A hb
  clear x0
  refine wl_store rfl (.tmp 2) (.tmp 5) rfl rfl (g2) (y) (hz) x2 x5 m2 hz_len hy ?_
  replace m2 : Ob (w2.setRow g2 ((y).map V : List Value).toArray) (g2) 33 ((y).map V) := Ob.setRow m2 ((y).map V)
  replace bl : Below w.heap.size w (w2.setRow g2 ((y).map V : List Value).toArray) := bl.trans (below_setRow _ _ _ _ hw2)
  generalize w2.setRow g2 ((y).map V : List Value).toArray = w3b at bl m2 ⊢
  refine wpList_nil ?_
  clear x5
  show Code.wp _ _ _ _ _
  refine wp_ret ?_
  repeat (first | with_reducible refine then_ret ?_ | with_reducible refine block_ret ?_)
  exact bodyPost_ret (v := .agg ((y).map V).toArray) (ret_hash rfl f2 _ g2 (y) hy x2 m2) sd.2 ⟨_, rfl, rfl, bl⟩
end Go.Proofs.YtfmeeimhfdnjpaaDoor
namespace Go.Proofs.YtfmeeimhfdnjpaaDoor
set_option maxRecDepth 100000
open Go.RowKit
theorem snoc_of {α : Type} {P : List α} {n : Nat} (h : P.length = n + 1) : ∃ P0 x, P = P0 ++ [x] ∧ P0.length = n := by
  rcases List.eq_nil_or_concat P with h1 | ⟨P0, x, h1⟩
  · rw [h1] at h; cases h
  · rw [List.concat_eq_append] at h1
    refine ⟨P0, x, h1, ?_⟩
    rw [h1, List.length_append] at h
    simpa using h
theorem rcol_node {a b c d : List (BitVec 8)} (ha : a.length = 32) (hc : c.length = 32) (h : nd a b = nd c d) (hne : ¬ (a = c ∧ b = d)) : rcol (kb 1 :: (a ++ b)) (kb 1 :: (c ++ d)) := by
  refine ⟨fun e => hne ?_, h⟩
  have e2 := (List.cons.inj e).2
  exact List.append_inj e2 (by rw [ha, hc])
theorem rcol_leaf {x y : List (BitVec 8)} (h : lf x = lf y) (hne : x ≠ y) : rcol (kb 0 :: x) (kb 0 :: y) := ⟨fun e => hne (List.cons.inj e).2, h⟩
/-- A leaf's hash and a path lead to a list's root. -/
def Lds (f : List (BitVec 8)) (i : Nat) (l P : List (List (BitVec 8))) : Prop := P.length = (sds i l.length).length ∧ ldt f P (sds i l.length) = mroot l
theorem take_len {α : Type} {l : List α} {k : Nat} (h : k ≤ l.length) : (l.take k).length = k := by rw [List.length_take]; omega
theorem lds_left {f : List (BitVec 8)} {i : Nat} {l P : List (List (BitVec 8))} (h2 : 2 ≤ l.length) (hi : i < spl l.length) (h : Lds f i l P) :
    ∃ P0 x y, P = P0 ++ [x] ∧ P0.length = (sds i (spl l.length)).length ∧ Box (ldt f P0 (sds i (spl l.length)) = y) ∧ nd (mroot (l.take (spl l.length))) (mroot (l.drop (spl l.length))) = nd y x ∧ (mroot (l.take (spl l.length)) = y → Lds f i (l.take (spl l.length)) P0) := by
  obtain ⟨h1, h3⟩ := h
  have hs := sds_left h2 hi
  rw [hs, List.length_append] at h1
  obtain ⟨P0, x, rfl, h4⟩ := snoc_of (n := (sds i (spl l.length)).length) h1
  refine ⟨P0, x, _, rfl, h4, ⟨rfl⟩, ?_, fun e => ⟨?_, ?_⟩⟩
  · rw [hs, ldt_snoc _ h4, mroot_two h2] at h3
    exact h3.symm
  · rw [take_len (by have := spl_lt h2; omega)]; exact h4
  · rw [take_len (by have := spl_lt h2; omega)]; exact e.symm
theorem lds_right {f : List (BitVec 8)} {i : Nat} {l P : List (List (BitVec 8))} (h2 : 2 ≤ l.length) (hi : ¬ i < spl l.length) (h : Lds f i l P) :
    ∃ P0 x y, P = P0 ++ [x] ∧ P0.length = (sds (i - spl l.length) (l.length - spl l.length)).length ∧ Box (ldt f P0 (sds (i - spl l.length) (l.length - spl l.length)) = y) ∧ nd (mroot (l.take (spl l.length))) (mroot (l.drop (spl l.length))) = nd x y ∧ (mroot (l.drop (spl l.length)) = y → Lds f (i - spl l.length) (l.drop (spl l.length)) P0) := by
  obtain ⟨h1, h3⟩ := h
  have hs := sds_right h2 hi
  rw [hs, List.length_append] at h1
  obtain ⟨P0, x, rfl, h4⟩ := snoc_of (n := (sds (i - spl l.length) (l.length - spl l.length)).length) h1
  refine ⟨P0, x, _, rfl, h4, ⟨rfl⟩, ?_, fun e => ⟨?_, ?_⟩⟩
  · rw [hs, ldt_snoc _ h4, mroot_two h2] at h3
    exact h3.symm
  · rw [List.length_drop]; exact h4
  · rw [List.length_drop]; exact e.symm
theorem lds_one {f x : List (BitVec 8)} {i : Nat} {P : List (List (BitVec 8))} (h : Lds f i [x] P) : f = x := by
  obtain ⟨h1, h3⟩ := h
  have hs : sds i [x].length = [] := sds_one (by simp) i
  rw [hs] at h1 h3
  have hP : P = [] := List.eq_nil_of_length_eq_zero h1
  rw [hP, mroot_one] at h3
  exact h3
theorem ldt_len {f : List (BitVec 8)} (hf : f.length = 32) (P : List (List (BitVec 8))) (S : List Bool) : (ldt f P S).length = 32 := by
  unfold ldt
  generalize P.zip S = l
  induction l generalizing f with
  | nil => exact hf
  | cons q r ih => exact ih (jon_len _ _)
/-- Both roots that a proof leads to which has the part with it. -/
def Led (m n : Nat) (P : List (List (BitVec 8))) (x y : List (BitVec 8)) : Prop := ∃ p r, P = p :: r ∧ r.length = (stp m n false).2.length ∧ bth p r (stp m n false).2 = (x, y)
theorem stp_2 (n : Nat) : ∀ m w, (stp m n w).2 = (stp m n false).2 := by
  induction n using Nat.strongRecOn with
  | ind n ih =>
  intro m w
  by_cases hm : m = n
  · rw [hm, stp_same, stp_same]
  · by_cases h2 : 2 ≤ n
    · by_cases hk : m ≤ spl n
      · rw [stp_left h2 hm hk, stp_left h2 hm hk]
        exact congrArg (· ++ [false]) (ih _ (spl_lt h2) m w)
      · rw [stp_right h2 hm hk, stp_right h2 hm hk]
    · rw [stp, if_neg hm, dif_pos (by omega), stp, if_neg hm, dif_pos (by omega)]
theorem led_one {n : Nat} {P : List (List (BitVec 8))} {x y : List (BitVec 8)} (h : Led n n P x y) : P = [x] ∧ y = x := by
  obtain ⟨p, r, rfl, h1, h2⟩ := h
  rw [stp_same] at h1 h2
  have hr : r = [] := List.eq_nil_of_length_eq_zero h1
  rw [hr, bth_nil] at h2
  cases h2
  exact ⟨by rw [hr], rfl⟩
theorem led_left {m n : Nat} {P : List (List (BitVec 8))} {x y : List (BitVec 8)} (h2 : 2 ≤ n) (hm : m ≠ n) (hk : m ≤ spl n) (h : Led m n P x y) :
    ∃ P0 z s, P = P0 ++ [z] ∧ Led m (spl n) P0 x s ∧ y = nd s z := by
  obtain ⟨p, r, rfl, h1, h3⟩ := h
  rw [stp_left h2 hm hk] at h1 h3
  simp only [List.length_append, List.length_cons, List.length_nil, Nat.zero_add] at h1
  obtain ⟨r0, z, rfl, h4⟩ := snoc_of h1
  rw [bth_snoc _ h4] at h3
  refine ⟨p :: r0, z, (bth p r0 (stp m (spl n) false).2).2, rfl, ⟨p, r0, rfl, h4, ?_⟩, ?_⟩
  · have := congrArg Prod.fst h3
    rw [bst_f] at this
    exact Prod.ext this rfl
  · have := congrArg Prod.snd h3
    rw [bst_2] at this
    exact this.symm
theorem led_right {m n : Nat} {P : List (List (BitVec 8))} {x y : List (BitVec 8)} (h2 : 2 ≤ n) (hm : m ≠ n) (hk : ¬ m ≤ spl n) (h : Led m n P x y) :
    ∃ P0 z r s, P = P0 ++ [z] ∧ Led (m - spl n) (n - spl n) P0 r s ∧ x = nd z r ∧ y = nd z s := by
  obtain ⟨p, r, rfl, h1, h3⟩ := h
  rw [stp_right h2 hm hk] at h1 h3
  simp only [List.length_append, List.length_cons, List.length_nil, Nat.zero_add] at h1
  obtain ⟨r0, z, rfl, h4⟩ := snoc_of h1
  rw [bth_snoc _ h4] at h3
  refine ⟨p :: r0, z, (bth p r0 (stp (m - spl n) (n - spl n) false).2).1, (bth p r0 (stp (m - spl n) (n - spl n) false).2).2, rfl, ⟨p, r0, rfl, h4, rfl⟩, ?_, ?_⟩
  · have := congrArg Prod.fst h3
    rw [bst_t] at this
    exact this.symm
  · have := congrArg Prod.snd h3
    rw [bst_2] at this
    exact this.symm
theorem led_with {m n : Nat} {P : List (List (BitVec 8))} {old rt : List (BitVec 8)} (h : bres old P (stp m n true).1 (stp m n true).2 = some (old, rt)) : Led m n (if (stp m n true).1 then P else old :: P) old rt := by
  rw [stp_2 n m true] at h
  unfold bres at h
  split at h
  · next hc =>
    rw [if_pos hc]
    split at h
    · cases h
    · next p r =>
      split at h
      · next hl => exact ⟨p, r, rfl, hl, Option.some.inj h⟩
      · cases h
  · next hc =>
    rw [if_neg hc]
    split at h
    · next hl => exact ⟨old, P, rfl, hl, Option.some.inj h⟩
    · cases h
theorem pow_and : ∀ j : Fin 7, 2 ^ j.val &&& (2 ^ j.val - 1) = 0 := by decide
theorem pow_not : ∀ j : Fin 6, ∀ m : Fin 64, 2 ^ j.val < m.val → m.val < 2 * 2 ^ j.val → m.val &&& (m.val - 1) ≠ 0 := by decide +kernel
theorem stp_1 (n : Nat) : ∀ m, 1 ≤ m → m ≤ n → n ≤ 60 → ((stp m n true).1 = false ↔ (m = n ∨ m &&& (m - 1) = 0)) := by
  induction n using Nat.strongRecOn with
  | ind n ih =>
  intro m h1 hmn hn
  by_cases hm : m = n
  · rw [hm, stp_same]; simp
  · have h2 : 2 ≤ n := by omega
    have hlt := spl_lt h2
    have hge := spl_ge h2
    obtain ⟨j, hj⟩ : ∃ j, Nat.log2 (n - 1) = j := ⟨_, rfl⟩
    have hs : spl n = 2 ^ j := by unfold spl; rw [hj]
    have hj6 : j < 6 := by
      rcases Nat.lt_or_ge j 6 with h | h
      · exact h
      · have : 2 ^ 6 ≤ 2 ^ j := Nat.pow_le_pow_right (by omega) h
        omega
    by_cases hk : m ≤ spl n
    · rw [stp_left h2 hm hk]
      show (stp m (spl n) true).1 = false ↔ _
      rw [ih _ hlt m h1 hk (by omega)]
      constructor
      · rintro (h | h)
        · right
          rw [h, hs]
          exact pow_and ⟨j, by omega⟩
        · exact .inr h
      · rintro (h | h)
        · exact absurd h hm
        · exact .inr h
    · rw [stp_right h2 hm hk]
      show (stp (m - spl n) (n - spl n) false).1 = false ↔ _
      rw [stp_false]
      constructor
      · intro h; cases h
      · rintro (h | h)
        · exact absurd h hm
        · exact absurd h (pow_not ⟨j, hj6⟩ ⟨m, by omega⟩ (by show 2 ^ j < m; omega) (by show m < 2 * 2 ^ j; omega))
end Go.Proofs.YtfmeeimhfdnjpaaDoor
namespace Go.Proofs.YtfmeeimhfdnjpaaDoor
set_option maxRecDepth 100000
end Go.Proofs.YtfmeeimhfdnjpaaDoor
namespace Go.Proofs.YtfmeeimhfdnjpaaDoor
set_option maxRecDepth 100000
open Go.RowKit
theorem hc_nth {P : List (List (BitVec 8))} {A : Option Addr} {C : Nat} {w : World} {st : List (BitVec 8)} {i : Nat} (h : (Fk.hc P).f (.slice A P.length C) w) (h0 : P[i]? = some st) : ∃ lb lo, A = some ⟨lb, lo, none⟩ ∧ lb < w.heap.size ∧ w.rangeAt lb (lo + i * 32) (st.map V) ∧ st.length = 32 := by
  obtain ⟨A', C', lb, lo, e, hc, hl⟩ := h
  cases e
  have hp : 0 < P.length := by have := (List.getElem?_eq_some_iff.1 h0).1; omega
  obtain ⟨h1, h2⟩ := hl.all i st h0
  refine ⟨lb, lo, hl.ptr hp, hl.lt hp, fun j v hj => ?_, h1⟩
  have hjl : j < st.length := by have := (List.getElem?_eq_some_iff.1 hj).1; simpa using this
  have := h2 j hjl
  rw [this]
  rw [List.getElem?_map, List.getElem?_eq_getElem hjl] at hj
  simp only [Option.map_some, Option.some.injEq] at hj
  rw [← hj]
  simp [V, hjl]
section
variable {S : World → Prop} {o p : Oper} {a : Act} {Q : Exit → Act → World → Prop} {ops : Array Oper} {w : World}
theorem run_idxn {x y : Operand} (ho : o.op = .indexAddr 35 x y) {A : Option Addr} {m C lb lo : Nat} (hx : a.eval x = .slice A m C) (hA : A = some ⟨lb, lo, none⟩) (i : Nat) (hy : a.eval y = .int .i64 (i : Int)) (hm : i < m) : ∀ w, S w → (execOp a.eval o).run Tryd.prog w = .ok (.value (.pointer (some ⟨lb, lo + i * 32, none⟩))) w := by
  intro w _
  subst hA
  have h1 := run_indexAt_slice (P := Tryd.prog) (w := w) 35 ⟨lb, lo, none⟩ m C .i64 (i : Int) (by rw [Tryd.elem35]; exact Tryd.under35')
  rw [if_pos (by omega), Tryd.elem35, Tryd.sizeOf33] at h1
  simp only [Result.andThen_ok, Int.toNat_natCast] at h1
  have h2 : (⟨lb, lo, none⟩ : Addr).add (i * 32) = ⟨lb, lo + i * 32, none⟩ := by simp [Addr.add]
  rw [h2] at h1
  unfold execOp
  rw [ho]
  simp [hx, hy, h1]
end
end Go.Proofs.YtfmeeimhfdnjpaaDoor
